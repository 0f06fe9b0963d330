import PyProof.Rows.All
import Wide.All
import OpenK.AllK
import Wide.FinOn
import Lean
import PyProof.EqAt
import PyProof.EqKinds
import PyProof.TupleCall
import PyProof.NeKinds
import KE.RegKIsAll
import PyProof.ExcClass3
import PySem.SetTable
import PySem.Value
import PyProof.CollectIter
import PyProof.SetKind
import PyProof.Walks
import PyProof.ForAny
import PyProof.FactsAll.set_1
import PyProof.FactsAll.set_2
import PyProof.Rows.SortShellK
import PyProof.ZipIter
import KE.KRevIter
import PyProof.ListNew
import OpenK.KOwn
import PyProof.ConsumeS
import KE.KNestM
import KE.KIsAll
import PyProof.Rows.StrWeight2
import PyProof.DictWalks
import KE.KDictList
import KE.KRevSl
import PySem.Challenge.RW_stakebodies_k25_whole_between_two
set_option Elab.async false
set_option linter.all false
set_option backward.eqns.nonrecursive false
set_option maxRecDepth 100000
set_option maxHeartbeats 4000000
open PySem renaming wpAny_bind → aAa, wpAny_pure → aAb, wpAny_holding → aAN, wpAny_Call_Name_kw → aAT, wpAny_call_entry → aBp, wpAny_specialOf → aBq, wpAny_newObj_type → aBu, wpAny_truthy_bool → aBA, wpAny_seqItems → aBF, codeAny_builtin → aBG, plainId_quiet → aBP, wpAny_setField_rec → aBQ, wpAny_updateSeq → aBS, wpAny_setState_of → aBY, builtinLookup_eq_fast → aCg, wpAny_mono → aCj, wpAny_forIn_list → aCl, wpAny_callSpecial?_slot → aCp, wpAny_field → aCK, wpAny_passesOwn → aCN, wpAny_nextOf_list_item → aDb, wpAny_callSpecialIfBoundUnlessNone?_slot → aDg, typeLookup_type → aDo, wpAny_rule → aDr, wpAny_pyIter_list → aDs, wpAny_isInstance → aDE, codeAny_mono → aDG, wpAny_typeOf → aDI, wpAny_comprehension_free → aDJ, wpAny_standAt → aDM, wpAny_letGo → aEa, wpAny_execs_cons → aEj, wpAny_attempt → aEt, wpAny_execs_nil → aEw, wpAny_loadPart' → aEx, pushCells_keeps → aEy, wpAny_setEntries_of → aEA, slot_dict_contains → aEX, isSubtype_type → aEZ, wpAny_tryCatch → aFa, wpAny_assign_Name → aFd, wpAny_Assign_Name → aFe, slot_list_getitem → aFg, wpAny_pyIter_slot → aFm, sizeLine_eq → aFp, noFill_tuple_add → aFu, beq_builtin_none → aFw, wpAny_askSetting → aFx, concat_meets → aFG, wpAny_newTuple → aFW
open PySem.Heap renaming get?_push_of_some → aAc, lt_size → aAf, get?_push_size → aAp, get?_update_other → aAB, get?_update_self → aBe, size_push → aBw, get?_none_of_le → aEp
open List renaming mem_cons → aAd, mem_cons_of_mem → aAe, getElem?_eq_getElem → aAg, size_toArray → aAk, length_map → aAm, getD_eq_getElem?_getD → aAn, mem_map → aAo, map_cons → aAu, mem_of_getElem? → aAv, length_cons → aAw, getElem?_append_right → aAx, pairwise_cons → aAy, not_mem_nil → aAz, getElem?_eq_some_iff → aAC, mem_append_right → aAD, length_append → aAE, getElem?_map → aAG, nodup_cons → aAJ, reverse_cons → aAK, getElem?_append_left → aAO, mem_cons_self → aAP, mem_append → aAS, lookup_cons → aAU, cons_append → aAV, getElem_of_mem → aAZ, mem_map_of_mem → aBa, getLast?_cons_cons → aBf, map_map → aBj, mem_singleton → aBl, getElem?_replicate → aBm, length_nil → aBo, getElem_mem → aBr, mem_flatMap → aBs, range → aBt, getElem?_zip_eq_some → aBy, lookup_cons_self → aBz, mem_append_left → aBB, dropLast_concat → aBC, getElem?_set_self → aBD, getElem?_eq_none_iff → aBE, length_take → aBI, pairwise_map → aBK, mem_filterMap → aBL, zip_cons_cons → aBM, forall_mem_cons → aBT, all_eq_true → aBU, nodup_iff_pairwise_ne → aBW, length_reverse → aCa, pairwise_iff_getElem → aCc, length_replicate → aCe, map_append → aCh, eq_nil_of_length_eq_zero → aCn, getElem?_set_ne → aCo, mem_range → aCr, filterMap_cons → aCu, append_nil → aCv, nil_append → aCx, replicate_succ → aCy, replicate_zero → aCz, getElem?_toArray → aCE, set → aCF, set_cons_succ → aCG, set_cons_zero → aCH, replicate → aCI, nodup_nil → aCL, forIn_cons → aCQ, nodup_append → aCR, getElem?_cons_zero → aCU, getElem?_cons_succ → aCV, mem_reverse → aCY, take_of_length_le → aCZ, filterMap_map → aDc, map → aDf, mem_filter → aDh, map_nil → aDk, mem_iff_getElem? → aDn, perm_ext_iff_of_nodup → aDv, mem_of_mem_drop → aDw, drop_eq_getElem_cons → aDz, length_drop → aDC, length_pos_iff → aDF, of_mem_zip → aDN, pairwise_singleton → aDP, foldl_cons → aDR, sum_cons → aDU, length_pos_of_mem → aDX, ext_getElem? → aDZ, forIn_nil → aEb, dropLast_eq_take → aEd, pairwise_reverse → aEf, getElem?_eq_none → aEg, any_eq_true → aEm, zipIdx_cons → aEn, getElem_map → aEo, mem_of_getLast? → aEq, mem_of_mem_take → aEs, zipIdx_nil → aED, map_congr_left → aEF, exists_cons_of_ne_nil → aEI, head?_reverse → aER, getLast?_cons → aES, mem_of_find?_eq_some → aEY, exists_mem_of_ne_nil → aFc, append_assoc → aFi, length_erase_of_mem → aFl, eraseIdx_cons_succ → aFq, map_reverse → aFA, range_succ_eq_map → aFC, drop_eq_nil_of_le → aFE, length_set → aFH, take_append_drop → aFI, length_dropLast → aFO, mem_erase_of_ne → aFS, drop_zero → aFV, all_cons → aGd
open Nat renaming le_refl → aAh, ne_of_lt → aAl, lt_of_lt_of_le → aAr, le_trans → aAs, zero_le → aAY, lt_irrefl → aBc, lt_succ_of_lt → aBx, le_of_succ_le → aCt, ne_of_gt → aCD, lt_of_le_of_lt → aDd, lt_or_eq_of_le → aDe, le_of_lt → aDi, lt_succ_self → aDD, reduceAdd → aDV, reduceSub → aDW, mod_lt → aDY, mul_le_mul → aEc, le_of_eq → aEe, le_of_not_lt → aEk, min_eq_left → aEC, zero_add → aEV, le_of_lt_succ → aFn, gcd_dvd_left → aFv, le_add_right → aFy, not_lt_zero → aFK, lt_trans → aGo, succ_pos → aGq
open False renaming elim → aAi
open Option.some renaming inj → aAj, injEq → aGj
open Int renaming mul_eq_zero → aAq, le_of_lt → aAF, mul_le_mul_of_nonneg_left → aAI, mul_le_mul_of_nonneg_right → aBd, mul_nonneg → aBg, mul_pos → aBh, mul_neg_of_pos_of_neg → aBi, toNat_natCast → aBZ, eq_of_mul_eq_mul_left → aCb, le_refl → aCm, neg_mul_neg → aDm, lt_or_le → aDp, fdiv_eq_ediv_of_nonneg → aDu, mul_zero → aDK, mul_nonpos_of_nonneg_of_nonpos → aDL, mul_ediv_cancel' → aEr, mul_assoc → aEu, toNat → aEB, mul_lt_mul_of_pos_left → aEK, le_of_mul_le_mul_right → aEL, fmod_eq_emod_of_nonneg → aEM, natAbs_eq_zero → aET, ofNat_dvd_left → aEU, le_of_mul_le_mul_left → aFb, neg_nonneg_of_nonpos → aFj, mul_ediv_cancel_left → aFo, reduceMul → aFt, gcd → aGl, le_total → aGn, mul_comm → aGr
open Bool renaming false_eq_true → aAt, and_eq_true → aAM, false_ne_true → aAQ, not_true → aCW, eq_iff_iff → aDl, and_false → aFU
open Array renaming getElem?_toList → aAA, getElem?_eq_getElem → aAH, length_toList → aAW, getElem?_eq_some_iff → aBX, forIn_toList → aCk, getElem?_eq_none → aCA, replicate → aEz, perm_iff_toList_perm → aEJ, getD → aFk, toList → aFF, getElem_toList → aFT, toList_append → aGa
open PySem.Builtin.Tuple renaming tupleHashOf → aAL, tupleExact → aCO, tupleItemsOf → aDt
open PySem.Builtin.Int renaming intBits → aAR
open PyProof.Rows renaming callWith_type1 → aAX, wpS_bind → aBn, wpS_pure → aCd, slot_tuple_getitem → aCs, callWith_builtin1 → aCT, wpS_forRange → aEh, listItems_at → aEi, envOfC → aEG, assignInOrder_cons → aEN, pairsOf_size → aEW, KK_mirror_equal → aFJ, mirror_perm → aFY, wpS_reverse → aFZ
open PySem.PassesOwn renaming never → aBb
open PySem.Around renaming under_plainId → aBk, frames_deeper → aFN
open PySem.Obj renaming mapSeq → aBv, putSet → aEv
open PySem.Builtin.SmallTypes renaming nextOf → aBH, ownedTupleIsFree → aBJ, ownedTupleHandOut → aDB
open Or renaming inr → aBN, inl → aCM
open PySem.NameKind renaming cell → aBO
open PySem.Builtin.List renaming listExtendWith → aBR, listLengthHint → aCw, listItems → aCB, listTooLong → aCP, listSameRef → aCS, listTouch → aFD
open Ne renaming symm → aBV
open ForInStep renaming yield → aCf
open PySem.Value renaming type → aCi, bool → aDq, ref → aDx, builtin → aGe, int → aGt
open PySem.Builtin.Range renaming rangeSize → aCq, small → aFX
open PySem.F renaming plain_min_loop → aCC, plain_extend_loop → aCX, slot_zip_next → aDT, entry_min_loop → aFz
open PySem.Builtin.Slice renaming slicePlaces → aCJ, sliceAdjust → aDy, sliceApplied → aEH
open Option renaming map_eq_some_iff → aDa, isSome_iff_exists → aDH
open PySem.Str renaming ofString → aDj
open PySem.SetTable renaming below → aDA, bits → aDQ, fits → aGf, insertAt → aGm, tooFull → aGs
open PySem.SeqAt.EqAt renaming same → aDO, int_int → aEP, of_refs → aEQ, int_tuple → aFP, tuple_int → aFQ, int_str → aGb, str_int → aGc
open Classical renaming propDecidable → aDS
open PySem.Builtin.Builtins renaming bindParams → aEE
open PySem.Calls renaming spliced_cons → aEO, spliced_nil → aFf, callWith_builtin → aFB
open PySem.Heap.SameBut renaming refl → aFh
open PySem.Moved renaming trans → aFr
open PySem.Builtin.Frozenset renaming slot0 → aFs
open List.cons renaming injEq → aFL
open Prod renaming ext → aFM
open List.Pairwise renaming filter → aFR, nil → aGk
open Function renaming comp → aGg
open Sum renaming inl → aGh, inr → aGi
open PySem.pickOrder renaming go → aGp
open Array.Perm renaming refl → aGu
abbrev C5:=PySem.Value->PySem.Shared->Prop
abbrev M2:=List (PySem.Addr×PySem.Obj)
abbrev bX:=PySem.Str->Option PySem.Value
abbrev vO:=Bool->PySem.Shared->Prop
noncomputable section
namespace L2
open PySem PySem.Spec PyProof.Rows
abbrev yE:=Sum Int Str
def MJ:yE->Value->Bool
 |.inl k,v=>Value.isInt k v
 |.inr x,v=>Value.isStrOf x v
def yj (w:World):yE->Int
 |.inl k=>hashInt k
 |.inr x=>hashStr w x
theorem z8:∀{k:yE} {v:Value},MJ k v=true->(∃i t,k=aGh i/\v=aGt i t)\/(∃x t,k=aGi x/\v=Value.str x t)
 |.inl i,v,h=>by obtain⟨t,e⟩:=Value.isInt_shape (k:=i) (v:=v) h;exact .inl ⟨i,t,rfl,e⟩
 |.inr x,v,h=>by obtain⟨t,e⟩:=Value.isStrOf_shape (x:=x) (v:=v) h;exact .inr ⟨x,t,rfl,e⟩
def WQ (a b:Int):decide ((aGh a:yE)=aGh b)=(a==b):=by
 by_cases e:a=b
 ·subst e;simp
 ·have h:¬(aGh a:yE)=aGh b:=λq=>e (Sum.inl.inj q);rw[decide_eq_false h];exact(beq_eq_false_iff_ne.mpr e).symm
def XY (a b:Str):decide ((aGi a:yE)=aGi b)=decide (a=b):=by
 by_cases e:a=b
 ·subst e;simp
 ·have h:¬(aGi a:yE)=aGi b:=λq=>e (Sum.inr.inj q);rw[decide_eq_false h,decide_eq_false e]
def VM (a:Int)(b:Str):decide ((aGh a:yE)=aGi b)=false:=decide_eq_false (λq=>nomatch q)
def WS (a:Str)(b:Int):decide ((aGi a:yE)=aGh b)=false:=decide_eq_false (λq=>nomatch q)
def sT (prog:Program)(w:World):PySem.KeyKind prog w yE where
 is:=MJ
 hash:=yj w
 inj:=λv a b ha hb=>by
  rcases z8 ha with⟨i,t,rfl,rfl⟩|⟨x,t,rfl,rfl⟩
  ·rcases z8 hb with⟨j,u,rfl,e⟩|⟨y,u,rfl,e⟩
   ·injection e with e1 _;rw[e1]
   ·exact nomatch e
  ·rcases z8 hb with⟨j,u,rfl,e⟩|⟨y,u,rfl,e⟩
   ·exact nomatch e
   ·injection e with e1 _;rw[e1]
 byValue:=λk v h=>by rcases z8 h with⟨i,t,rfl,rfl⟩|⟨x,t,rfl,rfl⟩<;>rfl
 pyHash:=λhv h=>by
  rcases z8 hv with⟨i,t,rfl,rfl⟩|⟨x,t,rfl,rfl⟩
  ·exact wpAny_pyHash_int h
  ·exact wpAny_pyHash_str h
 eqBool:=λhu hv h=>by
  rcases z8 hu with⟨i,t,rfl,rfl⟩|⟨x,t,rfl,rfl⟩
  ·rcases z8 hv with⟨j,u,rfl,rfl⟩|⟨y,u,rfl,rfl⟩
   ·rw[WQ]at h;exact wpAny_eqBool_int h
   ·rw[VM]at h;exact aGb i t y u _ _ _ _ h
  ·rcases z8 hv with⟨j,u,rfl,rfl⟩|⟨y,u,rfl,rfl⟩
   ·rw[WS]at h;exact aGc x t j u _ _ _ _ h
   ·rw[XY]at h;exact wpAny_eqBool_str h
 «strs»:=λk x t v h=>by
  rcases z8 h with⟨i,u,rfl,e⟩|⟨y,u,rfl,e⟩
  ·exact nomatch e
  ·injection e with e1 _;subst e1;cases v<;>rfl
def UX (prog:Program)(w:World)(k:yE)(v:Value):(sT prog w).is k v=MJ k v:=rfl
end L2
namespace L2
open PySem PySem.Spec PyProof.Rows
inductive V where
 |non|bl (b:Bool)|int (i:Int)|str (x:Str)|byt (b:Array UInt8)|flt (b:UInt64)|ref (a:Addr)|ty (n:String)
 deriving DecidableEq
def RelV:V->Value->Prop
 |.non,u=>u=Value.none
 |.bl b,u=>u=aDq b
 |.int i,u=>∃t,u=aGt i t
 |.str x,u=>∃t,u=Value.str x t
 |.byt b,u=>∃t,u=Value.bytes b t
 |.flt b,u=>∃t,u=Value.float b t
 |.ref a,u=>u=aDx a
 |.ty n,u=>u=aCi n
abbrev l6:List V->List Value->Prop:=Paired RelV
def l6.length {xs:List V}{us:List Value}(r:l6 xs us):xs.length=us.length:=Paired.length r
theorem l6.get:∀{xs:List V} {us:List Value} {i:Nat} {x:V},l6 xs us->xs[i]?=some x->∃u,us[i]?=some u/\RelV x u
 |_,_,_,_,.nil,e=>by simp at e
 |_,_,0,_,.cons r _,e=>by simp at e;subst e;exact⟨_,rfl,r⟩
 |_,_,i+1,x,.cons _ t,e=>by obtain⟨u,h1,h2⟩:=l6.get (i:=i) (x:=x) t (by simpa using e);exact⟨u,by simpa using h1,h2⟩
theorem l6.set (r:RelV x u):∀{xs:List V} {us:List Value} (i:Nat),l6 xs us->l6 (xs.set i x) (us.set i u)
 |_,_,_,.nil=>.nil
 |_,_,0,.cons _ t=>.cons r t
 |_,_,i+1,.cons q t=>.cons q (l6.set r i t)
theorem l6.append:∀{xs ys:List V} {us ws:List Value},l6 xs us->l6 ys ws->l6 (xs++ys) (us++ws)
 |_,_,_,_,.nil,s=>s
 |_,_,_,_,.cons r t,s=>.cons r (l6.append t s)
theorem l6.take:∀{xs:List V} {us:List Value} (n:Nat),l6 xs us->l6 (xs.take n) (us.take n)
 |_,_,0,_=>.nil
 |_,_,_+1,.nil=>.nil
 |_,_,n+1,.cons r t=>.cons r (l6.take n t)
theorem l6.drop:∀{xs:List V} {us:List Value} (n:Nat),l6 xs us->l6 (xs.drop n) (us.drop n)
 |_,_,0,r=>r
 |_,_,_+1,.nil=>.nil
 |_,_,n+1,.cons _ t=>l6.drop n t
def ZN:Option V->Option Value->Prop
 |some v,some u=>RelV v u
 |none,none=>True
 |_,_=>False
def KV {κ:Type}:List (κ×V)->List (κ×Value)->Prop:=Paired λ(p:κ×V) (q:κ×Value)=>p.1=q.1/\RelV p.2 q.2
def kV:yE->V
 |.inl i=>.int i
 |.inr x=>.str x
inductive HO where
 |lst (xs:List V)
 |tup (xs:List V)
 |dK (kvs:List (yE×V))|dT (kvs:List (List yE×V))
 |set (S:Int->Bool) (n:Nat)
 |ins (C dx:Addr) (fs:List (Str×V))
 |own (x:Addr)
 |xd (fs:List (Str×V))
 |met (f x:Addr)
 |rng (lo hi:Int)
 |frz (o:Obj) (u:HO)
 |tbl (tb:List (Pos×Str))
 |ext (φ:Heap->Prop)
abbrev Hp:=Addr->Option HO
def upd (H:Hp)(a:Addr)(o:HO):Hp:=λb=>if b=a then some o else H b
def j3:upd H a o a=some o:=by unfold upd;rw[if_pos rfl]
def j8 (h:b≠a):upd H a o b=H b:=by unfold upd;rw[if_neg h]
def q9 {H:Hp}{a b:Addr}{o:HO}(h:H a=some o)(h':H b=none):a≠b:=by intro e;subst e;rw[h]at h';cases h'
section
variable(P:Program) (w:World)
def ObjOk (H:Hp)(h:Heap)(a:Addr):HO->Prop
 |.lst xs=>xs.length<=sizeLine/\∃(its:List Value) (n:Nat),l6 xs its/\h.get? a=some {cls:=.type "list",data:=.seq its.toArray n}
 |.tup xs=>xs.length<=sizeLine/\∃its:List Value,l6 xs its/\IsTup h a its.toArray
 |.dK kvs=>kvs.length<=sizeLine/\(a==sysModules)=false/\∃vs,KV kvs vs/\h.DictOf (sT P w) a vs
 |.dT kvs=>kvs.length<=sizeLine/\(a==sysModules)=false/\∃xs:List (List yE×Addr×Value),
  Paired (λ(p:List yE×V) (q:List yE×Addr×Value)=>p.1=q.1/\H q.2.1=some (.tup (p.1.map kV))/\RelV p.2 q.2.2) kvs xs/\
  ∃o es ep,h.get? a=some o/\o.ExactDict/\o.data=.dict es ep/\es.toList=xs.map (entryOfKey<|tupleKind<|sT P w)/\(xs.map (·.1)).Nodup
 |.set S n=>h.SetOf (intKind P w) a S n
 |.ins C dx fs=>H dx=some (.own a)/\fs.length<=1000/\dx≠a/\h.get? a=some (PySem.W.instObj C dx)/\
  ∃mA,h.Ns1 dx mA/\(∀f,ZN (fs.lookup f) (mA f))/\PySem.Within mA (fs.map (·.1))
 |.own _=>∃o,h.get? a=some o
 |.xd fs=>∃mA,h.Ns1 a mA/\∀f,ZN (fs.lookup f) (mA f)
 |.rng lo hi=>∃t u v,h.get? a=some {cls:=.type "range",data:=.fields #[.int lo t,.int hi u,.int 1 v]}
 |.frz o u=>h.get? a=some o/\ObjOk H h a u
 |.tbl tb=>∃ps:Array Value,h.get? a=some {cls:=.none,data:=.fields ps}/\TriplesOk ps.toList/\∀p∈tb,codeAmong p.1 ps.toList=none\/∃c oc vs t,codeAmong p.1 ps.toList=some (.ref c)/\H c=some (.frz oc (.own c))/\oc.data=.fields vs/\vs[1]?=some (.str p.2 t)
 |.met f x=>h.get? a=some (PySem.W.methodObj (.ref f)<|.ref x)
 |.ext φ=>φ h/\(∃o,h.get? a=some o)/\∀h1 h2:Heap,φ h1->(∀o,h1.get? a=some o->h2.get? a=some o)->φ h2
def UB:HO->Prop
 |.tup _=>True
 |.frz o _=>∃vs,o.data=.fields vs
 |_=>False
def fF (H:Hp)(h:Heap):Prop:=∀a o,H a=some o->ObjOk P w H h a o
end
section
variable{P:Program} {w:World} {H H':Hp} {h h':Heap} {a:Addr} {o:HO}
def ObjOk.lt (x:ObjOk P w H h a o):a<h.objs.size:=by
 cases o with
 |lst xs=>obtain⟨_,_,_,_,e⟩:=x;exact aAf e
 |tup xs=>obtain⟨_,_,_,p⟩:=x;exact p.lt
 |dK kvs=>obtain⟨_,_,_,_,o,_,_,e,_⟩:=x;exact aAf e
 |dT kvs=>obtain⟨_,_,_,_,o,_,_,e,_⟩:=x;exact aAf e
 |set S n=>obtain⟨o,_,_,_,e,_⟩:=x;exact aAf e
 |ins C dx fs=>obtain⟨_,_,_,e,_⟩:=x;exact aAf e
 |own y=>obtain⟨_,e⟩:=x;exact aAf e
 |xd fs=>obtain⟨_,⟨_,_,_,e,_⟩,_⟩:=x;exact aAf e
 |rng lo hi=>obtain⟨_,_,_,e⟩:=x;exact aAf e
 |frz ob u=>obtain⟨e,_⟩:=x;exact aAf e
 |tbl tb=>obtain⟨_,e,_⟩:=x;exact aAf e
 |met f y=>exact aAf (show h.get? a=some _ from x)
 |ext φ=>obtain⟨_,⟨_,e⟩,_⟩:=x;exact aAf e
theorem Paired.af2 {α β:Type}{F G:α->β->Prop}:∀{l₁:List α} {l₂:List β},Paired F l₁ l₂->(∀a b,F a b->G a b)->Paired G l₁ l₂
 |_,_,.nil,_=>.nil
 |_,_,.cons r t,f=>.cons (f _ _ r) (Paired.af2 t f)
def ObjOk.ab7 (x:ObjOk P w H h a o)(k:∀b u,(b=a\/H b=some (.own a))->h.get? b=some u->h'.get? b=some u)
  (ho:∀b,H b=some (.own a)->H' b=some (.own a)) (ht:∀b u,UB u->H b=some u->H' b=some u):ObjOk P w H' h' a o:=by
 induction o with
 |lst xs=>obtain⟨z,its,n,r,e⟩:=x;exact⟨z,its,n,r,k _ _ (.inl rfl) e⟩
 |tup xs=>obtain⟨z,its,r,ob,e,c⟩:=x;exact⟨z,its,r,ob,k _ _ (.inl rfl) e,c⟩
 |dK kvs=>obtain⟨z,y,vs,r,ob,es,ep,e,c⟩:=x;exact⟨z,y,vs,r,ob,es,ep,k _ _ (.inl rfl) e,c⟩
 |dT kvs=>obtain⟨z,y,xs,r,ob,es,ep,e,c⟩:=x;exact⟨z,y,xs,Paired.af2 r λp q z=>⟨z.1,ht _ _ trivial z.2.1,z.2.2⟩,ob,es,ep,k _ _ (.inl rfl) e,c⟩
 |set S n=>obtain⟨ob,es,ep,t,e,c⟩:=x;exact⟨ob,es,ep,t,k _ _ (.inl rfl) e,c⟩
 |ins C dx fs=>obtain⟨d,z,ne,e,mA,⟨od,es,ep,e2,c⟩,r⟩:=x;exact⟨ho _ d,z,ne,k _ _ (.inl rfl) e,mA,⟨od,es,ep,k _ _ (.inr d) e2,c⟩,r⟩
 |own y=>obtain⟨ob,e⟩:=x;exact⟨ob,k _ _ (.inl rfl) e⟩
 |xd fs=>obtain⟨mA,⟨od,es,ep,e,c⟩,r⟩:=x;exact⟨mA,⟨od,es,ep,k _ _ (.inl rfl) e,c⟩,r⟩
 |rng lo hi=>obtain⟨t,u,v,e⟩:=x;exact⟨t,u,v,k _ _ (.inl rfl) e⟩
 |frz ob u ih=>obtain⟨e,q⟩:=x;exact⟨k _ _ (.inl rfl) e,ih q⟩
 |tbl tb=>obtain⟨ps,e,t,f⟩:=x;exact⟨ps,k a _ (.inl rfl) e,t,λp hp=>(f p hp).imp id λ⟨c,oc,vs,t,e1,e2,e3⟩=>⟨c,oc,vs,t,e1,ht _ _ ⟨vs,e3.1⟩ e2,e3⟩⟩
 |met f y=>have e:h.get? a=some (PySem.W.methodObj (.ref f)<|.ref y):=x;show h'.get? a=some (PySem.W.methodObj (.ref f)<|.ref y);exact k a _ (.inl rfl) e
 |ext φ=>obtain⟨p,⟨o,e⟩,st⟩:=x;exact⟨st _ _ p λo q=>k _ _ (.inl rfl) q,⟨o,k _ _ (.inl rfl) e⟩,st⟩
def fF.lt (x:fF P w H h)(e:H a=some o):a<h.objs.size:=(x a o e).lt
def fF.fresh (x:fF P w H h)(e:h.objs.size<=a):H a=none:=by
 cases q:H a with
 |none=>rfl
 |some u=>exact absurd (aAr (x.lt q) e) (aBc _)
def fF.kept (x:fF P w H h)(k:∀b u,h.get? b=some u->h'.get? b=some u):fF P w H h':=λa o e=>(x a o e).ab7 (λb u _ q=>k b u q) (λ_ q=>q) λ_ _ _ q=>q
def fF.laid (x:fF P w H h)(k:∀b u,h.get? b=some u->h'.get? b=some u)(hp:h.objs.size<=a)(new:ObjOk P w (upd H a o) h' a o):fF P w (upd H a o) h':=λb u e=>by
 have hn:=x.fresh hp;by_cases hb:b=a
 ·subst hb;rw[j3]at e;cases e;exact new
 ·rw[j8 hb]at e;exact(x b u e).ab7 (λc v _ q=>k c v q) (λc q=>by rw[j8 (q9 q hn)];exact q) λc xs _ q=>by rw[j8 (q9 q hn)];exact q
end
def Rd (H:Hp)(a:Addr)(u:HO):Prop:=H a=some u\/∃o,H a=some (.frz o u)
def Rd.ok (r:Rd H a u)(x:fF P w H h):ObjOk P w H h a u:=by
 rcases r with r|⟨o,r⟩
 ·exact x a u r
 ·obtain⟨_,q⟩:=x a _ r;exact q
def jq:Option HO->Prop
 |some (.lst _)=>True
 |some (.dK _)=>True
 |some (.dT _)=>True
 |some (.set _ _)=>True
 |some (.ins _ _ _)=>True
 |some (.ext _)=>True
 |_=>False
section
variable{P:Program} {w:World} {H:Hp} {h h':Heap} {x e:Addr} {o':HO}
def fF.write (ok:fF P w H h)(mu:jq (H x))(he:e=x\/H e=some (.own x))(k:∀b u,b≠e->h.get? b=some u->h'.get? b=some u)(heo:∃u,h'.get? e=some u)
  (new:ObjOk P w (upd H x o') h' x o'):fF P w (upd H x o') h':=λb u q=>by
 have nown:∀c y,H c=some (.own y)->c≠x:=λc y r z=>by subst z;rw[r]at mu;exact mu
 have ntup:∀c u,UB u->H c=some u->c≠x:=λc u f r z=>by subst z;rw[r]at mu;cases u<;>first|exact mu|exact f
 by_cases hb:b=x
 ·subst hb;rw[j3]at q;cases q;exact new
 ·rw[j8 hb]at q;by_cases xp:b=e
  ·have q':H b=some (.own x):=by
    rcases he with z|z
    ·exact absurd (xp.trans z) hb
    ·rw[xp];exact z
   rw[q]at q';cases q';obtain⟨v,hv⟩:=heo;exact⟨v,by rw[xp];exact hv⟩
  ·refine(ok b u q).ab7 (λc v hc r=>k c v ?_ r) (λc r=>by rw[j8 (nown c b r)];exact r) λc xs f r=>by rw[j8 (ntup c xs f r)];exact r
   rcases hc with rfl|hc
   ·exact xp
   ·rintro rfl;rcases he with z|z
    ·exact nown c b hc z
    ·rw[hc]at z;cases z;exact hb rfl
end
structure Un (fs ex:List Addr)(H H':Hp)(h h':Heap):Prop where
 keep:∀b o,h.get? b=some o->H b=none->b∉fs->b∉ex->h'.get? b=some o
 slot:∀b o,h.get? b=some o->H b=none->b∈fs->b∉ex->∃sl,h'.get? b=some {o with slots:=sl}
 free:∀b o,h.get? b=some o->H b=none->b∉ex->H' b=none
 there:∀b o,h.get? b=some o->b∉ex->∃o',h'.get? b=some o'
 tups:∀b xs,H b=some (.tup xs)->H' b=some (.tup xs)
 frzs:∀b o u,H b=some (.frz o u)->H' b=some (.frz o u)
 tbls:∀b tb,H b=some (.tbl tb)->H' b=some (.tbl tb)
section
variable{fs wc ex ex':List Addr} {H H1 H2:Hp} {h h1 h2 h':Heap} {a x e:Addr} {o:HO}
def Un.any (u:Un fs ex H H1 h h1)(q:h.get? b=some ob)(n:H b=none)(hx:b∉ex):∃sl,h1.get? b=some {ob with slots:=sl}:=by
 by_cases hb:b∈fs
 ·exact u.slot b ob q n hb hx
 ·exact⟨ob.slots,u.keep b ob q n hb hx⟩
def Un.kept (k:∀b u,h.get? b=some u->h'.get? b=some u):Un fs ex H H h h':=
 ⟨λb ob q _ _ _=>k b ob q,λb ob q _ _ _=>⟨ob.slots,k b ob q⟩,λ_ _ _ n _=>n,λb ob q _=>⟨ob,k b ob q⟩,λ_ _ q=>q,λ_ _ _ q=>q,λ_ _ q=>q⟩
def Un.refl:Un fs ex H H h h:=Un.kept λ_ _ q=>q
def Un.laid (k:∀b u,h.get? b=some u->h'.get? b=some u)(hp:h.objs.size<=a)(hn:H a=none):Un fs ex H (upd H a o) h h' where
 keep:=λb u q _ _ _=>k b u q
 slot:=λb u q _ _ _=>⟨u.slots,k b u q⟩
 free:=λb u q n _=>by rw[j8 (aAl<|aAr (aAf q) hp)];exact n
 there:=λb u q _=>⟨u,k b u q⟩
 tups:=λb xs q=>by rw[j8 (q9 q hn)];exact q
 frzs:=λb u xs q=>by rw[j8 (q9 q hn)];exact q
 tbls:=λb ps q=>by rw[j8 (q9 q hn)];exact q
def Un.write (mu:jq (H x))(he:e=x\/H e=some (.own x))(k:∀b u,b≠e->h.get? b=some u->h'.get? b=some u)(heo:∃u,h'.get? e=some u):Un fs ex H (upd H x o) h h':=by
 have hx:∀b,H b=none->b≠x:=λb n z=>by subst z;rw[n]at mu;exact mu
 have hb:∀b,H b=none->b≠e:=λb n z=>by
  subst z;rcases he with r|r
  ·exact hx b n r
  ·rw[n]at r;cases r
 have hm:∀b u,H b=some u->¬jq (some u)->b≠x:=λb u q nm z=>by subst z;rw[q]at mu;exact nm mu
 refine⟨λb u q n _ _=>k b u (hb b n) q,λb u q n _ _=>⟨u.slots,k b u (hb b n) q⟩,λb u q n _=>by rw[j8 (hx b n)];exact n,λb u q _=>?_,
  λb xs q=>by rw[j8 (hm b _ q λz=>z)];exact q,λb u xs q=>by rw[j8 (hm b _ q λz=>z)];exact q,λb ps q=>by rw[j8 (hm b _ q λz=>z)];exact q⟩
 by_cases xp:b=e
 ·subst xp;exact heo
 ·exact⟨u,k b u xp q⟩
end
def trk (h:Heap)(H:Hp):List Addr:=(aBt h.objs.size).filter λa=>(H a).isSome
def qK (h:Heap)(H:Hp):Heap:=PySem.W.hideAll h (trk h H)
def FI (h:Heap)(H:Hp):(qK h H).objs.size=h.objs.size:=PySem.W.hideAll_size _ _
def JR (e:h.get? b=some o)(n:H b=none):(qK h H).get? b=some o:=
 PySem.W.hideAll_get _ e λhm=>by have q:(H b).isSome=true:=(aDh.mp hm).2;rw[n]at q;simp at q
def OT (e:(qK h H).get? b=some o):h.get? b=some o/\H b=none:=by
 have e':h.get? b=some o:=PySem.W.of_hideAll (trk h H) e;refine⟨e',?_⟩;cases q:H b with
 |none=>rfl
 |some x=>have hm:b∈trk h H:=aDh.mpr ⟨aCr.mpr (aAf e'),by simp[q]⟩;have z:(qK h H).get? b=none:=PySem.W.hideAll_none (trk h H) hm;rw[z]at e;cases e
def QS (g h:Heap)(L:Addr):List (Addr×Obj):=(aBt h.objs.size).filterMap λa=>if a=L\/(g.get? a).isSome=true then none else(h.get? a).map λo=>(a,o)
def rest (g h:Heap)(L d:Addr):List (Addr×Obj):=(QS g h L).filter λp=>decide (p.1≠d)
end L2
namespace L2
open PySem PySem.Spec PyProof.Rows
structure Mod (K:PySem.W.Frag)(mg:bX)(base:Heap):Prop where
 kin:K.In base
 glob:base.Ns mainGlobals mg
 blt:∃mb,base.Ns builtinsNs mb/\∀x:Str,x≠ "__name__"->mb x=bootBuiltins x
 nolimit:base.NoLimit
structure Cx where
 prog:Program
 w:World
 K:PySem.W.Frag
 mg:Str->Option Value
 base:Heap
 A:Around
 N:List Str
 s9:Shared
 H9:Hp
 env:Env
 outer:List Env
 stack:List Env
 ex:List Addr
 fn:Str->Bool
 calm:Bool
 pn:List (Addr×Obj)
 xe:Value->Shared->Prop
def xD (l:List Env):List Addr:=l.filterMap (·.frame)
abbrev Cx.fs (X:Cx):List Addr:=xD X.outer
def AR (sc:Scope)(x:Str):Prop:=sc.names.lookup x=some .local\/sc.names.lookup x=some .cell\/sc.names.lookup x=some .free
def Loc (sc:Scope)(x:Str):Prop:=sc.names.lookup x=some .local\/sc.names.lookup x=some .cell
def Look (env:Env)(h:Heap)(m:bX)(x:Str)(u:Value):Prop:=
 (env.kindOf x=some .local/\m x=some u)\/((env.kindOf x=some .cell\/env.kindOf x=some .free)/\∃c,env.cells.lookup x=some c/\h.IsCell c (some u))
structure Cx.Ok (X:Cx):Prop where
 mod:Mod X.K X.mg X.base
 kind:X.env.scope.kind=.function
 glob:X.env.globals=mainGlobals
 blt:X.env.builtins=builtinsNs
 above:X.s9.heap.objs.size<=X.env.locals
 inj:∀x y c,X.env.cells.lookup x=some c->X.env.cells.lookup y=some c->x=y
 has:∀x,(X.env.kindOf x=some .cell\/X.env.kindOf x=some .free)->∃c,X.env.cells.lookup x=some c
 cab:∀x c,X.fn x=true->X.env.cells.lookup x=some c->X.s9.heap.objs.size<=c
 hd:X.calm=true->X.A.handled=none
 frames:X.A.frames=some X.stack
 stk:X.stack=X.outer\/(X.stack=X.env::X.outer/\X.env.frame=some X.env.locals)
 exf:∀b∈X.ex,b≠X.env.locals/\∀x c,X.env.cells.lookup x=some c->c≠b
 bs:∀b o,X.base.get? b=some o->X.s9.heap.get? b=some o/\X.H9 b=none
 bsz:X.base.objs.size<=X.s9.heap.objs.size
 noex:∀b o,X.base.get? b=some o->b∉X.ex
 exfs:∀b∈X.ex,b∉X.fs
 funs:X.s9.heap.FunFrames X.base X.outer
 frf:∀b∈X.fs,X.H9 b=none
structure Inv (X:Cx)(pins:M2)(σ:List (Option V))(H:Hp)(s:Shared):Prop where
 ok:X.Ok
 os:s.os=X.s9.os
 bare:AllBare s.gens
 base:Un X.fs X.ex X.H9 H X.s9.heap s.heap
 loc:∃m,s.heap.Ns X.env.locals m/\∀(i:Nat) (x:Str) (v:V),X.N[i]?=some x->σ[i]?=some (some v)->AR X.env.scope x->∃u,RelV v u/\Look X.env s.heap m x u
 cell:∀x c,X.env.cells.lookup x=some c->∃v,s.heap.IsCell c v
 free:H X.env.locals=none
 freeC:∀x c,X.env.cells.lookup x=some c->H c=none
 pin:∀p∈X.pn++pins,s.heap.get? p.1=some p.2/\H p.1=none/\p.1≠X.env.locals/\p.1∉X.fs/\∀v,p.2.data≠.cell v
 hok:fF X.prog X.w H s.heap
 len:σ.length=X.N.length
section
variable{X:Cx} {pins:M2} {σ:List (Option V)} {H H':Hp} {s:Shared} {h':Heap}
def Cx.Ok.nofr (ok:X.Ok)(e:X.base.get? b=some o):b∉X.fs:=λhb=>by have:=(ok.funs.mem hb).1;rw[e]at this;cases this
def Inv.bs (I:Inv X pins σ H s):∀b o,X.base.get? b=some o->s.heap.get? b=some o/\H b=none:=λb o e=>⟨I.base.keep b o (I.ok.bs b o e).1 (I.ok.bs b o e).2 (I.ok.nofr e) (I.ok.noex b o e),I.base.free b o (I.ok.bs b o e).1 (I.ok.bs b o e).2 (I.ok.noex b o e)⟩
def Inv.bk (I:Inv X pins σ H s):∀b o,X.base.get? b=some o->s.heap.get? b=some o:=λb o e=>(I.bs b o e).1
def Inv.mod (I:Inv X pins σ H s):Mod X.K X.mg X.base:=I.ok.mod
def Inv.kIn (I:Inv X pins σ H s):X.K.In s.heap:=I.ok.mod.kin.keeps I.bk
def Inv.lt (I:Inv X pins σ H s):X.env.locals<s.heap.objs.size:=let⟨_,hn,_⟩:=I.loc;hn.lt
def Inv.sz (I:Inv X pins σ H s):X.s9.heap.objs.size<=s.heap.objs.size:=aAs I.ok.above (aDi I.lt)
def Inv.ag1 (I:Inv X pins σ H s)(h:s.heap.objs.size<=a):a∉X.fs:=λhb=>by obtain⟨_,o,ho,_⟩:=I.ok.funs.mem hb;exact absurd (aAr (aAf ho)<|aAs I.sz h) (aBc _)
def Inv.cne (I:Inv X pins σ H s):∀x c,X.env.cells.lookup x=some c->c≠X.env.locals:=λx c e z=>by obtain⟨v,o,ho,hd⟩:=I.cell x c e;obtain⟨m,⟨o',es,ep,xr,og,_⟩,_⟩:=I.loc;rw[z,xr]at ho;cases ho;rw[og]at hd;cases hd
def Inv.funs (I:Inv X pins σ H s):s.heap.FunFrames X.base X.outer:=by
 have all:∀(l:List Env),(∀b∈xD l,b∈X.fs)->X.s9.heap.FunFrames X.base l->s.heap.FunFrames X.base l:=by
  intro l;induction l with
  |nil=>intro _ _;trivial
  |cons env r ih=>intro hs hl;obtain⟨hk,⟨L,o,hf,hn,ho,hd⟩,hr⟩:=hl;have hL:L∈X.fs:=hs L (by unfold xD;rw[aCu,hf];exact aAP);obtain⟨sl,e⟩:=I.base.slot L o ho (I.ok.frf L hL) hL λz=>I.ok.exfs L z hL;exact⟨hk,⟨L,_,hf,hn,e,hd⟩,ih (λb hb=>hs b (by unfold xD;rw[aCu,hf];exact aAe _ hb)) hr⟩
 exact all X.outer (λ_ hb=>hb) I.ok.funs
def Inv.stack (I:Inv X pins σ H s):s.heap.FunFrames X.base X.stack:=by
 rcases I.ok.stk with e|⟨e,hf⟩
 ·rw[e];exact I.funs
 ·rw[e];obtain⟨m,hn,_⟩:=I.loc;refine .cons (by rw[I.ok.kind];decide) hf hn ?_ I.funs;exact aEp (aAs I.ok.bsz I.ok.above)
def Inv.ab2 (I:Inv X pins σ H s):∀b∈xD X.stack,b∈X.env.locals::X.fs:=λb hb=>by
 rcases I.ok.stk with e|⟨e,hf⟩
 ·rw[e]at hb;exact aAe _ hb
 ·rw[e]at hb;unfold xD at hb;rw[aCu,hf]at hb;exact hb
def Inv.ad3 (I:Inv X pins σ H s):∀b∈xD X.stack,H b=none:=λb hb=>by
 rcases aAd.mp (I.ab2 b hb)with e|hb
 ·rw[e];exact I.free
 ·obtain⟨_,o,ho,_⟩:=I.ok.funs.mem hb;exact I.base.free b o ho (I.ok.frf b hb) λz=>I.ok.exfs b z hb
def Inv.step {g':Array GenState}{t':Nat}{d':Drawn}{ch:List Addr}(I:Inv X pins σ H s)
  (we:∀b∈ch,(b∈X.ex\/X.s9.heap.objs.size<=b)/\b≠X.env.locals/\(∀x c,X.env.cells.lookup x=some c->c≠b)/\∀p∈X.pn++pins,p.1≠b)
  (keep:∀b o,b≠X.env.locals->b∉X.fs->b∉ch->s.heap.get? b=some o->H b=none->h'.get? b=some o)
  (slot:∀b o,b≠X.env.locals->b∈X.fs->b∉ch->s.heap.get? b=some o->H b=none->∃sl,h'.get? b=some {o with slots:=sl}) (free:∀b o,b∉ch->s.heap.get? b=some o->H b=none->H' b=none)
  (there:∀b o,b∉ch->s.heap.get? b=some o->∃o',h'.get? b=some o')
  (tups:∀b xs,H b=some (.tup xs)->H' b=some (.tup xs)) (frzs:∀b o u,H b=some (.frz o u)->H' b=some (.frz o u)) (tbls:∀b tb,H b=some (.tbl tb)->H' b=some (.tbl tb))
  (ns:∀m,s.heap.Ns X.env.locals m->h'.Ns X.env.locals m) (hok:fF X.prog X.w H' h') (hg:AllBare g'):
  Inv X pins σ H' {s with heap:=h',gens:=g',drawn:=d',toks:=t'}:=by
 have neL:∀b o,X.s9.heap.get? b=some o->b≠X.env.locals:=λb o e=>aAl (aAr (aAf e) I.ok.above);have neC:∀b o,X.s9.heap.get? b=some o->b∉X.ex->b∉ch:=λb o e hx hb=>by
  rcases(we b hb).1 with z|z
  ·exact hx z
  ·exact absurd (aAr (aAf e) z) (aBc _)
 have cellK:∀x c,X.env.cells.lookup x=some c->∀v,s.heap.IsCell c v->h'.IsCell c v:=λx c e v ⟨o,ho,hd⟩=>by
  have nch:c∉ch:=λz=>(we c z).2.2.1 x c e rfl;by_cases hc:c∈X.fs
  ·obtain⟨sl,q⟩:=slot c o (I.cne x c e) hc nch ho (I.freeC x c e);exact⟨_,q,hd⟩
  ·exact⟨o,keep c o (I.cne x c e) hc nch ho (I.freeC x c e),hd⟩
 refine⟨I.ok,I.os,hg,⟨λb o e n hb hx=>?_,λb o e n hb hx=>?_,λb o e n hx=>?_,λb o e hx=>?_,λb xs e=>tups b xs (I.base.tups b xs e),λb o xs e=>frzs b o xs (I.base.frzs b o xs e),λb ps e=>?_⟩,?_,λx c e=>?_,?_,λx c e=>?_,λp hp=>?_,hok,I.len⟩
 ·exact keep b o (neL b o e) hb (neC b o e hx) (I.base.keep b o e n hb hx) (I.base.free b o e n hx)
 ·obtain⟨sl,e1⟩:=I.base.slot b o e n hb hx;obtain⟨sl',e2⟩:=slot b _ (neL b o e) hb (neC b o e hx) e1 (I.base.free b o e n hx);exact⟨sl',e2⟩
 ·obtain⟨o',e1⟩:=I.base.there b o e hx;exact free b o' (neC b o e hx) e1 (I.base.free b o e n hx)
 ·obtain⟨o',e1⟩:=I.base.there b o e hx;exact there b o' (neC b o e hx) e1
 ·exact tbls b ps (I.base.tbls b ps e)
 ·obtain⟨m,hn,hl⟩:=I.loc;refine⟨m,ns m hn,λi x v e1 e2 e3=>?_⟩;obtain⟨u,r,l⟩:=hl i x v e1 e2 e3;refine⟨u,r,?_⟩;rcases l with l|⟨k,c,e,z⟩
  ·exact .inl l
  ·exact .inr ⟨k,c,e,cellK x c e _ z⟩
 ·obtain⟨v,z⟩:=I.cell x c e;exact⟨v,cellK x c e v z⟩
 ·obtain⟨m,⟨o,_,_,ho,_⟩,_⟩:=I.loc;exact free _ o (λz=>(we _ z).2.1 rfl) ho I.free
 ·obtain⟨v,o,ho,hd⟩:=I.cell x c e;exact free c o (λz=>(we c z).2.2.1 x c e rfl) ho (I.freeC x c e)
 ·obtain⟨e,n,ne,nf,d⟩:=I.pin p hp;have nch:p.1∉ch:=λz=>(we p.1 z).2.2.2 p hp rfl;exact⟨keep p.1 p.2 ne nf nch e n,free p.1 p.2 nch e n,ne,nf,d⟩
def Inv.un {t':Nat}(I:Inv X pins σ H s)(u:Un X.fs [] H H' s.heap h')(hok:fF X.prog X.w H' h'):Inv X pins σ H' {s with heap:=h',toks:=t'}:=by
 obtain⟨m,⟨o,es,ep,ho,r⟩,_⟩:=id I.loc;obtain⟨sl,hL⟩:=u.any ho I.free (by simp);exact I.step (g':=s.gens) (d':=s.drawn) (ch:=[]) (λ_ z=>nomatch z) (λb o _ hb _ e n=>u.keep b o e n hb (by simp)) (λb o _ hb _ e n=>u.slot b o e n hb (by simp)) (λb o _ e n=>u.free b o e n (by simp)) (λb o _ e=>u.there b o e (by simp)) u.tups u.frzs u.tbls (λm' hm=>by obtain⟨o',es',ep',xr,r'⟩:=hm;rw[ho]at xr;cases xr;exact⟨_,es',ep',hL,r'⟩) hok I.bare
def Inv.call {g':Array GenState}{t':Nat}{d':Drawn}{ch:List Addr}(I:Inv X pins σ H s)(u:Un (xD X.stack) ch H H' s.heap h')(hok:fF X.prog X.w H' h')(hg:AllBare g')
  (we:∀b∈ch,(b∈X.ex\/X.s9.heap.objs.size<=b)/\b≠X.env.locals/\(∀x c,X.env.cells.lookup x=some c->c≠b)/\∀p∈X.pn++pins,p.1≠b):
  Inv X pins σ H' {s with heap:=h',gens:=g',drawn:=d',toks:=t'}:=by
 obtain⟨m,⟨o,es,ep,ho,r⟩,_⟩:=id I.loc;obtain⟨sl,hL⟩:=u.any ho I.free λz=>(we _ z).2.1 rfl;exact I.step (ch:=ch) we (λb o hL hb hc e n=>u.keep b o e n (λz=>(aAd.mp<|I.ab2 b z).elim hL hb) hc) (λb o _ _ hc e n=>u.any e n hc) (λb o hc e n=>u.free b o e n hc) (λb o hc e=>u.there b o e hc) u.tups u.frzs u.tbls (λm' hm=>by obtain⟨o',es',ep',xr,r'⟩:=hm;rw[ho]at xr;cases xr;exact⟨_,es',ep',hL,r'⟩) hok hg
def Inv.turned {t':Nat}{it:Addr}(I:Inv X pins σ H s)(k:∀b o,b≠it->s.heap.get? b=some o->h'.get? b=some o)(hn:H it=none)(hL:it≠X.env.locals)
  (h1:it∈X.ex\/X.s9.heap.objs.size<=it) (h2:∀x c,X.env.cells.lookup x=some c->c≠it) (h3:∀p∈X.pn++pins,p.1≠it):Inv X pins σ H {s with heap:=h',toks:=t'}:=by
 have nit:∀b u,H b=some u->b≠it:=λb u e z=>by rw[z,hn]at e;cases e
 refine I.step (g':=s.gens) (d':=s.drawn) (ch:=[it]) (λb hb=>?_) (λb o _ _ hc e _=>k b o (λz=>hc (by simp[z])) e) (λb o _ _ hc e _=>⟨o.slots,k b o (λz=>hc (by simp[z])) e⟩) (λ_ _ _ _ n=>n)
  (λb o hc e=>⟨o,k b o (λz=>hc (by simp[z])) e⟩) (λ_ _ e=>e) (λ_ _ _ e=>e) (λ_ _ e=>e) (λm hm=>?_) (λb u e=>?_) I.bare
 ·have e:b=it:=by simpa using hb
  subst e;exact⟨h1,hL,h2,h3⟩
 ·obtain⟨o,es,ep,ho,r⟩:=hm;exact⟨o,es,ep,k _ o (aBV hL) ho,r⟩
 ·refine(I.hok b u e).ab7 (λc v hc q=>k c v ?_ q) (λ_ q=>q) λ_ _ _ q=>q;rcases hc with z|z
  ·rw[z];exact nit b u e
  ·exact nit c _ z
def Inv.tok (I:Inv X pins σ H s)(t:Nat):Inv X pins σ H {s with toks:=t}:=I.un (h':=s.heap) (t':=t) Un.refl I.hok
def Inv.kept (I:Inv X pins σ H s)(k:∀b u,s.heap.get? b=some u->h'.get? b=some u):Inv X pins σ H {s with heap:=h',toks:=t'}:=I.un (Un.kept k) (I.hok.kept k)
def Inv.laid (I:Inv X pins σ H s)(k:∀b u,s.heap.get? b=some u->h'.get? b=some u)(hp:s.heap.objs.size<=a)(new:ObjOk X.prog X.w (upd H a o) h' a o):
 Inv X pins σ (upd H a o) {s with heap:=h',toks:=t'}:=I.un (Un.laid k hp<|I.hok.fresh hp) (I.hok.laid k hp new)
def Inv.write (I:Inv X pins σ H s)(mu:jq (H x))(he:e=x\/H e=some (.own x))(k:∀b u,b≠e->s.heap.get? b=some u->h'.get? b=some u)(heo:∃u,h'.get? e=some u)(new:ObjOk X.prog X.w (upd H x o) h' x o):Inv X pins σ (upd H x o) {s with heap:=h',toks:=t'}:=I.un (Un.write mu he k heo) (I.hok.write mu he k heo new)
def Inv.ad1 (I:Inv X pins σ H s)(h:∀p∈pins',s.heap.get? p.1=some p.2/\H p.1=none/\p.1≠X.env.locals/\p.1∉X.fs/\∀v,p.2.data≠.cell v):Inv X pins' σ H s:=
 ⟨I.ok,I.os,I.bare,I.base,I.loc,I.cell,I.free,I.freeC,λp hp=>(aAS.mp hp).elim (λz=>I.pin p (aBB _ z)) (h p),I.hok,I.len⟩
def xQ {N:List Str}(hN:N.Nodup){i j:Nat}{x:Str}(a:N[i]?=some x)(b:N[j]?=some x):i=j:=by obtain⟨h1,e1⟩:=aAC.mp a;obtain⟨h2,e2⟩:=aAC.mp b;exact(List.getElem_inj hN).mp (e1.trans e2.symm)
def iX {M:Model}{A:Around}{E:C5}{i:Nat}{x:Str}{v:V}{u:Value}{Q:Unit->Shared->Prop}(I:Inv X pins σ H s)(hN:X.N.Nodup)(hi:X.N[i]?=some x)(hx:Loc X.env.scope x)(r:RelV v u)
  (h:∀s',Inv X pins (σ.set i (some v)) H s'->(∃a,Heap.SameBut a s.heap s'.heap/\(a=X.env.locals\/X.env.cells.lookup x=some a))->Q () s') (hf:X.fn x=true\/X.env.scope.names.lookup x=some .local:=by first|exact .inl rfl|exact .inr rfl|assumption):wpAny M A (storeName X.env x u) Q E s:=by
 obtain⟨m,hn,hl⟩:=id I.loc;have hcls:(X.env.scope.kind==.class||(X.env.scope.kind==.module&&X.env.locals !=X.env.globals))=false:=by rw[I.ok.kind];rfl
 have hiσ:i<σ.length:=by rw[I.len];exact(aAC.mp hi).1
 have cne:=I.cne;have tracked:∀{a:Addr} {h':Heap},(∃o,s.heap.get? a=some o/\H a=none)->Heap.SameBut a s.heap h'->fF X.prog X.w H h':=λ{a h'} ha hs b ob e=>by
  obtain⟨_,_,je⟩:=ha;refine(I.hok b ob e).ab7 (λc w' hc q=>(hs.2 c ?_).trans q) (λ_ q=>q) λ_ _ _ q=>q;rintro rfl;rcases hc with rfl|hc
  ·rw[je]at e;cases e
  ·rw[je]at hc;cases hc
 rcases hx with hk|hk
 ·refine wpAny_storeName_local hk hn (λh' hn' hs=>?_) hcls;obtain⟨oL,_,_,hoL,_⟩:=id hn;refine h _ ⟨I.ok,I.os,I.bare,⟨λb o e n hb hx=>?_,λb o e n hb hx=>?_,I.base.free,λb o e hx=>?_,I.base.tups,I.base.frzs,I.base.tbls⟩,⟨_,hn',λj y v' e1 e2 e3=>?_⟩,λy c e=>?_,I.free,I.freeC,λp hp=>?_,tracked ⟨oL,hoL,I.free⟩ hs,by simpa using I.len⟩ ⟨_,hs,.inl rfl⟩
  ·exact(hs.2 b (aAl<|aAr (aAf e) I.ok.above)).trans (I.base.keep b o e n hb hx)
  ·obtain⟨sl,e1⟩:=I.base.slot b o e n hb hx;exact⟨sl,(hs.2 b (aAl<|aAr (aAf e) I.ok.above)).trans e1⟩
  ·obtain⟨o',e1⟩:=I.base.there b o e hx;exact⟨o',(hs.2 b (aAl<|aAr (aAf e) I.ok.above)).trans e1⟩
  ·by_cases hj:j=i
   ·subst hj;rw[hi]at e1;cases e1;rw[aBD hiσ]at e2;cases e2;exact⟨u,r,.inl ⟨hk,by simp⟩⟩
   ·rw[aCo (aBV hj)]at e2;obtain⟨u',r',q⟩:=hl j y v' e1 e2 e3;refine⟨u',r',?_⟩;rcases q with⟨k,e⟩|⟨k,c,e,z⟩
    ·refine .inl ⟨k,?_⟩;have:y≠x:=λe=>hj (xQ hN e1<|e▸hi);simp[this,e]
    ·exact .inr ⟨k,c,e,z.sameBut hs (cne y c e)⟩
  ·obtain⟨w',z⟩:=I.cell y c e;exact⟨w',z.sameBut hs (cne y c e)⟩
  ·obtain⟨e,n,ne,nf,d⟩:=I.pin p hp;exact⟨(hs.2 p.1 ne).trans e,n,ne,nf,d⟩
 ·have wg:X.fn x=true:=by
   rcases hf with z|z
   ·exact z
   ·rw[z]at hk;cases hk
  obtain⟨c,hc⟩:=I.ok.has x (.inl hk);obtain⟨w',z⟩:=I.cell x c hc;refine wpAny_storeName_cell I.ok.kind hk hc z (λh' wu hs=>?_);obtain⟨oc,bu,hocd⟩:=id z;refine h {s with heap:=h'} ⟨I.ok,I.os,I.bare,⟨λb o e n hb hx=>?_,λb o e n hb hx=>?_,I.base.free,λb o e hx=>?_,I.base.tups,I.base.frzs,I.base.tbls⟩,⟨m,hn.sameBut hs (aBV<|cne x c hc),λj y v' e1 e2 e3=>?_⟩,λy c' e=>?_,I.free,I.freeC,λp hp=>?_,tracked ⟨oc,bu,I.freeC x c hc⟩ hs,by simpa using I.len⟩ ⟨c,hs,.inr hc⟩
  ·exact(hs.2 b (aAl<|aAr (aAf e)<|I.ok.cab x c wg hc)).trans (I.base.keep b o e n hb hx)
  ·obtain⟨sl,e1⟩:=I.base.slot b o e n hb hx;exact⟨sl,(hs.2 b (aAl<|aAr (aAf e)<|I.ok.cab x c wg hc)).trans e1⟩
  ·obtain⟨o',e1⟩:=I.base.there b o e hx;exact⟨o',(hs.2 b (aAl<|aAr (aAf e)<|I.ok.cab x c wg hc)).trans e1⟩
  ·by_cases hj:j=i
   ·subst hj;rw[hi]at e1;cases e1;rw[aBD hiσ]at e2;cases e2;exact⟨u,r,.inr ⟨.inl hk,c,hc,wu⟩⟩
   ·rw[aCo (aBV hj)]at e2;obtain⟨u',r',q⟩:=hl j y v' e1 e2 e3;refine⟨u',r',?_⟩;rcases q with q|⟨k,c',e,z'⟩
    ·exact .inl q
    ·refine .inr ⟨k,c',e,z'.sameBut hs ?_⟩;rintro rfl;exact hj (xQ hN e1<|I.ok.inj _ _ _ e hc▸hi)
  ·by_cases hcc:c'=c
   ·subst hcc;exact⟨_,wu⟩
   ·obtain⟨w2,z2⟩:=I.cell y c' e;exact⟨w2,z2.sameBut hs hcc⟩
  ·obtain⟨e,n,ne,nf,d⟩:=I.pin p hp;refine⟨(hs.2 p.1 ?_).trans e,n,ne,nf,d⟩;intro q;rw[q,bu]at e;have q':oc=p.2:=aAj e;exact d w' (by rw[<-q'];exact hocd)
def P9 {E:C5}{Q:Unit->Shared->Prop}(I:Inv X pins σ H s)(hN:X.N.Nodup)(hi:X.N[i]?=some x)(hx:Loc X.env.scope x)(r:RelV v u)(h:∀s',Inv X pins (σ.set i (some v)) H s'->Q () s')(hf:X.fn x=true\/X.env.scope.names.lookup x=some .local:=by first|exact .inl rfl|exact .inr rfl|assumption):wpAny M A (storeName X.env x u) Q E s:=
 iX I hN hi hx r (λs' I' _=>h s' I') hf
def Inv.af8 (I:Inv X pins σ H s)(ho:s'.os=s.os)(u:Un (xD X.stack) ch H H' s.heap s'.heap)(hok:fF X.prog X.w H' s'.heap)(hg:AllBare s'.gens)(we:∀b∈ch,(b∈X.ex\/X.s9.heap.objs.size<=b)/\b≠X.env.locals/\(∀x c,X.env.cells.lookup x=some c->c≠b)/\∀p∈X.pn++pins,p.1≠b):Inv X pins σ H' s':=by obtain⟨h',g',d',t',o'⟩:=s';have e:o'=s.os:=ho;subst e;exact I.call (g':=g') (t':=t') (d':=d') u hok hg we
end
abbrev XK:=Value->Option Addr->Hp->Prop
abbrev St:=List (Option V)
abbrev VK:=V->Hp->Prop
abbrev TE:=St->Hp->VK->Prop
abbrev TT:=St->Hp->(Bool->Hp->Prop)->Prop
abbrev TA:=St->Hp->(List V->Hp->Prop)->Prop
structure Ends where
 nx:St->Hp->Prop
 rt:VK
 bk:St->Hp->Prop:=λ_ _=>False
 ct:St->Hp->Prop:=λ_ _=>False
abbrev TS:=Ends->St->Hp->Prop
def EP (X:Cx)(pins:M2)(σ:St)(Q:VK)(u:Value)(s':Shared):Prop:=∃v H',Inv X pins σ H' s'/\RelV v u/\Q v H'
def TP (X:Cx)(pins:M2)(σ:St)(Q:Bool->Hp->Prop)(b:Bool)(s':Shared):Prop:=∃H',Inv X pins σ H' s'/\Q b H'
def AP (X:Cx)(pins:M2)(σ:St)(Q:List V->Hp->Prop)(us:List Value)(s':Shared):Prop:=∃vs H',Inv X pins σ H' s'/\l6 vs us/\Q vs H'
def SP (X:Cx)(pins:M2)(D:Ends)(f:Flow)(s':Shared):Prop:=
 match f with
 |.next=>∃ah H',Inv X pins ah H' s'/\D.nx ah H'
 |.brk=>∃ah H',Inv X pins ah H' s'/\D.bk ah H'
 |.cont=>∃ah H',Inv X pins ah H' s'/\D.ct ah H'
 |.ret u=>∃v ah H',Inv X pins ah H' s'/\RelV v u/\D.rt v H'
def PE (X:Cx)(e:Expr)(t:TE):Prop:=
 ∀(pins:M2) (s:Shared) (σ:St) (H:Hp) (Q:VK),Inv X pins σ H s->t σ H Q->wpAny (model X.prog X.w) X.A (eval e X.env) (EP X pins σ Q) X.xe s
def PT (X:Cx)(e:Expr)(t:TT):Prop:=
 ∀(pins:M2) (s:Shared) (σ:St) (H:Hp) (Q:Bool->Hp->Prop),Inv X pins σ H s->t σ H Q->wpAny (model X.prog X.w) X.A (isTrue e X.env<|eval e X.env) (TP X pins σ Q) X.xe s
def PW (X:Cx)(e:Expr)(t:TT):Prop:=
 ∀(whole:Sem Value) (pins:M2) (s:Shared) (σ:St) (H:Hp) (Q:Bool->Hp->Prop),Inv X pins σ H s->t σ H Q->wpAny (model X.prog X.w) X.A (isTrue e X.env whole) (TP X pins σ Q) X.xe s
def PW.pt (h:PW X e t):PT X e t:=h _
def PA (X:Cx)(es:List Expr)(t:TA):Prop:=
 ∀(pos:Pos) (pins:M2) (s:Shared) (σ:St) (H:Hp) (Q:List V->Hp->Prop),Inv X pins σ H s->t σ H Q->wpAny (model X.prog X.w) X.A (spliced<|backTo pos<|starEach es X.env) (AP X pins σ Q) X.xe s
def PS (X:Cx)(st:Stmt)(t:TS):Prop:=
 ∀(pins:M2) (s:Shared) (σ:St) (H:Hp) (D:Ends),Inv X pins σ H s->t D σ H->wpAny (model X.prog X.w) X.A (exec st X.env) (SP X pins D) X.xe s
def sW (X:Cx)(st:List Stmt)(t:TS):Prop:=
 ∀(pins:M2) (s:Shared) (σ:St) (H:Hp) (D:Ends),Inv X pins σ H s->t D σ H->wpAny (model X.prog X.w) X.A (execs st X.env) (SP X pins D) X.xe s
def C1 {α:Type}{t:Sem α}{Q Q':α->Shared->Prop}{M:Model}{A:Around}{E:C5}{s:Shared}(h:wpAny M A t Q E s)(hQ:∀a s,Q a s->Q' a s):wpAny M A t Q' E s:=aCj h hQ λ_ _ x=>x
end L2
namespace L2
open PySem PySem.Spec PyProof.Rows
section
variable{X:Cx}
def ZW (i:Nat):TE:=λσ H Q=>∃v,σ[i]?=some (some v)/\Q v H
def tC (v:V):TE:=λ_ H Q=>Q v H
def Q6 (hN:X.N[i]?=some x)(hv:AR X.env.scope x)(hd:(x==("__debug__":Str))=false:=by decide)(fb:(x==("__classdict__":Str))=false:=by decide):PE X (.Name x pos) (ZW i):=by
 intro pins s σ H Q I h;obtain⟨v,e,h⟩:=h;obtain⟨m,hn,hl⟩:=I.loc;obtain⟨u,r,l⟩:=hl i x v hN e hv;have fin:EP X pins σ Q u s:=⟨v,H,I,r,h⟩;rcases l with⟨hk,hm⟩|⟨hk,c,hc,dh⟩
 ·exact wpAny_Name (wpAny_loadName_local I.ok.kind hk hn hm fin) hd
 ·rcases hk with hk|hk
  ·exact wpAny_Name (wpAny_loadName_cell I.ok.kind hk hc dh fin) hd
  ·exact wpAny_Name (wpAny_loadName_free I.ok.kind hk hc dh fin fb) hd
def UY {i j pos}:PE X (.Constant (.int i) j pos) (tC (.int i)):=λ_ _ _ H _ I h=>wpAny_Constant_int ⟨.int i,H,I.tok _,⟨_,rfl⟩,h⟩
def ez {b j pos}:PE X (.Constant (.bool b) j pos) (tC (.bl b)):=λ_ _ _ H _ I h=>Constant_bool ⟨.bl b,H,I,rfl,h⟩
def YC {j pos}:PE X (.Constant .none j pos) (tC .non):=λ_ _ _ H _ I h=>Constant_none ⟨.non,H,I,rfl,h⟩
def Gl (X:Cx)(x:Str):Prop:=X.env.kindOf x=some .globalImplicit
def tN {E:C5}{Q:C5}(I:Inv X pins σ H s)(hg:Gl X x)(hm:X.mg x=some u)(h:Q u s)(hd:(x==("__debug__":Str))=false:=by decide):wpAny (model X.prog X.w) X.A (eval (.Name x pos) X.env) Q E s:=
 Calls.Name_function_global I.ok.kind hg (Calls.loadGlobal_global (by rw[I.ok.glob];exact I.mod.glob.keeps I.bk) hm h) hd
def V5 {E:C5}{Q:C5}(I:Inv X pins σ H s)(hg:Gl X x)(hm:X.mg x=none)(hv:bootBuiltins x=some u)(h:Q u s)(hn:x≠ "__name__":=by decide)(hd:(x==("__debug__":Str))=false:=by decide):wpAny (model X.prog X.w) X.A (eval (.Name x pos) X.env) Q E s:=by obtain⟨mb,h1,h2⟩:=I.mod.blt;exact Calls.Name_function_global I.ok.kind hg (Calls.loadGlobal_builtin (by rw[I.ok.glob];exact I.mod.glob.keeps I.bk) hm (by rw[I.ok.blt];exact h1.keeps I.bk) ((h2 x hn).trans hv) h) hd
def RZ (hg:Gl X x)(hm:X.mg x=some u)(r:RelV v u)(hd:(x==("__debug__":Str))=false:=by decide):PE X (.Name x pos) (tC v):=
 λ_ _ _ H _ I h=>tN I hg hm ⟨v,H,I,r,h⟩ hd
variable{a b:Expr} {ta tb:TE} {pos:Pos}
def tB (t:TE):TT:=λσ H Q=>t σ H λx H1=>∃c,x=.bl c/\Q c H1
def WB {e:Expr}{t:TE}(h:PE X e t)(he:∀whole,isTrue e X.env whole=(do let v<-whole;standAt e.pos;holding [v] (truthy v)):=by intro _;rfl):PT X e (tB t):=by intro pins s σ H Q I hw;refine isTrue_plain (C1 (h pins s σ H _ I hw) λv s1 ⟨x,H1,I1,r1,q1⟩=>?_) (he _);obtain⟨d,rfl,q⟩:=q1;cases r1;exact aBA ⟨H1,I1,q⟩
variable{tA tB':TT} {rest:List Expr}
def yq (t u:TT):TT:=λσ H Q=>t σ H λc H1=>if c=true then u σ H1 Q else Q false H1
def tOr (t u:TT):TT:=λσ H Q=>t σ H λc H1=>if c=true then Q true H1 else u σ H1 Q
def xj (t:TT):TT:=λσ H Q=>t σ H λc H1=>Q (!c) H1
def RD (ha:PT X a tA):PW X (.BoolOp .And [a] pos) tA:=by
 intro wh pins s σ H Q I h;refine isTrue_and (C1 (ha pins s σ H Q I h) λc s1 e=>?_);cases c with
 |true=>exact isTrue_and_nil e
 |false=>exact e
def XC (ha:PT X a tA):PW X (.BoolOp .Or [a] pos) tA:=by
 intro wh pins s σ H Q I h;refine isTrue_or (C1 (ha pins s σ H Q I h) λc s1 e=>?_);cases c with
 |false=>exact isTrue_or_nil e
 |true=>exact e
def WD (ha:PT X a tA)(hb:PW X (.BoolOp .And (b::rest) pos) tB'):PW X (.BoolOp .And (a::b::rest) pos) (yq tA tB'):=by
 intro wh pins s σ H Q I h;refine isTrue_and (C1 (ha pins s σ H _ I h) λc s1 ⟨H1,I1,q1⟩=>?_);cases c with
 |true=>exact hb wh pins s1 σ H1 Q I1 q1
 |false=>exact⟨H1,I1,q1⟩
def fw (ha:PT X a tA)(hb:PW X (.BoolOp .Or (b::rest) pos) tB'):PW X (.BoolOp .Or (a::b::rest) pos) (tOr tA tB'):=by
 intro wh pins s σ H Q I h;refine isTrue_or (C1 (ha pins s σ H _ I h) λc s1 ⟨H1,I1,q1⟩=>?_);cases c with
 |true=>exact⟨H1,I1,q1⟩
 |false=>exact hb wh pins s1 σ H1 Q I1 q1
def XZ (ha:PT X a tA):PT X (.UnaryOp .Not a pos) (xj tA):=by intro pins s σ H Q I h;exact isTrue_not (ha pins s σ H (λc H1=>Q (!c) H1) I h)
def my (ta tb:TE):TE:=λσ H Q=>ta σ H λx H1=>∃c,x=.bl c/\if c=true then Q (.bl true) H1 else tb σ H1 Q
def VJ {op}(h:PE X a t):PE X (.BoolOp op [a] pos) t:=λpins s σ H Q I hw=>BoolOp_one (h pins s σ H Q I hw)
def gw (ha:PE X a ta)(hb:PE X (.BoolOp .Or (b::rest) pos) tb):PE X (.BoolOp .Or (a::b::rest) pos) (my ta tb):=by
 intro pins s σ H Q I h;refine BoolOp_or (C1 (ha pins s σ H _ I h) λv s1 ⟨x,H1,I1,r1,q1⟩=>?_);obtain⟨c,rfl,q1⟩:=q1;cases r1;refine aBA ?_;cases c with
 |false=>exact hb pins s1 σ H1 Q I1 q1
 |true=>exact⟨.bl true,H1,I1,rfl,q1⟩
end
end L2
namespace L2
open PySem PySem.Spec PyProof.Rows
def K0 (K:PySem.W.Frag)(H:Hp)(a:Addr)(xs:List V):Prop:=
 Rd H a (.lst xs)\/
  ∃(o:Obj) (its:Array Value) (n:Nat),K.lookup a=some o/\o.cls=.type "list"/\o.dict=none/\o.data=.seq its n/\its.size<=sizeLine/\l6 xs its.toList
def U1 (K:PySem.W.Frag)(H:Hp)(a:Addr)(xs:List V):Prop:=
 Rd H a (.tup xs)\/
  ∃(o:Obj) (its:Array Value) (n:Nat),K.lookup a=some o/\o.cls=.type "tuple"/\o.data=.seq its n/\its.size<=sizeLine/\l6 xs its.toList
def uw:Value->Option V
 |.none=>some .non
 |.bool b=>some (.bl b)
 |.int i _=>some (.int i)
 |.str x _=>some (.str x)
 |.bytes b _=>some (.byt b)
 |.float b _=>some (.flt b)
 |.ref a=>some (.ref a)
 |.type n=>some (.ty n)
 |_=>none
def RelV.abs (r:RelV x u):uw u=some x:=by
 cases x with
 |non=>cases r;rfl
 |bl _=>cases r;rfl
 |int _=>obtain⟨t,rfl⟩:=r;rfl
 |str _=>obtain⟨t,rfl⟩:=r;rfl
 |byt _=>obtain⟨t,rfl⟩:=r;rfl
 |flt _=>obtain⟨t,rfl⟩:=r;rfl
 |ref _=>cases r;rfl
 |ty _=>cases r;rfl
def RelV.inj {x y:V}{u:Value}(r:RelV x u)(q:RelV y u):x=y:=aAj (r.abs.symm.trans q.abs)
theorem l6.inj:∀{xs ys:List V} {us:List Value},l6 xs us->l6 ys us->xs=ys
 |_,_,_,.nil,.nil=>rfl
 |_,_,_,.cons r t,.cons r' t'=>by rw[r.inj r',l6.inj t t']
section
variable{X:Cx} {pins:M2} {σ:St} {H:Hp} {s:Shared} {a:Addr} {xs ys:List V}
def K0.of {K:PySem.W.Frag}(h:H a=some (.lst xs)):K0 K H a xs:=.inl (.inl h)
def U1.of {K:PySem.W.Frag}(h:H a=some (.tup xs)):U1 K H a xs:=.inl (.inl h)
def Inv.list (I:Inv X pins σ H s)(h:K0 X.K H a xs):∃its:List Value,l6 xs its/\PlainL s.heap a its.toArray/\xs.length<=sizeLine:=by
 rcases h with h|⟨o,its,n,hk,hc,hd,hs,hz,r⟩
 ·obtain⟨z,its,n,r,e⟩:=h.ok I.hok;exact⟨its,r,⟨_,n,e,rfl,rfl,rfl⟩,z⟩
 ·refine⟨its.toList,r,⟨o,n,I.kIn a o hk,hc,hd,by simpa using hs⟩,?_⟩;have e:=r.length;simp only[aAW]at e
  lia
def Inv.tuple (I:Inv X pins σ H s)(h:U1 X.K H a xs):∃its:List Value,l6 xs its/\IsTup s.heap a its.toArray/\xs.length<=sizeLine:=by
 rcases h with h|⟨o,its,n,hk,hc,hs,hz,r⟩
 ·obtain⟨z,its,r,p⟩:=h.ok I.hok;exact⟨its,r,p,z⟩
 ·refine⟨its.toList,r,⟨o,I.kIn a o hk,hc,n,by simpa using hs⟩,?_⟩;have e:=r.length;simp only[aAW]at e
  lia
def Inv.ab0 (I:Inv X pins σ H s)(h:K0 X.K H a xs)(h':K0 X.K H a ys):xs=ys:=by
 obtain⟨its,r,⟨o,n,e,_,_,d⟩,_⟩:=I.list h;obtain⟨its',r',⟨o',n',e',_,_,d'⟩,_⟩:=I.list h';rw[e]at e';cases e';rw[d]at d';injection d' with d1 _;have:its=its':=by simpa using congrArg aFF d1
 subst this;exact r.inj r'
def Inv.ab5 (I:Inv X pins σ H s)(h:U1 X.K H a xs)(h':U1 X.K H a ys):xs=ys:=by
 obtain⟨its,r,⟨o,e,_,n,d⟩,_⟩:=I.tuple h;obtain⟨its',r',⟨o',e',_,n',d'⟩,_⟩:=I.tuple h';rw[e]at e';cases e';rw[d]at d';injection d' with d1 _;have:its=its':=by simpa using congrArg aFF d1
 subst this;exact r.inj r'
end
abbrev Cx.ac0 (X:Cx)(E:C5):Cx:={X with xe:=E}
abbrev Cx.nox (X:Cx):Cx:=X.ac0 λ_ _=>False
def Cx.Ok.ac0 {X:Cx}(ok:X.Ok)(E:C5):(X.ac0 E).Ok:=
 ⟨ok.mod,ok.kind,ok.glob,ok.blt,ok.above,ok.inj,ok.has,ok.cab,ok.hd,ok.frames,ok.stk,ok.exf,ok.bs,ok.bsz,ok.noex,ok.exfs,ok.funs,ok.frf⟩
def Cx.Ok.aa8 {X:Cx}{E:C5}(ok:(X.ac0 E).Ok):X.Ok:=
 ⟨ok.mod,ok.kind,ok.glob,ok.blt,ok.above,ok.inj,ok.has,ok.cab,ok.hd,ok.frames,ok.stk,ok.exf,ok.bs,ok.bsz,ok.noex,ok.exfs,ok.funs,ok.frf⟩
section
variable{X:Cx} {pins:M2} {σ:St} {H:Hp} {s:Shared} {E:C5}
def Inv.ac0 (I:Inv X pins σ H s)(E:C5):Inv (X.ac0 E) pins σ H s:=⟨I.ok.ac0 E,I.os,I.bare,I.base,I.loc,I.cell,I.free,I.freeC,I.pin,I.hok,I.len⟩
def Inv.aa8 (I:Inv (X.ac0 E) pins σ H s):Inv X pins σ H s:=⟨I.ok.aa8,I.os,I.bare,I.base,I.loc,I.cell,I.free,I.freeC,I.pin,I.hok,I.len⟩
def SP.aa8 (h:SP (X.ac0 E) pins D f s'):SP X pins D f s':=by
 cases f with
 |next=>obtain⟨ah,H',I,q⟩:=h;exact⟨ah,H',I.aa8,q⟩
 |brk=>obtain⟨ah,H',I,q⟩:=h;exact⟨ah,H',I.aa8,q⟩
 |cont=>obtain⟨ah,H',I,q⟩:=h;exact⟨ah,H',I.aa8,q⟩
 |ret u=>obtain⟨v,ah,H',I,r,q⟩:=h;exact⟨v,ah,H',I.aa8,r,q⟩
def sW.nox {st:List Stmt}{t:TS}(h:sW X.nox st t):sW X st t:=λpins s σ H D I hw=>aCj (h pins s σ H D (I.ac0 _) hw) (λ_ _ q=>q.aa8) λ_ _ z=>aAi z
end
section
variable{X:Cx} {st:Stmt} {rest:List Stmt} {t u:TS} {e:Expr} {te:TE} {pos:Pos}
def ZV:TS:=λD σ H=>D.nx σ H
def lw (t u:TS):TS:=λD σ H=>t {D with nx:=u D} σ H
def QW:sW X [] ZV:=λ_ _ σ H _ I h=>aEw ⟨σ,H,I,h⟩
def MC (h1:PS X st t)(h2:sW X rest u):sW X (st::rest) (lw t u):=by
 intro pins s σ H D I h;refine aEj (C1 (h1 pins s σ H {D with nx:=u D} I h) λf s1 q=>?_);cases f with
 |next=>obtain⟨ah,H',I',q⟩:=q;exact h2 pins s1 ah H' D I' q
 |ret v=>exact q
 |brk=>exact q
 |cont=>exact q
def EJ (h1:PS X st t):sW X [st] t:=by
 intro pins s σ H D I h;refine aEj (C1 (h1 pins s σ H D I h) λf s1 q=>?_);cases f with
 |next=>exact aEw q
 |ret v=>exact q
 |brk=>exact q
 |cont=>exact q
def Inv.quiet (I:Inv X pins σ H s):interactive X.env=false:=by simp[interactive,I.ok.kind]
def gx (te:TE):TS:=λD σ H=>te σ H λ_ H1=>D.nx σ H1
def mJ (he:PE X e te)(hs:swapsWith e none pos.line X.env=pure false:=by rfl):PS X (.Expr e pos) (gx te):=by intro pins s σ H D I h;exact wpAny_Expr_any (C1 (he pins s σ H _ I h) λv s1 ⟨x,H1,I1,r1,q1⟩=>⟨σ,H1,I1,q1⟩) I.quiet hs
def mz (te:TE):TS:=λD σ H=>te σ H D.rt
def LR (he:PE X e te):PS X (.Return (some e) pos) (mz te):=by intro pins s σ H D I h;exact wpAny_Return_some (C1 (he pins s σ H _ I h) λv s1 ⟨x,H1,I1,r1,q1⟩=>⟨x,σ,H1,I1,r1,q1⟩)
def pj (c:TT)(t u:TS):TS:=λD σ H=>c σ H λb H1=>if b=true then t D σ H1 else u D σ H1
def ZC {c:Expr}{a b:List Stmt}{tc:TT}(hc:PT X c tc)(ha:sW X a t)(hb:sW X b u):PS X (.If c a b pos) (pj tc t u):=by
 intro pins s σ H D I h;refine wpAny_If (C1 (hc pins s σ H _ I h) λd s1 ⟨H1,I1,q1⟩=>?_);cases d with
 |true=>exact ha pins s1 σ H1 D I1 q1
 |false=>exact hb pins s1 σ H1 D I1 q1
def XV:TS:=λ_ _ _=>False
def JF:PS X st XV:=λ_ _ _ _ _ _ h=>h.elim
end
abbrev TG:=V->St->Hp->(St->Hp->Prop)->Prop
abbrev UQ:=List V->St->Hp->(St->Hp->Prop)->Prop
def PG (X:Cx)(target:Expr)(t:TG):Prop:=
 ∀(pins:M2) (s:Shared) (σ:St) (H:Hp) (v:V) (u:Value) (Q:St->Hp->Prop),Inv X pins σ H s->RelV v u->t v σ H Q->
  wpAny (model X.prog X.w) X.A (assign target X.env u) (λ_ s'=>∃ah H',Inv X pins ah H' s'/\Q ah H') X.xe s
def YL (X:Cx)(ts:List Expr)(t:UQ):Prop:=
 ∀(pins:M2) (s:Shared) (σ:St) (H:Hp) (vs:List V) (us:List Value) (Q:St->Hp->Prop),Inv X pins σ H s->l6 vs us->t vs σ H Q->
  wpAny (model X.prog X.w) X.A (assignInOrder ((assignEach ts X.env).map (·.2)) us) (λ_ s'=>∃ah H',Inv X pins ah H' s'/\Q ah H') X.xe s
abbrev PU:=V->V->V->Hp->(Hp->Prop)->Prop
def VR (X:Cx)(t:PU):Prop:=
 ∀(pins:M2) (s:Shared) (σ:St) (H:Hp) (o i v:V) (ov iv u:Value) (Q:Hp->Prop),Inv X pins σ H s->RelV o ov->RelV i iv->RelV v u->t o i v H Q->
  wpAny (model X.prog X.w) X.A (setItem ov iv u) (λ_ s'=>∃H',Inv X pins σ H' s'/\Q H') X.xe s
section
variable{X:Cx} {pos:Pos}
def UA (i:Nat):TG:=λv σ H Q=>Q (σ.set i<|some v) H
def PZ (hN:X.N.Nodup)(hi:X.N[i]?=some x)(hx:Loc X.env.scope x)(hf:X.fn x=true\/X.env.scope.names.lookup x=some .local:=by first|exact .inl rfl|exact .inr rfl|assumption):PG X (.Name x pos) (UA i):=by intro pins s σ H v u Q I r h;exact aFd (P9 I hN hi hx r (λs' I'=>⟨_,H,I',h⟩) hf)
def sj:UQ:=λvs σ H Q=>vs=[]/\Q σ H
def ZT (t:TG)(u:UQ):UQ:=λvs σ H Q=>∃v r,vs=v::r/\t v σ H λah H'=>u r ah H' Q
def QT:YL X [] sj:=by intro pins s σ H vs us Q I r h;obtain⟨e,h⟩:=h;subst e;cases r;exact assignInOrder_nil ⟨σ,H,I,h⟩
def MN {e:Expr}{es:List Expr}{t:TG}{u:UQ}(h1:PG X e t)(h2:YL X es u)
  (hs:(assignEach (e::es) X.env).map (·.2)=assign e X.env::(assignEach es X.env).map (·.2):=by rfl):YL X (e::es) (ZT t u):=by
 intro pins s σ H vs us Q I r h;obtain⟨v,vr,e1,h⟩:=h;subst e1;cases r with
 |cons r rr=>rw[hs];refine aEN (C1 (h1 pins s σ H _ _ _ I r h) λ_ s1 ⟨σ1,H1,I1,q1⟩=>?_);exact h2 pins s1 σ1 H1 _ _ Q I1 rr q1
def rq (to ti:TE)(t:PU):TG:=λv σ H Q=>to σ H λo H1=>ti σ H1 λi H2=>t o i v H2 λH3=>Q σ H3
def JL {o i:Expr}{to ti:TE}{t:PU}(ho:PE X o to)(hi:PE X i ti)(hs:VR X t)
  (ha:∀v,assign (.Subscript o i pos) X.env v=(do
   let ov<-holding [v] (eval o X.env)
   let iv<-holding [v,ov] (eval i X.env)
   standAt pos
   holding [v,ov,iv] (setItem ov iv v)
   release [v,ov,iv] []):=by intro _;rfl):PG X (.Subscript o i pos) (rq to ti t):=by
 intro pins s σ H v u Q I r h;rw[ha];refine aAa (aAN<|C1 (ho pins s σ H _ I h) λov s1 ⟨x,H1,I1,r1,q1⟩=>?_);refine aAa (aAN<|C1 (hi pins s1 σ H1 _ I1 q1) λiv s2 ⟨y,H2,I2,r2,q2⟩=>?_);refine aAa (aDM<|aAa<|aAN<|C1 (hs pins s2 σ H2 x y v ov iv u _ I2 r1 r2 r q2) λ_ s3 ⟨H3,I3,q3⟩=>?_);exact wpAny_release ⟨σ,H3,I3,q3⟩
def YS (te:TE)(g:TG):TS:=λD σ H=>te σ H λx H1=>g x σ H1 D.nx
def BR {tg e:Expr}{te:TE}{g:TG}(he:PE X e te)(hg:PG X tg g)(hs:swapsWithSole [tg] e pos.line X.env=pure false:=by rfl)(hw:swappedStores [tg] e X.env=pure none:=by rfl)
  (h1:(assignEach [tg] X.env).map (·.2)=[assign tg X.env]:=by rfl):PS X (.Assign [tg] e pos) (YS te g):=by
 intro pins s σ H D I h;refine wpAny_Assign_stores (C1 (he pins s σ H _ I h) λv s1 ⟨x,H1,I1,r1,q1⟩=>?_) hs hw;rw[h1];exact C1 (hg pins s1 σ H1 x v _ I1 r1 q1) λ_ s2 q=>q
def KE {i:Nat}{x:Str}{e:Expr}{te:TE}{pos':Pos}(hN:X.N.Nodup)(hi:X.N[i]?=some x)(hx:Loc X.env.scope x)(he:PE X e te)(hs:swapsWith e (some (.Name x pos')) pos.line X.env=pure false:=by rfl)(hf:X.fn x=true\/X.env.scope.names.lookup x=some .local:=by first|exact .inl rfl|exact .inr rfl|assumption):
  PS X (.Assign [.Name x pos'] e pos) (YS te (UA i)):=by
 intro pins s σ H D I h;refine aFe (C1 (he pins s σ H _ I h) λv s1 ⟨y,H1,I1,r1,q1⟩=>?_) hs;exact P9 I1 hN hi hx r1 (λs2 I2=>⟨_,H1,I2,q1⟩) hf
def oq (i j:Nat)(ta:TA):TS:=λD σ H=>ta σ H λvs H1=>∃v w,vs=[v,w]/\D.nx ((σ.set i<|some v).set j (some w)) H1
def VW {i j:Nat}{x y:Str}{a b:Expr}{ta:TA}{px py pt:Pos}{kt k2 HX}(hc:X.calm=true)(hN:X.N.Nodup)(hi:X.N[i]?=some x)(hj:X.N[j]?=some y)(jc:i≠j)
  (hx:X.env.scope.names.lookup x=some .local) (hy:X.env.scope.names.lookup y=some .local) (ha:PA X [a,b] ta)
  (hw:swappedStores [.Tuple [.Name x px,.Name y py] kt pt] (.Tuple [a,b] k2 HX) X.env=pure (some [x,y]))
  (hs:swapsWithSole [.Tuple [.Name x px,.Name y py] kt pt] (.Tuple [a,b] k2 HX) pos.line X.env=pure false:=by rfl):
  PS X (.Assign [.Tuple [.Name x px,.Name y py] kt pt] (.Tuple [a,b] k2 HX) pos) (oq i j ta):=by
 intro pins s σ H D I h;rw[exec_Assign_arm];refine aAa (aDM ?_);rw[hs];refine aAa (aAb ?_);rw[if_neg (by decide)];refine aAa (Tuple_<|C1 (ha _ pins s σ H _ I h) λus s1 ⟨vs,H1,I1,r1,q1⟩=>?_);obtain⟨v,w,e1,q1⟩:=q1;subst e1;obtain⟨u1,u2,rfl,rv,rw'⟩:∃u1 u2,us=[u1,u2]/\RelV v u1/\RelV w u2:=by
  cases r1 with
  |cons p q=>
   cases q with
   |cons p' q'=>cases q';exact⟨_,_,rfl,p,p'⟩
 refine aBu ?_ (by show 2<=sizeLine;decide);have I2:Inv X pins σ H1 {s1 with heap:=s1.heap.push {cls:=.type "tuple",data:=.seq [u1,u2].toArray}}:=I1.kept (t':=s1.toks) λb o e=>aAc _ e;rw[hw];refine aAa (aAb ?_);show wpAny (model X.prog X.w) X.A (do rule "assign.swapped-stores";let items<-unpackItems (.ref s1.heap.objs.size) 2 none;assignInOrder [λv=>bindName X.env y v,λv=>bindName X.env x v] items.reverse;pure Flow.next) _ _ _;refine aAa (aDr<|aAa<|unpackItems_tuple (items:=#[u1,u2]) (I.ok.hd hc) (IsTup.new s1.heap _) λh' hx'=>?_);have I3:=I2.kept (h':=h') (t':=s1.toks) λb o e=>hx' b o (aAl<|aAf e) e;show wpAny _ _ (assignInOrder [λv=>bindName X.env y v,λv=>bindName X.env x v] [u2,u1]>>=λ_=>pure Flow.next) _ _ _;refine aAa (aEN<|wpAny_bindName<|P9 I3 hN hj (.inl hy) rw' (λs2 I4=>?_)<|.inr hy);refine aEN (wpAny_bindName<|P9 I4 hN hi (.inl hx) rv (λs3 I5=>assignInOrder_nil (aAb ?_))<|.inr hx);rw[List.set_comm _ _ (aBV jc)]at I5;exact⟨_,H1,I5,q1⟩
end
section
variable{X:Cx} {pos:Pos}
def XD (c:TT)(tb:TS):TS:=λD σ H=>∃W:Nat->St->Hp->Prop,(∃m,W m σ H)/\∀m σ H,W m σ H->
 c σ H λb H1=>if b=true then∃N:St->Hp->Prop,(∀ah H',N ah H'->∃m',m'<m/\W m' ah H')/\tb {D with nx:=N,ct:=N,bk:=D.nx} σ H1 else D.nx σ H1
def NR {c:Expr}{body:List Stmt}{tc:TT}{tb:TS}(hp:PassesOwn (model X.prog X.w) X.A X.env X.xe)(hc:PT X c tc)(hb:sW X body tb):PS X (.While c body [] pos) (XD tc tb):=by
 intro pins s σ H D I h;obtain⟨W,⟨m0,w0⟩,turn⟩:=h;refine wpAny_While (codeAny_whileLoop (λn s'=>∃ah H',Inv X pins ah H' s'/\W n ah H') ?_ m0 ⟨σ,H,I,w0⟩);rintro n s1 ⟨σ1,H1,I1,w1⟩;refine aCN hp (C1 (hc pins s1 σ1 H1 _ I1<|turn n σ1 H1 w1) λb s2 ⟨H2,I2,q2⟩=>?_);cases b with
 |true=>
  obtain⟨N,hN,q2⟩:=q2;rw[if_pos rfl];refine aCN hp (C1 (hb pins s2 σ1 H2 _ I2 q2) λf s3 q3=>?_);cases f with
  |next=>obtain⟨oh,H3,I3,n3⟩:=q3;obtain⟨m',hm,w3⟩:=hN oh H3 n3;exact⟨m',hm,oh,H3,I3,w3⟩
  |cont=>obtain⟨oh,H3,I3,n3⟩:=q3;obtain⟨m',hm,w3⟩:=hN oh H3 n3;exact⟨m',hm,oh,H3,I3,w3⟩
  |brk=>exact q3
  |ret v=>exact q3
 |false=>rw[if_neg aAQ];exact aEw ⟨σ1,H2,I2,q2⟩
end
structure It where
 go:Nat->Hp->Prop
 yld:Nat->Hp->V->Hp->Prop
 stop:Nat->Hp->Prop
def mE (X:Cx)(pins:M2)(H:Hp)(b:Addr):Prop:=
 H b=none/\b≠X.env.locals/\b∉X.fs/\(b∈X.ex\/X.s9.heap.objs.size<=b)/\(∀x c,X.env.cells.lookup x=some c->c≠b)/\∀p∈X.pn++pins,p.1≠b
def Inv.ae6 (I:Inv X pins σ H s)(hb:s.heap.objs.size<=b)(hn:H' b=none):mE X pins H' b:=by
 refine⟨hn,aCD (aAr I.lt hb),I.ag1 hb,.inr (aAs I.sz hb),λx c e z=>?_,λp hp z=>?_⟩
 ·obtain⟨v,q⟩:=I.cell x c e;exact absurd (aAr q.lt (by rw[z];exact hb)) (aBc _)
 ·exact absurd (aAr (aAf (I.pin p hp).1) (by rw[z];exact hb)) (aBc _)
structure Turn (P:Program)(w:World)(K:PySem.W.Frag)(tg:Expr)(J:It)(fp:List Addr)(it:Addr)(tn:Nat->Heap->Prop):Prop where
 mem:it∈fp
 obj:∀i h,tn i h->∀b∈fp,∃o,h.get? b=some o/\∀v,o.data≠.cell v
 keep:∀i h h',tn i h->(∀b∈fp,∀o,h.get? b=some o->h'.get? b=some o)->tn i h'
 item:∀(X:Cx),X.prog=P->X.w=w->X.K=K->X.calm=true->∀(i:Nat) (pins:M2) (s:Shared) (σ:St) (H:Hp) (E:C5),Inv X pins σ H s->(∀b∈fp,mE X pins H b)->tn i s.heap->J.go i H->
  wpAny (model P w) X.A (pyNext (.ref it)) (λr s1=>∃u,r=some u/\
   wpAny (model P w) X.A (letOwnedTupleGo tg (.ref it) u) (λ_ s2=>∃x H',Inv X pins σ H' s2/\RelV x u/\J.yld i H x H'/\tn (i+1) s2.heap/\∀b∈fp,H' b=none) E s1) E s
 done:∀(X:Cx),X.prog=P->X.w=w->X.K=K->X.calm=true->∀(i:Nat) (pins:M2) (s:Shared) (σ:St) (H:Hp) (E:C5),Inv X pins σ H s->(∀b∈fp,mE X pins H b)->tn i s.heap->J.stop i H->
  wpAny (model P w) X.A (pyNext (.ref it)) (λr s1=>r=none/\Inv X pins σ H s1) E s
 self:∀(A:Around) (i:Nat) (s:Shared) (Q:C5) (E:C5),tn i s.heap->Q (.ref it) s->wpAny (model P w) A (pyIter (.ref it)) Q E s
abbrev TI:=St->Hp->(It->Hp->Prop)->Prop
def xk (X:Cx)(pins:M2)(σ:St)(tg:Expr)(R:It->Hp->Prop)(itv:Value)(s2:Shared):Prop:=
 ∃(it:Addr) (fp:List Addr) (tn:Nat->Heap->Prop) (J:It) (H':Hp),itv=.ref it/\Inv X pins σ H' s2/\Turn X.prog X.w X.K tg J fp it tn/\tn 0 s2.heap/\(∀b∈fp,mE X pins H' b)/\R J H'
def PI (X:Cx)(tg A0:Expr)(wi:TI):Prop:=
 ∀(pins:M2) (s:Shared) (σ:St) (H:Hp) (R:It->Hp->Prop),Inv X pins σ H s->wi σ H R->
  wpAny (model X.prog X.w) X.A (eval A0 X.env) (λv s1=>wpAny (model X.prog X.w) X.A (pyIter v) (xk X pins σ tg R) X.xe s1) X.xe s
def JP {E : Value → Shared → Prop} {Q : Unit → Shared → Prop} (ho : s.heap.get? it = some o) (hc : o.cls = .type n) (hd : o.data = .fields vs) (hn : ["enumerate", "zip", "dict_itemiterator", "dict_reverseitemiterator", "odict_iterator", "itertools.zip_longest", "itertools.pairwise"].contains n = false) (hQ : Q () s) : wpAny M A (letOwnedTupleGo tg (.ref it) u) Q E s := by
  unfold letOwnedTupleGo;cases tg <;> first
    | exact aAb hQ
    | (cases u <;> first
        | exact aAb hQ
        | (refine aAa (wpAny_load ho ?_)
           rw [hc, hd];show wpAny M A (if (["enumerate", "zip", "dict_itemiterator", "dict_reverseitemiterator", "odict_iterator", "itertools.zip_longest", "itertools.pairwise"].contains n && vs[0]? == some (rawInt _)) = true then _ else _) Q E s;rw [if_neg (by intro h; rw [hn, Bool.false_and] at h; cases h)];exact aAb hQ))
def nk (K:PySem.W.Frag)(a:Addr):It:=
 ⟨λi H=>∃xs x,K0 K H a xs/\xs[i]?=some x,λi H x H'=>H'=H/\∀xs,K0 K H a xs->xs[i]?=some x,λi H=>∃xs,K0 K H a xs/\xs.length<=i⟩
def lz (K:PySem.W.Frag)(a:Addr):It:=
 ⟨λi H=>∃xs x,U1 K H a xs/\xs[i]?=some x,λi H x H'=>H'=H/\∀xs,U1 K H a xs->xs[i]?=some x,λi H=>∃xs,U1 K H a xs/\xs.length<=i⟩
def GE {P:Program}{w:World}{K:PySem.W.Frag}{tg:Expr}(a it:Addr):Turn P w K tg (nk K a) [it] it (λi h=>h.IsListIter it a i)where
 mem:=by simp
 obj:=λi h st b hb=>by
  have e:b=it:=by simpa using hb
  subst e;obtain⟨o,e,c,d⟩:=st;exact⟨o,e,λv z=>by rw[d]at z;cases z⟩
 keep:=λi h h' st k=>st.at λo e=>k it (by simp) o e
 item:=by intro X hP hw hK hc i pins s σ H E I hf st hg;subst hP hw hK;obtain⟨xs,x,hq,hx⟩:=hg;obtain⟨its,rv,p,hz⟩:=I.list hq;obtain⟨u,hu,ru⟩:=rv.get hx;obtain⟨f0,f1,f2,f3,f4,f5⟩:=hf it (by simp);refine wpAny_pyNext_list_item st p.isList (x:=u) (by simpa using hu) λh' st' sb=>?_;have I1:Inv X pins σ H {s with heap:=h'}:=I.turned (t':=s.toks) (λb o hb e=>(sb.2 b hb).trans e) f0 f1 f3 f4 f5;obtain⟨o,e,c,d⟩:=id st';exact⟨u,rfl,JP (s:={s with heap:=h'}) e c d (by decide) ⟨x,H,I1,ru,⟨rfl,λys hy=>by rw[I.ab0 hy hq];exact hx⟩,st',λb hb=>(hf b hb).1⟩⟩
 done:=by intro X hP hw hK hc i pins s σ H E I hf st hg;subst hP hw hK;obtain⟨xs,hq,hx⟩:=hg;obtain⟨its,rv,p,hz⟩:=I.list hq;obtain⟨f0,f1,f2,f3,f4,f5⟩:=hf it (by simp);have hl:=rv.length;exact wpAny_pyNext_list_end (I.ok.hd hc) st p.isList (by simp;lia) λh' eb=>⟨rfl,I.turned (t':=s.toks) (λb o hb e=>eb b o hb e) f0 f1 f3 f4 f5⟩
 self:=λ_ _ _ _ _ st h=>wpAny_pyIter_listiter st h
def BI {P:Program}{w:World}{K:PySem.W.Frag}{tg:Expr}(a it:Addr):Turn P w K tg (lz K a) [it] it (λi h=>h.IsTupleIter it a i)where
 mem:=by simp
 obj:=λi h st b hb=>by
  have e:b=it:=by simpa using hb
  subst e;obtain⟨o,e,c,d⟩:=st;exact⟨o,e,λv z=>by rw[d]at z;cases z⟩
 keep:=λi h h' st k=>st.at λo e=>k it (by simp) o e
 item:=by intro X hP hw hK hc i pins s σ H E I hf st hg;subst hP hw hK;obtain⟨xs,x,hq,hx⟩:=hg;obtain⟨its,rv,p,hz⟩:=I.tuple hq;obtain⟨u,hu,ru⟩:=rv.get hx;obtain⟨f0,f1,f2,f3,f4,f5⟩:=hf it (by simp);refine wpAny_pyNext_tuple_item st (show s.heap.IsTuple a its.toArray from p) (x:=u) (by simpa using hu) λh' st' sb=>?_;have I1:Inv X pins σ H {s with heap:=h'}:=I.turned (t':=s.toks) (λb o hb e=>(sb.2 b hb).trans e) f0 f1 f3 f4 f5;obtain⟨o,e,c,d⟩:=id st';exact⟨u,rfl,JP (s:={s with heap:=h'}) e c d (by decide) ⟨x,H,I1,ru,⟨rfl,λys hy=>by rw[I.ab5 hy hq];exact hx⟩,st',λb hb=>(hf b hb).1⟩⟩
 done:=by intro X hP hw hK hc i pins s σ H E I hf st hg;subst hP hw hK;obtain⟨xs,hq,hx⟩:=hg;obtain⟨its,rv,p,hz⟩:=I.tuple hq;obtain⟨f0,f1,f2,f3,f4,f5⟩:=hf it (by simp);have hl:=rv.length;exact wpAny_pyNext_tuple_end (I.ok.hd hc) st (show s.heap.IsTuple a its.toArray from p) (by simp;lia) λh' eb=>⟨rfl,I.turned (t':=s.toks) (λb o hb e=>eb b o hb e) f0 f1 f3 f4 f5⟩
 self:=λ_ _ _ _ _ st h=>wpAny_pyIter_tupleiter st h
end L2
namespace L2
open PySem PySem.Spec PyProof.Rows
section
variable{X:Cx} {tg:Expr}
def ZL (K:PySem.W.Frag)(tl:TE):TI:=λσ H R=>tl σ H λx H1=>∃a,x=.ref a/\(∃xs,K0 K H1 a xs)/\R (nk K a) H1
def nj (K:PySem.W.Frag)(tl:TE):TI:=λσ H R=>tl σ H λx H1=>∃a,x=.ref a/\(∃xs,U1 K H1 a xs)/\R (lz K a) H1
def OL (hl:PE X l tl):PI X tg l (ZL X.K tl):=by
 intro pins s σ H R I h;refine C1 (hl pins s σ H _ I h) λv s1 ⟨x,H1,I1,r1,q1⟩=>?_;obtain⟨a,e,⟨xs,hq⟩,q⟩:=q1;subst e;cases r1;obtain⟨its,rv,p,hz⟩:=I1.list hq;refine aDs p.isList ?_;refine⟨s1.heap.objs.size,[s1.heap.objs.size],_,_,H1,rfl,I1.kept (t':=s1.toks) λb o e=>aAc _ e,GE a _,⟨_,aAp _ rfl,rfl,rfl⟩,λb hb=>?_,q⟩;have e:b=s1.heap.objs.size:=by simpa using hb
 subst e;exact I1.ae6 (aAh _) (I1.hok.fresh<|aAh _)
def VP {l:Expr}{tl:TE}(hl:PE X l tl):PI X tg l (nj X.K tl):=by
 intro pins s σ H R I h;refine C1 (hl pins s σ H _ I h) λv s1 ⟨x,H1,I1,r1,q1⟩=>?_;obtain⟨a,e,⟨xs,hq⟩,q⟩:=q1;subst e;cases r1;obtain⟨its,rv,p,hz⟩:=I1.tuple hq;refine wpAny_pyIter_tuple (show s1.heap.IsTuple a its.toArray from p) ?_;refine⟨s1.heap.objs.size,[s1.heap.objs.size],_,_,H1,rfl,I1.kept (t':=s1.toks) λb o e=>aAc _ e,BI a _,⟨_,aAp _ rfl,rfl,rfl⟩,λb hb=>?_,q⟩;have e:b=s1.heap.objs.size:=by simpa using hb
 subst e;exact I1.ae6 (aAh _) (I1.hok.fresh<|aAh _)
def xq (wi:TI)(g:TG)(tb:TS):TS:=λD σ H=>wi σ H λJ H1=>∃W:Nat->Nat->St->Hp->Prop,(∃m,W 0 m σ H1)/\∀i m σ H,W i m σ H->
 (J.stop i H/\D.nx σ H)\/(J.go i H/\∃N:St->Hp->Prop,(∀ah H',N ah H'->∃m',m'<m/\W (i+1) m' ah H')/\∀x H',J.yld i H x H'->g x σ H' λue H2=>tb {D with nx:=N,ct:=N,bk:=D.nx} ue H2)
def pD (fp:List Addr)(h:Heap):List (Addr×Obj):=fp.filterMap λb=>(h.get? b).map λo=>(b,o)
def bC (hb:b∈fp)(e:h.get? b=some o):(b,o)∈pD fp h:=aBL.mpr ⟨b,hb,by rw[e];rfl⟩
def FK (hp:p∈pD fp h):p.1∈fp/\h.get? p.1=some p.2:=by
 obtain⟨b,hb,e⟩:=aBL.mp hp;cases q:h.get? b with
 |none=>rw[q]at e;cases e
 |some o=>rw[q]at e;have e':(b,o)=p:=aAj e;subst e';exact⟨hb,q⟩
def Inv.pinned (I:Inv X pins σ H s)(hf:∀b∈fp,mE X pins H b)(ho:∀b∈fp,∃o,s.heap.get? b=some o/\∀v,o.data≠.cell v):Inv X (pins++pD fp s.heap) σ H s:=
 I.ad1 λp hp=>(aAS.mp hp).elim (λz=>I.pin p (aAD _ z)) λz=>by obtain⟨hb,e⟩:=FK z;obtain⟨f0,f1,f2,_⟩:=hf p.1 hb;obtain⟨o,e',d⟩:=ho p.1 hb;rw[e]at e';cases e';exact⟨e,f0,f1,f2,d⟩
def Inv.ab1 (I:Inv X (pins++pl) σ H s):Inv X pins σ H s:=I.ad1 λp hp=>I.pin p (aAD _<|aBB _ hp)
def XU (hp:PassesOwn (model X.prog X.w) X.A X.env X.xe)(hc:X.calm=true)(hi:PI X tg A0 wi)(hg:PG X tg g)(hb:sW X body tb)(hs:∀x,foldedSetIterable A0 X.env x=pure x:=by intro _;rfl):PS X (.For tg A0 body [] pos) (xq wi g tb):=by
 intro pins s σ H D I h;refine wpAny_For (C1 (hi pins s σ H _ I h) λv s1 h1=>C1 h1 λitv s2 h2=>?_) hs;obtain⟨it,fp,tn,J,H2,e,I2,T,jr,f2,W,⟨m0,w0⟩,turn⟩:=h2;subst e;have stat:∀{H':Hp},(∀b∈fp,H' b=none)->∀b∈fp,mE X pins H' b:=λhn b hb=>⟨hn b hb,(f2 b hb).2⟩;refine codeAny_forLoop_any (λn s'=>∃i ah H',Inv X pins ah H' s'/\tn i s'.heap/\(∀b∈fp,H' b=none)/\W i n ah H') ?_ m0 ⟨0,σ,H2,I2,jr,λb hb=>(f2 b hb).1,w0⟩;rintro n s3 ⟨i,oh,H3,I3,st3,fr3,w3⟩;rcases turn i n oh H3 w3 with⟨stop,qn⟩|⟨go,N,hN,step⟩
 ·refine aCN hp (C1 (T.done X rfl rfl rfl hc i pins s3 oh H3 X.xe I3 (stat fr3) st3 stop) λr s4 ⟨hr,I4⟩=>?_);subst hr;exact aEw ⟨oh,H3,I4,qn⟩
 ·refine aCN hp (C1 (T.item X rfl rfl rfl hc i pins s3 oh H3 X.xe I3 (stat fr3) st3 go) λr s4 ⟨u,hr,h4⟩=>?_);subst hr;refine aCN hp (C1 h4 λ_ s5 ⟨x,H5,I5,r5,y5,st5,fr5⟩=>?_);have I5':=I5.pinned (stat fr5) (T.obj _ _ st5);refine aCN hp (C1 (hg _ s5 oh H5 x u _ I5' r5<|step x H5 y5) λ_ s6 ⟨σ6,H6,I6,q6⟩=>?_);refine aCN hp (C1 (hb _ s6 σ6 H6 _ I6 q6) λf s7 q7=>?_);have again:∀{ng:St} {H7:Hp},Inv X (pins++pD fp s5.heap) ng H7 s7->N ng H7->∃m,m<n/\∃i ah H',Inv X pins ah H' s7/\tn i s7.heap/\(∀b∈fp,H' b=none)/\W i m ah H':=λ{ng H7} I7 n7=>by obtain⟨m',hm,w7⟩:=hN ng H7 n7;refine⟨m',hm,i+1,ng,H7,I7.ab1,T.keep _ _ _ st5 λb hb o e=>(I7.pin (b,o)<|aAD _<|aAD _<|bC hb e).1,λb hb=>?_,w7⟩;obtain⟨o,e,d⟩:=T.obj _ _ st5 b hb;exact(I7.pin (b,o)<|aAD _<|aAD _<|bC hb e).2.1
  cases f with
  |next=>obtain⟨ng,H7,I7,n7⟩:=q7;exact again I7 n7
  |cont=>obtain⟨ng,H7,I7,n7⟩:=q7;exact again I7 n7
  |brk=>obtain⟨ng,H7,I7,q7⟩:=q7;exact⟨ng,H7,I7.ab1,q7⟩
  |ret v=>obtain⟨x7,ng,H7,I7,r7,q7⟩:=q7;exact⟨x7,ng,H7,I7.ab1,r7,q7⟩
end
end L2
namespace L2
open PySem PySem.Spec PyProof.Rows
abbrev R2:=V->V->Hp->VK->Prop
def jM (X:Cx)(f:Value->Value->Sem Value)(r:R2):Prop:=
 ∀(pins:M2) (s:Shared) (σ:St) (H:Hp) (x y:V) (v u:Value) (Q:VK),Inv X pins σ H s->RelV x v->RelV y u->r x y H Q->
  wpAny (model X.prog X.w) X.A (f v u) (EP X pins σ Q) X.xe s
def wz (X:Cx)(f:Value->Sem Value)(r:V->Hp->VK->Prop):Prop:=
 ∀(pins:M2) (s:Shared) (σ:St) (H:Hp) (x:V) (v:Value) (Q:VK),Inv X pins σ H s->RelV x v->r x H Q->
  wpAny (model X.prog X.w) X.A (f v) (EP X pins σ Q) X.xe s
def nK (X:Cx)(f:Value)(r:List V->Hp->VK->Prop):Prop:=
 ∀(pins:M2) (s:Shared) (σ:St) (H:Hp) (xs:List V) (us:List Value) (Q:VK),Inv X pins σ H s->l6 xs us->r xs H Q->
  wpAny (model X.prog X.w) X.A (call f us) (EP X pins σ Q) X.xe s
def tUn (r:V->Hp->VK->Prop)(ta:TE):TE:=λσ H Q=>ta σ H λx H1=>r x H1 Q
def rI (C:Int->Int->Prop)(g:Int->Int->V):R2:=λx y H Q=>∃i j,x=.int i/\y=.int j/\C i j/\Q (g i j) H
def QC (g:Int->Int->V):R2:=λx y H Q=>∃i j,x=.int i/\y=.int j/\Q (g i j) H
def rU (g:Int->V):V->Hp->VK->Prop:=λx H Q=>∃i,x=.int i/\Q (g i) H
section
variable{X:Cx} {a b c:Expr} {ta tb tc:TE} {pos:Pos}
def JI (ha:PE X a ta)(hb:PE X b tb){pins:M2}{s:Shared}{σ:St}{H:Hp}{R:V->V->Hp->Prop}(I:Inv X pins σ H s)
  (h:ta σ H λx H1=>tb σ H1 λy H2=>R x y H2) {Q:C5} {f:Value->Value->Sem Value}
  (hf:∀v u s2 x y H2,Inv X pins σ H2 s2->RelV x v->RelV y u->R x y H2->wpAny (model X.prog X.w) X.A (f v u) Q X.xe s2):
  wpAny (model X.prog X.w) X.A (eval a X.env) (λv aa=>wpAny (model X.prog X.w) X.A (eval b X.env) (λu fg=>wpAny (model X.prog X.w) X.A (f v u) Q X.xe fg) X.xe aa) X.xe s:=by
 refine C1 (ha pins s σ H _ I h) λv s1 ⟨x,H1,I1,r1,q1⟩=>?_;refine C1 (hb pins s1 σ H1 _ I1 q1) λu s2 ⟨y,H2,I2,r2,q2⟩=>?_;exact hf v u s2 x y H2 I2 r1 r2 q2
def bx {r:V->Hp->VK->Prop}(ho:wz X (unaryOp op) r)(ha:PE X a ta):PE X (.UnaryOp op a pos) (tUn r ta):=by intro pins s σ H Q I h;exact UnaryOp_ (C1 (ha pins s σ H _ I h) λv s1 ⟨x,H1,I1,r1,q1⟩=>ho pins s1 σ H1 x v Q I1 r1 q1)
def jw {f:Value->Value->Sem Value}{C:Int->Int->Prop}{g:Int->Int->Int}
  (rule:∀(i j:Int) (t u:Tok) (s:Shared) (Q:C5) (E:C5),C i j->Q (.int (g i j) s.toks) {s with toks:=s.toks+1}->wpAny (model X.prog X.w) X.A (f (.int i t) (.int j u)) Q E s):
  jM X f (rI C λi j=>.int (g i j)):=by
 intro pins s σ H x y v u Q I rx ry h;obtain⟨i,j,rfl,rfl,hc,q⟩:=h;obtain⟨t,rfl⟩:=rx;obtain⟨t',rfl⟩:=ry;exact rule i j t t' s _ _ hc ⟨.int (g i j),H,I.tok _,⟨_,rfl⟩,q⟩
def ax {f:Value->Value->Sem Value}{g:Int->Int->Int}
  (rule:∀(i j:Int) (t u:Tok) (s:Shared) (Q:C5) (E:C5),Q (.int (g i j) s.toks) {s with toks:=s.toks+1}->wpAny (model X.prog X.w) X.A (f (.int i t) (.int j u)) Q E s):
  jM X f (QC λi j=>.int (g i j)):=by
 intro pins s σ H x y v u Q I rx ry h;obtain⟨i,j,rfl,rfl,q⟩:=h;obtain⟨t,rfl⟩:=rx;obtain⟨t',rfl⟩:=ry;exact rule i j t t' s _ _ ⟨.int (g i j),H,I.tok _,⟨_,rfl⟩,q⟩
def PM {f:Value->Value->Sem Value}{g:Int->Int->Bool}
  (rule:∀(i j:Int) (t u:Tok) (s:Shared) (Q:C5) (E:C5),Q (.bool (g i j)) s->wpAny (model X.prog X.w) X.A (f (.int i t) (.int j u)) Q E s):
  jM X f (QC λi j=>.bl (g i j)):=by
 intro pins s σ H x y v u Q I rx ry h;obtain⟨i,j,rfl,rfl,q⟩:=h;obtain⟨t,rfl⟩:=rx;obtain⟨t',rfl⟩:=ry;exact rule i j t t' s _ _ ⟨.bl (g i j),H,I,rfl,q⟩
def wj (i j:Int):Prop:=0<=j/\j<=1000000/\i.natAbs<2^64
def WV:jM X (binaryOp .Add) (QC λi j=>.int (i+j)):=ax λ_ _ _ _ _ _ _ q=>add_int q
def WJ:jM X (binaryOp .Sub) (QC λi j=>.int (i-j)):=ax λ_ _ _ _ _ _ _ q=>sub_int q
def RY:jM X (binaryOp .Mod) (rI (λ_ j=>j≠0) λi j=>.int (i.fmod j)):=jw λ_ _ _ _ _ _ _ hc q=>mod_int' hc q
def UU:jM X (binaryOp .Pow) (rI wj λi j=>.int (i^j.toNat)):=jw λ_ _ _ _ _ _ _ hc q=>pow_int_small hc.1 hc.2.1 hc.2.2 q
def unI {f:Value->Sem Value}{g:Int->Int}
  (rule:∀(i:Int) (t:Tok) (s:Shared) (Q:C5) (E:C5),Q (.int (g i) s.toks) {s with toks:=s.toks+1}->wpAny (model X.prog X.w) X.A (f (.int i t)) Q E s):
  wz X f (rU λi=>.int (g i)):=by
 intro pins s σ H x v Q I rx h;obtain⟨i,rfl,q⟩:=h;obtain⟨t,rfl⟩:=rx;exact rule i t s _ _ ⟨.int (g i),H,I.tok _,⟨_,rfl⟩,q⟩
def WA:wz X (unaryOp .USub) (rU λi=>.int (-i)):=unI λ_ _ _ _ _ q=>neg_int q
end
section
variable{X:Cx} {a b c:Expr} {ta tb tc:TE} {pos:Pos}
def XF (I:Inv X pins σ H s)(q:Q (.bl k) H)(e:k=k'):EP X pins σ Q (.bool k') s:=by subst e;exact⟨.bl k,H,I,rfl,q⟩
def cq:jM X (compareOp .Lt) (QC λi j=>.bl (decide (i<j))):=PM λ_ _ _ _ _ _ _ q=>lt_int q
def az:jM X (compareOp .LtE) (QC λi j=>.bl (decide (i<=j))):=PM λ_ _ _ _ _ _ _ q=>le_int q
def YO:jM X (compareOp .Gt) (QC λi j=>.bl (decide (j<i))):=PM λ_ _ _ _ _ _ _ q=>gt_int q
def fx:jM X (compareOp .GtE) (QC λi j=>.bl (decide (j<=i))):=PM λ_ _ _ _ _ _ _ q=>ge_int q
def WY:jM X (compareOp .Is) (λx y H Q=>y=.non/\Q (.bl (decide (x=.non))) H):=by
 intro pins s σ H x y v u Q I rx ry h;obtain⟨rfl,q⟩:=h;cases ry;refine is_none_gen (XF I q ?_);cases x<;>first
  |(cases rx;rfl)
  |(obtain⟨t,rfl⟩:=rx;rfl)
def NB (b:Expr)(h:op≠.In:=by decide)(h2:op≠.NotIn:=by decide):behindInMarks op b=false:=by
 have e1:(op==CmpOp.In)=false:=by cases op<;>first|rfl|exact absurd rfl h
 have e2:(op==CmpOp.NotIn)=false:=by cases op<;>first|rfl|exact absurd rfl h2
 cases b<;>simp[behindInMarks,e1,e2]
def tY:(sizeLine:Nat)<2^63:=by rw[aFp];decide
def vals1 (r:l6 [x] us):∃u,us=[u]/\RelV x u:=by
 cases r with
 |cons r1 r2=>cases r2;exact⟨_,rfl,r1⟩
def vals2 (r:l6 [x,y] us):∃u w',us=[u,w']/\RelV x u/\RelV y w':=by
 cases r with
 |cons r1 r2=>
  cases r2 with
  |cons r3 r4=>cases r4;exact⟨_,_,rfl,r1,r3⟩
def MA:nK X (.builtin "abs") (λxs H Q=>∃i,xs=[.int i]/\Q (.int (if i<0 then-i else i)) H):=by intro pins s σ H xs us Q I r h;obtain⟨i,rfl,q⟩:=h;obtain⟨u,rfl,t,rfl⟩:=vals1 r;exact call_abs_int λu tk=>⟨.int (if i<0 then-i else i),H,I.tok _,⟨_,rfl⟩,q⟩
def HM (hc:X.calm=true):nK X (.builtin "max") (λxs H Q=>∃i j,xs=[.int i,.int j]/\Q (.int (if j>i then j else i)) H):=by
 intro pins s σ H xs us Q I r h;obtain⟨i,j,rfl,q⟩:=h;obtain⟨u,w',rfl,⟨t,rfl⟩,⟨t',rfl⟩⟩:=vals2 r;refine max_two_ints (I.ok.hd hc) λh' tk k=>⟨_,H,I.kept k,?_,q⟩;by_cases hj:j>i
 ·rw[if_pos hj,if_pos hj];exact⟨_,rfl⟩
 ·rw[if_neg hj,if_neg hj];exact⟨_,rfl⟩
end
end L2
namespace L2
open PySem PySem.Spec PyProof.Rows
section
variable{prog:Program} {w:World} {A:Around} {E:C5} {s:Shared} {K:PySem.W.Frag} {x dx C f:Addr} {mA:bX} {name:Str} {v:Value}
end
section
variable{P:Program} {w:World} {H H':Hp} {h h':Heap} {a C dx:Addr} {fs wc:List (Str×V)}
end
section
variable{X:Cx} {pins:M2} {σ:St} {H:Hp} {s:Shared} {a C dx:Addr} {fs:List (Str×V)} {f:Str} {v:V} {A:Around} {E:C5}
end
section
variable{X:Cx} {o e value:Expr} {f:Str} {pos pos' tpos:Pos} {ta tv:TE}
end
section
variable{X:Cx} {pins:M2} {σ:St} {H:Hp} {s:Shared} {A:Around} {E:C5} {Q:C5} {c:Value} {b:Bool}
end
end L2
namespace L2
open PySem PySem.Spec PyProof.Rows
structure Room (k:Nat)(A:Around):Prop where
 hd:A.handled=none
 dp:A.depth+3*k+5<recursionLimit
 un:A.units+16*k+200<cLine
def Room.mono (r:Room k A)(h:j<=k):Room j A:=⟨r.hd,by have:=r.dp;lia,by have:=r.un;lia⟩
def Room.deeper (r:Room (k+1) A)(env:Env):Room k (A.deeper env):=
 ⟨r.hd,by have:=r.dp;show A.depth+1+3*k+5<_;lia,by have:=r.un;show A.units+3+16*k+200<_;lia⟩
def Room.depth (r:Room k A):A.depth<recursionLimit:=by have:=r.dp;lia
def Room.units (r:Room k A):A.units+64<cLine:=by have:=r.un;lia
def kj:TA:=λ_ H Q=>Q [] H
def cx (ta:TE)(tr:TA):TA:=λσ H Q=>ta σ H λx H1=>tr σ H1 λxs H2=>Q (x::xs) H2
section
variable{X:Cx} {e:Expr} {es:List Expr} {te:TE} {t:TA} {pos:Pos}
def fG:PA X [] kj:=λ_ _ _ _ H Q I h=>aFf ⟨[],H,I,.nil,h⟩
def S6 (ha:PE X e te)(hr:PA X es t)(hs:starEach (e::es) X.env=(false,eval e X.env)::starEach es X.env:=by rfl):PA X (e::es) (cx te t):=by intro pos pins s σ H Q I h;rw[hs];show wpAny _ _ (spliced ((false,eval e X.env)::backTo pos (starEach es X.env))) _ _ s;refine aEO (C1 (ha pins s σ H _ I h) λu s1 ⟨x,H1,I1,r1,q1⟩=>?_);exact C1 (hr pos pins s1 σ H1 _ I1 q1) λus s2 ⟨xs,H2,I2,r2,q2⟩=>⟨x::xs,H2,I2,.cons r1 r2,q2⟩
def oj (t:TA):TE:=λσ H Q=>t σ H λxs H1=>xs.length<=sizeLine/\∀p,H1 p=none->Q (.ref p) (upd H1 p<|.tup xs)
def xy (t:TA):TE:=λσ H Q=>t σ H λxs H1=>xs.length<=sizeLine/\∀p,H1 p=none->Q (.ref p) (upd H1 p<|.lst xs)
def XN {x1}(h:PA X es t):PE X (.Tuple es x1 pos) (oj t):=by intro pins s σ H Q I hq;refine wpAny_Tuple_spliced (C1 (h pos pins s σ H _ I hq) λus s1 ⟨xs,H1,I1,r,z,q⟩=>⟨by rw[<-r.length];exact z,?_⟩);have hf:H1 s1.heap.objs.size=none:=I1.hok.fresh (aAh _);refine⟨.ref s1.heap.objs.size,upd H1 s1.heap.objs.size (.tup xs),I1.laid (t':=s1.toks) (λb u e=>aAc _ e) (aAh _) ?_,rfl,q _ hf⟩;exact⟨z,us,r,⟨_,aAp _ rfl,rfl,_,rfl⟩⟩
def NP (h:PA X es t):PE X (.List es pos) (xy t):=by intro pins s σ H Q I hq;refine wpAny_List_spliced (C1 (h pos pins s σ H _ I hq) λus s1 ⟨xs,H1,I1,r,z,q⟩=>⟨by rw[<-r.length];exact z,?_⟩);have hf:H1 s1.heap.objs.size=none:=I1.hok.fresh (aAh _);refine⟨.ref s1.heap.objs.size,upd H1 s1.heap.objs.size (.lst xs),I1.laid (t':=s1.toks) (λb u e=>aAc _ e) (aAh _) ?_,rfl,q _ hf⟩;exact⟨z,us,0,r,aAp _ rfl⟩
end
abbrev Sp:=List V->Hp->VK->XK->Prop
abbrev OA:=List Env->Hp->Shared->XK->Value->Shared->Prop
structure Env0 (P:Program)(w:World)(K:PySem.W.Frag)(mg:bX)(base:Heap)(A:Around)(outer:List Env)(s:Shared)(H:Hp):Prop where
 frames:A.frames=some outer
 mod:Mod K mg base
 bs:∀b o,base.get? b=some o->s.heap.get? b=some o/\H b=none
 bsz:base.objs.size<=s.heap.objs.size
 funs:s.heap.FunFrames base outer
 frf:∀b∈xD outer,H b=none
 hok:fF P w H s.heap
 bare:AllBare s.gens
def CE (outer:List Env)(P:Program)(w:World)(H:Hp)(s:Shared)(Q:VK)(u:Value)(s':Shared):Prop:=
 ∃v H',s'.os=s.os/\AllBare s'.gens/\Un (xD outer) [] H H' s.heap s'.heap/\fF P w H' s'.heap/\RelV v u/\Q v H'
def CR (CX:OA)(outer:List Env)(P:Program)(w:World)(H:Hp)(s:Shared)(Q:VK)(E:XK)(r:Result)(s':Shared):Prop:=
 match r with
 |.ok (.ret u)=>CE outer P w H s Q u s'
 |.ok _=>False
 |.error e=>CX outer H s E e s'
structure FnOk (P:Program)(w:World)(K:PySem.W.Frag)(mg:bX)(base:Heap)(CX:OA)(k:Nat)(f:Addr)(fd:FuncData)(ps:List Str)(sp:Sp):Prop where
 len:∀vs H Q E,sp vs H Q E->vs.length=ps.length
 run:∀(A:Around) (outer:List Env) (s:Shared) (H:Hp) (args:Args) (us:List Value) (vs:List V) (Q:VK) (E:XK),Room k A->Env0 P w K mg base A outer s H->BindsTo s fd args (ps.zip us)->l6 vs us->sp vs H Q E->
  codeAny (model P w) A (.call (.ref f) args) (CR CX outer P w H s Q E) s
def FnOk.imp {P:Program}{w:World}{K:PySem.W.Frag}{mg:bX}{base:Heap}{CX:OA}{k:Nat}{f:Addr}{fd:FuncData}{ps:List Str}{sp sp':Sp}(F:FnOk P w K mg base CX k f fd ps sp)
  (h:∀vs H Q E,sp' vs H Q E->sp vs H Q E):FnOk P w K mg base CX k f fd ps sp':=
 ⟨λvs H Q E q=>F.len vs H Q E (h _ _ _ _ q),λA outer s H args us vs Q E hr he hb hv hs=>F.run A outer s H args us vs Q E hr he hb hv (h _ _ _ _ hs)⟩
section
variable{X:Cx} {pins:M2} {σ:St} {H:Hp} {s s':Shared}
def Inv.af1 (I:Inv X pins σ H s):Env0 X.prog X.w X.K X.mg X.base X.A X.stack s H:=
 ⟨I.ok.frames,I.ok.mod,I.bs,aAs I.ok.bsz I.sz,I.stack,I.ad3,I.hok,I.bare⟩
def Inv.after (I:Inv X pins σ H s)(h:CE X.stack X.prog X.w H s Q u s'):EP X pins σ Q u s':=by obtain⟨v,H',os,bare,un,hok,r,q⟩:=h;obtain⟨hh,g,d,t,os'⟩:=s';obtain rfl:os'=s.os:=os;exact⟨v,H',I.call (h':=hh) (g':=g) (d':=d) (t':=t) (ch:=[]) un hok bare (λb z=>absurd z (by simp)),r,q⟩
end
def aq (sp:Sp)(zb:List V)(E:XK)(t:TA):TE:=λσ H Q=>t σ H λvs H1=>sp (vs++zb) H1 Q E
def Binds (K:PySem.W.Frag)(fd:FuncData)(ps:List Str)(ds:List Value):Prop:=
 ∀(s:Shared) (us:List Value),K.In s.heap->(us++ds).length=ps.length->BindsTo s fd ⟨us,[]⟩ (ps.zip<|us++ds)
def Binds.all {K:PySem.W.Frag}{fd:FuncData}{ps:List Str}(h:∀us:List Value,us.length=ps.length->bindArgs fd ⟨us,[]⟩=pure (ps.zip us)):Binds K fd ps []:=λs us _ hl=>by rw[aCv]at hl⊢;exact .of_eq (h us hl)
def zN (CX:OA)(X:Cx)(E:XK):Prop:=∀(pins:M2) (σ:St) (H:Hp) (s:Shared) (e:Value) (s':Shared),Inv X pins σ H s->CX X.stack H s E e s'->X.xe e s'
section
variable{X:Cx} {CX:OA} {k:Nat} {f C:Addr} {fd:FuncData} {ps:List Str} {sp:Sp} {zb:List V} {ds:List Value} {E:XK} {x m:Str} {p pos apos:Pos} {e o:Expr} {es:List Expr} {ta:TE} {t:TA}
def UW (F:FnOk X.prog X.w X.K X.mg X.base CX k f fd ps sp)(hr:Room k X.A)(hb:Binds X.K fd ps ds)(hd:l6 zb ds)(hx:zN CX X E)(I:Inv X pins σ H s)(r:l6 vs us)(h:sp (vs++zb) H Q E):wpAny (model X.prog X.w) X.A (call (.ref f) us) (EP X pins σ Q) X.xe s:=by
 have r2:l6 (vs++zb) (us++ds):=r.append hd;have hl:(us++ds).length=ps.length:=by rw[<-r2.length];exact F.len _ _ _ _ h
 refine wpAny_call (aDG (F.run X.A X.stack s H ⟨us,[]⟩ (us++ds) (vs++zb) Q E hr I.af1 (hb s us I.kIn hl) r2 h) λr s' hq=>?_);cases r with
 |error e=>exact hx pins σ H s e s' I hq
 |ok fl=>
  cases fl with
  |ret u=>exact I.after hq
  |next=>exact aAi hq
  |brk=>exact aAi hq
  |cont=>exact aAi hq
def RX (F:FnOk X.prog X.w X.K X.mg X.base CX k f fd ps sp)(hr:Room k X.A)(hg:Gl X x)(hm:X.mg x=some (.ref f))(hk:PySem.W.keepIn X.K (.ref f)=true)(hb:Binds X.K fd ps ds)(hd:l6 zb ds)(hx:zN CX X E)
  (ha:PA X (e::es) t) (gv:(x==("__debug__":Str))=false:=by decide) (he:starEach (e::es) X.env=(false,eval e X.env)::starEach es X.env:=by rfl) (bh:(backTo pos (starEach es X.env)).any (·.1)=false:=by rfl):
  PE X (.Call (.Name x p) (e::es) [] pos) (aq sp zb E t):=by
 intro pins s σ H Q I h;refine aAT (tN I hg hm ?_ gv);refine PySem.W.callWith_K (h₀:=X.base) I.ok.mod.kin hk (C1 (ha pos pins s σ H _ I h) λus s1 ⟨vs,H1,I1,r,q⟩=>⟨I1.kIn,?_⟩) he bh;exact UW F hr hb hd hx I1 r q
end
section
variable{X:Cx} {CX:OA} {k:Nat} {f C:Addr} {fd:FuncData} {ps ks:List Str} {sp:Sp} {E:XK} {x m:Str} {p pos apos kpos:Pos} {e o:Expr} {es:List Expr} {kws:List Keyword} {te ta:TE} {t tk:TA} {nm:Option Str}
variable{g:List Value->List Value->List Value} {gV:List V->List V->List V}
end
structure FnScope (N P:List Str)(sc:Scope):Prop where
 kind:sc.kind=.function
 co:sc.isCoroutine=false
 gen:sc.isGenerator=false
 nd:N.Nodup
 pre:N.take P.length=P
 par:∀x∈P,sc.names.lookup x=some .local\/sc.names.lookup x=some .cell
 nofree:∀y∈sc.names,y.2≠.free
theorem rH {kindOf:Str->Option NameKind}{x:Str}:∀{binds:List (Str×Value)} {m:bX},(∀v,(x,v)∉binds)->bindL kindOf binds m x=m x
 |[],_,_=>rfl
 |(n,v)::r,m,h=>by
  unfold bindL;rw[rH λw hw=>h w (aAe _ hw)];split
  ·have:x≠n:=by rintro rfl;exact h v aAP
   simp[this]
  ·rfl
theorem qZ {kindOf:Str->Option NameKind}{x:Str}:∀{binds:List (Str×Value)} {m:bX},(∀v,(x,v)∉binds)->bindC kindOf binds m x=m x
 |[],_,_=>rfl
 |(n,v)::r,m,h=>by
  unfold bindC;rw[qZ λw hw=>h w (aAe _ hw)];split
  ·rfl
  ·have:x≠n:=by rintro rfl;exact h v aAP
   simp[this]
theorem rD {kindOf:Str->Option NameKind}{x:Str}{v:Value}:∀{P:List Str} {vs:List Value} {i:Nat} {m:bX},P.Nodup->P[i]?=some x->vs[i]?=some v->kindOf x=some .local->
  bindL kindOf (P.zip vs) m x=some v
 |[],_,_,_,_,h,_,_=>by simp at h
 |_::_,[],_,_,_,_,h,_=>by simp at h
 |p::P,w::vs,0,m,nd,h1,h2,hk=>by simp at h1 h2;subst h1;subst h2;show bindL kindOf ((p,w)::P.zip vs) m p=_;unfold bindL;rw[rH λv hv=>(aAJ.mp nd).1 (aDN hv).1,if_pos hk];simp
 |p::P,w::vs,i+1,m,nd,h1,h2,hk=>by show bindL kindOf ((p,w)::P.zip vs) m x=_;unfold bindL;exact rD (i:=i) (aAJ.mp nd).2 (by simpa using h1) (by simpa using h2) hk
theorem qS {kindOf:Str->Option NameKind}{x:Str}{v:Value}:∀{P:List Str} {vs:List Value} {i:Nat} {m:bX},P.Nodup->P[i]?=some x->vs[i]?=some v->kindOf x≠some .local->
  bindC kindOf (P.zip vs) m x=some v
 |[],_,_,_,_,h,_,_=>by simp at h
 |_::_,[],_,_,_,_,h,_=>by simp at h
 |p::P,w::vs,0,m,nd,h1,h2,hk=>by simp at h1 h2;subst h1;subst h2;show bindC kindOf ((p,w)::P.zip vs) m p=_;unfold bindC;rw[qZ λv hv=>(aAJ.mp nd).1 (aDN hv).1,if_neg hk];simp
 |p::P,w::vs,i+1,m,nd,h1,h2,hk=>by show bindC kindOf ((p,w)::P.zip vs) m x=_;unfold bindC;exact qS (i:=i) (aAJ.mp nd).2 (by simpa using h1) (by simpa using h2) hk
def start (N:List Str)(vs:List V):St:=vs.map some++aCI (N.length-vs.length) none
def yT (CX:OA)(P:Program)(w:World)(K:PySem.W.Frag)(mg:bX)(base:Heap)(N:List Str)(qual:Str)(scope:Scope)(f:Addr)(cd:Value)(A:Around)(outer:List Env)(s:Shared)(H:Hp)(E:XK):Cx where
 prog:=P
 w:=w
 K:=K
 mg:=mg
 base:=base
 A:=A.deeper (envOfC qual scope s.heap.objs.size f cd)
 N:=N
 s9:=s
 H9:=H
 env:=envOfC qual scope s.heap.objs.size f cd
 outer:=outer
 stack:=envOfC qual scope s.heap.objs.size f cd::outer
 ex:=[]
 calm:=true
 fn:=λ_=>true
 pn:=[]
 xe:=λe s'=>wpAny (model P w) (A.deeper<|envOfC qual scope s.heap.objs.size f cd) (leaving (envOfC qual scope s.heap.objs.size f cd) e) (λ_ s''=>CX outer H s E e s'') (λe' s''=>CX outer H s E e' s'') s'
def vD {sc:Scope}{n:Nat}{x:Str}(h:sc.names.lookup x=some .cell):∃c,(cellsFrom n sc.names []).lookup x=some c:=by have q:=PySem.W.cellsFrom_some sc.names n [] (.inl h);exact aDH.mp q
def GG {CX:OA}{P:Program}{w:World}{K:PySem.W.Frag}{mg:bX}{base:Heap}{N ps:List Str}{qual:Str}{scope:Scope}{f:Addr}{cd:Value}{A:Around}{outer:List Env}{s s1:Shared}{H:Hp}{E:XK}{us:List Value}{vs:List V}
  (S:FnScope N ps scope) (hd:A.handled=none) (e0:Env0 P w K mg base A outer s H) (hl:vs.length=ps.length) (r:l6 vs us)
  (x:InCallC s s.heap.objs.size (bindL (envOfC qual scope s.heap.objs.size f cd).kindOf (ps.zip us) λ_=>none) (cellsFrom (s.heap.objs.size+1) scope.names []) (bindC (envOfC qual scope s.heap.objs.size f cd).kindOf (ps.zip us) λ_=>none) s1):
  Inv (yT CX P w K mg base N qual scope f cd A outer s H E) [] (start N vs) H s1:=by
 have bh:ps.length<=N.length:=by have:=congrArg List.length S.pre;rw[aBI]at this;lia
 obtain⟨h1,tk,rfl,hk⟩:=x.done;have noA:∀b:Addr,b∉(yT CX P w K mg base N qual scope f cd A outer s H E).ex:=λb z=>absurd (show b∈([]:List Addr)from z) (by simp);refine⟨⟨e0.mod,S.kind,rfl,rfl,aAh _,λy z c h1 h2=>?_,λy hy=>?_,λy c _ h=>?_,λ_=>hd,aFN e0.frames,.inr ⟨rfl,rfl⟩,λb z=>absurd z (noA b),e0.bs,e0.bsz,λb _ _=>noA b,λb z=>absurd z (noA b),e0.funs,e0.frf⟩,
  rfl,e0.bare,Un.kept hk,⟨_,x.toInCall.ns,λi y v h1 h2 h3=>?_⟩,λy c h=>⟨_,x.cell y c h⟩,e0.hok.fresh (aAh _),λy c h=>?_,λp hp=>absurd (show p∈([]:M2)from hp) (by simp),e0.hok.kept hk,?_⟩
 ·exact name_of_addr x.apart (PySem.mem_of_lookup h1) (PySem.mem_of_lookup h2)
 ·have hy:scope.names.lookup y=some .cell\/scope.names.lookup y=some .free:=hy;rcases hy with hy|hy
  ·exact vD hy
  ·exact absurd rfl (S.nofree _<|PySem.mem_of_lookup hy)
 ·exact aDi (x.above y c<|PySem.mem_of_lookup h)
 ·have hi:i<vs.length:=by
   unfold start at h2;by_cases hi:i<vs.length
   ·exact hi
   ·rw[aAx (by simpa using hi)]at h2;rw[aBm]at h2;split at h2<;>cases h2
  have ha:vs[i]?=some v:=by
   unfold start at h2;rw[aAO (by simpa using hi),aAG]at h2;cases e:vs[i]? with
   |none=>rw[e]at h2;cases h2
   |some a=>rw[e]at h2;cases h2;rfl
  obtain⟨u,hu,rv⟩:=r.get ha;have hp:ps[i]?=some y:=by rw[<-S.pre,List.getElem?_take_of_lt (by lia)];exact h1
  have ndP:ps.Nodup:=by rw[<-S.pre];exact S.nd.sublist (List.take_sublist _ _)
  refine⟨u,rv,?_⟩;rcases S.par y (aAv hp)with k|k
  ·exact .inl ⟨k,rD ndP hp hu k⟩
  ·obtain⟨c,e⟩:=vD (n:=s.heap.objs.size+1) k;refine .inr ⟨.inl k,c,e,?_⟩;have q:=x.cell y c e;rw[qS ndP hp hu (by show scope.names.lookup y≠_;rw[k];decide)]at q;exact q
 ·exact e0.hok.fresh (aDi<|x.above y c<|PySem.mem_of_lookup h)
 ·unfold start;show _=N.length;rw[aAE,aAm,aCe]
  lia
def TY {CX:OA}{P:Program}{w:World}{K:PySem.W.Frag}{mg:bX}{base:Heap}{k:Nat}{f:Addr}{name qual:Str}{params:Arguments}{body:List Stmt}{scope:Scope}{dV kV doc pm cdv ct oc:Value}{an od:Option Addr}
  {osl:Array (Option Value)} {N ps:List Str} {sp:Sp} (lk:K.lookup f=some ⟨oc,od,.func (PySem.W.fnOf name qual params body scope dV kV doc pm an cdv ct),osl⟩) (fb:PySem.W.codeIn K cdv qual=true) (S:FnScope N ps scope)
  (len:∀vs H Q E,sp vs H Q E->vs.length=ps.length)
  (uf:∀(A:Around) (outer:List Env) (s:Shared) (H:Hp) (vs:List V) (Q:VK) (E:XK),Room k (A.deeper (envOfC qual scope s.heap.objs.size f cdv))->sp vs H Q E->
   ∃t,sW (yT CX P w K mg base N qual scope f cdv A outer s H E) body t/\t {nx:=λ_ H'=>Q .non H',rt:=Q} (start N vs) H):
  FnOk P w K mg base CX (k+1) f (PySem.W.fnOf name qual params body scope dV kV doc pm an cdv ct) ps sp:=by
 refine⟨len,λA outer s H args us vs Q E hr e0 hb r hsp=>?_⟩;have hl:=len _ _ _ _ hsp;have KX:K.In s.heap:=e0.mod.kin.keeps λb o e=>(e0.bs b o e).1;have lim:s.heap.NoLimit:=e0.mod.nolimit.keeps λb o e=>(e0.bs b o e).1;have me:∀y∈ps.zip us,scope.names.lookup y.1=some .local\/(scope.names.lookup y.1=some .cell/\((cellsFrom (s.heap.objs.size+1) scope.names []).lookup y.1).isSome=true):=λ⟨n,v⟩ hy=>by
  rcases S.par n (aDN hy).1 with q|q
  ·exact .inl q
  ·exact .inr ⟨q,PySem.W.cellsFrom_some _ _ _ (.inl q)⟩
 refine codeAny_call_function hr.depth (KX _ _ lk) rfl S.co S.gen rfl (PySem.W.codeRec_of KX fb) (hb _ _ _ _ ?_);refine wpAny_newFunctionEnv_cells S.kind me λenv he s1 x=>?_;subst he;refine⟨lim.keeps x.toInCall.keep,codeAny_func ?_⟩;obtain⟨t,ht,hq⟩:=uf A outer s H vs Q E (hr.deeper _) hsp;have I:Inv (yT CX P w K mg base N qual scope f cdv A outer s H E) [] (start N vs) H s1:=GG S hr.hd e0 hl r x;refine aCj (ht [] s1 (start N vs) H _ I hq) (λfl s' hs=>?_) λe s' hs=>hs;have fin:∀{ah:St} {H':Hp} {v:V} {u:Value},Inv (yT CX P w K mg base N qual scope f cdv A outer s H E) [] ah H' s'->RelV v u->Q v H'->CE outer P w H s Q u s':=
  λ{ah H' v u} J rv q=>⟨v,H',J.os,J.bare,J.base,J.hok,rv,q⟩
 cases fl with
 |ret u=>obtain⟨v,ah,H',J,rv,q⟩:=hs;exact fin J rv q
 |next=>obtain⟨ah,H',J,q⟩:=hs;exact fin (v:=V.non) (u:=Value.none) J rfl q
 |brk=>obtain⟨_,_,_,q⟩:=hs;exact aAi q
 |cont=>obtain⟨_,_,_,q⟩:=hs;exact aAi q
end L2
namespace L2
open PySem PySem.Spec PyProof.Rows
section
variable{X:Cx} {x:Str} {p pos:Pos} {e:Expr} {es:List Expr} {t:TA} {id T:String} {r:List V->Hp->VK->Prop}
end
end L2
namespace HT
open PySem PyProof.Rows
def lexLt:List Int->List Int->Bool
 |[],[]=>false
 |[],_::_=>true
 |_::_,[]=>false
 |x::xs,y::ys=>if x=y then lexLt xs ys else decide (x<y)
def E6 (x y:Int)(xs ys:List Int):lexLt (x::xs) (y::ys)=if x=y then lexLt xs ys else decide (x<y):=rfl
def X8:lexLt [] []=false:=rfl
def K3 (y:Int)(ys:List Int):lexLt [] (y::ys)=true:=rfl
def A6 (x:Int)(xs:List Int):lexLt (x::xs) []=false:=rfl
def yA (A:Around)(s:Shared)(a:Int)(t:Tok)(c:Int)(u:Tok):∃e,SeqAt.EqAt A s (.int a t) (.int c u) e/\(e=true↔a=c):=
 ⟨(a==c),aEP a t c u,by simp⟩
def wV (A:Around)(s:Shared)(a:Int)(t:Tok)(c:Int)(u:Tok)(prog:Program)(w:World)(E:C5)(Q:C5)(h:Q (.bool (decide (a<c))) s):
  wpAny (model prog w) A (richCompare .Lt (.int a t) (.int c u)) Q E s:=
 (PyProof.Rows.lt_int h:wpAny (model prog w) A (compareOp .Lt (.int a t) (.int c u)) Q E s)
section
open PySem.SeqAt
open PySem.AutoSeq1 (wpAny_loadPart')
open PySem.MeetsSeq PySem.MeetsSeq2 PySem.MeetsSeq3
def pZ (l b:Addr)(items ao:Array Value)(n n2:Nat)(dd ug:Option Addr)(sl sr:Array (Option Value))(ns ms:List Int)(hi:IntsAre items.toList ns)(hj:IntsAre ao.toList ms):
  Meets (Builtin.«tuple.__lt__» ⟨[.ref l,.ref b],[]⟩)
   (λ_ R s=>s.heap.get? l=some {cls:=.type "tuple",dict:=dd,data:=.seq items n,slots:=sl}/\s.heap.get? b=some {cls:=.type "tuple",dict:=ug,data:=.seq ao n2,slots:=sr}/\
    R (.ok (.ret (.bool (lexLt ns ms)))) s):=
 .of_wp λprog w A R s h=>by
  obtain⟨hp,g,d,tk,os⟩:=s;obtain⟨hl,hb,h⟩:=h;have f2:=AutoSeq1.sub_tuple_tuple;have z1:items.size=ns.length:=by rw[<-hi.length];simp
  have z2:ao.size=ms.length:=by rw[<-hj.length];simp
  wp_walk using aEx hl,aEx hb,aCl _ (λrest b s'=>b.1=none/\s'=⟨hp,g,d,tk,os⟩/\∃(vs ws:List Value) (sv td:List Int),rest=vs.zip ws/\
   IntsAre vs sv/\IntsAre ws td/\sv.length+ao.size=td.length+items.size/\R (.ok (.ret (.bool (lexLt sv td)))) ⟨hp,g,d,tk,os⟩) _
  case turn=>
   rintro⟨y,x⟩ rest b s' ⟨iu,rfl,vs,ws,sv,td,hz,tf,xt,hlen,hR⟩;cases tf with
   |nil=>rw[List.zip_nil_left]at hz;cases hz
   |cons a t hvi'=>
    cases xt with
    |nil=>rw[List.zip_nil_right]at hz;cases hz
    |cons c u hwi'=>
     rw[aBM]at hz;injection hz with zc af;injection zc with hy hx;subst hy hx;rw[E6]at hR;simp only[aAw]at hlen;obtain⟨e,he,uh⟩:=yA A.in1 ⟨hp,g,d,tk,os⟩ a t c u;refine aAa (he prog w _ _ ?_);cases e with
     |true=>
      rw[if_pos (uh.mp rfl)]at hR
      wp_walk
      exact⟨rfl,rfl,_,_,_,_,af,hvi',hwi',by lia,hR⟩
     |false=>
      rw[if_neg (λq=>absurd (uh.mpr q) aAQ)]at hR;have hri:=wV A.in1 ⟨hp,g,d,tk,os⟩ a t c u prog w
      wp_walk using hri
      exact⟨_,rfl,by simpa using hR⟩
  case fin=>
   rintro⟨b1,b2⟩ s' ⟨iu,rfl,vs,ws,sv,td,hz,tf,xt,hlen,hR⟩;simp only at iu;subst iu;have hv:lexLt sv td=decide (items.size<ao.size):=by
    cases tf with
    |nil=>
     cases xt with
     |nil=>simp only[aBo]at hlen;rw[X8];exact(decide_eq_false (by lia)).symm
     |cons c u hw=>simp only[aBo,aAw]at hlen;rw[K3];exact(decide_eq_true (by lia)).symm
    |cons a t hv=>
     cases xt with
     |nil=>simp only[aBo,aAw]at hlen;rw[A6];exact(decide_eq_false (by lia)).symm
     |cons c u hw=>rw[aBM]at hz;cases hz
   rw[hv]at hR
   wp_walk
   exact⟨_,rfl,by simpa[Builtin.Tuple.tupleCompareSizes]using hR⟩
  case h=>exact⟨rfl,rfl,items.toList,ao.toList,ns,ms,rfl,hi,hj,by lia,h⟩
end
section
variable{prog:Program} {w:World} {A:Around} {E:C5} {s:Shared}
def lt_tupInts {Q:C5}(hl:IsTup s.heap l items)(hb:IsTup s.heap b ao)(hi:IntsAre items.toList ns)(hj:IntsAre ao.toList ms)(hu:A.units<cLine)(h:Q (.bool (lexLt ns ms)) s):wpAny (model prog w) A (compareOp .Lt (.ref l) (.ref b)) Q E s:=by
 obtain⟨⟨cls,dd,data,sl⟩,ho,hc,n,hd⟩:=id hl;obtain⟨⟨cls2,ug,data2,sr⟩,jt,jf,n2,hd2⟩:=id hb;simp only at hc hd jf hd2;subst hc hd jf hd2;exact richCompare_meets_room (op:=.Lt) ⟨_,ho,rfl⟩ ⟨_,jt,rfl⟩ PySem.F.slot_tuple_lt PySem.F.entry_tuple_lt (PySem.F.args_tuple_lt_2 _ _) (pZ l b items ao n n2 dd ug sl sr ns ms hi hj)
  ⟨ho,jt,show aDq (lexLt ns ms)≠Value.notImplemented/\Q (.bool (lexLt ns ms)) s from⟨(λx=>nomatch x),h⟩⟩ hu
def cat_tup {Q:C5}(ht:IsTup s.heap t vs.toArray)(hb:IsTup s.heap b ws.toArray)(hv:vs≠[])(h1:ws=[]->Q (.ref t) s)(h2:ws≠[]->Q (.ref s.heap.objs.size) {s with heap:=s.heap.push {cls:=.type "tuple",data:=.seq (vs++ws).toArray}})(hsz:vs.length+ws.length<=sizeLine):wpAny (model prog w) A (binaryOp .Add (.ref t) (.ref b)) Q E s:=by
 obtain⟨⟨cls,dd,data,sl⟩,ho,hc,n,hd⟩:=id ht;obtain⟨⟨cls2,ug,data2,sr⟩,jt,jf,n2,hd2⟩:=id hb;simp only at hc hd jf hd2;subst hc hd jf hd2;have e:vs.toArray++ws.toArray=(vs++ws).toArray:=by simp
 by_cases hw:ws=[]
 ·exact aFG ⟨_,ho,rfl⟩ ⟨_,jt,rfl⟩ aFu seq_tuple_add PySem.F.slot_tuple_add PySem.F.entry_tuple_add (PySem.F.args_tuple_add_2 _ _)
   (tuple_addW1 t b vs.toArray ws.toArray n n2 dd ug sl sr (by simpa using hv) (by simp[hw])) ⟨ho,jt,h1 hw⟩
 ·refine aFG ⟨_,ho,rfl⟩ ⟨_,jt,rfl⟩ aFu seq_tuple_add PySem.F.slot_tuple_add PySem.F.entry_tuple_add (PySem.F.args_tuple_add_2 _ _)
   (tuple_addW2 t b vs.toArray ws.toArray n n2 dd ug sl sr (by simpa using hv) (by simpa using hw) (by rw[aAk,aAk];exact hsz)) ⟨ho,jt,?_⟩
  rw[e];exact h2 hw
def sIx (n d:Nat):Option Int->Nat
 |none=>d
 |some v=>if v<0 then(v+(n:Int)).toNat else min v.toNat n
def ZQ (n d:Nat):sIx n d none=d:=rfl
def WL (n d:Nat)(hd:d<=n)(o:Option Int):sIx n d o<=n:=by
 cases o with
 |none=>exact hd
 |some v=>
  show(if v<0 then(v+(n:Int)).toNat else min v.toNat n)<=n;by_cases hv:v<0
  ·rw[if_pos hv];lia
  ·rw[if_neg hv];exact Nat.min_le_right _ _
def DN (v:Int)(n d:Nat):(if v<0 then max (v+(n:Int)) 0 else min v (n:Int))=((sIx n d (some v):Nat):Int):=by
 show(if v<0 then max (v+(n:Int)) 0 else min v (n:Int))=(((if v<0 then(v+(n:Int)).toNat else min v.toNat n):Nat):Int);by_cases hv:v<0
 ·simp only[if_pos hv];lia
 ·simp only[if_neg hv];lia
def yZ (lo hi:Option Int)(n:Nat):aDy lo hi 1 (n:Int)=(((sIx n 0 lo:Nat):Int),((sIx n n hi:Nat):Int)):=by
 have h1:¬((1:Int)<0):=by lia
 unfold aDy;simp only[h1,if_false];refine aFM ?_ ?_
 ·cases lo with
  |none=>rfl
  |some v=>exact DN v n 0
 ·cases hi with
  |none=>rfl
  |some v=>exact DN v n n
def AM (i j:Nat):aCJ (i:Int) (j:Int) 1=j-i:=by
 unfold aCJ;have h1:(1:Int)>0:=by lia
 simp only[h1,if_true,Int.ediv_one];split<;>lia
def oE {Q:Option Int->Shared->Prop}(p:IsPart v o)(h:Q o s):wpAny (model prog w) A (Builtin.Slice.slicePartIndex v) Q E s:=by
 cases p with
 |none=>exact slicePart_none h
 |int i t=>exact slicePart_int h
def jB {sl:Addr}{vl vu:Value}{lo hi:Option Int}{n:Nat}{Q:Int×Int×Nat->Shared->Prop}(hs:s.heap.IsSliceOf sl vl vu .none)(pl:IsPart vl lo)(pu:IsPart vu hi)
  (h:Q (((sIx n 0 lo:Nat):Int),1,sIx n n hi-sIx n 0 lo) s):wpAny (model prog w) A (aEH (.ref sl) (pure (n:Int))) Q E s:=by
 obtain⟨os,hos,ui,xa⟩:=id hs;unfold aEH Builtin.Slice.sliceFields;refine aAa (aAa<|aCK hos xa (x:=vl) rfl<|aAa<|aCK hos xa (x:=vu) rfl<|aAa<|aCK hos xa (x:=.none) rfl<|aAb ?_);refine aAa (slicePart_none ?_);show wpAny _ _ (if((1:Int)==0)=true then _ else _) _ _ s;rw[if_neg (by decide)];refine aAa (oE pl<|aAa<|oE pu<|aAa<|aAb ?_);show wpAny _ _ (match aDy lo hi 1 (n:Int)with|(lo,hi)=>pure (lo,(1:Int),aCJ lo hi 1)) _ _ s;rw[yZ lo hi n];show wpAny _ _ (pure (((sIx n 0 lo:Nat):Int),(1:Int),aCJ ((sIx n 0 lo:Nat):Int) ((sIx n n hi:Nat):Int) 1)) _ _ s;rw[AM];exact aAb h
def LM (xs:Array Value)(i k:Nat):((aBt k).filterMap λ(m:Nat)=>xs[((i:Int)+(m:Int)*1).toNat]?).toArray=((xs.toList.drop i).take k).toArray:=by
 have e:(λ(m:Nat)=>xs[((i:Int)+(m:Int)*1).toNat]?)=λm=>xs[i+m]?:=by
  funext m
  have:((i:Int)+(m:Int)*1).toNat=i+m:=by lia
  rw[this]
 rw[e];have:=pick_run xs i k;rw[aDc]at this;have e2:((λx=>xs[x]?)∘λx=>i+x)=λm=>xs[i+m]?:=rfl;rw[e2]at this;rw[this]
def getItem_tuple_cut {t sl:Addr}{items:Array Value}{vl vu:Value}{lo hi:Option Int}{Q:C5}(ht:IsTup s.heap t items)(hs:s.heap.IsSliceOf sl vl vu .none)(pl:IsPart vl lo)(pu:IsPart vu hi)
  (hw:¬(sIx items.size 0 lo=0/\sIx items.size items.size hi=items.size))
  (h:Q (.ref s.heap.objs.size) {s with heap:=s.heap.push {cls:=.type "tuple",data:=.seq ((items.toList.drop (sIx items.size 0 lo)).take (sIx items.size items.size hi-sIx items.size 0 lo)).toArray}})
  (hsz:items.size<=sizeLine):wpAny (model prog w) A (getItem (.ref t) (.ref sl)) Q E s:=by
 have qc:sizeOk (.seq ((items.toList.drop<|sIx items.size 0 lo).take (sIx items.size items.size hi-sIx items.size 0 lo)).toArray):=by
  show((items.toList.drop<|sIx items.size 0 lo).take (sIx items.size items.size hi-sIx items.size 0 lo)).toArray.size<=sizeLine;rw[aAk,aBI,aDC,aAW]
  lia
 have hj:sIx items.size items.size hi<=items.size:=WL _ _ (aAh _) hi;obtain⟨os,hos,ui,xa⟩:=id hs;have hTs:s.TypeIs (.ref sl) "slice":=⟨os,hos,ui⟩;unfold getItem;try with_reducible refine aAN ?_
 first|refine aAa (aAb ?_)|skip
 refine aAa (wpAny_sequenceKey ht.typeIs (by decide) ?_);refine aAa (aCp (name:=aDj "__getitem__") ht.typeIs aCs
  (aBp aCs ht.typeIs entry_tuple_getitem ?_ (args_tuple_getitem _ _)))
 show wpAny _ _ (aDt (.ref t)>>=_) _ _ s;refine aAa (tupleItemsOf_ ht ?_);refine aAa (aDI hTs ?_);rw[if_pos (by decide)];refine aAa (jB hs pl pu ?_);have hno:¬((((sIx items.size 0 lo:Nat):Int)==0&&(1:Int)==1&&(sIx items.size items.size hi-sIx items.size 0 lo)==items.size)=true):=by intro q;rw[aAM,aAM]at q;have q1:((sIx items.size 0 lo:Nat):Int)=0:=eq_of_beq q.1.1;have q2:sIx items.size items.size hi-sIx items.size 0 lo=items.size:=eq_of_beq q.2;exact hw ⟨by lia,by lia⟩
 show wpAny _ _ (if(((sIx items.size 0 lo:Nat):Int)==0&&(1:Int)==1&&(sIx items.size items.size hi-sIx items.size 0 lo)==items.size)=true then _ else _) _ _ s;rw[if_neg hno,LM];first
  |exact aAa (m:=aCO _) (aBu (aAb ⟨_,rfl,aAb h⟩) qc)
  |exact aAa (m:=aCO _) (aBu (aAa<|aAb<|aAb ⟨_,rfl,aAb h⟩) qc)
  |exact aAa (aAa (m:=aCO _)<|aBu (aAb<|aAb ⟨_,rfl,aAb h⟩) qc)
  |exact aAa (aAa (m:=aCO _)<|aBu (aAb ⟨_,rfl,aAb h⟩) qc)
end
end HT
namespace L2
open PySem PySem.Spec PyProof.Rows
abbrev TO:=St->Hp->(Option Int->Hp->Prop)->Prop
def PO (X:Cx)(e:Option Expr)(t:TO):Prop:=
 ∀(pins:M2) (s:Shared) (σ:St) (H:Hp) (Q:Option Int->Hp->Prop),Inv X pins σ H s->t σ H Q->
  wpAny (model X.prog X.w) X.A (evalPart e X.env) (λu s'=>∃o H',Inv X pins σ H' s'/\IsPart u o/\Q o H') X.xe s
def QF:TO:=λ_ H Q=>Q none H
def ZR (t:TE):TO:=λσ H Q=>t σ H λx H1=>∃i,x=.int i/\Q (some i) H1
section
variable{X:Cx} {e:Expr} {te:TE} {lo hi:Option Expr} {tl th:TO} {pos p2:Pos}
def uF:PO X none QF:=by intro pins s σ H Q I h;rw[evalPart_none];exact aAb ⟨none,H,I,.none,h⟩
def OQ (h:PE X e te):PO X (some e) (ZR te):=by intro pins s σ H Q I hw;rw[evalPart_some];refine C1 (h pins s σ H _ I hw) λu s1 ⟨x,H1,I1,r1,q1⟩=>?_;obtain⟨i,rfl,q⟩:=q1;obtain⟨t,rfl⟩:=r1;exact⟨some i,H1,I1,.int i t,q⟩
def WK (X:Cx)(r:V->Option Int->Option Int->Hp->VK->Prop):Prop:=
 ∀(pins:M2) (s:Shared) (σ:St) (H:Hp) (x:V) (v vl vu:Value) (lo hi:Option Int) (sl:Addr) (Q:VK),Inv X pins σ H s->RelV x v->s.heap.IsSliceOf sl vl vu .none->IsPart vl lo->IsPart vu hi->r x lo hi H Q->
  ∃T id,typeLookup (.type T) "__getitem__"=pure (some<|.builtin id)/\s.TypeIs v T/\wpAny (model X.prog X.w) X.A (getItem v<|.ref sl) (EP X pins σ Q) X.xe s
def WK.or {r r':V->Option Int->Option Int->Hp->VK->Prop}(h:WK X r)(h':WK X r'):WK X (λx lo hi H Q=>r x lo hi H Q\/r' x lo hi H Q):=by
 intro pins s σ H x v vl vu lo hi sl Q I rx hs pl pu q;rcases q with q|q
 ·exact h pins s σ H x v vl vu lo hi sl Q I rx hs pl pu q
 ·exact h' pins s σ H x v vl vu lo hi sl Q I rx hs pl pu q
def tSl (r:V->Option Int->Option Int->Hp->VK->Prop)(te:TE)(tl th:TO):TE:=λσ H Q=>te σ H λx H1=>tl σ H1 λl H2=>th σ H2 λu H3=>r x l u H3 Q
def NJ {r:V->Option Int->Option Int->Hp->VK->Prop}(hr:WK X r)(he:PE X e te)(hl:PO X lo tl)(hu:PO X hi th):PE X (.Subscript e (.Slice lo hi none p2) pos) (tSl r te tl th):=by intro pins s σ H Q I h;refine Subscript_ (C1 (he pins s σ H _ I h) λv s1 ⟨x,H1,I1,r1,q1⟩=>?_);refine wpAny_Slice (C1 (hl pins s1 σ H1 _ I1 q1) λvl s2 ⟨l,H2,I2,pl,q2⟩=>C1 (hu pins s2 σ H2 _ I2 q2) λvu s3 ⟨u,H3,I3,pu,q3⟩=>?_);rw[evalPart_none];refine aAb ?_;have I4:Inv X pins σ H3 {s3 with heap:=s3.heap.push {cls:=.type "slice",data:=.fields #[vl,vu,.none]}}:=I3.kept (t':=s3.toks) λb ob q=>aAc _ q;obtain⟨T,id,hT,ht,hg⟩:=hr pins {s3 with heap:=s3.heap.push {cls:=.type "slice",data:=.fields #[vl,vu,.none]}} σ H3 x v vl vu l u s3.heap.objs.size Q I4 r1 (Heap.IsSliceOf.new ..) pl pu q3;show wpAny (model X.prog X.w) X.A (subscriptTail e (.Slice lo hi none p2) v<|.ref s3.heap.objs.size) (EP X pins σ Q) X.xe {s3 with heap:=s3.heap.push {cls:=.type "slice",data:=.fields #[vl,vu,.none]}};exact tail_any (ops:=[.ref s3.heap.objs.size,v]) ht hT hg (by with_unfolding_all rfl)
def xX (xs:List V)(lo hi:Option Int):List V:=(xs.drop<|HT.sIx xs.length 0 lo).take (HT.sIx xs.length xs.length hi-HT.sIx xs.length 0 lo)
def kR (xs:List V)(lo hi:Option Int):(xX xs lo hi).length<=xs.length:=by
 unfold xX;rw[aBI,aDC]
 lia
def ZS (K:PySem.W.Frag):V->Option Int->Option Int->Hp->VK->Prop:=λx lo hi H Q=>∃a xs,x=.ref a/\U1 K H a xs/\
 ¬(HT.sIx xs.length 0 lo=0/\HT.sIx xs.length xs.length hi=xs.length)/\∀p,H p=none->Q (.ref p) (upd H p<|.tup (xX xs lo hi))
def UV:WK X (ZS X.K):=by
 intro pins s σ H x v vl vu lo hi sl Q I rx hs pl pu h;obtain⟨a,xs,rfl,hx,hw,q⟩:=h;cases rx;obtain⟨its,r,ht,hz⟩:=I.tuple hx;have hlen:its.toArray.size=xs.length:=by rw[aAk];exact r.length.symm
 refine⟨"tuple",_,aCs.lookup,ht.typeIs,?_⟩;refine HT.getItem_tuple_cut ht hs pl pu (by rw[hlen];exact hw) ?_ (by rw[hlen];exact hz);rw[hlen];refine⟨.ref s.heap.objs.size,_,I.laid (t':=s.toks) (o:=.tup (xX xs lo hi)) (λb ob q=>aAc _ q) (aAh _) ?_,rfl,q _ (I.hok.fresh<|aAh _)⟩;exact⟨aAs (kR xs lo hi) hz,_,(r.drop<|HT.sIx xs.length 0 lo).take (HT.sIx xs.length xs.length hi-HT.sIx xs.length 0 lo),IsTup.new _ _⟩
def gk (K:PySem.W.Frag):R2:=λx y H Q=>∃a b xs ys,x=.ref a/\y=.ref b/\U1 K H a xs/\U1 K H b ys/\xs≠[]/\xs.length+ys.length<=sizeLine/\
 (ys=[]->Q (.ref a) H)/\(ys≠[]->∀p,H p=none->Q (.ref p) (upd H p<|.tup (xs++ys)))
def l6.ac4 (r:l6 xs us):us=[]↔xs=[]:=by
 cases r with
 |nil=>simp
 |cons _ _=>simp
def DC:jM X (binaryOp .Add) (gk X.K):=by intro pins s σ H x y v u Q I rx ry h;obtain⟨a,b,xs,ys,rfl,rfl,ha,hb,hx,hz,q1,q2⟩:=h;cases rx;cases ry;obtain⟨its,r1,p1,_⟩:=I.tuple ha;obtain⟨ke,r2,p2,_⟩:=I.tuple hb;refine HT.cat_tup p1 p2 (λz=>hx (r1.ac4.mp z)) (λz=>⟨.ref a,H,I,rfl,q1 (r2.ac4.mp z)⟩) (λz=>?_) (by rw[<-r1.length,<-r2.length];exact hz);refine⟨.ref s.heap.objs.size,_,I.laid (t':=s.toks) (o:=.tup (xs++ys)) (λb ob q=>aAc _ q) (aAh _) ?_,rfl,q2 (λw=>z (r2.ac4.mpr w)) _ (I.hok.fresh<|aAh _)⟩;exact⟨by rw[aAE];exact hz,_,r1.append r2,IsTup.new _ _⟩
end
end L2
namespace L2
open PySem PySem.Spec PyProof.Rows
def yS (n:Nat)(i:Int):Option Nat:=if 0<=i then(if i<n then some i.toNat else none)else if-(n:Int)<=i then some (i+n).toNat else none
def mB {α:Type}(xs:List α)(i:Int):Option α:=(yS xs.length i).bind λj=>xs[j]?
def CV (h:yS n i=some j):seqIndex? i n=some j/\j<n/\-(n:Int)<=i/\i<n:=by
 unfold yS at h;by_cases h0:0<=i
 ·rw[if_pos h0]at h;by_cases h1:i<n
  ·rw[if_pos h1]at h;have e:i.toNat=j:=aAj h;exact⟨by rw[seqIndex_of h0 h1,e],by lia,by lia,h1⟩
  ·rw[if_neg h1]at h;cases h
 ·rw[if_neg h0]at h;by_cases h1:-(n:Int)<=i
  ·rw[if_pos h1]at h;have e:(i+n).toNat=j:=aAj h;exact⟨by rw[seqIndex_neg (by lia) h1,e],by lia,h1,by lia⟩
  ·rw[if_neg h1]at h;cases h
def DF {α:Type}{xs:List α}{i:Int}{v:α}(h:mB xs i=some v):∃j,seqIndex? i xs.length=some j/\xs[j]?=some v/\j<xs.length/\-(xs.length:Int)<=i/\i<xs.length:=by
 unfold mB at h;cases e:yS xs.length i with
 |none=>rw[e]at h;cases h
 |some j=>rw[e]at h;obtain⟨h1,h2,h3,h4⟩:=CV e;exact⟨j,h1,h,h2,h3,h4⟩
def OW (b:Expr):Prop:=∀o i,subscripted b false o i=operate [o,i] (getItem o i)
def IxR (X:Cx)(r:R2):Prop:=
 ∀(value slice:Expr) (pins:M2) (s:Shared) (σ:St) (H:Hp) (x y:V) (v u:Value) (Q:VK),Inv X pins σ H s->RelV x v->RelV y u->r x y H Q->
  subscripted slice false v u=operate [v,u] (getItem v u)->wpAny (model X.prog X.w) X.A (subscriptTail value slice v u) (EP X pins σ Q) X.xe s
def zy (X:Cx)(id:String)(r:V->List V->Hp->VK->Prop):Prop:=
 ∀(pins:M2) (s:Shared) (σ:St) (H:Hp) (x:V) (xs:List V) (v:Value) (us:List Value) (Q:VK),Inv X pins σ H s->RelV x v->l6 xs us->r x xs H Q->
  wpAny (model X.prog X.w) X.A (call (.builtin id) (v::us)) (EP X pins σ Q) X.xe s
section
variable{X:Cx} {a b:Expr} {ta tb:TE} {pos:Pos}
def qz (K:PySem.W.Frag):R2:=λx y H Q=>∃p xs i v,x=.ref p/\y=.int i/\K0 K H p xs/\mB xs i=some v/\Q v H
def xz (K:PySem.W.Frag):R2:=λx y H Q=>∃p xs i v,x=.ref p/\y=.int i/\U1 K H p xs/\mB xs i=some v/\Q v H
def OX:IxR X (qz X.K):=by
 intro value slice pins s σ H x y v u Q I rx ry h hs;obtain⟨p,xs,i,z,rfl,rfl,hq,he,q⟩:=h;cases rx;obtain⟨t,rfl⟩:=ry;obtain⟨its,r,pl,hz⟩:=I.list hq;obtain⟨j,h1,h2,h3,h4,h5⟩:=DF he;obtain⟨w,ew,rw'⟩:=r.get h2;have hl:=r.length;have hn:=tY;have fin:EP X pins σ Q w s:=⟨z,H,I,rw',q⟩;by_cases h0:0<=i
 ·have hj:i.toNat=j:=by rw[seqIndex_of h0 h5]at h1;exact aAj h1
  exact item_listR pl.isList h0 (by lia) (by rw[hj];simpa using ew) fin hs
 ·have hj:(i+(its.toArray.size:Int)).toNat=j:=by rw[seqIndex_neg (by lia) h4]at h1;rw[aAk,<-hl];exact aAj h1
  exact subscriptTail_builtinR (x:=w) pl.isList.typeIs aFg.lookup
   (wpAny_getItem_list_neg (Q:=λr s'=>r=w/\EP X pins σ Q r s') pl.isList (by lia) (by rw[aAk]<;>lia) (by lia) (by rw[hj];simpa using ew) ⟨rfl,fin⟩) hs
def VL:IxR X (xz X.K):=by
 intro value slice pins s σ H x y v u Q I rx ry h hs;obtain⟨p,xs,i,z,rfl,rfl,hq,he,q⟩:=h;cases rx;obtain⟨t,rfl⟩:=ry;obtain⟨its,r,pl,hz⟩:=I.tuple hq;obtain⟨j,h1,h2,h3,h4,h5⟩:=DF he;obtain⟨w,ew,rw'⟩:=r.get h2;have hl:=r.length;have hn:=tY;have fin:EP X pins σ Q w s:=⟨z,H,I,rw',q⟩;exact subscriptTail_builtinR (x:=w) pl.typeIs aCs.lookup
  (getItem_tuple (j:=j) (Q:=λr s'=>r=w/\EP X pins σ Q r s') pl (by lia) (by lia) (by rw[aAk,<-hl];exact h1) (by simpa using ew) ⟨rfl,fin⟩) hs
def BS (its:List Value)(n j:Nat)(u:Value):aBv (·.setIfInBounds j u) {cls:=.type "list",data:=.seq its.toArray n}={cls:=.type "list",data:=.seq (its.set j u).toArray n}:=by simp[aBv]
def Inv.lst {pins:M2}{σ:St}{H:Hp}{s:Shared}{p:Addr}{xs:List V}(I:Inv X pins σ H s)(h:H p=some (.lst xs)):
  ∃(its:List Value) (n:Nat),l6 xs its/\s.heap.get? p=some {cls:=.type "list",data:=.seq its.toArray n}/\xs.length<=sizeLine:=by
 obtain⟨z,its,n,r,e⟩:=I.hok p _ h;exact⟨its,n,r,e,z⟩
def Inv.af6 {pins:M2}{σ:St}{H:Hp}{s:Shared}{p:Addr}{xs ys:List V}{its its':List Value}{n n':Nat}{f:Obj->Obj}(I:Inv X pins σ H s)(h:H p=some (.lst xs))
  (ho:s.heap.get? p=some {cls:=.type "list",data:=.seq its.toArray n}) (hf:f {cls:=.type "list",data:=.seq its.toArray n}={cls:=.type "list",data:=.seq its'.toArray n'}) (r:l6 ys its') (hz:ys.length<=sizeLine) (t:Nat):
  Inv X pins σ (upd H p (.lst ys)) {s with heap:=s.heap.update p f,toks:=t}:=by
 have e:(s.heap.update p f).get? p=some {cls:=.type "list",data:=.seq its'.toArray n'}:=by rw[aBe f ho (by rw[hf]<;>rfl),hf]
 refine I.write (x:=p) (e:=p) (by rw[h];trivial) (.inl rfl) (λb u hb q=>(aAB _ _<|aBV hb).trans q) ⟨_,e⟩ ?_;exact⟨hz,its',n',r,e⟩
def YX:V->V->V->Hp->(Hp->Prop)->Prop:=λo i v H Q=>∃p xs k j,o=.ref p/\i=.int k/\H p=some (.lst xs)/\yS xs.length k=some j/\Q (upd H p<|.lst (xs.set j v))
def MR:VR X YX:=by
 intro pins s σ H o i v ov iv u Q I ro ri rv h;obtain⟨p,xs,k,j,rfl,rfl,hp,hj,q⟩:=h;cases ro;obtain⟨t,rfl⟩:=ri;obtain⟨its,n,r,ho,hz⟩:=I.lst hp;obtain⟨h1,h2,h3,h4⟩:=CV hj;have hl:=r.length;have hn:=tY;have I':Inv X pins σ (upd H p<|.lst (xs.set j v)) {s with heap:=s.heap.update p (aBv (·.setIfInBounds j u))}:=
  I.af6 hp ho (BS its n j u) (r.set rv j) (by rw[aFH];exact hz) s.toks
 by_cases h0:0<=k
 ·have hk:k.toNat=j:=by rw[seqIndex_of h0 h4]at h1;exact aAj h1
  exact PySem.W.ki_setAt ho h0 (by lia) (by rw[aAk,<-hl];exact h4) (by rw[hk];exact⟨_,I',q⟩)
 ·have hk:(k+(its.toArray.size:Int)).toNat=j:=by rw[seqIndex_neg (by lia) h3]at h1;rw[aAk,<-hl];exact aAj h1
  exact PySem.W.ki_setBack ho (by lia) (by rw[aAk,<-hl];exact h3) (by lia) (by rw[hk];exact⟨_,I',q⟩)
def uJ (lo hi:Option Int)(n:Nat):(sliceBounds lo hi none n).1=((HT.sIx n 0 lo:Nat):Int)/\(sliceBounds lo hi none n).2.1=((HT.sIx n n hi:Nat):Int)/\(sliceBounds lo hi none n).2.2=1:=by
 refine⟨?_,?_,rfl⟩
 ·cases lo with
  |none=>simp[sliceBounds,HT.sIx]
  |some i=>
   simp only[sliceBounds,HT.sIx,Option.getD_none,show(1:Int)>0 by decide,if_true];by_cases h:i<0
   ·simp only[h,if_true]<;>lia
   ·simp only[h,if_false]<;>lia
 ·cases hi with
  |none=>simp[sliceBounds,HT.sIx]
  |some i=>
   simp only[sliceBounds,HT.sIx,Option.getD_none,show(1:Int)>0 by decide,if_true];by_cases h:i<0
   ·simp only[h,if_true]<;>lia
   ·simp only[h,if_false]<;>lia
def qH (its:List Value)(lo hi:Option Int):slicePick its.toArray lo hi none=((its.drop (HT.sIx its.length 0 lo)).take (HT.sIx its.length its.length hi-HT.sIx its.length 0 lo)).toArray:=by obtain⟨h1,h2,h3⟩:=uJ lo hi its.toArray.size;unfold slicePick;rw[h1,h2,h3];simp only[sliceRange_one,pick_run,aAk]<;>rfl
def ZE (K:PySem.W.Frag):V->Option Int->Option Int->Hp->VK->Prop:=λx lo hi H Q=>∃a xs,x=.ref a/\K0 K H a xs/\∀p,H p=none->Q (.ref p) (upd H p<|.lst (xX xs lo hi))
def RH:WK X (ZE X.K):=by intro pins s σ H x v vl vu lo hi sl Q I rx hs pl pu h;obtain⟨a,xs,rfl,hx,q⟩:=h;cases rx;obtain⟨its,r,ht,hz⟩:=I.list hx;have hlen:=r.length;refine⟨"list",_,aFg.lookup,ht.isList.typeIs,?_⟩;refine wpAny_getItem_list_slice ht.isList hs pl pu .none (by simp) ?_ (by rw[aAk]<;>lia);rw[qH,<-hlen];refine⟨.ref s.heap.objs.size,_,I.laid (t':=s.toks) (o:=.lst (xX xs lo hi)) (λb ob q=>aAc _ q) (aAh _) ?_,rfl,q _ (I.hok.fresh<|aAh _)⟩;exact⟨aAs (kR xs lo hi) hz,_,0,(r.drop<|HT.sIx xs.length 0 lo).take (HT.sIx xs.length xs.length hi-HT.sIx xs.length 0 lo),aAp _ rfl⟩
def ZB:V->Bool
 |.non=>true
 |.bl _=>true
 |.int _=>true
 |.str _=>true
 |_=>false
def gO:nK X (.builtin "len") (λxs H Q=>∃p ys,xs=[.ref p]/\(K0 X.K H p ys\/U1 X.K H p ys)/\Q (.int ys.length) H):=by
 intro pins s σ H xs us Q I r h;obtain⟨p,ys,rfl,hq,q⟩:=h;obtain⟨u,rfl,rx⟩:=vals1 r;cases rx;have hn:=tY;rcases hq with hq|hq
 ·obtain⟨its,r',pl,hz⟩:=I.list hq;have hlen:=r'.length;exact Calls.call_len_list pl.isList (by simp only[aAk]<;>lia) ⟨.int ys.length,H,I.tok _,⟨s.toks+1,by rw[aAk,hlen]⟩,q⟩
 ·obtain⟨its,r',pl,hz⟩:=I.tuple hq;have hlen:=r'.length;exact len_tuple pl (by simp only[aAk]<;>lia) ⟨.int ys.length,H,I.tok _,⟨s.toks+1,by rw[aAk,hlen]⟩,q⟩
def gF:nK X (.type "list") (λxs H Q=>∃p ys,xs=[.ref p]/\(K0 X.K H p ys\/U1 X.K H p ys)/\∀l,H l=none->Q (.ref l) (upd H l (.lst ys))):=by
 intro pins s σ H xs us Q I r h;obtain⟨p,ys,rfl,hq,q⟩:=h;obtain⟨u,rfl,rx⟩:=vals1 r;cases rx;have fin:∀(its:List Value),l6 ys its->ys.length<=sizeLine->∀(h':Heap) (c':Nat),(∀b o',s.heap.get? b=some o'->h'.get? b=some o')->
   h'.get? s.heap.objs.size=some {cls:=.type "list",dict:=none,data:=.seq its.toArray c',slots:=#[]}->EP X pins σ Q (.ref s.heap.objs.size) {s with heap:=h'}:=λits r' hz h' c' kp e=>
  ⟨.ref s.heap.objs.size,_,I.laid (t':=s.toks) kp (aAh _) (show ObjOk X.prog X.w _ h' _ (.lst ys)from⟨hz,its,c',r',e⟩),rfl,q _ (I.hok.fresh<|aAh _)⟩
 rcases hq with hq|hq
 ·obtain⟨its,r',pl,hz⟩:=I.list hq;have hlen:=r'.length;obtain⟨o,ho,hc,n,hd⟩:=pl.isList;exact call_list_seq p (.inl rfl) ho hc hd (λh' c' kp e=>fin its r' hz h' c' kp e) (by simp only[aAk]<;>lia)
 ·obtain⟨its,r',pl,hz⟩:=I.tuple hq;have hlen:=r'.length;obtain⟨o,ho,hc,n,hd⟩:=pl;exact call_list_seq p (.inr rfl) ho hc hd (λh' c' kp e=>fin its r' hz h' c' kp e) (by simp only[aAk]<;>lia)
def eU:nK X (.type "tuple") (λxs H Q=>∃p ys,xs=[.ref p]/\((K0 X.K H p ys/\∀l,H l=none->Q (.ref l) (upd H l (.tup ys)))\/(U1 X.K H p ys/\Q (.ref p) H))):=by
 intro pins s σ H xs us Q I r h;obtain⟨p,ys,rfl,h⟩:=h;obtain⟨u,rfl,rx⟩:=vals1 r;cases rx;rcases h with⟨hq,q⟩|⟨hq,q⟩
 ·obtain⟨its,r',pl,hz⟩:=I.list hq;have hlen:=r'.length;refine call_tuple_list pl.isList (λh' kp=>?_) (by simp only[aAk]<;>lia);have I1:Inv X pins σ H {s with heap:=h'}:=I.kept (t':=s.toks) kp;have I2:Inv X pins σ (upd H h'.objs.size<|.tup ys) {s with heap:=h'.push {cls:=.type "tuple",data:=.seq its.toArray}}:=
   I1.laid (t':=s.toks) (λb o e=>aAc _ e) (aAh _) (show ObjOk X.prog X.w _ _ _ (.tup ys)from⟨hz,its,r',IsTup.new _ _⟩)
  exact⟨.ref h'.objs.size,_,I2,rfl,q _ (I1.hok.fresh<|aAh _)⟩
 ·obtain⟨its,r',pl,hz⟩:=I.tuple hq;exact call_tuple_same pl ⟨.ref p,H,I,rfl,q⟩
def tw (K : PySem.W.Frag) (T : String) (x : V) (H : Hp) : Prop := match x with
  | .str _ => T = "str"
  | .int _ => T = "int"
  | .ref p => (T = "list" ∧ ∃ xs, K0 K H p xs) ∨ (T = "tuple" ∧ ∃ o, K.lookup p = some o ∧ o.cls = .type "tuple" ∧ o.dict = none) ∨
      (T = "dict" ∧ ((∃ kvs, H p = some (.dK kvs)) ∨ ∃ kvs, H p = some (.dT kvs))) ∨ (T = "set" ∧ ∃ S n, H p = some (.set S n))
  | _ => False
def KF (I:Inv X pins σ H s)(r:RelV x v)(ty:tw X.K T x H):
  s.TypeIs v T/\∀a,v=.ref a->∃ob,s.heap.get? a=some ob/\ob.dict=none:=by
 cases x with
 |str z=>obtain⟨t,rfl⟩:=r;cases(show T= "str"from ty);exact⟨typeIs_str s z t,λ_ e=>nomatch e⟩
 |int i=>obtain⟨t,rfl⟩:=r;cases(show T= "int"from ty);exact⟨typeIs_int s i t,λ_ e=>nomatch e⟩
 |ref p=>
  cases r;rcases ty with⟨rfl,xs,hq⟩|⟨rfl,o,hk,hc,hd⟩|⟨rfl,hk⟩|⟨rfl,S,n,hk⟩
  ·obtain⟨its,_,pl,_⟩:=I.list hq;refine⟨pl.isList.typeIs,λa e=>?_⟩;cases e;obtain⟨o,n,e,c,hd,_⟩:=pl;exact⟨o,e,hd⟩
  ·refine⟨⟨o,I.kIn p o hk,hc⟩,λa e=>?_⟩;cases e;exact⟨o,I.kIn _ o hk,hd⟩
  ·have z:∃o,s.heap.get? p=some o/\o.ExactDict:=by
    rcases hk with⟨kvs,hk⟩|⟨kvs,hk⟩
    ·obtain⟨_,_,_,_,o,_,_,e,ex,_⟩:=I.hok p _ hk;exact⟨o,e,ex⟩
    ·obtain⟨_,_,_,_,o,_,_,e,ex,_⟩:=I.hok p _ hk;exact⟨o,e,ex⟩
   obtain⟨o,e,ex⟩:=z;refine⟨⟨o,e,ex.1⟩,λa e2=>?_⟩;cases e2;exact⟨o,e,ex.2.1⟩
  ·obtain⟨o,_,_,_,e,ex,_⟩:=I.hok p _ hk;refine⟨⟨o,e,ex.1⟩,λa e2=>?_⟩;cases e2;exact⟨o,e,ex.2.1⟩
 |_=>exact aAi ty
def tz (K:PySem.W.Frag)(T:String)(r:V->List V->Hp->VK->Prop)(to:TE):TE:=λσ H Q=>to σ H λx H1=>tw K T x H1/\r x [] H1 Q
def tBM (K:PySem.W.Frag)(T:String)(r:V->List V->Hp->VK->Prop)(to:TE)(t:TA):TE:=λσ H Q=>to σ H λx H1=>tw K T x H1/\t σ H1 λxs H2=>r x xs H2 Q
variable{o e:Expr} {es:List Expr} {to:TE} {t:TA} {name:Str} {apos ar:Pos} {T id:String} {r:V->List V->Hp->VK->Prop}
def IR (pa:PlainAttrs T)(slot:Slot T name id)(hty:typeOf (.builtin id)=pure (.type "method_descriptor"))(hm:zy X id r)(ho:PE X o to)
  (fm:attributeBase o name X.env (eval o X.env)=eval o X.env:=by rfl) (cb:(apos.endLine==ar.line)=true:=by rfl):PE X (.Call (.Attribute o name apos) [] [] ar) (tz X.K T r to):=by
 intro pins s σ H Q I h;refine wpAny_Call_method0_late fm cb (C1 (ho pins s σ H _ I h) λv s1 ⟨x,H1,I1,r1,ty,q1⟩=>?_);obtain⟨h1,h2⟩:=KF I1 r1 ty;exact⟨T,id,pa,slot,hty,h1,h2,aFB rfl (PySem.evalArgs_none<|hm pins s1 σ H1 x [] v [] Q I1 r1 .nil q1)⟩
def SQ (pa:PlainAttrs T)(slot:Slot T name id)(hty:typeOf (.builtin id)=pure (.type "method_descriptor"))(hm:zy X id r)(ho:PE X o to)(ha:PA X (e::es) t)
  (fm:attributeBase o name X.env (eval o X.env)=eval o X.env:=by rfl)
  (um:((backTo ar (starEach (e::es) X.env)).all (λx=>!x.1)&&(backToKw ar (keywordEach [] X.env)).all (λx=>x.1.isSome)
   &&decide ((e::es).length+([]:List Keyword).length+(if([]:List Keyword).isEmpty then 0 else 1)<30))=true:=by rfl)
  (cb:(apos.endLine==ar.line)=true:=by rfl) (hs:starEach (e::es) X.env=(false,eval e X.env)::starEach es X.env:=by rfl) (jg:(backTo ar (starEach es X.env)).any (·.1)=false:=by rfl):
  PE X (.Call (.Attribute o name apos) (e::es) [] ar) (tBM X.K T r to t):=by
 intro pins s σ H Q I h;refine wpAny_Call_method_late fm um cb rfl (C1 (ho pins s σ H _ I h) λv s1 ⟨x,H1,I1,r1,ty,q1⟩=>?_);obtain⟨h1,h2⟩:=KF I1 r1 ty;refine⟨T,id,pa,slot,hty,h1,h2,?_⟩;have hA:=ha ar pins s1 σ H1 _ I1 q1;rw[hs]at hA⊢;refine aFB (by show(false||(backTo ar<|starEach es X.env).any (·.1))=false;rw[jg]<;>rfl) (Calls.evalArgs_plain ?_);exact C1 hA λus s2 ⟨vs,H2,I2,r2,q2⟩=>hm pins s2 σ H2 x vs v us Q I2 r1 r2 q2
end
end L2
namespace L2
open PySem PySem.Spec PyProof.Rows
def qw (X:Cx)(id:String)(r:V->List V->Hp->VK->Prop):Prop:=
 ∀(pins:M2) (s:Shared) (σ:St) (H:Hp) (x:V) (xs:List V) (v:Value) (us:List Value) (Q:VK),Inv X pins σ H s->RelV x v->l6 xs us->r x xs H Q->
  wpAny (model X.prog X.w) X.A (call (.builtin id) (v::us)) (EP X pins σ Q) X.xe s
theorem l6.one:∀{x:V} {us:List Value},l6 [x] us->∃u,us=[u]/\RelV x u
 |_,_,.cons r .nil=>⟨_,rfl,r⟩
theorem l6.zero:∀{us:List Value},l6 [] us->us=[]
 |_,.nil=>rfl
def l6.dropLast (h:l6 xs us):l6 xs.dropLast us.dropLast:=by
 induction h with
 |nil=>exact .nil
 |cons r t ih=>
  cases t with
  |nil=>exact .nil
  |cons q t'=>exact .cons r ih
def l6.reverse (h:l6 xs us):l6 xs.reverse us.reverse:=by
 induction h with
 |nil=>exact .nil
 |cons r t ih=>rw[aAK,aAK];exact l6.append ih (.cons r .nil)
def AQ {α:Type}(l:List α):l.eraseIdx (l.length-1)=l.dropLast:=by
 induction l with
 |nil=>rfl
 |cons a r ih=>
  cases r with
  |nil=>rfl
  |cons b r=>
   have e:(a::b::r).length-1=((b::r).length-1)+1:=by
    have h1:(a::b::r).length=r.length+2:=rfl;have h2:(b::r).length=r.length+1:=rfl
    lia
   rw[e,aFq,ih]
   all_goals rfl
section
variable{X:Cx} {pins:M2} {σ:St} {H:Hp} {s:Shared} {l b:Addr} {xs ys zs:List V}
def Inv.af3 {its its':List Value}{n:Nat}{f:Array Value->Array Value}{t':Nat}(I:Inv X pins σ H s)(hH:H l=some (.lst xs))
  (e:s.heap.get? l=some {cls:=.type "list",data:=.seq its.toArray n}) (hf:f its.toArray=its'.toArray) (hv:l6 ys its') (hz:ys.length<=sizeLine):
  Inv X pins σ (upd H l (.lst ys)) {s with heap:=s.heap.update l (aBv f),toks:=t'}:=by
 have q:=PySem.IsL.update e f;rw[hf]at q;refine I.write (x:=l) (e:=l) (by rw[hH];exact trivial) (.inl rfl) (λb' u hb hu=>(aAB s.heap (aBv f)<|aBV hb).trans hu) ⟨_,q⟩ ?_;exact⟨hz,its',_,hv,q⟩
def Inv.ag0 (I:Inv X pins σ H s)(hv:l6 ys its)(hz:ys.length<=sizeLine):
  Inv X pins σ (upd H s.heap.objs.size (.lst ys)) {s with heap:=s.heap.push {cls:=.type "list",data:=.seq its.toArray},toks:=t'}:=
 I.laid (λ_ _ q=>aAc _ q) (aAh _) ⟨hz,its,0,hv,aAp _ rfl⟩
def Inv.fresh (I:Inv X pins σ H s):H s.heap.objs.size=none:=I.hok.fresh (aAh _)
def Inv.af4 (I:Inv X pins σ H s)(hH:H l=some (.lst xs)):xs.length<=sizeLine/\∃(its:List Value) (n:Nat),l6 xs its/\xs.length=its.length/\s.heap.get? l=some {cls:=.type "list",data:=.seq its.toArray n}:=by obtain⟨z,its,n,r,e⟩:=I.hok l _ hH;exact⟨z,its,n,r,r.length,e⟩
def MU (h:n<=sizeLine):aCP n=false:=by unfold aCP;exact decide_eq_false (by lia)
end
section
variable{X:Cx}
def OH:V->List V->Hp->VK->Prop:=λx vs H Q=>∃l xs y,x=.ref l/\vs=[y]/\H l=some (.lst xs)/\xs.length<sizeLine/\Q .non (upd H l<|.lst (xs++[y]))
def qR:qw X "list.append" OH:=by
 intro pins s σ H x vs v us Q I rx rv h;obtain⟨l,xs,y,rfl,rfl,hH,hz,q⟩:=h;cases rx;obtain⟨u,rfl,ru⟩:=rv.one;obtain⟨z,its,n,r,hl,e⟩:=I.af4 hH;refine call_meets F.slot_list_append ⟨_,e,rfl⟩ F.entry_list_append (F.args_list_append_2 _ _) (PySem.list_append l its.toArray n u (by rw[aAk];lia)) ⟨e,?_⟩;refine⟨.non,_,I.af3 (its':=its++[u]) hH e (by simp) (r.append<|.cons ru .nil) ?_,rfl,q⟩;rw[aAE,List.length_singleton]
 lia
def tq:V->List V->Hp->VK->Prop:=λx vs H Q=>∃l xs y,x=.ref l/\vs=[]/\H l=some (.lst xs)/\xs[xs.length-1]?=some y/\Q y (upd H l<|.lst xs.dropLast)
def MX:qw X "list.pop" tq:=by
 intro pins s σ H x vs v us Q I rx rv h;obtain⟨l,xs,y,rfl,rfl,hH,hy,q⟩:=h;cases rx;have hus:=rv.zero;subst hus;obtain⟨z,its,n,r,hl,e⟩:=I.af4 hH;obtain⟨u,hu,ru⟩:=r.get hy;have hy':its.toArray[its.toArray.size-1]?=some u:=by show its.toArray[its.length-1]?=some u;rw[<-aAA,<-hl];exact hu
 refine call_meets F.slot_list_pop ⟨_,e,rfl⟩ F.entry_list_pop (F.args_list_pop_1 _) (MeetsSeq.list_pop_last l its.toArray n u hy' (by rw[aAk];lia)) ⟨e,?_⟩;refine⟨y,_,I.af3 (its':=its.dropLast) hH e ?_ r.dropLast ?_,ru,q⟩
 ·show its.toArray.eraseIdxIfInBounds (its.toArray.size-1)=its.dropLast.toArray;rw[aAk,List.eraseIdxIfInBounds_toArray,AQ]
 ·rw[aFO]
  lia
end
section
variable{prog:Program} {w:World} {A:Around} {E:C5} {s:Shared}
end
section
variable{X:Cx}
end
end L2
namespace Att
open PySem PySem.W PySem.Calls PyProof.Rows
def lS:∀(ns:List Int) (vs:List Value),WellAll P h vs (ns.map WData.int)->IntsAre vs ns:=by
 intro ns;induction ns with
 |nil=>intro vs w;rw[aDk]at w;cases w;exact .nil
 |cons n ns ih=>
  intro vs w;rw[aAu]at w;cases w with
  |cons a b=>cases a;exact .cons _ _ (ih _ b)
def script_of {l:OpenLaw}{n:Nat}(hn:l.most=some n){P:Params}{h:Heap}{args:List WData}{vals:List Value}
  (xu:l.row.toRowW.claim.pre args=true) (nh:WellAll P h vals args):
  ∃a vs ns,vals=[aDx a]/\args=[WData.list (ns.map WData.int)]/\h.get? a=some {cls:=.type "list",data:=.seq vs.toArray}/\IntsAre vs ns/\ns.length<=n:=by
 have hsh:WShape.hasAll [] args [.list .int]=true:=(pre_splitW xu).1;have hc:l.pre.holds [] {args:=args}=true:=(pre_splitW xu).2;obtain⟨d,r,rfl,h1,h2⟩:=hasAllW_cons hsh;obtain rfl:=hasAllW_nil h2;obtain⟨xs,rfl,h3⟩:=hasW_list h1;obtain⟨ns,rfl⟩:=items_int h3;have hlen:ns.length<=n:=by
  unfold OpenLaw.pre at hc;have h4:(WTm.not<|.lt (.lit (.int (n:Int))) (.len (.arg 0))).holds [] {args:=[.list (ns.map .int)]}=true:=by have h4:=(holds_andW hc).1;rw[hn]at h4;exact h4
  have h5:=condW_of h4 (w_not<|w_lt w_lit<|w_len_list<|w_arg rfl);rw[aAm]at h5;refine aEk λq=>?_;have q':(n:Int)<((ns.length:Nat):Int):=by lia
  first
   |(rw[decide_eq_true q']at h5;exact absurd h5 (by decide))
   |(simp at h5;lia)
 cases nh with
 |cons w1 w2=>
  cases w2;cases w1 with
  |list ho oi=>exact⟨_,_,ns,rfl,rfl,ho,lS ns _ oi,hlen⟩
def post_true (l:OpenLaw)(args:List WData):l.row.toRowW.claim.post args (.bool true) args=true:=
 postW_of (r:=l.row.toRowW) (X:=(true==true))
  (show WShape.has [] (.bool true) .bool=true by first|rfl|decide|simp[WShape.has,WShape.arms,WShape.armsAll])
  (show(WTm.eq .res (.lit (.bool true))).value [] {args:=args,res:=some (.bool true),after:=args}=some (.bool (true==true))from w_eq_bool (w_res rfl) w_lit) rfl
section
variable{prog:Program} {w:World} {A:Around} {E:C5} {s:Shared} {K:Frag}
def rz (h:Heap)(L d:Addr):List (Addr×Obj):=(aBt h.objs.size).filterMap λa=>if a=L\/a=d then none else(h.get? a).map λo=>(a,o)
end
end Att
namespace L2
open PySem PySem.Spec PyProof.Rows
theorem M6:∀{vs:List Value} {ns:List Int},IntsAre vs ns->l6 (ns.map V.int) vs
 |_,_,.nil=>.nil
 |_,_,.cons n t h=>.cons ⟨t,rfl⟩ (M6 h)
end L2
namespace L2
open PySem PySem.Spec PyProof.Rows
end L2
namespace L2
open PySem PySem.Spec PyProof.Rows
def C8 (s:Stmt):Arguments:=match s with
 |.FunctionDef _ a _ _ _ _ _ _ _ _=>a
 |_=>{posonlyargs:=[],args:=[],vararg:=none,kwonlyargs:=[],kw_defaults:=[],kwarg:=none,defaults:=[]}
def t5 (s:Stmt):List Stmt:=match s with
 |.FunctionDef _ _ b _ _ _ _ _ _ _=>b
 |_=>[]
def c6 (s:Stmt):Scope:=match s with
 |.FunctionDef _ _ _ _ _ _ sc _ _ _=>sc
 |_=>{kind:=.function,names:=[],isGenerator:=false,isCoroutine:=false}
abbrev uI:OA:=λ_ _ _ _ _ _=>False
abbrev E0:XK:=λ_ _ _=>False
def YU:zN uI X E0:=λ_ _ _ _ _ _ _ h=>h.elim
structure Fun (K:PySem.W.Frag)(x qual:Str)(st:Stmt)(f:Addr)(fd:FuncData):Prop where
 ex:∃(oc:Value) (od:Option Addr) (kV doc pm:Value) (an:Option Addr) (cdv ct:Value) (osl:Array (Option Value)),
  fd=PySem.W.fnOf x qual (C8 st) (t5 st) (c6 st) .none kV doc pm an cdv ct/\K.lookup f=some ⟨oc,od,.func fd,osl⟩/\PySem.W.codeIn K cdv qual=true
 kp:PySem.W.keepIn K (.ref f)=true
section
variable{P:Program} {w:World} {K:PySem.W.Frag} {mg:bX} {base:Heap}
def Fun.ok {x qual:Str}{st:Stmt}{f:Addr}{fd:FuncData}{N ps:List Str}{k:Nat}{sp:Sp}(F:Fun K x qual st f fd)(S:FnScope N ps (c6 st))(len:∀vs H Q E,sp vs H Q E->vs.length=ps.length)
  (uf:∀(cdv:Value) (A:Around) (outer:List Env) (s:Shared) (H:Hp) (vs:List V) (Q:VK) (E:XK),Room k (A.deeper (envOfC qual (c6 st) s.heap.objs.size f cdv))->sp vs H Q E->
   ∃t,sW (yT uI P w K mg base N qual (c6 st) f cdv A outer s H E).nox (t5 st) t/\t {nx:=λ_ H'=>Q .non H',rt:=Q} (start N vs) H):FnOk P w K mg base uI (k+1) f fd ps sp:=by
 obtain⟨oc,od,kV,doc,pm,an,cdv,ct,osl,rfl,lk,fb⟩:=F.ex;refine TY lk fb S len λA outer s H vs Q E hr hsp=>?_;obtain⟨t,h,q⟩:=uf cdv A outer s H vs Q E hr hsp;exact⟨t,h.nox,q⟩
def Fun.binds {x qual:Str}{st:Stmt}{f:Addr}{fd:FuncData}{ps:List Str}(F:Fun K x qual st f fd)
  (h:∀(kV doc pm:Value) (an:Option Addr) (cdv ct:Value) (us:List Value),us.length=ps.length->bindArgs (PySem.W.fnOf x qual (C8 st) (t5 st) (c6 st) .none kV doc pm an cdv ct) ⟨us,[]⟩=pure (ps.zip us)):Binds K fd ps []:=by
 obtain⟨oc,od,kV,doc,pm,an,cdv,ct,osl,rfl,lk,fb⟩:=F.ex;exact .all (h kV doc pm an cdv ct)
def KQ {x qual:Str}{st:Stmt}{f:Addr}{oc:Value}{od an:Option Addr}{osl:Array (Option Value)}{kV doc pm cdv ct:Value}(l:K.lookup f=some ⟨oc,od,.func (PySem.W.fnOf x qual (C8 st) (t5 st) (c6 st) .none kV doc pm an cdv ct),osl⟩)
 (c:PySem.W.codeIn K cdv qual=true) (k:PySem.W.keepIn K (.ref f)=true):Fun K x qual st f (PySem.W.fnOf x qual (C8 st) (t5 st) (c6 st) .none kV doc pm an cdv ct):=⟨⟨oc,od,kV,doc,pm,an,cdv,ct,osl,rfl,l,c⟩,k⟩
end
section
variable{X:Cx}
end
def Same (H H':Hp):Prop:=∀b o,H b=some o->H' b=some o
def Same.refl (H:Hp):Same H H:=λ_ _ h=>h
def Same.trans (a:Same H H1)(b:Same H1 H2):Same H H2:=λc o h=>b c o (a c o h)
def Same.seq {K:PySem.W.Frag}{H H':Hp}{a:Addr}{xs:List V}(e:Same H H')(h:K0 K H a xs):K0 K H' a xs:=by
 rcases h with(h|⟨o,h⟩)|h
 ·exact .inl (.inl (e _ _ h))
 ·exact .inl (.inr ⟨o,e _ _ h⟩)
 ·exact .inr h
end L2
namespace DL
open PySem PySem.Spec L2
open PyProof.Rows hiding St
inductive D where
 |non|bl (b:Bool)|int (i:Int)|str (x:Str)|tup (xs:List D)|lst (xs:List D)|dct
mutual
def n8:D->Int
 |.int i=>hashInt i
 |.tup xs=>reduceHash (aAL (uU xs))
 |_=>0
def uU:List D->List Int
 |[]=>[]
 |x::xs=>n8 x::uU xs
end
def R3:Nat->D->Bool
 |_,.int _=>true
 |n+1,.tup xs=>xs.all (R3 n)
 |_,_=>false
inductive R (α:Type)where
 |ok (a:α)|ex (e:Str)|bad
def R.bind {α β:Type}:R α->(α->R β)->R β
 |.ok a,f=>f a
 |.ex e,_=>.ex e
 |.bad,_=>.bad
@[simp]def R.aa0 {α β:Type}(a:α)(f:α->R β):(R.ok a).bind f=f a:=rfl
section
variable(K:PySem.W.Frag) (H:Hp) (O:Addr->Prop)
mutual
inductive Rep:V->D->Prop
 |non:Rep .non .non
 |bl {b:Bool}:Rep (.bl b) (.bl b)
 |int {i:Int}:Rep (.int i) (.int i)
 |str {x:Str}:Rep (.str x) (.str x)
 |tup {a:Addr} {vs:List V} {ds:List D} (h:U1 K H a vs) (r:Reps vs ds):Rep (.ref a) (.tup ds)
 |lst {a:Addr} {vs:List V} {ds:List D} (h:K0 K H a vs) (n:¬O a) (r:Reps vs ds):Rep (.ref a) (.lst ds)
 |dct {a:Addr} {o:Obj} (h:H a=some (.ext λh=>h.get? a=some o)) (x:o.ExactDict) (n:¬O a):Rep (.ref a) .dct
inductive Reps:List V->List D->Prop
 |nil:Reps [] []
 |cons {v:V} {d:D} {vs:List V} {ds:List D} (h:Rep v d) (t:Reps vs ds):Reps (v::vs) (d::ds)
end
end
section
variable{K:PySem.W.Frag}
def _root_.L2.Same.tup {a:Addr}{xs:List V}(e:Same H H')(h:U1 K H a xs):U1 K H' a xs:=by
 rcases h with(h|⟨o,h⟩)|h
 ·exact .inl (.inl (e _ _ h))
 ·exact .inl (.inr ⟨o,e _ _ h⟩)
 ·exact .inr h
mutual
theorem Rep.mono (hT:∀a xs,U1 K H a xs->U1 K H' a xs)(hL:∀a xs,¬O a->K0 K H a xs->¬O' a/\K0 K H' a xs)(hD:∀a φ,¬O a->H a=some (.ext φ)->¬O' a/\H' a=some (.ext φ)):∀{v:V} {d:D},Rep K H O v d->Rep K H' O' v d
 |_,_,.non=>.non
 |_,_,.bl=>.bl
 |_,_,.int=>.int
 |_,_,.str=>.str
 |_,_,.tup h r=>.tup (hT _ _ h) (Reps.mono hT hL hD r)
 |_,_,.lst h n r=>.lst (hL _ _ n h).2 (hL _ _ n h).1 (Reps.mono hT hL hD r)
 |_,_,.dct h x n=>.dct (hD _ _ n h).2 x (hD _ _ n h).1
theorem Reps.mono (hT:∀a xs,U1 K H a xs->U1 K H' a xs)(hL:∀a xs,¬O a->K0 K H a xs->¬O' a/\K0 K H' a xs)(hD:∀a φ,¬O a->H a=some (.ext φ)->¬O' a/\H' a=some (.ext φ)):∀{vs:List V} {ds:List D},Reps K H O vs ds->Reps K H' O' vs ds
 |_,_,.nil=>.nil
 |_,_,.cons h t=>.cons (Rep.mono hT hL hD h) (Reps.mono hT hL hD t)
end
def Rep.same (e:Same H H')(r:Rep K H O v d):Rep K H' O v d:=r.mono (λ_ _ h=>e.tup h) (λ_ _ n h=>⟨n,e.seq h⟩) λ_ _ n h=>⟨n,e _ _ h⟩
def Reps.same (e:Same H H')(r:Reps K H O v d):Reps K H' O v d:=r.mono (λ_ _ h=>e.tup h) (λ_ _ n h=>⟨n,e.seq h⟩) λ_ _ n h=>⟨n,e _ _ h⟩
def Rep.sub (e:∀a,O' a->O a)(r:Rep K H O v d):Rep K H O' v d:=r.mono (λ_ _ h=>h) (λ_ _ n h=>⟨λz=>n (e _ z),h⟩) λ_ _ n h=>⟨λz=>n (e _ z),h⟩
def Reps.sub (e:∀a,O' a->O a)(r:Reps K H O v d):Reps K H O' v d:=r.mono (λ_ _ h=>h) (λ_ _ n h=>⟨λz=>n (e _ z),h⟩) λ_ _ n h=>⟨λz=>n (e _ z),h⟩
theorem Reps.length:∀{vs:List V} {ds:List D},Reps K H O vs ds->vs.length=ds.length
 |_,_,.nil=>rfl
 |_,_,.cons _ t=>by simp[Reps.length t]
theorem Reps.get:∀{vs:List V} {ds:List D} {i:Nat} {d:D},Reps K H O vs ds->ds[i]?=some d->∃v,vs[i]?=some v/\Rep K H O v d
 |_,_,_,_,.nil,e=>by simp at e
 |_,_,0,_,.cons r _,e=>by simp at e;subst e;exact⟨_,rfl,r⟩
 |_,_,i+1,d,.cons _ t,e=>by obtain⟨u,h1,h2⟩:=Reps.get (i:=i) (d:=d) t (by simpa using e);exact⟨u,by simpa using h1,h2⟩
theorem Reps.append:∀{vs ws:List V} {ds es:List D},Reps K H O vs ds->Reps K H O ws es->Reps K H O (vs++ws) (ds++es)
 |_,_,_,_,.nil,s=>s
 |_,_,_,_,.cons r t,s=>.cons r (Reps.append t s)
theorem Reps.take:∀{vs:List V} {ds:List D} (n:Nat),Reps K H O vs ds->Reps K H O (vs.take n) (ds.take n)
 |_,_,0,_=>.nil
 |_,_,_+1,.nil=>.nil
 |_,_,n+1,.cons r t=>.cons r (Reps.take n t)
theorem Reps.drop:∀{vs:List V} {ds:List D} (n:Nat),Reps K H O vs ds->Reps K H O (vs.drop n) (ds.drop n)
 |_,_,0,r=>r
 |_,_,_+1,.nil=>.nil
 |_,_,n+1,.cons _ t=>Reps.drop n t
theorem Reps.set (r:Rep K H O v d):∀{vs:List V} {ds:List D} (i:Nat),Reps K H O vs ds->Reps K H O (vs.set i v) (ds.set i d)
 |_,_,_,.nil=>.nil
 |_,_,0,.cons _ t=>.cons r t
 |_,_,i+1,.cons q t=>.cons q (Reps.set r i t)
def Reps.dropLast (r:Reps K H O vs ds):Reps K H O vs.dropLast ds.dropLast:=by rw[aEd,aEd,r.length];exact r.take _
def Reps.snoc (r:Reps K H O vs ds)(h:Rep K H O v d):Reps K H O (vs++[v]) (ds++[d]):=r.append (.cons h .nil)
theorem Reps.ints:∀(ns:List Int),Reps K H O (ns.map V.int) (ns.map D.int)
 |[]=>.nil
 |_::ns=>.cons .int (Reps.ints ns)
theorem Reps.reverse:∀{vs:List V} {ds:List D},Reps K H O vs ds->Reps K H O vs.reverse ds.reverse
 |_,_,.nil=>.nil
 |_,_,.cons r t=>by rw[aAK,aAK];exact(Reps.reverse t).snoc r
end
def Kp (H:Hp)(O:Addr->Prop)(H':Hp)(O':Addr->Prop):Prop:=∀b o,H b=some o->¬O b->H' b=some o/\¬O' b
section
def Kp.refl (H:Hp)(O:Addr->Prop):Kp H O H O:=λ_ _ h n=>⟨h,n⟩
def Kp.of (s:Same H H'):Kp H O H' O:=λb o h n=>⟨s b o h,n⟩
def Kp.trans (a:Kp H O H' O')(b:Kp H' O' H'' O''):Kp H O H'' O'':=λc o h n=>let⟨h1,n1⟩:=a c o h n;b c o h1 n1
end
class Tabs where
 tbs:List (Addr×List (Pos×Str))
inductive Sl where
 |no|v (d:D)|o (xs:List D)|x (C:Value)|c (m:List D->R D) (φ:Hp->(Addr->Prop)->Addr->Prop)|d (kvs:List (D×D))
abbrev Ev:=List Sl
def Mt:HO->Prop
 |.lst _=>True
 |.dK _=>True
 |.dT _=>True
 |.ext _=>True
 |_=>False
def oP (K:PySem.W.Frag)(H:Hp)(O:Addr->Prop)(es:List DictEntry)(kvs:List (D×D)):Prop:=
 Paired (λ(e:DictEntry) (p:D×D)=>(∃a,e.key=.ref a/\Rep K H O (.ref a) p.1)/\(∃v,RelV v e.val/\Rep K H O v p.2)/\e.hash=n8 p.1/\R3 7 p.1=true) es kvs
def IU (a:Addr)(o:Obj)(es:List DictEntry):Prop:=(a==sysModules)=false/\o.ExactDict/\∃ea ep,o.data=.dict ea ep/\ea.toList=es
def HA:Sl->Prop
 |.o _=>True
 |.d _=>True
 |_=>False
section
variable(K:PySem.W.Frag) (H9 H:Hp) (O:Addr->Prop)
def bL (x:Option (Option V)):Sl->Prop
 |.no=>True
 |.v d=>∃v,x=some (some v)/\Rep K H O v d
 |.o xs=>∃a vs,x=some (some (V.ref a))/\O a/\H9 a=none/\H a=some (.lst vs)/\Reps K H O vs xs
 |.x C=>∃a o,x=some (some (V.ref a))/\H a=some (.frz o (.own a))/\o.cls=C
 |.c m φ=>∃a,x=some (some (V.ref a))/\∀H2 O2,Kp H O H2 O2->φ H2 O2 a
 |.d kvs=>∃a o es,x=some (some (V.ref a))/\O a/\H9 a=none/\H a=some (.ext λh=>h.get? a=some o)/\IU a o es/\oP K H O es kvs/\(kvs.map (·.1)).Nodup
end
variable [Tabs]
def Tb (H:Hp):Prop:=∀p∈Tabs.tbs,H p.1=some (.tbl p.2)
structure EnvOk (K:PySem.W.Frag)(H9:Hp)(O0:Addr->Prop)(H:Hp)(O:Addr->Prop)(σ:St)(ρ:Ev):Prop where
 len:σ.length=ρ.length
 same:Same H9 H
 sub:∀a,O0 a->O a
 trk:∀a,O a->∃o,H a=some o/\Mt o
 trk0:∀a,O0 a->∃o,H9 a=some o
 tab:Tb H
 slot:∀(i:Nat) (sl:Sl),ρ[i]?=some sl->bL K H9 H O σ[i]? sl
 inj:∀(i j:Nat) (x y:Sl) (a:Addr),ρ[i]?=some x->ρ[j]?=some y->HA x->HA y->σ[i]?=some (some (V.ref a))->σ[j]?=some (some (V.ref a))->i=j
section
variable{K:PySem.W.Frag} {O0 O O':Addr->Prop}
def Tb.same (h:Tb H)(s:Same H H'):Tb H':=λp hp=>s _ _ (h p hp)
def EnvOk.val (E:EnvOk K H9 O0 H O σ ρ)(i:Nat)(d:D)(h:ρ[i]?=some (Sl.v d)):∃v,σ[i]?=some (some v)/\Rep K H O v d:=E.slot i _ h
def EnvOk.own (E:EnvOk K H9 O0 H O σ ρ)(i:Nat)(xs:List D)(h:ρ[i]?=some (Sl.o xs)):∃a vs,σ[i]?=some (some (V.ref a))/\O a/\H9 a=none/\H a=some (.lst vs)/\Reps K H O vs xs:=E.slot i _ h
def oP.mono (f:∀{v:V} {d:D},Rep K H O v d->Rep K H' O' v d):∀{kvs:List (D×D)},oP K H O es kvs->oP K H' O' es kvs:=λ{_} r=>Paired.af2 r λ_ _ ⟨⟨v,h1,h2⟩,⟨w,h3,h4⟩,h5⟩=>⟨⟨v,h1,f h2⟩,⟨w,h3,f h4⟩,h5⟩
def bL.move (h:bL K H9 H O x sl)(hT:∀a xs,U1 K H a xs->U1 K H' a xs)(hL:∀a xs,¬O a->K0 K H a xs->¬O' a/\K0 K H' a xs)(hF:∀a o u,H a=some (.frz o u)->H' a=some (.frz o u))(hk:Kp H O H' O')(ho:HA sl->∀a o,x=some (some (V.ref a))->O a->H a=some o->O' a/\H' a=some o):bL K H9 H' O' x sl:=by
 have hD:∀a φ,¬O a->H a=some (.ext φ)->¬O' a/\H' a=some (.ext φ):=λa φ n h=>⟨(hk a _ h n).2,(hk a _ h n).1⟩;cases sl with
 |no=>trivial
 |v d=>obtain⟨v,h1,h2⟩:=h;exact⟨v,h1,h2.mono hT hL hD⟩
 |o xs=>obtain⟨a,vs,h1,h2,h3,h4,h5⟩:=h;obtain⟨h6,h7⟩:=ho trivial a _ h1 h2 h4;exact⟨a,vs,h1,h6,h3,h7,h5.mono hT hL hD⟩
 |x C=>obtain⟨a,o,h1,h2,h3⟩:=h;exact⟨a,o,h1,hF _ _ _ h2,h3⟩
 |c m φ=>obtain⟨a,h1,h2⟩:=h;exact⟨a,h1,λH2 O2 k=>h2 H2 O2 (hk.trans k)⟩
 |d kvs=>obtain⟨a,o,es,h1,h2,h3,h4,h5,h6⟩:=h;obtain⟨h7,h8⟩:=ho trivial a _ h1 h2 h4;exact⟨a,o,es,h1,h7,h3,h8,h5,h6.1.mono λr=>r.mono hT hL hD,h6.2⟩
def bL.grow (h:bL K H9 H O x sl)(e:Same H H'):bL K H9 H' O x sl:=
 h.move (λ_ _ q=>e.tup q) (λ_ _ n q=>⟨n,e.seq q⟩) (λ_ _ _ q=>e _ _ q) (Kp.of e) λ_ _ _ _ q1 q2=>⟨q1,e _ _ q2⟩
def EnvOk.grow (E:EnvOk K H9 O0 H O σ ρ)(e:Same H H'):EnvOk K H9 O0 H' O σ ρ where
 len:=E.len
 same:=E.same.trans e
 sub:=E.sub
 trk:=λa h=>let⟨o,q,m⟩:=E.trk a h;⟨o,e a o q,m⟩
 trk0:=E.trk0
 tab:=E.tab.same e
 slot:=λi sl h=>(E.slot i sl h).grow e
 inj:=E.inj
def EnvOk.fresh (E:EnvOk K H9 O0 H O σ ρ)(h:H p=none):¬O p:=λz=>by obtain⟨o,q,_⟩:=E.trk p z;rw[h]at q;cases q
def u5 {α:Type}{l:List α}{i j:Nat}{x:α}(h:i≠j):(l.set i x)[j]?=l[j]?:=aCo h
def A1 {α:Type}{l:List α}{i:Nat}{x y:α}(h:(l.set i x)[i]?=some y):y=x/\i<l.length:=by
 have hl:i<l.length:=by have:=(aAC.mp h).1;simpa using this
 rw[aBD hl]at h;exact⟨(aAj h).symm,hl⟩
def EnvOk.put (E:EnvOk K H9 O0 H O σ ρ){v:Option V}{sl:Sl}(i:Nat)(no:¬HA sl)(r:bL K H9 H O (some v) sl):EnvOk K H9 O0 H O (σ.set i v) (ρ.set i sl)where
 len:=by simpa using E.len
 same:=E.same
 sub:=E.sub
 trk:=E.trk
 trk0:=E.trk0
 tab:=E.tab
 slot:=λj s h=>by
  by_cases hj:i=j
  ·subst hj;obtain⟨e,hl⟩:=A1 h;subst e;rw[aBD (by rw[E.len];exact hl)];exact r
  ·rw[u5 hj]at h⊢;exact E.slot j s h
 inj:=λj k x y a h1 h2 o1 o2 h3 h4=>by
  have ne:∀(l:Nat) (z:Sl),(ρ.set i sl)[l]?=some z->HA z->i≠l:=λl z q o e=>by subst e;obtain⟨e,_⟩:=A1 q;subst e;exact no o
  have n1:=ne j x h1 o1;have n2:=ne k y h2 o2;rw[u5 n1]at h1 h3;rw[u5 n2]at h2 h4;exact E.inj j k x y a h1 h2 o1 o2 h3 h4
def EnvOk.set (E:EnvOk K H9 O0 H O σ ρ)(i:Nat)(r:Rep K H O v d):EnvOk K H9 O0 H O (σ.set i (some v)) (ρ.set i (.v d)):=E.put i (λz=>z) ⟨v,rfl,r⟩
def bL.at_ (h:bL K H9 H O x sl)(o:HA sl):∃a u,x=some (some (V.ref a))/\O a/\H9 a=none/\H a=some u/\Mt u:=by
 cases sl with
 |o xs=>obtain⟨a,vs,h1,h2,h3,h4,_⟩:=h;exact⟨a,_,h1,h2,h3,h4,trivial⟩
 |d kvs=>obtain⟨a,u,es,h1,h2,h3,h4,_⟩:=h;exact⟨a,_,h1,h2,h3,h4,trivial⟩
 |_=>exact o.elim
def EnvOk.af5 (E:EnvOk K H9 O0 H O σ ρ){a:Addr}{sl:Sl}(i:Nat)(hn:∀(j:Nat) (y:Sl),i≠j->ρ[j]?=some y->HA y->σ[j]?≠some (some (V.ref a)))(r:bL K H9 H O (some (some (V.ref a))) sl):
  EnvOk K H9 O0 H O (σ.set i (some (V.ref a))) (ρ.set i sl)where
 len:=by simpa using E.len
 same:=E.same
 sub:=E.sub
 trk:=E.trk
 trk0:=E.trk0
 tab:=E.tab
 slot:=λj s h=>by
  by_cases hj:i=j
  ·subst hj;obtain⟨e,hl⟩:=A1 h;subst e;rw[aBD (by rw[E.len];exact hl)];exact r
  ·rw[u5 hj]at h⊢;exact E.slot j s h
 inj:=λj k x y b h1 h2 o1 o2 h3 h4=>by
  have at_:∀(l:Nat),i=l->(σ.set i<|some<|V.ref a)[l]?=some (some<|V.ref b)->b=a:=λl e q=>by subst e;obtain⟨e,_⟩:=A1 q;injection e with e;injection e
  by_cases hj:i=j
  ·by_cases hk:i=k
   ·exact hj.symm.trans hk
   ·exfalso;have eb:=at_ j hj h3;subst eb;rw[u5 hk]at h2 h4;exact hn k y hk h2 o2 h4
  ·by_cases hk:i=k
   ·exfalso;have eb:=at_ k hk h4;subst eb;rw[u5 hj]at h1 h3;exact hn j x hj h1 o1 h3
   ·rw[u5 hj]at h1 h3;rw[u5 hk]at h2 h4;exact E.inj j k x y b h1 h2 o1 o2 h3 h4
def j5 (h:H p=none)(o:HO):Same H (upd H p o):=λb u q=>by rw[j8 (q9 q h)];exact q
def EnvOk.ab8 (E:EnvOk K H9 O0 H O σ ρ)(h:H a=none)(hk:K.lookup a=none)(m:Mt u):EnvOk K H9 O0 (upd H a u) (λb=>O b\/b=a) σ ρ:=by
 have s:=j5 h u;have ne:∀b xs,K0 K H b xs->b≠a:=λb xs q z=>by
  subst z;rcases q with(q|⟨o,q⟩)|⟨o,_,_,q,_⟩
  ·rw[h]at q;cases q
  ·rw[h]at q;cases q
  ·rw[hk]at q;cases q
 refine⟨E.len,E.same.trans s,λb z=>.inl (E.sub b z),λb z=>?_,E.trk0,E.tab.same s,λi sl e=>?_,E.inj⟩
 ·rcases z with z|z
  ·obtain⟨o,q,m⟩:=E.trk b z;exact⟨o,s b o q,m⟩
  ·subst z;exact⟨_,j3,m⟩
 ·exact(E.slot i sl e).move (λ_ _ q=>s.tup q) (λb xs n q=>⟨λz=>z.elim n (ne b xs q),s.seq q⟩) (λ_ _ _ q=>s _ _ q) (λb o hb n=>⟨s b o hb,λz=>z.elim n λe=>by subst e;rw[h]at hb;cases hb⟩) λ_ b o _ q1 q2=>⟨.inl q1,s _ _ q2⟩
def VY (h:H a=none)(hk:K.lookup a=none)(q:K0 K H b xs):b≠a:=λz=>by
 subst z;rcases q with(q|⟨o,q⟩)|⟨o,_,_,q,_⟩
 ·rw[h]at q;cases q
 ·rw[h]at q;cases q
 ·rw[hk]at q;cases q
def Reps.ab8 (h:H a=none)(hk:K.lookup a=none)(r:Reps K H O v d):Reps K (upd H a u) (λb=>O b\/b=a) v d:=
 r.mono (λ_ _ q=>(j5 h u).tup q) (λb xs n q=>⟨λz=>z.elim n (VY h hk q),(j5 h u).seq q⟩) λb φ n q=>⟨λz=>z.elim n (q9 q h),j5 h u _ _ q⟩
def EnvOk.ad8 (E:EnvOk K H9 O0 H O σ ρ)(i:Nat)(h:H a=none)(hk:K.lookup a=none)(m:Mt u)(r:H9 a=none->bL K H9 (upd H a u) (λb=>O b\/b=a) (some (some (V.ref a))) sl):
  EnvOk K H9 O0 (upd H a u) (λb=>O b\/b=a) (σ.set i (some (.ref a))) (ρ.set i sl):=by
 have h0:H9 a=none:=by
  cases e:H9 a with
  |none=>rfl
  |some o=>have:=E.same a o e;rw[h]at this;cases this
 refine(E.ab8 h hk m).af5 i (λj y _ e o q=>?_) (r h0);obtain⟨b,w,p1,_,_,p4,_⟩:=(E.slot j y e).at_ o;rw[q]at p1;injection p1 with p1;injection p1 with p1;injection p1 with p1;subst p1;rw[h]at p4;cases p4
def sZ (h:H a=some u)(m:Mt u)(q:U1 K H b xs):U1 K (upd H a u') b xs:=by
 have ne:∀w,H b=some w->¬Mt w->b≠a:=λw e n z=>by subst z;rw[h]at e;cases e;exact n m
 rcases q with(q|⟨o,q⟩)|q
 ·exact .inl (.inl (by rw[j8 (ne _ q λz=>z)];exact q))
 ·exact .inl (.inr ⟨o,by rw[j8 (ne _ q λz=>z)];exact q⟩)
 ·exact .inr q
def uA (hO:O a)(n:¬O b)(q:K0 K H b xs):K0 K (upd H a u') b xs:=by
 have ne:b≠a:=λz=>by subst z;exact n hO
 rcases q with(q|⟨o,q⟩)|q
 ·exact .inl (.inl (by rw[j8 ne];exact q))
 ·exact .inl (.inr ⟨o,by rw[j8 ne];exact q⟩)
 ·exact .inr q
def Rep.upd (h:H a=some u)(m:Mt u)(hO:O a)(r:Rep K H O v d):Rep K (upd H a u') O v d:=r.mono (λ_ _ q=>sZ h m q) (λ_ _ n q=>⟨n,uA hO n q⟩) λb _ n q=>⟨n,by rw[j8 (λz=>n (by rw[z];exact hO))];exact q⟩
def Reps.upd (h:H a=some u)(m:Mt u)(hO:O a)(r:Reps K H O v d):Reps K (upd H a u') O v d:=r.mono (λ_ _ q=>sZ h m q) (λ_ _ n q=>⟨n,uA hO n q⟩) λb _ n q=>⟨n,by rw[j8 (λz=>n (by rw[z];exact hO))];exact q⟩
def EnvOk.ad7 {i:Nat}{sl sl':Sl}{a:Addr}{u u':HO}(E:EnvOk K H9 O0 H O σ ρ)(e:ρ[i]?=some sl)(ow:HA sl)(h1:σ[i]?=some (some (V.ref a)))(hu:H a=some u)(m':Mt u')(ow':HA sl')
  (r:O a->H9 a=none->Mt u->bL K H9 (upd H a u') O (some (some (V.ref a))) sl'):EnvOk K H9 O0 (upd H a u') O σ (ρ.set i sl')/\Kp H O (upd H a u') O:=by
 obtain⟨b,w,p1,p2,p3,p4,m⟩:=(E.slot i sl e).at_ ow;rw[h1]at p1;injection p1 with p1;injection p1 with p1;injection p1 with p1;subst p1;rw[hu]at p4;cases p4;have kp:Kp H O (upd H a u') O:=λb o hb n=>⟨by rw[j8 (λz=>by subst z;exact n p2)];exact hb,n⟩;have nf:∀b w,H b=some w->¬Mt w->upd H a u' b=some w:=λb w q n=>by rw[j8 (λz=>by subst z;rw[hu]at q;cases q;exact n m)];exact q
 refine⟨⟨by simpa using E.len,λb o q=>?_,E.sub,λb z=>?_,E.trk0,λp hp=>nf _ _ (E.tab p hp) λz=>z,λj s h=>?_,λj k x y b q1 q2 o1 o2 q3 q4=>?_⟩,kp⟩
 ·rw[j8 (λz=>by subst z;rw[p3]at q;cases q)];exact E.same b o q
 ·by_cases hb:b=a
  ·subst hb;exact⟨_,j3,m'⟩
  ·obtain⟨o,q,m⟩:=E.trk b z;exact⟨o,by rw[j8 hb];exact q,m⟩
 ·by_cases hj:i=j
  ·subst hj;obtain⟨e',_⟩:=A1 h;subst e';rw[h1];exact r p2 p3 m
  ·rw[u5 hj]at h;refine(E.slot j s h).move (λ_ _ q=>sZ hu m q) (λ_ _ n q=>⟨n,uA p2 n q⟩) (λb o w q=>nf _ _ q λz=>z) kp λo b w q1 q2 q3=>⟨q2,?_⟩;rw[j8 (λz=>by subst z;exact hj (E.inj i j sl s b e h ow o h1 q1))];exact q3
 ·have fin:∀l z,(ρ.set i sl')[l]?=some z->HA z->∃z',ρ[l]?=some z'/\HA z':=λl z q o=>by
   by_cases hl:i=l
   ·subst hl;exact⟨sl,e,ow⟩
   ·rw[u5 hl]at q;exact⟨z,q,o⟩
  obtain⟨x',u1,o1'⟩:=fin j x q1 o1;obtain⟨y',u2,o2'⟩:=fin k y q2 o2;exact E.inj j k x' y' b u1 u2 o1' o2' q3 q4
def EnvOk.ae1 {i:Nat}{sl sl':Sl}{a:Addr}(E:EnvOk K H9 O0 H O σ ρ)(e:ρ[i]?=some sl)(ow:HA sl)(h1:σ[i]?=some (some (V.ref a)))(no:¬HA sl')(r:bL K H9 H (λb=>O b/\b≠a) (some (some (V.ref a))) sl'):
  EnvOk K H9 O0 H (λb=>O b/\b≠a) σ (ρ.set i sl'):=by
 obtain⟨b,w,p1,p2,p3,p4,m⟩:=(E.slot i sl e).at_ ow;rw[h1]at p1;injection p1 with p1;injection p1 with p1;injection p1 with p1;subst p1;have sub:∀b,(O b/\b≠a)->O b:=λb z=>z.1;refine⟨by simpa using E.len,E.same,λb z=>⟨E.sub b z,λq=>?_⟩,λb z=>E.trk b z.1,E.trk0,E.tab,λj s h=>?_,λj k x y b q1 q2 o1 o2 q3 q4=>?_⟩
 ·subst q;obtain⟨o,q⟩:=E.trk0 b z;rw[p3]at q;cases q
 ·by_cases hj:i=j
  ·subst hj;obtain⟨e',_⟩:=A1 h;subst e';rw[h1];exact r
  ·rw[u5 hj]at h;refine(E.slot j s h).move (λ_ _ q=>q) (λ_ _ n q=>⟨λz=>n z.1,q⟩) (λ_ _ _ q=>q) (λb o hb n=>⟨hb,λz=>n z.1⟩) λo b w q1 q2 q3=>⟨⟨q2,λz=>?_⟩,q3⟩;subst z;exact hj (E.inj i j sl s b e h ow o h1 q1)
 ·have n1:i≠j:=λz=>by subst z;obtain⟨e',_⟩:=A1 q1;subst e';exact no o1
  have n2:i≠k:=λz=>by subst z;obtain⟨e',_⟩:=A1 q2;subst e';exact no o2
  rw[u5 n1]at q1;rw[u5 n2]at q2;exact E.inj j k x y b q1 q2 o1 o2 q3 q4
end
def XW (X:Cx)(e:Str)(H:Hp):Prop:=False
def RC (X:Cx)(H:Hp)(O:Addr->Prop)(r:R D)(Q:VK):Prop:=match r with
 |.ok d=>∀v H',Same H H'->Rep X.K H' O v d->Q v H'
 |.ex e=>∀H',Same H H'->XW X e H'
 |.bad=>False
def A2 (K:PySem.W.Frag)(H:Hp)(O:Addr->Prop)(v:V)(d:D):Prop:=Rep K H O v d\/∃a vs ds,v=.ref a/\d=.lst ds/\K0 K H a vs/\Reps K H O vs ds
def YI (X:Cx)(H:Hp)(O:Addr->Prop)(r:R D)(Q:VK):Prop:=match r with
 |.ok d=>∀v H',Same H H'->A2 X.K H' O v d->Q v H'
 |.ex e=>∀H',Same H H'->XW X e H'
 |.bad=>False
def uX (X:Cx)(H:Hp)(r:R Bool)(Q:Bool->Hp->Prop):Prop:=match r with
 |.ok b=>∀H',Same H H'->Q b H'
 |.ex e=>∀H',Same H H'->XW X e H'
 |.bad=>False
def FP (X:Cx)(H:Hp)(O:Addr->Prop)(r:R (List D))(Q:List V->Hp->Prop):Prop:=match r with
 |.ok ds=>∀vs H',Same H H'->Reps X.K H' O vs ds->Q vs H'
 |.ex e=>∀H',Same H H'->XW X e H'
 |.bad=>False
def LS (X:Cx)(H:Hp)(O:Addr->Prop)(r:R (List D))(Q:List V->Hp->Prop):Prop:=match r with
 |.ok ds=>∀vs H',Same H H'->Paired (A2 X.K H' O) vs ds->Q vs H'
 |.ex e=>∀H',Same H H'->XW X e H'
 |.bad=>False
def tD (X:Cx)(f:Ev->R D):TE:=λσ H Q=>∃H9 O0 O ρ,EnvOk X.K H9 O0 H O σ ρ/\RC X H O (f ρ) Q
def qj (X:Cx)(f:Ev->R D):TE:=λσ H Q=>∃H9 O0 O ρ,EnvOk X.K H9 O0 H O σ ρ/\YI X H O (f ρ) Q
def uj (X:Cx)(f:Ev->R Bool):TT:=λσ H Q=>∃H9 O0 O ρ,EnvOk X.K H9 O0 H O σ ρ/\uX X H (f ρ) Q
def tDs (X:Cx)(f:Ev->R (List D)):TA:=λσ H Q=>∃H9 O0 O ρ,EnvOk X.K H9 O0 H O σ ρ/\FP X H O (f ρ) Q
def wq (X:Cx)(f:Ev->R (List D)):TA:=λσ H Q=>∃H9 O0 O ρ,EnvOk X.K H9 O0 H O σ ρ/\LS X H O (f ρ) Q
def PD (X:Cx)(e:Expr)(f:Ev->R D):Prop:=PE X e (tD X f)
def PB (X:Cx)(e:Expr)(f:Ev->R D):Prop:=PE X e (qj X f)
def DB (X:Cx)(e:Expr)(f:Ev->R Bool):Prop:=PT X e (uj X f)
def HZ (X:Cx)(es:List Expr)(f:Ev->R (List D)):Prop:=PA X es (tDs X f)
def VG (X:Cx)(es:List Expr)(f:Ev->R (List D)):Prop:=PA X es (wq X f)
def OD {r:Hp->(Addr->Prop)->Ev->VK->Prop}(h:PE X e t)(i:∀σ H Q H9 O0 O ρ,EnvOk X.K H9 O0 H O σ ρ->r H O ρ Q->t σ H Q):PE X e λσ H Q=>∃H9 O0 O ρ,EnvOk X.K H9 O0 H O σ ρ/\r H O ρ Q:=λpins s σ H Q I q=>h pins s σ H Q I (let⟨H9,O0,O,ρ,E,q⟩:=q;i σ H Q H9 O0 O ρ E q)
def ptI {r:Hp->(Addr->Prop)->Ev->(Bool->Hp->Prop)->Prop}(h:PT X e t)(i:∀σ H Q H9 O0 O ρ,EnvOk X.K H9 O0 H O σ ρ->r H O ρ Q->t σ H Q):PT X e λσ H Q=>∃H9 O0 O ρ,EnvOk X.K H9 O0 H O σ ρ/\r H O ρ Q:=λpins s σ H Q I q=>h pins s σ H Q I (let⟨H9,O0,O,ρ,E,q⟩:=q;i σ H Q H9 O0 O ρ E q)
def jj {r:Hp->(Addr->Prop)->Ev->(List V->Hp->Prop)->Prop}(h:PA X es t)(i:∀σ H Q H9 O0 O ρ,EnvOk X.K H9 O0 H O σ ρ->r H O ρ Q->t σ H Q):PA X es λσ H Q=>∃H9 O0 O ρ,EnvOk X.K H9 O0 H O σ ρ/\r H O ρ Q:=λpos pins s σ H Q I q=>h pos pins s σ H Q I (let⟨H9,O0,O,ρ,E,q⟩:=q;i σ H Q H9 O0 O ρ E q)
def xN {β:Type}{r:Hp->(Addr->Prop)->Ev->β->Prop}{G:List (Addr×Obj)->Shared->St->Hp->β->Prop}(h:∀pins s σ H Q,Inv X pins σ H s->∀H9 O0 O ρ,EnvOk X.K H9 O0 H O σ ρ->r H O ρ Q->G pins s σ H Q)(pins s σ H Q)(I:Inv X pins σ H s)(q:∃H9 O0 O ρ,EnvOk X.K H9 O0 H O σ ρ/\r H O ρ Q):G pins s σ H Q:=let⟨H9,O0,O,ρ,E,q⟩:=q;h pins s σ H Q I H9 O0 O ρ E q
def PD.pb (h:PD X e f):PB X e f:=OD h λσ H Q H9 O0 O ρ E q=>⟨H9,O0,O,ρ,E,by
 unfold RC YI at*
 cases e:f ρ with
 |ok d=>rw[e]at q;exactλv H' s r=>q v H' s (.inl r)
 |ex x=>rw[e]at q;exact q
 |bad=>rw[e]at q;exact q⟩
def RC.seq {O:Addr->Prop}(h:RC X H O (r.bind g) Q):
  RC X H O r λv H1=>∃d,r=.ok d/\Same H H1/\Rep X.K H1 O v d/\RC X H1 O (g d) Q:=by
 cases r with
 |ok d=>
  intro v H1 s1 r1;refine⟨d,rfl,s1,r1,?_⟩;have h':RC X H O (g d) Q:=h;cases e:g d with
  |ok d'=>rw[e]at h';exactλw H2 s2 r2=>h' w H2 (s1.trans s2) r2
  |ex x=>rw[e]at h';exactλH2 s2=>h' H2 (s1.trans s2)
  |bad=>rw[e]at h';exact h'
 |ex x=>exact h
 |bad=>exact h
def YI.seq {O:Addr->Prop}(h:RC X H O (r.bind g) Q):
  YI X H O r λv H1=>∃d,r=.ok d/\Same H H1/\A2 X.K H1 O v d/\RC X H1 O (g d) Q:=by
 cases r with
 |ok d=>
  intro v H1 s1 r1;refine⟨d,rfl,s1,r1,?_⟩;have h':RC X H O (g d) Q:=h;cases e:g d with
  |ok d'=>rw[e]at h';exactλw H2 s2 r2=>h' w H2 (s1.trans s2) r2
  |ex x=>rw[e]at h';exactλH2 s2=>h' H2 (s1.trans s2)
  |bad=>rw[e]at h';exact h'
 |ex x=>exact h
 |bad=>exact h
def RC.grow {O:Addr->Prop}(h:RC X H O r Q)(s1:Same H H1):RC X H1 O r Q:=by
 cases r with
 |ok d=>exactλw H2 s2 r2=>h w H2 (s1.trans s2) r2
 |ex x=>exactλH2 s2=>h H2 (s1.trans s2)
 |bad=>exact h
section
variable{X:Cx}
def A2.same (e:Same H H')(r:A2 X.K H O v d):A2 X.K H' O v d:=by
 rcases r with r|⟨a,vs,ds,h1,h2,h3,h4⟩
 ·exact .inl (r.same e)
 ·exact .inr ⟨a,vs,ds,h1,h2,e.seq h3,h4.same e⟩
def A2.aa5 {K:PySem.W.Frag}{ds:List D}(r:A2 K H O v (.lst ds)):∃a vs,v=.ref a/\K0 K H a vs/\Reps K H O vs ds:=by
 rcases r with r|⟨a,vs,es,h1,h2,h3,h4⟩
 ·cases r with|lst h n r=>exact⟨_,_,rfl,h,r⟩
 ·injection h2 with h2;subst h2;exact⟨a,vs,h1,h3,h4⟩
def A2.af9 {K:PySem.W.Frag}(r:A2 K H O v .dct):∃a o,v=.ref a/\H a=some (.ext λh=>h.get? a=some o)/\o.ExactDict:=by
 rcases r with r|⟨a,vs,es,h1,h2,h3,h4⟩
 ·cases r with|dct h x n=>exact⟨_,_,rfl,h,x⟩
 ·cases h2
def A2.tupI {K:PySem.W.Frag}{ds:List D}(r:A2 K H O v (.tup ds)):∃a vs,v=.ref a/\U1 K H a vs/\Reps K H O vs ds:=by
 rcases r with r|⟨a,vs,es,h1,h2,h3,h4⟩
 ·cases r with|tup h r=>exact⟨_,_,rfl,h,r⟩
 ·cases h2
def A2.aa6 {K:PySem.W.Frag}{i:Int}(r:A2 K H O v (.int i)):v=.int i:=by
 rcases r with r|⟨a,vs,es,h1,h2,h3,h4⟩
 ·cases r;rfl
 ·cases h2
def A2.blI {K:PySem.W.Frag}{i:Bool}(r:A2 K H O v (.bl i)):v=.bl i:=by
 rcases r with r|⟨a,vs,es,h1,h2,h3,h4⟩
 ·cases r;rfl
 ·cases h2
def A2.ac2 {K:PySem.W.Frag}(r:A2 K H O v .non):v=.non:=by
 rcases r with r|⟨a,vs,es,h1,h2,h3,h4⟩
 ·cases r;rfl
 ·cases h2
def A2.ac7 {K:PySem.W.Frag}{i:Str}(r:A2 K H O v (.str i)):v=.str i:=by
 rcases r with r|⟨a,vs,es,h1,h2,h3,h4⟩
 ·cases r;rfl
 ·cases h2
end
def V6 (i:Nat)(ρ:Ev):R D:=match ρ[i]? with
 |some (.v d)=>.ok d
 |_=>.bad
def pM (i:Nat)(ρ:Ev):R D:=match ρ[i]? with
 |some (.v d)=>.ok d
 |some (.o xs)=>.ok (.lst xs)
 |_=>.bad
section
def c7 (i:Nat)(hN:X.N[i]?=some x:=by rfl)(hv:AR X.env.scope x:=by first|exact aCM rfl|exact aBN (aCM rfl)|exact aBN (aBN rfl))(hd:(x==("__debug__":Str))=false:=by decide)(fb:(x==("__classdict__":Str))=false:=by decide):PD X (.Name x pos) (V6 i):=OD (Q6 hN hv hd fb) λσ H Q H9 O0 O ρ E q=>by
 unfold V6 at q;cases e:ρ[i]? with
 |none=>rw[e]at q;exact q.elim
 |some sl=>
  rw[e]at q;cases sl with
  |no=>exact q.elim
  |x C=>exact q.elim
  |c m φ=>exact q.elim
  |d kvs=>exact q.elim
  |o xs=>exact q.elim
  |v d=>obtain⟨v,h1,h2⟩:=E.val i d e;exact⟨v,h1,q v H (Same.refl H) h2⟩
def b8 (i:Nat)(hN:X.N[i]?=some x:=by rfl)(hv:AR X.env.scope x:=by first|exact aCM rfl|exact aBN (aCM rfl)|exact aBN (aBN rfl))(hd:(x==("__debug__":Str))=false:=by decide)(fb:(x==("__classdict__":Str))=false:=by decide):PB X (.Name x pos) (pM i):=OD (Q6 hN hv hd fb) λσ H Q H9 O0 O ρ E q=>by
 unfold pM at q;cases e:ρ[i]? with
 |none=>rw[e]at q;exact q.elim
 |some sl=>
  rw[e]at q;cases sl with
  |no=>exact q.elim
  |x C=>exact q.elim
  |c m φ=>exact q.elim
  |d kvs=>exact q.elim
  |o xs=>obtain⟨a,vs,h1,h2,h3,h4,h5⟩:=E.own i xs e;exact⟨_,h1,q _ H (Same.refl H) (.inr ⟨a,vs,xs,rfl,rfl,K0.of h4,h5⟩)⟩
  |v d=>obtain⟨v,h1,h2⟩:=E.val i d e;exact⟨v,h1,q v H (Same.refl H) (.inl h2)⟩
def TH (d:D)(_:Ev):R D:=.ok d
def uT (h:PE X e (tC v))(r:∀H O,Rep X.K H O v d):PD X e (TH d):=OD h λσ H Q H9 O0 O ρ E q=>q v H (Same.refl H) (r H O)
def c8 {j pos}:PD X (.Constant (.int i) j pos) (TH (.int i)):=uT UY λ_ _=>.int
def nJ {j pos}:PD X (.Constant (.bool i) j pos) (TH (.bl i)):=uT ez λ_ _=>.bl
def uD {j pos}:PD X (.Constant .none j pos) (TH .non):=uT YC λ_ _=>.non
def kG (X:Cx)(f:Value->Value->Sem Value)(g:D->D->R D):Prop:=
 ∀(H:Hp) (O:Addr->Prop) (x y:V) (dx dy:D) (Q:VK),(∀p,H p=none->¬O p)->A2 X.K H O x dx->A2 X.K H O y dy->RC X H O (g dx dy) Q->∃r,jM X f r/\r x y H Q
def lq (X:Cx)(O:Addr->Prop)(g:D->D->R D)(Q:VK):V->V->Hp->Prop:=λx y H=>∃dx dy,(∀p,H p=none->¬O p)/\A2 X.K H O x dx/\A2 X.K H O y dy/\RC X H O (g dx dy) Q
def mQ {O0 O:Addr->Prop}(E:EnvOk X.K H9 O0 H O σ ρ)(q:RC X H O ((f1 ρ).bind λx=>(f2 ρ).bind λy=>g x y) Q):
  qj X f1 σ H λx H1=>qj X f2 σ H1 λy H2=>lq X O g Q x y H2:=by
 refine⟨H9,O0,O,ρ,E,?_⟩;have h1:=YI.seq q;revert h1;cases e1:f1 ρ with
 |ok d1=>
  intro h1 x H1 s1 r1;obtain⟨d,e,_,r,h2⟩:=h1 x H1 s1 r1;cases e;have E1:=E.grow s1;refine⟨H9,O0,O,ρ,E1,?_⟩;have h3:=YI.seq h2;revert h3;cases e2:f2 ρ with
  |ok d2=>intro h3 y H2 s2 r2;obtain⟨d',e,_,r',h4⟩:=h3 y H2 s2 r2;cases e;exact⟨d1,d2,λp hp=>(E1.grow s2).fresh hp,r.same s2,r',h4⟩
  |ex x=>intro h3;exact h3
  |bad=>intro h3;exact h3
 |ex x=>intro h1;exact h1
 |bad=>intro h1;exact h1
def b9 (ho:kG X (binaryOp op) g)(ha:PB X a f1)(hb:PB X b f2):PD X (.BinOp a op b pos) (λρ=>(f1 ρ).bind λx=>(f2 ρ).bind λy=>g x y):=by refine xN λpins s σ H Q I H9 O0 O ρ E q=>?_;refine wpAny_BinOp (JI ha hb I (mQ E q) λv u s2 x y H2 I2 rx ry h=>?_);obtain⟨dx,dy,fr,r1,r2,q⟩:=h;obtain⟨r,hr,hq⟩:=ho H2 O x y dx dy Q fr r1 r2 q;exact hr pins s2 σ H2 x y v u Q I2 rx ry hq
def sV (ho:kG X (compareOp op) g)(ha:PB X a f1)(hb:PB X b f2)(hm:behindInMarks op b=false:=by first|exact NB _|with_unfolding_all rfl):
  PD X (.Compare a [op] [b] pos) (λρ=>(f1 ρ).bind λx=>(f2 ρ).bind λy=>g x y):=by
 refine xN λpins s σ H Q I H9 O0 O ρ E q=>?_;refine wpAny_Compare1 (JI ha hb I (mQ E q) λv u s2 x y H2 I2 rx ry h=>?_) hm;obtain⟨dx,dy,fr,r1,r2,q⟩:=h;obtain⟨r,hr,hq⟩:=ho H2 O x y dx dy Q fr r1 r2 q;exact hr pins s2 σ H2 x y v u Q I2 rx ry hq
def yR:D->R Bool
 |.bl b=>.ok b
 |_=>.bad
def sQ {O:Addr->Prop}{Q:Bool->Hp->Prop}(h:uX X H (r.bind yR) Q):RC X H O r λv H1=>∃c,v=.bl c/\Q c H1:=by
 cases r with
 |ok d=>
  cases d with
  |bl b=>intro v H1 s1 r1;cases r1;exact⟨b,rfl,h H1 s1⟩
  |_=>exact(show False from h).elim
 |ex x=>exact h
 |bad=>exact h
def l5 (ho:kG X (compareOp op) g)(ha:PB X a f1)(hb:PB X b f2)(hm:behindInMarks op b=false:=by first|exact NB _|with_unfolding_all rfl):
  DB X (.Compare a [op] [b] pos) (λρ=>((f1 ρ).bind λx=>(f2 ρ).bind λy=>g x y).bind yR):=by
 refine xN λpins s σ H Q I H9 O0 O ρ E q=>?_;have q':=sQ (O:=O) q;refine wpAny_isTrue_Compare1 (JI ha hb I (mQ E q') λv u s2 x y H2 I2 rx ry h=>?_) hm;obtain⟨dx,dy,fr,r1,r2,q⟩:=h;obtain⟨r,hr,hq⟩:=ho H2 O x y dx dy _ fr r1 r2 q;refine C1 (hr pins s2 σ H2 x y v u _ I2 rx ry hq) λc s3 ⟨z,H3,I3,r3,k,e,q3⟩=>?_;subst e;cases r3;exact aBA ⟨H3,I3,q3⟩
def mG (h:PD X e f)(he:∀whole,isTrue e X.env whole=(do let v<-whole;standAt e.pos;holding [v] (truthy v)):=by intro _;rfl):DB X e (λρ=>(f ρ).bind yR):=by refine ptI (WB h he) λσ H Q H9 O0 O ρ E q=>⟨H9,O0,O,ρ,E,sQ q⟩
def uX.seq {Q:Bool->Hp->Prop}(h:uX X H (r.bind g) Q):uX X H r λb H1=>r=.ok b/\Same H H1/\uX X H1 (g b) Q:=by
 cases r with
 |ok d=>
  intro H1 s1;refine⟨rfl,s1,?_⟩;have h':uX X H (g d) Q:=h;cases e:g d with
  |ok d'=>rw[e]at h';exactλH2 s2=>h' H2 (s1.trans s2)
  |ex x=>rw[e]at h';exactλH2 s2=>h' H2 (s1.trans s2)
  |bad=>rw[e]at h';exact h'
 |ex x=>exact h
 |bad=>exact h
def uX.ag2 {O:Addr->Prop}(h:RC X H O (r.bind g) Q):uX X H r λb H1=>r=.ok b/\Same H H1/\RC X H1 O (g b) Q:=by
 cases r with
 |ok d=>intro H1 s1;refine⟨rfl,s1,?_⟩;have h':RC X H O (g d) Q:=h;exact h'.grow s1
 |ex x=>exact h
 |bad=>exact h
def uX.mono {Q Q':Bool->Hp->Prop}(h:uX X H r Q)(i:∀b H1,Q b H1->Q' b H1):uX X H r Q':=by
 cases r with
 |ok d=>exactλH1 s1=>i _ _ (h H1 s1)
 |ex x=>exact h
 |bad=>exact h
def RC.mono {O:Addr->Prop}(h:RC X H O r Q)(i:∀b H1,Q b H1->Q' b H1):RC X H O r Q':=by
 cases r with
 |ok d=>exactλv H1 s1 r1=>i _ _ (h v H1 s1 r1)
 |ex x=>exact h
 |bad=>exact h
def AB (X:Cx)(e:Expr)(f:Ev->R Bool):Prop:=PW X e (uj X f)
def WI (f g:Ev->R Bool):Ev->R Bool:=λρ=>(f ρ).bind λb=>if b=true then g ρ else .ok false
def orB (f g:Ev->R Bool):Ev->R Bool:=λρ=>(f ρ).bind λb=>if b=true then .ok true else g ρ
def ZP (f:Ev->R Bool):Ev->R Bool:=λρ=>(f ρ).bind λb=>.ok (!b)
variable{rest:List Expr}
def cA (ha:DB X a f):AB X (.BoolOp .And [a] pos) f:=RD ha
def DZ (ha:DB X a f):AB X (.BoolOp .Or [a] pos) f:=XC ha
def JC (h:PW X e t)(i:∀σ H Q,t' σ H Q->t σ H Q):PW X e t':=λwh pins s σ H Q I q=>h wh pins s σ H Q I (i σ H Q q)
def eF (ha:DB X a f)(hb:AB X (.BoolOp .And (b::rest) pos) g):AB X (.BoolOp .And (a::b::rest) pos) (WI f g):=
 JC (WD ha hb) λσ H Q ⟨H9,O0,O,ρ,E,q⟩=>⟨H9,O0,O,ρ,E,uX.mono (uX.seq q) λb H1 ⟨_,s1,h1⟩=>by
  cases b with
  |true=>rw[if_pos rfl];exact⟨H9,O0,O,ρ,E.grow s1,h1⟩
  |false=>rw[if_neg aAQ];exact h1 H1 (Same.refl _)⟩
def JY (ha:DB X a f)(hb:AB X (.BoolOp .Or (b::rest) pos) g):AB X (.BoolOp .Or (a::b::rest) pos) (orB f g):=
 JC (fw ha hb) λσ H Q ⟨H9,O0,O,ρ,E,q⟩=>⟨H9,O0,O,ρ,E,uX.mono (uX.seq q) λb H1 ⟨_,s1,h1⟩=>by
  cases b with
  |false=>rw[if_neg aAQ];exact⟨H9,O0,O,ρ,E.grow s1,h1⟩
  |true=>rw[if_pos rfl];exact h1 H1 (Same.refl _)⟩
def AB.pt (h:AB X e f):DB X e f:=PW.pt h
def EF (ha:DB X a f):DB X (.UnaryOp .Not a pos) (ZP f):=
 ptI (XZ ha) λσ H Q H9 O0 O ρ E q=>⟨H9,O0,O,ρ,E,uX.mono (uX.seq q) λb H1 ⟨_,s1,h1⟩=>h1 H1 (Same.refl _)⟩
def orV (f:Ev->R D)(g:Ev->R D):Ev->R D:=λρ=>((f ρ).bind yR).bind λb=>if b=true then .ok (.bl true)else g ρ
def WW {op}{f:Ev->R D}(h:PD X a f):PD X (.BoolOp op [a] pos) f:=VJ h
def ZY {f g:Ev->R D}(ha:PD X a f)(hb:PD X (.BoolOp .Or (b::rest) pos) g):PD X (.BoolOp .Or (a::b::rest) pos) (orV f g):=
 OD (gw ha hb) λσ H Q H9 O0 O ρ E q=>⟨H9,O0,O,ρ,E,RC.mono (sQ<|uX.ag2 q) λv H1 ⟨c,e,_,s1,h1⟩=>⟨c,e,by
  cases c with
  |false=>rw[if_neg aAQ];exact⟨H9,O0,O,ρ,E.grow s1,h1⟩
  |true=>rw[if_pos rfl];exact h1 _ H1 (Same.refl _) .bl⟩⟩
def PC:D->R D
 |.int i=>.ok (.int (-i))
 |_=>.bad
def aN {f:Ev->R D}(ha:PD X a f):PD X (.UnaryOp .USub a pos) (λρ=>(f ρ).bind PC):=
 OD (bx WA ha) λσ H Q H9 O0 O ρ E q=>⟨H9,O0,O,ρ,E,by
  refine RC.mono (RC.seq q) λv H1 ⟨d,_,s1,r1,h1⟩=>?_;cases d with
  |int i=>cases r1;exact⟨i,rfl,h1 _ H1 (Same.refl _) .int⟩
  |_=>exact(show False from h1).elim⟩
def FP.seq {H:Hp}{O:Addr->Prop}{r:R (List D)}{g:List D->R D}{Q:VK}(h:RC X H O (r.bind g) Q):
  FP X H O r λv H1=>∃d,r=.ok d/\Same H H1/\Reps X.K H1 O v d/\RC X H1 O (g d) Q:=by
 cases r with
 |ok d=>exactλv H1 s1 r1=>⟨d,rfl,s1,r1,(show RC X H O (g d) Q from h).grow s1⟩
 |ex x=>exact h
 |bad=>exact h
def FP.mono {O:Addr->Prop}{Q Q':List V->Hp->Prop}(h:FP X H O r Q)(i:∀b H1,Q b H1->Q' b H1):FP X H O r Q':=by
 cases r with
 |ok d=>exactλv H1 s1 r1=>i _ _ (h v H1 s1 r1)
 |ex x=>exact h
 |bad=>exact h
def LS.seq {H:Hp}{O:Addr->Prop}{r:R (List D)}{g:List D->R D}{Q:VK}(h:RC X H O (r.bind g) Q):
  LS X H O r λv H1=>∃d,r=.ok d/\Same H H1/\Paired (A2 X.K H1 O) v d/\RC X H1 O (g d) Q:=by
 cases r with
 |ok d=>exactλv H1 s1 r1=>⟨d,rfl,s1,r1,(show RC X H O (g d) Q from h).grow s1⟩
 |ex x=>exact h
 |bad=>exact h
def o8 (f:Ev->R D)(g:Ev->R (List D)):Ev->R (List D):=λρ=>(f ρ).bind λd=>(g ρ).bind λds=>.ok (d::ds)
def Q5:Ev->R (List D):=λ_=>.ok []
def o5:HZ X [] Q5:=jj fG λσ H Q H9 O0 O ρ E q=>q [] H (Same.refl _) .nil
def f8 {f:Ev->R D}{g:Ev->R (List D)}(ha:PD X e f)(hr:HZ X es g)(hs:starEach (e::es) X.env=(false,eval e X.env)::starEach es X.env:=by rfl):HZ X (e::es) (o8 f g):=
 jj (S6 ha hr hs) λσ H Q H9 O0 O ρ E q=>⟨H9,O0,O,ρ,E,by
  unfold o8 at q;cases e1:f ρ with
  |ok d=>
   rw[e1]at q;intro v H1 s1 r1;refine⟨H9,O0,O,ρ,E.grow s1,?_⟩;cases e2:g ρ with
   |ok ds=>rw[e2]at q;exactλvs H2 s2 r2=>q (v::vs) H2 (s1.trans s2) (.cons (r1.same s2) r2)
   |ex x=>rw[e2]at q;exactλH2 s2=>q H2 (s1.trans s2)
   |bad=>rw[e2]at q;exact q
  |ex x=>rw[e1]at q;exact q
  |bad=>rw[e1]at q;exact q⟩
def v6:VG X [] Q5:=jj fG λσ H Q H9 O0 O ρ E q=>q [] H (Same.refl _) .nil
def l8 {f:Ev->R D}{g:Ev->R (List D)}(ha:PB X e f)(hr:VG X es g)(hs:starEach (e::es) X.env=(false,eval e X.env)::starEach es X.env:=by rfl):VG X (e::es) (o8 f g):=
 jj (S6 ha hr hs) λσ H Q H9 O0 O ρ E q=>⟨H9,O0,O,ρ,E,by
  unfold o8 at q;cases e1:f ρ with
  |ok d=>
   rw[e1]at q;intro v H1 s1 r1;refine⟨H9,O0,O,ρ,E.grow s1,?_⟩;cases e2:g ρ with
   |ok ds=>rw[e2]at q;exactλvs H2 s2 r2=>q (v::vs) H2 (s1.trans s2) (.cons (r1.same s2) r2)
   |ex x=>rw[e2]at q;exactλH2 s2=>q H2 (s1.trans s2)
   |bad=>rw[e2]at q;exact q
  |ex x=>rw[e1]at q;exact q
  |bad=>rw[e1]at q;exact q⟩
def bR (ds:List D):R D:=if ds.length<=sizeLine then .ok (.tup ds)else .bad
def qF (ds:List D):R D:=if ds.length<=sizeLine then .ok (.lst ds)else .bad
def yW {f:Ev->R (List D)}{x1}(h:HZ X es f):PD X (.Tuple es x1 pos) (λρ=>(f ρ).bind bR):=
 OD (XN h) λσ H Q H9 O0 O ρ E q=>⟨H9,O0,O,ρ,E,FP.mono (FP.seq q) λvs H1 ⟨ds,_,s1,r1,h1⟩=>by
  unfold bR at h1;split at h1
  ·rename_i hz;exact⟨by rw[r1.length];exact hz,λp hp=>h1 (.ref p) _ (j5 hp _) (.tup (U1.of j3) (r1.same<|j5 hp _))⟩
  ·exact h1.elim⟩
def bZ {f:Ev->R (List D)}(h:HZ X es f):PD X (.List es pos) (λρ=>(f ρ).bind qF):=
 OD (NP h) λσ H Q H9 O0 O ρ E q=>⟨H9,O0,O,ρ,E,FP.mono (FP.seq q) λvs H1 ⟨ds,_,s1,r1,h1⟩=>by
  unfold qF at h1;split at h1
  ·rename_i hz;exact⟨by rw[r1.length];exact hz,λp hp=>h1 (.ref p) _ (j5 hp _) (.lst (K0.of j3) ((E.grow s1).fresh hp) (r1.same<|j5 hp _))⟩
  ·exact h1.elim⟩
def Z5 (X:Cx)(f:Value)(g:List D->R D):Prop:=
 ∀(H:Hp) (O:Addr->Prop) (vs:List V) (ds:List D) (Q:VK),(∀p,H p=none->¬O p)->Paired (A2 X.K H O) vs ds->RC X H O (g ds) Q->∃r,nK X f r/\r vs H Q
def cE {x:Str}{id:String}{p:Pos}{f:Ev->R (List D)}{g:List D->R D}(hc:Z5 X (.builtin id) g)(ha:VG X (e::es) f)(hg:Gl X x:=by rfl)(hm:X.mg x=none:=by assumption)(hv:bootBuiltins x=some (.builtin id):=by decide+kernel)(hn:x≠ "__name__":=by decide)
  (gv:(x==("__debug__":Str))=false:=by decide) (he:starEach (e::es) X.env=(false,eval e X.env)::starEach es X.env:=by rfl) (bh:(backTo pos (starEach es X.env)).any (·.1)=false:=by rfl):
  PD X (.Call (.Name x p) (e::es) [] pos) (λρ=>(f ρ).bind g):=by
 refine xN λpins s σ H Q I H9 O0 O ρ E q=>?_;refine aAT (V5 I hg hm hv ?_ hn gv);refine aCT (C1 (ha pos pins s σ H _ I ⟨H9,O0,O,ρ,E,LS.seq q⟩) λus s1 ⟨vs,H1,I1,r1,d,_,sm,r,h⟩=>?_) he bh;obtain⟨r',hr,hq⟩:=hc H1 O vs d Q (λp hp=>(E.grow sm).fresh hp) r h;exact hr pins s1 σ H1 vs us Q I1 r1 hq
def M8 {x:Str}{T:String}{p:Pos}{f:Ev->R (List D)}{g:List D->R D}(hc:Z5 X (.type T) g)(ha:VG X (e::es) f)(hg:Gl X x:=by rfl)(hm:X.mg x=none:=by assumption)(hv:bootBuiltins x=some (.type T):=by decide+kernel)(hn:x≠ "__name__":=by decide)
  (gv:(x==("__debug__":Str))=false:=by decide) (he:starEach (e::es) X.env=(false,eval e X.env)::starEach es X.env:=by rfl) (bh:(backTo pos (starEach es X.env)).any (·.1)=false:=by rfl):
  PD X (.Call (.Name x p) (e::es) [] pos) (λρ=>(f ρ).bind g):=by
 refine xN λpins s σ H Q I H9 O0 O ρ E q=>?_;refine aAT (V5 I hg hm hv ?_ hn gv);refine aAX (C1 (ha pos pins s σ H _ I ⟨H9,O0,O,ρ,E,LS.seq q⟩) λus s1 ⟨vs,H1,I1,r1,d,_,sm,r,h⟩=>?_) he bh;obtain⟨r',hr,hq⟩:=hc H1 O vs d Q (λp hp=>(E.grow sm).fresh hp) r h;exact hr pins s1 σ H1 vs us Q I1 r1 hq
end
mutual
def v5:D->D->Bool
 |.non,.non=>true
 |.bl a,.bl b=>a==b
 |.bl a,.int b=>(if a then 1 else 0)==b
 |.int a,.bl b=>a==(if b then 1 else 0)
 |.int a,.int b=>a==b
 |.str a,.str b=>a==b
 |.tup xs,.tup ys=>V9 xs ys
 |.lst xs,.lst ys=>V9 xs ys
 |.dct,.dct=>true
 |_,_=>false
def V9:List D->List D->Bool
 |[],[]=>true
 |x::xs,y::ys=>v5 x y&&V9 xs ys
 |_,_=>false
end
mutual
def E9:D->Nat
 |.tup xs=>G0 xs+1
 |.lst xs=>G0 xs+1
 |.dct=>cLine
 |_=>0
def G0:List D->Nat
 |[]=>0
 |x::xs=>max (E9 x) (G0 xs)
end
mutual
theorem Y7:∀d:D,v5 d d=true
 |.non=>by simp[v5]
 |.bl b=>by simp[v5]
 |.int i=>by simp[v5]
 |.str x=>by simp[v5]
 |.tup xs=>by rw[v5];exact iZ xs
 |.lst xs=>by rw[v5];exact iZ xs
 |.dct=>by simp[v5]
theorem iZ:∀ds:List D,V9 ds ds=true
 |[]=>by simp[V9]
 |x::xs=>by rw[V9,Y7 x,iZ xs];rfl
end
def lE (xs ys:List D)(j:Nat):Bool:=match xs[j]?,ys[j]? with
 |some a,some b=>v5 a b
 |_,_=>false
theorem fU:∀(xs ys:List D),V9 xs ys=((aBt (min xs.length ys.length)).all (lE xs ys)&&(xs.length==ys.length))
 |[],[]=>by simp[V9]
 |[],_::_=>by simp[V9]
 |_::_,[]=>by simp[V9]
 |x::xs,y::ys=>by
  rw[V9,fU xs ys,aAw,aAw,Nat.succ_min_succ,aFC,aGd,List.all_map];have e1:lE (x::xs) (y::ys) 0=v5 x y:=rfl;have e2:(lE (x::xs) (y::ys)∘Nat.succ)=lE xs ys:=by
   funext j
   simp[lE]
  have e3:(xs.length+1==ys.length+1)=(xs.length==ys.length):=by rw[aDl];simp
  rw[e1,e2,e3,Bool.and_assoc]
theorem tW:∀{xs:List D} {d:D} {j:Nat},xs[j]?=some d->E9 d<=G0 xs
 |[],_,_,h=>by simp at h
 |x::xs,d,0,h=>by simp at h;subst h;rw[G0];exact Nat.le_max_left _ _
 |x::xs,d,j+1,h=>by rw[G0];exact aAs (tW (j:=j) (by simpa using h)) (Nat.le_max_right _ _)
section
def AJ {K:PySem.W.Frag}{H:Hp}{O:Addr->Prop}{a:Addr}{d:D}(h:Rep K H O (.ref a) d):(∃vs ds,d=.tup ds/\U1 K H a vs/\Reps K H O vs ds)\/(∃vs ds,d=.lst ds/\K0 K H a vs/\Reps K H O vs ds)\/(d=.dct/\∃o:Obj,H a=some (.ext λh=>h.get? a=some o)/\o.ExactDict):=by
 cases h with
 |tup h r=>exact .inl ⟨_,_,rfl,h,r⟩
 |lst h n r=>exact .inr (.inl ⟨_,_,rfl,h,r⟩)
 |dct h x n=>exact .inr (.inr ⟨rfl,_,h,x⟩)
def UO (I:Inv X pins σ H s)(h:U1 X.K H a vs)(h':K0 X.K H a ws):False:=by obtain⟨its,_,p,_⟩:=I.tuple h;obtain⟨its',_,p',_⟩:=I.list h';exact absurd rfl (SeqAt.ne_of_list_tuple (s:=s) p'.isList p)
def UM {o:Obj}(I:Inv X pins σ H s)(h':U1 X.K H a vs)(h:H a=some (.ext λh=>h.get? a=some o))(x:o.ExactDict):False:=by obtain⟨its,_,⟨o',g,c,_⟩,_⟩:=I.tuple h';have e:s.heap.get? _=some _:=(I.hok _ _ h).1;rw[g]at e;cases e;exact absurd (c.symm.trans x.1) (by decide)
def UH {o:Obj}(I:Inv X pins σ H s)(h':K0 X.K H a vs)(h:H a=some (.ext λh=>h.get? a=some o))(x:o.ExactDict):False:=by obtain⟨its,_,p,_⟩:=I.list h';obtain⟨o',g,c,_⟩:=p.isList;have e:s.heap.get? _=some _:=(I.hok _ _ h).1;rw[g]at e;cases e;exact absurd (c.symm.trans x.1) (by decide)
mutual
theorem Rep.inj (I:Inv X pins σ H s):∀{v:V} {d:D},Rep X.K H O v d->∀{d':D},Rep X.K H O' v d'->d=d'
 |_,_,.non=>λh=>by cases h;rfl
 |_,_,.bl=>λh=>by cases h;rfl
 |_,_,.int=>λh=>by cases h;rfl
 |_,_,.str=>λh=>by cases h;rfl
 |_,_,.tup h r=>λh'=>by
  rcases AJ h' with⟨_,_,rfl,h2,r2⟩|⟨_,_,rfl,h2,_⟩|⟨rfl,_,h2,x⟩
  ·have e:=I.ab5 h h2;subst e;rw[Reps.inj I r r2]
  ·exact(UO I h h2).elim
  ·exact(UM I h h2 x).elim
 |_,_,.lst h _ r=>λh'=>by
  rcases AJ h' with⟨_,_,rfl,h2,_⟩|⟨_,_,rfl,h2,r2⟩|⟨rfl,_,h2,x⟩
  ·exact(UO I h2 h).elim
  ·have e:=I.ab0 h h2;subst e;rw[Reps.inj I r r2]
  ·exact(UH I h h2 x).elim
 |_,_,.dct h x _=>λh'=>by
  rcases AJ h' with⟨_,_,rfl,h2,_⟩|⟨_,_,rfl,h2,_⟩|⟨rfl,_⟩
  ·exact(UM I h2 h x).elim
  ·exact(UH I h2 h x).elim
  ·rfl
theorem Reps.inj (I:Inv X pins σ H s):∀{v:List V} {d:List D},Reps X.K H O v d->∀{d':List D},Reps X.K H O' v d'->d=d'
 |_,_,.nil=>λh=>by cases h;rfl
 |_,_,.cons h t=>λh2=>by
  cases h2 with
  |cons h' t'=>rw[Rep.inj I h h',Reps.inj I t t']
end
def mK (A:Around)(s:Shared)(us ws:List Value)(xs ys:List D):Prop:=∀(j:Nat) (u w:Value),us[j]?=some u->ws[j]?=some w->SeqAt.EqAt A.in1 s u w (lE xs ys j)
def yI (hl:s.heap.IsList l us.toArray)(hb:s.heap.IsList b ws.toArray)(e1:us.length=xs.length)(e2:ws.length=ys.length)(hu:A.units<cLine)(hp:mK A s us ws xs ys):SeqAt.RcAt A s (.ref l) (.ref b) (V9 xs ys)/\SeqAt.RcNeAt A s (.ref l) (.ref b) (!V9 xs ys):=by
 rw[fU];by_cases hsz:xs.length=ys.length
 ·have hz:us.toArray.size=ws.toArray.size:=by simp[e1,e2,hsz]
  have hm:min xs.length ys.length=us.toArray.size:=by simp[e1,hsz]
  have hq:(xs.length==ys.length)=true:=by simp[hsz]
  have he:∀j (h1:j<us.toArray.size) (h2:j<ws.toArray.size),SeqAt.EqAt A.in1 s us.toArray[j] ws.toArray[j] (lE xs ys j):=λj h1 h2=>hp j _ _ (by simp[aAg (show j<us.length by simpa using h1)]) (by simp[aAg (show j<ws.length by simpa using h2)]);rw[hq,Bool.and_true,hm];exact⟨SeqAt.RcAt.lists hl hb hz hu he,SeqAt.RcNeAt.lists hl hb hz hu he⟩
 ·have hz:(us.toArray.size !=ws.toArray.size)=true:=by simp[e1,e2,hsz]
  have hq:(xs.length==ys.length)=false:=by simp[hsz]
  rw[hq,aFU];exact⟨SeqAt.RcAt.lists_lengths hl hb hz hu,SeqAt.RcNeAt.lists_lengths hl hb hz hu⟩
def kF (hl:IsTup s.heap l us.toArray)(hb:IsTup s.heap b ws.toArray)(e1:us.length=xs.length)(e2:ws.length=ys.length)(hu:A.units<cLine)(hp:mK A s us ws xs ys):SeqAt.RcAt A s (.ref l) (.ref b) (V9 xs ys)/\SeqAt.RcNeAt A s (.ref l) (.ref b) (!V9 xs ys):=by
 rw[fU];have hm:min xs.length ys.length=min us.toArray.size ws.toArray.size:=by simp[e1,e2]
 have hq:(xs.length==ys.length)=(us.toArray.size==ws.toArray.size):=by simp[e1,e2]
 have he:∀j (h1:j<us.toArray.size) (h2:j<ws.toArray.size),SeqAt.EqAt A.in1 s us.toArray[j] ws.toArray[j] (lE xs ys j):=λj h1 h2=>hp j _ _ (by simp[aAg (show j<us.length by simpa using h1)]) (by simp[aAg (show j<ws.length by simpa using h2)]);rw[hq,hm];exact⟨SeqAt.RcAt.tuples hl hb hu he,SeqAt.RcNeAt.tuples hl hb hu he⟩
def u7 (A:Around):A.in1.units=A.units+1:=rfl
mutual
theorem WF (I:Inv X pins σ H s):∀{x y:V} {dx dy:D} {v u:Value} {A:Around},Rep X.K H O x dx->Rep X.K H O' y dy->RelV x v->RelV y u->A.units+E9 dx<cLine->A.units+E9 dy<cLine->SeqAt.EqAt A s v u (v5 dx dy)
 |_,_,_,_,v,u,A,.non,ry,rv,ru,hu,hv=>by
  have au:A.units<cLine:=by lia
  cases rv;cases ry with
  |dct=>exact absurd hv (by rw[E9];lia)
  |non=>cases ru;exact aDO _
  |bl=>cases ru;simp only[v5];exact SeqAt.EqAt.none_bool _
  |int=>obtain⟨t,rfl⟩:=ru;simp only[v5];exact SeqAt.EqAt.none_int _ _
  |str=>obtain⟨t,rfl⟩:=ru;simp only[v5];exact SeqAt.EqAt.none_str _ _
  |tup h r=>cases ru;obtain⟨_,_,p,_⟩:=I.tuple h;simp only[v5];exact SeqAt.EqAt.none_tuple p au
  |lst h _ r=>cases ru;obtain⟨_,_,p,_⟩:=I.list h;simp only[v5];exact SeqAt.EqAt.none_list p.isList au
 |_,_,_,_,v,u,A,.bl,ry,rv,ru,hu,hv=>by
  have au:A.units<cLine:=by lia
  cases rv;cases ry with
  |dct=>exact absurd hv (by rw[E9];lia)
  |non=>cases ru;simp only[v5];exact SeqAt.EqAt.bool_none _
  |bl=>cases ru;simp only[v5];exact SeqAt.EqAt.bool_bool _ _
  |int=>obtain⟨t,rfl⟩:=ru;simp only[v5];exact SeqAt.EqAt.bool_int _ _ _
  |str=>obtain⟨t,rfl⟩:=ru;simp only[v5];exact SeqAt.EqAt.bool_str _ _ _
  |tup h r=>cases ru;obtain⟨_,_,p,_⟩:=I.tuple h;simp only[v5];exact SeqAt.EqAt.bool_tuple _ p au
  |lst h _ r=>cases ru;obtain⟨_,_,p,_⟩:=I.list h;simp only[v5];exact SeqAt.EqAt.bool_list _ p.isList au
 |_,_,_,_,v,u,A,.int,ry,rv,ru,hu,hv=>by
  have au:A.units<cLine:=by lia
  obtain⟨t1,rfl⟩:=rv;cases ry with
  |dct=>exact absurd hv (by rw[E9];lia)
  |non=>cases ru;simp only[v5];exact SeqAt.EqAt.int_none _ _
  |bl=>cases ru;simp only[v5];exact SeqAt.EqAt.int_bool _ _ _
  |int=>obtain⟨t,rfl⟩:=ru;simp only[v5];exact aEP _ _ _ _
  |str=>obtain⟨t,rfl⟩:=ru;simp only[v5];exact aGb _ _ _ _
  |tup h r=>cases ru;obtain⟨_,_,p,_⟩:=I.tuple h;simp only[v5];exact aFP _ _ p au
  |lst h _ r=>cases ru;obtain⟨_,_,p,_⟩:=I.list h;simp only[v5];exact SeqAt.EqAt.int_list _ _ p.isList au
 |_,_,_,_,v,u,A,.str,ry,rv,ru,hu,hv=>by
  have au:A.units<cLine:=by lia
  obtain⟨t1,rfl⟩:=rv;cases ry with
  |dct=>exact absurd hv (by rw[E9];lia)
  |non=>cases ru;simp only[v5];exact SeqAt.EqAt.str_none _ _
  |bl=>cases ru;simp only[v5];exact SeqAt.EqAt.str_bool _ _ _
  |int=>obtain⟨t,rfl⟩:=ru;simp only[v5];exact aGc _ _ _ _
  |str=>obtain⟨t,rfl⟩:=ru;simp only[v5];exact SeqAt.EqAt.str_str _ _ _ _
  |tup h r=>cases ru;obtain⟨_,_,p,_⟩:=I.tuple h;simp only[v5];exact SeqAt.EqAt.str_tuple _ _ p au
  |lst h _ r=>cases ru;obtain⟨_,_,p,_⟩:=I.list h;simp only[v5];exact SeqAt.EqAt.str_list _ _ p.isList au
 |_,_,_,_,v,u,A,.tup (a:=a) (vs:=vs) (ds:=ds) h r,ry,rv,ru,hu,hv=>by
  have au:A.units<cLine:=by lia
  cases rv;obtain⟨its,rr,p,_⟩:=I.tuple h;cases ry with
  |dct=>exact absurd hv (by rw[E9];lia)
  |non=>cases ru;simp only[v5];exact SeqAt.EqAt.tuple_none p au
  |bl=>cases ru;simp only[v5];exact SeqAt.EqAt.tuple_bool _ p au
  |int=>obtain⟨t,rfl⟩:=ru;simp only[v5];exact aFQ _ _ p au
  |str=>obtain⟨t,rfl⟩:=ru;simp only[v5];exact SeqAt.EqAt.tuple_str _ _ p au
  |@tup a' gr bf h' r'=>
   cases ru;obtain⟨its',ni,p',_⟩:=I.tuple h';by_cases e:a=a'
   ·subst e;have e2:=I.ab5 h h';subst e2;have e3:=Reps.inj I r r';subst e3;rw[Y7];exact aDO _
   ·simp only[v5];refine aEQ e (kF p p' (by rw[<-rr.length,r.length]) (by rw[<-ni.length,r'.length]) au<|gS I r r' rr ni ?_ ?_).1
    ·rw[E9]at hu;rw[u7];lia
    ·rw[E9]at hv;rw[u7];lia
  |lst h' _ r'=>cases ru;obtain⟨_,_,p',_⟩:=I.list h';simp only[v5];exact SeqAt.EqAt.tuple_list p p'.isList au
 |_,_,_,_,v,u,A,.lst (a:=a) (vs:=vs) (ds:=ds) h nO r,ry,rv,ru,hu,hv=>by
  have au:A.units<cLine:=by lia
  cases rv;obtain⟨its,rr,p,_⟩:=I.list h;cases ry with
  |dct=>exact absurd hv (by rw[E9];lia)
  |non=>cases ru;simp only[v5];exact SeqAt.EqAt.list_none p.isList au
  |bl=>cases ru;simp only[v5];exact SeqAt.EqAt.list_bool _ p.isList au
  |int=>obtain⟨t,rfl⟩:=ru;simp only[v5];exact SeqAt.EqAt.list_int _ _ p.isList au
  |str=>obtain⟨t,rfl⟩:=ru;simp only[v5];exact SeqAt.EqAt.list_str _ _ p.isList au
  |tup h' r'=>cases ru;obtain⟨_,_,p',_⟩:=I.tuple h';simp only[v5];exact SeqAt.EqAt.list_tuple p.isList p' au
  |@lst a' gr bf h' nO' r'=>
   cases ru;obtain⟨its',ni,p',_⟩:=I.list h';by_cases e:a=a'
   ·subst e;have e2:=I.ab0 h h';subst e2;have e3:=Reps.inj I r r';subst e3;rw[Y7];exact aDO _
   ·simp only[v5];refine aEQ e (yI p.isList p'.isList (by rw[<-rr.length,r.length]) (by rw[<-ni.length,r'.length]) au<|gS I r r' rr ni ?_ ?_).1
    ·rw[E9]at hu;rw[u7];lia
    ·rw[E9]at hv;rw[u7];lia
 |_,_,_,_,v,u,A,.dct ..,ry,rv,ru,hu,hv=>absurd hu (by rw[E9];lia)
theorem gS (I:Inv X pins σ H s):∀{vs ws:List V} {xs ys:List D} {us ts:List Value} {A:Around},Reps X.K H O vs xs->Reps X.K H O' ws ys->l6 vs us->l6 ws ts->A.in1.units+G0 xs<cLine->A.in1.units+G0 ys<cLine->mK A s us ts xs ys
 |_,_,_,_,us,ts,A,.nil,ry,rv,ru,hu,hv=>λj u w h1 h2=>by cases rv;simp at h1
 |_,_,_,_,us,ts,A,.cons h t,.nil,rv,ru,hu,hv=>λj u w h1 h2=>by cases ru;simp at h2
 |_,_,_,_,us,ts,A,.cons (d:=d) (ds:=ds) h t,.cons (d:=d') (ds:=bf) h' t',rv,ru,hu,hv=>λj u w h1 h2=>by
  cases rv with
  |cons r1 r2=>
   cases ru with
   |cons r1' r2'=>
    rw[G0]at hu hv;cases j with
    |zero=>simp only[aCU,aGj]at h1 h2;subst h1 h2;exact WF I h h' r1 r1' (by lia) (by lia)
    |succ j=>simp only[aCV]at h1 h2;have q:=gS I (A:=A) t t' r2 r2' (by lia) (by lia) j u w h1 h2;exact q
end
def cj (I:Inv X pins σ H s)(r1:A2 X.K H O x dx)(r2:A2 X.K H O' y dy)(rv:RelV x v)(ru:RelV y u)(hu:A.units+E9 dx<cLine)(hv:A.units+E9 dy<cLine):
  SeqAt.RcAt A s v u (v5 dx dy)/\SeqAt.RcNeAt A s v u (!v5 dx dy):=by
 have au:A.units<cLine:=by lia
 cases dx with
 |dct=>exact absurd hu (by rw[E9];lia)
 |non=>
  cases r1.ac2;cases rv;cases dy with
  |dct=>exact absurd hv (by rw[E9];lia)
  |non=>cases r2.ac2;cases ru;simp only[v5];exact⟨SeqAt.RcAt.none_none,SeqAt.RcNeAt.none_none⟩
  |bl=>cases r2.blI;cases ru;simp only[v5];exact⟨SeqAt.RcAt.none_bool _,SeqAt.RcNeAt.none_bool _⟩
  |int=>cases r2.aa6;obtain⟨t,rfl⟩:=ru;simp only[v5];exact⟨SeqAt.RcAt.none_int _ _,SeqAt.RcNeAt.none_int _ _⟩
  |str=>cases r2.ac7;obtain⟨t,rfl⟩:=ru;simp only[v5];exact⟨SeqAt.RcAt.none_str _ _,SeqAt.RcNeAt.none_str _ _⟩
  |tup ys=>obtain⟨a,vs,rfl,h,r⟩:=r2.tupI;cases ru;obtain⟨_,_,p,_⟩:=I.tuple h;simp only[v5];exact⟨SeqAt.RcAt.none_tuple p au,SeqAt.RcNeAt.none_tuple p au⟩
  |lst ys=>obtain⟨a,vs,rfl,h,r⟩:=r2.aa5;cases ru;obtain⟨_,_,p,_⟩:=I.list h;simp only[v5];exact⟨SeqAt.RcAt.none_list p.isList au,SeqAt.RcNeAt.none_list p.isList au⟩
 |bl=>
  cases r1.blI;cases rv;cases dy with
  |dct=>exact absurd hv (by rw[E9];lia)
  |non=>cases r2.ac2;cases ru;simp only[v5];exact⟨SeqAt.RcAt.bool_none _,SeqAt.RcNeAt.bool_none _⟩
  |bl=>cases r2.blI;cases ru;simp only[v5];exact⟨SeqAt.RcAt.bool_bool _ _,SeqAt.RcNeAt.bool_bool _ _⟩
  |int=>cases r2.aa6;obtain⟨t,rfl⟩:=ru;simp only[v5];exact⟨SeqAt.RcAt.bool_int _ _ _,SeqAt.RcNeAt.bool_int _ _ _⟩
  |str=>cases r2.ac7;obtain⟨t,rfl⟩:=ru;simp only[v5];exact⟨SeqAt.RcAt.bool_str _ _ _,SeqAt.RcNeAt.bool_str _ _ _⟩
  |tup ys=>obtain⟨a,vs,rfl,h,r⟩:=r2.tupI;cases ru;obtain⟨_,_,p,_⟩:=I.tuple h;simp only[v5];exact⟨SeqAt.RcAt.bool_tuple _ p au,SeqAt.RcNeAt.bool_tuple _ p au⟩
  |lst ys=>obtain⟨a,vs,rfl,h,r⟩:=r2.aa5;cases ru;obtain⟨_,_,p,_⟩:=I.list h;simp only[v5];exact⟨SeqAt.RcAt.bool_list _ p.isList au,SeqAt.RcNeAt.bool_list _ p.isList au⟩
 |int=>
  cases r1.aa6;obtain⟨t1,rfl⟩:=rv;cases dy with
  |dct=>exact absurd hv (by rw[E9];lia)
  |non=>cases r2.ac2;cases ru;simp only[v5];exact⟨SeqAt.RcAt.int_none _ _,SeqAt.RcNeAt.int_none _ _⟩
  |bl=>cases r2.blI;cases ru;simp only[v5];exact⟨SeqAt.RcAt.int_bool _ _ _,SeqAt.RcNeAt.int_bool _ _ _⟩
  |int=>cases r2.aa6;obtain⟨t,rfl⟩:=ru;simp only[v5];exact⟨SeqAt.RcAt.int_int _ _ _ _,SeqAt.RcNeAt.int_int _ _ _ _⟩
  |str=>cases r2.ac7;obtain⟨t,rfl⟩:=ru;simp only[v5];exact⟨SeqAt.RcAt.int_str _ _ _ _,SeqAt.RcNeAt.int_str _ _ _ _⟩
  |tup ys=>obtain⟨a,vs,rfl,h,r⟩:=r2.tupI;cases ru;obtain⟨_,_,p,_⟩:=I.tuple h;simp only[v5];exact⟨SeqAt.RcAt.int_tuple _ _ p au,SeqAt.RcNeAt.int_tuple _ _ p au⟩
  |lst ys=>obtain⟨a,vs,rfl,h,r⟩:=r2.aa5;cases ru;obtain⟨_,_,p,_⟩:=I.list h;simp only[v5];exact⟨SeqAt.RcAt.int_list _ _ p.isList au,SeqAt.RcNeAt.int_list _ _ p.isList au⟩
 |str=>
  cases r1.ac7;obtain⟨t1,rfl⟩:=rv;cases dy with
  |dct=>exact absurd hv (by rw[E9];lia)
  |non=>cases r2.ac2;cases ru;simp only[v5];exact⟨SeqAt.RcAt.str_none _ _,SeqAt.RcNeAt.str_none _ _⟩
  |bl=>cases r2.blI;cases ru;simp only[v5];exact⟨SeqAt.RcAt.str_bool _ _ _,SeqAt.RcNeAt.str_bool _ _ _⟩
  |int=>cases r2.aa6;obtain⟨t,rfl⟩:=ru;simp only[v5];exact⟨SeqAt.RcAt.str_int _ _ _ _,SeqAt.RcNeAt.str_int _ _ _ _⟩
  |str=>cases r2.ac7;obtain⟨t,rfl⟩:=ru;simp only[v5];exact⟨SeqAt.RcAt.str_str _ _ _ _,SeqAt.RcNeAt.str_str _ _ _ _⟩
  |tup ys=>obtain⟨a,vs,rfl,h,r⟩:=r2.tupI;cases ru;obtain⟨_,_,p,_⟩:=I.tuple h;simp only[v5];exact⟨SeqAt.RcAt.str_tuple _ _ p au,SeqAt.RcNeAt.str_tuple _ _ p au⟩
  |lst ys=>obtain⟨a,vs,rfl,h,r⟩:=r2.aa5;cases ru;obtain⟨_,_,p,_⟩:=I.list h;simp only[v5];exact⟨SeqAt.RcAt.str_list _ _ p.isList au,SeqAt.RcNeAt.str_list _ _ p.isList au⟩
 |tup xs=>
  obtain⟨a,vs,rfl,h,r⟩:=r1.tupI;cases rv;obtain⟨its,rr,p,_⟩:=I.tuple h;cases dy with
  |dct=>exact absurd hv (by rw[E9];lia)
  |non=>cases r2.ac2;cases ru;simp only[v5];exact⟨SeqAt.RcAt.tuple_none p au,SeqAt.RcNeAt.tuple_none p au⟩
  |bl=>cases r2.blI;cases ru;simp only[v5];exact⟨SeqAt.RcAt.tuple_bool _ p au,SeqAt.RcNeAt.tuple_bool _ p au⟩
  |int=>cases r2.aa6;obtain⟨t,rfl⟩:=ru;simp only[v5];exact⟨SeqAt.RcAt.tuple_int _ _ p au,SeqAt.RcNeAt.tuple_int _ _ p au⟩
  |str=>cases r2.ac7;obtain⟨t,rfl⟩:=ru;simp only[v5];exact⟨SeqAt.RcAt.tuple_str _ _ p au,SeqAt.RcNeAt.tuple_str _ _ p au⟩
  |tup ys=>
   obtain⟨a',gr,rfl,h',r'⟩:=r2.tupI;cases ru;obtain⟨its',ni,p',_⟩:=I.tuple h';simp only[v5];refine kF p p' (by rw[<-rr.length,r.length]) (by rw[<-ni.length,r'.length]) au (gS I r r' rr ni ?_ ?_)
   ·rw[E9]at hu;rw[u7];lia
   ·rw[E9]at hv;rw[u7];lia
  |lst ys=>obtain⟨a',gr,rfl,h',r'⟩:=r2.aa5;cases ru;obtain⟨_,_,p',_⟩:=I.list h';simp only[v5];exact⟨SeqAt.RcAt.tuple_list p p'.isList au,SeqAt.RcNeAt.tuple_list p p'.isList au⟩
 |lst xs=>
  obtain⟨a,vs,rfl,h,r⟩:=r1.aa5;cases rv;obtain⟨its,rr,p,_⟩:=I.list h;cases dy with
  |dct=>exact absurd hv (by rw[E9];lia)
  |non=>cases r2.ac2;cases ru;simp only[v5];exact⟨SeqAt.RcAt.list_none p.isList au,SeqAt.RcNeAt.list_none p.isList au⟩
  |bl=>cases r2.blI;cases ru;simp only[v5];exact⟨SeqAt.RcAt.list_bool _ p.isList au,SeqAt.RcNeAt.list_bool _ p.isList au⟩
  |int=>cases r2.aa6;obtain⟨t,rfl⟩:=ru;simp only[v5];exact⟨SeqAt.RcAt.list_int _ _ p.isList au,SeqAt.RcNeAt.list_int _ _ p.isList au⟩
  |str=>cases r2.ac7;obtain⟨t,rfl⟩:=ru;simp only[v5];exact⟨SeqAt.RcAt.list_str _ _ p.isList au,SeqAt.RcNeAt.list_str _ _ p.isList au⟩
  |tup ys=>obtain⟨a',gr,rfl,h',r'⟩:=r2.tupI;cases ru;obtain⟨_,_,p',_⟩:=I.tuple h';simp only[v5];exact⟨SeqAt.RcAt.list_tuple p.isList p' au,SeqAt.RcNeAt.list_tuple p.isList p' au⟩
  |lst ys=>
   obtain⟨a',gr,rfl,h',r'⟩:=r2.aa5;cases ru;obtain⟨its',ni,p',_⟩:=I.list h';simp only[v5];refine yI p.isList p'.isList (by rw[<-rr.length,r.length]) (by rw[<-ni.length,r'.length]) au (gS I r r' rr ni ?_ ?_)
   ·rw[E9]at hu;rw[u7];lia
   ·rw[E9]at hv;rw[u7];lia
end
def QJ (x y:D):R D:=if E9 x<=40/\E9 y<=40 then .ok (.bl (v5 x y))else .bad
def MK (x y:D):R D:=if E9 x<=40/\E9 y<=40 then .ok (.bl (!v5 x y))else .bad
section
def Z9 (hu:X.A.units+64<cLine):kG X (compareOp .Eq) QJ:=by
 intro H O x y dx dy Q fr r1 r2 q;unfold QJ at q;split at q
 ·rename_i hd;refine⟨λx' y' H' Q'=>x'=x/\y'=y/\H'=H/\Q' (.bl (v5 dx dy)) H,?_,rfl,rfl,rfl,q _ H (Same.refl _) .bl⟩;intro pins s σ H' x' y' v u Q' I rx ry ⟨e1,e2,e3,q'⟩;subst e1 e2 e3;exact(cj I (A:=X.A) r1 r2 rx ry (by lia) (by lia)).1 _ _ _ _ ⟨.bl _,_,I,rfl,q'⟩
 ·exact q.elim
def kW (hu:X.A.units+64<cLine):kG X (compareOp .NotEq) MK:=by
 intro H O x y dx dy Q fr r1 r2 q;unfold MK at q;split at q
 ·rename_i hd;refine⟨λx' y' H' Q'=>x'=x/\y'=y/\H'=H/\Q' (.bl (!v5 dx dy)) H,?_,rfl,rfl,rfl,q _ H (Same.refl _) .bl⟩;intro pins s σ H' x' y' v u Q' I rx ry ⟨e1,e2,e3,q'⟩;subst e1 e2 e3;exact(cj I (A:=X.A) r1 r2 rx ry (by lia) (by lia)).2 _ _ _ _ ⟨.bl _,_,I,rfl,q'⟩
 ·exact q.elim
end
def lT:D->D->R D
 |.int a,.int b=>.ok (.int (a+b))
 |.lst a,.lst b=>if a.length+b.length<=sizeLine then .ok (.lst (a++b))else .bad
 |.tup [],.tup b=>.ok (.tup b)
 |.tup (x::a),.tup []=>if(x::a).length<=sizeLine then .ok (.tup (x::a))else .bad
 |.tup (x::a),.tup (y::b)=>if(x::a).length+(y::b).length<=sizeLine then .ok (.tup ((x::a)++(y::b)))else .bad
 |_,_=>.bad
def NK:D->D->R D
 |.int a,.int b=>.ok (.int (a-b))
 |_,_=>.bad
def k5 (a b:Int):Prop:=aAR a<=60000000/\aAR b<=60000000
instance(a b:Int):Decidable (k5 a b):=inferInstanceAs (Decidable<|_/\_)
def J9:D->D->R D
 |.int a,.int b=>if k5 a b then .ok (.int (a*b))else .bad
 |_,_=>.bad
def wM (b:Int):Prop:=b≠0/\aAR b<=9000
instance(b:Int):Decidable (wM b):=inferInstanceAs (Decidable<|_/\_)
def G3:D->D->R D
 |.int a,.int b=>if wM b then .ok (.int (a.fdiv b))else .bad
 |_,_=>.bad
def N4:D->D->R D
 |.int a,.int b=>if b≠0 then .ok (.int (a.fmod b))else .bad
 |_,_=>.bad
def GY:D->D->R D
 |.int a,.int b=>if 0<=b/\b<=1000000/\a.natAbs<2^64 then .ok (.int (a^b.toNat))else .bad
 |_,_=>.bad
def iz:D->D->R D
 |.int a,.int b=>.ok (.bl (decide (a<b)))
 |_,_=>.bad
def ZF:D->D->R D
 |.int a,.int b=>.ok (.bl (decide (a<=b)))
 |_,_=>.bad
def YJ:D->D->R D
 |.int a,.int b=>.ok (.bl (decide (b<a)))
 |_,_=>.bad
def jk:D->D->R D
 |.int a,.int b=>.ok (.bl (decide (b<=a)))
 |_,_=>.bad
def HE (h0:b≠0)(h:aAR b<=n):b.natAbs.log2<n:=by
 unfold aAR at h;split at h
 ·rename_i z;exact absurd (by simpa using z) h0
 ·omega
def NA (h:k5 a b):IntMulOk a b:=mulOk_of_bits (m:=60000000) (n:=60000000) h.1 h.2 (by decide)
section
def kG.aa7 {f:Value->Value->Sem Value}{g:D->D->R D}{C:Int->Int->Prop}{w:Int->Int->V}{dw:Int->Int->D}(hr:jM X f (rI C w))(hg:∀dx dy d,g dx dy=.ok d->∃i j,dx=.int i/\dy=.int j/\C i j/\d=dw i j)
  (hb:∀dx dy e,g dx dy≠.ex e) (hw:∀K H O i j,Rep K H O (w i j) (dw i j)):kG X f g:=by
 intro H O x y dx dy Q fr r1 r2 q;cases e:g dx dy with
 |ok d=>rw[e]at q;obtain⟨i,j,rfl,rfl,hc,rfl⟩:=hg dx dy d e;cases r1.aa6;cases r2.aa6;exact⟨_,hr,i,j,rfl,rfl,hc,q _ H (Same.refl _) (hw _ _ _ _ _)⟩
 |ex x=>exact absurd e (hb _ _ _)
 |bad=>rw[e]at q;exact q.elim
def jM.c0 (h:jM X f (QC w)):jM X f (rI (λ_ _=>True) w):=λpins s σ H x y v u Q I rx ry ⟨i,j,e1,e2,_,q⟩=>h pins s σ H x y v u Q I rx ry ⟨i,j,e1,e2,q⟩
def t7:kG X (binaryOp .Sub) NK:=kG.aa7 (dw:=λi j=>.int (i-j)) (jM.c0 WJ) (λdx dy d h=>by cases dx<;>cases dy<;>simp only[NK,R.ok.injEq,reduceCtorEq]at h;exact⟨_,_,rfl,rfl,trivial,h.symm⟩) (λdx dy e h=>by cases dx<;>cases dy<;>simp only[NK,reduceCtorEq]at h) λ_ _ _ _ _=>.int
def oQ:kG X (compareOp .Lt) iz:=kG.aa7 (dw:=λi j=>.bl (decide (i<j))) (jM.c0 cq) (λdx dy d h=>by cases dx<;>cases dy<;>simp only[iz,R.ok.injEq,reduceCtorEq]at h;exact⟨_,_,rfl,rfl,trivial,h.symm⟩) (λdx dy e h=>by cases dx<;>cases dy<;>simp only[iz,reduceCtorEq]at h) λ_ _ _ _ _=>.bl
def ZO:kG X (compareOp .LtE) ZF:=kG.aa7 (dw:=λi j=>.bl (decide (i<=j))) (jM.c0 az) (λdx dy d h=>by cases dx<;>cases dy<;>simp only[ZF,R.ok.injEq,reduceCtorEq]at h;exact⟨_,_,rfl,rfl,trivial,h.symm⟩) (λdx dy e h=>by cases dx<;>cases dy<;>simp only[ZF,reduceCtorEq]at h) λ_ _ _ _ _=>.bl
def xR:kG X (compareOp .Gt) YJ:=kG.aa7 (dw:=λi j=>.bl (decide (j<i))) (jM.c0 YO) (λdx dy d h=>by cases dx<;>cases dy<;>simp only[YJ,R.ok.injEq,reduceCtorEq]at h;exact⟨_,_,rfl,rfl,trivial,h.symm⟩) (λdx dy e h=>by cases dx<;>cases dy<;>simp only[YJ,reduceCtorEq]at h) λ_ _ _ _ _=>.bl
def SS:kG X (compareOp .GtE) jk:=kG.aa7 (dw:=λi j=>.bl (decide (j<=i))) (jM.c0 fx) (λdx dy d h=>by cases dx<;>cases dy<;>simp only[jk,R.ok.injEq,reduceCtorEq]at h;exact⟨_,_,rfl,rfl,trivial,h.symm⟩) (λdx dy e h=>by cases dx<;>cases dy<;>simp only[jk,reduceCtorEq]at h) λ_ _ _ _ _=>.bl
def NG:jM X (binaryOp .FloorDiv) (rI (λ_ j=>wM j) λi j=>.int (i.fdiv j)):=jw λ_ _ _ _ _ _ _ hc q=>floordiv_int hc.1 q (.inl (PyProof.noPylong_of_log2<|HE hc.1 hc.2))
def p8:kG X (binaryOp .FloorDiv) G3:=kG.aa7 (dw:=λi j=>.int (i.fdiv j)) NG (λdx dy d h=>by
 cases dx<;>cases dy<;>simp only[G3,reduceCtorEq]at h;split at h
 ·rename_i hc;cases h;exact⟨_,_,rfl,rfl,hc,rfl⟩
 ·cases h) (λdx dy e h=>by
  cases dx<;>cases dy<;>simp only[G3,reduceCtorEq]at h;split at h<;>cases h) λ_ _ _ _ _=>.int
def v8:kG X (binaryOp .Mod) N4:=kG.aa7 (dw:=λi j=>.int (i.fmod j)) RY (λdx dy d h=>by
 cases dx<;>cases dy<;>simp only[N4,reduceCtorEq]at h;split at h
 ·rename_i hc;cases h;exact⟨_,_,rfl,rfl,hc,rfl⟩
 ·cases h) (λdx dy e h=>by
  cases dx<;>cases dy<;>simp only[N4,reduceCtorEq]at h;split at h<;>cases h) λ_ _ _ _ _=>.int
def fX:kG X (binaryOp .Pow) GY:=kG.aa7 (dw:=λi j=>.int (i^j.toNat)) UU (λdx dy d h=>by
 cases dx<;>cases dy<;>simp only[GY,reduceCtorEq]at h;split at h
 ·rename_i hc;cases h;exact⟨_,_,rfl,rfl,hc,rfl⟩
 ·cases h) (λdx dy e h=>by
  cases dx<;>cases dy<;>simp only[GY,reduceCtorEq]at h;split at h<;>cases h) λ_ _ _ _ _=>.int
def OK:jM X (binaryOp .Mult) (rI k5 λi j=>.int (i*j)):=jw λ_ _ _ _ _ _ _ hc q=>mul_int q (NA hc)
def j7:kG X (binaryOp .Mult) J9:=kG.aa7 (dw:=λi j=>.int (i*j)) OK (λdx dy d h=>by
 cases dx<;>cases dy<;>simp only[J9,reduceCtorEq]at h;split at h
 ·rename_i hc;cases h;exact⟨_,_,rfl,rfl,hc,rfl⟩
 ·cases h) (λdx dy e h=>by
  cases dx<;>cases dy<;>simp only[J9,reduceCtorEq]at h;split at h<;>cases h) λ_ _ _ _ _=>.int
def QG:jM X (binaryOp .Add) (λx y H Q=>∃l b xs zs,x=.ref l/\y=.ref b/\K0 X.K H l xs/\K0 X.K H b zs/\xs.length+zs.length<=sizeLine/\∀p,H p=none->Q (.ref p) (upd H p (.lst (xs++zs)))):=by
 intro pins s σ H x y v u Q I rx ry h;obtain⟨l,b,xs,zs,rfl,rfl,hH,hB,hz,q⟩:=h;cases rx;cases ry;obtain⟨its,r,p,_⟩:=I.list hH;obtain⟨ke,r2,p2,_⟩:=I.list hB;obtain⟨⟨cls,dd,data,sl⟩,ho,hc,n,hd⟩:=p.isList;obtain⟨⟨cls2,ug,data2,sr⟩,jt,jf,n2,hd2⟩:=p2.isList;simp only at hc hd jf hd2;subst hc hd jf hd2;have hsz:its.toArray.size+ke.toArray.size<=sizeLine:=by rw[aAk,aAk,<-r.length,<-r2.length];exact hz
 have ea:its.toArray++ke.toArray=(its++ke).toArray:=by simp
 refine aFG ⟨_,ho,rfl⟩ ⟨_,jt,rfl⟩ noFill_list_add seq_list_add PySem.F.slot_list_add PySem.F.entry_list_add (PySem.F.args_list_add_2 _ _) (list_addW l b its.toArray ke.toArray n n2 dd ug sl sr hsz) ⟨ho,jt,?_⟩;rw[ea];exact⟨.ref _,_,I.ag0 (t':=s.toks) (r.append r2) (by rw[aAE];omega),rfl,q _ I.fresh⟩
def NF:jM X (binaryOp .Add) (λx y H Q=>∃a b ys,x=.ref a/\y=.ref b/\U1 X.K H a []/\U1 X.K H b ys/\Q (.ref b) H):=by intro pins s σ H x y v u Q I rx ry h;obtain⟨t,b,ys,rfl,rfl,ha,hb,q⟩:=h;cases rx;cases ry;obtain⟨its,r1,p1,_⟩:=I.tuple ha;obtain⟨ws,r2,p2,_⟩:=I.tuple hb;cases r1;obtain⟨⟨cls,dd,data,sl⟩,ho,hc,n,hd⟩:=p1;obtain⟨⟨cls2,ug,data2,sr⟩,jt,jf,n2,hd2⟩:=p2;simp only at hc hd jf hd2;subst hc hd jf hd2;exact aFG ⟨_,ho,rfl⟩ ⟨_,jt,rfl⟩ aFu seq_tuple_add PySem.F.slot_tuple_add PySem.F.entry_tuple_add (PySem.F.args_tuple_add_2 _ _) (tuple_addW0 t b _ _ n n2 dd ug sl sr (by simp)) ⟨ho,jt,.ref b,H,I,rfl,q⟩
def o7:kG X (binaryOp .Add) lT:=by
 intro H O x y dx dy Q fr r1 r2 q;cases dx with
 |int i=>
  cases dy with
  |int j=>cases r1.aa6;cases r2.aa6;exact⟨_,WV,i,j,rfl,rfl,q _ H (Same.refl _) .int⟩
  |_=>exact aAi q
 |lst a=>
  cases dy with
  |lst b=>
   simp only[lT]at q;split at q
   ·rename_i hz;obtain⟨l,vs,rfl,h1,h2⟩:=r1.aa5;obtain⟨l',gr,rfl,xb,xc⟩:=r2.aa5;exact⟨_,QG,l,l',vs,gr,rfl,rfl,h1,xb,by rw[h2.length,xc.length];exact hz,λp hp=>q _ _ (j5 hp _) (.lst (K0.of j3) (fr p hp) ((h2.append xc).same (j5 hp _)))⟩
   ·exact q.elim
  |_=>exact aAi q
 |tup a=>
  cases dy with
  |tup b=>
   cases a with
   |nil=>obtain⟨l,vs,rfl,h1,h2⟩:=r1.tupI;obtain⟨l',gr,rfl,xb,xc⟩:=r2.tupI;cases h2;exact⟨_,NF,l,l',gr,rfl,rfl,h1,xb,q _ H (Same.refl _) (.tup xb xc)⟩
   |cons x a=>
    cases b with
    |nil=>
     obtain⟨l,vs,rfl,h1,h2⟩:=r1.tupI;obtain⟨l',gr,rfl,xb,xc⟩:=r2.tupI;cases xc;have n1:vs≠[]:=λz=>by subst z;have:=h2.length;simp at this
     simp only[lT]at q;split at q
     ·rename_i hz;exact⟨_,DC,l,l',vs,[],rfl,rfl,h1,xb,n1,by rw[h2.length];exact hz,λ_=>q _ H (Same.refl _) (.tup h1 h2),λz=>absurd rfl z⟩
     ·exact q.elim
    |cons y b=>
     simp only[lT]at q;split at q
     ·rename_i hz;obtain⟨l,vs,rfl,h1,h2⟩:=r1.tupI;obtain⟨l',gr,rfl,xb,xc⟩:=r2.tupI;have n1:vs≠[]:=λz=>by subst z;have:=h2.length;simp at this
      have n2:gr≠[]:=λz=>by subst z;have:=xc.length;simp at this
      exact⟨_,DC,l,l',vs,gr,rfl,rfl,h1,xb,n1,by rw[h2.length,xc.length];exact hz,λz=>absurd z n2,λ_ p hp=>q _ _ (j5 hp _) (.tup (U1.of j3) ((h2.append xc).same (j5 hp _)))⟩
     ·exact q.elim
  |_=>cases a<;>exact aAi q
 |_=>exact aAi q
def D2 (x y:D):R D:=match x,y with
 |.lst xs,.int i=>match mB xs i with|some d=>.ok d|none=>.bad
 |.tup xs,.int i=>match mB xs i with|some d=>.ok d|none=>.bad
 |_,_=>.bad
def vL {K:PySem.W.Frag}{H:Hp}{O:Addr->Prop}{vs:List V}{ds:List D}{i:Int}{d:D}(r:Reps K H O vs ds)(h:mB ds i=some d):∃v,mB vs i=some v/\Rep K H O v d:=by
 unfold mB at h⊢;rw[r.length];cases e:yS ds.length i with
 |none=>rw[e]at h;cases h
 |some j=>rw[e]at h;exact r.get h
def d7 (ha:PB X a f)(hb:PD X b g)(hs:OW b:=by exactλ_ _=>rfl):PD X (.Subscript a b pos) (λρ=>(f ρ).bind λx=>(g ρ).bind λy=>D2 x y):=by
 refine xN λpins s σ H Q I H9 O0 O ρ E q=>?_;refine Subscript_ (JI ha hb.pb I (mQ E q) λv u s2 x y H2 I2 rx ry h=>?_);obtain⟨dx,dy,fr,r1,r2,q⟩:=h;cases dy with
 |int i=>
  cases r2.aa6;cases dx with
  |lst xs=>
   simp only[D2]at q;cases e:mB xs i with
   |none=>rw[e]at q;exact q.elim
   |some d=>rw[e]at q;obtain⟨p,vs,rfl,h1,h2⟩:=r1.aa5;obtain⟨w,h3,h4⟩:=vL h2 e;exact OX a b pins s2 σ H2 _ _ v u Q I2 rx ry ⟨p,vs,i,w,rfl,rfl,h1,h3,q w H2 (Same.refl _) h4⟩ (hs _ _)
  |tup xs=>
   simp only[D2]at q;cases e:mB xs i with
   |none=>rw[e]at q;exact q.elim
   |some d=>rw[e]at q;obtain⟨p,vs,rfl,h1,h2⟩:=r1.tupI;obtain⟨w,h3,h4⟩:=vL h2 e;exact VL a b pins s2 σ H2 _ _ v u Q I2 rx ry ⟨p,vs,i,w,rfl,rfl,h1,h3,q w H2 (Same.refl _) h4⟩ (hs _ _)
  |_=>exact aAi q
 |_=>cases dx<;>exact aAi q
def cutD (xs:List D)(lo hi:Option Int):List D:=(xs.drop<|HT.sIx xs.length 0 lo).take (HT.sIx xs.length xs.length hi-HT.sIx xs.length 0 lo)
def qQ {K:PySem.W.Frag}{H:Hp}{O:Addr->Prop}{vs:List V}{ds:List D}{lo hi:Option Int}(r:Reps K H O vs ds):Reps K H O (xX vs lo hi) (cutD ds lo hi):=by unfold xX cutD;rw[r.length];exact(r.drop _).take _
def fy (X:Cx)(e:Option Expr)(f:Ev->R (Option Int)):Prop:=PO X e λσ H Q=>∃H9 O0 O ρ,EnvOk X.K H9 O0 H O σ ρ/\match f ρ with
 |.ok o=>∀H',Same H H'->Q o H'
 |.ex e=>∀H',Same H H'->XW X e H'
 |.bad=>False
def ik:D->R (Option Int)
 |.int i=>.ok (some i)
 |_=>.bad
def aE:fy X none (λ_=>.ok none):=λpins s σ H Q I ⟨H9,O0,O,ρ,E,q⟩=>uF pins s σ H Q I (q H<|Same.refl _)
def K8 (h:PD X e f):fy X (some e) (λρ=>(f ρ).bind ik):=λpins s σ H Q I ⟨H9,O0,O,ρ,E,q⟩=>OQ h pins s σ H Q I ⟨H9,O0,O,ρ,E,by
 dsimp only at q;cases e:f ρ with
 |ok d=>
  rw[e]at q;cases d with
  |int i=>exactλv H1 s1 r1=>by cases r1;exact⟨i,rfl,q H1 s1⟩
  |_=>exact aAi q
 |ex x=>rw[e]at q;exact q
 |bad=>rw[e]at q;exact q⟩
def IC (x:D)(lo hi:Option Int):R D:=match x with
 |.lst xs=>.ok (.lst (cutD xs lo hi))
 |.tup xs=>if HT.sIx xs.length 0 lo=0/\HT.sIx xs.length xs.length hi=xs.length then .bad else .ok (.tup (cutD xs lo hi))
 |_=>.bad
def nM {lo hi:Option Expr}{p2:Pos}{fl fh:Ev->R (Option Int)}(he:PB X a f)(hl:fy X lo fl)(hu:fy X hi fh):
  PD X (.Subscript a (.Slice lo hi none p2) pos) (λρ=>(f ρ).bind λx=>(fl ρ).bind λl=>(fh ρ).bind λh=>IC x l h):=by
 refine xN λpins s σ H Q I H9 O0 O ρ E q=>?_;have fin:∀x d l h H',A2 X.K H' O x d->(∀p,H' p=none->¬O p)->RC X H' O (IC d l h) Q->ZE X.K x l h H' Q\/ZS X.K x l h H' Q:=λx d l h H' r fr q=>by
  cases d with
  |lst xs=>obtain⟨p,vs,rfl,h1,h2⟩:=r.aa5;exact .inl ⟨p,vs,rfl,h1,λp hp=>q _ _ (j5 hp _) (.lst (K0.of j3) (fr p hp) ((qQ h2).same (j5 hp _)))⟩
  |tup xs=>
   obtain⟨p,vs,rfl,h1,h2⟩:=r.tupI;simp only[IC]at q;split at q
   ·exact q.elim
   ·rename_i hn;exact .inr ⟨p,vs,rfl,h1,by rw[h2.length];exact hn,λp hp=>q _ _ (j5 hp _) (.tup (U1.of j3) ((qQ h2).same (j5 hp _)))⟩
  |_=>exact aAi q
 refine NJ (RH.or UV) he hl hu pins s σ H Q I ⟨H9,O0,O,ρ,E,?_⟩;dsimp only at q;cases e1:f ρ with
 |ok d=>
  rw[e1]at q;intro x H1 s1 r1;refine⟨H9,O0,O,ρ,E.grow s1,?_⟩;rw[R.aa0]at q;cases e2:fl ρ with
  |ok l=>
   rw[e2]at q;intro H2 s2;refine⟨H9,O0,O,ρ,(E.grow s1).grow s2,?_⟩;cases e3:fh ρ with
   |ok h=>rw[e3]at q;intro H3 s3;have q':RC X H O (IC d l h) Q:=q;exact fin x d l h H3 ((r1.same s2).same s3) (λp hp=>(((E.grow s1).grow s2).grow s3).fresh hp) (q'.grow<|s1.trans<|s2.trans s3)
   |ex x=>rw[e3]at q;exactλH3 s3=>q H3 (s1.trans<|s2.trans s3)
   |bad=>rw[e3]at q;exact q
  |ex x=>rw[e2]at q;exactλH3 s3=>q H3 (s1.trans s3)
  |bad=>rw[e2]at q;exact q
 |ex x=>rw[e1]at q;exact q
 |bad=>rw[e1]at q;exact q
def CB {K:PySem.W.Frag}{H:Hp}{O:Addr->Prop}{vs:List V}{d:D}(r:Paired (A2 K H O) vs [d]):∃v,vs=[v]/\A2 K H O v d:=by
 cases r with
 |cons r1 r2=>cases r2;exact⟨_,rfl,r1⟩
def sk {K:PySem.W.Frag}{H:Hp}{O:Addr->Prop}{vs:List V}{d d':D}(r:Paired (A2 K H O) vs [d,d']):∃v v',vs=[v,v']/\A2 K H O v d/\A2 K H O v' d':=by
 cases r with
 |cons r1 r2=>obtain⟨v',e,r'⟩:=CB r2;subst e;exact⟨_,_,rfl,r1,r'⟩
def RA:List D->R D
 |[.lst xs]=>.ok (.int xs.length)
 |[.tup xs]=>.ok (.int xs.length)
 |_=>.bad
def X5:Z5 X (.builtin "len") RA:=by
 intro H O vs ds Q fr r q;match ds,q with
 |[.lst xs],q=>obtain⟨v,rfl,z⟩:=CB r;obtain⟨p,ys,rfl,h1,h2⟩:=z.aa5;exact⟨_,gO,p,ys,rfl,.inl h1,q _ H (Same.refl _) (by rw[h2.length];exact .int)⟩
 |[.tup xs],q=>obtain⟨v,rfl,z⟩:=CB r;obtain⟨p,ys,rfl,h1,h2⟩:=z.tupI;exact⟨_,gO,p,ys,rfl,.inr h1,q _ H (Same.refl _) (by rw[h2.length];exact .int)⟩
def dz:List D->R D
 |[.int i]=>.ok (.int (if i<0 then-i else i))
 |_=>.bad
def YD:Z5 X (.builtin "abs") dz:=by
 intro H O vs ds Q fr r q;match ds,q with
 |[.int i],q=>obtain⟨v,rfl,z⟩:=CB r;cases z.aa6;exact⟨_,MA,i,rfl,q _ H (Same.refl _) .int⟩
def TC:List D->R D
 |[.int i,.int j]=>.ok (.int (if j>i then j else i))
 |_=>.bad
def OF (hc:X.calm=true):Z5 X (.builtin "max") TC:=by
 intro H O vs ds Q fr r q;match ds,q with
 |[.int i,.int j],q=>obtain⟨v,v',rfl,z,z'⟩:=sk r;cases z.aa6;cases z'.aa6;exact⟨_,HM hc,i,j,rfl,q _ H (Same.refl _) .int⟩
def kB:List D->R D
 |[.lst xs]=>.ok (.tup xs)
 |[.tup xs]=>.ok (.tup xs)
 |_=>.bad
def gK:Z5 X (.type "tuple") kB:=by
 intro H O vs ds Q fr r q;match ds,q with
 |[.lst xs],q=>obtain⟨v,rfl,z⟩:=CB r;obtain⟨p,ys,rfl,h1,h2⟩:=z.aa5;exact⟨_,eU,p,ys,rfl,.inl ⟨h1,λl hl=>q _ _ (j5 hl _) (.tup (U1.of j3) (h2.same<|j5 hl _))⟩⟩
 |[.tup xs],q=>obtain⟨v,rfl,z⟩:=CB r;obtain⟨p,ys,rfl,h1,h2⟩:=z.tupI;exact⟨_,eU,p,ys,rfl,.inr ⟨h1,q _ _ (Same.refl _) (.tup h1 h2)⟩⟩
def pG:List D->R D
 |[.lst xs]=>.ok (.lst xs)
 |[.tup xs]=>.ok (.lst xs)
 |_=>.bad
def uG:Z5 X (.type "list") pG:=by
 intro H O vs ds Q fr r q;match ds,q with
 |[.lst xs],q=>obtain⟨v,rfl,z⟩:=CB r;obtain⟨p,ys,rfl,h1,h2⟩:=z.aa5;exact⟨_,gF,p,ys,rfl,.inl h1,λl hl=>q _ _ (j5 hl _) (.lst (K0.of j3) (fr l hl) (h2.same<|j5 hl _))⟩
 |[.tup xs],q=>obtain⟨v,rfl,z⟩:=CB r;obtain⟨p,ys,rfl,h1,h2⟩:=z.tupI;exact⟨_,gF,p,ys,rfl,.inr h1,λl hl=>q _ _ (j5 hl _) (.lst (K0.of j3) (fr l hl) (h2.same<|j5 hl _))⟩
def tyD:D->String
 |.non=> "NoneType"|.bl _=> "bool"|.int _=> "int"|.str _=> "str"|.tup _=> "tuple"|.lst _=> "list"|.dct=> "dict"
def ZG (T:String)(d:D):Bool:=tyD d==T||(T== "int"&&tyD d== "bool")
end
section
variable{K:PySem.W.Frag}
def Kp.lst (k:Kp H O H' O'){a:Addr}{xs:List V}(n:¬O a)(h:K0 K H a xs)(hK:∀o,K.lookup a=some o->¬O' a):¬O' a/\K0 K H' a xs:=by
 rcases h with(h|⟨o,h⟩)|h
 ·exact⟨(k _ _ h n).2,.inl (.inl (k _ _ h n).1)⟩
 ·exact⟨(k _ _ h n).2,.inl (.inr ⟨o,(k _ _ h n).1⟩)⟩
 ·obtain⟨o,its,m,h1,h2⟩:=h;exact⟨hK o h1,.inr ⟨o,its,m,h1,h2⟩⟩
def Kp.tup (k:Kp H O H' O')(hO:∀a,O a->∃o,H a=some o/\Mt o){a:Addr}{xs:List V}(h:U1 K H a xs):U1 K H' a xs:=by
 rcases h with(h|⟨o,h⟩)|h
 ·exact .inl (.inl (k _ _ h λz=>by obtain⟨o,q,m⟩:=hO a z;rw[h]at q;cases q;exact m).1)
 ·exact .inl (.inr ⟨o,(k _ _ h λz=>by obtain⟨o,q,m⟩:=hO a z;rw[h]at q;cases q;exact m).1⟩)
 ·exact .inr h
end
def bS (K:PySem.W.Frag)(O:Addr->Prop):Prop:=∀a o,K.lookup a=some o->¬O a
def Kp.rep {K:PySem.W.Frag}{H H':Hp}{O O':Addr->Prop}(k:Kp H O H' O')(hO:∀a,O a->∃o,H a=some o/\Mt o)(hK:bS K O'){v:V}{d:D}(r:Rep K H O v d):Rep K H' O' v d:=
 r.mono (λ_ _ h=>k.tup hO h) (λa _ n h=>k.lst n h λo q=>hK a o q) λa _ n h=>⟨(k a _ h n).2,(k a _ h n).1⟩
def Kp.ac1 {K:PySem.W.Frag}{H H':Hp}{O O':Addr->Prop}(k:Kp H O H' O')(hO:∀a,O a->∃o,H a=some o/\Mt o)(hK:bS K O'){v:List V}{d:List D}(r:Reps K H O v d):Reps K H' O' v d:=
 r.mono (λ_ _ h=>k.tup hO h) (λa _ n h=>k.lst n h λo q=>hK a o q) λa _ n h=>⟨(k a _ h n).2,(k a _ h n).1⟩
inductive Out where
 |nx (ρ:Ev)|rt (d:D)|bk (ρ:Ev)|ct (ρ:Ev)
def RS (X:Cx)(H9:Hp)(O0:Addr->Prop)(H:Hp)(O:Addr->Prop)(r:R Out)(D:Ends):Prop:=match r with
 |.ok (.nx ρ)=>∀ah H' O',EnvOk X.K H9 O0 H' O' ah ρ->bS X.K O'->Kp H O H' O'->D.nx ah H'
 |.ok (.bk ρ)=>∀ah H' O',EnvOk X.K H9 O0 H' O' ah ρ->bS X.K O'->Kp H O H' O'->D.bk ah H'
 |.ok (.ct ρ)=>∀ah H' O',EnvOk X.K H9 O0 H' O' ah ρ->bS X.K O'->Kp H O H' O'->D.ct ah H'
 |.ok (.rt d)=>∀v H',Same H9 H'->Rep X.K H' O0 v d->D.rt v H'
 |.ex e=>∀H',Same H9 H'->XW X e H'
 |.bad=>False
def tS (X:Cx)(H9:Hp)(O0:Addr->Prop)(F:Ev->R Out):TS:=λD σ H=>∃O ρ,EnvOk X.K H9 O0 H O σ ρ/\bS X.K O/\RS X H9 O0 H O (F ρ) D
def mS (X:Cx)(st:Stmt)(F:Ev->R Out):Prop:=∀H9 O0,PS X st (tS X H9 O0 F)
def bG (X:Cx)(st:List Stmt)(F:Ev->R Out):Prop:=∀H9 O0,sW X st (tS X H9 O0 F)
def XB {X:Cx}{st:Stmt}{t t':TS}(h:PS X st t)(i:∀D σ H,t' D σ H->t D σ H):PS X st t':=λpins s σ H D I q=>h pins s σ H D I (i D σ H q)
def SE {X:Cx}{st:List Stmt}{t t':TS}(h:sW X st t)(i:∀D σ H,t' D σ H->t D σ H):sW X st t':=λpins s σ H D I q=>h pins s σ H D I (i D σ H q)
def CA {X:Cx}{st:Stmt}{t:TS}{F:Ev->R Out}{H9:Hp}{O0:Addr->Prop}(h:PS X st t)(i:∀D σ H O ρ,EnvOk X.K H9 O0 H O σ ρ->bS X.K O->RS X H9 O0 H O (F ρ) D->t D σ H):PS X st (tS X H9 O0 F):=XB h λD σ H ⟨O,ρ,E,f,q⟩=>i D σ H O ρ E f q
def aw {X:Cx}{st:List Stmt}{t:TS}{F:Ev->R Out}{H9:Hp}{O0:Addr->Prop}(h:sW X st t)(i:∀D σ H O ρ,EnvOk X.K H9 O0 H O σ ρ->bS X.K O->RS X H9 O0 H O (F ρ) D->t D σ H):sW X st (tS X H9 O0 F):=SE h λD σ H ⟨O,ρ,E,f,q⟩=>i D σ H O ρ E f q
def RS.grow {X:Cx}{H9:Hp}{O0:Addr->Prop}{H H1:Hp}{O O1:Addr->Prop}{r:R Out}{D:Ends}(h:RS X H9 O0 H O r D)(k:Kp H O H1 O1):RS X H9 O0 H1 O1 r D:=by
 cases r with
 |ok o=>
  cases o with
  |nx ρ=>exactλah H' O' E f q=>h ah H' O' E f (k.trans q)
  |bk ρ=>exactλah H' O' E f q=>h ah H' O' E f (k.trans q)
  |ct ρ=>exactλah H' O' E f q=>h ah H' O' E f (k.trans q)
  |rt d=>exact h
 |ex e=>exact h
 |bad=>exact h
def D5 (r:R Out)(F:Ev->R Out):R Out:=match r with
 |.ok (.nx ρ)=>F ρ
 |r=>r
section
variable{st:Stmt} {rest:List Stmt}
def RS.seq {H9:Hp}{O0:Addr->Prop}{H:Hp}{O:Addr->Prop}{r:R Out}{D:Ends}(h:RS X H9 O0 H O (D5 r G) D):RS X H9 O0 H O r {D with nx:=tS X H9 O0 G D}:=by
 cases r with
 |ok o=>
  cases o with
  |nx ρ=>exactλah H' O' E f k=>⟨O',ρ,E,f,(show RS X H9 O0 H O (G ρ) D from h).grow k⟩
  |bk ρ=>exact h
  |ct ρ=>exact h
  |rt d=>exact h
 |ex e=>exact h
 |bad=>exact h
def n6:bG X [] (λρ=>.ok (.nx ρ)):=λH9 O0=>aw QW λD σ H O ρ E f q=>q σ H O E f (Kp.refl _ _)
def c5 (h1:mS X st F)(h2:bG X rest G):bG X (st::rest) (λρ=>D5 (F ρ) G):=λH9 O0=>aw (MC (h1 H9 O0)<|h2 H9 O0) λD σ H O ρ E f q=>⟨O,ρ,E,f,RS.seq q⟩
def d4 (h1:mS X st F):bG X [st] F:=λH9 O0=>EJ (h1 H9 O0)
def f9 {e:Expr}{f:Ev->R D}(he:PD X e f):mS X (.Return (some e) pos) (λρ=>(f ρ).bind λd=>.ok (.rt d)):=λH9 O0=>CA (LR he) λD σ H O ρ E fk q=>⟨H9,O0,O,ρ,E,by
 cases e1:f ρ with
 |ok d=>rw[e1]at q;exactλv H' s r=>q v H' (E.same.trans s) (r.sub E.sub)
 |ex x=>rw[e1]at q;exactλH' s=>q H' (E.same.trans s)
 |bad=>rw[e1]at q;exact q⟩
def j1 (i:Nat){x:Str}{e:Expr}{f:Ev->R D}{pos':Pos}(he:PD X e f)(hN:X.N.Nodup)(hi:X.N[i]?=some x:=by rfl)(hx:Loc X.env.scope x:=by first|exact aCM rfl|exact aBN rfl)
  (hs:swapsWith e (some (.Name x pos')) pos.line X.env=pure false:=by rfl) (hf:X.fn x=true\/X.env.scope.names.lookup x=some .local:=by first|exact .inl rfl|exact .inr rfl|assumption):
  mS X (.Assign [.Name x pos'] e pos) (λρ=>(f ρ).bind λd=>.ok (.nx (ρ.set i (.v d)))):=λH9 O0=>CA (KE hN hi hx he hs hf) λD σ H O ρ E fk q=>⟨H9,O0,O,ρ,E,by
 cases e1:f ρ with
 |ok d=>rw[e1]at q;exactλv H' s r=>q _ H' O ((E.grow s).set i r) fk (Kp.of s)
 |ex x=>rw[e1]at q;exactλH' s=>q H' (E.same.trans s)
 |bad=>rw[e1]at q;exact q⟩
def w6 {c:Expr}{a b:List Stmt}{fc:Ev->R Bool}(hc:DB X c fc)(ha:bG X a F)(hb:bG X b G):mS X (.If c a b pos) (λρ=>(fc ρ).bind λt=>if t=true then F ρ else G ρ):=λH9 O0=>CA (ZC hc (ha H9 O0)<|hb H9 O0) λD σ H O ρ E fk q=>⟨H9,O0,O,ρ,E,by
 cases e1:fc ρ with
 |ok t=>
  rw[e1]at q;intro H' s;cases t with
  |true=>rw[if_pos rfl];exact⟨O,ρ,E.grow s,fk,RS.grow q (Kp.of s)⟩
  |false=>rw[if_neg aAQ];exact⟨O,ρ,E.grow s,fk,RS.grow q (Kp.of s)⟩
 |ex x=>rw[e1]at q;exactλH' s=>q H' (E.same.trans s)
 |bad=>rw[e1]at q;exact q⟩
def SU (K:PySem.W.Frag)(J:It)(H:Hp)(O:Addr->Prop)(ds:List D):Prop:=∀H2 O2,Kp H O H2 O2->bS K O2->(∀a,O a->∃o,H a=some o/\Mt o)->(∀a,O2 a->∃o,H2 a=some o/\Mt o)->∀i:Nat,
 (∀d,ds[i]?=some d->J.go i H2/\∀x H',J.yld i H2 x H'->Same H2 H'/\Rep K H' O2 x d)/\(ds[i]?=none->J.stop i H2)
def tI (X:Cx)(f:Ev->R (List D)):TI:=λσ H R=>∃H9 O0 O ρ,EnvOk X.K H9 O0 H O σ ρ/\bS X.K O/\match f ρ with
 |.ok ds=>∀J H',Same H H'->SU X.K J H' O ds->R J H'
 |.ex e=>∀H',Same H H'->XW X e H'
 |.bad=>False
def SR (X:Cx)(tg A0:Expr)(f:Ev->R (List D)):Prop:=PI X tg A0 (tI X f)
def LP (h:PI X tg A0 t)(i:∀σ H R,t' σ H R->t σ H R):PI X tg A0 t':=λpins s σ H R I q=>h pins s σ H R I (i σ H R q)
def O9:D->R (List D)
 |.lst xs=>.ok xs
 |_=>.bad
def CW:D->R (List D)
 |.tup xs=>.ok xs
 |_=>.bad
def t4 (h:PD X A0 f):SR X tg A0 (λρ=>(f ρ).bind O9):=LP (OL h) λσ H R ⟨H9,O0,O,ρ,E,fk,q⟩=>⟨H9,O0,O,ρ,E,by
 dsimp only at q;cases e:f ρ with
 |ok d=>
  rw[e]at q;cases d with
  |lst xs=>
   intro v H' s r;cases r with
   |lst h n r=>
    rename_i a vs;refine⟨a,rfl,⟨vs,h⟩,q (nk X.K a) H' s ?_⟩;intro H2 O2 k hK hO hO2 i;obtain⟨n2,h2⟩:=k.lst n h λo q=>hK a o q;have r2:=k.ac1 hO hK r;refine⟨λd e=>?_,λe=>⟨vs,h2,by rw[r.length];exact aBE.mp e⟩⟩;obtain⟨v,h3,h4⟩:=r2.get e;exact⟨⟨vs,v,h2,h3⟩,λx H3 ⟨e1,e2⟩=>by subst e1;have:=e2 vs h2;rw[h3]at this;cases this;exact⟨Same.refl _,h4⟩⟩
  |_=>exact aAi q
 |ex x=>rw[e]at q;exact q
 |bad=>rw[e]at q;exact q⟩
def RF (h:PD X A0 f):SR X tg A0 (λρ=>(f ρ).bind CW):=LP (VP h) λσ H R ⟨H9,O0,O,ρ,E,fk,q⟩=>⟨H9,O0,O,ρ,E,by
 dsimp only at q;cases e:f ρ with
 |ok d=>
  rw[e]at q;cases d with
  |tup xs=>
   intro v H' s r;cases r with
   |tup h r=>
    rename_i a vs;refine⟨a,rfl,⟨vs,h⟩,q (lz X.K a) H' s ?_⟩;intro H2 O2 k hK hO hO2 i;have h2:=k.tup hO h;have r2:=k.ac1 hO hK r;refine⟨λd e=>?_,λe=>⟨vs,h2,by rw[r.length];exact aBE.mp e⟩⟩;obtain⟨v,h3,h4⟩:=r2.get e;exact⟨⟨vs,v,h2,h3⟩,λx H3 ⟨e1,e2⟩=>by subst e1;have:=e2 vs h2;rw[h3]at this;cases this;exact⟨Same.refl _,h4⟩⟩
  |_=>exact aAi q
 |ex x=>rw[e]at q;exact q
 |bad=>rw[e]at q;exact q⟩
def WZ (lo c:Int)(n:Nat):It:=⟨λi _=>i<n,λi H x H'=>H'=H/\x=.int (lo+i*c),λi _=>n<=i⟩
def wX {P:Program}{w:World}{K:PySem.W.Frag}{tg:Expr}(it:Addr)(lo c:Int)(n:Nat):Turn P w K tg (WZ lo c n) [it] it (λi h=>IsRangeIter h it (lo+(i:Nat)*c) ((n:Int)-(i:Nat)) c)where
 mem:=by simp
 obj:=λi h st b hb=>by
  have e:b=it:=by simpa using hb
  subst e;exact⟨_,st,λv z=>by have z':Data.fields _=Data.cell v:=z;cases z'⟩
 keep:=λi h h' st k=>k it (by simp) _ st
 item:=by intro X hP hw hK hc i pins s σ H E I hf st hg;subst hP hw hK;obtain⟨f0,f1,f2,f3,f4,f5⟩:=hf it (by simp);have W:=Walks.range (prog:=X.prog) (w:=X.w) (I.ok.hd hc) it lo c n;refine W.item i s _ _ hg st λv h' tk hv st' kk=>?_;obtain⟨t,rfl⟩:=hv;have I1:Inv X pins σ H {s with heap:=h',toks:=tk}:=I.turned (λb o hb e=>kk b o (by simpa using hb) e) f0 f1 f3 f4 f5;exact⟨_,rfl,JP (s:={s with heap:=h',toks:=tk}) (n:= "range_iterator") st' rfl rfl (by decide) ⟨.int (lo+i*c),H,I1,⟨t,rfl⟩,⟨rfl,rfl⟩,st',λb hb=>(hf b hb).1⟩⟩
 done:=by intro X hP hw hK hc i pins s σ H E I hf st hg;subst hP hw hK;obtain⟨f0,f1,f2,f3,f4,f5⟩:=hf it (by simp);exact wpAny_pyNext_range_end (I.ok.hd hc) st (by have:n<=i:=hg;lia) λh' eb=>⟨rfl,I.turned (t':=s.toks) (λb o hb e=>eb b o hb e) f0 f1 f3 f4 f5⟩
 self:=λ_ _ _ _ _ st h=>wpAny_pyIter_rangeiter st h
def zO (lo c:Int)(n:Nat):List D:=(aBt n).map λ(k:Nat)=>D.int (lo+(k:Int)*c)
def jT (K:PySem.W.Frag)(H:Hp)(O:Addr->Prop)(lo c:Int)(n:Nat):SU K (WZ lo c n) H O (zO lo c n):=by
 intro H2 O2 k hK hO hO2 i;unfold zO;rw[aAG];by_cases hi:i<n
 ·rw[List.getElem?_range hi];refine⟨λd e=>?_,λe=>(by cases e)⟩;cases e;exact⟨hi,λx H' ⟨e1,e2⟩=>by subst e1 e2;exact⟨Same.refl _,.int⟩⟩
 ·rw[aBE.mpr (by simpa using hi)];exact⟨λd e=>(by cases e),λ_=>aEk hi⟩
def lP (a b c:Int):Nat:=if a<b then((b-a-1)/c+1).toNat else 0
def HC (hc:0<c):aCq a b c=(lP a b c:Int):=by
 unfold aCq lP;rw[if_pos (by lia)];split
 ·have:0<=(b-a-1)/c:=Int.ediv_nonneg (by lia) (by lia)
  lia
 ·rfl
def GI (hc:0<c)(jf:c<2^30)(ha:-(2^60)<=a)(ha':a<2^60)(hb:-(2^60)<=b)(iu:b<2^60):aFX a b c=true:=by
 unfold aFX;have e:aCq a b c=if a<b then(b-a-1)/c+1 else 0:=by unfold aCq;rw[if_pos (by lia)]
 rw[e];have h1:a<b->(b-a-1)/c<=b-a-1:=λh=>Int.ediv_le_self _ (by lia);have h2:a<b->0<=(b-a-1)/c:=λh=>Int.ediv_nonneg (by lia) (by lia);have h3:a<b->(b-a-1)/c*c<=b-a-1:=λh=>Int.ediv_mul_le _ (by lia);simp only[Builtin.Range.rangeFitsLong,aAM,Bool.or_eq_true,decide_eq_true_eq,beq_iff_eq,show c>0 by lia,if_true];split
 ·rename_i h;have h1:=h1 h;have h2:=h2 h;have h3:=h3 h;generalize(b-a-1)/c=q at*
  lia
 ·lia
def qP (a b c:Int):Prop:=0<c/\c<2^30/\-(2^60)<=a/\a<2^60/\-(2^60)<=b/\b<2^60
instance(a b c:Int):Decidable (qP a b c):=inferInstanceAs (Decidable<|_/\_)
def fT:List D->R (List D)
 |[.int b]=>if qP 0 b 1 then .ok (zO 0 1 (lP 0 b 1))else .bad
 |[.int a,.int b]=>if qP a b 1 then .ok (zO a 1 (lP a b 1))else .bad
 |[.int a,.int b,.int c]=>if qP a b c then .ok (zO a c (lP a b c))else .bad
 |_=>.bad
def kA {R:It->Hp->Prop}{E:C5}(I:Inv X pins σ H s)(h:qP a b c)(q:R (WZ a c (lP a b c)) H):wpAny (model X.prog X.w) X.A (pyIter (.ref s.heap.objs.size)) (xk X pins σ tg R) E {s with heap:=s.heap.push {cls:=.type "range",data:=.fields #[.int a t,.int b u,.int c v]},toks:=tk}:=by
 obtain⟨h1,h2,h3,h4,h5,h6⟩:=h;refine wpAny_pyIter_range (IsRange.new ..) (GI h1 h2 h3 h4 h5 h6) ?_;have I1:Inv X pins σ H {s with heap:=s.heap.push {cls:=.type "range",data:=.fields #[.int a t,.int b u,.int c v]},toks:=tk}:=I.kept λb o e=>aAc _ e;refine⟨(s.heap.push {cls:=.type "range",data:=.fields #[.int a t,.int b u,.int c v]}).objs.size,[(s.heap.push {cls:=.type "range",data:=.fields #[.int a t,.int b u,.int c v]}).objs.size],_,_,H,rfl,
  I1.kept (t':=tk) λb o e=>aAc _ e,wX _ a c (lP a b c),?_,λbb hb=>?_,q⟩
 ·have e1:a+((0:Nat):Int)*c=a:=by simp
  have e2:((lP a b c:Nat):Int)-((0:Nat):Int)=aCq a b c:=by rw[HC h1];simp
  show IsRangeIter _ _ (a+((0:Nat):Int)*c) (((lP a b c:Nat):Int)-((0:Nat):Int)) c;rw[e1,e2];exact aAp _ rfl
 ·have e:bb=(s.heap.push {cls:=.type "range",data:=.fields #[.int a t,.int b u,.int c v]}).objs.size:=by simpa using hb
  subst e;exact I1.ae6 (aAh _) (I1.hok.fresh<|aAh _)
def IW {R:It->Hp->Prop}{O:Addr->Prop}(I:Inv X pins σ H s)(r:Paired (A2 X.K H O) vs ds)(ru:l6 vs us)(h:fT ds=.ok bf)(q:∀J,SU X.K J H O bf->R J H):wpAny (model X.prog X.w) X.A (call (.type "range") us) (λv s1=>wpAny (model X.prog X.w) X.A (pyIter v) (xk X pins σ tg R) X.xe s1) X.xe s:=by
 match ds,h with
 |[.int b],h=>
  obtain⟨v,rfl,z⟩:=CB r;cases z.aa6;obtain⟨u,rfl,t,rfl⟩:=vals1 ru;simp only[fT]at h;split at h
  ·rename_i hk;cases h;exact call_range_1 (kA I hk<|q _<|jT _ _ _ _ _ _)
  ·cases h
 |[.int a,.int b],h=>
  obtain⟨v,v',rfl,z,z'⟩:=sk r;cases z.aa6;cases z'.aa6;obtain⟨u,u',rfl,⟨t,rfl⟩,⟨t',rfl⟩⟩:=vals2 ru;simp only[fT]at h;split at h
  ·rename_i hk;cases h;exact call_range_2 (kA I hk<|q _<|jT _ _ _ _ _ _)
  ·cases h
 |[.int a,.int b,.int c],h=>
  cases r with
  |cons z1 r=>
   obtain⟨v,v',rfl,z,z'⟩:=sk r;cases z1.aa6;cases z.aa6;cases z'.aa6;cases ru with
   |cons w1 ru=>
    obtain⟨u,u',rfl,⟨t,rfl⟩,⟨t',rfl⟩⟩:=vals2 ru;obtain⟨t1,rfl⟩:=w1;simp only[fT]at h;split at h
    ·rename_i hk;cases h;have ju:=hk;obtain⟨h1,h2,_⟩:=ju;exact call_range_3 (by lia) (kA (tk:=s.toks) I hk<|q _<|jT _ _ _ _ _ _) (.inl (PyProof.noPylong_small (by lia)))
    ·cases h
def J8 {tg e:Expr}{es:List Expr}{p:Pos}{f:Ev->R (List D)}(ha:VG X (e::es) f)(hg:Gl X "range":=by rfl)(hm:X.mg "range"=none:=by assumption)
  (he:starEach (e::es) X.env=(false,eval e X.env)::starEach es X.env:=by rfl) (bh:(backTo pos (starEach es X.env)).any (·.1)=false:=by rfl):
  SR X tg (.Call (.Name "range" p) (e::es) [] pos) (λρ=>(f ρ).bind fT):=by
 intro pins s σ H Q I ⟨H9,O0,O,ρ,E,fk,q⟩;dsimp only at q;refine Call_ (V5 I hg hm boot_range<|aAX (C1 (ha pos pins s σ H (λvs H1=>∃ds bf,Same H H1/\Paired (A2 X.K H1 O) vs ds/\fT ds=.ok bf/\∀J,SU X.K J H1 O bf->Q J H1) I ⟨H9,O0,O,ρ,E,?_⟩) λus s1 ⟨vs,H1,I1,r1,ds,bf,sm,r,h1,h2⟩=>?_) he bh)
 ·cases e1:f ρ with
  |ok ds=>
   rw[e1]at q;intro vs H1 s1 r1;rw[R.aa0]at q;cases e2:fT ds with
   |ok bf=>rw[e2]at q;exact⟨ds,bf,s1,r1,e2,λJ hJ=>q J H1 s1 hJ⟩
   |ex x=>
    rw[e2]at q;match ds,e2 with
    |[.int b],e2=>simp only[fT]at e2;split at e2<;>cases e2
    |[.int a,.int b],e2=>simp only[fT]at e2;split at e2<;>cases e2
    |[.int a,.int b,.int c],e2=>simp only[fT]at e2;split at e2<;>cases e2
   |bad=>rw[e2]at q;exact q.elim
  |ex x=>rw[e1]at q;exact q
  |bad=>rw[e1]at q;exact q
 ·exact IW I1 r r1 h1 h2
def tG (X:Cx)(G:D->Ev->R Ev):TG:=λv σ H Q=>∃H9 O0 O ρ d av,EnvOk X.K H9 O0 H O σ ρ/\Rep X.K H O v d/\G d ρ=.ok av/\∀ah H',Same H H'->EnvOk X.K H9 O0 H' O ah av->Q ah H'
def IE (X:Cx)(tg:Expr)(G:D->Ev->R Ev):Prop:=PG X tg (tG X G)
def VV (h:PG X tg t)(i:∀v σ H Q,t' v σ H Q->t v σ H Q):PG X tg t':=λpins s σ H v u Q I r q=>h pins s σ H v u Q I r (i v σ H Q q)
def m8 (i:Nat)(hN:X.N.Nodup)(hi:X.N[i]?=some x:=by rfl)(hx:Loc X.env.scope x:=by first|exact aCM rfl|exact aBN rfl)(hf:X.fn x=true\/X.env.scope.names.lookup x=some .local:=by first|exact .inl rfl|exact .inr rfl|assumption):
  IE X (.Name x pos) (λd ρ=>.ok (ρ.set i (.v d))):=VV (PZ hN hi hx hf) λv σ H Q ⟨H9,O0,O,ρ,d,av,E,r,e,q⟩=>by
 cases e;exact q _ H (Same.refl _) (E.set i r)
def tGs (X:Cx)(G:List D->Ev->R Ev):UQ:=λvs σ H Q=>∃H9 O0 O ρ ds av,EnvOk X.K H9 O0 H O σ ρ/\Reps X.K H O vs ds/\G ds ρ=.ok av/\∀ah H',Same H H'->EnvOk X.K H9 O0 H' O ah av->Q ah H'
def SL (X:Cx)(tgs:List Expr)(G:List D->Ev->R Ev):Prop:=YL X tgs (tGs X G)
def EK {tg:List Expr}{t t':UQ}(h:YL X tg t)(i:∀v σ H Q,t' v σ H Q->t v σ H Q):YL X tg t':=λpins s σ H v u Q I r q=>h pins s σ H v u Q I r (i v σ H Q q)
def lC:List D->Ev->R Ev
 |[],ρ=>.ok ρ
 |_,_=>.bad
def L6 (G:D->Ev->R Ev)(Gs:List D->Ev->R Ev):List D->Ev->R Ev
 |d::ds,ρ=>(G d ρ).bind λav=>Gs ds av
 |_,_=>.bad
def cU:SL X [] lC:=EK QT λvs σ H Q ⟨H9,O0,O,ρ,ds,av,E,r,e,q⟩=>by
 cases r with
 |nil=>cases e;exact⟨rfl,q σ H (Same.refl _) E⟩
 |cons _ _=>cases e
def y6 {e:Expr}{es:List Expr}{G:D->Ev->R Ev}{Gs:List D->Ev->R Ev}(h1:IE X e G)(h2:SL X es Gs)
  (hs:(assignEach (e::es) X.env).map (·.2)=assign e X.env::(assignEach es X.env).map (·.2):=by rfl):SL X (e::es) (L6 G Gs):=EK (MN h1 h2 hs) λvs σ H Q ⟨H9,O0,O,ρ,ds,av,E,r,e,q⟩=>by
 cases r with
 |nil=>cases e
 |@cons v d vs ds r rr=>
  simp only[L6]at e;cases e1:G d ρ with
  |ok ρ1=>rw[e1]at e;exact⟨v,vs,rfl,H9,O0,O,ρ,d,ρ1,E,r,e1,λσ1 H1 s1 E1=>⟨H9,O0,O,ρ1,ds,av,E1,rr.same s1,e,λue H2 s2 E2=>q ue H2 (s1.trans s2) E2⟩⟩
  |ex x=>rw[e1]at e;cases e
  |bad=>rw[e1]at e;cases e
def eS (n:Nat)(Gs:List D->Ev->R Ev):D->Ev->R Ev
 |.tup ds,ρ=>if ds.length=n then Gs ds ρ else .bad
 |.lst ds,ρ=>if ds.length=n then Gs ds ρ else .bad
 |_,_=>.bad
end
section
theorem rP (ae:t≠it):∀(n i:Nat) (s:Shared) (Q:List Value->Shared->Prop),s.heap.IsListIter it t i->s.heap.IsList t items->i+n<=items.size->
  (∀h',h'.IsListIter it t (i+n)->Heap.SameBut it s.heap h'->Q ((items.toList.drop i).take n) {s with heap:=h'})->wpAny (model prog w) A (draw (.ref it) n) Q E s
 |0,i,s,Q,hit,_,_,hQ=>by show wpAny _ _ (pure []) Q E s;exact aAb (by simpa using hQ s.heap hit (aFh ..))
 |n+1,i,s,Q,hit,ht,hle,hQ=>by
  have ai:i<items.size:=by omega
  show wpAny _ _ (pyNext (.ref it)>>=_) Q E s;refine aAa (wpAny_pyNext_list_item hit ht (x:=items[i]) (by simp[ai]) λh₁ hit0 ia=>?_);refine aAa (aAN (rP ae n (i+1) _ _ hit0 (ht.extBut ia.extBut ae) (by omega) λib hit1 kh=>aAb ?_));have hd:items.toList.drop i=items[i]::items.toList.drop (i+1):=by simp[aDz,ai]
  have:=hQ ib (by rw[show i+(n+1)=i+1+n by omega];exact hit1) (ia.trans kh);rw[hd,List.take_succ_cons]at this;exact this
def kI {Q:List Value->Shared->Prop}(hh:A.handled=none)(ht:s.heap.IsList t items)(hQ:∀h',Heap.ExtBut s.heap.objs.size s.heap h'->Q items.toList {s with heap:=h'}):wpAny (model prog w) A (unpackItems (.ref t) items.size none) Q E s:=by
 have ai:t≠s.heap.objs.size:=by obtain⟨o,ho,_⟩:=ht;exact aAl (aAf ho)
 unfold unpackItems;refine aAa ?_
 ·unfold notIterableAtAll;refine aAa (aBq ht.typeIs slot_list_iter.lookup ?_);refine aAb ?_;simp only[aAt,if_false];refine aAa (aAN<|aDs ht ?_);have ht0:(s.heap.push {cls:=.type "list_iterator",data:=.fields #[.ref t,.int 0 0]}).IsList t items:=by obtain⟨o,ho,r⟩:=ht;exact⟨o,aAc _ ho,r⟩
  refine aAa (aAN (rP ai items.size 0 _ _ ⟨_,aAp _ rfl,rfl,rfl⟩ ht0 (by omega) λh₁ hit0 ia=>?_));have oi:List.take items.size (List.drop 0 items.toList)=items.toList:=by rw[aFV];exact aCZ (by simp)
  rw[oi];rw[if_neg (by simp)];have ht3:h₁.IsList t items:=ht0.extBut ia.extBut ai;refine aAa (aAN (wpAny_pyNext_list_end hh hit0 ht3 (by simp) λib he3=>?_));simp only[Option.isSome_none,aAt,if_false];refine aAb (hQ ib λb o hb e=>he3 b o hb (ia.extBut b o hb<|aAc _ e))
def iR {x1}{Q:Unit->Shared->Prop}(hh:A.handled=none)(ht:s.heap.IsList t items)(hn:(assignEach elts env).length=items.size)(hstar:(assignEach elts env).findIdx? (·.1)=none)(h:∀h',Heap.ExtBut s.heap.objs.size s.heap h'->wpAny (model prog w) A (assignInOrder ((assignEach elts env).map (·.2)) items.toList) Q E {s with heap:=h'}):
  wpAny (model prog w) A (assign (.Tuple elts x1 pos) env (.ref t)) Q E s:=by
 rw[assign_Tuple];refine aAa (aDM ?_);unfold unpack;rw[hn,hstar];exact aAa (aAN<|kI hh ht h)
end
section
def gM (hc:X.calm=true)(h:SL X es Gs)(hn:(assignEach es X.env).length=n:=by rfl)(ja:(assignEach es X.env).findIdx? (·.1)=none:=by rfl):IE X (.Tuple es k pos) (eS n Gs):=by
 intro pins s σ H v u Q I r ⟨H9,O0,O,ρ,d,av,E,rd,e,q⟩;cases rd with
 |@tup a vs ds hq rs=>
  cases r;simp only[eS]at e;split at e
  ·rename_i hl;obtain⟨its,rv,ht,hz⟩:=I.tuple hq;refine assign_Tuple_tuple (I.ok.hd hc) ht (by simp[hn,<-hl,<-rs.length,rv.length]) ja λh' hx=>?_;have I1:Inv X pins σ H {s with heap:=h'}:=I.kept (t':=s.toks) λb o e=>hx b o (aAl<|aAf e) e;exact h pins _ σ H vs _ Q I1 (by simpa using rv) ⟨H9,O0,O,ρ,ds,av,E,rs,e,q⟩
  ·cases e
 |@lst a vs ds hq _ rs=>
  cases r;simp only[eS]at e;split at e
  ·rename_i hl;obtain⟨its,rv,ht,hz⟩:=I.list hq;refine iR (I.ok.hd hc) ht.isList (by simp[hn,<-hl,<-rs.length,rv.length]) ja λh' hx=>?_;have I1:Inv X pins σ H {s with heap:=h'}:=I.kept (t':=s.toks) λb o e=>hx b o (aAl<|aAf e) e;exact h pins _ σ H vs _ Q I1 (by simpa using rv) ⟨H9,O0,O,ρ,ds,av,E,rs,e,q⟩
  ·cases e
 |_=>cases e
def JJ (f:Ev->R D)(G:D->Ev->R Ev):Ev->R Out:=λρ=>(f ρ).bind λd=>match G d ρ with
 |.ok av=>.ok (.nx av)
 |_=>.bad
def EC (he:PD X e f)(hg:IE X tg G)(hs:swapsWithSole [tg] e pos.line X.env=pure false:=by rfl)(hw:swappedStores [tg] e X.env=pure none:=by rfl)(h1:(assignEach [tg] X.env).map (·.2)=[assign tg X.env]:=by rfl):mS X (.Assign [tg] e pos) (JJ f G):=λH9 O0=>CA (BR he hg hs hw h1) λD σ H O ρ E fk q=>⟨H9,O0,O,ρ,E,by
 unfold JJ at q;cases e1:f ρ with
 |ok d=>
  rw[e1,R.aa0]at q;intro v H' s r;cases e2:G d ρ with
  |ok av=>rw[e2]at q;exact⟨H9,O0,O,ρ,d,av,E.grow s,r,e2,λah H2 s2 E2=>q ah H2 O E2 fk (Kp.of<|s.trans s2)⟩
  |ex x=>rw[e2]at q;exact aAi q
  |bad=>rw[e2]at q;exact aAi q
 |ex x=>rw[e1]at q;exactλH' s=>q H' (E.same.trans s)
 |bad=>rw[e1]at q;exact q⟩
def NU (i j:Nat){kt k2 HX}(hc:X.calm=true)(hN:X.N.Nodup)(ha:HZ X [a,b] f)(hi:X.N[i]?=some x:=by rfl)(hj:X.N[j]?=some y:=by rfl)(jc:i≠j:=by decide)(hx:X.env.scope.names.lookup x=some .local:=by rfl)(hy:X.env.scope.names.lookup y=some .local:=by rfl)(hw:swappedStores [.Tuple [.Name x px,.Name y py] kt pt] (.Tuple [a,b] k2 HX) X.env=pure (some [x,y]):=by rfl)(hs:swapsWithSole [.Tuple [.Name x px,.Name y py] kt pt] (.Tuple [a,b] k2 HX) pos.line X.env=pure false:=by rfl):
  mS X (.Assign [.Tuple [.Name x px,.Name y py] kt pt] (.Tuple [a,b] k2 HX) pos) (λρ=>(f ρ).bind λds=>match ds with
   |[d,d']=>.ok (.nx ((ρ.set i (.v d)).set j (.v d')))
   |_=>.bad):=λH9 O0=>CA (VW hc hN hi hj jc hx hy ha hw hs) λD σ H O ρ E fk q=>⟨H9,O0,O,ρ,E,by
 cases e1:f ρ with
 |ok ds=>
  rw[e1,R.aa0]at q;intro vs H' s r;cases r with
  |nil=>exact aAi q
  |cons r1 r=>
   cases r with
   |nil=>exact aAi q
   |cons r2 r=>
    cases r with
    |nil=>exact⟨_,_,rfl,q _ H' O (((E.grow s).set i r1).set j r2) fk (Kp.of s)⟩
    |cons _ _=>exact aAi q
 |ex x=>rw[e1]at q;exactλH' s=>q H' (E.same.trans s)
 |bad=>rw[e1]at q;exact q⟩
def I9 (G:D->Ev->R Ev)(F:Ev->R Out):List D->Ev->R Out
 |[],ρ=>.ok (.nx ρ)
 |d::ds,ρ=>match G d ρ with
  |.ok ρ1=>match F ρ1 with
   |.ok (.nx ρ2)=>I9 G F ds ρ2
   |.ok (.ct ρ2)=>I9 G F ds ρ2
   |.ok (.bk ρ2)=>.ok (.nx ρ2)
   |r=>r
  |_=>.bad
def F3 (hp:PassesOwn (model X.prog X.w) X.A X.env X.xe)(hc:X.calm=true)(hi:SR X tg A0 f)(hg:IE X tg G)(hb:bG X body F)(hs:∀x,foldedSetIterable A0 X.env x=pure x:=by intro _;rfl):mS X (.For tg A0 body [] pos) (λρ=>(f ρ).bind λds=>I9 G F ds ρ):=λH9 O0=>CA (XU hp hc hi hg (hb H9 O0) hs) λD σ H O ρ E fk q=>⟨H9,O0,O,ρ,E,fk,by
 cases e1:f ρ with
 |ex x=>rw[e1]at q;exactλH' s=>q H' (E.same.trans s)
 |bad=>rw[e1]at q;exact q
 |ok ds=>
  rw[e1,R.aa0]at q;intro J H1 s1 hJ;refine⟨λi m ah H'=>m=ds.length-i/\i<=ds.length/\∃O' av,EnvOk X.K H9 O0 H' O' ah av/\bS X.K O'/\Kp H1 O H' O'/\RS X H9 O0 H' O' (I9 G F (ds.drop i) av) D,⟨ds.length,by simp,aAY _,O,ρ,E.grow s1,fk,Kp.refl _ _,?_⟩,?_⟩
  ·rw[aFV];exact q.grow (Kp.of s1)
  ·rintro i m ah H' ⟨rfl,hi,O',av,E',fk',k',q'⟩;have hit:=hJ H' O' k' fk' (E.grow s1).trk E'.trk i;by_cases ai:i<ds.length
   ·obtain⟨go,yl⟩:=hit.1 ds[i] (aAg ai);refine .inr ⟨go,λue H2=>∃O2 ρ2,EnvOk X.K H9 O0 H2 O2 ue ρ2/\bS X.K O2/\Kp H1 O H2 O2/\RS X H9 O0 H2 O2 (I9 G F (ds.drop<|i+1) ρ2) D,λue H2 p=>⟨ds.length-(i+1),by omega,rfl,ai,p⟩,λx H2 y=>?_⟩;obtain⟨s2,r2⟩:=yl x H2 y;rw[aDz ai,I9]at q';cases e2:G ds[i] av with
    |ex x=>rw[e2]at q';exact(show False from q').elim
    |bad=>rw[e2]at q';exact(show False from q').elim
    |ok ρ1=>
     rw[e2]at q';dsimp only at q';refine⟨H9,O0,O',av,ds[i],ρ1,E'.grow s2,r2,e2,λoh H3 s3 E3=>⟨O',ρ1,E3,fk',?_⟩⟩;have kk:Kp H' O' H3 O':=Kp.of (s2.trans s3);cases e3:F ρ1 with
     |ex x=>rw[e3]at q';exact q'
     |bad=>rw[e3]at q';exact q'
     |ok o=>
      rw[e3]at q';cases o with
      |nx ρ2=>exactλσ4 H4 O4 E4 f4 k4=>⟨O4,ρ2,E4,f4,k'.trans (kk.trans k4),RS.grow q' (kk.trans k4)⟩
      |ct ρ2=>exactλσ4 H4 O4 E4 f4 k4=>⟨O4,ρ2,E4,f4,k'.trans (kk.trans k4),RS.grow q' (kk.trans k4)⟩
      |bk ρ2=>exactλσ4 H4 O4 E4 f4 k4=>q' σ4 H4 O4 E4 f4 (kk.trans k4)
      |rt d=>exact q'
   ·have e:i=ds.length:=by omega
    subst e;rw[List.drop_length,I9]at q';exact .inl ⟨hit.2 (by simp),q' ah H' O' E' fk' (Kp.refl _ _)⟩⟩
def R5 (c:Ev->R Bool)(F:Ev->R Out):Nat->Ev->R Out
 |0,_=>.bad
 |n+1,ρ=>(c ρ).bind λb=>if b=true then(match F ρ with
  |.ok (.nx ρ2)=>R5 c F n ρ2
  |.ok (.ct ρ2)=>R5 c F n ρ2
  |.ok (.bk ρ2)=>.ok (.nx ρ2)
  |r=>r)else .ok (.nx ρ)
def jD (n:Ev->Nat)(hp:PassesOwn (model X.prog X.w) X.A X.env X.xe)(hc:DB X c fc)(hb:bG X body F):mS X (.While c body [] pos) (λρ=>R5 fc F (n ρ) ρ):=λH9 O0=>CA (NR hp hc<|hb H9 O0) λD σ H O ρ E fk q=>by
 refine⟨λm ah H'=>∃O' av,EnvOk X.K H9 O0 H' O' ah av/\bS X.K O'/\RS X H9 O0 H' O' (R5 fc F m av) D,⟨n ρ,O,ρ,E,fk,q⟩,?_⟩;rintro m ah H' ⟨O',av,E',fk',q'⟩;cases m with
 |zero=>exact(show False from q').elim
 |succ m=>
  rw[R5]at q';refine⟨H9,O0,O',av,E',?_⟩;cases e1:fc av with
  |ex x=>rw[e1]at q';exactλH2 s2=>q' H2 (E'.same.trans s2)
  |bad=>rw[e1]at q';exact q'
  |ok b=>
   rw[e1,R.aa0]at q';intro H2 s2;cases b with
   |false=>rw[if_neg aAQ]at q'⊢;exact q' ah H2 O' (E'.grow s2) fk' (Kp.of s2)
   |true=>
    rw[if_pos rfl]at q'⊢;refine⟨λoh H3=>∃O3 ρ3,EnvOk X.K H9 O0 H3 O3 oh ρ3/\bS X.K O3/\RS X H9 O0 H3 O3 (R5 fc F m ρ3) D,λoh H3 p=>⟨m,aDD m,p⟩,O',av,E'.grow s2,fk',?_⟩;have kk:Kp H' O' H2 O':=Kp.of s2;cases e3:F av with
    |ex x=>rw[e3]at q';exact q'
    |bad=>rw[e3]at q';exact q'
    |ok o=>
     rw[e3]at q';cases o with
     |nx ρ2=>exactλσ4 H4 O4 E4 f4 k4=>⟨O4,ρ2,E4,f4,RS.grow q' (kk.trans k4)⟩
     |ct ρ2=>exactλσ4 H4 O4 E4 f4 k4=>⟨O4,ρ2,E4,f4,RS.grow q' (kk.trans k4)⟩
     |bk ρ2=>exactλσ4 H4 O4 E4 f4 k4=>q' σ4 H4 O4 E4 f4 (kk.trans k4)
     |rt d=>exact q'
end
def YK (K:PySem.W.Frag)(n:Nat)(m:List D->R D):Sp:=λvs H Q _=>∃O ds d,Reps K H O vs ds/\ds.length=n/\(∀a,O a->∃o,H a=some o/\Mt o)/\Tb H/\bS K O/\m ds=.ok d/\∀v H',Same H H'->Rep K H' O v d->Q v H'
def j2 (N:List Str)(ds:List D):Ev:=ds.map Sl.v++aCI (N.length-ds.length) Sl.no
def P8:R Out->R D
 |.ok (.rt d)=>.ok d
 |.ok (.nx _)=>.ok .non
 |.ex e=>.ex e
 |_=>.bad
def rE {K:PySem.W.Frag}{H:Hp}{O:Addr->Prop}{N:List Str}{vs:List V}{ds:List D}(r:Reps K H O vs ds)(t:∀a,O a->∃o,H a=some o/\Mt o)(tb:Tb H):EnvOk K H O H O (start N vs) (j2 N ds)where
 len:=by simp[L2.start,j2,r.length]
 same:=Same.refl H
 sub:=λ_ h=>h
 trk:=t
 trk0:=λa h=>let⟨o,q,_⟩:=t a h;⟨o,q⟩
 tab:=tb
 slot:=λi sl h=>by
  unfold j2 at h;unfold L2.start;by_cases hi:i<ds.length
  ·rw[aAO (by simpa using hi),aAG]at h;cases e:ds[i]? with
   |none=>rw[e]at h;cases h
   |some d'=>rw[e]at h;have h':Sl.v d'=sl:=aAj h;subst h';obtain⟨v,h1,h2⟩:=r.get e;exact⟨v,by rw[aAO (by rw[aAm,r.length];exact hi),aAG,h1];rfl,h2⟩
  ·rw[aAx (by simpa using hi),aBm]at h;split at h
   ·cases h;trivial
   ·cases h
 inj:=λi j x y a h _ o=>by
  unfold j2 at h;by_cases hi:i<ds.length
  ·rw[aAO (by simpa using hi),aAG]at h;cases e:ds[i]? with
   |none=>rw[e]at h;cases h
   |some d'=>rw[e]at h;have h':Sl.v d'=x:=aAj h;subst h';exact o.elim
  ·rw[aAx (by simpa using hi),aBm]at h;split at h
   ·cases h;exact o.elim
   ·cases h
section
variable{K:PySem.W.Frag}
abbrev OY (P:Program)(w:World)(K:PySem.W.Frag)(mg:bX)(base:Heap)(N:List Str)(qual:Str)(sc:Scope)(f:Addr)(cdv:Value)(A:Around)(outer:List Env)(s:Shared)(H:Hp)(E:XK):Cx:=(yT uI P w K mg base N qual sc f cdv A outer s H E).nox
def yz {x qual:Str}{st:Stmt}{f:Addr}{fd:FuncData}{N ps:List Str}{k:Nat}{m:List D->R D}{F:Ev->R Out}(F0:Fun K x qual st f fd)(S:FnScope N ps (c6 st))
  (hb:∀(cdv:Value) (A:Around) (outer:List Env) (s:Shared) (H:Hp) (E:XK),Room k (A.deeper (envOfC qual (c6 st) s.heap.objs.size f cdv))->bG (OY P w K mg base N qual (c6 st) f cdv A outer s H E) (t5 st) F)
  (hm:∀ds d,ds.length=ps.length->m ds=.ok d->P8 (F (j2 N ds))=.ok d):FnOk P w K mg base uI (k+1) f fd ps (YK K ps.length m):=by
 refine F0.ok S (λvs H Q E ⟨O,ds,d,r,hl,_⟩=>by rw[r.length];exact hl) (λcdv A outer s H vs Q E hr ⟨O,ds,d,r,hl,ht,tb,fk,e,q⟩=>?_);refine⟨_,hb cdv A outer s H E hr H O,O,_,rE r ht tb,fk,?_⟩;have h:=hm ds d hl e;cases e1:F (j2 N ds)with
 |ok o=>
  rw[e1]at h;cases o with
  |rt d'=>have h':R.ok d'=R.ok d:=h;injection h' with h';subst h';exact q
  |nx ρ=>have h':R.ok D.non=R.ok d:=h;injection h' with h';subst h';exactλah H' O' E' _ _=>q .non H' E'.same .non
  |bk ρ=>cases h
  |ct ρ=>cases h
 |ex x=>rw[e1]at h;cases h
 |bad=>rw[e1]at h;cases h
end
section
def nR (I:Inv X pins σ H s)(O:Addr->Prop)(t:∀a,O a->∃o,H a=some o/\Mt o):bS X.K O:=λa o hk z=>by obtain⟨u,h,_⟩:=t a z;have:=(I.bs a o<|I.ok.mod.kin a o hk).2;rw[h]at this;cases this
def QZ (F:FnOk X.prog X.w X.K X.mg X.base uI k g gd ps (YK X.K n m))(hr:Room k X.A)(hm:X.mg x=some (.ref g))(hk:PySem.W.keepIn X.K (.ref g)=true)(hb:Binds X.K gd ps [])(ha:HZ X (e::es) f)(hl:∀ρ ds,f ρ=.ok ds->ds.length=n)(hg:Gl X x:=by rfl)(gv:(x==("__debug__":Str))=false:=by decide)(he:starEach (e::es) X.env=(false,eval e X.env)::starEach es X.env:=by rfl)(bh:(backTo pos (starEach es X.env)).any (·.1)=false:=by rfl):
  PD X (.Call (.Name x p) (e::es) [] pos) (λρ=>(f ρ).bind m):=by
 refine xN λpins s σ H Q I H9 O0 O ρ E q=>?_;refine RX F hr hg hm hk hb .nil YU ha gv he bh pins s σ H Q I ⟨H9,O0,O,ρ,E,?_⟩;dsimp only at q;cases e1:f ρ with
 |ex z=>rw[e1]at q;exact q
 |bad=>rw[e1]at q;exact q
 |ok ds=>
  rw[e1,R.aa0]at q;intro vs H1 s1 r1;rw[aCv];have E1:=E.grow s1;cases e2:m ds with
  |ex z=>rw[e2]at q;exact(q H<|Same.refl _).elim
  |bad=>rw[e2]at q;exact q.elim
  |ok d=>rw[e2]at q;refine⟨O,ds,d,r1,hl ρ ds e1,E1.trk,E1.tab,?_,e2,λv H' s2 r2=>q v H' (s1.trans s2) r2⟩;exact nR I O E.trk
end
def IA (env:Env):List (Str×NameKind)->List (Str×Addr)->List (Str×Addr)
 |[],acc=>acc
 |(n,k)::r,acc=>IA env r (if k=.free then(n,(env.cells.lookup n).getD 0)::acc else acc)
def Y4 (h:∀y∈scope.names,y.2=.free->∃c,env.cells.lookup y.1=some c):closureFor scope env=pure (IA env scope.names []):=by
 have go:∀(names:List (Str×NameKind)) (acc:List (Str×Addr)),(∀y∈names,y.2=.free->∃c,env.cells.lookup y.1=some c)->
   (forIn names acc λ(x:Str×NameKind) (r:List (Str×Addr))=>(match x with
    |(name,kind)=>if(kind==NameKind.free)=true then(do let a<-cellOf env name;pure (aCf ((name,a)::r)))else pure (aCf r):Sem (ForInStep<|List<|Str×Addr)))=pure (IA env names acc):=by
  intro names;induction names with
  |nil=>intro acc _;rfl
  |cons y r ih=>
   intro acc hy;obtain⟨n,k⟩:=y;rw[aCQ];by_cases hk:k=.free
   ·subst hk;obtain⟨c,hc⟩:=hy (n,.free) aAP rfl;have e:cellOf env n=pure c:=by unfold cellOf;rw[hc]
    simp only[beq_self_eq_true,if_true,e,pure_bind];rw[ih _ λz hz=>hy z (aAe _ hz)];simp[IA,hc]
   ·have hb:(k==NameKind.free)=false:=by simpa using hk
    simp only[hb,aAt,if_false,pure_bind];rw[ih _ λz hz=>hy z (aAe _ hz)];simp[IA,hk]
 have e:=go scope.names [] h;show((forIn scope.names ([]:List (Str×Addr)) λ(x:Str×NameKind) (r:List (Str×Addr))=>(match x with
    |(name,kind)=>if(kind==NameKind.free)=true then(do let a<-cellOf env name;pure (aCf ((name,a)::r)))else pure (aCf r):Sem (ForInStep<|List<|Str×Addr)))>>=λs=>pure s)=_
 rw[e];rfl
theorem wU:∀(names:List (Str×NameKind)) (acc:List (Str×Addr)) {x:Str} {c:Addr},(∀y∈names,y.2=.free->∃c,env.cells.lookup y.1=some c)->(∀x c,acc.lookup x=some c->env.cells.lookup x=some c)->
  (IA env names acc).lookup x=some c->env.cells.lookup x=some c
 |[],acc,x,c,_,ha,h=>ha x c h
 |(n,k)::r,acc,x,c,hy,ha,h=>by
  refine wU r _ (λy hm=>hy y (aAe _ hm)) (λx' c' h'=>?_) h;by_cases hk:k=.free
  ·rw[if_pos hk]at h';obtain⟨c0,hc⟩:=hy (n,k) aAP hk;by_cases hx:x'=n
   ·subst hx;rw[aBz]at h';rw[hc]at h';rw[hc];exact h'
   ·rw[aAU,beq_eq_false_iff_ne.mpr hx]at h';exact ha x' c' h'
  ·rw[if_neg hk]at h';exact ha x' c' h'
theorem sH:∀(names:List (Str×NameKind)) (acc:List (Str×Addr)) {x:Str},((x,NameKind.free)∈names\/∃c,acc.lookup x=some c)->∃c,(IA env names acc).lookup x=some c
 |[],acc,x,h=>by
  rcases h with h|h
  ·cases h
  ·exact h
 |(n,k)::r,acc,x,h=>by
  refine sH r _ ?_;rcases h with h|⟨c,h⟩
  ·rcases aAd.mp h with e|h
   ·cases e;right;rw[if_pos rfl,aBz];exact⟨_,rfl⟩
   ·exact .inl h
  ·right;by_cases hk:k=.free
   ·rw[if_pos hk,aAU];cases(x==n)with
    |true=>exact⟨_,rfl⟩
    |false=>exact⟨c,h⟩
   ·rw[if_neg hk];exact⟨c,h⟩
theorem iA {env:Env}:∀{names:List (Str×NameKind)} {x:Str},
  ((names.map λ(n,k)=>if(k==NameKind.free&&env.scope.kind==.function&&env.kindOf n==some .cell)then(n,aBO)else(n,k)).lookup x=some .cell\/
   (names.map λ(n,k)=>if(k==NameKind.free&&env.scope.kind==.function&&env.kindOf n==some .cell)then(n,aBO)else(n,k)).lookup x=some .free)->(x,NameKind.free)∈names\/names.lookup x=some .cell
 |[],_,h=>by rcases h with h|h<;>cases h
 |(n,k)::r,x,h=>by
  have ih:=@iA env r x;rw[aAu]at h;dsimp only at h;by_cases hx:x=n
  ·subst hx;by_cases hk:(k==NameKind.free&&env.scope.kind==.function&&env.kindOf x==some .cell)=true
   ·have kf:k=.free:=by rw[aAM,aAM]at hk;simpa using hk.1.1
    subst kf;exact .inl aAP
   ·rw[if_neg hk,aBz]at h;rcases h with h|h
    ·right;rw[aBz];exact h
    ·have:k=.free:=aAj h;subst this;exact .inl aAP
  ·have h':(r.map λ(n,k)=>if(k==NameKind.free&&env.scope.kind==.function&&env.kindOf n==some .cell)then(n,aBO)else(n,k)).lookup x=some .cell\/
     (r.map λ(n,k)=>if(k==NameKind.free&&env.scope.kind==.function&&env.kindOf n==some .cell)then(n,aBO)else(n,k)).lookup x=some .free:=by
    by_cases hk:(k==NameKind.free&&env.scope.kind==.function&&env.kindOf n==some .cell)=true
    ·rw[if_pos hk,aAU,beq_eq_false_iff_ne.mpr hx]at h;exact h
    ·rw[if_neg hk,aAU,beq_eq_false_iff_ne.mpr hx]at h;exact h
   rcases ih h' with h|h
   ·exact .inl (aAe _ h)
   ·right;rw[aAU,beq_eq_false_iff_ne.mpr hx];exact h
theorem nS:∀(names:List (Str×NameKind)) (h:Heap) (acc:List (Str×Addr)) {x:Str} {c:Addr},(cellsFrom h.objs.size names acc).lookup x=some c->acc.lookup x=some c\/((pushCells h names).IsCell c none/\h.objs.size<=c)
 |[],h,acc,x,c,e=>.inl e
 |(n,k)::r,h,acc,x,c,e=>by
  unfold cellsFrom at e;unfold pushCells;split at e
  ·rename_i hk;rw[if_pos hk];rcases nS r (h.push {cls:=.type "cell",data:=.cell none}) ((n,h.objs.size)::acc) (x:=x) (c:=c) (by rw[aBw];exact e)with h1|⟨h1,h2⟩
   ·rw[aAU]at h1;cases hx:(x==n)with
    |true=>rw[hx]at h1;have e':h.objs.size=c:=aAj h1;subst e';exact .inr ⟨⟨_,aEy _ _ _ _ (aAp _ rfl),rfl⟩,aAh _⟩
    |false=>rw[hx]at h1;exact .inl h1
   ·exact .inr ⟨h1,by rw[aBw]at h2;exact aCt h2⟩
  ·rename_i hk;rw[if_neg hk];exact nS r h acc e
theorem kC:∀(names:List (Str×NameKind)) (n:Nat) (acc:List (Str×Addr)) {x:Str} {c:Addr},(cellsFrom n names acc).lookup x=some c->acc.lookup x=some c\/n<=c
 |[],n,acc,x,c,e=>.inl e
 |(m,k)::r,n,acc,x,c,e=>by
  unfold cellsFrom at e;split at e
  ·rcases kC r (n+1) _ e with h1|h1
   ·rw[aAU]at h1;cases hx:(x==m)with
    |true=>rw[hx]at h1;exact .inr (aEe (aAj h1))
    |false=>rw[hx]at h1;exact .inl h1
   ·exact .inr (aCt h1)
  ·exact kC r n acc e
theorem nG:∀(names:List (Str×NameKind)) (n:Nat) (acc:List (Str×Addr)) {x:Str} {c:Addr},(x,aBO)∈names->(cellsFrom n names acc).lookup x=some c->n<=c
 |[],n,acc,x,c,hm,e=>nomatch hm
 |(m,k)::r,n,acc,x,c,hm,e=>by
  unfold cellsFrom at e;rcases aAd.mp hm with hm|hm
  ·cases hm;rw[if_pos (show(aBO==aBO)=true from rfl)]at e;rcases kC r (n+1) _ e with h1|h1
   ·rw[aBz]at h1;exact aEe (aAj h1)
   ·exact aCt h1
  ·split at e
   ·exact aCt (nG r (n+1) _ hm e)
   ·exact nG r n acc hm e
theorem oR:∀(names:List (Str×NameKind)) (n:Nat) (acc:List (Str×Addr)) {x:Str},(x,aBO)∉names->(cellsFrom n names acc).lookup x=acc.lookup x
 |[],n,acc,x,_=>rfl
 |(m,k)::r,n,acc,x,hm=>by
  unfold cellsFrom;split
  ·rename_i hk;rw[oR r (n+1) _ λz=>hm (aAe _ z),aAU];cases hx:(x==m)with
   |true=>
    have e1:x=m:=by simpa using hx
    have e2:k=.cell:=by simpa using hk
    exact absurd (by rw[e1,e2];exact aAP) hm
   |false=>rfl
  ·exact oR r n acc λz=>hm (aAe _ z)
theorem jH:∀(names:List (Str×NameKind)) (n:Nat) (acc:List (Str×Addr)),(∀x c,acc.lookup x=some c->c<n)->(∀x y c,acc.lookup x=some c->acc.lookup y=some c->x=y)->
  ∀x y c,(cellsFrom n names acc).lookup x=some c->(cellsFrom n names acc).lookup y=some c->x=y
 |[],n,acc,_,h=>h
 |(m,k)::r,n,acc,hl,h=>by
  unfold cellsFrom;split
  ·refine jH r (n+1) _ (λx c e=>?_) λx y c e1 e2=>?_
   ·rw[aAU]at e;cases hx:(x==m)with
    |true=>rw[hx]at e;rw[<-aAj e];exact aDD _
    |false=>rw[hx]at e;exact aBx (hl x c e)
   ·rw[aAU]at e1 e2;cases hx:(x==m)with
    |true=>
     rw[hx]at e1;cases hy:(y==m)with
     |true=>rw[show x=m by simpa using hx,show y=m by simpa using hy]
     |false=>rw[hy]at e2;rw[<-aAj e1]at e2;exact absurd (hl y _ e2) (aBc _)
    |false=>
     rw[hx]at e1;cases hy:(y==m)with
     |true=>rw[hy]at e2;rw[<-aAj e2]at e1;exact absurd (hl x _ e1) (aBc _)
     |false=>rw[hy]at e2;exact h x y c e1 e2
  ·exact jH r n acc hl h
abbrev cF (X:Cx)(scope:Scope)(C:Addr):List (Str×Addr):=cellsFrom (C+1) scope.names (IA X.env scope.names [])
def FU {E:C5}{Q:Env->Shared->Prop}(hQ:Q (newEnv scope s.heap.objs.size g (cellsFrom (s.heap.objs.size+1) scope.names cl) q none .none (some env) builtinsNs) {s with heap:=pushCells (s.heap.push {cls:=.type "dict",data:=.dict #[]}) scope.names}):
  wpAny M A (newFunctionEnv scope g cl [] q none .none (some env)) Q E s:=by
 simp only[newFunctionEnv,Option.isSome_some,if_true];refine aAa (wpAny_alloc ?_);refine aAa (wpAny_layCells _ (λname kind cells=>by cases hkc:kind==aBO<;>simp[hkc]) _ _ _ _ ?_);rw[show({s with heap:=s.heap.push {cls:=.type "dict",data:=.dict #[]}}:Shared).heap.objs.size=s.heap.objs.size+1 from aBw ..];exact aAa (aAb<|aAb hQ)
def GF {R:Result->Shared->Prop}(I:Nat->Shared->Prop)(turn:∀n s,I n s->wpAny (model prog w) A (pyNext it) (λr aa=>match r with
   |none=>R (.ok .next) aa
   |some v=>wpAny (model prog w) A (letOwnedTupleGo target it v) (λ_ s'0=>wpAny (model prog w) A (assign target env v) (λ_ fg=>
    wpAny (model prog w) A (forIn ifs true λc r=>if r=true then do let ok<-isTrue c env (eval c env);pure (aCf ok)else pure (aCf r)) (λok se=>
     if ok=true then wpAny (model prog w) A (eval elt env) (λx sh=>wpAny (model prog w) A (call (.builtin "list.append") [acc,x]) (λ_ si=>∃m,m<n/\I m si) (λ_ _=>False) sh) (λ_ _=>False) se
     else∃m,m<n/\I m se) (λ_ _=>False) fg) (λ_ _=>False) s'0) (λ_ _=>False) aa) (λ_ _=>False) s) (n:Nat) (h:I n s):codeAny (model prog w) A (.compLoop (.ListComp elt [⟨target,A0,ifs,0⟩] scope pos) 0 it acc env) R s:=by
 refine codeAny_loop rfl I (λn s hI=>?_) n h;show wpAny _ A ((compTurn (.ListComp elt [⟨target,A0,ifs,0⟩] scope pos) 0 it acc env).onRaise (λx=>do noteFrame x env;theTreesLotGoes x)) _ _ s;refine wpAny_noted ?_;rw[compTurn_list];refine aAa (aDM<|aAa<|aCj (turn n s hI) (λr aa h₁=>?_) λ_ _ h'=>h'.elim);cases r with
 |none=>exact aAb h₁
 |some v=>
  refine aAa (aCj h₁ (λ_ s'0 h'0=>?_) λ_ _ h'=>h'.elim);refine aAa (aCj h'0 (λ_ fg ib=>aAa (aCj ib (λok se aA=>?_) λ_ _ h'=>h'.elim)) λ_ _ h'=>h'.elim);cases ok with
  |false=>exact aAb ⟨rfl,aA⟩
  |true=>exact aAa (aAa<|aCj aA (λx sh hV=>aAa (aCj hV (λ_ si h9=>aAb (aAb ⟨rfl,h9⟩)) λ_ _ h'=>h'.elim)) λ_ _ h'=>h'.elim)
def HB (X:Cx)(pins:M2)(s9:Shared)(H9:Hp)(N':List Str)(scope:Scope)(cl:List (Str×Addr))(C:Addr)(fp:List Addr):Cx where
 prog:=X.prog
 w:=X.w
 K:=X.K
 mg:=X.mg
 base:=X.base
 A:=X.A
 N:=N'
 s9:=s9
 H9:=H9
 env:=compEnvC scope cl C X.env
 outer:=X.stack
 stack:=X.stack
 ex:=fp
 fn:=λx=>scope.names.lookup x==some .cell
 calm:=X.calm
 pn:=X.pn++pins
 xe:=λ_ _=>False
structure CompSc (X:Cx)(scope:Scope)(own fr:List Str)(js:List Nat):Prop where
 kind:scope.kind=.function
 apart:∀y∈scope.names,y.2=.free->(y.1,aBO)∉scope.names
 names:∀y∈scope.names,y.2=.local->scope.names.lookup y.1=some .local
 free:∀y∈scope.names,y.2=.free->X.env.kindOf y.1=some .cell\/X.env.kindOf y.1=some .free
 len:js.length=fr.length
 at_:∀(i j:Nat) (x:Str),js[i]?=some j->fr[i]?=some x->X.N[j]?=some x/\(x,NameKind.free)∈scope.names
 nd:js.Nodup
 dis:∀y∈scope.names,y.2=.free->scope.names.lookup y.1=some .free
def seen:Sl->Sl
 |.v d=>.v d
 |_=>.no
def f6 (own:List Str)(js:List Nat)(ρ:Ev):Ev:=aCI own.length Sl.no++js.map λj=>seen (ρ.getD j Sl.no)
def W3 (own:List Str)(js:List Nat)(σ:St):St:=aCI own.length none++js.map λj=>σ.getD j none
def Inv.aa9 (I:L2.Inv X pins σ H s)(S:CompSc X scope own fr js):∀y∈scope.names,y.2=.free->∃c,X.env.cells.lookup y.1=some c:=
 λy hy hf=>I.ok.has y.1 (S.free y hy hf)
def bJ (h:(f6 own js ρ)[i]?=some sl):sl=.no\/∃d j,sl=.v d/\own.length<=i/\js[i-own.length]?=some j/\ρ[j]?=some (.v d):=by
 unfold f6 at h;by_cases hi:i<own.length
 ·rw[aAO (by simpa using hi),aBm,if_pos hi]at h;cases h;exact .inl rfl
 ·have eh:own.length<=i:=aEk hi;rw[aAx (by simpa using eh),aCe,aAG]at h;cases e:js[i-own.length]? with
  |none=>rw[e]at h;cases h
  |some j=>
   rw[e]at h;have h':seen (ρ.getD j Sl.no)=sl:=aAj h;rw[aAn]at h';cases e2:ρ[j]? with
   |none=>rw[e2]at h';subst h';exact .inl rfl
   |some z=>
    rw[e2]at h';cases z with
    |v d=>subst h';exact .inr ⟨d,j,rfl,eh,rfl,e2⟩
    |_=>subst h';exact .inl rfl
def ER {K:PySem.W.Frag}{H9 H:Hp}{O0 O:Addr->Prop}{σ:St}{ρ:Ev}{own:List Str}{js:List Nat}(E:EnvOk K H9 O0 H O σ ρ):EnvOk K H9 O0 H O (W3 own js σ) (f6 own js ρ):=by
 refine⟨by simp[W3,f6],E.same,E.sub,E.trk,E.trk0,E.tab,λi sl h=>?_,λi j x y a h1 h2 o=>?_⟩
 ·rcases bJ h with rfl|⟨d,j,rfl,eh,e,h1⟩
  ·trivial
  ·obtain⟨v,h3,h4⟩:=E.val j d h1;refine⟨v,?_,h4⟩;unfold W3;rw[aAx (by simpa using eh),aCe,aAG,e];show some (σ.getD j none)=some (some v);rw[aAn,h3];rfl
 ·rcases bJ h1 with rfl|⟨d,j,rfl,_⟩
  ·exact o.elim
  ·exact o.elim
def EO (I:L2.Inv X pins σ H s)(S:CompSc X scope own fr js)(uo:∀b∈fp,mE X pins H b)(ai:∀b∈fp,b<s.heap.objs.size)(e8:h₁=pushCells (s.heap.push {cls:=.type "dict",data:=.dict #[]}) scope.names):
  L2.Inv (HB X pins s H (own++fr) scope (cF X scope s.heap.objs.size) s.heap.objs.size fp) [] (W3 own js σ) H {s with heap:=h₁,toks:=tk}:=by
 have hcells:=Inv.aa9 I S;have keep:∀b o,s.heap.get? b=some o->h₁.get? b=some o:=λb o e=>by rw[e8];exact aEy _ _ _ _ (aAc _ e)
 have xv:h₁.Ns s.heap.objs.size (λ_=>none):=by rw[e8];exact(Heap.Ns.new s.heap<|.type "dict").keeps (aEy _ _)
 have cc:∀x c,(cF X scope s.heap.objs.size).lookup x=some c->(IA X.env scope.names []).lookup x=some c\/(h₁.IsCell c none/\s.heap.objs.size+1<=c):=λx c h=>by have:=nS scope.names (s.heap.push {cls:=.type "dict",data:=.dict #[]}) (IA X.env scope.names []) (x:=x) (c:=c) (by rw[aBw];exact h);rw[aBw,<-e8]at this;exact this
 have dc:∀x c,(IA X.env scope.names []).lookup x=some c->X.env.cells.lookup x=some c:=λx c h=>wU scope.names [] hcells (λ_ _ z=>(by cases z)) h;have base_lt:∀b o,X.base.get? b=some o->b∉fp:=λb o e hb=>by
  rcases(uo b hb).2.2.2.1 with z|z
  ·exact I.ok.noex b o e z
  ·exact absurd (aAr (aAf e)<|aAs I.ok.bsz z) (aBc _)
 have nfs:∀b∈fp,b∉xD X.stack:=λb hb z=>by
  rcases aAd.mp (I.ab2 b z)with e|z
  ·exact(uo b hb).2.1 e
  ·exact(uo b hb).2.2.1 z
 have old_lt:∀x c,X.env.cells.lookup x=some c->c<s.heap.objs.size+1:=λx c h=>by obtain⟨v,o,ho,_⟩:=I.cell x c h;exact aBx (aAf ho)
 have has:∀x,((relabel scope X.env).names.lookup x=some .cell\/(relabel scope X.env).names.lookup x=some .free)->∃c,(cF X scope s.heap.objs.size).lookup x=some c:=λx hx=>by
  have:((cF X scope s.heap.objs.size).lookup x).isSome=true:=PySem.W.cellsFrom_some _ _ _ (by
   rcases iA hx with h|h
   ·obtain⟨c,hc⟩:=sH (env:=X.env) scope.names [] (x:=x) (.inl h);exact .inr (by rw[hc];rfl)
   ·exact .inl h)
  exact aDH.mp this
 refine⟨⟨I.ok.mod,S.kind,I.ok.glob,I.ok.blt,aAh _,jH scope.names _ _ (λx c h=>old_lt x c (dc x c h)) (λx y c h1 h2=>I.ok.inj x y c (dc x c h1) (dc y c h2)),has,λx c hf h=>aCt (nG scope.names _ _ (PySem.mem_of_lookup<|eq_of_beq hf) h),I.ok.hd,I.ok.frames,.inl rfl,
  λb hb=>⟨aAl (ai b hb),λx c h=>(cc x c h).elim (λh=>(uo b hb).2.2.2.2.1 x c (dc x c h)) λ⟨_,h2⟩ z=>absurd (aAr (ai b hb)<|aCt h2) (by rw[z];exact aBc _)⟩,I.bs,aAs I.ok.bsz I.sz,λb o e=>base_lt b o e,nfs,I.stack,I.ad3⟩,rfl,I.bare,Un.kept keep,⟨_,xv,λi x v e1 e2 e3=>?_⟩,λx c h=>?_,I.hok.fresh (aAh _),λx c h=>(cc x c h).elim (λh=>I.freeC x c (dc x c h)) λ⟨_,h2⟩=>I.hok.fresh (aCt h2),λp hp=>?_,I.hok.kept keep,?_⟩
 ·
  have hlen:(own++fr).length=(W3 own js σ).length:=by simp[W3,S.len]
  unfold W3 at e2;by_cases hi:i<own.length
  ·rw[aAO (by simpa using hi),aBm,if_pos hi]at e2;cases e2
  ·have eh:own.length<=i:=aEk hi;rw[aAx (by simpa using eh),aCe,aAG]at e2;have zd:(own++fr)[i]?=some x:=e1;rw[aAx eh]at zd;cases e:js[i-own.length]? with
   |none=>rw[e]at e2;cases e2
   |some j=>
    rw[e]at e2;have e2':σ.getD j none=some v:=aAj e2;obtain⟨hN,je⟩:=S.at_ (i-own.length) j x e zd;have hσ:σ[j]?=some (some v):=by
     rw[aAn]at e2';cases e4:σ[j]? with
     |none=>rw[e4]at e2';cases e2'
     |some z=>rw[e4]at e2';exact congrArg some e2'
    have hk:=S.free (x,.free) je rfl;have hvis:AR X.env.scope x:=.inr hk;obtain⟨m,hn,hl⟩:=I.loc;obtain⟨u,r,lk⟩:=hl j x v hN hσ hvis;refine⟨u,r,?_⟩;rcases lk with⟨ju,_⟩|⟨_,c,hc,dh⟩
    ·rcases hk with hk|hk<;>(rw[ju]at hk;cases hk)
    ·right;obtain⟨c',wu⟩:=sH (env:=X.env) scope.names [] (x:=x) (.inl je);have:=dc x c' wu;rw[hc]at this;cases this;refine⟨?_,c,(oR scope.names _ _<|S.apart (x,.free) je rfl).trans wu,?_⟩
     ·rcases e3 with e3|e3|e3
      ·
       have hq:(relabel scope X.env).names.lookup x=some .local:=e3;exfalso;have:∀names:List (Str×NameKind),(names.map λ(n,k)=>if(k==NameKind.free&&X.env.scope.kind==.function&&X.env.kindOf n==some .cell)then(n,aBO)else(n,k)).lookup x=some .local->names.lookup x=some .local:=by
        intro names;induction names with
        |nil=>intro h;cases h
        |cons y r ih=>
         obtain⟨n,k⟩:=y;intro h;rw[aAu]at h;dsimp only at h;by_cases hx:x=n
         ·subst hx;by_cases hkk:(k==NameKind.free&&X.env.scope.kind==.function&&X.env.kindOf x==some .cell)=true
          ·rw[if_pos hkk,aBz]at h;cases h
          ·rw[if_neg hkk,aBz]at h;rw[aBz];exact h
         ·rw[aAU,beq_eq_false_iff_ne.mpr hx];by_cases hkk:(k==NameKind.free&&X.env.scope.kind==.function&&X.env.kindOf n==some .cell)=true
          ·rw[if_pos hkk,aAU,beq_eq_false_iff_ne.mpr hx]at h;exact ih h
          ·rw[if_neg hkk,aAU,beq_eq_false_iff_ne.mpr hx]at h;exact ih h
       have h2:=this scope.names hq;rw[S.dis (x,.free) je rfl]at h2;cases h2
      ·exact .inl e3
      ·exact .inr e3
     ·obtain⟨o,ho,hd⟩:=dh;exact⟨o,keep c o ho,hd⟩
 ·rcases cc x c h with h|⟨h,_⟩
  ·obtain⟨v,o,ho,hd⟩:=I.cell x c (dc x c h);exact⟨v,o,keep c o ho,hd⟩
  ·exact⟨_,h⟩
 ·have ze:p∈X.pn++pins:=by simpa[HB]using hp
  obtain⟨e,n,ne,nf,d⟩:=I.pin p ze;refine⟨keep _ _ e,n,aAl (aAf e),λz=>?_,d⟩;rcases aAd.mp (I.ab2 p.1 z)with e'|z'
  ·exact ne e'
  ·exact nf z'
 ·simp[W3,HB,S.len]
def t9 (G:D->Ev->R Ev)(ft:Ev->R Bool)(fe:Ev->R D)(ρ:Ev):List D->R (List D)
 |[]=>.ok []
 |d::ds=>match G d ρ with
  |.ok ρ1=>(ft ρ1).bind λb=>if b=true then(fe ρ1).bind λr=>(t9 G ft fe ρ ds).bind λrs=>.ok (r::rs)else t9 G ft fe ρ ds
  |_=>.bad
def pW (ρ1 ρ:Ev):Prop:=ρ1.length=ρ.length/\∀(i:Nat) (sl:Sl),ρ[i]?=some sl->sl≠.no->ρ1[i]?=some sl
def EnvOk.weak {K:PySem.W.Frag}{H9 H:Hp}{O0 O:Addr->Prop}{σ:St}{ρ1 ρ:Ev}(E:EnvOk K H9 O0 H O σ ρ1)(h:pW ρ1 ρ):EnvOk K H9 O0 H O σ ρ where
 len:=E.len.trans h.1
 same:=E.same
 sub:=E.sub
 trk:=E.trk
 trk0:=E.trk0
 tab:=E.tab
 slot:=λi sl e=>by
  by_cases n:sl=.no
  ·subst n;trivial
  ·exact E.slot i sl (h.2 i _ e n)
 inj:=λi j x y a h1 h2 o1 o2=>E.inj i j x y a (h.2 i _ h1 (by rintro rfl;exact o1)) (h.2 j _ h2 (by rintro rfl;exact o2)) o1 o2
def R7 (H:Hp)(a:Addr):Hp:=λb=>if b=a then none else H b
def BC (H:Hp)(a:Addr):R7 H a a=none:=if_pos rfl
def U7 (h:b≠a):R7 H a b=H b:=if_neg h
def HK (h:H a=some o):upd (R7 H a) a o=H:=by
 funext b
 unfold upd R7;by_cases hb:b=a
 ·subst hb;rw[if_pos rfl,h]
 ·rw[if_neg hb,if_neg hb]
def EnvOk.ad6 {K:PySem.W.Frag}{H9 H:Hp}{O0 O:Addr->Prop}{σ:St}{ρ:Ev}{a:Addr}{vs:List V}(E:EnvOk K H9 O0 H O σ ρ)(h:H a=none)(hk:K.lookup a=none):EnvOk K H9 O0 (upd H a (.lst vs)) (λb=>O b\/b=a) σ ρ:=E.ab8 h hk trivial
def Rep.hidden {K:PySem.W.Frag}{H:Hp}{O:Addr->Prop}{a:Addr}{vs:List V}{v:V}{d:D}(h:H a=some (.lst vs))(r:Rep K H (λb=>O b\/b=a) v d):Rep K (R7 H a) O v d:=by
 refine r.mono (λb xs q=>?_) (λb xs n q=>⟨λz=>n (.inl z),?_⟩) λb φ n q=>⟨λz=>n (.inl z),by rw[U7 λz=>n (.inr z)];exact q⟩
 ·rcases q with(q|⟨o,q⟩)|q
  ·exact .inl (.inl (by rw[U7 (by rintro rfl;rw[h]at q;cases q)];exact q))
  ·exact .inl (.inr ⟨o,by rw[U7 (by rintro rfl;rw[h]at q;cases q)];exact q⟩)
  ·exact .inr q
 ·have hb:b≠a:=λz=>n (.inr z);rcases q with(q|⟨o,q⟩)|q
  ·exact .inl (.inl (by rw[U7 hb];exact q))
  ·exact .inl (.inr ⟨o,by rw[U7 hb];exact q⟩)
  ·exact .inr q
def U0 (h:H a=none)(s:Same (upd H a (.lst vs)) H'):Same H (R7 H' a):=λb o q=>by
 have hb:b≠a:=by rintro rfl;rw[h]at q;cases q
 rw[U7 hb];exact s b o (by rw[j8 hb];exact q)
section
def TD (X:Cx)(ifs:List Expr)(ft:Ev->R Bool):Prop:=
 ∀(pins:M2) (s:Shared) (σ:St) (H:Hp) (Q:Bool->Hp->Prop),Inv X pins σ H s->uj X ft σ H Q->
  wpAny (model X.prog X.w) X.A (forIn ifs true λc r=>if r=true then do let ok<-isTrue c X.env (eval c X.env);pure (aCf ok)else pure (aCf r)) (TP X pins σ Q) X.xe s
def EA:TD X [] (λ_=>.ok true):=λpins s σ H Q I ⟨H9,O0,O,ρ,E,q⟩=>wpAny_tests_nil ⟨H,I,q H (Same.refl _)⟩
def OZ (h:DB X c ft):TD X [c] ft:=λpins s σ H Q I q=>wpAny_tests_one (h pins s σ H Q I q)
def pA {tg elt A0:Expr}{ifs:List Expr}{scope:Scope}{own fr:List Str}{js:List Nat}{G:D->Ev->R Ev}{ft:Ev->R Bool}{fe:Ev->R D}{pins:M2}{σ:St}{H:Hp}{s:Shared}{H9:Hp}{O0 O:Addr->Prop}{ρ:Ev}
  {it:Addr} {fp:List Addr} {tn:Nat->Heap->Prop} {J:It} {ds rs:List D} {RR:Value->Addr->Result->Shared->Prop} {EE:C5} (hc:X.calm=true) (S:CompSc X scope own fr js)
  (hX:∀X':Cx,(∃s9 Ha C,X'=HB X pins s9 Ha (own++fr) scope (cF X scope C) C fp)->IE X' tg G/\TD X' ifs ft/\PD X' elt fe)
  (hG:∀d ρ1,G d (f6 own js ρ)=.ok ρ1->pW ρ1 (f6 own js ρ))
  (I:Inv X pins σ H s) (T:Turn X.prog X.w X.K tg J fp it tn) (st:tn 0 s.heap) (uo:∀b∈fp,mE X pins H b) (E:EnvOk X.K H9 O0 H O σ ρ) (hJ:SU X.K J H O ds) (hrs:t9 G ft fe (f6 own js ρ) ds=.ok rs) (hlen:ds.length<=sizeLine)
  (fin:∀acc C s' H' m,s'.heap.Ns C m->C≠acc->s.heap.objs.size<=C->s.heap.objs.size<=acc->Same H H'->Rep X.K H' O (.ref acc) (.lst rs)->(∃H1 vs,Same H H1/\H1 acc=none/\H'=upd H1 acc (.lst vs)/\Reps X.K H1 O vs rs)->H' C=none->(∀h',Heap.SameBut C s'.heap h'->Inv X pins σ H' {s' with heap:=h'})->RR (.ref acc) C (.ok .next) s'):
  wpAny (model X.prog X.w) X.A (newList []) (λacc se=>wpAny (model X.prog X.w) X.A (newFunctionEnv scope X.env.globals (IA X.env scope.names []) [] X.env.qual none .none (some X.env)) (λcenv sh=>codeAny (model X.prog X.w) X.A (.compStart (.ListComp elt [⟨tg,A0,ifs,0⟩] scope pos) 0 (.ref it) acc {cenv with scope:=relabel scope X.env}) (RR acc cenv.locals) sh) EE se) EE s:=by
 have hO:=nR I O E.trk;refine aBu ?_;have hfr:H s.heap.objs.size=none:=I.hok.fresh (aAh _);have hkl:X.K.lookup s.heap.objs.size=none:=by
  cases e:X.K.lookup s.heap.objs.size with
  |none=>rfl
  |some o=>exact absurd (aAf<|I.kIn _ o e) (aBc _)
 have I1:Inv X pins σ (upd H s.heap.objs.size<|.lst []) {s with heap:=s.heap.push {cls:=.type "list",dict:=none,data:=.seq ([]:List Value).toArray}}:=
  I.laid (t':=s.toks) (λb u e=>aAc _ e) (aAh _) ⟨aAY _,[],0,.nil,aAp _ rfl⟩
 generalize de:s.heap.objs.size=acc at*
 generalize ya:({s with heap:=s.heap.push {cls:=.type "list",dict:=none,data:=.seq ([]:List Value).toArray}}:Shared)=s1 at I1⊢;have sz1:s1.heap.objs.size=acc+1:=by rw[<-ya,<-de];exact aBw _ _
 have keep1:∀b o,s.heap.get? b=some o->s1.heap.get? b=some o:=λb o e=>by rw[<-ya];exact aAc _ e
 have ur:∀b∈fp,b<acc:=λb hb=>by obtain⟨o,e,_⟩:=T.obj 0 _ st b hb;rw[<-de];exact aAf e
 have hfp1:∀b∈fp,mE X pins (upd H acc<|.lst []) b:=λb hb=>by obtain⟨f0,f⟩:=uo b hb;exact⟨by rw[j8 (aAl<|ur b hb)];exact f0,f⟩
 refine FU ?_;obtain⟨h₁,e8⟩:∃h₁,pushCells (s1.heap.push {cls:=.type "dict",data:=.dict #[]}) scope.names=h₁:=⟨_,rfl⟩;rw[e8];have keep2:∀b o,s1.heap.get? b=some o->h₁.get? b=some o:=λb o e=>by rw[<-e8];exact aEy _ _ _ _ (aAc _ e)
 have IB:=EO (tk:=s1.toks) I1 S hfp1 (λb hb=>by rw[sz1];exact aBx (ur b hb)) e8.symm;generalize hC:s1.heap.objs.size=C at*
 obtain⟨hG',hT',hE'⟩:=hX _ ⟨s1,upd H acc (.lst []),C,rfl⟩;generalize om:HB X pins s1 (upd H acc<|.lst []) (own++fr) scope (cF X scope C) C fp=X' at IB hG' hT' hE';have eP:X'.prog=X.prog:=by rw[<-om];rfl
 have eW:X'.w=X.w:=by rw[<-om];rfl
 have eK:X'.K=X.K:=by rw[<-om];rfl
 have eA:X'.A=X.A:=by rw[<-om];rfl
 have eC:X'.calm=true:=by rw[<-om];exact hc
 have eX:X'.xe=λ_ _=>False:=by rw[<-om];rfl
 have eE:X'.env=compEnvC scope (cF X scope C) C X.env:=by rw[<-om];rfl
 have eX0:X'.ex=fp:=by rw[<-om];rfl
 have ePn:X'.pn=X.pn++pins:=by rw[<-om];rfl
 have eFs:X'.fs=xD X.stack:=by rw[<-om];rfl
 have eS0:X'.s9=s1:=by rw[<-om];rfl
 have eH0:X'.H9=upd H acc (.lst []):=by rw[<-om];rfl
 have eL:X'.env.locals=C:=by rw[eE];rfl
 have eCe:X'.env.cells=cF X scope C:=by rw[eE];rfl
 have I2of:=IB;have cell_ne:∀b∈fp,∀x c,X'.env.cells.lookup x=some c->c≠b:=λb hb x c h=>(I2of.ok.exf b (by rw[eX0];exact hb)).2 x c h;have accC:acc≠C:=by rw[sz1];exact aAl (aDD _)
 have fpC:∀b∈fp,b≠C:=λb hb=>by have h1:=ur b hb;rw[sz1];exact aAl (aBx h1)
 have fpB:∀{H':Hp},(∀b∈fp,H' b=none)->∀b∈fp,mE X' [] H' b:=λ{H'} hn b hb=>by
  obtain⟨f0,f1,f2,f3,f4,f5⟩:=uo b hb;refine⟨hn b hb,by rw[eL];exact fpC b hb,?_,.inl (by rw[eX0];exact hb),λx c h=>cell_ne b hb x c h,λp hp=>f5 p (by rw[ePn,aCv]at hp;exact hp)⟩;rw[eFs];intro z;rcases aAd.mp (I.ab2 b z)with e|z
  ·exact f1 e
  ·exact f2 z
 have mR:tn 0 h₁:=T.keep 0 s.heap h₁ st λb hb o e=>keep2 b o (keep1 b o e)
 let Iv:Nat->Shared->Prop:=λn s'=>∃i ah Hx vs rd,n=ds.length-i/\i<=ds.length/\Inv X' [] ah (upd Hx acc<|.lst vs) s'/\Hx acc=none/\tn i s'.heap/\(∀b∈fp,Hx b=none)/\EnvOk X.K H9 O0 Hx O ah (f6 own js ρ)/\Same H Hx/\
  Reps X.K Hx O vs rd/\(∃rest,t9 G ft fe (f6 own js ρ) (ds.drop i)=.ok rest/\rs=rd++rest)/\vs.length<=i
 have loop:codeAny (model X.prog X.w) X.A (.compLoop (.ListComp elt [⟨tg,A0,ifs,0⟩] scope pos) 0 (.ref it) (.ref acc) (compEnvC scope (cF X scope C) C X.env)) (RR (.ref acc) C) {s1 with heap:=h₁}:=by
  refine GF Iv ?_ ds.length ⟨0,_,H,[],[],by simp,aAY _,IB,hfr,mR,λb hb=>(uo b hb).1,ER E,Same.refl H,.nil,⟨rs,by rw[aFV];exact hrs,rfl⟩,aAY _⟩;rintro n s2 ⟨i,ue,Hx,vs,rd,rfl,hi,I2,xf,jr,fx2,E2,yb,r2,⟨rest,af,uu⟩,hvl⟩;have fr2:∀b∈fp,(upd Hx acc<|.lst vs) b=none:=λb hb=>by rw[j8 (aAl<|ur b hb)];exact fx2 b hb
  have sU:=j5 xf (.lst vs);have hit:=hJ (upd Hx acc<|.lst vs) (λb=>O b\/b=acc) (λb o q n=>⟨sU b o (yb b o q),λz=>z.elim n λz=>by subst z;rw[hfr]at q;cases q⟩) (λa o q z=>z.elim (hO a o q) λz=>by subst z;rw[hkl]at q;cases q) E.trk
   (λa z=>(E2.ad6 (vs:=vs) xf hkl).trk a z) i
  by_cases ai:i<ds.length
  ·obtain⟨go,yl⟩:=hit.1 ds[i] (aAg ai);rw[aDz ai,t9]at af;have mh:=T.item X' eP eW eK eC i [] s2 ue _ (λ_ _=>False) I2 (fpB fr2) jr go;rw[eA]at mh;refine C1 mh λr s3 ⟨u,hr,h3⟩=>?_;subst hr;refine C1 h3 λ_ s4 ⟨x,H4,I4,ru,y4,st4,fr4⟩=>?_;obtain⟨xg,rep4⟩:=yl x H4 y4;cases e1:G ds[i] (f6 own js ρ)with
   |ex z=>rw[e1]at af;cases af
   |bad=>rw[e1]at af;cases af
   |ok ρ1=>
    rw[e1]at af;dsimp only at af;have EB:EnvOk X.K H9 O0 H4 (λb=>O b\/b=acc) ue (f6 own js ρ):=(E2.ad6 xf hkl).grow xg;have I4':=I4.pinned (fpB fr4) (T.obj _ _ st4);have again:∀{s7:Shared} {ng:St} {H7:Hp} {vs7:List V} {rd7:List D} {rest7:List D},Inv X' ([]++pD fp s4.heap) ng H7 s7->H7 acc=some (.lst vs7)->EnvOk X.K H9 O0 (R7 H7 acc) O ng (f6 own js ρ)->Same H (R7 H7 acc)->Reps X.K (R7 H7 acc) O vs7 rd7->
      t9 G ft fe (f6 own js ρ) (ds.drop<|i+1)=.ok rest7->rs=rd7++rest7->vs7.length<=i+1->∃m,m<ds.length-i/\Iv m s7:=λ{s7 ng H7 vs7 rd7 rest7} I7 h7 E7 sm7 r7 hr7 hrs7 hv7=>by
     refine⟨ds.length-(i+1),by omega,i+1,ng,R7 H7 acc,vs7,rd7,rfl,ai,?_,BC _ _,T.keep _ _ _ st4 λb hb o e=>(I7.pin (b,o)<|aAD _<|aAD _<|bC hb e).1,λb hb=>?_,E7,sm7,r7,⟨rest7,hr7,hrs7⟩,hv7⟩
     ·rw[HK h7];exact I7.ab1
     ·rw[U7 (aAl<|ur b hb)];obtain⟨o,e,d⟩:=T.obj _ _ st4 b hb;exact(I7.pin (b,o)<|aAD _<|aAD _<|bC hb e).2.1
    have hasg:=hG' _ s4 ue H4 x u (λσ5 H5=>Same H4 H5/\EnvOk X.K H9 O0 H5 (λb=>O b\/b=acc) σ5 ρ1) I4' ru ⟨H9,O0,_,_,ds[i],ρ1,by rw[eK];exact EB,by rw[eK];exact rep4,e1,λσ5 H5 s5 E5=>⟨s5,by rw[eK]at E5;exact E5⟩⟩;rw[eP,eW,eA,eE,eX]at hasg;refine C1 hasg λ_ s5 ⟨σ5,H5,I5,sm5,E5⟩=>?_;have zf:H5 acc=some (.lst vs):=sm5 acc _ (xg acc _ j3);cases e2:ft ρ1 with
    |ex z=>rw[e2]at af;cases af
    |bad=>rw[e2]at af;cases af
    |ok b=>
     rw[e2,R.aa0]at af;have htst:=hT' _ s5 σ5 H5 (λc H6=>c=b/\Same H5 H6) I5 ⟨H9,O0,_,ρ1,by rw[eK];exact E5,by rw[e2];exactλH6 s6=>⟨rfl,s6⟩⟩;rw[eP,eW,eA,eE,eX]at htst;refine C1 htst λok s6 ⟨H6,I6,hb,sm6⟩=>?_;subst hb;have sm46:Same (upd Hx acc<|.lst vs) H6:=xg.trans (sm5.trans sm6);have zg:H6 acc=some (.lst vs):=sm6 acc _ zf;have smx6:Same Hx (R7 H6 acc):=U0 xf sm46;have W1:pW ρ1 (f6 own js ρ):=hG _ _ e1;have Eb:∀{H7:Hp},Same H5 H7->EnvOk X.K H9 O0 (R7 H7 acc) O σ5 (f6 own js ρ):=λ{H7} s7=>by
      have E7:=(E5.grow s7).weak W1;have h7:H7 acc=some (.lst vs):=s7 acc _ zf;refine⟨E7.len,E2.same.trans (U0 xf<|xg.trans<|sm5.trans s7),E2.sub,λa z=>?_,E2.trk0,E2.tab.same (U0 xf<|xg.trans<|sm5.trans s7),λj sl e=>?_,E7.inj⟩
      ·obtain⟨o,q,mt⟩:=E2.trk a z;exact⟨o,U0 xf (xg.trans<|sm5.trans s7) a o q,mt⟩
      ·rcases bJ e with rfl|⟨d,_,rfl,_⟩
       ·trivial
       ·obtain⟨v,h1,h2⟩:=E7.val j d e;exact⟨v,h1,Rep.hidden h7 h2⟩
     cases ok with
     |false=>rw[if_neg aAQ]at af⊢;exact again I6 zg (Eb sm6) (yb.trans smx6) (r2.same smx6) af uu (Nat.le_succ_of_le hvl)
     |true=>
      rw[if_pos rfl]at af⊢;cases e3:fe ρ1 with
      |ex z=>rw[e3]at af;cases af
      |bad=>rw[e3]at af;cases af
      |ok dv=>
       rw[e3,R.aa0]at af;cases e4:t9 G ft fe (f6 own js ρ) (ds.drop<|i+1)with
       |ex z=>rw[e4]at af;cases af
       |bad=>rw[e4]at af;cases af
       |ok rest'=>
        rw[e4,R.aa0]at af;have oo:dv::rest'=rest:=R.ok.inj af;have helt:=hE' _ s6 σ5 H6 (λv H7=>Same H6 H7/\Rep X.K H7 (λb=>O b\/b=acc) v dv) I6 ⟨H9,O0,_,ρ1,by rw[eK];exact E5.grow sm6,by rw[e3,RC];exactλv H7 s7 r7=>⟨s7,by rw[eK]at r7;exact r7⟩⟩;rw[eP,eW,eA,eE,eX]at helt;refine C1 helt λuv s7 ⟨v,H7,I7,ruv,sm7,r7⟩=>?_;have zh:H7 acc=some (.lst vs):=sm7 acc _ zg;have happ:=qR (X:=X') _ s7 σ5 H7 (.ref acc) [v] (.ref acc) [uv] (λ_ H8=>H8=upd H7 acc (.lst (vs++[v]))) I7 rfl (.cons ruv .nil) ⟨acc,vs,v,rfl,rfl,zh,by omega,rfl⟩;rw[eP,eW,eA,eX]at happ;refine C1 happ λ_ s8 ⟨_,H8,I8,_,h8⟩=>?_;subst h8;have hh:R7 (upd H7 acc<|.lst (vs++[v])) acc=R7 H7 acc:=by
         funext b
         unfold R7 upd;by_cases hb:b=acc
         ·rw[if_pos hb,if_pos hb]
         ·rw[if_neg hb,if_neg hb,if_neg hb]
        have smx7:Same Hx (R7 H7 acc):=U0 xf (sm46.trans sm7);refine again (vs7:=vs++[v]) (rd7:=rd++[dv]) (rest7:=rest') I8 j3 (by rw[hh];exact Eb (sm6.trans sm7)) (by rw[hh];exact yb.trans smx7) ?_ e4 (by rw[uu,<-oo,aFi];rfl) (by rw[aAE];exact Nat.succ_le_succ hvl);rw[hh];exact(r2.same smx7).snoc (Rep.hidden zh r7)
  ·have eh:i=ds.length:=by omega
   subst eh;have hstop:=hit.2 (by simp);have mh:=T.done X' eP eW eK eC ds.length [] s2 ue _ (λ_ _=>False) I2 (fpB fr2) jr hstop;rw[eA]at mh;refine C1 mh λr s3 ⟨hr,I3⟩=>?_;subst hr;rw[List.drop_length,t9]at af;have oo:([]:List D)=rest:=R.ok.inj af;rw[<-oo,aCv]at uu;obtain⟨m,hm,_⟩:=id I3.loc;rw[eL]at hm;have hfin:Same H (upd Hx acc<|.lst vs):=yb.trans sU;refine fin acc C s3 (upd Hx acc<|.lst vs) m hm (aBV accC) (by omega) (aAh _) hfin ?_ ⟨Hx,vs,yb,xf,rfl,by rw[uu];exact r2⟩ (by rw[<-eL];exact I3.free) (λh' jd=>?_)
   ·rw[uu];exact .lst (K0.of j3) (E2.fresh xf) (r2.same sU)
   ·have hU:Un (xD X.stack) fp (upd H acc<|.lst []) (upd Hx acc<|.lst vs) s1.heap s3.heap:=by have:=I3.base;rw[eFs,eX0,eH0,eS0]at this;exact this
    have hCn:∀b o,s1.heap.get? b=some o->b≠C:=λb o e=>by have:=aAf e;rw[hC]at this;exact aAl this
    have hU':Un (xD X.stack) fp (upd H acc<|.lst []) (upd Hx acc<|.lst vs) s1.heap h':=⟨λb o e n hb hx=>(jd.2 b (hCn b o e)).trans (hU.keep b o e n hb hx),λb o e n hb hx=>by
      obtain⟨sl,q⟩:=hU.slot b o e n hb hx;exact⟨sl,(jd.2 b (hCn b o e)).trans q⟩,hU.free,λb o e hx=>by
      obtain⟨o',q⟩:=hU.there b o e hx;exact⟨o',(jd.2 b (hCn b o e)).trans q⟩,hU.tups,hU.frzs,hU.tbls⟩
    have hCf:upd Hx acc (.lst vs) C=none:=by rw[<-eL];exact I3.free
    have yc:fF X.prog X.w (upd Hx acc<|.lst vs) h':=λb u e=>by
     have hb:b≠C:=by rintro rfl;rw[hCf]at e;cases e
     have:=I3.hok b u e;rw[eP,eW]at this;refine this.ab7 (λc v hc q=>(jd.2 c ?_).trans q) (λ_ q=>q) λ_ _ _ q=>q;rcases hc with z|z
     ·rw[z];exact hb
     ·rintro rfl;rw[hCf]at z;cases z
    have hos:s3.os=s1.os:=by have:=I3.os;rw[eS0]at this;exact this
    exact I1.af8 (s':={s3 with heap:=h'}) (ch:=fp) hos hU' yc I3.bare λb hb=>by obtain⟨f0,f1,f2,f3,f4,f5⟩:=uo b hb;exact⟨f3,f1,f4,f5⟩
 exact codeAny_compStart_list loop (T.self _ 0 _ _ _ mR loop)
def G7 (own fr:List Str)(js:List Nat)(hc:X.calm=true)(S:CompSc X scope own fr js)(hi:SR X tg A0 fi)(hX:∀(pins:M2) (fp:List Addr) (X':Cx),(∃s9 Ha C,X'=HB X pins s9 Ha (own++fr) scope (cF X scope C) C fp)->IE X' tg G/\TD X' ifs ft/\PD X' elt fe)(hG:∀ρ d ρ1,G d (f6 own js ρ)=.ok ρ1->pW ρ1 (f6 own js ρ))(hs:∀x,foldedSetIterable A0 X.env x=pure x:=by intro _;rfl):
  PD X (.ListComp elt [⟨tg,A0,ifs,0⟩] scope pos) (λρ=>(fi ρ).bind λds=>if ds.length<=sizeLine then(t9 G ft fe (f6 own js ρ) ds).bind λrs=>.ok (.lst rs)else .bad):=by
 refine xN λpins s σ H Q I H9 O0 O ρ E q=>?_;dsimp only at q;rw[eval_ListComp];refine aDJ (use:=none) rfl hs (Y4<|Inv.aa9 I S) S.kind S.names ?_;refine C1 (hi pins s σ H (λJ H1=>∃ds rs,Same H H1/\SU X.K J H1 O ds/\ds.length<=sizeLine/\t9 G ft fe (f6 own js ρ) ds=.ok rs/\∀v H',Same H H'->Rep X.K H' O v (.lst rs)->Q v H') I ⟨H9,O0,O,ρ,E,nR I O E.trk,?_⟩) λv s1 h1=>C1 h1 λitv s2 h2=>?_
 ·cases e1:fi ρ with
  |ex x=>rw[e1]at q;exact q
  |bad=>rw[e1]at q;exact q
  |ok ds=>
   rw[e1,R.aa0]at q;intro J H1 s1 hJ;split at q
   ·rename_i hl;cases e2:t9 G ft fe (f6 own js ρ) ds with
    |ex x=>rw[e2]at q;exact(q H<|Same.refl _).elim
    |bad=>rw[e2]at q;exact q.elim
    |ok rs=>rw[e2]at q;exact⟨ds,rs,s1,hJ,hl,e2,q⟩
   ·exact q.elim
 ·obtain⟨it,fp,tn,J,H2,e,I2,T,jr,f2,ds,rs,sm,hJ,hl,hrs,q⟩:=h2;subst e;refine pA (RR:=λacc C=>compPost (model X.prog X.w) X.A X.xe none (EP X pins σ Q) acc C) hc S (hX pins fp) (hG ρ) I2 T jr f2 (E.grow sm) hJ hrs hl ?_;intro acc C s' H' m hn _ _ _ sm' r _ _ hI;exact⟨m,hn,λh' jd=>⟨.ref acc,H',hI h' jd,rfl,q _ H' (sm.trans sm') r⟩⟩
def gN (i:Nat)(own fr:List Str)(js:List Nat)(hN:X.N.Nodup)(hc:X.calm=true)(S:CompSc X scope own fr js)(hi:SR X tg A0 fi)(hX:∀(pins:M2) (fp:List Addr) (X':Cx),(∃s9 Ha C,X'=HB X pins s9 Ha (own++fr) scope (cF X scope C) C fp)->IE X' tg G/\TD X' ifs ft/\PD X' elt fe)(hG:∀ρ d ρ1,G d (f6 own js ρ)=.ok ρ1->pW ρ1 (f6 own js ρ))(hy:X.N[i]?=some y:=by rfl)(hyl:X.env.scope.names.lookup y=some .local:=by rfl)(va:swapsWith (.ListComp elt [⟨tg,A0,ifs,0⟩] scope pos) (some (.Name y py)) spos.line X.env=pure true:=by rfl)(hs:∀x,foldedSetIterable A0 X.env x=pure x:=by intro _;rfl):
  mS X (.Assign [.Name y py] (.ListComp elt [⟨tg,A0,ifs,0⟩] scope pos) spos) (λρ=>((fi ρ).bind λds=>if ds.length<=sizeLine then(t9 G ft fe (f6 own js ρ) ds).bind λrs=>.ok (D.lst rs)else .bad).bind λd=>.ok (.nx (ρ.set i (.v d)))):=by
 intro H9 O0 pins s σ H D I ⟨O,ρ,E,fk,q⟩;dsimp only at q;rw[exec_Assign_Name_used _ _ _ _ va];refine aAa (aDM<|aAa ?_);show wpAny _ X.A (do let _<-comprehension (.ListComp elt [⟨tg,A0,ifs,0⟩] scope pos) scope X.env _ (newList []) false (eval A0 X.env) (some<|assign (.Name y py) X.env)) _ _ s;refine aAa (aCj (aDJ (use:=some (assign (.Name y py) X.env)) (Q:=λ_ s'=>SP X pins D .next s') rfl hs (Y4<|Inv.aa9 I S) S.kind S.names ?_) (λ_ s' hq=>aAb (aAb hq)) λ_ _ e=>e);refine C1 (hi pins s σ H (λJ H1=>∃ds rs,Same H H1/\SU X.K J H1 O ds/\ds.length<=sizeLine/\t9 G ft fe (f6 own js ρ) ds=.ok rs/\RS X H9 O0 H O (.ok (.nx (ρ.set i<|.v (.lst rs)))) D) I ⟨H9,O0,O,ρ,E,nR I O E.trk,?_⟩) λv s1 h1=>C1 h1 λitv s2 h2=>?_
 ·cases e1:fi ρ with
  |ex x=>rw[e1]at q;exactλH' s=>q H' (E.same.trans s)
  |bad=>rw[e1]at q;exact q
  |ok ds=>
   rw[e1,R.aa0]at q;intro J H1 s1 hJ;split at q
   ·rename_i hl;cases e2:t9 G ft fe (f6 own js ρ) ds with
    |ex x=>rw[e2]at q;exact(q H E.same).elim
    |bad=>rw[e2]at q;exact q.elim
    |ok rs=>rw[e2]at q;exact⟨ds,rs,s1,hJ,hl,e2,q⟩
   ·exact q.elim
 ·obtain⟨it,fp,tn,J,H2,e,I2,T,jr,f2,ds,rs,sm,hJ,hl,hrs,q⟩:=h2;subst e;refine pA (RR:=λacc C=>compPost (model X.prog X.w) X.A X.xe (some<|assign (.Name y py) X.env) (λ_ s'=>SP X pins D .next s') acc C) hc S (hX pins fp) (hG ρ) I2 T jr f2 (E.grow sm) hJ hrs hl ?_;intro acc C s' H' m hn hCa yd has sm' r _ hC hI;have I3:=hI s'.heap (aFh ..);show wpAny _ X.A (assign (.Name y py) X.env<|.ref acc) _ _ s';refine aFd (iX (i:=i) (v:=.ref acc) I3 hN hy (.inl hyl) rfl (λs4 I4 ⟨a,hsb,ha⟩=>?_)<|.inr hyl);have dh:∀x c,X.env.cells.lookup x=some c->c≠C:=λx c hc=>by obtain⟨v,hv⟩:=I2.cell x c hc;exact aAl (aAr hv.lt yd)
  have hCL:C≠X.env.locals:=aCD (aAr I2.lt yd);have hCa2:C≠a:=by
   rcases ha with ha|ha
   ·rw[ha];exact hCL
   ·exact aBV (dh y a ha)
  refine⟨m,hn.sameBut hsb hCa2,λh' jd=>?_⟩;refine⟨_,H',?_,q _ H' O (((E.grow sm).grow sm').set i r) (nR I O E.trk) (Kp.of<|sm.trans sm')⟩;exact I4.turned (t':=s4.toks) (it:=C) (λb o hb e=>(jd.2 b hb).trans e) hC hCL (.inr (aAs I2.sz yd)) dh λp hp=>aAl (aAr (aAf (I2.pin p hp).1) yd)
end
omit [Tabs]in
def yJ {ns:List Int}(h:PySem.W.WData.layableAll [PySem.W.WData.list (ns.map PySem.W.WData.int)]=true):∀x∈ns,aAR x<=1048576:=λx hx=>by
 have h1:=(PySem.W.layW_cons h).1;have h2:=PySem.W.layableW_item h1 (.int x) (aAo.mpr ⟨x,hx,rfl⟩);have h3:=PySem.W.lay0_int h2;have h4:PyData.layable0 (.int x)=true:=by simpa[PyData.layableAll0]using h3
 exact PyData.bits_of_layable h4
def u3 (P:Program)(w:World)(K:PySem.W.Frag)(mg:bX)(base:Heap)(k:Nat)(x:Str)(n:Nat)(m:List D->R D):Prop:=
 ∃g gd ps,FnOk P w K mg base uI k g gd ps (YK K n m)/\Binds K gd ps []/\PySem.W.keepIn K (.ref g)=true/\mg x=some (.ref g)
def HR (f:Ev->R (List D))(n:Nat):Prop:=∀ρ ds,f ρ=.ok ds->ds.length=n
def Y6:HR Q5 0:=λρ ds h=>by cases h;rfl
def z7 (h:HR g n):HR (o8 f g) (n+1):=λρ ds e=>by
 unfold o8 at e;cases e1:f ρ with
 |ok d=>
  rw[e1,R.aa0]at e;cases e2:g ρ with
  |ok bf=>rw[e2]at e;cases e;rw[aAw,h ρ bf e2]
  |ex x=>rw[e2]at e;cases e
  |bad=>rw[e2]at e;cases e
 |ex x=>rw[e1]at e;cases e
 |bad=>rw[e1]at e;cases e
section
def tH (c:u3 X.prog X.w X.K X.mg X.base k x n m)(hr:Room k X.A)(ha:HZ X (e::es) f)(hl:HR f n)(hg:Gl X x:=by rfl)(gv:(x==("__debug__":Str))=false:=by decide)(he:starEach (e::es) X.env=(false,eval e X.env)::starEach es X.env:=by rfl)(bh:(backTo pos (starEach es X.env)).any (·.1)=false:=by rfl):
  PD X (.Call (.Name x p) (e::es) [] pos) (λρ=>(f ρ).bind m):=by
 obtain⟨g,gd,ps,F,b,kp,em⟩:=c;exact QZ F hr em kp b ha hl hg gv he bh
end
def XA {P:Program}{w:World}{K:PySem.W.Frag}{mg:bX}{base:Heap}{x qual:Str}{st:Stmt}{f:Addr}{fd:FuncData}{N ps:List Str}{k:Nat}{m:List D->R D}{F:Ev->R Out}(F0:Fun K x qual st f fd)(S:FnScope N ps (c6 st))(hb0:Binds K fd ps [])(mi:mg x=some (.ref f))
  (hb:∀(cdv:Value) (A:Around) (outer:List Env) (s:Shared) (H:Hp) (E:XK),Room k (A.deeper (envOfC qual (c6 st) s.heap.objs.size f cdv))->bG (OY P w K mg base N qual (c6 st) f cdv A outer s H E) (t5 st) F)
  (hm:∀ds d,ds.length=ps.length->m ds=.ok d->P8 (F (j2 N ds))=.ok d):u3 P w K mg base (k+1) x ps.length m:=
 ⟨f,fd,ps,yz F0 S hb hm,hb0,F0.kp,mi⟩
def o9:∀d ρ1,(R.ok ((f6 [x] js ρ).set 0 (Sl.v d)):R Ev)=.ok ρ1->pW ρ1 (f6 [x] js ρ):=λd ρ1 h=>by
 cases h;refine⟨by simp,λi sl h hn=>?_⟩;cases i with
 |zero=>exact absurd (by simpa[f6]using h.symm) hn
 |succ i=>rw[aCo (by lia)];exact h
def AT (sc:Scope)(N:List Str)(scope:Scope)(fr:List Str)(js:List Nat):Bool:=
 decide (scope.kind=.function)&&scope.names.all (λy=>decide (y.2=.free->(y.1,aBO)∉scope.names))&&scope.names.all (λy=>decide (y.2=.local->scope.names.lookup y.1=some .local))&&
 scope.names.all (λy=>decide (y.2=.free->sc.names.lookup y.1=some .cell\/sc.names.lookup y.1=some .free))&&decide (js.length=fr.length)&&(js.zip fr).all (λp=>decide (N[p.1]?=some p.2/\(p.2,NameKind.free)∈scope.names))&&decide js.Nodup&&
 scope.names.all (λy=>decide (y.2=.free->scope.names.lookup y.1=some .free))
def D4 (hs:X.env.scope=sc:=by rfl)(hN:X.N=N:=by rfl)(h:AT sc N scope fr js=true:=by decide+kernel):CompSc X scope own fr js:=by simp only[AT,aAM,aBU,decide_eq_true_eq]at h;obtain⟨⟨⟨⟨⟨⟨⟨h1,h2⟩,h3⟩,h4⟩,h5⟩,h6⟩,h7⟩,h8⟩:=h;subst hs hN;refine⟨h1,h2,h3,h4,h5,λi j x e1 e2=>?_,h7,h8⟩;refine h6 (j,x) (aAv (i:=i) ?_);rw[aBy];exact⟨e1,e2⟩
def QH (h:AT X.env.scope X.N scope fr js=true:=by first|kernel_rfl|with_unfolding_all rfl):CompSc X scope own fr js:=D4 rfl rfl h
def zR (σ:List (Nat×D))(h:∀p∈σ,p.1<xs.length):pW (σ.foldl (λr p=>r.set p.1 (Sl.v p.2)) (f6 xs js ρ)) (f6 xs js ρ):=by
 have key:∀(σ:List (Nat×D)) (r:Ev),(∀p∈σ,p.1<xs.length)->r.length=(f6 xs js ρ).length->(∀i,xs.length<=i->r[i]?=(f6 xs js ρ)[i]?)->
   (σ.foldl (λr p=>r.set p.1 (Sl.v p.2)) r).length=(f6 xs js ρ).length/\∀i,xs.length<=i->(σ.foldl (λr p=>r.set p.1 (Sl.v p.2)) r)[i]?=(f6 xs js ρ)[i]?:=by
  intro σ;induction σ with
  |nil=>intro r _ h1 h2;exact⟨h1,h2⟩
  |cons p σ ih=>intro r hp h1 h2;refine ih _ (λq hq=>hp q (aAe _ hq)) (by rw[aFH];exact h1) λi hi=>?_;have:=hp p aAP;rw[aCo (by lia)];exact h2 i hi
 obtain⟨h1,h2⟩:=key σ _ h rfl λ_ _=>rfl;refine⟨h1,λi sl e hn=>?_⟩;by_cases hi:i<xs.length
 ·have:sl=.no:=by
   rcases bJ e with z|⟨d,j,_,hle,_⟩
   ·exact z
   ·lia
  exact absurd this hn
 ·rw[h2 i (by lia)];exact e
def BW:∀d ρ1,eS 3 (L6 (λd ρ=>.ok (ρ.set 0 (.v d))) (L6 (λd ρ=>.ok (ρ.set 1 (.v d))) (L6 (λd ρ=>.ok (ρ.set 2 (.v d))) lC))) d (f6 [x,y,z] js ρ)=.ok ρ1->pW ρ1 (f6 [x,y,z] js ρ):=λd ρ1 h=>by
 have go:∀ds:List D,ds.length=3->L6 (λd ρ=>.ok (ρ.set 0<|.v d)) (L6 (λd ρ=>.ok (ρ.set 1<|.v d))<|L6 (λd ρ=>.ok (ρ.set 2<|.v d)) lC) ds (f6 [x,y,z] js ρ)=.ok ρ1->pW ρ1 (f6 [x,y,z] js ρ)
  |[a,b,c],_,h=>by cases h;exact zR (xs:=[x,y,z]) [(0,a),(1,b),(2,c)] (by simp)
 unfold eS at h;split at h
 ·split at h
  ·exact go _ ‹_› h
  ·cases h
 ·split at h
  ·exact go _ ‹_› h
  ·cases h
 ·cases h
end DL
namespace DL.Att2
open PySem PySem.W PySem.Calls PyProof.Rows
def attach_bits {l:OpenLaw}{n:Nat}{q:Program}{loose:List Str}{XP:(Str->Option Value)->Heap->Prop}{YP:World->Heap->Prop}{d:DefRec}
  (hn:l.most=some n) (hdf:d.params.defaults=[])
  (call:∀(w:World) (s9 aa:Shared) (mg mb:bX) (fa:Addr) (o:Obj) (pm cd doc:Value) (a:Addr) (vs:List Value) (ns:List Int),
   Ground q loose [] XP w s9 mg mb aa.heap->YP w aa.heap->
   aa.heap.get? fa=some o->o.data=.func (docDef d.name d.params d.body d.scope pm cd doc)->aa.heap.CodeRec cd d.name->mg d.name=some (.ref fa)->
   aa.heap.get? a=some {cls:=.type "list",data:=.seq vs.toArray}->IntsAre vs ns->ns.length<=n->(∀x∈ns,aAR x<=1048576)->aa.gens=#[]->
   codeAny (model l.prog w) callerA (.call (.ref fa) ⟨[.ref a],[]⟩) (λr s'=>r=.ok (.ret (.bool true))/\OldK aa.heap s'.heap/\s'.os=aa.os/\AllBare s'.gens) aa):
  WalkO q loose XP YP l.row.toRowW d [] (λf vs=>PySem.call f vs):=by
 intro w s9 aa mg mb G Y fa o pm cd doc dV kV ho hd fb hD mi hg args vals as xu hlay hrd nh hlo;obtain rfl:dV=.none:=Dflts.none hD hdf;obtain rfl:kV=.none:=Dflts.noKw hD;obtain⟨a,vs,ns,rfl,rfl,hobj,hints,hlen⟩:=Att.script_of hn xu nh;have hb:=DL.yJ (ns:=ns) (by first|exact hlay|exact hlay.1|(simpa using hlay));refine enter_call (aDG (call w s9 aa mg mb fa o pm cd doc a vs ns G Y ho (fd_plain hd) fb mi hobj hints hlen hb hg) λr s' hq=>?_);obtain⟨rfl,h2,h3,h4⟩:=hq;exact⟨.inl ⟨.bool true,.bool true,[],rfl,λ_=>rfl,.bool true,Att.post_true l _,λ_=>⟨aGk,λ_ hm=>(nomatch hm)⟩⟩,h2,h3,h4⟩
end DL.Att2
namespace DL
open PySem PySem.Spec L2
open PyProof.Rows hiding St
variable [Tabs]
end DL
namespace DL
open PySem L2
abbrev bits (a:Int):Nat:=aAR a
def f7 (h:k5 a b):J9 (.int a) (.int b)=.ok (.int (a*b)):=if_pos h
def aD (h:wM b):G3 (.int a) (.int b)=.ok (.int (a.fdiv b)):=if_pos h
def wT (h:b≠0):N4 (.int a) (.int b)=.ok (.int (a.fmod b)):=if_pos h
def yF (h:0<=b/\b<=1000000/\a.natAbs<2^64):GY (.int a) (.int b)=.ok (.int (a^b.toNat)):=if_pos h
def k5.of (h1:bits a<=m)(h2:bits b<=n)(hm:m<=60000000:=by decide)(hn:n<=60000000:=by decide):k5 a b:=⟨aAs h1 hm,aAs h2 hn⟩
def bits_add (h1:bits a<=n)(h2:bits b<=n):bits (a+b)<=n+1:=by have:=PyProof.Rows.bits_add h1 h2;rw[Nat.max_self]at this;exact this
def bits_sub (h1:bits a<=n)(h2:bits b<=n):bits (a-b)<=n+1:=by have:=PyProof.Rows.bits_sub h1 h2;rw[Nat.max_self]at this;exact this
def bits_mul (h1:bits a<=m)(h2:bits b<=n):bits (a*b)<=m+n:=PyProof.Rows.bits_mul h1 h2
def bits_neg (h1:bits a<=m):bits (-a)<=m:=PyProof.Rows.bits_neg h1
def DE (h:a.natAbs<2^n):bits a<=n:=PyProof.Rows.intBits_le h
def DU (h:bits a<=n):a.natAbs<2^n:=PyProof.Rows.lt_pow_of_bits h (aAh n)
@[simp]def fB (d:D)(ρ:Ev):V6 0 (Sl.v d::ρ)=.ok d:=rfl
@[simp]def kU (i:Nat)(x:Sl)(ρ:Ev):V6 (i+1) (x::ρ)=V6 i ρ:=rfl
@[simp]def NH (d:D)(ρ:Ev):pM 0 (Sl.v d::ρ)=.ok d:=rfl
@[simp]def zT (d:List D)(ρ:Ev):pM 0 (Sl.o d::ρ)=.ok (.lst d):=rfl
@[simp]def qL (i:Nat)(x:Sl)(ρ:Ev):pM (i+1) (x::ρ)=pM i ρ:=rfl
@[simp]def BH (d:D)(ρ:Ev):TH d ρ=.ok d:=rfl
@[simp]def A8 (ρ:Ev)(F:Ev->R Out):D5 (.ok (.nx ρ)) F=F ρ:=rfl
@[simp]def ZM (d:D)(F:Ev->R Out):D5 (.ok (.rt d)) F=.ok (.rt d):=rfl
@[simp]def jx (d:D):P8 (.ok (.rt d))=.ok d:=rfl
@[simp]def iy (ρ:Ev):P8 (.ok (.nx ρ))=.ok .non:=rfl
@[simp]def oA (f:Ev->R D)(g:Ev->R (List D))(ρ:Ev):o8 f g ρ=(f ρ).bind λd=>(g ρ).bind λds=>.ok (d::ds):=rfl
@[simp]def sK (ρ:Ev):Q5 ρ=.ok []:=rfl
@[simp]def a0b (a b:D):bR [a,b]=.ok (.tup [a,b]):=rfl
@[simp]def a0n (a b c:D):bR [a,b,c]=.ok (.tup [a,b,c]):=rfl
@[simp]def a0y (a b c d:D):bR [a,b,c,d]=.ok (.tup [a,b,c,d]):=rfl
@[simp]def a0j:qF []=.ok (.lst []):=rfl
@[simp]def zw (a b c:D):qF [a,b,c]=.ok (.lst [a,b,c]):=rfl
@[simp]def a0f (a b c d:D):qF [a,b,c,d]=.ok (.lst [a,b,c,d]):=rfl
@[simp]def a0k (x y z:D):D2 (.tup [x,y,z]) (.int 0)=.ok x:=rfl
@[simp]def a0g (x y z:D):D2 (.tup [x,y,z]) (.int 1)=.ok y:=rfl
@[simp]def a0v (x y z:D):D2 (.tup [x,y,z]) (.int 2)=.ok z:=rfl
@[simp]def a0i (x y z t:D):D2 (.tup [x,y,z,t]) (.int 0)=.ok x:=rfl
@[simp]def a0m (x y z t:D):D2 (.tup [x,y,z,t]) (.int 1)=.ok y:=rfl
@[simp]def a0e (x y z t:D):D2 (.tup [x,y,z,t]) (.int 2)=.ok z:=rfl
@[simp]def a0r (x y z t:D):D2 (.tup [x,y,z,t]) (.int 3)=.ok t:=rfl
@[simp]def zj (x y:D):D2 (.tup [x,y]) (.int 0)=.ok x:=rfl
@[simp]def a0s (x y:D):D2 (.tup [x,y]) (.int 1)=.ok y:=rfl
def G2 (h:mB xs i=some d):D2 (.lst xs) (.int i)=.ok d:=by simp only[D2,h]
def DA {xs:List D}{i:Int}{d:D}(h:mB xs i=some d):D2 (.tup xs) (.int i)=.ok d:=by simp only[D2,h]
@[simp]def iw (a b:Int):lT (.int a) (.int b)=.ok (.int (a+b)):=rfl
@[simp]def uV (a b:Int):NK (.int a) (.int b)=.ok (.int (a-b)):=rfl
@[simp]def kq (a b:Int):iz (.int a) (.int b)=.ok (.bl (decide (a<b))):=rfl
@[simp]def BV (a b:Int):ZF (.int a) (.int b)=.ok (.bl (decide (a<=b))):=rfl
@[simp]def sN (a b:Int):YJ (.int a) (.int b)=.ok (.bl (decide (b<a))):=rfl
@[simp]def oz (a b:Int):jk (.int a) (.int b)=.ok (.bl (decide (b<=a))):=rfl
@[simp]def mj (a:Int):PC (.int a)=.ok (.int (-a)):=rfl
@[simp]def CK (b:Bool):yR (.bl b)=.ok b:=rfl
@[simp]def a0u (b:Int):ik (.int b)=.ok (some b):=rfl
@[simp]def AO (xs:List D):RA [.lst xs]=.ok (.int xs.length):=rfl
@[simp]def VT (a:Int):dz [.int a]=.ok (.int (if a<0 then-a else a)):=rfl
@[simp]def gy (a b:Int):TC [.int a,.int b]=.ok (.int (if b>a then b else a)):=rfl
@[simp]def ZH (xs:List D):kB [.lst xs]=.ok (.tup xs):=rfl
@[simp]def uC (f g:Ev->R Bool)(ρ:Ev):WI f g ρ=(f ρ).bind λb=>if b=true then g ρ else .ok false:=rfl
@[simp]def qk (f g:Ev->R Bool)(ρ:Ev):orB f g ρ=(f ρ).bind λb=>if b=true then .ok true else g ρ:=rfl
@[simp]def jy (f:Ev->R Bool)(ρ:Ev):ZP f ρ=(f ρ).bind λb=>.ok (!b):=rfl
@[simp]def ny (f g:Ev->R D)(ρ:Ev):orV f g ρ=((f ρ).bind yR).bind λb=>if b=true then .ok (.bl true)else g ρ:=rfl
@[simp]def pz (a b:Int):QJ (.int a) (.int b)=.ok (.bl (a==b)):=by simp only[QJ,E9,v5];rfl
@[simp]def LZ (a b:Int):MK (.int a) (.int b)=.ok (.bl (!(a==b))):=by simp only[MK,E9,v5];rfl
@[simp]def WT (a b c d e f:Int):QJ (.tup [.int a,.int b,.int c]) (.tup [.int d,.int e,.int f])=.ok (.bl (a==d&&(b==e&&c==f))):=by simp[QJ,E9,G0,v5,V9]
@[simp]def kE (a b c d e f:Int):MK (.tup [.int a,.int b,.int c]) (.tup [.int d,.int e,.int f])=.ok (.bl (!(a==d&&(b==e&&c==f)))):=by simp[MK,E9,G0,v5,V9]
@[simp]def YH (a:Int):ZG "int" (.int a)=true:=rfl
@[simp]def WH (a:Int):ZG "bool" (.int a)=false:=rfl
theorem N9 (r:D->D):∀{ds:List D},(∀d∈ds,∃ρ1,G d ρ=.ok ρ1/\fe ρ1=.ok (r d))->t9 G (λ_=>.ok true) fe ρ ds=.ok (ds.map r)
 |[],_=>rfl
 |d::ds,h=>by obtain⟨ρ1,e1,e2⟩:=h d aAP;rw[t9,e1];simp only[R.aa0,if_true,e2,N9 r λd hd=>h d (aAe _ hd),aAu]
def N3 {α:Type}{xs:List α}{k:Int}(h0:0<=k):mB xs k=xs[k.toNat]?:=by
 unfold mB yS;rw[if_pos h0];by_cases h:k<xs.length
 ·rw[if_pos h];rfl
 ·rw[if_neg h,aBE.mpr (by omega)];rfl
def L4 (n:Nat)(xs:List D):Prop:=∀x∈xs,∃i,x=.int i/\bits i<=n
def OP {n:Nat}{ns:List Int}(h:∀x∈ns,bits x<=n):L4 n (ns.map D.int):=λx hx=>by obtain⟨i,hi,rfl⟩:=aAo.mp hx;exact⟨i,rfl,h i hi⟩
def qN (g:Int->Int)(xs:List D)(k:Int):D:=match xs[k.toNat]? with
 |some d=>d
 |none=>.int (g k)
def GN (h:L4 n xs)(g:Int->Int)(k:Int):∃i,qN g xs k=.int i/\(bits i<=n\/i=g k):=by
 unfold qN;cases e:xs[k.toNat]? with
 |none=>exact⟨_,rfl,.inr rfl⟩
 |some d=>obtain⟨i,rfl,hb⟩:=h d (aAv e);exact⟨i,rfl,.inl hb⟩
def J5 (h1:-((2:Int)^n)<a)(h2:a<(2:Int)^n):bits a<=n:=DE (by
 have e:((2^n:Nat):Int)=(2:Int)^n:=by simp
 omega)
def bits_fmod {a b:Int}{n:Nat}(h0:b≠0)(hb:bits b<=n):bits (a.fmod b)<=n:=PyProof.Rows.bits_fmod_by h0 hb
def bits_fdiv (ha:bits a<=n):bits (a.fdiv b)<=n:=PyProof.Rows.bits_fdiv ha
def u6 (h:bits a<=m)(hm:m<=n:=by decide):bits a<=n:=aAs h hm
@[simp]def a1q:fT [.int 3]=.ok [.int 0,.int 1,.int 2]:=rfl
@[simp]def GQ (xs:List D):O9 (.lst xs)=.ok xs:=rfl
@[simp]def HQ (xs:List D):CW (.tup xs)=.ok xs:=rfl
@[simp]def VI (G:D->Ev->R Ev)(ft:Ev->R Bool)(fe:Ev->R D)(ρ:Ev):t9 G ft fe ρ []=.ok []:=rfl
@[simp]def YB (i:Nat)(ft:Ev->R Bool)(fe:Ev->R D)(ρ:Ev)(d:D)(ds:List D):t9 (λd ρ=>.ok (ρ.set i (Sl.v d))) ft fe ρ (d::ds)=(ft (ρ.set i (Sl.v d))).bind λb=>if b=true then(fe (ρ.set i (Sl.v d))).bind λr=>(t9 (λd ρ=>.ok (ρ.set i (Sl.v d))) ft fe ρ ds).bind λrs=>.ok (r::rs)else t9 (λd ρ=>.ok (ρ.set i (Sl.v d))) ft fe ρ ds:=rfl
@[simp]def ij (d:D):seen (.v d)=.v d:=rfl
end DL
namespace DL
open PySem L2
def TJ (x:D)(r:List D):D2 (.tup (x::r)) (.int 0)=.ok x:=DA (by rw[N3 (by decide)];rfl)
def TR (x y:D)(r:List D):D2 (.tup (x::y::r)) (.int 1)=.ok y:=DA (by rw[N3 (by decide)];rfl)
def UK (x y z:D)(r:List D):D2 (.tup (x::y::z::r)) (.int 2)=.ok z:=DA (by rw[N3 (by decide)];rfl)
theorem gB (Iv:Nat->Ev->Prop)(ht:∀n ρ,Iv (n+1) ρ->c ρ=.ok false\/(c ρ=.ok true/\∃ρ2,F ρ=.ok (.nx ρ2)/\Iv n ρ2))(h00:∀ρ,¬Iv 0 ρ):∀n ρ,Iv n ρ->∃m av,R5 c F n ρ=.ok (.nx av)/\Iv m av/\c av=.ok false
 |0,ρ,h=>absurd h (h00 ρ)
 |n+1,ρ,h=>by
  rcases ht n ρ h with e|⟨e,ρ2,e2,h2⟩
  ·exact⟨n+1,ρ,by rw[R5,e];rfl,h,e⟩
  ·obtain⟨m,av,e3,h3,h4⟩:=gB Iv ht h00 n ρ2 h2;exact⟨m,av,by rw[R5,e];simp only[R.aa0,if_true,e2];exact e3,h3,h4⟩
def GH {Iv:Nat->Ev->Prop}(ht:∀n ρ,Iv (n+1) ρ->c ρ=.ok false\/(c ρ=.ok true/\∃ρ2,F ρ=.ok (.nx ρ2)/\Iv n ρ2))(h0:Iv n ρ)(h2:∀n av,Iv n av->c av=.ok false->P8 (F2 av)=.ok d)(h00:∀ρ,¬Iv 0 ρ:=by(intro ρ;rintro⟨x,y,_,z,_⟩;omega)):
  P8 (D5 (R5 c F n ρ) F2)=.ok d:=by
 obtain⟨m,av,e,h,hc⟩:=gB Iv ht h00 n ρ h0;rw[e];exact h2 m av h hc
end DL
namespace DL
open PySem PySem.Spec L2
open PyProof.Rows hiding St
variable [Tabs]
section
variable{K:PySem.W.Frag}
def EnvOk.ad4 (E:EnvOk K H9 O0 H O σ ρ)(i:Nat)(h:H a=none)(hk:K.lookup a=none)(r:Reps K H O vs xs):
  EnvOk K H9 O0 (upd H a (.lst vs)) (λb=>O b\/b=a) (σ.set i (some (.ref a))) (ρ.set i (.o xs)):=
 E.ad8 i h hk trivial λh0=>⟨a,vs,rfl,.inr rfl,h0,j3,r.ab8 h hk⟩
def EnvOk.disown (E:EnvOk K H9 O0 H O σ ρ)(e:ρ[i]?=some (.o xs)):∃O',EnvOk K H9 O0 H O' σ (ρ.set i (.v (.lst xs)))/\(∀b,O' b->O b):=by obtain⟨a,vs,h1,h2,h3,h4,h5⟩:=E.own i xs e;exact⟨λb=>O b/\b≠a,E.ae1 e trivial h1 (λz=>z) ⟨.ref a,rfl,.lst (K0.of h4) (λz=>z.2 rfl) (h5.sub λ_ z=>z.1)⟩,λb z=>z.1⟩
def EnvOk.write (E:EnvOk K H9 O0 H O σ ρ)(e:ρ[i]?=some (.o xs))(h1:σ[i]?=some (some (V.ref a)))(r:Reps K H O gr xs'):
  EnvOk K H9 O0 (upd H a (.lst gr)) O σ (ρ.set i (.o xs'))/\Kp H O (upd H a (.lst gr)) O:=by
 obtain⟨a',vs,p1,h2,h3,h4,h5⟩:=E.own i xs e;have ea:a'=a:=by rw[p1]at h1;cases h1;rfl
 subst ea;exact E.ad7 e trivial h1 h4 trivial trivial λ_ _ _=>⟨a',gr,rfl,h2,h3,j3,r.upd h4 trivial h2⟩
end
section
def tF (X:Cx)(f:Ev->R (List D)):TE:=λσ H Q=>∃H9 O0 O ρ,EnvOk X.K H9 O0 H O σ ρ/\match f ρ with
 |.ok ds=>∀vs H1 a,Same H H1->H1 a=none->Reps X.K H1 O vs ds->Q (.ref a) (upd H1 a<|.lst vs)
 |.ex e=>∀H',Same H H'->XW X e H'
 |.bad=>False
def PF (X:Cx)(e:Expr)(f:Ev->R (List D)):Prop:=PE X e (tF X f)
def LV (I:Inv X pins σ H s)(h:H a=some o):X.K.lookup a=none:=by
 cases e:X.K.lookup a with
 |none=>rfl
 |some ob=>have:=(I.bs a ob<|I.ok.mod.kin a ob e).2;rw[h]at this;cases this
def PF.pd (h:PF X e f):PD X e (λρ=>(f ρ).bind λds=>.ok (.lst ds)):=OD h λσ H Q H9 O0 O ρ E q=>⟨H9,O0,O,ρ,E,by
 dsimp only at q;cases e1:f ρ with
 |ok ds=>rw[e1]at q;intro vs H1 a s1 ha r;exact q _ _ (s1.trans<|j5 ha _) (.lst (K0.of j3) ((E.grow s1).fresh ha) (r.same<|j5 ha _))
 |ex x=>rw[e1]at q;exact q
 |bad=>rw[e1]at q;exact q⟩
def kH (h:HZ X es f):PF X (.List es pos) (λρ=>(f ρ).bind λds=>if ds.length<=sizeLine then .ok ds else .bad):=
 OD (NP h) λσ H Q H9 O0 O ρ E q=>⟨H9,O0,O,ρ,E,by
  dsimp only at q;cases e1:f ρ with
  |ok ds=>
   rw[e1,R.aa0]at q;intro vs H1 s1 r1;by_cases hz:ds.length<=sizeLine
   ·rw[if_pos hz]at q;exact⟨by rw[r1.length];exact hz,λp hp=>q vs H1 p s1 hp r1⟩
   ·rw[if_neg hz]at q;exact aAi q
  |ex x=>rw[e1]at q;exact q
  |bad=>rw[e1]at q;exact q⟩
def dF (i:Nat)(he:PF X e f)(hN:X.N.Nodup)(hi:X.N[i]?=some x:=by rfl)(hx:Loc X.env.scope x:=by first|exact aCM rfl|exact aBN rfl)(hs:swapsWith e (some (.Name x pos')) pos.line X.env=pure false:=by rfl)(hf:X.fn x=true\/X.env.scope.names.lookup x=some .local:=by first|exact .inl rfl|exact .inr rfl|assumption):
  mS X (.Assign [.Name x pos'] e pos) (λρ=>(f ρ).bind λds=>.ok (.nx (ρ.set i (.o ds)))):=by
 intro H9 O0 pins s σ H D I ⟨O,ρ,E,fk,q⟩;dsimp only at q;refine aFe (C1 (he pins s σ H (λv H2=>∃vs H1 a ds,v=.ref a/\H2=upd H1 a (.lst vs)/\Same H H1/\H1 a=none/\Reps X.K H1 O vs ds/\RS X H9 O0 H O (.ok (.nx (ρ.set i<|.o ds))) D) I ⟨H9,O0,O,ρ,E,?_⟩) λv s1 ⟨y,H2,I2,r2,vs,H1,a,ds,e1,e2,ye,ha,r,q'⟩=>?_) hs
 ·cases e1:f ρ with
  |ok ds=>rw[e1,R.aa0]at q;exactλvs H1 a s1 ha r=>⟨vs,H1,a,ds,rfl,rfl,s1,ha,r,q⟩
  |ex x=>rw[e1]at q;exactλH' s=>q H' (E.same.trans s)
  |bad=>rw[e1]at q;exact q
 ·subst e1 e2;refine P9 I2 hN hi hx r2 (λs3 I3=>⟨_,_,I3,?_⟩) hf;have hk:=LV I2 (j3 (H:=H1) (a:=a) (o:=.lst vs));have E2:=(E.grow ye).ad4 i ha hk r;refine q' _ _ _ E2 (nR I2 _ E2.trk) ?_;exactλb o hb n=>⟨by rw[j8 (q9 (ye b o hb) ha)];exact ye b o hb,λz=>z.elim n (q9 (ye b o hb) ha)⟩
def RV (i:Nat)(ρ:Ev):Ev:=match ρ[i]? with
 |some (.o xs)=>ρ.set i (.v (.lst xs))
 |_=>ρ
def uK (i:Nat){st:Stmt}(h:mS X st F):mS X st (λρ=>F (RV i ρ)):=by
 intro H9 O0 pins s σ H D I ⟨O,ρ,E,fk,q⟩;dsimp only at q;unfold RV at q;cases e:ρ[i]? with
 |none=>rw[e]at q;exact h H9 O0 pins s σ H D I ⟨O,ρ,E,fk,q⟩
 |some sl=>
  rw[e]at q;cases sl with
  |x C=>exact h H9 O0 pins s σ H D I ⟨O,ρ,E,fk,q⟩
  |c m φ=>exact h H9 O0 pins s σ H D I ⟨O,ρ,E,fk,q⟩
  |d kvs=>exact h H9 O0 pins s σ H D I ⟨O,ρ,E,fk,q⟩
  |no=>exact h H9 O0 pins s σ H D I ⟨O,ρ,E,fk,q⟩
  |v d=>exact h H9 O0 pins s σ H D I ⟨O,ρ,E,fk,q⟩
  |o xs=>obtain⟨O',E',sub⟩:=E.disown e;exact h H9 O0 pins s σ H D I ⟨O',_,E',λa o hk z=>fk a o hk (sub a z),RS.grow q λb o hb n=>⟨hb,λz=>n (sub b z)⟩⟩
def lX (i:Nat)(ρ:Ev)(d:D):R Out:=match ρ[i]? with
 |some (.o xs)=>if xs.length<sizeLine then .ok (.nx (ρ.set i<|.o (xs++[d])))else .bad
 |_=>.bad
def V0 (i:Nat)(he:PD X e f)(hN:X.N[i]?=some x:=by rfl)(hv:AR X.env.scope x:=by first|exact aCM rfl|exact aBN (aCM rfl)|exact aBN (aBN rfl))(hd:(x==("__debug__":Str))=false:=by decide)(fb:(x==("__classdict__":Str))=false:=by decide)(fm:attributeBase (.Name x p) "append" X.env (eval (.Name x p) X.env)=eval (.Name x p) X.env:=by rfl)(um:((backTo ar (starEach [e] X.env)).all (λx=>!x.1)&&(backToKw ar (keywordEach [] X.env)).all (λx=>x.1.isSome)
   &&decide ([e].length+([]:List Keyword).length+(if([]:List Keyword).isEmpty then 0 else 1)<30))=true:=by rfl) (cb:(apos.endLine==ar.line)=true:=by rfl) (hs:starEach [e] X.env=(false,eval e X.env)::starEach [] X.env:=by rfl) (jg:(backTo ar (starEach [] X.env)).any (·.1)=false:=by rfl) (va:swapsWith (.Call (.Attribute (.Name x p) "append" apos) [e] [] ar) none pos.line X.env=pure false:=by rfl):
  mS X (.Expr (.Call (.Attribute (.Name x p) "append" apos) [e] [] ar) pos) (λρ=>(f ρ).bind (lX i ρ)):=λH9 O0=>
 CA (mJ (SQ PySem.F.plainAttrs_list PySem.F.slot_list_append PySem.F.type_list_append qR (Q6 hN hv hd fb) (f8 he o5 hs) fm um cb hs jg) va) λD σ H O ρ E fk q=>by
 cases e1:f ρ with
 |ok d=>
  rw[e1,R.aa0]at q;unfold lX at q;cases e2:ρ[i]? with
  |none=>rw[e2]at q;exact aAi q
  |some sl=>
   rw[e2]at q;cases sl with
   |x C=>exact aAi q
   |c m φ=>exact aAi q
   |d kvs=>exact aAi q
   |no=>exact aAi q
   |v d=>exact aAi q
   |o xs=>
    dsimp only at q;split at q
    ·rename_i hz;obtain⟨a,vs,h1,h2,h3,h4,h5⟩:=E.own i xs e2;refine⟨_,h1,.inl ⟨rfl,vs,K0.of h4⟩,H9,O0,O,ρ,E,?_⟩;show FP X H O ((f ρ).bind λd=>(R.ok []).bind λds=>.ok (d::ds)) _;rw[e1];intro us H1 s1 r1;cases r1 with
     |cons r1 rn=>cases rn;have E1:=E.grow s1;refine⟨a,vs,_,rfl,rfl,s1 _ _ h4,by rw[h5.length];exact hz,?_⟩;obtain⟨E2,k2⟩:=E1.write e2 h1 ((h5.same s1).snoc r1);exact q σ _ O E2 fk ((Kp.of s1).trans k2)
    ·exact aAi q
 |ex x=>
  rw[e1]at q;cases e2:ρ[i]? with
  |none=>exact(q H E.same).elim
  |some sl=>exact(q H E.same).elim
 |bad=>rw[e1]at q;exact aAi q
def WO (i:Nat)(ρ:Ev)(d:D):R Out:=match ρ[i]?,d with
 |some (.o xs),.lst ys=>if xs.length+ys.length<=sizeLine then .ok (.nx (ρ.set i<|.o (xs++ys)))else .bad
 |_,_=>.bad
def zH (i:Nat)(ρ:Ev):R (D×Ev):=match ρ[i]? with
 |some (.o xs)=>match xs[xs.length-1]? with
  |some d=>.ok (d,ρ.set i (.o xs.dropLast))
  |none=>.bad
 |_=>.bad
def OI (i:Nat)(hN:X.N[i]?=some x:=by rfl)(hv:AR X.env.scope x:=by first|exact aCM rfl|exact aBN (aCM rfl)|exact aBN (aBN rfl))(hd:(x==("__debug__":Str))=false:=by decide)(fb:(x==("__classdict__":Str))=false:=by decide)(fm:attributeBase (.Name x p) "pop" X.env (eval (.Name x p) X.env)=eval (.Name x p) X.env:=by rfl)(cb:(apos.endLine==ar.line)=true:=by rfl)(va:swapsWith (.Call (.Attribute (.Name x p) "pop" apos) [] [] ar) none pos.line X.env=pure false:=by rfl):
  mS X (.Expr (.Call (.Attribute (.Name x p) "pop" apos) [] [] ar) pos) (λρ=>(zH i ρ).bind λz=>.ok (.nx z.2)):=λH9 O0=>
 CA (mJ (IR PySem.F.plainAttrs_list PySem.F.slot_list_pop PySem.F.type_list_pop MX (Q6 hN hv hd fb) fm cb) va) λD σ H O ρ E fk q=>by
 unfold zH at q;cases e2:ρ[i]? with
 |none=>rw[e2]at q;exact aAi q
 |some sl=>
  rw[e2]at q;cases sl with
  |x C=>exact aAi q
  |c m φ=>exact aAi q
  |d kvs=>exact aAi q
  |no=>exact aAi q
  |v d=>exact aAi q
  |o xs=>
   dsimp only at q;cases e3:xs[xs.length-1]? with
   |none=>rw[e3]at q;exact aAi q
   |some d=>rw[e3]at q;obtain⟨a,vs,h1,h2,h3,h4,h5⟩:=E.own i xs e2;obtain⟨v,g1,g2⟩:=h5.get e3;refine⟨_,h1,.inl ⟨rfl,vs,K0.of h4⟩,a,vs,v,rfl,rfl,h4,by rw[h5.length];exact g1,?_⟩;obtain⟨E2,k2⟩:=E.write e2 h1 h5.dropLast;exact q σ _ O E2 fk k2
def BQ (j i:Nat)(hND:X.N.Nodup)(jc:i≠j:=by decide)(hN:X.N[i]?=some x:=by rfl)(hy:X.N[j]?=some y:=by rfl)(hv:AR X.env.scope x:=by first|exact aCM rfl|exact aBN (aCM rfl)|exact aBN (aBN rfl))(hd:(x==("__debug__":Str))=false:=by decide)(fb:(x==("__classdict__":Str))=false:=by decide)(fm:attributeBase (.Name x p) "pop" X.env (eval (.Name x p) X.env)=eval (.Name x p) X.env:=by rfl)(cb:(apos.endLine==ar.line)=true:=by rfl)(hly:Loc X.env.scope y:=by first|exact aCM rfl|exact aBN rfl)(va:swapsWith (.Call (.Attribute (.Name x p) "pop" apos) [] [] ar) (some (.Name y py)) pos.line X.env=pure false:=by rfl)(hf:X.fn y=true\/X.env.scope.names.lookup y=some .local:=by first|exact .inl rfl|exact .inr rfl|assumption):
  mS X (.Assign [.Name y py] (.Call (.Attribute (.Name x p) "pop" apos) [] [] ar) pos) (λρ=>(zH i ρ).bind λz=>.ok (.nx (z.2.set j (.v z.1)))):=λH9 O0=>
 CA (KE hND hy hly (IR PySem.F.plainAttrs_list PySem.F.slot_list_pop PySem.F.type_list_pop MX (Q6 hN hv hd fb) fm cb) va hf) λD σ H O ρ E fk q=>by
 unfold zH at q;cases e2:ρ[i]? with
 |none=>rw[e2]at q;exact aAi q
 |some sl=>
  rw[e2]at q;cases sl with
  |x C=>exact aAi q
  |c m φ=>exact aAi q
  |d kvs=>exact aAi q
  |no=>exact aAi q
  |v d=>exact aAi q
  |o xs=>
   dsimp only at q;cases e3:xs[xs.length-1]? with
   |none=>rw[e3]at q;exact aAi q
   |some d=>rw[e3]at q;obtain⟨a,vs,h1,h2,h3,h4,h5⟩:=E.own i xs e2;obtain⟨v,g1,g2⟩:=h5.get e3;refine⟨_,h1,.inl ⟨rfl,vs,K0.of h4⟩,a,vs,v,rfl,rfl,h4,by rw[h5.length];exact g1,?_⟩;obtain⟨E2,k2⟩:=E.write e2 h1 h5.dropLast;exact q _ _ O (E2.set j<|k2.rep E.trk fk g2) fk k2
def VO (i:Nat)(ρ:Ev)(k d:D):R Out:=match ρ[i]?,k with
 |some (.o xs),.int k=>match yS xs.length k with
  |some j=>.ok (.nx (ρ.set i<|.o (xs.set j d)))
  |none=>.bad
 |_,_=>.bad
def GL (i:Nat)(he:PD X e f)(hk:PD X k g)(hN:X.N[i]?=some x:=by rfl)(hv:AR X.env.scope x:=by first|exact aCM rfl|exact aBN (aCM rfl)|exact aBN (aBN rfl))(hd:(x==("__debug__":Str))=false:=by decide)(fb:(x==("__classdict__":Str))=false:=by decide)(ha:∀v,assign (.Subscript (.Name x p) k ps) X.env v=(do
   let ov<-holding [v] (eval (.Name x p) X.env)
   let iv<-holding [v,ov] (eval k X.env)
   standAt ps
   holding [v,ov,iv] (setItem ov iv v)
   release [v,ov,iv] []):=by intro _;rfl) (hs:swapsWithSole [.Subscript (.Name x p) k ps] e pos.line X.env=pure false:=by rfl) (hw:swappedStores [.Subscript (.Name x p) k ps] e X.env=pure none:=by rfl) (h1:(assignEach [.Subscript (.Name x p) k ps] X.env).map (·.2)=[assign (.Subscript (.Name x p) k ps) X.env]:=by rfl):
  mS X (.Assign [.Subscript (.Name x p) k ps] e pos) (λρ=>(f ρ).bind λd=>(g ρ).bind λkd=>VO i ρ kd d):=λH9 O0=>
 CA (BR he (JL (Q6 hN hv hd fb) hk MR ha) hs hw h1) λD σ H O ρ E fk q=>⟨H9,O0,O,ρ,E,by
  cases e1:f ρ with
  |ok d=>
   rw[e1,R.aa0]at q;intro v H1 s1 r1;have E1:=E.grow s1;cases e2:g ρ with
   |ok kd=>
    rw[e2,R.aa0]at q;unfold VO at q;cases e3:ρ[i]? with
    |none=>rw[e3]at q;exact aAi q
    |some sl=>
     rw[e3]at q;cases sl with
     |x C=>exact aAi q
     |c m φ=>exact aAi q
     |d kvs=>exact aAi q
     |no=>exact aAi q
     |v d=>exact aAi q
     |o xs=>
      obtain⟨a,vs,h1,h2,h3,h4,h5⟩:=E1.own i xs e3;refine⟨_,h1,H9,O0,O,ρ,E1,?_⟩;rw[e2];intro kv H2 s2 r2;have E2:=E1.grow s2;cases kd with
      |int kk=>
       dsimp only at q;cases e4:yS xs.length kk with
       |none=>rw[e4]at q;exact aAi q
       |some j=>rw[e4]at q;cases r2;refine⟨a,vs,kk,j,rfl,rfl,s2 _ _ h4,by rw[h5.length];exact e4,?_⟩;obtain⟨E3,k3⟩:=E2.write e3 h1 ((h5.same s2).set (r1.same s2) j);exact q σ _ O E3 fk (((Kp.of s1).trans (Kp.of s2)).trans k3)
      |_=>exact aAi q
   |ex x=>rw[e2]at q;exact(q H E.same).elim
   |bad=>rw[e2]at q;exact aAi q
  |ex x=>rw[e1]at q;exactλH' s=>q H' (E.same.trans s)
  |bad=>rw[e1]at q;exact q⟩
def EY (i:Nat)(own fr:List Str)(js:List Nat)(hN:X.N.Nodup)(hc:X.calm=true)(S:CompSc X scope own fr js)(hi:SR X tg A0 fi)(hX:∀(pins:M2) (fp:List Addr) (X':Cx),(∃s9 Ha C,X'=HB X pins s9 Ha (own++fr) scope (cF X scope C) C fp)->IE X' tg G/\TD X' ifs ft/\PD X' elt fe)(hG:∀ρ d ρ1,G d (f6 own js ρ)=.ok ρ1->pW ρ1 (f6 own js ρ))(hy:X.N[i]?=some y:=by rfl)(hyl:X.env.scope.names.lookup y=some .local:=by rfl)(va:swapsWith (.ListComp elt [⟨tg,A0,ifs,0⟩] scope pos) (some (.Name y py)) spos.line X.env=pure true:=by rfl)(hs:∀x,foldedSetIterable A0 X.env x=pure x:=by intro _;rfl):
  mS X (.Assign [.Name y py] (.ListComp elt [⟨tg,A0,ifs,0⟩] scope pos) spos) (λρ=>((fi ρ).bind λds=>if ds.length<=sizeLine then(t9 G ft fe (f6 own js ρ) ds).bind λrs=>R.ok rs else .bad).bind λrs=>.ok (.nx (ρ.set i (.o rs)))):=by
 intro H9 O0 pins s σ H D I ⟨O,ρ,E,fk,q⟩;dsimp only at q;rw[exec_Assign_Name_used _ _ _ _ va];refine aAa (aDM<|aAa ?_);show wpAny _ X.A (do let _<-comprehension (.ListComp elt [⟨tg,A0,ifs,0⟩] scope pos) scope X.env _ (newList []) false (eval A0 X.env) (some<|assign (.Name y py) X.env)) _ _ s;refine aAa (aCj (aDJ (use:=some (assign (.Name y py) X.env)) (Q:=λ_ s'=>SP X pins D .next s') rfl hs (Y4<|Inv.aa9 I S) S.kind S.names ?_) (λ_ s' hq=>aAb (aAb hq)) λ_ _ e=>e);refine C1 (hi pins s σ H (λJ H1=>∃ds rs,Same H H1/\SU X.K J H1 O ds/\ds.length<=sizeLine/\t9 G ft fe (f6 own js ρ) ds=.ok rs/\RS X H9 O0 H O (.ok (.nx (ρ.set i<|.o rs))) D) I ⟨H9,O0,O,ρ,E,nR I O E.trk,?_⟩) λv s1 h1=>C1 h1 λitv s2 h2=>?_
 ·cases e1:fi ρ with
  |ex x=>rw[e1]at q;exactλH' s=>q H' (E.same.trans s)
  |bad=>rw[e1]at q;exact q
  |ok ds=>
   rw[e1,R.aa0]at q;intro J H1 s1 hJ;split at q
   ·rename_i hl;cases e2:t9 G ft fe (f6 own js ρ) ds with
    |ex x=>rw[e2]at q;exact(q H E.same).elim
    |bad=>rw[e2]at q;exact q.elim
    |ok rs=>rw[e2]at q;exact⟨ds,rs,s1,hJ,hl,e2,q⟩
   ·exact q.elim
 ·obtain⟨it,fp,tn,J,H2,e,I2,T,jr,f2,ds,rs,sm,hJ,hl,hrs,q⟩:=h2;subst e;refine pA (RR:=λacc C=>compPost (model X.prog X.w) X.A X.xe (some<|assign (.Name y py) X.env) (λ_ s'=>SP X pins D .next s') acc C) hc S (hX pins fp) (hG ρ) I2 T jr f2 (E.grow sm) hJ hrs hl ?_;intro acc C s' H' m hn hCa yd has sm' r nw hC hI;have I3:=hI s'.heap (aFh ..);show wpAny _ X.A (assign (.Name y py) X.env<|.ref acc) _ _ s';refine aFd (iX (i:=i) (v:=.ref acc) I3 hN hy (.inl hyl) rfl (λs4 I4 ⟨a,hsb,ha⟩=>?_)<|.inr hyl);have dh:∀x c,X.env.cells.lookup x=some c->c≠C:=λx c hc=>by obtain⟨v,hv⟩:=I2.cell x c hc;exact aAl (aAr hv.lt yd)
  have hCL:C≠X.env.locals:=aCD (aAr I2.lt yd);have hCa2:C≠a:=by
   rcases ha with ha|ha
   ·rw[ha];exact hCL
   ·exact aBV (dh y a ha)
  refine⟨m,hn.sameBut hsb hCa2,λh' jd=>?_⟩;obtain⟨H1,vs,ye,ha1,eH,rr⟩:=nw;subst eH;have E2:=((E.grow sm).grow ye).ad4 i ha1 (LV I3<|j3 (H:=H1) (a:=acc) (o:=.lst vs)) rr;refine⟨_,_,?_,q _ _ _ E2 (nR I3 _ E2.trk) λb o hb n=>⟨by rw[j8 (q9 ((sm.trans ye) b o hb) ha1)];exact(sm.trans ye) b o hb,λz=>z.elim n (q9 ((sm.trans ye) b o hb) ha1)⟩⟩;exact I4.turned (t':=s4.toks) (it:=C) (λb o hb e=>(jd.2 b hb).trans e) hC hCL (.inr (aAs I2.sz yd)) dh λp hp=>aAl (aAr (aAf (I2.pin p hp).1) yd)
def kM {st:Stmt}:mS X st (λ_=>.bad):=λH9 O0=>CA JF λD σ H O ρ E fk q=>q
end
end DL
namespace G
structure V where
 x:Int
 y:Int
 z:Int
deriving DecidableEq
instance:Add V:=⟨λu v=>⟨u.x+v.x,u.y+v.y,u.z+v.z⟩⟩
instance:Sub V:=⟨λu v=>⟨u.x-v.x,u.y-v.y,u.z-v.z⟩⟩
instance:Neg V:=⟨λu=>⟨-u.x,-u.y,-u.z⟩⟩
instance:HMul Int V V:=⟨λk u=>⟨k*u.x,k*u.y,k*u.z⟩⟩
instance:OfNat V 0:=⟨⟨0,0,0⟩⟩
@[simp]def zk (u v:V):(u+v).x=u.x+v.x:=rfl
@[simp]def a0p (u v:V):(u+v).y=u.y+v.y:=rfl
@[simp]def yy (u v:V):(u+v).z=u.z+v.z:=rfl
@[simp]def TQ (u v:V):(u-v).x=u.x-v.x:=rfl
@[simp]def SV (u v:V):(u-v).y=u.y-v.y:=rfl
@[simp]def TV (u v:V):(u-v).z=u.z-v.z:=rfl
@[simp]def YV (u:V):(-u).x=-u.x:=rfl
@[simp]def ZK (u:V):(-u).y=-u.y:=rfl
@[simp]def bq (u:V):(-u).z=-u.z:=rfl
@[simp]def JN (k:Int)(u:V):(k*u).x=k*u.x:=rfl
@[simp]def IP (k:Int)(u:V):(k*u).y=k*u.y:=rfl
@[simp]def IX (k:Int)(u:V):(k*u).z=k*u.z:=rfl
@[simp]def bB:(0:V).x=0:=rfl
@[simp]def bK:(0:V).y=0:=rfl
@[simp]def bE:(0:V).z=0:=rfl
def ext {u v:V}(h1:u.x=v.x)(h2:u.y=v.y)(h3:u.z=v.z):u=v:=by cases u;cases v;simp_all
def nZ {u v:V}:u=v↔u.x=v.x/\u.y=v.y/\u.z=v.z:=⟨λh=>by subst h;exact⟨rfl,rfl,rfl⟩,λ⟨a,b,c⟩=>ext a b c⟩
def c9 (u v:V):Int:=u.x*v.x+u.y*v.y+u.z*v.z
def cr (u v:V):V:=⟨u.y*v.z-u.z*v.y,u.z*v.x-u.x*v.z,u.x*v.y-u.y*v.x⟩
def i9 (a u v:V):Int:=c9 a (cr u v)
@[simp]def RT (u v:V):(cr u v).x=u.y*v.z-u.z*v.y:=rfl
@[simp]def OM (u v:V):(cr u v).y=u.z*v.x-u.x*v.z:=rfl
@[simp]def ON (u v:V):(cr u v).z=u.x*v.y-u.y*v.x:=rfl
def zI (a u v w:V):i9 a u v*w+i9 a v w*u+i9 a w u*v=i9 u v w*a:=by apply ext<;>simp[i9,c9]<;>grind
def UL (f a u v w:V):i9 a u v*c9 f w+i9 a v w*c9 f u+i9 a w u*c9 f v=i9 u v w*c9 f a:=by simp[i9,c9];grind
def k7 (a u v:V):i9 a v u=-i9 a u v:=by simp[i9,c9];grind
def B0 (a u:V):i9 a u u=0:=by simp[i9,c9];grind
def Z2 (a u v w:V):i9 a (u+v) w=i9 a u w+i9 a v w:=by simp[i9,c9];grind
def Z4 (a u v w:V):i9 a u (v+w)=i9 a u v+i9 a u w:=by simp[i9,c9];grind
def LH (a u v w:V):i9 a u (v-w)=i9 a u v-i9 a u w:=by simp[i9,c9];grind
def vF (a:V)(k:Int)(u v:V):i9 a u (k*v)=k*i9 a u v:=by simp[i9,c9];grind
def cH (u v:V):c9 u v=c9 v u:=by simp[c9];grind
def bD (f u v:V):c9 f (u+v)=c9 f u+c9 f v:=by simp[c9];grind
def d8 (f u v:V):c9 f (u-v)=c9 f u-c9 f v:=by simp[c9];grind
def t6 (f:V)(k:Int)(v:V):c9 f (k*v)=k*c9 f v:=by simp[c9];grind
def G9 (f:V)(k:Int)(v:V):c9 (k*f) v=k*c9 f v:=by simp[c9];grind
def M0 (f:V):c9 f 0=0:=by simp[c9]
def S4 (a u v:V):c9 (cr a u) v=i9 a u v:=by simp[i9,c9];grind
def z9 {u:V}(h:u≠0):0<c9 u u:=by
 have h1:u.x≠0\/u.y≠0\/u.z≠0:=by
  by_cases a:u.x=0
  ·by_cases b:u.y=0
   ·by_cases c:u.z=0
    ·exact absurd (ext a b c) h
    ·exact .inr (.inr c)
   ·exact .inr (.inl b)
  ·exact .inl a
 have sq:∀t:Int,0<=t*t:=λt=>by
  rcases aGn 0 t with q|q
  ·exact aBg q q
  ·have:=aBg (aFj q) (aFj q);rwa [aDm]at this
 have sqp:∀t:Int,t≠0->0<t*t:=λt ht=>by
  have:=sq t;have:t*t≠0:=λz=>by rcases aAq.mp z with q|q<;>exact ht q
  omega
 have a:=sq u.x;have b:=sq u.y;have c:=sq u.z;unfold c9;rcases h1 with q|q|q
 ·have:=sqp _ q;omega
 ·have:=sqp _ q;omega
 ·have:=sqp _ q;omega
def B8 (h:n≠0)(hu:c9 n u=0)(hv:c9 n v=0)(hw:c9 n w=0):i9 u v w=0:=by
 have e:i9 u v w*c9 n n=0:=by have:=UL n n u v w;rw[hu,hv,hw]at this;simp at this;omega
 rcases aAq.mp e with q|q
 ·exact q
 ·have:=z9 h;omega
end G
namespace G
def u4 (v:V):(0:Int)*v=0:=ext (by simp) (by simp) (by simp)
def nU (v:V):v+0=v:=ext (by simp) (by simp) (by simp)
def fP (v:V):0+v=v:=ext (by simp) (by simp) (by simp)
structure Cone (Pos:V->Prop):Prop where
 add:∀{u v},Pos u->Pos v->Pos (u+v)
 mul:∀{k:Int} {u},0<k->Pos u->Pos (k*u)
 irr:¬Pos 0
section
variable{Pos:V->Prop} (C:Cone Pos)
include C
theorem Cone.comb {p q:Int}{u w:V}(hp:0<p)(hq:0<=q)(hw:Pos w)(hu:Pos u):Pos (p*w+q*u):=by
 by_cases h:q=0
 ·subst h;rw[u4,nU];exact C.mul hp hw
 ·exact C.add (C.mul hp hw) (C.mul (by lia) hu)
theorem Cone.sgn {k:Int}{v:V}(hv:Pos v)(h:Pos (k*v)):0<k:=by
 by_cases hk:0<k
 ·exact hk
 ·exfalso;by_cases h0:k=0
  ·subst h0;rw[u4]at h;exact C.irr h
  ·have h1:=C.add h (C.mul (k:=-k) (by lia) hv);have e:k*v+-k*v=0:=ext (by simp;grind) (by simp;grind) (by simp;grind);rw[e]at h1;exact C.irr h1
theorem Cone.tr {a u v w:V}(hu:Pos u)(hv:Pos v)(hw:Pos w)(hf:i9 u v w=0)(h1:0<i9 a u v)(h2:0<=i9 a v w):0<i9 a u w:=by
 refine C.sgn hv (k:=i9 a u w) ?_;have e:i9 a u w*v=i9 a u v*w+i9 a v w*u:=by have h:=zI a u v w;rw[hf,u4,k7 a u w]at h;have hx:=congrArg V.x h;have hy:=congrArg V.y h;have hz:=congrArg V.z h;simp at hx hy hz;exact ext (by simp;grind) (by simp;grind) (by simp;grind)
 rw[e];exact C.comb h1 h2 hw hu
theorem Cone.tr' {a u v w:V}(hu:Pos u)(hv:Pos v)(hw:Pos w)(hf:i9 u v w=0)(h1:0<=i9 a u v)(h2:0<i9 a v w):0<i9 a u w:=by
 refine C.sgn hv (k:=i9 a u w) ?_;have e:i9 a u w*v=i9 a v w*u+i9 a u v*w:=by have h:=zI a u v w;rw[hf,u4,k7 a u w]at h;have hx:=congrArg V.x h;have hy:=congrArg V.y h;have hz:=congrArg V.z h;simp at hx hy hz;exact ext (by simp;grind) (by simp;grind) (by simp;grind)
 rw[e];exact C.comb h2 h1 hu hw
end
structure ConeM (a:V)(Pos:V->Prop):Prop extends Cone Pos where
 inv:∀{u} (k:Int),Pos u->Pos (u+k*a)
def ConeM.tr {a:V}{Pos:V->Prop}(C:ConeM a Pos){u v w:V}(hu:Pos u)(hv:Pos v)(hw:Pos w)(h1:0<i9 a u v)(h2:0<=i9 a v w):0<i9 a u w:=by
 refine C.sgn hv (k:=i9 a u w) ?_;have e:i9 a u w*v=(i9 a u v*w+i9 a v w*u)+(-i9 u v w)*a:=by have h:=zI a u v w;rw[k7 a u w]at h;have hx:=congrArg V.x h;have hy:=congrArg V.y h;have hz:=congrArg V.z h;simp at hx hy hz;exact ext (by simp;grind) (by simp;grind) (by simp;grind)
 rw[e];exact C.inv _ (C.comb h1 h2 hw hu)
def i7 (w:V):Prop:=0<w.x\/(w.x=0/\(0<w.y\/(w.y=0/\0<w.z)))
instance(w:V):Decidable (i7 w):=inferInstanceAs (Decidable<|_\/_)
def A4:Cone i7 where
 add:=λ{u v} h1 h2=>by unfold i7 at*;simp;lia
 mul:=λ{k u} hk h=>by
  unfold i7 at*
  simp;rcases h with h|⟨h,h'|⟨h',h''⟩⟩
  ·exact .inl (aBh hk h)
  ·exact .inr ⟨by rw[h];simp,.inl (aBh hk h')⟩
  ·exact .inr ⟨by rw[h];simp,.inr ⟨by rw[h'];simp,aBh hk h''⟩⟩
 irr:=by unfold i7;simp
def Q9 (w:V):Prop:=i7 (-w)
def zK:-(0:V)=0:=rfl
def gT:Cone Q9 where
 add:=λ{u v} h1 h2=>by have e:-(u+v)=-u+-v:=ext (by simp;lia) (by simp;lia) (by simp;lia);unfold Q9 at*;rw[e];exact A4.add h1 h2
 mul:=λ{k u} hk h=>by have e:-(k*u)=k*(-u):=ext (by simp;grind) (by simp;grind) (by simp;grind);unfold Q9 at*;rw[e];exact A4.mul hk h
 irr:=by unfold Q9;rw[zK];exact A4.irr
def SK (w:V):i7 w\/w=0\/Q9 w:=by
 unfold Q9 i7;rw[nZ];simp
 lia
end G
namespace DL
open PySem L2
def V4 (G:D->Ev->R Ev)(F:Ev->R Out)(d:D)(ρ:Ev):R Out:=match G d ρ with
 |.ok ρ1=>F ρ1
 |_=>.bad
@[simp]def fJ (i:Nat)(F:Ev->R Out)(d:D)(ρ:Ev):V4 (λd ρ=>.ok (ρ.set i (Sl.v d))) F d ρ=F (ρ.set i (.v d)):=rfl
@[simp]def ZA (G:D->Ev->R Ev)(F:Ev->R Out)(ρ:Ev):I9 G F [] ρ=.ok (.nx ρ):=rfl
def dN (h:F (ρ.set i (.v d))=.ok (.nx ρ2)):I9 (λd ρ=>.ok (ρ.set i (Sl.v d))) F (d::ds) ρ=I9 (λd ρ=>.ok (ρ.set i (Sl.v d))) F ds ρ2:=by rw[I9];dsimp only;rw[h]
def MZ {α:Type}{a b:α}:(R.ok a=R.ok b)=(a=b):=by simp
end DL
namespace DL
open PySem L2
class Bd (a:Int)(n:outParam Nat):Prop where
 h:bits a<=n
def j0 (h:bits a<=m)(hm:m<=n):bits a<=n:=aAs h hm
section
end
abbrev vd (v:G.V):D:=.tup [.int v.x,.int v.y,.int v.z]
def Sz (n:Nat)(v:G.V):Prop:=bits v.x<=n/\bits v.y<=n/\bits v.z<=n
def Sz.mono (h:Sz m v)(hm:m<=n:=by decide):Sz n v:=⟨j0 h.1 hm,j0 h.2.1 hm,j0 h.2.2 hm⟩
def Sz.sub (h:Sz n u)(h':Sz n v):Sz (n+1) (u-v):=⟨bits_sub h.1 h'.1,bits_sub h.2.1 h'.2.1,bits_sub h.2.2 h'.2.2⟩
def Sz.add (h:Sz n u)(h':Sz n v):Sz (n+1) (u+v):=⟨bits_add h.1 h'.1,bits_add h.2.1 h'.2.1,bits_add h.2.2 h'.2.2⟩
def Sz.cr (h:Sz m u)(h':Sz n v):Sz (m+n+1) (G.cr u v):=⟨bits_sub (bits_mul h.2.1 h'.2.2) (bits_mul h.2.2 h'.2.1),bits_sub (bits_mul h.2.2 h'.1) (bits_mul h.1 h'.2.2),bits_sub (bits_mul h.1 h'.2.1) (bits_mul h.2.1 h'.1)⟩
end DL
namespace M
open PySem L2 DL
abbrev pt (a b c:Int):D:=.tup [.int a,.int b,.int c]
abbrev UI (n:Nat)(a b c:Int):Prop:=bits a<=n/\bits b<=n/\bits c<=n
def v1 (k:Int->Int->Int->List D->R D):List D->R D
 |.tup [.int a,.int b,.int c]::ds=>k a b c ds
 |_=>.bad
def v4 (k:Int->Int->Int->Int->List D->R D):List D->R D
 |.tup [.int a,.int b,.int c,.int d]::ds=>k a b c d ds
 |_=>.bad
def OE (k:List D->List D->R D):List D->R D
 |.lst xs::ds=>k xs ds
 |_=>.bad
def jz (k:List D->List D->R D):List D->R D
 |.tup xs::ds=>k xs ds
 |_=>.bad
def uZ (q:R D):List D->R D
 |[]=>q
 |_=>.bad
def F8 (h:v1 k ds=.ok r):∃a b c e,ds=.tup [.int a,.int b,.int c]::e/\k a b c e=.ok r:=by
 unfold v1 at h;split at h
 ·exact⟨_,_,_,_,rfl,h⟩
 ·cases h
def TU (h:v4 k ds=.ok r):∃a b c d e,ds=.tup [.int a,.int b,.int c,.int d]::e/\k a b c d e=.ok r:=by
 unfold v4 at h;split at h
 ·exact⟨_,_,_,_,_,rfl,h⟩
 ·cases h
def sE (h:OE k ds=.ok r):∃xs e,ds=.lst xs::e/\k xs e=.ok r:=by
 unfold OE at h;split at h
 ·exact⟨_,_,rfl,h⟩
 ·cases h
def VH (h:jz k ds=.ok r):∃xs e,ds=.tup xs::e/\k xs e=.ok r:=by
 unfold jz at h;split at h
 ·exact⟨_,_,rfl,h⟩
 ·cases h
def K5 (h:uZ q ds=.ok r):ds=[]/\q=.ok r:=by
 unfold uZ at h;split at h
 ·exact⟨rfl,h⟩
 ·cases h
def v3 (k:Int->Int->Int->List D->R D):List D->R D
 |.tup (.int a::.int b::.int c::_)::ds=>k a b c ds
 |_=>.bad
def TL (h:v3 k ds=.ok r):∃a b c t e,ds=.tup (.int a::.int b::.int c::t)::e/\k a b c e=.ok r:=by
 unfold v3 at h;split at h
 ·exact⟨_,_,_,_,_,rfl,h⟩
 ·cases h
def m6:List D->R D:=v1 λa b c=>v1 λa' b' c'=>uZ (.ok (pt (a'-a) (b'-b)<|c'-c))
def u9:List D->R D:=v1 λa b c=>v1 λd e f=>uZ (if UI 20000000 a b c/\UI 20000000 d e f then .ok (pt (b*f-c*e) (c*d-a*f)<|a*e-b*d)else .bad)
def k8:List D->R D:=v3 λa b c=>v1 λd e f=>uZ (if UI 50000000 a b c/\UI 50000000 d e f then .ok (.int (a*d+b*e+c*f))else .bad)
@[simp]def XH (P Q:G.V):m6 [vd P,vd Q]=.ok (vd (Q-P)):=rfl
def Z1 (h1:Sz 20000000 u)(h2:Sz 20000000 v):u9 [vd u,vd v]=.ok (vd (G.cr u v)):=if_pos ⟨h1,h2⟩
def dW (h1:Sz 50000000 u)(h2:Sz 50000000 v):k8 [vd u,vd v]=.ok (.int (G.c9 u v)):=if_pos ⟨h1,h2⟩
def rule (k:Int):Int:=7*k*k+10*k+3
def P64:Int:=10^64
def P34:Int:=10^34
def a0h:Int:=P64*P34
def sgn (x:Int):Int:=if 0<x then 1 else if x<0 then-1 else 0
def F7:List D->R D:=v4 λa b c d=>v1 λx y z=>uZ (if UI 50000000 a b c/\UI 50000000 x y z then .ok (.int (sgn<|a*x+b*y+c*z-d))else .bad)
def CF (h1:UI 50000000 a b c)(h2:UI 50000000 x y z):F7 [.tup [.int a,.int b,.int c,.int d],pt x y z]=.ok (.int (sgn (a*x+b*y+c*z-d))):=if_pos ⟨h1,h2⟩
def bw (i:Nat)(ρ:Ev):Nat:=match ρ[i]? with
 |some (.v (.int b))=>b.natAbs+2
 |_=>0
def vZ (ha:bits a<=n)(hb:bits b<=n):bits (aGl a b)<=n:=by
 refine DE ?_;have h1:=DU ha;have h2:=DU hb;have e:((aGl a b:Nat):Int).natAbs=aGl a b:=by simp
 rw[e];unfold aGl;rcases Nat.eq_zero_or_pos a.natAbs with z|z
 ·rw[z,Nat.gcd_zero_left];exact h2
 ·exact aDd (Nat.gcd_le_left _ z) h1
end M
namespace G
def w5 (v:V):v-v=0:=ext (by simp) (by simp) (by simp)
def dU (a u:V):i9 a u 0=0:=by simp[i9,c9]
def G1 (a u v:V):i9 a u (-v)=-i9 a u v:=by simp[i9,c9];grind
def Z8 (a u v:V):i9 a (-u) v=-i9 a u v:=by simp[i9,c9];grind
structure Row (n:V)(Pos:V->Prop)(T:V->Prop):Prop where
 cone:Cone Pos
 nz:n≠0
 pl:∀X Y,T X->T Y->c9 n (X-Y)=0
 tot:∀X Y,T X->T Y->X=Y\/Pos (X-Y)\/Pos (Y-X)
def Lft (n:V)(Pos:V->Prop)(a b X:V):Prop:=0<=i9 n (b-a) (X-a)/\(i9 n (b-a) (X-a)=0->(X=a\/Pos (X-a))/\(X=b\/Pos (b-X)))
def turn (n P Q R:V):Int:=i9 n (Q-P) (R-Q)
def V8 (n P:V):List V->List V
 |b::a::r=>if turn n a b P<=0 then V8 n P (a::r)else b::a::r
 |r=>r
def y9 (n:V)(ps:List V):List V:=ps.foldl (λc P=>P::V8 n P c) []
def B9:List V->List (V×V)
 |b::a::r=>(a,b)::B9 (a::r)
 |_=>[]
def qW (n:V):List V->Prop
 |b::a::a'::r=>0<i9 n (a-a') (b-a)/\qW n (a::a'::r)
 |_=>True
def qW.tail (h:qW n (b::r)):qW n r:=by
 match r,h with
 |[],_=>trivial
 |[_],_=>trivial
 |_::_::_,h=>exact h.2
def M5 (h:e∈B9 r):e∈B9 (b::r):=by
 match r,h with
 |a::r,h=>exact aAe _ h
section
variable{n:V} {Pos:V->Prop} {T:V->Prop} (F:Row n Pos T)
include F
structure ChOk (n:V)(Pos:V->Prop)(done:V->Prop)(c:List V):Prop where
 mem:∀X∈c,done X
 ed:∀e∈B9 c,Pos (e.2-e.1)/\∀X,done X->Lft n Pos e.1 e.2 X
 bend:qW n c
 last:∀X,done X->∀z,c.getLast?=some z->X=z\/Pos (X-z)
theorem Row.ac6 {done:V->Prop}(hd:∀X,done X->T X)(hx:Pos x)(hn:c9 n x=0):∀(c:List V),(∀X∈c,done X)->(∀e∈B9 c,Pos (e.2-e.1))->qW n c->(∀b a r,c=b::a::r->0<i9 n (b-a) x)->∀e∈B9 c,0<i9 n (e.2-e.1) x
 |[],_,_,_,_,e,he=>by cases he
 |[_],_,_,_,_,e,he=>by cases he
 |[b,a],_,_,_,h,e,he=>by simp[B9]at he;subst he;exact h b a [] rfl
 |b::a::a'::r,hm,hp,hb,h,e,he=>by
  have hba:=h b a _ rfl;rcases aAd.mp he with q|q
  ·subst q;exact hba
  ·refine Row.ac6 hd hx hn (a::a'::r) (λX hX=>hm X (aAe _ hX)) (λe he=>hp e (M5 he)) hb.tail ?_ e q;intro b1 a1 r1 e1;injection e1 with e1 e2;injection e2 with e2 e3;subst e1 e2;have p1:=hp (a',a) (M5 (by simp[B9]));have p2:=hp (a,b) (by simp[B9]);exact F.cone.tr p1 p2 hx (B8 F.nz (F.pl _ _ (hd _ (hm _ (by simp))) (hd _ (hm _ (by simp)))) (F.pl _ _ (hd _ (hm _ (by simp))) (hd _ (hm _ (by simp)))) hn) hb.1 (aAF hba)
theorem Row.weak (hu:Pos u)(hv:Pos v)(hw:Pos w)(pu:c9 n u=0)(pv:c9 n v=0)(pw:c9 n w=0)(h1:0<=i9 n u v)(h2:0<=i9 n v w):0<=i9 n u w:=by
 have hf:=B8 F.nz pu pv pw;by_cases z1:0<i9 n u v
 ·exact aAF (F.cone.tr hu hv hw hf z1 h2)
 ·by_cases z2:0<i9 n v w
  ·exact aAF (F.cone.tr' hu hv hw hf h1 z2)
  ·have e1:i9 n u v=0:=by lia
   have e2:i9 n v w=0:=by lia
   have h:=zI n u v w;rw[e1,e2,hf,u4,u4,u4,fP,fP]at h;by_cases z:i9 n w u=0
   ·rw[k7];lia
   ·exfalso;have e:v=0:=by have hx:=congrArg V.x h;have hy:=congrArg V.y h;have hz:=congrArg V.z h;simp at hx hy hz;exact ext ((aAq.mp hx).resolve_left z) ((aAq.mp hy).resolve_left z) ((aAq.mp hz).resolve_left z)
    rw[e]at hv;exact F.cone.irr hv
theorem Row.ad2 {done:V->Prop}(hd:∀X,done X->T X)(hP:T P)(ai:∀X,done X->Pos (P-X)):∀(c:List V),ChOk n Pos done c->c≠[]->
  (∀X q,c.head?=some q->done X->(X=q\/Pos (X-q))->0<=i9 n (P-q) (X-q))->
  ∃q r,V8 n P c=q::r/\ChOk n Pos done (q::r)/\(∀X,done X->(X=q\/Pos (X-q))->0<=i9 n (P-q) (X-q))/\∀a r',r=a::r'->0<turn n a q P
 |[],_,h,_=>absurd rfl h
 |[b],ok,_,hh=>⟨b,[],rfl,ok,λX hX h=>hh X b rfl hX h,λa r' e=>by cases e⟩
 |b::a::r,ok,_,hh=>by
  by_cases ht:turn n a b P<=0
  ·have e:V8 n P (b::a::r)=V8 n P (a::r):=by rw[V8,if_pos ht]
   rw[e];have db:=ok.mem b (by simp);have da:=ok.mem a (by simp);have eb:=ok.ed (a,b) (by simp[B9]);refine Row.ad2 hd hP ai (a::r) ⟨λX hX=>ok.mem X (aAe _ hX),λe he=>ok.ed e (M5 he),ok.bend.tail,λX hX z hz=>ok.last X hX z (by rw[aBf];exact hz)⟩ (by simp) ?_;intro X q hq hX hXq;have hq':a=q:=aAj hq;subst hq';have hu:Pos (b-a):=eb.1;have hp:Pos (P-b):=ai b db;have nu:Pos (P-a):=ai a da;have pu:c9 n (b-a)=0:=F.pl _ _ (hd _ db) (hd _ da);have pp:c9 n (P-b)=0:=F.pl _ _ hP (hd _ db);have ppa:c9 n (P-a)=0:=F.pl _ _ hP (hd _ da);unfold turn at ht;have hpu:0<=i9 n (P-b) (b-a):=by rw[k7];lia
   rcases F.tot X b (hd X hX) (hd b db)with z|z|z
   ·
    subst z;have e1:P-a=(P-X)+(X-a):=ext (by simp;lia) (by simp;lia) (by simp;lia);rw[e1,Z2,B0];lia
   ·
    have hx:=hh X b rfl hX (.inr z);have px:c9 n (X-b)=0:=F.pl _ _ (hd _ hX) (hd _ db);have hPX:Pos (P-X):=ai X hX;have key:i9 n (P-a) (X-a)*(P-b)=i9 n (P-b) (X-b)*(P-a)+i9 n (P-b) (b-a)*(P-X):=by
     have hr:=zI n (b-a) (X-b) (P-b);rw[B8 F.nz pu px pp,u4]at hr;have e1:P-a=(b-a)+(P-b):=ext (by simp;lia) (by simp;lia) (by simp;lia);have e2:X-a=(b-a)+(X-b):=ext (by simp;lia) (by simp;lia) (by simp;lia);have e3:P-X=(P-b)-(X-b):=ext (by simp;lia) (by simp;lia) (by simp;lia);rw[e1,e2,e3];generalize b-a=u at*
     generalize X-b=x at*
     generalize P-b=p at*
     rw[Z2,Z4,Z4,B0];have hx:=congrArg V.x hr;have hy:=congrArg V.y hr;have hz:=congrArg V.z hr;rw[k7 n p x]at hr hx hy hz;simp at hx hy hz;have s1:=k7 n p x;have s2:=k7 n p u;have s3:=k7 n u x;apply ext<;>simp<;>grind
    by_cases zz:0<=i9 n (P-a) (X-a)
    ·exact zz
    ·exfalso;have h1:Pos ((-i9 n (P-a) (X-a))*(P-b)):=F.cone.mul (by lia) hp;have h2:Pos (-i9 n (P-a) (X-a)*(P-b)+(i9 n (P-b) (X-b)*(P-a)+i9 n (P-b) (b-a)*(P-X))):=by
      by_cases y1:i9 n (P-b) (X-b)=0
      ·rw[y1,u4,fP];by_cases y2:i9 n (P-b) (b-a)=0
       ·rw[y2,u4,nU];exact h1
       ·exact F.cone.add h1 (F.cone.mul (by lia) hPX)
      ·exact F.cone.add h1 (F.cone.comb (by lia) hpu nu hPX)
     rw[<-key]at h2;have e0:-i9 n (P-a) (X-a)*(P-b)+i9 n (P-a) (X-a)*(P-b)=0:=by apply ext<;>simp<;>grind
     rw[e0]at h2;exact F.cone.irr h2
   ·
    rcases hXq with hXa|hXa
    ·subst hXa;rw[w5,dU];exact aCm _
    ·have hl:=(eb.2 X hX).1;have hpu':0<=i9 n (P-a) (b-a):=by have e1:P-a=(P-b)+(b-a):=ext (by simp;lia) (by simp;lia) (by simp;lia);rw[e1,Z2,B0];lia
     exact F.weak nu hu hXa ppa pu (F.pl _ _ (hd _ hX)<|hd _ da) hpu' hl
  ·have e:V8 n P (b::a::r)=b::a::r:=by rw[V8,if_neg ht]
   refine⟨b,a::r,e,ok,λX hX h=>hh X b rfl hX h,λa' r' e'=>?_⟩;injection e' with e1 _;subst e1
   lia
theorem Row.push {done:V->Prop}(hd:∀X,done X->T X)(hP:T P)(ai:∀X,done X->Pos (P-X))(ok:ChOk n Pos done c)(hc:c≠[])(hh:∀X q,c.head?=some q->done X->X=q\/Pos (q-X)):
  ChOk n Pos (λX=>done X\/X=P) (P::V8 n P c):=by
 obtain⟨q,r,e,kr,hq,ht⟩:=F.ad2 hd hP ai c ok hc (λX q hq hX h=>by
  rcases h with h|h
  ·subst h;rw[w5,dU];exact aCm _
  ·exfalso;rcases hh X q hq hX with z|z
   ·subst z;rw[w5]at h;exact F.cone.irr h
   ·have:=F.cone.add h z;have e0:X-q+(q-X)=0:=ext (by simp;lia) (by simp;lia) (by simp;lia);rw[e0]at this;exact F.cone.irr this)
 rw[e];have dq:=kr.mem q (by simp);have hpq:Pos (P-q):=ai q dq;have ppq:c9 n (P-q)=0:=F.pl _ _ hP (hd _ dq);refine⟨λX hX=>?_,λg he=>?_,?_,λX hX z hz=>?_⟩
 ·rcases aAd.mp hX with h|h
  ·exact .inr h
  ·exact .inl (kr.mem X h)
 ·rcases aAd.mp he with h|h
  ·subst h;refine⟨hpq,λX hX=>?_⟩;rcases hX with hX|hX
   ·rcases F.tot X q (hd _ hX) (hd _ dq)with z|z|z
    ·subst z;exact⟨by rw[w5,dU];exact aCm _,λ_=>⟨.inl rfl,.inr hpq⟩⟩
    ·exact⟨hq X hX (.inr z),λ_=>⟨.inr z,.inr (ai X hX)⟩⟩
    ·
     have:0<i9 n (P-q) (X-q):=by
      match r,ht,kr with
      |[],_,kr=>
       rcases kr.last X hX q rfl with y|y
       ·subst y;rw[w5]at z;exact absurd z F.cone.irr
       ·exfalso;have:=F.cone.add y z;have e0:X-q+(q-X)=0:=ext (by simp;lia) (by simp;lia) (by simp;lia);rw[e0]at this;exact F.cone.irr this
      |a::r',ht,kr=>
       have h1:=ht a r' rfl;unfold turn at h1;have da:=kr.mem a (by simp);have ea:=kr.ed (a,q) (by simp[B9]);have hl:=(ea.2 X hX).1;have e1:X-a=(q-a)-(q-X):=ext (by simp;lia) (by simp;lia) (by simp;lia);dsimp only at hl;rw[e1,LH,B0]at hl;have gu:0<=i9 n (q-X) (q-a):=by rw[k7];lia
       have:=F.cone.tr' (a:=n) z ea.1 hpq (B8 F.nz (F.pl _ _ (hd _ dq)<|hd _ hX) (F.pl _ _ (hd _ dq)<|hd _ da) ppq) gu h1;have e2:X-q=-(q-X):=ext (by simp;lia) (by simp;lia) (by simp;lia);rw[e2,G1,k7];lia
     exact⟨aAF this,λz=>by dsimp only at z;lia⟩
   ·subst hX;exact⟨by rw[B0];exact aCm _,λ_=>⟨.inr hpq,.inl rfl⟩⟩
  ·
   have hed:=kr.ed g h;refine⟨hed.1,λX hX=>?_⟩;rcases hX with hX|hX
   ·exact hed.2 X hX
   ·subst hX;have h1:=F.ac6 hd hpq ppq (q::r) kr.mem (λe he=>(kr.ed e he).1) kr.bend (λb a r' e'=>by injection e' with e1 e2;subst e1;exact ht a r' e2) g h
    have h2:=(hed.2 q dq).1;have:0<i9 n (g.2-g.1) (X-g.1):=by have e1:X-g.1=(q-g.1)+(X-q):=ext (by simp;lia) (by simp;lia) (by simp;lia);rw[e1,Z4];lia
    exact⟨aAF this,λz=>by lia⟩
 ·match r,ht,kr with
  |[],_,_=>trivial
  |a::r',ht,kr=>exact⟨ht a r' rfl,kr.bend⟩
 ·rcases hX with hX|hX
  ·exact kr.last X hX z (by rw[aBf]at hz;exact hz)
  ·subst hX;have hz':(q::r).getLast?=some z:=by rw[aBf]at hz;exact hz
   exact .inr (ai z<|kr.mem z<|aEq hz')
end
end G
namespace G
section
variable{n:V} {Pos:V->Prop} {T:V->Prop} (F:Row n Pos T)
include F
theorem ChOk.congr {done zi:V->Prop}(ok:ChOk n Pos done c)(h:∀X,done X↔zi X):ChOk n Pos zi c:=
 ⟨λX hX=>(h X).mp (ok.mem X hX),λe he=>⟨(ok.ed e he).1,λX hX=>(ok.ed e he).2 X ((h X).mpr hX)⟩,ok.bend,λX hX=>ok.last X ((h X).mpr hX)⟩
theorem Row.fold:∀(rest:List V) (done:V->Prop) (c:List V),ChOk n Pos done c->c≠[]->(∀X q,c.head?=some q->done X->X=q\/Pos (q-X))->(∀X,done X->T X)->(∀X∈rest,T X)->
  (∀X Y,done X->Y∈rest->Pos (Y-X))->rest.Pairwise (λa b=>Pos (b-a))->
  ChOk n Pos (λX=>done X\/X∈rest) (rest.foldl (λc P=>P::V8 n P c) c)/\rest.foldl (λc P=>P::V8 n P c) c≠[]/\(∀X q,(rest.foldl (λc P=>P::V8 n P c) c).head?=some q->(done X\/X∈rest)->X=q\/Pos (q-X))
 |[],done,c,ok,hc,hh,hd,ht,ai,hs=>⟨ChOk.congr F ok λX=>by simp,hc,λX q hq hX=>by
   rcases hX with hX|hX
   ·exact hh X q hq hX
   ·cases hX⟩
 |P::rest,done,c,ok,hc,hh,hd,ht,ai,hs=>by
  have hP:=ht P (by simp);have kr:=F.push hd hP (λX hX=>ai X P hX (by simp)) ok hc hh;have jd:=aAy.mp hs;obtain⟨h1,h2,h3⟩:=Row.fold rest (λX=>done X\/X=P) (P::V8 n P c) kr (by simp) (λX q hq hX=>by
    have hq':P=q:=aAj hq;subst hq';rcases hX with hX|hX
    ·exact .inr (ai X P hX (by simp))
    ·exact .inl hX) (λX hX=>by
    rcases hX with hX|hX
    ·exact hd X hX
    ·subst hX;exact hP) (λX hX=>ht X (aAe _ hX)) (λX Y hX hY=>by
    rcases hX with hX|hX
    ·exact ai X Y hX (aAe _ hY)
    ·subst hX;exact jd.1 Y hY) jd.2
  have e:∀X,((done X\/X=P)\/X∈rest)↔(done X\/X∈P::rest):=λX=>by simp[or_assoc]
  exact⟨ChOk.congr F h1 e,h2,λX q hq hX=>h3 X q hq ((e X).mpr hX)⟩
theorem Row.ac8 (ae:ps≠[])(ht:∀X∈ps,T X)(hs:ps.Pairwise (λa b=>Pos (b-a))):
  ChOk n Pos (λX=>X∈ps) (y9 n ps)/\y9 n ps≠[]/\(∀X q,(y9 n ps).head?=some q->X∈ps->X=q\/Pos (q-X)):=by
 match ps,ae with
 |p::rest,_=>
  have jd:=aAy.mp hs;have ok:ChOk n Pos (λX=>X=p) [p]:=⟨λX hX=>by simpa using hX,λe he=>by simp[B9]at he,trivial,λX hX z hz=>by simp at hz;subst hz;exact .inl hX⟩
  obtain⟨h1,h2,h3⟩:=F.fold rest (λX=>X=p) [p] ok (by simp) (λX q hq hX=>by have hq':p=q:=aAj hq;subst hq';exact .inl hX) (λX hX=>by subst hX;exact ht _ (by simp)) (λX hX=>ht X (aAe _ hX)) (λX Y hX hY=>by subst hX;exact jd.1 Y hY) jd.2
  have e:∀X,(X=p\/X∈rest)↔X∈p::rest:=λX=>by simp
  refine⟨ChOk.congr F h1 e,h2,λX q hq hX=>h3 X q hq ((e X).mpr hX)⟩
end
def k9 (n:V)(ts:List V):List V:=(y9 n ts).reverse.dropLast++(y9 n ts.reverse).reverse.dropLast
def q8:List V->List (V×V)
 |a::b::r=>(a,b)::q8 (b::r)
 |_=>[]
theorem kT:∀(l:List V) (a b:V),q8 (l++[a]++[b])=q8 (l++[a])++[(a,b)]
 |[],a,b=>rfl
 |[x],a,b=>rfl
 |x::y::l,a,b=>by have:=kT (y::l) a b;simp only[aAV,q8]at this⊢;rw[this]
theorem fS:∀c:List V,q8 c.reverse=(B9 c).reverse
 |[]=>rfl
 |[_]=>rfl
 |b::a::r=>by
  have ih:=fS (a::r);rw[aAK,aAK]at*
  rw[kT,ih,B9,aAK]
theorem lN:∀(l:List V) (a:V) (m:List V),q8 (l++a::m)=q8 (l++[a])++q8 (a::m)
 |[],a,m=>by cases m<;>rfl
 |[x],a,m=>rfl
 |x::y::l,a,m=>by have:=lN (y::l) a m;simp only[aAV,q8]at this⊢;rw[this]
def T5 (l:List V):List (V×V):=l.zip (l.tail++l.take 1)
theorem nN:∀(l:List V) (z:V),l.zip (l.tail++[z])=q8 (l++[z])
 |[],z=>rfl
 |[a],z=>rfl
 |a::b::r,z=>by have:=nN (b::r) z;simp only[List.tail_cons,aAV,q8,aBM]at this⊢;rw[this]
def T9:T5 (a::l)=q8 (a::l++[a]):=nN (a::l) a
def KS (h1:y9 n ts=M::c)(h2:y9 n ts.reverse=m::d)(h3:(M::c).getLast?=some m)(h4:(m::d).getLast?=some M)(hc:c≠[]):
  T5 (k9 n ts)=(B9 (y9 n ts)).reverse++(B9 (y9 n ts.reverse)).reverse:=by
 rw[<-fS,<-fS];unfold k9;rw[h1,h2,aAK,aAK,aBC,aBC];have e1:∃c',c.reverse=m::c':=by
  have:c.getLast?=some m:=by
   match c,hc with
   |x::c,_=>rw[aBf]at h3;exact h3
  rw[<-aER]at this;match hh:c.reverse,this with
  |x::r,this=>exact⟨r,by rw[show x=m from aAj this]⟩
 obtain⟨c',e1⟩:=e1;have e2:∃d',d.reverse++[m]=M::d':=by
  have:(m::d).reverse.head?=some M:=by rw[aER];exact h4
  rw[aAK]at this;match hh:d.reverse++[m],this with
  |x::r,this=>exact⟨r,by rw[show x=M from aAj this]⟩
 obtain⟨d',e2⟩:=e2;have e3:c.reverse++d.reverse=m::(c'++d.reverse):=by rw[e1];rfl
 rw[e3,T9];have e4:m::(c'++d.reverse)++[m]=c.reverse++(d.reverse++[m]):=by rw[e1];simp
 rw[e4,e2,lN]
end G
namespace G
def p5 (a b:V):-(a-b)=b-a:=ext (by simp;lia) (by simp;lia) (by simp;lia)
def w9:Q9 (a-b)↔i7 (b-a):=by unfold Q9;rw[p5]
def O6 (h:i7 (a-a)):False:=by rw[w5]at h;exact A4.irr h
def x4 (h:i7 (a-b))(h':i7 (b-a)):False:=by have:=A4.add h h';have e0:a-b+(b-a)=0:=ext (by simp;lia) (by simp;lia) (by simp;lia);rw[e0]at this;exact A4.irr this
def W8 (a b:V):a=b\/i7 (a-b)\/i7 (b-a):=by
 rcases SK (a-b)with h|h|h
 ·exact .inr (.inl h)
 ·refine .inl (ext ?_ ?_ ?_)
  ·have:=congrArg V.x h;simp at this;lia
  ·have:=congrArg V.y h;simp at this;lia
  ·have:=congrArg V.z h;simp at this;lia
 ·exact .inr (.inr (w9.mp h))
def gz (P Q X:V):Prop:=(i7 (Q-P)->(X=P\/i7 (X-P))/\(X=Q\/i7 (Q-X)))/\(i7 (P-Q)->(X=P\/i7 (P-X))/\(X=Q\/i7 (X-Q)))
structure EdgeOf (n:V)(T:V->Prop)(P Q:V):Prop where
 p:T P
 q:T Q
 ne:P≠Q
 left:∀X,T X->0<=i9 n (Q-P) (X-P)
 btw:∀X,T X->i9 n (Q-P) (X-P)=0->gz P Q X
section
variable{n:V} {T:V->Prop}
def EdgeOf.next (h:EdgeOf n T P Q)(h':EdgeOf n T P R):Q=R:=by
 have h1:=h.left R h'.q;have h2:=h'.left Q h.q;rw[k7]at h2;have z1:i9 n (Q-P) (R-P)=0:=by lia
 have z2:i9 n (R-P) (Q-P)=0:=by rw[k7];lia
 have b1:=h.btw R h'.q z1;have b2:=h'.btw Q h.q z2;rcases W8 Q P with e|e|e
 ·exact absurd e.symm h.ne
 ·have c1:=b1.1 e;have c2:i7 (R-P):=c1.1.resolve_left (aBV h'.ne);rcases c1.2 with q|q
  ·exact q.symm
  ·rcases(b2.1 c2).2 with q'|q'
   ·exact q'
   ·exact(x4 q q').elim
 ·have c1:=b1.2 e;have c2:i7 (P-R):=c1.1.resolve_left (aBV h'.ne);rcases c1.2 with q|q
  ·exact q.symm
  ·rcases(b2.2 c2).2 with q'|q'
   ·exact q'
   ·exact(x4 q q').elim
def oM (n P Q X:V):i9 n (Q-P) (X-P)=i9 n (Q-P) (X-Q):=by have e:X-P=(X-Q)+(Q-P):=ext (by simp;lia) (by simp;lia) (by simp;lia);rw[e,Z4,B0];lia
end
theorem AW {Pos:V->Prop}(X:V):∀(c:List V),(∀Y∈c,X=Y\/Pos (X-Y)\/Pos (Y-X))->(∀q,c.head?=some q->X=q\/Pos (q-X))->(∀z,c.getLast?=some z->X=z\/Pos (X-z))->c≠[]->
  (∀u,Pos u->Pos (-u)->False)->X∈c\/∃a b,(a,b)∈B9 c/\Pos (X-a)/\Pos (b-X)
 |[],_,_,_,h,_=>absurd rfl h
 |[q],_,h1,h2,_,as=>by
  rcases h1 q rfl with e|e
  ·exact .inl (by simp[e])
  ·rcases h2 q rfl with e'|e'
   ·exact .inl (by simp[e'])
   ·exact(as _ e (by rw[p5];exact e')).elim
 |b::a::r,ht,h1,h2,_,as=>by
  rcases h1 b rfl with e|e
  ·exact .inl (by simp[e])
  ·rcases ht a (by simp)with y|y|y
   ·exact .inl (by simp[y])
   ·exact .inr ⟨a,b,by simp[B9],y,e⟩
   ·rcases AW X (a::r) (λY hY=>ht Y (aAe _ hY)) (λq hq=>by have:a=q:=aAj hq;subst this;exact .inr y) (λz hz=>h2 z (by rw[aBf];exact hz)) (by simp) as with h|⟨a',b',h,h'⟩
    ·exact .inl (aAe _ h)
    ·exact .inr ⟨a',b',M5 h,h'⟩
def Row.ad0 {Pos:V->Prop}{T:V->Prop}(F:Row n Pos T)(ha:T a)(hb:T b)(hP:T P)(hQ:T Q)(h1:Pos (P-a))(h2:Pos (b-P))(h3:Pos (Q-P))(h4:0<=i9 n (b-a) (P-a))(h5:0<i9 n (Q-P) (a-P))(h6:0<=i9 n (Q-P) (b-P)):False:=by
 have e1:i9 n (Q-P) (a-P)=i9 n (P-a) (Q-P):=by have e:a-P=-(P-a):=(p5 _ _).symm;rw[e,G1,k7];lia
 rw[e1]at h5;have:=F.cone.tr h1 h3 h2 (B8 F.nz (F.pl _ _ hP ha) (F.pl _ _ hQ hP)<|F.pl _ _ hb hP) h5 h6;have e2:b-a=(b-P)+(P-a):=ext (by simp;lia) (by simp;lia) (by simp;lia);rw[e2,Z2,B0,k7]at h4
 lia
structure Sheet (n:V)(ts:List V):Prop where
 nz:n≠0
 pl:∀X∈ts,∀Y∈ts,c9 n (X-Y)=0
 ord:ts.Pairwise (λa b=>i7 (b-a))
 two:∃X∈ts,∃Y∈ts,X≠Y
section
variable{n:V} {ts:List V} (S:Sheet n ts)
include S
theorem Sheet.row:Row n i7 (λX=>X∈ts):=⟨A4,S.nz,λX Y hX hY=>S.pl X hX Y hY,λX Y _ _=>W8 X Y⟩
theorem Sheet.ae3:Row n Q9 (λX=>X∈ts):=⟨gT,S.nz,λX Y hX hY=>S.pl X hX Y hY,λX Y _ _=>by
 rcases W8 X Y with h|h|h
 ·exact .inl h
 ·exact .inr (.inr (w9.mpr h))
 ·exact .inr (.inl (w9.mpr h))⟩
theorem Sheet.ne:ts≠[]:=by obtain⟨X,hX,_⟩:=S.two;intro e;rw[e]at hX;cases hX
theorem Sheet.ab3:ChOk n i7 (λX=>X∈ts) (y9 n ts)/\y9 n ts≠[]/\(∀X q,(y9 n ts).head?=some q->X∈ts->X=q\/i7 (q-X)):=
 S.row.ac8 S.ne (λ_ h=>h) S.ord
theorem Sheet.ab6:ChOk n Q9 (λX=>X∈ts) (y9 n ts.reverse)/\y9 n ts.reverse≠[]/\(∀X q,(y9 n ts.reverse).head?=some q->X∈ts->X=q\/Q9 (q-X)):=by
 have h:=S.ae3.ac8 (ps:=ts.reverse) (by simpa using S.ne) (λX h=>by simpa using h) (by rw[aEf];exact S.ord.imp λh=>w9.mpr h)
 obtain⟨h1,h2,h3⟩:=h;exact⟨ChOk.congr S.ae3 h1 λX=>by simp,h2,λX q hq hX=>h3 X q hq (by simpa using hX)⟩
theorem Sheet.ae9 (h:(a,b)∈B9 (y9 n ts))(ha:a∈ts)(hb:b∈ts):EdgeOf n (λX=>X∈ts) a b/\i7 (b-a):=by obtain⟨e1,e2⟩:=S.ab3.1.ed _ h;dsimp only at e1 e2;refine⟨⟨ha,hb,λe=>by subst e;exact O6 e1,λX hX=>(e2 X hX).1,λX hX z=>⟨λ_=>(e2 X hX).2 z,λy=>(x4 e1 y).elim⟩⟩,e1⟩
theorem Sheet.ae8 (h:(a,b)∈B9 (y9 n ts.reverse))(ha:a∈ts)(hb:b∈ts):EdgeOf n (λX=>X∈ts) a b/\i7 (a-b):=by obtain⟨e1,e2⟩:=S.ab6.1.ed _ h;dsimp only at e1 e2;have zd:=w9.mp e1;refine⟨⟨ha,hb,λe=>by subst e;exact O6 zd,λX hX=>(e2 X hX).1,λX hX z=>⟨λy=>(x4 zd y).elim,λ_=>?_⟩⟩,zd⟩;obtain⟨q1,q2⟩:=(e2 X hX).2 z;exact⟨q1.imp id w9.mp,q2.imp id w9.mp⟩
theorem T4 (h:(a,b)∈B9 c):a∈c/\b∈c:=by
 induction c with
 |nil=>cases h
 |cons x c ih=>
  match c,h,ih with
  |[],h,_=>cases h
  |y::r,h,ih=>
   rcases aAd.mp h with e|e
   ·cases e;simp
   ·have:=ih e;exact⟨aAe _ this.1,aAe _ this.2⟩
theorem Sheet.ends:∃m M c d,m∈ts/\M∈ts/\i7 (M-m)/\(∀X∈ts,X=m\/i7 (X-m))/\(∀X∈ts,X=M\/i7 (M-X))/\y9 n ts=M::c/\y9 n ts.reverse=m::d/\(M::c).getLast?=some m/\(m::d).getLast?=some M/\c≠[]/\d≠[]:=by
 obtain⟨o1,n1,h1⟩:=S.ab3;obtain⟨o2,n2,h2⟩:=S.ab6;obtain⟨M,c,e1⟩:=aEI n1;obtain⟨m,d,e2⟩:=aEI n2;have hM:M∈ts:=o1.mem M (by rw[e1];simp);have hm:m∈ts:=o2.mem m (by rw[e2];simp);have lM:∀X∈ts,X=M\/i7 (M-X):=λX hX=>h1 X M (by rw[e1];rfl) hX;have lm:∀X∈ts,X=m\/i7 (X-m):=λX hX=>(h2 X m (by rw[e2];rfl) hX).imp id w9.mp;obtain⟨z,hz⟩:∃z,(M::c).getLast?=some z:=by simp[aES]
 obtain⟨y,hy⟩:∃z,(m::d).getLast?=some z:=by simp[aES]
 have zm:z=m:=by
  have zt:z∈ts:=o1.mem z (by rw[e1];exact aEq hz);rcases o1.last m hm z (by rw[e1];exact hz)with e|e
  ·exact e.symm
  ·rcases lm z zt with e'|e'
   ·exact e'
   ·exact(x4 e e').elim
 have yM:y=M:=by
  have yt:y∈ts:=o2.mem y (by rw[e2];exact aEq hy);rcases o2.last M hM y (by rw[e2];exact hy)with e|e
  ·exact e.symm
  ·rcases lM y yt with e'|e'
   ·exact e'
   ·exact(x4 (w9.mp e) e').elim
 subst zm yM;have mM:i7 (y-z):=by
  obtain⟨X,hX,Y,hY,ne⟩:=S.two;rcases lm y hM with e|e
  ·exfalso;subst e;have k:∀W∈ts,W=y:=λW hW=>by
    rcases lm W hW with e|e
    ·exact e
    ·rcases lM W hW with e'|e'
     ·exact e'
     ·exact(x4 e e').elim
   exact ne ((k X hX).trans (k Y hY).symm)
  ·exact e
 refine⟨z,y,c,d,hm,hM,mM,lm,lM,e1,e2,hz,hy,λe=>?_,λe=>?_⟩
 ·subst e;have:y=z:=by simpa using hz
  subst this;exact O6 mM
 ·subst e;have:z=y:=by simpa using hy
  subst this;exact O6 mM
theorem Sheet.pair (h:(P,Q)∈T5 (k9 n ts)):EdgeOf n (λX=>X∈ts) P Q:=by
 obtain⟨m,M,c,d,hm,hM,mM,lm,lM,e1,e2,h3,h4,hc,hd⟩:=S.ends;rw[KS e1 e2 h3 h4 hc,aAS,aCY,aCY]at h;rcases h with h|h
 ·have:=T4 S h;exact(S.ae9 h (S.ab3.1.mem _ this.1)<|S.ab3.1.mem _ this.2).1
 ·have:=T4 S h;exact(S.ae8 h (S.ab6.1.mem _ this.1)<|S.ab6.1.mem _ this.2).1
theorem aX (h:P∈l):∃Q,(P,Q)∈T5 l:=by
 obtain⟨i,hi,e⟩:=aAZ h;have hl:l.length=(l.tail++l.take 1).length:=by
  match l,hi with
  |a::l,_=>simp
 refine⟨(l.tail++l.take 1)[i]'(by lia),?_⟩;unfold T5;refine List.mem_of_getElem (i:=i) (h:=by rw[List.length_zip];lia) ?_;rw[List.getElem_zip,e]
theorem Sheet.ac3 (h:EdgeOf n (λX=>X∈ts) P Q):P∈k9 n ts:=by
 obtain⟨m,M,c,d,hm,hM,mM,lm,lM,e1,e2,h3,h4,hc,hd⟩:=S.ends;obtain⟨o1,n1,t1⟩:=S.ab3;obtain⟨o2,n2,t2⟩:=S.ab6;unfold k9;rw[aAS,e1,e2,aAK,aAK,aBC,aBC,aCY,aCY];rcases W8 Q P with e|e|e
 ·exact absurd e.symm h.ne
 ·
  left;rcases AW (Pos:=i7) P (y9 n ts) (λY _=>W8 P Y) (λq hq=>t1 P q hq h.p) (λz hz=>o1.last P h.p z hz) n1 (λu a b=>by have:=A4.add a b;have e0:u+-u=0:=ext (by simp;lia) (by simp;lia) (by simp;lia);rw[e0]at this;exact A4.irr this)with r|⟨a,b,r,r1,r2⟩
  ·rw[e1]at r;rcases aAd.mp r with q|q
   ·subst q;rcases lM Q h.q with y|y
    ·exact absurd y.symm h.ne
    ·exact(x4 e y).elim
   ·exact q
  ·exfalso;have mm:=T4 S r;have ta:=o1.mem _ mm.1;have tb:=o1.mem _ mm.2;have z5:=h.left a ta;have z5':i9 n (Q-P) (a-P)≠0:=λz=>by
    rcases((h.btw a ta z).1 e).1 with y|y
    ·subst y;exact O6 r1
    ·exact x4 r1 y
   exact S.row.ad0 ta tb h.p h.q r1 r2 e ((o1.ed _ r).2 P h.p).1 (by lia) (h.left b tb)
 ·right;rcases AW (Pos:=Q9) P (y9 n ts.reverse) (λY _=>S.ae3.tot P Y h.p (by rename_i hY;exact o2.mem Y hY)) (λq hq=>t2 P q hq h.p) (λz hz=>o2.last P h.p z hz) n2 (λu a b=>by have:=gT.add a b;have e0:u+-u=0:=ext (by simp;lia) (by simp;lia) (by simp;lia);rw[e0]at this;exact gT.irr this)with r|⟨a,b,r,r1,r2⟩
  ·rw[e2]at r;rcases aAd.mp r with q|q
   ·subst q;rcases lm Q h.q with y|y
    ·exact absurd y.symm h.ne
    ·exact(x4 e y).elim
   ·exact q
  ·exfalso;have mm:=T4 S r;have ta:=o2.mem _ mm.1;have tb:=o2.mem _ mm.2;have z5:=h.left a ta;have r1':=w9.mp r1;have z5':i9 n (Q-P) (a-P)≠0:=λz=>by
    rcases((h.btw a ta z).2 e).1 with y|y
    ·subst y;exact O6 r1'
    ·exact x4 r1' y
   exact S.ae3.ad0 ta tb h.p h.q r1 r2 (w9.mpr e) ((o2.ed _ r).2 P h.p).1 (by lia) (h.left b tb)
theorem Sheet.aa1:(P,Q)∈T5 (k9 n ts)↔EdgeOf n (λX=>X∈ts) P Q:=by
 refine⟨S.pair,λh=>?_⟩;obtain⟨R,hR⟩:=aX S (S.ac3 h);have:=(S.pair hR).next h
 subst this;exact hR
end
end G
namespace G
theorem K1 {Pos:V->Prop}(C:Cone Pos):∀(c:List V),(∀e∈B9 c,Pos (e.2-e.1))->c.Pairwise (λb a=>Pos (b-a))
 |[],_=>aGk
 |[x],_=>aDP _ _
 |b::a::r,h=>by
  have ih:=K1 C (a::r) (λe he=>h e (M5 he));have h0:=h (a,b) (by simp[B9]);refine aAy.mpr ⟨λy hy=>?_,ih⟩;rcases aAd.mp hy with e|e
  ·subst e;exact h0
  ·have:=(aAy.mp ih).1 y e;have s:=C.add h0 this;have e0:b-a+(a-y)=b-y:=ext (by simp;lia) (by simp;lia) (by simp;lia);dsimp only at s
   rwa [e0]at s
theorem iV:∀{h:V} {c:List V} {X:V},X∈c->∃b,(X,b)∈B9 (h::c)
 |h,[],X,hX=>by cases hX
 |h,a::r,X,hX=>by
  rcases aAd.mp hX with e|e
  ·subst e;exact⟨h,by simp[B9]⟩
  ·obtain⟨b,hb⟩:=iV (h:=a) e;exact⟨b,M5 hb⟩
section
variable{n:V} {ts:List V} (S:Sheet n ts)
include S
theorem Sheet.aa3 (h:X∈k9 n ts):X∈ts:=by obtain⟨Q,hQ⟩:=aX S h;exact(S.pair hQ).p
theorem Sheet.aa4:(k9 n ts).Nodup:=by
 obtain⟨m,M,c,d,hm,hM,mM,lm,lM,e1,e2,h3,h4,hc,hd⟩:=S.ends;obtain⟨o1,n1,t1⟩:=S.ab3;obtain⟨o2,n2,t2⟩:=S.ab6;unfold k9;rw[e1,e2,aAK,aAK,aBC,aBC];have p1:=K1 A4 (y9 n ts) λe he=>(o1.ed e he).1;have p2:=K1 gT (y9 n ts.reverse) λe he=>(o2.ed e he).1;rw[e1]at p1;rw[e2]at p2;have q1:=(aAy.mp p1).2;have q2:=(aAy.mp p2).2;rw[aCR];refine⟨?_,?_,?_⟩
 ·rw[aBW,aEf];exact q1.imp λ{a b} h e=>by subst e;exact O6 h
 ·rw[aBW,aEf];exact q2.imp λ{a b} h e=>by subst e;exact O6 (w9.mp h)
 ·intro x hx y hy e;subst e;rw[aCY]at hx hy;obtain⟨b,hb⟩:=iV (h:=M) hx;obtain⟨b',iu⟩:=iV (h:=m) hy;rw[<-e1]at hb;rw[<-e2]at iu;have m1:=T4 S hb;have m2:=T4 S iu;obtain⟨g1,l1⟩:=S.ae9 hb (o1.mem _ m1.1) (o1.mem _ m1.2);obtain⟨g2,l2⟩:=S.ae8 iu (o2.mem _ m2.1) (o2.mem _ m2.2);have:=g1.next g2;subst this;exact x4 l1 l2
theorem Sheet.ab4:∃m r,k9 n ts=m::r/\m∈ts/\∀X∈ts,X=m\/i7 (X-m):=by
 obtain⟨m,M,c,d,hm,hM,mM,lm,lM,e1,e2,h3,h4,hc,hd⟩:=S.ends;have e3:∃c',c.reverse=m::c':=by
  have:c.getLast?=some m:=by
   match c,hc with
   |x::c,_=>rw[aBf]at h3;exact h3
  rw[<-aER]at this;match hh:c.reverse,this with
  |x::r,this=>exact⟨r,by rw[show x=m from aAj this]⟩
 obtain⟨c',e3⟩:=e3;refine⟨m,c'++d.reverse,?_,hm,lm⟩;unfold k9;rw[e1,e2,aAK,aAK,aBC,aBC,e3];rfl
theorem MP (h:Q∈l):∃P,(P,Q)∈T5 l:=by
 match l,h with
 |a::r,h=>
  have h':Q∈r++[a]:=by simpa[or_comm]using h
  obtain⟨i,hi,e⟩:=aAZ h';have eh:i<(a::r).length:=by simpa using hi
  refine⟨(a::r)[i],?_⟩;show _∈(a::r).zip (r++[a]);refine List.mem_of_getElem (i:=i) (h:=by rw[List.length_zip];simp;omega) ?_;rw[List.getElem_zip,e]
theorem sD (h:(P,Q)∈T5 l):P∈l/\Q∈l:=by
 have h':=aDN h;refine⟨h'.1,?_⟩;match l,h'.2 with
 |a::r,z=>simpa[or_comm]using z
theorem Sheet.strict (h:EdgeOf n (λX=>X∈ts) P Q)(hX:X∈k9 n ts)(h1:X≠P)(h2:X≠Q):0<i9 n (Q-P) (X-P):=by
 have tX:=S.aa3 hX;have h0:=h.left X tX;by_cases z:i9 n (Q-P) (X-P)=0
 ·exfalso;have b:=h.btw X tX z;obtain⟨Y,hY⟩:=aX S hX;have g:=S.pair hY;have l1:=g.left P h.p;have l2:=g.left Q h.q;rcases W8 Q P with e|e|e
  ·exact h.ne e.symm
  ·have b1:=b.1 e;have c1:=b1.1.resolve_left h1;have c2:=b1.2.resolve_left h2;have zz:i9 n (X-P) (Q-X)=0:=by have e1:Q-P=(Q-X)+(X-P):=ext (by simp;lia) (by simp;lia) (by simp;lia);rw[e1,Z2,B0,k7]at z;lia
   have l1':0<=i9 n (X-P) (Y-X):=by have e1:P-X=-(X-P):=(p5 _ _).symm;rw[e1,G1]at l1;rw[k7];lia
   rcases W8 Y X with y|y|y
   ·exact g.ne y.symm
   ·have w1:=S.row.weak c1 y c2 (S.pl _ tX _ h.p) (S.pl _ g.q _ tX) (S.pl _ h.q _ tX) l1' l2;by_cases p1:0<i9 n (X-P) (Y-X)
    ·have:=A4.tr c1 y c2 (B8 S.nz (S.pl _ tX _ h.p) (S.pl _ g.q _ tX)<|S.pl _ h.q _ tX) p1 l2
     lia
    ·have z1:i9 n (Y-X) (P-X)=0:=by have e1:P-X=-(X-P):=(p5 _ _).symm;rw[e1,G1,k7];lia
     rcases((g.btw P h.p z1).1 y).1 with k|k
     ·exact h1 k.symm
     ·exact x4 k c1
   ·have y':i7 (X-Y):=y;have m1:0<=i9 n (X-Y) (X-P):=by have e1:Y-X=-(X-Y):=(p5 _ _).symm;rw[e1,G1,k7]at l1';lia
    have m2:0<=i9 n (Q-X) (X-Y):=by have e1:Y-X=-(X-Y):=(p5 _ _).symm;rw[e1,Z8,k7]at l2;lia
    by_cases p1:0<i9 n (Q-X) (X-Y)
    ·have:=A4.tr c2 y' c1 (B8 S.nz (S.pl _ h.q _ tX) (S.pl _ tX _ g.q)<|S.pl _ tX _ h.p) p1 m1;rw[k7]at this;lia
    ·have z1:i9 n (Y-X) (Q-X)=0:=by have e1:Y-X=-(X-Y):=(p5 _ _).symm;rw[e1,Z8,k7];lia
     rcases((g.btw Q h.q z1).2 y').1 with k|k
     ·exact h2 k.symm
     ·exact x4 k c2
  ·have b1:=b.2 e;have c1:=b1.1.resolve_left h1;have c2:=b1.2.resolve_left h2;have zz:i9 n (P-X) (X-Q)=0:=by have e1:Q-P=-((P-X)+(X-Q)):=ext (by simp;lia) (by simp;lia) (by simp;lia);have e2:X-P=-(P-X):=(p5 _ _).symm;rw[e1,e2,Z8,G1,Z2,B0,k7]at z;lia
   rcases W8 Y X with y|y|y
   ·exact g.ne y.symm
   ·
    have m2:0<=i9 n (X-Q) (Y-X):=by have e1:Q-X=-(X-Q):=(p5 _ _).symm;rw[e1,G1,k7]at l2;lia
    by_cases p1:0<i9 n (X-Q) (Y-X)
    ·have:=A4.tr c2 y c1 (B8 S.nz (S.pl _ tX _ h.q) (S.pl _ g.q _ tX)<|S.pl _ h.p _ tX) p1 l1;rw[k7]at this;lia
    ·have z1:i9 n (Y-X) (Q-X)=0:=by have e1:Q-X=-(X-Q):=(p5 _ _).symm;rw[e1,G1,k7];lia
     rcases((g.btw Q h.q z1).1 y).1 with k|k
     ·exact h2 k.symm
     ·exact x4 k c2
   ·have y':i7 (X-Y):=y;have m1:0<=i9 n (P-X) (X-Y):=by have e1:Y-X=-(X-Y):=(p5 _ _).symm;rw[e1,Z8,k7]at l1;lia
    have m2:0<=i9 n (X-Y) (X-Q):=by have e1:Y-X=-(X-Y):=(p5 _ _).symm;have e2:Q-X=-(X-Q):=(p5 _ _).symm;rw[e1,e2,Z8,G1]at l2;lia
    by_cases p1:0<i9 n (P-X) (X-Y)
    ·have:=A4.tr c1 y' c2 (B8 S.nz (S.pl _ h.p _ tX) (S.pl _ tX _ g.q)<|S.pl _ tX _ h.q) p1 m2
     lia
    ·have z1:i9 n (Y-X) (P-X)=0:=by have e1:Y-X=-(X-Y):=(p5 _ _).symm;rw[e1,Z8,k7];lia
     rcases((g.btw P h.p z1).2 y').1 with k|k
     ·exact h1 k.symm
     ·exact x4 k c1
 ·lia
end
end G
namespace G
def iD {a:V}(h:a≠0):a.x≠0\/a.y≠0\/a.z≠0:=by
 by_cases p:a.x=0
 ·by_cases q:a.y=0
  ·by_cases r:a.z=0
   ·exact absurd (ext p q r) h
   ·exact .inr (.inr r)
  ·exact .inr (.inl q)
 ·exact .inl p
def y7 {a w:V}(ha:a≠0)(h:cr a w=0):∃k m:Int,0<k/\k*w=m*a:=by
 have h1:=congrArg V.x h;have h2:=congrArg V.y h;have h3:=congrArg V.z h;simp at h1 h2 h3;have key:∀k m:Int,k≠0->k*w=m*a->∃k m:Int,0<k/\k*w=m*a:=λk m hk e=>by
  by_cases p:0<k
  ·exact⟨k,m,p,e⟩
  ·refine⟨-k,-m,by lia,?_⟩;have q1:=congrArg V.x e;have q2:=congrArg V.y e;have q3:=congrArg V.z e;simp at q1 q2 q3;apply ext<;>simp<;>grind
 rcases iD ha with p|p|p
 ·exact key a.x w.x p (by apply ext<;>simp<;>grind)
 ·exact key a.y w.y p (by apply ext<;>simp<;>grind)
 ·exact key a.z w.z p (by apply ext<;>simp<;>grind)
def ConeM.ac9 {Pos:V->Prop}(C:ConeM a Pos)(ha:a≠0)(hw:Pos w):cr a w≠0:=λh=>by
 obtain⟨k,m,hk,e⟩:=y7 ha h;have h1:=C.inv (-m) (C.mul hk hw);rw[e]at h1;have e0:m*a+-m*a=0:=by apply ext<;>simp<;>grind
 rw[e0]at h1;exact C.irr h1
def C9 (a A:V):List V->V->V->V×V
 |[],up,out=>(up,out)
 |P::Ps,up,out=>if up=0\/0<c9 up (P-A)then C9 a A Ps (cr a (P-A)) P else C9 a A Ps up out
def PP (a A:V)(Pos:V->Prop)(seen:V->Prop)(up out:V):Prop:=
 (up=0/\∀P,seen P->cr a (P-A)=0)\/(seen out/\Pos (out-A)/\up=cr a (out-A)/\∀P,seen P->i9 a (out-A) (P-A)<=0)
def iL (h:cr a w=0)(u:V):i9 a u w=0:=by
 have e:i9 a u w=-c9 (cr a w) u:=by simp[i9,c9];grind
 rw[e,h];simp[c9]
theorem rB {Pos:V->Prop}(C:ConeM a Pos)(ha:a≠0):∀(pts:List V) (seen:V->Prop) (up out:V),PP a A Pos seen up out->(∀P,seen P->Pos (P-A)\/cr a (P-A)=0)->(∀P∈pts,Pos (P-A)\/cr a (P-A)=0)->
  PP a A Pos (λP=>seen P\/P∈pts) (C9 a A pts up out).1 (C9 a A pts up out).2
 |[],seen,up,out,h,_,_=>by
  show PP a A Pos _ up out;rcases h with⟨h1,h2⟩|⟨h1,h2,h3,h4⟩
  ·exact .inl ⟨h1,λP hP=>h2 P (by simpa using hP)⟩
  ·exact .inr ⟨.inl h1,h2,h3,λP hP=>h4 P (by simpa using hP)⟩
 |Q::pts,seen,up,out,h,hs,hp=>by
  have hQ:=hp Q (by simp);have stp:PP a A Pos (λP=>seen P\/P=Q) (if up=0\/0<c9 up (Q-A)then(cr a<|Q-A)else up) (if up=0\/0<c9 up (Q-A)then Q else out):=by
   rcases h with⟨h1,h2⟩|⟨h1,h2,h3,h4⟩
   ·rw[if_pos (.inl h1),if_pos (.inl h1)];by_cases z:cr a (Q-A)=0
    ·exact .inl ⟨z,λP hP=>by
      rcases hP with hP|hP
      ·exact h2 P hP
      ·subst hP;exact z⟩
    ·refine .inr ⟨.inr rfl,hQ.resolve_right z,rfl,λP hP=>?_⟩;rcases hP with hP|hP
     ·rw[iL (h2 P hP)];exact aCm _
     ·subst hP;rw[B0];exact aCm _
   ·have ae:up≠0:=by rw[h3];exact C.ac9 ha h2
    have ed:c9 up (Q-A)=i9 a (out-A) (Q-A):=by rw[h3,S4]
    by_cases z:0<c9 up (Q-A)
    ·rw[if_pos (.inr z),if_pos (.inr z)];have hq:Pos (Q-A):=by
      rcases hQ with q|q
      ·exact q
      ·rw[ed,iL q]at z;lia
     refine .inr ⟨.inr rfl,hq,rfl,λP hP=>?_⟩;rcases hP with hP|hP
     ·by_cases zz:i9 a (Q-A) (P-A)<=0
      ·exact zz
      ·exfalso;have hP':Pos (P-A):=by
        rcases hs P hP with q|q
        ·exact q
        ·rw[iL q]at zz;lia
       have:=C.tr h2 hq hP' (by rw[<-ed];exact z) (by lia);have:=h4 P hP
       lia
     ·subst hP;rw[B0];exact aCm _
    ·rw[if_neg (by rintro(q|q);exact ae q;exact z q),if_neg (by rintro(q|q);exact ae q;exact z q)];refine .inr ⟨.inl h1,h2,h3,λP hP=>?_⟩;rcases hP with hP|hP
     ·exact h4 P hP
     ·subst hP;rw[<-ed];lia
  have r:=rB C ha pts (λP=>seen P\/P=Q) _ _ stp (λP hP=>by
   rcases hP with hP|hP
   ·exact hs P hP
   ·subst hP;exact hQ) (λP hP=>hp P (aAe _ hP))
  have e:C9 a A (Q::pts) up out=C9 a A pts (if up=0\/0<c9 up (Q-A)then(cr a<|Q-A)else up) (if up=0\/0<c9 up (Q-A)then Q else out):=by rw[C9];split<;>rfl
  rw[e];have ee:(λP=>(seen P\/P=Q)\/P∈pts)=(λP=>seen P\/P∈Q::pts):=by funext P;simp[or_assoc]
  rw[<-ee];exact r
def KY {Pos:V->Prop}(C:ConeM a Pos)(ha:a≠0)(hp:∀P∈pts,Pos (P-A)\/cr a (P-A)=0)(hx:∃P∈pts,Pos (P-A)):
  (C9 a A pts 0 A).2∈pts/\Pos ((C9 a A pts 0 A).2-A)/\∀P∈pts,i9 a ((C9 a A pts 0 A).2-A) (P-A)<=0:=by
 have h:=rB C ha pts (λ_=>False) 0 A (.inl ⟨rfl,λ_ h=>h.elim⟩) (λ_ h=>h.elim) hp;rcases h with⟨h1,h2⟩|⟨h1,h2,h3,h4⟩
 ·obtain⟨P,hP,hq⟩:=hx;exact absurd (h2 P<|.inr hP) (C.ac9 ha hq)
 ·exact⟨by simpa using h1,h2,λP hP=>h4 P (.inr hP)⟩
def w8 (v:V):Nat:=Nat.gcd (Nat.gcd v.x.natAbs v.y.natAbs) v.z.natAbs
def jJ (v:V)(g:Int):V:=⟨v.x/g,v.y/g,v.z/g⟩
def W2 (n:V):Prop:=w8 n=1
def nH (k:Int)(v:V):w8 (k*v)=k.natAbs*w8 v:=by unfold w8;simp[Int.natAbs_mul,Nat.gcd_mul_left]
def FZ (h:w8 v=0):v=0:=by unfold w8 at h;have h1:=Nat.gcd_eq_zero_iff.mp h;have h2:=Nat.gcd_eq_zero_iff.mp h1.1;exact ext (aET.mp h2.1) (aET.mp h2.2) (aET.mp h1.2)
def IY (v:V):(w8 v:Int)∣v.x/\(w8 v:Int)∣v.y/\(w8 v:Int)∣v.z:=by
 unfold w8;refine⟨?_,?_,?_⟩
 ·exact aEU.mpr (Nat.dvd_trans (aFv _ _)<|aFv _ _)
 ·exact aEU.mpr (Nat.dvd_trans (aFv _ _)<|Nat.gcd_dvd_right _ _)
 ·exact aEU.mpr (Nat.gcd_dvd_right _ _)
def kL (h:c≠0):0<(w8 c:Int)/\c=(w8 c:Int)*jJ c (w8 c)/\W2 (jJ c (w8 c)):=by
 have hg:w8 c≠0:=λz=>h (FZ z);have hp:0<(w8 c:Int):=by lia
 obtain⟨d1,d2,d3⟩:=IY c;have e:c=(w8 c:Int)*jJ c (w8 c):=by
  apply ext
  ·show _=_*(c.x/_);rw[aEr d1]
  ·show _=_*(c.y/_);rw[aEr d2]
  ·show _=_*(c.z/_);rw[aEr d3]
 refine⟨hp,e,?_⟩;have:=congrArg w8 e;rw[nH]at this;simp only[Int.natAbs_natCast]at this;unfold W2;have h2:w8 c*1=w8 c*w8 (jJ c<|w8 c):=by lia
 exact(Nat.eq_of_mul_eq_mul_left (by lia) h2).symm
def W2.ne (h:W2 n):n≠0:=λe=>by subst e;unfold W2 at h;exact absurd h (by decide)
def sS {n m:V}{k l:Int}(hn:W2 n)(hm:W2 m)(hk:0<k)(hl:0<l)(e:k*n=l*m):n=m:=by
 have:=congrArg w8 e;rw[nH,nH,hn,hm]at this;have ekl:k=l:=by lia
 subst ekl;have h1:=congrArg V.x e;have h2:=congrArg V.y e;have h3:=congrArg V.z e;simp at h1 h2 h3;exact ext (aCb (by lia) h1) (aCb (by lia) h2) (aCb (by lia) h3)
def j4 (P Q R:V):V×Int:=let n:=jJ (cr (Q-P)<|R-P) (w8<|cr (Q-P)<|R-P);(n,c9 n P)
structure IsFace (pts:List V)(n:V)(d:Int):Prop where
 prim:W2 n
 sup:∀X∈pts,c9 n X<=d
 three:∃A∈pts,∃B∈pts,∃C∈pts,c9 n A=d/\c9 n B=d/\c9 n C=d/\cr (B-A) (C-A)≠0
def I0 (hu:c9 n u=0)(hv:c9 n v=0):cr n (cr u v)=0:=by simp[c9]at hu hv;apply ext<;>simp<;>grind
def oJ (hc:c≠0)(h1:cr n c=0)(h2:cr m c=0):cr n m=0:=by
 have s1:cr c n=0:=by have:=congrArg V.x h1;have:=congrArg V.y h1;have:=congrArg V.z h1;simp at*;apply ext<;>simp<;>grind
 have s2:cr c m=0:=by have:=congrArg V.x h2;have:=congrArg V.y h2;have:=congrArg V.z h2;simp at*;apply ext<;>simp<;>grind
 obtain⟨k,p,hk,e1⟩:=y7 hc s1;obtain⟨l,q,hl,e2⟩:=y7 hc s2;have e:(k*l)*cr n m=0:=by
  have:(k*l)*cr n m=cr (k*n) (l*m):=by apply ext<;>simp<;>grind
  rw[this,e1,e2];apply ext<;>simp<;>grind
 have hkl:k*l≠0:=λz=>by rcases aAq.mp z with q|q<;>lia
 have h1:=congrArg V.x e;have h2:=congrArg V.y e;have h3:=congrArg V.z e;simp only[JN,IP,IX,bB,bK,bE]at h1 h2 h3;exact ext ((aAq.mp h1).resolve_left hkl) ((aAq.mp h2).resolve_left hkl) ((aAq.mp h3).resolve_left hkl)
def iG {pts:List V}{n m:V}{d e:Int}(hn:W2 n)(hm:W2 m)(sn:∀X∈pts,c9 n X<=d)(sm:∀X∈pts,c9 m X<=e){A B C Z:V}(hA:c9 n A=d)(hB:c9 n B=d)(hC:c9 n C=d)(hA':c9 m A=e)(hB':c9 m B=e)(hC':c9 m C=e)
  (hc:cr (B-A) (C-A)≠0) (hZ:Z∈pts) (hz:c9 n Z<d):n=m/\d=e:=by
 have n1:cr n (cr (B-A)<|C-A)=0:=I0 (by rw[d8];lia) (by rw[d8];lia);have m1:cr m (cr (B-A)<|C-A)=0:=I0 (by rw[d8];lia) (by rw[d8];lia);have p:=oJ hc m1 n1;obtain⟨k,l,hk,e1⟩:=y7 hm.ne p;have hl:0<l:=by
  have q:=congrArg (λv=>c9 v (Z-A)) e1;rw[G9,G9]at q;have q1:c9 n (Z-A)<0:=by rw[d8];lia
  have q2:c9 m (Z-A)<=0:=by rw[d8];have:=sm Z hZ;lia
  have q3:k*c9 n (Z-A)<0:=aBi hk q1;by_cases z:0<l
  ·exact z
  ·exfalso;have:0<=l*c9 m (Z-A):=by
    have:=aBg (show 0<=-l by lia) (show 0<=-c9 m (Z-A)by lia)
    rwa [aDm]at this
   lia
 have e2:=sS hn hm hk hl e1;subst e2;exact⟨rfl,by lia⟩
end G
namespace G
def b7 (A B:V)(pts:List V):V×Int:=j4 A B (C9 (B-A) A pts 0 A).2
def x5 (n:V)(d:Int)(pts:List V):List V:=pts.filter λX=>decide (c9 n X=d)
def d5:X∈x5 n d pts↔X∈pts/\c9 n X=d:=by simp[x5]
def nT (h:cr (Q-P) (R-P)≠0):∃g:Int,0<g/\cr (Q-P) (R-P)=g*(j4 P Q R).1/\W2 (j4 P Q R).1/\(j4 P Q R).2=c9 (j4 P Q R).1 P:=by obtain⟨h1,h2,h3⟩:=kL h;exact⟨_,h1,h2,h3,rfl⟩
def U8 {Pos:V->Prop}(C:ConeM (B-A) Pos)(hAB:B-A≠0)(hp:∀P∈pts,Pos (P-A)\/cr (B-A) (P-A)=0)(hx:∃P∈pts,Pos (P-A)):
  ∃(out:V) (g:Int),out∈pts/\Pos (out-A)/\0<g/\cr (B-A) (out-A)=g*(b7 A B pts).1/\W2 (b7 A B pts).1/\(b7 A B pts).2=c9 (b7 A B pts).1 A/\
   (∀P∈pts,c9 (b7 A B pts).1 P<=(b7 A B pts).2)/\c9 (b7 A B pts).1 B=(b7 A B pts).2/\c9 (b7 A B pts).1 out=(b7 A B pts).2/\
   (∀P∈pts,c9 (b7 A B pts).1 P=(b7 A B pts).2->i9 (B-A) (out-A) (P-A)=0):=by
 obtain⟨h1,h2,h3⟩:=KY C hAB hp hx;have hc:=C.ac9 hAB h2;obtain⟨g,g0,ge,gp,gd⟩:=nT hc;have key:∀w:V,g*c9 (b7 A B pts).1 w=i9 (B-A) ((C9 (B-A) A pts 0 A).2-A) w:=λw=>by have:c9 (cr (B-A)<|(C9 (B-A) A pts 0 A).2-A) w=i9 (B-A) ((C9 (B-A) A pts 0 A).2-A) w:=S4 _ _ _;rw[<-this,ge,G9];rfl
 have eA:(b7 A B pts).2=c9 (b7 A B pts).1 A:=gd;have z0:∀w:V,i9 (B-A) ((C9 (B-A) A pts 0 A).2-A) w=0->c9 (b7 A B pts).1 w=0:=λw hw=>by have:=key w;rw[hw]at this;exact(aAq.mp this).resolve_left (by lia)
 refine⟨_,g,h1,h2,g0,ge,gp,gd,λP hP=>?_,?_,?_,λP hP e=>?_⟩
 ·have h:=h3 P hP;rw[<-key]at h;have:c9 (b7 A B pts).1 (P-A)<=0:=by
   by_cases z:c9 (b7 A B pts).1 (P-A)<=0
   ·exact z
   ·have:=aBh g0 (show 0<c9 (b7 A B pts).1 (P-A)by lia)
    lia
  rw[d8]at this
  lia
 ·have:=z0 (B-A) (by simp[i9,c9];grind);rw[d8]at this;lia
 ·have:=z0 ((C9 (B-A) A pts 0 A).2-A) (B0 _ _);rw[d8]at this;lia
 ·rw[<-key,d8];have:c9 (b7 A B pts).1 P-c9 (b7 A B pts).1 A=0:=by lia
  rw[this];simp
def vN {Pos:V->Prop}(C:ConeM a Pos)(ha:a≠0)(ho:Pos o)(hw:Pos w)(h:i9 a o w=0):0<c9 (cr a o) (cr a w):=by
 by_cases z:0<c9 (cr a o) (cr a w)
 ·exact z
 ·exfalso;have ae:=C.ac9 ha ho;have qp:=z9 ae;have h1:Pos (c9 (cr a o) (cr a o)*w+(-c9 (cr a o) (cr a w))*o):=C.comb qp (by lia) hw ho;refine C.ac9 ha h1 ?_;have hx:cr (cr a o) (cr a w)=i9 a o w*a:=by simp[i9,c9];apply ext<;>simp<;>grind
  rw[h,u4]at hx;have e1:cr a (c9 (cr a o) (cr a o)*w+(-c9 (cr a o) (cr a w))*o)=c9 (cr a o) (cr a o)*cr a w+(-c9 (cr a o) (cr a w))*cr a o:=by apply ext<;>simp<;>grind
  rw[e1];have e2:∀p q:V,c9 p p*q+(-c9 p q)*p=cr p (cr q p):=λp q=>by simp[c9];apply ext<;>simp<;>grind
  rw[e2];have e3:cr (cr a w) (cr a o)=0:=by have q1:=congrArg V.x hx;have q2:=congrArg V.y hx;have q3:=congrArg V.z hx;simp only[RT,OM,ON,bB,bK,bE]at q1 q2 q3;apply ext<;>simp only[RT,OM,ON,bB,bK,bE]<;>grind
  rw[e3];apply ext<;>simp
def gz.symm (h:gz P Q X):gz Q P X:=⟨λa=>⟨(h.2 a).2,(h.2 a).1⟩,λa=>⟨(h.1 a).2,(h.1 a).1⟩⟩
def rO (hn:n≠0)(hab:c9 n (a-b)=0):ConeM (a-b) (λw=>c9 n w<0\/(c9 n w=0/\0<i9 n (b-a) w))where
 add:=λ{u v} h1 h2=>by
  rw[bD,Z4]
  lia
 mul:=λ{k u} hk h=>by
  rw[t6,vF];rcases h with h|⟨h,h'⟩
  ·exact .inl (aBi hk h)
  ·exact .inr ⟨by rw[h];simp,aBh hk h'⟩
 irr:=by rw[M0,dU];lia
 inv:=λ{u} k h=>by
  have e:i9 n (b-a) (a-b)=0:=by have:a-b=-(b-a):=(p5 _ _).symm;rw[this,G1,B0];rfl
  rw[bD,Z4,t6,vF,hab,e];simpa using h
def gA (hn:n≠0)(hu:c9 n u=0)(hw:c9 n w=0)(h:i9 n u w=0):cr u w=0:=by
 have h1:cr n (cr u w)=0:=I0 hu hw;obtain⟨k,m,hk,e⟩:=y7 hn h1;have q:=congrArg (c9 n) e;rw[t6,t6]at q;have:c9 n (cr u w)=0:=h;rw[this]at q;have hm:m=0:=by
  have:=z9 hn;have q':m*c9 n n=0:=by lia
  rcases aAq.mp q' with z|z
  ·exact z
  ·lia
 rw[hm,u4]at e;have q1:=congrArg V.x e;have q2:=congrArg V.y e;have q3:=congrArg V.z e;simp only[JN,IP,IX,bB,bK,bE]at q1 q2 q3;exact ext ((aAq.mp q1).resolve_left (by lia)) ((aAq.mp q2).resolve_left (by lia)) ((aAq.mp q3).resolve_left (by lia))
def xF (h:cr u w=0):cr (-u) w=0:=by have q1:=congrArg V.x h;have q2:=congrArg V.y h;have q3:=congrArg V.z h;simp only[RT,OM,ON,bB,bK,bE]at q1 q2 q3;apply ext<;>simp<;>grind
def rV (hn:n≠0)(hs:∀X∈pts,c9 n X<=d)(hz:∃Z∈pts,c9 n Z<d)(h:EdgeOf n (λX=>X∈x5 n d pts) a b):
  IsFace pts (b7 b a pts).1 (b7 b a pts).2/\EdgeOf (b7 b a pts).1 (λX=>X∈x5 (b7 b a pts).1 (b7 b a pts).2 pts) b a:=by
 obtain⟨pa,da⟩:=d5.mp h.p;obtain⟨pb,db⟩:=d5.mp h.q;have hab:c9 n (a-b)=0:=by rw[d8];lia
 have hba:c9 n (b-a)=0:=by rw[d8];lia
 have C:=rO (n:=n) hn hab;have ae:a-b≠0:=λe=>h.ne (by have q1:=congrArg V.x e;have q2:=congrArg V.y e;have q3:=congrArg V.z e;simp at q1 q2 q3;exact ext (by lia) (by lia) (by lia))
 have hp:∀P∈pts,(c9 n (P-b)<0\/(c9 n (P-b)=0/\0<i9 n (b-a) (P-b)))\/cr (a-b) (P-b)=0:=λP hP=>by
  have h1:=hs P hP;by_cases z:c9 n P<d
  ·exact .inl (.inl (by rw[d8];lia))
  ·have e:c9 n P=d:=by lia
   have tP:P∈x5 n d pts:=d5.mpr ⟨hP,e⟩;have l:=h.left P tP;rw[oM]at l;have e0:c9 n (P-b)=0:=by rw[d8];lia
   by_cases y:0<i9 n (b-a) (P-b)
   ·exact .inl (.inr ⟨e0,y⟩)
   ·have y0:i9 n (b-a) (P-b)=0:=by lia
    have:=xF (gA hn hba e0 y0);rw[p5]at this;exact .inr this
 obtain⟨Z,hZ,hz⟩:=hz;obtain⟨out,g,o1,o2,g0,ge,gp,gd,sup,sB,sO,sP⟩:=U8 C ae hp ⟨Z,hZ,.inl (by rw[d8];lia)⟩;refine⟨⟨gp,sup,b,pb,a,pa,out,o1,gd.symm,sB,sO,C.ac9 ae o2⟩,⟨d5.mpr ⟨pb,gd.symm⟩,d5.mpr ⟨pa,sB⟩,λe=>h.ne e.symm,λX hX=>?_,λX hX e=>?_⟩⟩
 ·obtain⟨pX,eX⟩:=d5.mp hX;have z:=sP X pX eX;have e1:g*i9 (b7 b a pts).1 (a-b) (X-b)=c9 (cr (a-b)<|out-b) (cr (a-b)<|X-b):=by rw[ge];unfold i9;rw[G9]
  have:0<=c9 (cr (a-b)<|out-b) (cr (a-b)<|X-b):=by
   rcases hp X pX with q|q
   ·exact aAF (vN C ae o2 q z)
   ·rw[q,M0];exact aCm _
  rw[<-e1]at this;by_cases zz:0<=i9 (b7 b a pts).1 (a-b) (X-b)
  ·exact zz
  ·have:=aBi g0 (show i9 (b7 b a pts).1 (a-b) (X-b)<0 by lia)
   lia
 ·obtain⟨pX,eX⟩:=d5.mp hX;have z:=sP X pX eX;have e1:g*i9 (b7 b a pts).1 (a-b) (X-b)=c9 (cr (a-b)<|out-b) (cr (a-b)<|X-b):=by rw[ge];unfold i9;rw[G9]
  rw[e]at e1;rcases hp X pX with q|q
  ·have:=vN C ae o2 q z;rw[<-e1]at this;simp at this
  ·
   have dX:c9 n X=d:=by obtain⟨k,m,hk,e⟩:=y7 ae q;have q:=congrArg (c9 n) e;rw[t6,t6,hab]at q;have:c9 n (X-b)=0:=(aAq.mp (show k*c9 n (X-b)=0 by lia)).resolve_left (by lia);rw[d8]at this;lia
   refine(h.btw X (d5.mpr ⟨pX,dX⟩) ?_).symm;rw[oM];have:cr (b-a) (X-b)=0:=by
    have:=xF q
    rwa [p5]at this
   unfold i9;rw[this,M0]
end G
namespace G
def z6:List V->Option V
 |[]=>none
 |w::ws=>if w≠0 then some w else z6 ws
def t8 (h:z6 ws=some w):w∈ws/\w≠0:=by
 induction ws with
 |nil=>cases h
 |cons v ws ih=>
  unfold z6 at h;split at h
  ·rename_i hv;cases h;exact⟨by simp,hv⟩
  ·have:=ih h;exact⟨aAe _ this.1,this.2⟩
def K9 (h:z6 ws=none):∀w∈ws,w=0:=by
 induction ws with
 |nil=>intro w hw;cases hw
 |cons v ws ih=>
  unfold z6 at h;split at h
  ·cases h
  ·rename_i hv;intro w hw;rcases aAd.mp hw with e|e
   ·subst e;exact Decidable.not_not.mp hv
   ·exact ih h w e
def S8:List V->Nat
 |[]=>0
 |p::ps=>
  let ways:=(p::ps).map (· -p)
  match z6 ways with
  |none=>0
  |some along=>match z6 (ways.map<|cr along)with
   |none=>1
   |some up=>if ways.any (λw=>decide (c9 up w≠0))then 3 else 2
def j9 (pts:List V):Prop:=∃A∈pts,∃B∈pts,∃C∈pts,∃D∈pts,i9 (B-A) (C-A) (D-A)≠0
def GV (h:S8 pts=3):j9 pts:=by
 match pts,h with
 |p::ps,h=>
  unfold S8 at h;dsimp only at h;split at h
  ·cases h
  ·rename_i along h1;split at h
   ·cases h
   ·rename_i up h2;split at h
    ·rename_i h3;obtain⟨m1,n1⟩:=t8 h1;obtain⟨m2,n2⟩:=t8 h2;obtain⟨w2,m2,e2⟩:=aAo.mp m2;rw[aEm]at h3;obtain⟨w3,m3,e3⟩:=h3;obtain⟨B,hB,eB⟩:=aAo.mp m1;obtain⟨C,hC,eC⟩:=aAo.mp m2;obtain⟨D,hD,eD⟩:=aAo.mp m3;refine⟨p,by simp,B,hB,C,hC,D,hD,?_⟩;rw[eB,eC,eD];have e3':c9 up w3≠0:=by simpa using e3
     rw[<-e2,S4]at e3';exact e3'
    ·cases h
def NV (h:S8 pts≠3):¬j9 pts:=by
 rintro⟨A,hA,B,hB,C,hC,D,hD,hd⟩;match pts,h,hA,hB,hC,hD with
 |p::ps,h,hA,hB,hC,hD=>
  unfold S8 at h;dsimp only at h;have mm:∀X∈p::ps,X-p∈(p::ps).map (· -p):=λX hX=>aAo.mpr ⟨X,hX,rfl⟩;have fin:∀n:V,n≠0->(∀X∈p::ps,c9 n (X-p)=0)->False:=λn hn hz=>by
   have q:∀X∈p::ps,c9 n (X-A)=0:=λX hX=>by have h1:=hz X hX;have h2:=hz A hA;rw[d8]at*;lia
   exact hd (B8 hn (q B hB) (q C hC)<|q D hD)
  split at h
  ·rename_i h1;have z:=K9 h1;refine fin ⟨1,0,0⟩ (λe=>by have:=congrArg V.x e;simp at this) λX hX=>?_;rw[z _ (mm X hX)];exact M0 _
  ·rename_i along h1;obtain⟨m1,n1⟩:=t8 h1;split at h
   ·rename_i h2;have z:=K9 h2;have z':∀X∈p::ps,cr along (X-p)=0:=λX hX=>z _ (aAo.mpr ⟨_,mm X hX,rfl⟩);obtain⟨u,hu,au⟩:∃u:V,cr along u≠0/\True:=by
     rcases iD n1 with q|q|q
     ·exact⟨⟨0,1,0⟩,λe=>q (by have:=congrArg V.z e;simpa using this),trivial⟩
     ·exact⟨⟨1,0,0⟩,λe=>q (by have:=congrArg V.z e;simpa using this),trivial⟩
     ·exact⟨⟨0,1,0⟩,λe=>q (by have:=congrArg V.x e;simpa using this),trivial⟩
    refine fin (cr along u) hu λX hX=>?_;rw[S4,iL (z' X hX)]
   ·rename_i up h2;obtain⟨m2,n2⟩:=t8 h2;split at h
    ·exact h rfl
    ·rename_i h3;refine fin up n2 λX hX=>?_;by_cases z:c9 up (X-p)=0
     ·exact z
     ·exact absurd (aEm.mpr ⟨X-p,mm X hX,by simpa using z⟩) h3
def KG (h:S8 pts<2):∀X∈pts,∀Y∈pts,∀Z∈pts,cr (Y-X) (Z-X)=0:=by
 match pts,h with
 |[],_=>intro X hX;cases hX
 |p::ps,h=>
  unfold S8 at h;dsimp only at h;have mm:∀X∈p::ps,X-p∈(p::ps).map (· -p):=λX hX=>aAo.mpr ⟨X,hX,rfl⟩;intro X hX Y hY Z hZ;split at h
  ·rename_i h1;have z:=K9 h1;have e:∀W∈p::ps,W=p:=λW hW=>by have:=z _ (mm W hW);have q1:=congrArg V.x this;have q2:=congrArg V.y this;have q3:=congrArg V.z this;simp at q1 q2 q3;exact ext (by lia) (by lia) (by lia)
   rw[e X hX,e Y hY,w5];apply ext<;>simp
  ·rename_i along h1;obtain⟨m1,n1⟩:=t8 h1;split at h
   ·rename_i h2;have z:=K9 h2;have z':∀X∈p::ps,cr along (X-p)=0:=λX hX=>z _ (aAo.mpr ⟨_,mm X hX,rfl⟩);have k:∀U∈p::ps,∀W∈p::ps,cr (U-W) along=0:=λU hU W hW=>by have q1:=z' U hU;have q2:=z' W hW;have a1:=congrArg V.x q1;have a2:=congrArg V.y q1;have a3:=congrArg V.z q1;have b1:=congrArg V.x q2;have b2:=congrArg V.y q2;have b3:=congrArg V.z q2;simp at a1 a2 a3 b1 b2 b3;apply ext<;>simp<;>grind
    exact oJ n1 (k Y hY X hX) (k Z hZ X hX)
   ·split at h<;>lia
def EZ (h:2<=S8 pts):∃X∈pts,∃Y∈pts,∃Z∈pts,cr (Y-X) (Z-X)≠0:=by
 match pts,h with
 |[],h=>exact absurd h (by simp[S8])
 |p::ps,h=>
  unfold S8 at h;dsimp only at h;split at h
  ·lia
  ·rename_i along h1;obtain⟨m1,n1⟩:=t8 h1;split at h
   ·lia
   ·rename_i up h2;obtain⟨m2,n2⟩:=t8 h2;obtain⟨w2,m2,e2⟩:=aAo.mp m2;obtain⟨B,hB,eB⟩:=aAo.mp m1;obtain⟨C,hC,eC⟩:=aAo.mp m2;exact⟨p,by simp,B,hB,C,hC,by rw[eB,eC,e2];exact n2⟩
def j9.off (h:j9 pts)(hn:n≠0):∃Z∈pts,c9 n Z≠d:=by
 obtain⟨A,hA,B,hB,C,hC,D,hD,hd⟩:=h;by_cases a:c9 n A=d
 ·by_cases b:c9 n B=d
  ·by_cases c:c9 n C=d
   ·by_cases e:c9 n D=d
    ·exact absurd (B8 hn (by rw[d8];lia) (by rw[d8];lia) (by rw[d8];lia)) hd
    ·exact⟨D,hD,e⟩
   ·exact⟨C,hC,c⟩
  ·exact⟨B,hB,b⟩
 ·exact⟨A,hA,a⟩
def j9.below (h:j9 pts)(hn:n≠0)(hs:∀X∈pts,c9 n X<=d):∃Z∈pts,c9 n Z<d:=by obtain⟨Z,hZ,e⟩:=h.off (d:=d) hn;exact⟨Z,hZ,by have:=hs Z hZ;lia⟩
def kk:V:=⟨0,0,1⟩
def e9 (m:V)(pts:List V):V×V:=
 let u:=b7 m (m+kk) pts
 let touched:=x5 u.1 u.2 pts
 if S8 touched=2 then(m,m+kk)else(touched.getD 0 0,touched.getD 1 0)
def DI:ConeM kk (λw=>0<w.x\/(w.x=0/\0<w.y))where
 add:=λ{u v} h1 h2=>by simp;lia
 mul:=λ{k u} hk h=>by
  simp;rcases h with h|⟨h,h'⟩
  ·exact .inl (aBh hk h)
  ·exact .inr ⟨by rw[h];simp,aBh hk h'⟩
 irr:=by simp
 inv:=λ{u} k h=>by simpa[kk]using h
def zQ (h:c9 n a=0):ConeM a (λw=>c9 n w<0)where
 add:=λ{u v} h1 h2=>by rw[bD];lia
 mul:=λ{k u} hk h=>by rw[t6];exact aBi hk h
 irr:=by rw[M0];lia
 inv:=λ{u} k h'=>by rw[bD,t6,h];simpa using h'
def J6 (m k:V):m+k-m=k:=ext (by simp;lia) (by simp;lia) (by simp;lia)
def fQ (hs:j9 pts)(ho:pts.Pairwise (λa b=>i7 (b-a)))(hm:m∈pts)(hl:∀X∈pts,X=m\/i7 (X-m)):
  IsFace pts (b7 (e9 m pts).1 (e9 m pts).2 pts).1 (b7 (e9 m pts).1 (e9 m pts).2 pts).2:=by
 have C:ConeM (m+kk-m) (λw=>0<w.x\/(w.x=0/\0<w.y)):=by rw[J6];exact DI
 have ae:m+kk-m≠0:=by rw[J6];intro e;have:=congrArg V.z e;simp[kk]at this
 have hp:∀P∈pts,(0<(P-m).x\/((P-m).x=0/\0<(P-m).y))\/cr (m+kk-m) (P-m)=0:=λP hP=>by
  rw[J6];rcases hl P hP with e|e
  ·right;subst e;rw[w5];apply ext<;>simp
  ·unfold i7 at e;rcases e with e|⟨e1,e|⟨e2,e3⟩⟩
   ·exact .inl (.inl e)
   ·exact .inl (.inr ⟨e1,e⟩)
   ·right;apply ext
    ·simp[kk];simp at e2;lia
    ·simp[kk];simp at e1;lia
    ·simp[kk]
 have hx:∃P∈pts,0<(P-m).x\/((P-m).x=0/\0<(P-m).y):=by
  by_cases z:∃P∈pts,0<(P-m).x\/((P-m).x=0/\0<(P-m).y)
  ·exact z
  ·exfalso;obtain⟨Z,hZ,e⟩:=hs.off (n:=⟨1,0,0⟩) (d:=m.x) (λe=>by have:=congrArg V.x e;simp at this);have w:=(hp Z hZ).resolve_left λq=>z ⟨Z,hZ,q⟩;rw[J6]at w;have:=congrArg V.y w;simp[kk]at this;simp[c9]at e
   lia
 obtain⟨out,g,o1,o2,g0,ge,gp,gd,sup,sB,sO,sP⟩:=U8 C ae hp hx;have tm:m∈x5 (b7 m (m+kk) pts).1 (b7 m (m+kk) pts).2 pts:=d5.mpr ⟨hm,gd.symm⟩;have to:out∈x5 (b7 m (m+kk) pts).1 (b7 m (m+kk) pts).2 pts:=d5.mpr ⟨o1,sO⟩;have hmo:m≠out:=λe=>by subst e;rw[w5]at o2;simp at o2
 by_cases h2:S8 (x5 (b7 m (m+kk) pts).1 (b7 m (m+kk) pts).2 pts)=2
 ·have e:e9 m pts=(m,m+kk):=by unfold e9;simp only[h2,if_true]
  rw[e];obtain⟨X,hX,Y,hY,Z,hZ,hc⟩:=EZ (pts:=x5 (b7 m (m+kk) pts).1 (b7 m (m+kk) pts).2 pts) (by lia);have hX:=d5.mp hX;have hY:=d5.mp hY;have hZ:=d5.mp hZ;exact⟨gp,sup,X,hX.1,Y,hY.1,Z,hZ.1,hX.2,hY.2,hZ.2,hc⟩
 ·
  have h1:S8 (x5 (b7 m (m+kk) pts).1 (b7 m (m+kk) pts).2 pts)≠3:=λz=>by obtain⟨A,hA,B,hB,C,hC,D,hD,hd⟩:=GV z;have hA:=d5.mp hA;have hB:=d5.mp hB;have hC:=d5.mp hC;have hD:=d5.mp hD;exact hd (B8 gp.ne (by rw[d8];lia) (by rw[d8];lia) (by rw[d8];lia))
  have ai:S8 (x5 (b7 m (m+kk) pts).1 (b7 m (m+kk) pts).2 pts)<2:=by
   have:S8 (x5 (b7 m (m+kk) pts).1 (b7 m (m+kk) pts).2 pts)<=3:=by
    generalize x5 (b7 m (m+kk) pts).1 (b7 m (m+kk) pts).2 pts=t;unfold S8;split
    ·lia
    ·dsimp only;split
     ·lia
     ·split
      ·lia
      ·split<;>lia
   lia
  have line:=KG ai;have e:e9 m pts=((x5 (b7 m (m+kk) pts).1 (b7 m (m+kk) pts).2 pts).getD 0 0,(x5 (b7 m (m+kk) pts).1 (b7 m (m+kk) pts).2 pts).getD 1 0):=by unfold e9;simp only[h2,if_false]
  rw[e];have ord:(x5 (b7 m (m+kk) pts).1 (b7 m (m+kk) pts).2 pts).Pairwise (λa b=>i7 (b-a)):=aFR _ ho;have onm:∀X,X∈x5 (b7 m (m+kk) pts).1 (b7 m (m+kk) pts).2 pts↔X∈pts/\c9 (b7 m (m+kk) pts).1 X=(b7 m (m+kk) pts).2:=λX=>d5;generalize x5 (b7 m (m+kk) pts).1 (b7 m (m+kk) pts).2 pts=t at*
  match t,tm,to with
  |[],tm,_=>cases tm
  |[x],tm,to=>simp at tm to;exact absurd (tm.trans to.symm) hmo
  |x::y::r,tm,to=>
   dsimp only[List.getD_cons_zero,List.getD_cons_succ];have hxy:i7 (y-x):=(aAy.mp ord).1 y (by simp);have ox:=(onm x).mp (by simp);have oy:=(onm y).mp (by simp);have zc:y-x≠0:=λz=>by rw[z]at hxy;exact A4.irr hxy
   have na:c9 (b7 m (m+kk) pts).1 (y-x)=0:=by rw[d8];lia
   have C2:=zQ na;obtain⟨Z,hZ,hz⟩:=hs.below gp.ne sup;obtain⟨out2,g2,p1,p2,p0,pe,pp,pd,sup2,sB2,sO2,sP2⟩:=U8 C2 zc (pts:=pts) (λP hP=>by
    have:=sup P hP;by_cases q:c9 (b7 m (m+kk) pts).1 P<(b7 m (m+kk) pts).2
    ·exact .inl (by rw[d8];lia)
    ·exact .inr (line x (by simp) y (by simp) P ((onm P).mpr ⟨hP,by lia⟩))) ⟨Z,hZ,by rw[d8];lia⟩
   exact⟨pp,sup2,x,ox.1,y,oy.1,out2,p1,pd.symm,sB2,sO2,C2.ac9 zc p2⟩
end G
namespace DL
open PySem PySem.Spec L2
open PyProof.Rows hiding St
theorem M6:∀{ns:List Int} {us:List Value},l6 (ns.map V.int) us->IntsAre us ns
 |[],_,.nil=>.nil
 |n::ns,_,.cons r t=>by obtain⟨tk,rfl⟩:=r;exact .cons n tk (M6 t)
section
def EW (hc:X.calm=true):nK X (.builtin "sum") (λxs H Q=>∃(p:Addr) (ns:List Int),xs=[.ref p]/\K0 X.K H p (ns.map V.int)/\Q (.int ns.sum) H):=by
 intro pins s σ H xs us Q I r h;obtain⟨p,ns,rfl,hq,q⟩:=h;obtain⟨u,rfl,rx⟩:=vals1 r;cases rx;obtain⟨its,r',pl,hz⟩:=I.list hq;have hi:=M6 r';obtain⟨ys,e⟩:=hi.allInts.items;have hl:=pl.isList;rw[e]at hl;refine sum_intListG (I.ok.hd hc) hl λh' tk t' hk=>?_;have en:preSum (numAt ys) ys.size=ns.sum:=by have h1:=nums_intItems ys;rw[<-e]at h1;have h2:=hi.numsOf;rw[show its.toArray.toList=its from rfl,h2]at h1;rw[preSum_eq,aCZ (by simp),h1]
 rw[en];exact⟨.int ns.sum,H,I.kept hk,⟨t',rfl⟩,q⟩
def bQ:List D->Option (List Int)
 |[]=>some []
 |.int i::r=>(bQ r).map (i::·)
 |_=>none
theorem dI:∀{ds:List D} {ns:List Int},bQ ds=some ns->ds=ns.map D.int
 |[],ns,h=>by cases h;rfl
 |.int i::r,ns,h=>by simp only[bQ,aDa]at h;obtain⟨m,h1,rfl⟩:=h;rw[dI h1];rfl
 |.non::_,_,h=>by cases h
 |.bl _::_,_,h=>by cases h
 |.str _::_,_,h=>by cases h
 |.tup _::_,_,h=>by cases h
 |.lst _::_,_,h=>by cases h
 |.dct::_,_,h=>by cases h
theorem vG:∀ns:List Int,bQ (ns.map D.int)=some ns
 |[]=>rfl
 |n::ns=>by simp[bQ,vG ns]
theorem dZ {K:PySem.W.Frag}{H:Hp}{O:Addr->Prop}:∀{vs:List V} {ns:List Int},Reps K H O vs (ns.map D.int)->vs=ns.map V.int
 |[],[],_=>rfl
 |v::vs,n::ns,.cons h t=>by cases h;rw[dZ t];rfl
def RU:List D->R D
 |[.lst xs]=>match bQ xs with
  |some ns=>.ok (.int ns.sum)
  |none=>.bad
 |_=>.bad
variable [Tabs]in
def XR (hc:X.calm=true):Z5 X (.builtin "sum") RU:=by
 intro H O vs ds Q fr r q;match ds,q with
 |[.lst xs],q=>
  obtain⟨v,rfl,z⟩:=CB r;obtain⟨p,ys,rfl,h1,h2⟩:=z.aa5;simp only[RU]at q;cases e:bQ xs with
  |none=>rw[e]at q;exact q.elim
  |some ns=>rw[e]at q;rw[dI e]at h2;rw[dZ h2]at h1;exact⟨_,EW hc,p,ns,rfl,h1,q _ H (Same.refl _) .int⟩
end
@[simp]def a0q (a b c d:Int):RU [.lst [.int a,.int b,.int c,.int d]]=.ok (.int (a+(b+(c+d)))):=by simp[RU,bQ]
theorem qV (Iv:List D->Ev->Prop)(ht:∀d ds ρ,Iv (d::ds) ρ->∃ρ2,V4 G F d ρ=.ok (.nx ρ2)/\Iv ds ρ2):∀{ds:List D} {ρ:Ev},Iv ds ρ->∃av,I9 G F ds ρ=.ok (.nx av)/\Iv [] av
 |[],ρ,h=>⟨ρ,rfl,h⟩
 |d::ds,ρ,h=>by
  obtain⟨ρ2,e,h2⟩:=ht d ds ρ h;obtain⟨av,e',h'⟩:=qV Iv ht h2;unfold V4 at e;cases e1:G d ρ with
  |ok ρ1=>rw[e1]at e;exact⟨av,by rw[I9,e1];dsimp only at e⊢;rw[e];exact e',h'⟩
  |ex x=>rw[e1]at e;cases e
  |bad=>rw[e1]at e;cases e
def gI (Iv:List D->Ev->Prop)(ht:∀d ds ρ,Iv (d::ds) ρ->∃ρ2,V4 G F d ρ=.ok (.nx ρ2)/\Iv ds ρ2)(h0:Iv ds ρ)(h2:∀av,Iv [] av->P8 (F2 av)=.ok d):
  P8 (D5 (I9 G F ds ρ) F2)=.ok d:=by
 obtain⟨av,e,h⟩:=qV Iv ht h0;rw[e];exact h2 av h
def vH {Post:Ev->Prop}(Iv:Nat->Ev->Prop)(ht:∀n ρ,Iv (n+1) ρ->c ρ=.ok false\/(c ρ=.ok true/\∃ρ2,F ρ=.ok (.nx ρ2)/\Iv n ρ2))(h00:∀ρ,¬Iv 0 ρ)(h0:Iv n ρ)(hp:∀m av,Iv m av->c av=.ok false->Post av):∃ρ2,R5 c F n ρ=.ok (.nx ρ2)/\Post ρ2:=by obtain⟨m,av,e,h,hc⟩:=gB Iv ht h00 n ρ h0;exact⟨av,e,hp m av h hc⟩
end DL
namespace M
open PySem L2 DL
abbrev rK (n:G.V)(d:Int):D:=.tup [.int n.x,.int n.y,.int n.z,.int d]
def A7:List D->R D
 |[.tup [.int a,.int b,.int c]]=>.ok (.int (G.w8 ⟨a,b,c⟩))
 |_=>.bad
def AU (v:G.V):A7 [vd v]=.ok (.int (G.w8 v)):=rfl
def zq (P Q R:G.V):Prop:=Sz 1000 P/\Sz 1000 Q/\Sz 1000 R
open Classical in
def Q7:List D->R D:=v1 λa b c=>v1 λd e f=>v1 λg h i=>uZ (
 if zq ⟨a,b,c⟩ ⟨d,e,f⟩ ⟨g,h,i⟩/\G.cr ((⟨d,e,f⟩:G.V)-⟨a,b,c⟩) ((⟨g,h,i⟩:G.V)-⟨a,b,c⟩)≠0 then .ok (rK (G.j4 ⟨a,b,c⟩ ⟨d,e,f⟩ ⟨g,h,i⟩).1 (G.j4 ⟨a,b,c⟩ ⟨d,e,f⟩ ⟨g,h,i⟩).2)else .bad)
def NE {P Q R:G.V}(h:zq P Q R)(hc:G.cr (Q-P) (R-P)≠0):Q7 [vd P,vd Q,vd R]=.ok (rK (G.j4 P Q R).1 (G.j4 P Q R).2):=if_pos ⟨h,hc⟩
def ES (h:Sz n v):bits (G.w8 v:Nat)<=n:=by
 have e:((G.w8 v:Nat):Int)=aGl (aGl v.x v.y:Nat) v.z:=by simp[G.w8,aGl]
 rw[e];exact vZ (vZ h.1 h.2.1) h.2.2
def mX {a g:Int}(h:0<g):a.fdiv g=a/g:=aDu a (aAF h)
end M
namespace ST
open PySem PySem.SetTable
def FQ (xs:Array Nat):Prop:=∀(i k:Nat) (hi:i<xs.size) (hk:k<xs.size),i<k->xs[i]<xs[k]
theorem tE (xs:Array Nat)(j:Nat)(ha:FQ xs):∀(fuel lo hi:Nat),lo<=hi->hi<=xs.size->hi-lo<=fuel->(∀i (h:i<xs.size),i<lo->xs[i]<j)->(∀i (h:i<xs.size),hi<=i->j<=xs[i])->
  below.go xs j fuel lo hi<=xs.size/\(∀i (h:i<xs.size),i<below.go xs j fuel lo hi->xs[i]<j)/\(∀i (h:i<xs.size),below.go xs j fuel lo hi<=i->j<=xs[i])
 |0,lo,hi,h1,h2,h3,h4,h5=>by
  have:lo=hi:=by lia
  subst this;unfold below.go;exact⟨h2,h4,h5⟩
 |fuel+1,lo,hi,h1,h2,h3,h4,h5=>by
  unfold below.go;by_cases ai:lo<hi
  ·rw[if_pos ai];have hm:(lo+hi)/2<xs.size:=by lia
   have e:xs.getD ((lo+hi)/2) j=xs[(lo+hi)/2]:=by simp[aFk,hm]
   dsimp only;rw[e];by_cases hc:xs[(lo+hi)/2]<j
   ·rw[if_pos hc];refine tE xs j ha fuel _ _ (by lia) h2 (by lia) (λi h eh=>?_) h5;by_cases q:i=(lo+hi)/2
    ·subst q;exact hc
    ·exact aGo (ha i _ h hm (by lia)) hc
   ·rw[if_neg hc];refine tE xs j ha fuel _ _ (by lia) (by lia) (by lia) h4 (λi h eh=>?_);by_cases q:i=(lo+hi)/2
    ·subst q;lia
    ·have:=ha _ i hm h (by lia);lia
  ·rw[if_neg ai];have:lo=hi:=by lia
   subst this;exact⟨h2,h4,h5⟩
def aY (ha:FQ xs)(j:Nat):below xs j<=xs.size/\(∀i (h:i<xs.size),i<below xs j->xs[i]<j)/\(∀i (h:i<xs.size),below xs j<=i->j<=xs[i]):=
 tE xs j ha xs.size 0 xs.size (aAY _) (aAh _) (by lia) (λi h hi=>by lia) (λi h hi=>by lia)
def LI (ha:FQ xs)(h:xs[i]?=some j):below xs j=i:=by
 obtain⟨hi,e⟩:=aBX.mp h;obtain⟨b1,b2,b3⟩:=aY ha j;rcases Nat.lt_trichotomy (below xs j) i with q|q|q
 ·have hb:below xs j<xs.size:=by lia
  have h1:=b3 _ hb (aAh _);have h2:=ha _ _ hb hi q
  lia
 ·exact q
 ·have:=b2 i hi q;lia
structure Tab (t:SetTable):Prop where
 asc:FQ t.place
 le:∀j∈t.place.toList,j<=t.mask
 nod:t.dummies=#[]
def J7 (T:Tab t)(h:t.place[i]?=some j):t.slot j=.live i:=by unfold slot;rw[LI T.asc h];dsimp only;rw[h];simp
def BJ (T:Tab t)(h:j∉t.place.toList):t.slot j=.empty:=by
 unfold slot;have h1:¬(t.place[below t.place j]?==some j)=true:=λz=>h (by have:=beq_iff_eq.mp z;obtain⟨hi,e⟩:=aBX.mp this;rw[<-e];simp)
 dsimp only;rw[if_neg h1,T.nod];rw[if_neg (by unfold has;simp)]
def BP (T:Tab t)(j:Nat):(t.slot j=.empty/\j∉t.place.toList)\/∃i,t.slot j=.live i/\t.place[i]?=some j:=by
 by_cases h:j∈t.place.toList
 ·obtain⟨i,hi,e⟩:=aAZ h;have:t.place[i]?=some j:=by rw[<-aAA,aAg hi,e]
  exact .inr ⟨i,J7 T this,this⟩
 ·exact .inl ⟨BJ T h,h⟩
def NZ (mask:Nat)(p:Probe):Probe:=if p.more>0 then{p with j:=p.j+1,more:=p.more-1}else{p with j:=(leap mask p.i p.perturb).1,more:=runEnd mask (leap mask p.i p.perturb).1-(leap mask p.i p.perturb).1,i:=(leap mask p.i p.perturb).1,perturb:=(leap mask p.i p.perturb).2}
def oI (t:SetTable)(p:Probe):t.advance p=NZ t.mask p:=rfl
def start (mask:Nat)(h:Int):Probe:={j:=bits h%(mask+1),more:=runEnd mask (bits h%(mask+1))-bits h%(mask+1),i:=bits h%(mask+1),perturb:=bits h,dummy:=none}
def n4 (mask:Nat)(h:Int):Nat->Probe
 |0=>start mask h
 |n+1=>NZ mask (n4 mask h n)
theorem mU (mask:Nat)(h:Int):∀n,(n4 mask h n).dummy=none
 |0=>rfl
 |n+1=>by have:=mU mask h n;show(NZ mask _).dummy=none;unfold NZ;split<;>exact this
def B7 (mask:Nat)(h:Int):Nat->Nat×Nat
 |0=>(bits h%(mask+1),bits h)
 |k+1=>leap mask (B7 mask h k).1 (B7 mask h k).2
def len (mask i:Nat):Nat:=runEnd mask i-i
def WP (mask i:Nat):len mask i<=9:=by unfold len runEnd;split<;>lia
def off (mask:Nat)(h:Int):Nat->Nat
 |0=>0
 |k+1=>off mask h k+len mask (B7 mask h k).1+1
theorem NW (mask:Nat)(h:Int):∀k,off mask h k<=10*k
 |0=>aAh _
 |k+1=>by have:=NW mask h k;have:=WP mask (B7 mask h k).1;show off mask h k+_+1<=_;lia
theorem U9 (mask:Nat)(h:Int):∀k r,r<=len mask (B7 mask h k).1->
  n4 mask h (off mask h k+r)={j:=(B7 mask h k).1+r,more:=len mask (B7 mask h k).1-r,i:=(B7 mask h k).1,perturb:=(B7 mask h k).2,dummy:=none}
 |0,0,_=>rfl
 |0,r+1,hr=>by
  have ih:=U9 mask h 0 r (by lia);have e:off mask h 0+(r+1)=(off mask h 0+r)+1:=by lia
  rw[e,n4,ih];unfold NZ;rw[if_pos (show len mask (B7 mask h 0).1-r>0 by lia)];simp
  lia
 |k+1,0,_=>by have ih:=U9 mask h k (len mask (B7 mask h k).1) (aAh _);have e:off mask h (k+1)+0=(off mask h k+len mask (B7 mask h k).1)+1:=rfl;rw[e,n4,ih];unfold NZ;rw[if_neg (by simp)];simp[B7,len]
 |k+1,r+1,hr=>by
  have ih:=U9 mask h (k+1) r (by lia);have e:off mask h (k+1)+(r+1)=(off mask h (k+1)+r)+1:=by lia
  rw[e,n4,ih];unfold NZ;rw[if_pos (show len mask (B7 mask h<|k+1).1-r>0 by lia)];simp
  lia
def NQ (mask:Nat)(h:Int)(k:Nat):(n4 mask h (off mask h k)).j=(B7 mask h k).1:=by have:=U9 mask h k 0 (aAY _);rw[Nat.add_zero]at this;rw[this];rfl
theorem gU (mask:Nat)(h:Int):∀k,(B7 mask h k).2<2^64/32^k+1
 |0=>by
  show bits h<_;unfold bits;have:=Int.emod_lt_of_pos h (show(0:Int)<2^64 by decide)
  lia
 |k+1=>by
  have ih:=gU mask h k;show(B7 mask h k).2/32<_;have e:∀N,N/32^(k+1)=N/32^k/32:=λN=>by rw[Nat.div_div_eq_div_mul];rfl
  rw[e]
  lia
theorem rX (mask:Nat)(h:Int):∀k,(B7 mask h (13+k)).2=0
 |0=>by have:=gU mask h 13;simp at this;exact this
 |k+1=>by have:=rX mask h k;show(B7 mask h<|13+k).2/32=0;rw[this]
def yk (m:Nat)(i:Nat):Nat:=(i*5+1)%m
def A0 (m:Nat):Nat->Nat->Nat
 |0,i=>i
 |n+1,i=>yk m (A0 m n i)
theorem mY (mask:Nat)(h:Int):∀k,(B7 mask h (13+k)).1=A0 (mask+1) k (B7 mask h 13).1
 |0=>rfl
 |k+1=>by have ih:=mY mask h k;show((B7 mask h<|13+k).1*5+1+(B7 mask h<|13+k).2/32)%(mask+1)=_;rw[rX,ih];rfl
theorem gZ (m:Nat):∀a b i,A0 m (a+b) i=A0 m a (A0 m b i)
 |0,b,i=>by rw[aEV];rfl
 |a+1,b,i=>by rw[show a+1+b=(a+b)+1 by lia];show yk m _=yk m _;rw[gZ m a b i]
def lU (m:Nat):Prop:=A0 m m 0=0/\∀j<m,∃n<m,A0 m n 0=j
def rY (F:lU m)(hi:i<m)(hj:j<m):∃n<m,A0 m n i=j:=by
 obtain⟨a,ha,ea⟩:=F.2 i hi;obtain⟨b,hb,eb⟩:=F.2 j hj;by_cases h:a<=b
 ·exact⟨b-a,by lia,by rw[<-ea,<-gZ,show b-a+a=b by lia,eb]⟩
 ·refine⟨b+(m-a),by lia,?_⟩;rw[<-ea,<-gZ,show b+(m-a)+a=b+m by lia,gZ,F.1,eb]
instance(m:Nat):Decidable (lU m):=inferInstanceAs (Decidable<|_/\_)
def ZZ:lU 8:=by decide+kernel
def VN:lU 32:=by decide+kernel
def QR:lU 128:=by decide+kernel
theorem DR (mask:Nat)(h:Int):∀k,(B7 mask h k).1<mask+1
 |0=>aDY _ (by lia)
 |k+1=>aDY _ (by lia)
def yY {mask:Nat}(F:lU (mask+1))(h:Int){j:Nat}(hj:j<=mask):∃n,n<=10*(mask+14)/\(n4 mask h n).j=j:=by
 obtain⟨k,hk,e⟩:=rY F (DR mask h 13) (show j<mask+1 by lia);refine⟨off mask h (13+k),?_,?_⟩
 ·have:=NW mask h (13+k);lia
 ·rw[NQ,mY,e]
end ST
namespace ST
open PySem PySem.SetTable
def uP {α β:Type}{l:List α}{m:List β}{p:Nat}{a:α×β}(h:a∈(l.take p).zip (m.take p)):a∈l.zip m:=by
 obtain⟨i,hi⟩:=aDn.mp h;rw[aBy]at hi;refine aAv (i:=i) ?_;rw[aBy];have q:∀{γ:Type} {l:List γ} {c:γ},(l.take p)[i]?=some c->l[i]?=some c:=λ{γ l c} h=>by
  rw[List.getElem?_take]at h;split at h
  ·exact h
  ·cases h
 exact⟨q hi.1,q hi.2⟩
def uR {α β:Type}{l:List α}{m:List β}{p:Nat}{a:α×β}(h:a∈(l.drop p).zip (m.drop p)):a∈l.zip m:=by obtain⟨i,hi⟩:=aDn.mp h;rw[aBy,List.getElem?_drop,List.getElem?_drop]at hi;refine aAv (i:=p+i) ?_;rw[aBy];exact hi
theorem CT (mask:Nat)(h:Int):∀n,(n4 mask h n).j+(n4 mask h n).more<=mask
 |0=>by have:=aDY (bits h) (show 0<mask+1 by lia);show bits h%(mask+1)+(runEnd mask (bits h%(mask+1))-bits h%(mask+1))<=mask;unfold runEnd;split<;>lia
 |n+1=>by
  have ih:=CT mask h n;show(NZ mask<|n4 mask h n).j+(NZ mask<|n4 mask h n).more<=mask;unfold NZ;split
  ·dsimp only;lia
  ·dsimp only;have:(leap mask (n4 mask h n).i (n4 mask h n).perturb).1<mask+1:=aDY _ (by lia);unfold runEnd;split<;>lia
def tV (mask:Nat)(h:Int)(n:Nat):(n4 mask h n).j<=mask:=by have:=CT mask h n;lia
theorem O8 {α:Type}[DecidableEq α]:∀{l m:List α},l.Nodup->(∀x∈l,x∈m)->l.length<=m.length
 |[],_,_,_=>aAY _
 |x::l,m,h,hs=>by
  have hx:=hs x (by simp);have h':=aAJ.mp h;have:=O8 (l:=l) (m:=m.erase x) h'.2 (λy hy=>by
   have ne:y≠x:=λe=>by subst e;exact h'.1 hy
   exact(aFS ne).mpr (hs y<|aAe _ hy))
  rw[aFl hx]at this;have:0<m.length:=aDX hx;simp only[aAw]
  lia
def FR {t:SetTable}(h:t.place.size<=t.mask):∃j≤t.mask,j∉t.place.toList:=by
 by_cases z:∃j≤t.mask,j∉t.place.toList
 ·exact z
 ·exfalso;have:=O8 (l:=aBt (t.mask+1)) (m:=t.place.toList) List.nodup_range (λj hj=>by
   by_cases q:j∈t.place.toList
   ·exact q
   ·exact absurd ⟨j,by have:=aCr.mp hj;lia,q⟩ z)
  simp at this
  lia
theorem least {P:Nat->Prop}[DecidablePred P]:∀n,P n->∃m≤n,P m/\∀k<m,¬P k
 |0,h=>⟨0,aAh _,h,λk hk=>by lia⟩
 |n+1,h=>by
  by_cases z:∃k≤n,P k
  ·obtain⟨k,hk,hp⟩:=z;obtain⟨m,h1,h2,h3⟩:=least k hp;exact⟨m,by lia,h2,h3⟩
  ·exact⟨n+1,aAh _,h,λk hk hp=>z ⟨k,by lia,hp⟩⟩
termination_by n=>n
def T7 (t:SetTable)(h:Int)(n0:Nat):Prop:=n0<=10*(t.mask+14)/\(n4 t.mask h n0).j∉t.place.toList/\∀m<n0,(n4 t.mask h m).j∈t.place.toList
def AC {t:SetTable}(F:lU (t.mask+1))(hs:t.place.size<=t.mask)(h:Int):∃n0,T7 t h n0:=by obtain⟨j,hj,hn⟩:=FR hs;obtain⟨n,h1,h2⟩:=yY F h hj;obtain⟨m,h3,h4,h5⟩:=least (P:=λn=>(n4 t.mask h n).j∉t.place.toList) n (by rw[h2];exact hn);exact⟨m,by lia,h4,λk hk=>by have:=h5 k hk;simpa using this⟩
theorem vY (T:Tab t)(hashAt:Nat->Int)(h:Int)(hf:T7 t h n0):∀(fuel n:Nat),n<=n0->n0-n<fuel->
  ∃n',n<=n'/\n'<=n0/\(∀m,n<=m->m<n'->∃i,t.place[i]?=some (n4 t.mask h m).j/\hashAt i≠h)/\
   ((n'=n0/\probe.go t hashAt h fuel (n4 t.mask h n)=some (.empty (n4 t.mask h n0).j none))\/
    (n'<n0/\∃i,t.place[i]?=some (n4 t.mask h n').j/\hashAt i=h/\probe.go t hashAt h fuel (n4 t.mask h n)=some (.candidate (n4 t.mask h n').j i (n4 t.mask h (n'+1)))))
 |0,n,_,h2=>by lia
 |fuel+1,n,h1,h2=>by
  unfold probe.go;rcases BP T (n4 t.mask h n).j with⟨e,hn⟩|⟨i,e,hi⟩
  ·have:n=n0:=by
     by_cases q:n<n0
     ·exact absurd (hf.2.2 n q) hn
     ·lia
   subst this;refine⟨n,aAh _,aAh _,λm a b=>by lia,.inl ⟨rfl,?_⟩⟩;rw[e];dsimp only;rw[mU]
  ·have ae:n≠n0:=λq=>by subst q;refine hf.2.1 ?_;rw[<-aAA]at hi;exact aAv hi
   rw[e];dsimp only;by_cases hh:hashAt i=h
   · refine⟨n,aAh _,by lia,λm a b=>by lia,.inr ⟨by lia,i,hi,hh,?_⟩⟩
     rw[if_pos (by simpa using hh),oI];rfl
   · rw[if_neg (by simpa using hh),oI]
     obtain⟨n',a1,a2,a3,a4⟩:=vY T hashAt h hf fuel (n+1) (by lia) (by lia);refine⟨n',by lia,a2,λm b1 b2=>?_,a4⟩;by_cases q:m=n
     ·subst q;exact⟨i,hi,hh⟩
     ·exact a3 m (by lia) b2
def IT (T:Tab t)(hashAt:Nat->Int)(h:Int)(hf:T7 t h n0)(n:Nat)(h1:n<=n0):
  ∃n',n<=n'/\n'<=n0/\(∀m,n<=m->m<n'->∃i,t.place[i]?=some (n4 t.mask h m).j/\hashAt i≠h)/\
   ((n'=n0/\t.probe hashAt h (n4 t.mask h n)=some (.empty (n4 t.mask h n0).j none))\/
    (n'<n0/\∃i,t.place[i]?=some (n4 t.mask h n').j/\hashAt i=h/\t.probe hashAt h (n4 t.mask h n)=some (.candidate (n4 t.mask h n').j i (n4 t.mask h (n'+1))))):=
 vY T hashAt h hf _ n h1 (by have:=hf.1;unfold turns;lia)
def Reach (mask:Nat)(occ:Nat->Prop)(h:Int)(j:Nat):Prop:=∃n,(n4 mask h n).j=j/\∀m<n,occ (n4 mask h m).j
def Reach.mono {mask:Nat}{o o':Nat->Prop}{h:Int}{j:Nat}(r:Reach mask o h j)(i:∀k,o k->o' k):Reach mask o' h j:=by obtain⟨n,e,q⟩:=r;exact⟨n,e,λm hm=>i _ (q m hm)⟩
def Reach.before (hf:T7 t h n0)(hj:j∈t.place.toList)(r:Reach t.mask (λk=>k∈t.place.toList) h j):∃n<n0,(n4 t.mask h n).j=j:=by
 obtain⟨n,e,q⟩:=r;refine⟨n,?_,e⟩;by_cases z:n<n0
 ·exact z
 ·exfalso;by_cases y:n=n0
  ·subst y;exact hf.2.1 (by rw[e];exact hj)
  ·exact hf.2.1 (q n0 (by lia))
def eJ {α:Type}(xs:Array α)(p:Nat)(x:α):(insertAt xs p x).toList=xs.toList.take p++x::xs.toList.drop p:=by
 unfold insertAt;simp[Array.toList_extract,List.extract_eq_drop_take];have:xs.size-p=(xs.toList.drop p).length:=by simp
 rw[this,List.take_length]
def vC (t:SetTable)(es:List (Int×Value)):List (Nat×Int×Value):=t.place.toList.zip es
structure SOk (t:SetTable)(es:List (Int×Value)):Prop where
 tab:Tab t
 full:lU (t.mask+1)
 len:t.place.size=es.length
 room:t.place.size<=t.mask
 reach:∀e∈vC t es,Reach t.mask (λk=>k∈t.place.toList) e.2.1 e.1
def RJ {t:SetTable}{es:List (Int×Value)}(hl:t.place.size=es.length){i:Nat}{e:Int×Value}(h:es[i]?=some e):∃j,t.place[i]?=some j/\(j,e)∈vC t es:=by
 have hi:i<es.length:=(aAC.mp h).1;have eh:i<t.place.toList.length:=by simpa[hl]using hi
 refine⟨t.place.toList[i],by rw[<-aAA,aAg eh],?_⟩;unfold vC;refine aAv (i:=i) ?_;rw[aBy];exact⟨aAg eh,h⟩
def VF {t:SetTable}{es:List (Int×Value)}(S:SOk t es){h:Int}{x:Value}{n0:Nat}(hf:T7 t h n0)(hr:t.place.size+1<=t.mask):
  SOk (t.put (n4 t.mask h n0).j).1 (es.take (t.put (n4 t.mask h n0).j).2++(h,x)::es.drop (t.put (n4 t.mask h n0).j).2):=by
 have hj:=tV t.mask h n0;obtain⟨b1,b2,b3⟩:=aY S.tab.asc (n4 t.mask h n0).j;generalize hJ:(n4 t.mask h n0).j=J at*
 have hf2:J∉t.place.toList:=by rw[<-hJ];exact hf.2.1
 have ep:(t.put J).2=below t.place J:=rfl;have em:(t.put J).1.mask=t.mask:=rfl;have epl:(t.put J).1.place=insertAt t.place (below t.place J) J:=rfl;have lpl:=eJ t.place (below t.place J) J;have mem:∀k,k∈(t.put J).1.place.toList↔k∈t.place.toList\/k=J:=λk=>by
  rw[epl,lpl,aAS,aAd];constructor
  ·rintro(q|q|q)
   ·exact .inl (aEs q)
   ·exact .inr q
   ·exact .inl (aDw q)
  ·rintro(q|q)
   ·rw[<-aFI (below t.place J) t.place.toList,aAS]at q;rcases q with q|q
    ·exact .inl q
    ·exact .inr (.inr q)
   ·exact .inr (.inl q)
 have hsz:(t.put J).1.place.size=t.place.size+1:=by
  rw[<-aAW,epl,lpl,aAE,aBI,aAw,aDC,aAW]
  lia
 refine⟨⟨?_,λj ua=>?_,?_⟩,S.full,?_,by rw[hsz];exact hr,λe he=>?_⟩
 ·
  have asc:t.place.toList.Pairwise (· <·):=by rw[aCc];intro i j hi hj jc;simpa using S.tab.asc i j (by simpa using hi) (by simpa using hj) jc
  have lt1:∀a∈t.place.toList.take (below t.place J),a<J:=λa ha=>by
   obtain⟨i,hi,e⟩:=aAZ ha;rw[aBI]at hi;rw[List.getElem_take]at e;have:=b2 i (by simp at hi;lia) (by lia);simp at e
   lia
  have gt1:∀a∈t.place.toList.drop (below t.place J),J<a:=λa ha=>by
   obtain⟨i,hi,e⟩:=aAZ ha;rw[aDC]at hi;rw[List.getElem_drop]at e;have h1:=b3 (below t.place J+i) (by simp at hi;lia) (by lia);simp at e;have h2:J≠a:=λq=>hf2 (by rw[q];exact aDw ha)
   lia
  have pw:(t.put J).1.place.toList.Pairwise (· <·):=by
   rw[epl,lpl,List.pairwise_append];refine⟨asc.sublist (List.take_sublist _ _),aAy.mpr ⟨gt1,asc.sublist (List.drop_sublist _ _)⟩,λa ha b hb=>?_⟩;rcases aAd.mp hb with q|q
   ·subst q;exact lt1 a ha
   ·exact aGo (lt1 a ha) (gt1 b q)
  intro i k hi hk hik;have:=aCc.mp pw i k (by simpa using hi) (by simpa using hk) hik;simpa using this
 ·rcases(mem j).mp ua with q|q
  ·exact S.tab.le j q
  ·subst q;exact hj
 ·show(if has t.dummies J then _ else t.dummies)=#[];rw[S.tab.nod,if_neg (by unfold has;simp)]
 ·rw[hsz,ep,aAE,aBI,aAw,aDC];have:=S.len
  lia
 ·have qd:e∈vC t es\/e=(J,h,x):=by
   unfold vC at he;rw[epl,lpl,ep]at he;rw[List.zip_append (by rw[aBI,aBI,aAW,S.len])]at he;rcases aAS.mp he with q|q
   ·left;unfold vC;exact uP q
   ·rw[aBM]at q;rcases aAd.mp q with q|q
    ·exact .inr q
    ·left;unfold vC;exact uR q
  rcases qd with q|q
  ·exact(S.reach e q).mono λk hk=>(mem k).mpr (.inl hk)
  ·subst q;exact⟨n0,hJ,λm hm=>(mem _).mpr (.inl (hf.2.2 m hm))⟩
end ST
namespace ST
open PySem PySem.SetTable
def Q4 (owner:Array (Option Nat))(j:Nat):Prop:=(owner.getD j<|some 0).isNone=false
theorem rL {mask:Nat}(h:Int)(owner:Array (Option Nat)):∀(fuel k:Nat),(∃kk,k<=kk/\kk<k+fuel/\¬Q4 owner (B7 mask h kk).1)->
  ∃n,off mask h k<=n/\layClean.free mask owner fuel (B7 mask h k).1 (B7 mask h k).2=some (n4 mask h n).j/\¬Q4 owner (n4 mask h n).j/\∀m,off mask h k<=m->m<n->Q4 owner (n4 mask h m).j
 |0,k,⟨kk,h1,h2,_⟩=>by lia
 |fuel+1,k,⟨kk,h1,h2,h3⟩=>by
  have eL:runEnd mask (B7 mask h k).1+1-(B7 mask h k).1=len mask (B7 mask h k).1+1:=by unfold len runEnd;split<;>lia
  unfold layClean.free;rw[eL];cases e:(aBt<|len mask (B7 mask h k).1+1).find? λr=>(owner.getD ((B7 mask h k).1+r)<|some 0).isNone with
  |some r=>
   have q:=List.find?_some e;have hr:r<len mask (B7 mask h k).1+1:=aCr.mp (aEY e);have ej:(n4 mask h<|off mask h k+r).j=(B7 mask h k).1+r:=by rw[U9 mask h k r (by lia)]
   refine⟨off mask h k+r,by lia,by rw[ej],by rw[ej];unfold Q4;rw[q];simp,λm a b=>?_⟩;have em:(n4 mask h m).j=(B7 mask h k).1+(m-off mask h k):=by have:=U9 mask h k (m-off mask h k) (by lia);rw[show off mask h k+(m-off mask h k)=m by lia]at this;rw[this]
   rw[em];unfold Q4;rw[List.find?_range_eq_some]at e;have:=e.2.2 (m-off mask h k) (by lia);simpa using this
  |none=>
   have all:∀r<len mask (B7 mask h k).1+1,Q4 owner ((B7 mask h k).1+r):=λr hr=>by have:=List.find?_eq_none.mp e r (aCr.mpr hr);unfold Q4;exact Bool.not_eq_true _▸this
   have hk:kk≠k:=λq=>by subst q;have:=all 0 (by lia);rw[Nat.add_zero]at this;exact h3 this
   obtain⟨n,a1,a2,a3,a4⟩:=rL h owner fuel (k+1) ⟨kk,by lia,by lia,h3⟩;have eo:off mask h (k+1)=off mask h k+len mask (B7 mask h k).1+1:=rfl;refine⟨n,by lia,a2,a3,λm b1 b2=>?_⟩;by_cases q:off mask h (k+1)<=m
   ·exact a4 m q b2
   ·have em:(n4 mask h m).j=(B7 mask h k).1+(m-off mask h k):=by have:=U9 mask h k (m-off mask h k) (by lia);rw[show off mask h k+(m-off mask h k)=m by lia]at this;rw[this]
    rw[em];exact all _ (by lia)
def mH {mask:Nat}(F:lU (mask+1))(h:Int)(owner:Array (Option Nat)){j:Nat}(hj:j<=mask)(hn:¬Q4 owner j):
  ∃n,layClean.free mask owner (turns mask) (aDQ h%(mask+1)) (aDQ h)=some (n4 mask h n).j/\¬Q4 owner (n4 mask h n).j/\∀m<n,Q4 owner (n4 mask h m).j:=by
 obtain⟨k,hk,e⟩:=rY F (DR mask h 13) (show j<mask+1 by lia);obtain⟨n,a1,a2,a3,a4⟩:=rL h owner (turns mask) 0 ⟨13+k,aAY _,by unfold turns;lia,by rw[mY,e];exact hn⟩;exact⟨n,a2,a3,λm hm=>a4 m (aAY _) hm⟩
structure Laid (mask:Nat)(hs:List Int)(owner:Array (Option Nat))(k:Nat):Prop where
 size:owner.size=mask+1
 lt:∀(j i:Nat),owner[j]?=some (some i)->i<k
 inj:∀(j j' i:Nat),owner[j]?=some (some i)->owner[j']?=some (some i)->j=j'
 sur:∀i<k,∃j:Nat,owner[j]?=some (some i)
 reach:∀(j i:Nat) (h:Int),owner[j]?=some (some i)->hs[i]?=some h->Reach mask (λl=>∃i,owner[l]?=some (some i)) h j
def jX {owner:Array (Option Nat)}{mask j:Nat}(hs:owner.size=mask+1)(hj:j<=mask):Q4 owner j↔∃i,owner[j]?=some (some i):=by
 unfold Q4;have ai:j<owner.size:=by lia
 have e:owner.getD j (some 0)=owner[j]:=by simp[aFk,ai]
 rw[e,aAH ai];cases owner[j]with
 |none=>simp
 |some i=>simp
def Laid.room {mask k:Nat}{hs:List Int}{owner:Array (Option Nat)}(L:Laid mask hs owner k)(hk:k<=mask):∃j≤mask,¬Q4 owner j:=by
 by_cases z:∃j≤mask,¬Q4 owner j
 ·exact z
 ·exfalso;have all:∀j≤mask,∃i,owner[j]?=some (some i):=λj hj=>by
   by_cases q:Q4 owner j
   ·exact(jX L.size hj).mp q
   ·exact absurd ⟨j,hj,q⟩ z
  have key:∀n,n<=mask+1->∃l:List Nat,l.length=n/\l.Nodup/\(∀i∈l,i<k)/\∀i∈l,∃j<n,owner[j]?=some (some i):=λn=>by
   induction n with
   |zero=>exactλ_=>⟨[],rfl,aCL,by simp,by simp⟩
   |succ n ih=>
    intro hn;obtain⟨l,h1,h2,h3,h4⟩:=ih (by lia);obtain⟨i,hi⟩:=all n (by lia);refine⟨i::l,by simp[h1],aAJ.mpr ⟨λq=>?_,h2⟩,λx hx=>?_,λx hx=>?_⟩
    ·obtain⟨j,hj,e⟩:=h4 i q;have:=L.inj j n i e hi
     lia
    ·rcases aAd.mp hx with q|q
     ·subst q;exact L.lt _ _ hi
     ·exact h3 x q
    ·rcases aAd.mp hx with q|q
     ·subst q;exact⟨n,by lia,hi⟩
     ·obtain⟨j,hj,e⟩:=h4 x q;exact⟨j,by lia,e⟩
  obtain⟨l,h1,h2,h3,_⟩:=key (mask+1) (aAh _);have:=O8 (m:=aBt k) h2 (λx hx=>aCr.mpr (h3 x hx));simp at this
  lia
def BZ (mask:Nat)(hs:List Int):Laid mask hs (aEz (mask+1) none) 0:=by
 have no:∀(j i:Nat),(aEz (mask+1) (none:Option Nat))[j]?=some (some i)->False:=λj i h=>by rw[Array.getElem?_replicate]at h;split at h<;>cases h
 exact⟨by simp,λj i h=>(no j i h).elim,λj j' i h=>(no j i h).elim,λi hi=>by lia,λj i _ h=>(no j i h).elim⟩
def Laid.step {mask k:Nat}{hs:List Int}{owner:Array (Option Nat)}(L:Laid mask hs owner k){h:Int}(hk:hs[k]?=some h){n:Nat}(h2:¬Q4 owner (n4 mask h n).j)(h3:∀m<n,Q4 owner (n4 mask h m).j):
  Laid mask hs (owner.setIfInBounds (n4 mask h n).j (some k)) (k+1):=by
 have hJ:=tV mask h n;have hJ':(n4 mask h n).j<owner.size:=by rw[L.size];lia
 have get:∀(j i:Nat),(owner.setIfInBounds (n4 mask h n).j (some k))[j]?=some (some i)↔(j=(n4 mask h n).j/\i=k)\/(j≠(n4 mask h n).j/\owner[j]?=some (some i)):=λj i=>by
  rw[Array.getElem?_setIfInBounds];by_cases q:(n4 mask h n).j=j
  ·rw[if_pos q,if_pos hJ'];simp[q,eq_comm]
  ·rw[if_neg q];constructor
   ·intro z;exact .inr ⟨λy=>q y.symm,z⟩
   ·rintro(⟨z,_⟩|⟨_,z⟩)
    ·exact absurd z.symm q
    ·exact z
 have fr:∀i,owner[(n4 mask h n).j]?≠some (some i):=λi z=>h2 ((jX L.size hJ).mpr ⟨i,z⟩);have grow:∀l:Nat,(∃i:Nat,owner[l]?=some (some i))->∃i:Nat,(owner.setIfInBounds (n4 mask h n).j (some k))[l]?=some (some i):=λl hl=>by
  obtain⟨i,z⟩:=hl;by_cases q:l=(n4 mask h n).j
  ·exact⟨k,(get l k).mpr (.inl ⟨q,rfl⟩)⟩
  ·exact⟨i,(get l i).mpr (.inr ⟨q,z⟩)⟩
 refine⟨by simp[L.size],λj i z=>?_,λj j' i z z'=>?_,λi hi=>?_,λj i h' z e=>?_⟩
 ·rcases(get j i).mp z with⟨_,q⟩|⟨_,q⟩
  ·lia
  ·have:=L.lt j i q;lia
 ·rcases(get j i).mp z with⟨q1,q2⟩|⟨q1,q2⟩
  ·rcases(get j' i).mp z' with⟨r1,r2⟩|⟨r1,r2⟩
   ·rw[q1,r1]
   ·subst q2;have:=L.lt _ _ r2;lia
  ·rcases(get j' i).mp z' with⟨r1,r2⟩|⟨r1,r2⟩
   ·subst r2;have:=L.lt _ _ q2;lia
   ·exact L.inj j j' i q2 r2
 ·by_cases q:i=k
  ·subst q;exact⟨_,(get _ _).mpr (.inl ⟨rfl,rfl⟩)⟩
  ·obtain⟨j,z⟩:=L.sur i (by lia);exact⟨j,(get j i).mpr (.inr ⟨λy=>by subst y;exact fr i z,z⟩)⟩
 ·rcases(get j i).mp z with⟨q1,q2⟩|⟨q1,q2⟩
  ·subst q1 q2;have:h'=h:=aAj (e.symm.trans hk);subst this;exact⟨n,rfl,λm hm=>grow _ ((jX L.size<|tV mask h' m).mp (h3 m hm))⟩
  ·exact(L.reach j i h' q2 e).mono grow
def vU {mask:Nat}(F:lU (mask+1))(hs:Array Int)(hl:hs.size<=mask):∃owner,layClean mask hs=some owner/\Laid mask hs.toList owner hs.size:=by
 have go:∀(post pre:List Int) (owner:Array (Option Nat)),hs.toList=pre++post->Laid mask hs.toList owner pre.length->
   ∃ku,post.foldl (λacc h=>do
    let(owner,k)<-acc
    let j<-layClean.free mask owner (turns mask) (aDQ h%(mask+1)) (aDQ h)
    pure (owner.setIfInBounds j (some k),k+1)) (some (owner,pre.length))=some (ku,hs.size)/\Laid mask hs.toList ku hs.size:=λpost=>by
  induction post with
  |nil=>
   intro pre owner e L;have:pre.length=hs.size:=by rw[<-aAW,e];simp
   exact⟨owner,by rw[List.foldl_nil,this],by rw[<-this];exact L⟩
  |cons h post ih=>
   intro pre owner e L;have hlen:pre.length<hs.size:=by rw[<-aAW,e];simp
   obtain⟨j,hj,hn⟩:=L.room (by lia);obtain⟨n,f1,f2,f3⟩:=mH F h owner hj hn;have hk:hs.toList[pre.length]?=some h:=by rw[e];simp
   have L':=L.step hk f2 f3;rw[aDR];have e2:hs.toList=(pre++[h])++post:=by rw[e];simp
   obtain⟨ku,g1,g2⟩:=ih (pre++[h]) _ e2 (by rw[aAE];exact L');refine⟨ku,?_,g2⟩;rw[<-g1];congr 1;simp[f1]
 obtain⟨owner,h1,h2⟩:=go hs.toList [] (aEz (mask+1) none) rfl (BZ mask hs.toList);refine⟨owner,?_,h2⟩;unfold layClean;rw[<-Array.foldl_toList];have xb:List.foldl (λacc h=>do
    let(owner,k)<-acc
    let j<-layClean.free mask owner (turns mask) (aDQ h%(mask+1)) (aDQ h)
    pure (owner.setIfInBounds j (some k),k+1)) (some (aEz (mask+1) none,0)) hs.toList=some (owner,hs.size):=h1
 rw[xb];rfl
end ST
namespace ST
open PySem PySem.SetTable
def C7 (mask:Nat)(owner:Array (Option Nat)):List (Nat×Nat):=(aBt<|mask+1).filterMap λj=>(owner.getD j none).map (j,·)
def Q0 {mask:Nat}{owner:Array (Option Nat)}(hs:owner.size=mask+1){j i:Nat}:(j,i)∈C7 mask owner↔owner[j]?=some (some i):=by
 unfold C7;rw[aBL];constructor
 ·rintro⟨l,hl,e⟩;have gu:l<owner.size:=by rw[hs];exact aCr.mp hl
  have eg:owner.getD l none=owner[l]:=by simp[aFk,gu]
  rw[eg,aDa]at e;obtain⟨i',e1,e2⟩:=e;cases e2;rw[aAH gu,e1]
 ·intro e;obtain⟨hl,e1⟩:=aBX.mp e;have eg:owner.getD j none=owner[j]:=by simp[aFk,hl]
  exact⟨j,aCr.mpr (by lia),by rw[eg,e1];rfl⟩
def wP (mask:Nat)(owner:Array (Option Nat)):((C7 mask owner).map (·.1)).Pairwise (· <·):=by unfold C7;rw[aBK];have:(aBt<|mask+1).Pairwise (· <·):=List.pairwise_lt_range;refine List.Pairwise.filterMap _ (R:=(· <·)) ?_ this;intro a a' ai b hb b' iu;rw[aDa]at hb iu;obtain⟨_,_,rfl⟩:=hb;obtain⟨_,_,rfl⟩:=iu;exact ai
def IF {mask finger moves:Nat}{led plain:Bool}(F:lU (mask+1))(es:Array (Int×Value))(hl:es.size<=mask):
  ∃t' order,laid mask finger moves led plain (es.map (·.1))=some (t',order)/\(order.filterMap (es[·]?)).size=es.size/\(order.filterMap (es[·]?)).toList.Perm es.toList/\SOk t' (order.filterMap (es[·]?)).toList/\
   t'.mask=mask/\t'.dummies=#[]/\t'.led=led/\t'.plain=plain/\t'.moves=moves:=by
 obtain⟨owner,h1,L⟩:=vU F (es.map (·.1)) (by simpa using hl);have hk:(es.map (·.1)).size=es.size:=by simp
 rw[hk]at L;refine⟨{mask,place:=((C7 mask owner).map (·.1)).toArray,dummies:=#[],finger,led,moves,plain},((C7 mask owner).map (·.2)).toArray,?_,?_⟩
 ·unfold laid;rw[h1];rfl
 have nd1:(C7 mask owner).Nodup:=by have:=wP mask owner;rw[aBK]at this;exact aBW.mpr (this.imp λ{a b} h e=>by subst e;exact aBc _ h)
 have ndo:((C7 mask owner).map (·.2)).Nodup:=by rw[aBW,aBK];refine List.Pairwise.imp_of_mem (R:=(· ≠·)) ?_ (aBW.mp nd1);rintro⟨j,i⟩ ⟨j',i'⟩ ha hb ae e;dsimp only at e;subst e;have:=L.inj j j' i ((Q0 L.size).mp ha) ((Q0 L.size).mp hb);subst this;exact ae rfl
 have po:((C7 mask owner).map (·.2)).Perm (aBt es.size):=by
  rw[aDv ndo List.nodup_range];intro i;rw[aCr,aAo];constructor
  ·rintro⟨⟨j,i'⟩,h,rfl⟩;exact L.lt _ _ ((Q0 L.size).mp h)
  ·intro hi;obtain⟨j,hj⟩:=L.sur i hi;exact⟨(j,i),(Q0 L.size).mpr hj,rfl⟩
 have ee:(((C7 mask owner).map (·.2)).toArray.filterMap (es[·]?)).toList=(C7 mask owner).filterMap (λx=>es[x.2]?):=by rw[Array.toList_filterMap,aDc];rfl
 have pe:((C7 mask owner).filterMap (λx=>es[x.2]?)).Perm es.toList:=by
  have h2:(C7 mask owner).filterMap (λx=>es[x.2]?)=((C7 mask owner).map (·.2)).filterMap (λi=>es[i]?):=by rw[aDc];rfl
  rw[h2];refine(po.filterMap _).trans (List.Perm.of_eq ?_);apply aDZ;intro i;have:(aBt es.size).filterMap (λi=>es[i]?)=es.toList:=by
   have q:∀l:List (Int×Value),(aBt l.length).filterMap (λi=>l[i]?)=l:=λl=>by
    induction l with
    |nil=>rfl
    |cons a l ih=>
     rw[aAw,aFC,aCu];simp only[aCU];rw[aDc];have:((λi=>(a::l)[i]?)∘Nat.succ)=λi=>l[i]?:=by funext i;simp
     rw[this,ih]
   have:=q es.toList;simpa using this
  rw[this]
 have zp:∀l:List (Nat×Nat),(∀x∈l,x.2<es.size)->(l.map (·.1)).zip (l.filterMap<|λx=>es[x.2]?)=l.filterMap (λx=>es[x.2]?.map (x.1,·))/\(l.filterMap<|λx=>es[x.2]?).length=l.length:=λl=>by
  induction l with
  |nil=>intro _;exact⟨rfl,rfl⟩
  |cons x l ih=>intro h;obtain⟨i1,i2⟩:=ih (λy hy=>h y (aAe _ hy));have hx:=h x (by simp);have e:es[x.2]?=some es[x.2]:=aAH hx;rw[aAu,aCu,e];dsimp only;rw[aCu,e];dsimp only[Option.map_some];rw[aBM,i1];exact⟨rfl,by simp[i2]⟩
 obtain⟨z1,z2⟩:=zp (C7 mask owner) (λx hx=>L.lt x.1 x.2 ((Q0 L.size).mp hx));have hsz:(C7 mask owner).length=es.size:=by have:=po.length_eq;simpa using this
 rw[ee];refine⟨by rw[<-aAW,ee,z2,hsz],pe,⟨⟨?_,λj hj=>?_,rfl⟩,F,?_,?_,λe he=>?_⟩,rfl,rfl,rfl,rfl,rfl⟩
 ·intro i k hi hk hik;have:=aCc.mp (wP mask owner) i k (by simpa using hi) (by simpa using hk) hik;simpa using this
 ·have ua:j∈(C7 mask owner).map (·.1):=by simpa using hj
  obtain⟨⟨j',i⟩,h,rfl⟩:=aAo.mp ua;have:=(aBX.mp<|(Q0 L.size).mp h).1;rw[L.size]at this;show j'<=mask
  lia
 ·rw[z2];simp
 ·simp only[aAk,aAm,hsz];exact hl
 ·unfold vC at he;dsimp only at he;rw[z1,aBL]at he;obtain⟨⟨j,i⟩,h,e1⟩:=he;rw[aDa]at e1;obtain⟨⟨hh,v⟩,e2,rfl⟩:=e1;have ho:=(Q0 L.size).mp h;have:=L.reach j i hh ho (by rw[aAA,Array.getElem?_map,e2];rfl);refine this.mono λl ⟨i',eh⟩=>?_;show l∈(C7 mask owner).map (·.1);exact aAo.mpr ⟨(l,i'),(Q0 L.size).mpr eh,rfl⟩
end ST
namespace DL
open PySem PySem.Spec L2
open PyProof.Rows hiding St
variable [Tabs]
mutual
inductive HV (h:Heap):Value->D->Prop
 |int (i:Int) (t:Tok):HV h (.int i t) (.int i)
 |tup {a:Addr} {items:Array Value} {ds:List D} (p:IsTup h a items) (r:HVs h items.toList ds):HV h (.ref a) (.tup ds)
inductive HVs (h:Heap):List Value->List D->Prop
 |nil:HVs h [] []
 |cons {v:Value} {d:D} {vs:List Value} {ds:List D} (r:HV h v d) (t:HVs h vs ds):HVs h (v::vs) (d::ds)
end
mutual
def pQ:D->Bool
 |.int _=>true
 |.tup xs=>fV xs
 |_=>false
def fV:List D->Bool
 |[]=>true
 |x::xs=>pQ x&&fV xs
end
theorem gE:∀xs:List D,uU xs=xs.map n8
 |[]=>rfl
 |x::xs=>by rw[uU,gE xs];rfl
section
mutual
theorem HV.keeps (k:∀b o,h.get? b=some o->o.cls=.type "tuple"->h'.get? b=some o):∀{v:Value} {d:D},HV h v d->HV h' v d
 |_,_,.int i t=>.int i t
 |_,_,.tup p r=>.tup (by obtain⟨o,e,c,n,d⟩:=p;exact⟨o,k _ _ e c,c,n,d⟩) (HVs.keeps k r)
theorem HVs.keeps (k:∀b o,h.get? b=some o->o.cls=.type "tuple"->h'.get? b=some o):∀{v:List Value} {d:List D},HVs h v d->HVs h' v d
 |_,_,.nil=>.nil
 |_,_,.cons r t=>.cons (HV.keeps k r) (HVs.keeps k t)
end
mutual
theorem HV.inj:∀{v:Value} {d d':D},HV h v d->HV h v d'->d=d'
 |_,_,_,.int i t,.int _ _=>rfl
 |_,_,_,.tup p r,.tup p' r'=>by obtain⟨o,e,c,n,dd⟩:=p;obtain⟨o',e',c',n',yf⟩:=p';rw[e]at e';cases e';rw[dd]at yf;injection yf with q _;subst q;rw[HVs.inj r r']
theorem HVs.inj:∀{v:List Value} {d d':List D},HVs h v d->HVs h v d'->d=d'
 |_,_,_,.nil,.nil=>rfl
 |_,_,_,.cons r t,.cons r' t'=>by rw[HV.inj r r',HVs.inj t t']
end
theorem HVs.length:∀{v:List Value} {d:List D},HVs h v d->v.length=d.length
 |_,_,.nil=>rfl
 |_,_,.cons _ t=>by simp[HVs.length t]
end
section
variable{prog:Program} {w:World}
def PH (prog:Program)(w:World)(h:Heap)(v:Value)(d:D):Prop:=∀(A:Around) (E:C5) (s:Shared) (Q:Int->Shared->Prop),s.heap=h->A.units+8*E9 d<cLine->(∀tk,s.toks<=tk->Q (n8 d) {s with toks:=tk})->wpAny (model prog w) A (pyHash v) Q E s
mutual
theorem TX:∀{v:Value} {d:D},HV h v d->PH prog w h v d
 |_,_,.int i t=>λA E s Q hs hu q=>by exact(intKind prog w).pyHash (k:=i) (intKind_is _ _ _ _) (q _<|Nat.le_succ _)
 |_,_,.tup (a:=a) (items:=items) (ds:=ds) p r=>λA E s Q hs hu q=>by
  have fs:=KA r;subst hs;obtain⟨o,ho,hc,n,hd⟩:=p;have hT:s.TypeIs (.ref a) "tuple":=⟨o,ho,hc⟩;have zl:A.units<cLine:=by lia
  rw[E9]at hu;unfold pyHash;first|unfold pyHashByItsType|skip
  first|refine aAa (wpAny_cRoomFor_or (.inr zl) ?_)|skip
  refine aAa (aBq hT PySem.F.slot_tuple_hash.lookup ?_);show wpAny _ _ (if(some (aGe "tuple.__hash__")==some Value.none)=true then _ else _) Q E s;rw[if_neg (by rw[aFw];exact aAQ)];refine aAa (aBq hT PySem.F.slot_tuple_hash.lookup ?_);show wpAny _ _ (callSpecialIfBoundUnlessNone? (.ref a) "__hash__" _>>=_) Q E s;refine aAa (aDg hT PySem.F.slot_tuple_hash<|aBp PySem.F.slot_tuple_hash hT PySem.F.entry_tuple_hash ?_ (PySem.F.args_tuple_hash_1 _));show wpAny _ _ (aDt (.ref a)>>=_) _ _ s;refine aAa (wpAny_tupleItemsOf ho hd ?_);refine aAa ?_;rw[<-aCk];refine aCl _
   (λrest (b:Array Int) s'=>∃done left tk,ds=done++left/\Paired (PH prog w s.heap) rest left/\b.toList=done.map n8/\s.toks<=tk/\s'={s with toks:=tk})
   _ ?_ ?_ _ _ ⟨[],ds,s.toks,rfl,fs,rfl,aAh _,rfl⟩
  ·rintro x rest b s' ⟨done,left,tk,e1,hl,hb,vc,rfl⟩;cases hl with
   |@cons _ d _ left' h1 gu=>
    refine aAa (h1 _ _ _ _ rfl ?_ λxh htk'=>?_)
    ·have:E9 d<=G0 ds:=by rw[e1];exact tW (j:=done.length) (by simp)
     rw[u7];lia
    first
     |exact aAb ⟨done++[d],left',xh,by simp[e1],gu,by simp[hb],by(have:tk<=xh:=htk');lia,rfl⟩
     |exact aAa (aAb (aAb ⟨done++[d],left',xh,by simp[e1],gu,by simp[hb],by(have:tk<=xh:=htk';lia),rfl⟩))
  ·rintro b s' ⟨done,left,tk,e1,hl,hb,vc,rfl⟩;cases hl;rw[aCv]at e1;subst e1;show wpAny _ _ (retInt<|aAL b.toList) _ _ _;rw[hb];refine wpAny_ret_mkInt ?_;show wpAny _ _ (if(decide (-(2:Int)^63<=aAL (ds.map n8))&&decide (aAL (ds.map n8)<2^63))=true then _ else _) Q E _;have q':=q (tk+1) (by lia);rw[n8,gE]at q';unfold reduceHash at q';by_cases hr:(decide (-(2:Int)^63<=aAL (ds.map n8))&&decide (aAL (ds.map n8)<2^63))=true
   ·rw[if_pos hr];rw[if_pos hr]at q';exact aAb q'
   ·rw[if_neg hr];rw[if_neg hr]at q';exact aAa (aDr<|aAb q')
theorem KA:∀{v:List Value} {d:List D},HVs h v d->Paired (PH prog w h) v d
 |_,_,.nil=>.nil
 |_,_,.cons r t=>.cons (TX r) (KA t)
end
mutual
theorem DK:∀{v u:Value} {d e:D} {A:Around},HV s.heap v d->HV s.heap u e->A.units+E9 d<cLine->SeqAt.EqAt A s v u (v5 d e)
 |_,_,_,_,A,.int i t,.int j t',_=>by simp only[v5];exact aEP _ _ _ _
 |_,_,_,_,A,.int i t,.tup p r,hu=>by simp only[v5];exact aFP _ _ p (by lia)
 |_,_,_,_,A,.tup p r,.int j t',hu=>by simp only[v5];exact aFQ _ _ p (by lia)
 |_,_,_,_,A,.tup (a:=a) (ds:=ds) p r,.tup (a:=a') (ds:=bf) p' r',hu=>by
  by_cases e:a=a'
  ·subst e;have:=HV.inj (.tup p r) (.tup p' r');rw[this,Y7];exact aDO _
  ·simp only[v5];rw[E9]at hu;exact aEQ e (kF (by simpa using p) (by simpa using p') r.length r'.length (by lia) (II r r' (by rw[u7];lia))).1
theorem II:∀{vs us:List Value} {ds es:List D} {A:Around},HVs s.heap vs ds->HVs s.heap us es->A.in1.units+G0 ds<cLine->mK A s vs us ds es
 |_,_,_,_,A,.nil,_,_=>λj u w h1 h2=>by simp at h1
 |_,_,_,_,A,.cons r t,.nil,_=>λj u w h1 h2=>by simp at h2
 |_,_,_,_,A,.cons (d:=d) (ds:=ds) r t,.cons (d:=d') (ds:=bf) r' t',hu=>λj u w h1 h2=>by
  rw[G0]at hu;match j,h1,h2 with
  |0,h1,h2=>simp only[aCU,aGj]at h1 h2;subst h1 h2;exact DK r r' (by lia)
  |j+1,h1,h2=>simp only[aCV]at h1 h2;exact II t t' (by lia) j u w h1 h2
end
mutual
theorem iK:∀{d e:D},pQ d=true->pQ e=true->v5 d e=true->d=e
 |.int i,.int j,_,_,h=>by simp[v5]at h;rw[h]
 |.tup xs,.tup ys,h1,h2,h=>by rw[pQ]at h1 h2;rw[v5]at h;rw[vM h1 h2 h]
 |.int _,.tup _,_,_,h=>by simp[v5]at h
 |.tup _,.int _,_,_,h=>by simp[v5]at h
 |.non,_,h,_,_=>by simp[pQ]at h
 |.bl _,_,h,_,_=>by simp[pQ]at h
 |.str _,_,h,_,_=>by simp[pQ]at h
 |.lst _,_,h,_,_=>by simp[pQ]at h
 |_,.non,_,h,_=>by simp[pQ]at h
 |_,.bl _,_,h,_=>by simp[pQ]at h
 |_,.str _,_,h,_=>by simp[pQ]at h
 |_,.lst _,_,h,_=>by simp[pQ]at h
theorem vM:∀{d e:List D},fV d=true->fV e=true->V9 d e=true->d=e
 |[],[],_,_,_=>rfl
 |[],_::_,_,_,h=>by simp[V9]at h
 |_::_,[],_,_,h=>by simp[V9]at h
 |x::xs,y::ys,h1,h2,h=>by rw[fV,aAM]at h1 h2;rw[V9,aAM]at h;rw[iK h1.1 h2.1 h.1,vM h1.2 h2.2 h.2]
end
mutual
theorem HV.ok:∀{v:Value} {d:D},HV h v d->pQ d=true
 |_,_,.int i t=>rfl
 |_,_,.tup p r=>by rw[pQ];exact HVs.ok r
theorem HVs.ok:∀{v:List Value} {d:List D},HVs h v d->fV d=true
 |_,_,.nil=>rfl
 |_,_,.cons r t=>by rw[fV,HV.ok r,HVs.ok t];rfl
end
mutual
theorem iQ:∀{v:Value} {d:D} (k:Nat),HV h v d->E9 d<k->∀(M:Model) (A:Around) (E:C5) (s:Shared) (Q:vO),s.heap=h->Q true s->wpAny M A (eqIsQuiet k v) Q E s
 |_,_,k,.int i t,_=>λM A E s Q hs q=>by unfold eqIsQuiet;exact aAb q
 |_,_,k,.tup (a:=a) (items:=items) (ds:=ds) p r,hk=>λM A E s Q hs q=>by
  subst hs;obtain⟨o,ho,hc,n,hd⟩:=p;have hT:s.TypeIs (.ref a) "tuple":=⟨o,ho,hc⟩;match k,hk with
  |k+1,hk=>
   rw[E9]at hk;unfold eqIsQuiet;refine aAa (aBq hT PySem.F.slot_tuple_eq.lookup ?_);show wpAny _ _ (isInstance (.ref a) (.type "tuple")>>=_) _ _ s;refine aAa (aDE hT isSubtype_tuple_tuple ?_);simp only[aCW,aAt,if_false];refine aAa (aBF ho hd ?_);refine aAa ?_;show wpAny _ _ (forIn items _ _) _ _ s;rw[<-aCk];refine aCl _ (λrest r s'=>r.1=none/\s'=s/\∃bf,HVs s.heap rest bf/\G0 bf<k) _ ?_ ?_ _ _ ⟨rfl,rfl,ds,r,by lia⟩
   ·rintro v rest r s' ⟨hr,rfl,bf,hv,zo⟩;cases hv with
    |@cons _ d _ qe hv ht=>rw[G0]at zo;refine aAa (iQ k hv (by lia) M A E s' _ rfl ?_);simp only[aCW,aAt,if_false];exact aAb ⟨rfl,rfl,qe,ht,by lia⟩
   ·rintro⟨r1,r2⟩ s' ⟨hr,rfl,_⟩;simp only at hr;subst hr;exact aAb q
end
mutual
theorem fM:∀{v:Value} {d:D} (k:Nat),HV h v d->E9 d<k->∀(M:Model) (A:Around) (E:C5) (s:Shared) (Q:vO),s.heap=h->Q false s->wpAny M A (ofAClassStatement k v) Q E s
 |_,_,k,.int i t,_=>λM A E s Q hs q=>by unfold ofAClassStatement;exact aAb q
 |_,_,k,.tup (a:=a) (items:=items) (ds:=ds) p r,hk=>λM A E s Q hs q=>by
  subst hs;obtain⟨o,ho,hc,n,hd⟩:=p;have hT:s.TypeIs (.ref a) "tuple":=⟨o,ho,hc⟩;match k,hk with
  |k+1,hk=>
   rw[E9]at hk;unfold ofAClassStatement;refine aAa (aDI hT ?_);dsimp only;rw[if_pos (by decide)];refine aAa (aAb ?_);simp only[aCW,aAt,if_false];refine aAa (aBF ho hd ?_);dsimp only;refine aAa ?_;show wpAny _ _ (forIn items _ _) _ _ s;rw[<-aCk];refine aCl _ (λrest r s'=>r.1=none/\s'=s/\∃bf,HVs s.heap rest bf/\G0 bf<k) _ ?_ ?_ _ _ ⟨rfl,rfl,ds,r,by lia⟩
   ·rintro v rest r s' ⟨hr,rfl,bf,hv,zo⟩;cases hv with
    |@cons _ d _ qe hv ht=>rw[G0]at zo;refine aAa (fM k hv (by lia) M A E s' _ rfl ?_);simp only[aAt,if_false];exact aAb ⟨rfl,rfl,qe,ht,by lia⟩
   ·rintro⟨r1,r2⟩ s' ⟨hr,rfl,_⟩;simp only at hr;subst hr;exact aAb q
end
mutual
theorem nC:∀{v:Value} {d:D} (k:Nat),HV h v d->E9 d<k->∀(M:Model) (A:Around) (E:C5) (s:Shared) (Q:vO),s.heap=h->Q true s->wpAny M A (hashByValue k v) Q E s
 |_,_,k,.int i t,_=>λM A E s Q hs q=>by unfold hashByValue;exact aAb q
 |_,_,k,.tup (a:=a) (items:=items) (ds:=ds) p r,hk=>λM A E s Q hs q=>by
  subst hs;obtain⟨o,ho,hc,n,hd⟩:=p;have hT:s.TypeIs (.ref a) "tuple":=⟨o,ho,hc⟩;match k,hk with
  |k+1,hk=>
   rw[E9]at hk;unfold hashByValue;refine aAa (aBq hT PySem.F.slot_tuple_hash.lookup ?_);dsimp only;refine aAa (aBF ho hd ?_);refine aAa ?_;show wpAny _ _ (forIn items _ _) _ _ s;rw[<-aCk];refine aCl _ (λrest r s'=>r.1=none/\s'=s/\∃bf,HVs s.heap rest bf/\G0 bf<k) _ ?_ ?_ _ _ ⟨rfl,rfl,ds,r,by lia⟩
   ·rintro v rest r s' ⟨hr,rfl,bf,hv,zo⟩;cases hv with
    |@cons _ d _ qe hv ht=>rw[G0]at zo;refine aAa (nC k hv (by lia) M A E s' _ rfl ?_);simp only[aCW,aAt,if_false];exact aAb ⟨rfl,rfl,qe,ht,by lia⟩
   ·rintro⟨r1,r2⟩ s' ⟨hr,rfl,_⟩;simp only at hr;subst hr;exact aAb q
end
def iU {α:Type}{M:Model}{A:Around}{E:C5}{s:Shared}{Q:α->Shared->Prop}{c:Prop}[Decidable c]{a b:Sem α}(h1:c->wpAny M A a Q E s)(h2:¬c->wpAny M A b Q E s):wpAny M A (if c then a else b) Q E s:=by
 by_cases h:c
 ·rw[if_pos h];exact h1 h
 ·rw[if_neg h];exact h2 h
def VC {M:Model}{A:Around}{E:C5}{s:Shared}{Q:vO}{x:Value}{d:D}(hx:HV s.heap x d)(hd:E9 d<8)(ys:List Value)(hy:∀y∈ys,∃e,HV s.heap y e/\E9 e<8)(q:Q false s):wpAny M A (searchCouldBeSeen x ys) Q E s:=by
 unfold searchCouldBeSeen;refine aAa ?_;refine aCl _ (λrest r s'=>r.1=none/\s'=s/\∀y∈rest,y∈ys) _ ?_ ?_ _ _ ⟨rfl,rfl,λy h=>h⟩
 ·rintro y rest r s' ⟨hr,rfl,hm⟩;obtain⟨e,he,hde⟩:=hy y (hm y (by simp));dsimp only;refine iU (λ_=>?_) (λ_=>?_)
  ·exact aAb ⟨rfl,rfl,λz hz=>hm z (aAe _ hz)⟩
  ·refine aAa (iQ 8 hx hd M A E s' _ rfl ?_);simp only[aCW,aAt,if_false];refine aAa (iQ 8 he hde M A E s' _ rfl ?_);simp only[aCW,aAt,if_false];refine aAa (fM 8 hx hd M A E s' _ rfl ?_);simp only[aAt,if_false];refine aAa (fM 8 he hde M A E s' _ rfl ?_);simp only[aAt,if_false];exact aAb ⟨rfl,rfl,λz hz=>hm z (aAe _ hz)⟩
 ·rintro⟨r1,r2⟩ s' ⟨hr,rfl,_⟩;simp only at hr;subst hr;exact aAb q
end
end DL
namespace DL
open PySem PySem.Spec L2
open PyProof.Rows hiding St
variable [Tabs]
def EV (h:Heap)(e:Int×Value)(d:D):Prop:=HV h e.2 d/\e.1=n8 d
theorem D3 {α β:Type}{F:α->β->Prop}:∀{l:List α} {m:List β} {i:Nat} {a:α},Paired F l m->l[i]?=some a->∃b,m[i]?=some b/\F a b
 |_,_,_,_,.nil,h=>by simp at h
 |_,_,0,_,.cons r _,h=>by simp at h;subst h;exact⟨_,rfl,r⟩
 |_,_,i+1,a,.cons _ t,h=>by obtain⟨b,h1,h2⟩:=D3 (i:=i) t (by simpa using h);exact⟨b,by simpa using h1,h2⟩
theorem cS {α β:Type}{F:α->β->Prop}:∀{l:List α} {m:List β} {i:Nat} {b:β},Paired F l m->m[i]?=some b->∃a,l[i]?=some a/\F a b
 |_,_,_,_,.nil,h=>by simp at h
 |_,_,0,_,.cons r _,h=>by simp at h;subst h;exact⟨_,rfl,r⟩
 |_,_,i+1,a,.cons _ t,h=>by obtain⟨b,h1,h2⟩:=cS (i:=i) t (by simpa using h);exact⟨b,by simpa using h1,h2⟩
theorem fN {α β:Type}{F:α->β->Prop}:∀{l:List α} {m:List β},Paired F l m->l.length=m.length
 |_,_,.nil=>rfl
 |_,_,.cons _ t=>by simp[fN t]
section
variable{es:Array (Int×Value)}
def iB (K:ST.SOk t es.toList):t.fits es.size=true:=by
 have h1:=K.len;have h2:=K.room;have h3:=K.tab.nod;unfold aGf SetTable.fill;rw[h3];simp at h1⊢
 lia
theorem lG (ho:s.heap.get? S=some o)(hd:o.data=.set es ep t)(K:ST.SOk t es.toList)(hodd:t.mask%2=1)(P:Paired (EV s.heap) es.toList ds)(hx:HV s.heap (.ref x) (.tup xs))(hdx:E9 (.tup xs)<8)(xa:∀e∈ds,E9 e<8)(hT:∀e∈ds,∃ys,e=.tup ys)
  (hu:A.units+16<cLine) (hf:ST.T7 t (n8 (.tup xs)) n0) {Q:SetFound->Shared->Prop} (q1:D.tup xs∈ds->Q (.there none) s) (q2:D.tup xs∉ds->Q (.free (ST.n4 t.mask (n8 (.tup xs)) n0).j false) s):
  ∀(fuel n:Nat) (qf:Option SetTable.Probe),qf.getD (t.probeStart (n8 (.tup xs)))=ST.n4 t.mask (n8 (.tup xs)) n->n<=n0->n0-n<fuel->
   (∀m<n,∀(i:Nat),t.place[i]?=some (ST.n4 t.mask (n8 (.tup xs)) m).j->ds[i]?≠some (.tup xs))->wpAny (model prog w) A (setSearchFrom S (.ref x) (n8 (.tup xs)) true fuel qf) Q E s
 |0,n,qf,_,_,h,_=>by lia
 |fuel+1,n,qf,ja,hn,hfu,hno=>by
  unfold setSearchFrom;refine aAa (aBY ho hd (iB K) ?_);dsimp only;refine iU (λz=>?_) (λ_=>?_)
  ·unfold SetTable.gaveWay at z;simp at z;lia
  rw[ja];obtain⟨n',a1,a2,a3,a4⟩:=ST.IT K.tab (λi=>(es[i]?.map (·.1)).getD 0) (n8<|.tup xs) hf n hn;generalize hg:t.probe _ (n8<|.tup xs) (ST.n4 t.mask (n8<|.tup xs) n)=pm;rcases a4 with⟨en,e⟩|⟨ai,i,hi,hh,e⟩
  ·have ep:pm=_:=hg.symm.trans e;rw[ep];dsimp only;refine aAb (q2 λhm=>?_);obtain⟨i,hi⟩:=aDn.mp hm;obtain⟨⟨hv,v⟩,he,h1,h2⟩:=cS P hi;obtain⟨j,hj,ou⟩:=ST.RJ K.len he;dsimp only at h2;have hr:=K.reach _ ou;dsimp only at hr;rw[h2]at hr;obtain⟨m,hm,em⟩:=ST.Reach.before hf (by rw[<-aAA]at hj;exact aAv hj) hr;by_cases z:m<n
   ·exact hno m z i (by rw[em];exact hj) hi
   ·obtain⟨i',eh,ae⟩:=a3 m (by lia) (by lia);have:i'=i:=by have q1:=ST.J7 K.tab eh;have q2:=ST.J7 K.tab hj;rw[em]at q1;rw[q1]at q2;injection q2
    subst this;refine ae ?_;show(es[i']?.map (·.1)).getD 0=_;rw[<-aAA,he];exact h2
  ·have ep:pm=_:=hg.symm.trans e;rw[ep];dsimp only;have hidx:i<es.size:=by
    have:=(aBX.mp hi).1;have h1:=K.len;simp at h1
    lia
   have hes:es[i]?=some es[i]:=aAH hidx;obtain⟨di,hdi,hv,hhash⟩:=D3 P (show es.toList[i]?=some es[i]by rw[aAA];exact hes);obtain⟨ys,rfl⟩:=hT di (aAv hdi);have go:wpAny (model prog w) A (do
     let some (_,y):=es[i]?|unsupported "internal:set-entry"
     let equal<-holding [y] (eqBool y<|.ref x)
     let(es',_,t')<-setState S
     if true&&equal then return .there none
     let some same:=t'.sameMemory t.moves t.mask|unsupported "set.changed-during-lookup:is-the-new-block-at-the-old-address"
     let UD<-match(if same then t'.slot (ST.n4 t.mask (n8<|.tup xs) n').j else .empty)with
      |.live i'=>match es'[i']? with
       |some (_,y')=>do pure (if<-isSame y' y then some i' else none)
       |none=>pure none
      |_=>pure none
     match UD with
     |none=>rule "set.search.anew";setSearchFrom S (.ref x) (n8<|.tup xs) true fuel none
     |some i'=>if equal then return .there (some i')else setSearchFrom S (.ref x) (n8<|.tup xs) true fuel (some<|ST.n4 t.mask (n8<|.tup xs)<|n'+1)) Q E s:=by
    rw[hes];generalize he:es[i]=en at*
    obtain⟨hn,y⟩:=en;dsimp only at hv hhash⊢;refine aAa (aAN (DK hv hx (by have:=xa _ (aAv hdi);lia) prog w E _ ?_));refine aAa (aBY ho hd (iB K) ?_);dsimp only;cases hq:v5 (.tup ys) (.tup xs)with
    |true=>rw[if_pos (show(true&&true)=true from rfl)];have:D.tup ys=.tup xs:=iK hv.ok hx.ok hq;rw[this]at hdi;exact aAb (q1<|aAv hdi)
    |false=>
     rw[if_neg (by simp)];have hsm:t.sameMemory t.moves t.mask=some true:=by unfold SetTable.sameMemory;rw[if_pos (by simp)]
     rw[hsm];dsimp only;rw[if_pos rfl,ST.J7 K.tab hi];dsimp only;rw[hes];dsimp only;cases hv with
     |tup p r=>
      refine aAa (wpAny_isSame_ref_self ?_);refine aAa (aAb ?_);rw[if_pos rfl];dsimp only;rw[if_neg (by simp)];refine lG ho hd K hodd P hx hdx xa hT hu hf q1 q2 fuel (n'+1) _ rfl (by lia) (by lia) λm hm i2 yg hz=>?_;by_cases z:m<n
      ·exact hno m z i2 yg hz
      ·by_cases z2:m=n'
       ·subst z2;have:i2=i:=by have q1:=ST.J7 K.tab yg;have q2:=ST.J7 K.tab hi;rw[q1]at q2;injection q2
        subst this;rw[hdi]at hz;have:D.tup ys=.tup xs:=aAj hz;rw[this,Y7]at hq;cases hq
       ·obtain⟨i',eh,ae⟩:=a3 m (by lia) (by lia);have:i'=i2:=by have q1:=ST.J7 K.tab eh;have q2:=ST.J7 K.tab yg;rw[q1]at q2;injection q2
        subst this;obtain⟨⟨h0,v0⟩,he0,hv0,hh0⟩:=cS P hz;refine ae ?_;show(es[i']?.map (·.1)).getD 0=_;rw[<-aAA,he0];exact hh0
   refine iU (λ_=>?_) (λ_=>go);refine aAa (VC hx hdx _ (λy hy=>?_) ?_)
   ·obtain⟨e',qd,rfl⟩:=aAo.mp hy;rw[Array.toList_filter]at qd;have hm:=(aDh.mp qd).1;obtain⟨k,hk⟩:=aDn.mp hm;obtain⟨dk,hdk,hvk,_⟩:=D3 P hk;exact⟨dk,hvk,xa _ (aAv hdk)⟩
   ·rw[if_neg (by simp)];exact go
def tJ (m n:Nat):Prop:=(m=7/\n<=4)\/(m=31/\n<=18)\/(m=127/\n<=76)
def tJ.odd (h:tJ m n):m%2=1:=by rcases h with⟨rfl,_⟩|⟨rfl,_⟩|⟨rfl,_⟩<;>rfl
def Keeps (h0 h:Heap):Prop:=∀b o,h0.get? b=some o->h.get? b=some o
structure SetAt (L:Bool)(h0 h:Heap)(S:Addr)(ds:List D):Prop where
 ex:∃(o:Obj) (es:Array (Int×Value)) (ep:Nat) (t:SetTable),h.get? S=some o/\o.cls=.type "set"/\o.dict=none/\o.slots=#[]/\o.data=.set es ep t/\ST.SOk t es.toList/\tJ t.mask es.size/\Paired (EV h0) es.toList ds/\t.led=L/\t.plain=true
 nd:ds.Nodup
def cC {α β:Type}{F:α->β->Prop}:∀{l l':List α} {m:List β},l'.Perm l->Paired F l m->∃m',m'.Perm m/\Paired F l' m':=λ{l l' m} p=>by
 induction p generalizing m with
 |nil=>intro h;exact⟨m,.refl _,h⟩
 |cons x _ ih=>
  intro h;cases h with
  |cons r t=>obtain⟨m',p',q'⟩:=ih t;exact⟨_::m',p'.cons _,.cons r q'⟩
 |swap x y l=>
  intro h;cases h with
  |cons r t=>
   cases t with
   |cons r' t'=>exact⟨_,.swap _ _ _,.cons r' (.cons r t')⟩
 |trans _ _ ih1 ih2=>intro h;obtain⟨m1,p1,q1⟩:=ih2 h;obtain⟨m2,p2,q2⟩:=ih1 q1;exact⟨m2,p2.trans p1,q2⟩
theorem cB {α β:Type}{F G:α->β->Prop}(i:∀a b,F a b->G a b):∀{l:List α} {m:List β},Paired F l m->Paired G l m
 |_,_,.nil=>.nil
 |_,_,.cons r t=>.cons (i _ _ r) (cB i t)
theorem oF {α β:Type}{F:α->β->Prop}{a:α}{b:β}(r:F a b):∀{l:List α} {m:List β} (p:Nat),Paired F l m->Paired F (l.take p++a::l.drop p) (m.take p++b::m.drop p)
 |_,_,0,h=>.cons r h
 |_,_,p+1,.nil=>.cons r .nil
 |_,_,p+1,.cons r' t=>.cons r' (oF r p t)
def JT {α:Type}(a:α)(l:List α)(p:Nat):(l.take p++a::l.drop p).Perm (a::l):=by have h:=List.perm_middle (a:=a) (l₁:=l.take p) (l₂:=l.drop p);rw[aFI]at h;exact h
def xK {α β:Type}{M:Model}{Q:α->Shared->Prop}{c:Prop}[Decidable c]{a:Sem β}{k:β->Sem α}(b:β)(h1:∀Q':β->Shared->Prop,Q' b s->wpAny M A a Q' E s)(h:wpAny M A (k b) Q E s):wpAny M A (if c then a>>=k else pure b>>=k) Q E s:=
 iU (λ_=>aAa (h1 _ h)) (λ_=>aAa (aAb h))
def lH (h:Heap)(S:Addr)(f:Obj->Obj):Heap.SameBut S h (h.update S f):=⟨by simp[Heap.size_update],λb hb=>aAB _ _ (aBV hb)⟩
def rS {h:Heap}{S:Addr}{o:Obj}{es es':Array (Int×Value)}{ep:Nat}{t t':SetTable}(ho:h.get? S=some o)(hd:o.data=.set es ep t):(h.update S (aEv es' t')).get? S=some {o with data:=.set es' (ep+1) t'}:=by
 have e:aEv es' t' o={o with data:=.set es' (ep+1) t'}:=by obtain⟨c,d,dt,sl⟩:=o;cases dt<;>simp at hd;obtain⟨rfl,rfl,rfl⟩:=hd;rfl
 rw[aBe _ ho (by rw[e];rfl),e]
def WG {L:Bool}{h0:Heap}{Q:vO}(hS:SetAt L h0 s.heap S ds)(kp:Keeps h0 s.heap)(hx0:HV h0 (.ref x) (.tup xs))(hdx:E9 (.tup xs)<8)(xa:∀e∈ds,E9 e<8)(hT:∀e∈ds,∃ys,e=.tup ys)(hu:A.units+128<cLine)(hn:ds.length<76)
  (q1:D.tup xs∈ds->∀tk,s.toks<=tk->Q false {s with toks:=tk})
  (q2:D.tup xs∉ds->∀h' tk bf,s.toks<=tk->Heap.SameBut S s.heap h'->SetAt L h0 h' S bf->bf.Perm (.tup xs::ds)->Q true {s with heap:=h',toks:=tk}):wpAny (model prog w) A (setAdd S (.ref x)) Q E s:=by
 obtain⟨⟨o,es,ep,t,ho,hc,yh,hsl,hd,K,mk,P0,lp0⟩,nd⟩:=hS;have hx:HV s.heap (.ref x) (.tup xs):=hx0.keeps λb o e _=>kp b o e;have P:Paired (EV s.heap) es.toList ds:=cB (λe d r=>⟨r.1.keeps λb o e _=>kp b o e,r.2⟩) P0;have hsz:es.size=ds.length:=by have:=fN P;simpa using this
 unfold setAdd;refine aAN (aAa (TX hx A E s _ rfl (by lia) λtk vc=>?_));unfold setAddHashed setAddHashedIn;refine aAN (aAa<|aBY (s:={s with toks:=tk}) ho hd (iB K) ?_);dsimp only;rw[show byScan (.ref x) es=false from rfl];simp only[aAt,if_false];obtain⟨n0,hf⟩:=ST.AC K.full K.room (n8<|.tup xs);refine aAa (lG (s:={s with toks:=tk}) (n0:=n0) ho hd K mk.odd P hx hdx xa hT (by lia) hf (λhm=>?_) (λhm=>?_) 100000 0 none rfl (aAY _) ?_ (λm hm=>by lia))
 ·dsimp only;exact aAb (q1 hm tk vc)
 ·dsimp only;refine aAa (aBY (s:={s with toks:=tk}) ho hd (iB K) ?_);dsimp only;refine xK true (λQ' q=>nC 8 hx hdx _ _ _ _ _ rfl q) ?_;rw[if_pos rfl];have ml:t.place.size+1<=t.mask:=by have:=K.len;simp at this;rcases mk with⟨m1,m2⟩|⟨m1,m2⟩|⟨m1,m2⟩<;>lia
  have K2:=ST.VF K (x:=.ref x) hf ml;have el:=ST.eJ es (t.put (ST.n4 t.mask (n8<|.tup xs) n0).j).2 (n8 (.tup xs),aDx x);have lp:(t.put (ST.n4 t.mask (n8<|.tup xs) n0).j).1.led=L/\(t.put (ST.n4 t.mask (n8<|.tup xs) n0).j).1.plain=true:=lp0;have em:(t.put (ST.n4 t.mask (n8<|.tup xs) n0).j).1.mask=t.mask:=rfl;rw[<-el]at K2;have P2:Paired (EV h0) (aGm es (t.put (ST.n4 t.mask (n8<|.tup xs) n0).j).2 (n8 (.tup xs),aDx x)).toList (ds.take (t.put (ST.n4 t.mask (n8<|.tup xs) n0).j).2++.tup xs::ds.drop (t.put (ST.n4 t.mask (n8<|.tup xs) n0).j).2):=by rw[el];exact oF ⟨hx0,rfl⟩ _ P0
  have pm:=JT (D.tup xs) ds (t.put (ST.n4 t.mask (n8<|.tup xs) n0).j).2;generalize hds2:ds.take (t.put (ST.n4 t.mask (n8<|.tup xs) n0).j).2++.tup xs::ds.drop (t.put (ST.n4 t.mask (n8<|.tup xs) n0).j).2=qe at P2 pm;generalize hes2:aGm es (t.put (ST.n4 t.mask (n8<|.tup xs) n0).j).2 (n8 (.tup xs),aDx x)=nv at K2 P2⊢;generalize ht2:(t.put (ST.n4 t.mask (n8<|.tup xs) n0).j).1=t2 at K2 em lp⊢;have qr:qe.Nodup:=pm.nodup_iff.mpr (aAJ.mpr ⟨hm,nd⟩);have sz2:nv.size=es.size+1:=by
   have h1:=fN P2;have h2:=pm.length_eq;simp at h1 h2
   lia
  have cb:nv.size<=sizeLine:=by rw[sz2,aFp];lia
  refine aAa (wpAny_storeSet_of (s:={s with toks:=tk}) ho hd ?_ cb);have jt:=rS (es':=nv) (t':=t2) ho hd;have sb2:=lH s.heap S (aEv nv t2);have zr:t2.fill=nv.size:=by have h1:=K2.len;have h2:=K2.tab.nod;unfold SetTable.fill;rw[h2];simp at h1⊢;lia
  refine iU (λve=>?_) (λve=>?_)
  ·
   have pf:t2.fill*5>=t2.mask*3:=by
    have:t2.tooFull=true:=by simpa using ve
    simpa[aGs]using this
   rw[zr,em,sz2]at pf;obtain⟨M,hM,hM1,hM2⟩:∃M,SetTable.sizeAbove (SetTable.grown<|es.size+1)=M+1/\ST.lU (M+1)/\tJ M (es.size+1):=by
    rcases mk with⟨m1,m2⟩|⟨m1,m2⟩|⟨m1,m2⟩
    ·have:es.size=4:=by lia
     rw[this];exact⟨31,by decide,ST.VN,.inr (.inl ⟨rfl,by lia⟩)⟩
    ·have:es.size=18:=by lia
     rw[this];exact⟨127,by decide,ST.QR,.inr (.inr ⟨rfl,by lia⟩)⟩
    ·lia
   unfold setRelay;refine aAa (aAa<|aBY (s:={s with heap:=s.heap.update S (aEv nv t2),toks:=tk}) jt rfl (iB K2) ?_);dsimp only;rw[hM];refine iU (λz=>?_) (λ_=>?_)
   ·exfalso;rcases hM2 with⟨m1,_⟩|⟨m1,_⟩|⟨m1,_⟩<;>(subst m1;exact absurd z (by rw[aFp];decide))
   obtain⟨t3,order,r1,r2,r3,r4,r5,r6,r7,r8,r9⟩:=ST.IF (finger:=t2.finger) (moves:=t2.movedTo M) (led:=t2.led) (plain:=t2.plain) hM1 nv (by rw[sz2];rcases hM2 with⟨m1,m2⟩|⟨m1,m2⟩|⟨m1,m2⟩<;>lia);have er:t2.relaid (nv.map (·.1)) (SetTable.grown<|es.size+1)=some (t3,order):=by unfold SetTable.relaid;rw[hM];exact r1
   rw[er];have hre:∀{Q':Array (Int×Value)×SetTable->Shared->Prop} {s':Shared},Q' (order.filterMap (nv[·]?),t3) s'->wpAny (model prog w) A (do
     let es':=order.filterMap (nv[·]?)
     if es'.size !=nv.size then unsupported "internal:set-table-lost-an-element"
     pure (es',t3)) Q' E s':=λ{Q' s'} qq=>by
    dsimp only;rw[if_neg (by simp[r2])];exact aAb qq
   refine aAa (hre ?_);dsimp only;generalize hes3:order.filterMap (nv[·]?)=es3 at r2 r3 r4⊢;refine wpAny_storeSet_of (s:={s with heap:=s.heap.update S (aEv nv t2),toks:=tk}) jt rfl ?_ (by rw[r2];exact cb);refine aAb ?_;have ho3:=rS (es':=es3) (t':=t3) jt rfl;have sb3:=lH (s.heap.update S<|aEv nv t2) S (aEv es3 t3);obtain⟨ds3,p3,P5⟩:=cC r3 P2;exact q2 hm _ tk ds3 vc (sb2.trans sb3) ⟨⟨_,es3,_,t3,ho3,hc,yh,hsl,rfl,r4,by rw[r5,r2,sz2];exact hM2,P5,by rw[r7];exact lp.1,by rw[r8];exact lp.2⟩,p3.nodup_iff.mpr qr⟩ (p3.trans pm)
  ·refine aAb ?_;refine q2 hm _ tk qe vc sb2 ⟨⟨_,nv,_,t2,jt,hc,yh,hsl,rfl,K2,?_,P2,lp⟩,qr⟩ pm;have pf:¬t2.fill*5>=t2.mask*3:=λz=>ve (by simp[aGs,z]);rw[zr,em,sz2]at pf;rw[em,sz2];rcases mk with⟨m1,m2⟩|⟨m1,m2⟩|⟨m1,m2⟩
   ·exact .inl ⟨m1,by lia⟩
   ·exact .inr (.inl ⟨m1,by lia⟩)
   ·exact .inr (.inr ⟨m1,by lia⟩)
 ·have:=hf.1;have hm:t.mask<=127:=by rcases mk with⟨m1,_⟩|⟨m1,_⟩|⟨m1,_⟩<;>lia
  lia
end
section
variable{prog:Program} {w:World} {A:Around} {R:Result->Shared->Prop} {I:Addr} {fp wr:List Addr} {G:Array GenState->Array GenState->Prop} {n:Nat} {P:Nat->Value->Prop} {St:Nat->Shared->Prop} {h0:Heap}
def UR (h0:Heap)(v:Value)(d:D):Prop:=∃a xs,v=.ref a/\d=.tup xs/\E9 d<8/\HV h0 v d
def NC {L:Bool}(W:WalksS prog w A.in1 I fp wr G n P St)(S:Addr)(oa:S∉fp)(hS0:h0.get? S=none)(hw0:∀b∈wr,h0.get? b=none)
  (val:Nat->D) (hval:∀i v,P i v->UR h0 v (val i)) (zu:∀i<n,E9 (val i)<8/\∃ys,val i=.tup ys) {U:List D} (hU:∀i<n,val i∈U) (hb:U.length<=75) (hu:A.units+200<cLine):
  ∀(k i:Nat) (s:Shared),n-i=k->i<=n->St i s->Keeps h0 s.heap->(∃ds,SetAt L h0 s.heap S ds/\∀d,d∈ds↔∃j<i,val j=d)->
   (∀s',Moved (S::wr) G s s'->(∃ds,SetAt L h0 s'.heap S ds/\∀d,d∈ds↔∃j<n,val j=d)->R (.ok (.ret .none)) s')->
   codeAny (model prog w) A (.builtin "set.update.loop" ⟨[.ref S,.ref I],[]⟩) R s:=by
 have hSw:S∉wr:=λh=>oa (W.sub _ h);have jh:∀b∈wr,b∈S::wr:=λb hb=>aAe _ hb;intro k;induction k with
 |zero=>
  intro i s hk hi ja hkp hS hR;have lh:i=n:=by omega
  subst lh;refine aBG F.entry_set_update_loop ?_;rw[aBk F.plain_set_update_loop _];show wpAny _ A.in1 (pyNext (.ref I)>>=_) _ _ s;refine aAa (W.done s _ _ ja λs' hm=>?_);show wpAny _ A.in1 (ret Value.none) _ _ s';refine aAb (hR s' (hm.mono jh) ?_);obtain⟨ds,⟨⟨o,es,ep,t,ho,r⟩,nd⟩,jv⟩:=hS;exact⟨ds,⟨⟨o,es,ep,t,hm.heap S _ hSw ho,r⟩,nd⟩,jv⟩
 |succ k ih=>
  intro i s hk hi ja hkp hS hR;have ai:i<n:=by omega
  refine aBG F.entry_set_update_loop ?_;rw[aBk F.plain_set_update_loop _];show wpAny _ A.in1 (pyNext (.ref I)>>=_) _ _ s;refine aAa (W.item i s _ _ ai ja λv s' hP kg hm=>?_);obtain⟨ds,⟨⟨o,es,ep,t,ho,r⟩,nd⟩,jv⟩:=hS;have ig:SetAt L h0 s'.heap S ds:=⟨⟨o,es,ep,t,hm.heap S _ hSw ho,r⟩,nd⟩;have kp':Keeps h0 s'.heap:=λb ob e=>hm.heap b ob (λz=>by rw[hw0 b z]at e;cases e) (hkp b ob e);obtain⟨a,xs,rfl,tf,zo,hv⟩:=hval i v hP;rw[tf]at zo hv;show wpAny _ A.in1 (holding [aDx a] (setAdd S<|.ref a)>>=_) _ _ s';have tups:∀e∈ds,E9 e<8/\∃ys,e=.tup ys:=λe he=>by obtain⟨j,hj,ej⟩:=(jv e).mp he;rw[<-ej];exact zu j (by omega)
  refine aAa (aAN (WG ig kp' hv zo (λe he=>(tups e he).1) (λe he=>(tups e he).2) (by rw[u7];omega) (by letI:DecidableEq D:=λa b=>aDS _;have:=ST.O8 (m:=U) nd (λd hd=>by obtain⟨j,hj,e⟩:=(jv d).mp hd;rw[<-e];exact hU j (by omega));omega) (λlh tk vc=>?_)<|λhni h' tk bf vc hsb hS2 pm=>?_))
  ·
   refine aAb ⟨aBP F.plain_set_update_loop _,ih (i+1) _ (by omega) ai (W.frame _ s' _ _ kg vc λb hb o e=>e) kp' ⟨ds,ig,λd=>?_⟩ λs'' la vf=>?_⟩
   ·rw[jv];constructor
    ·rintro⟨j,hj,e⟩;exact⟨j,by omega,e⟩
    ·rintro⟨j,hj,e⟩;by_cases z:j=i
     ·subst z;rw[tf]at e;rw[e]at lh;exact(jv d).mp lh
     ·exact⟨j,by omega,e⟩
   ·exact hR s'' (aFr W.gtrans ((hm.mono jh).then_heap vc λb o hb e=>e) la) vf
  ·have hbS:∀b,b≠S->h'.get? b=s'.heap.get? b:=λb hb=>hsb.2 b hb;refine aAb ⟨aBP F.plain_set_update_loop _,ih (i+1) _ (by omega) ai (W.frame _ s' _ _ kg vc λb hb o e=>?_) (λb o e=>?_) ⟨bf,hS2,λd=>?_⟩ λs'' la vf=>?_⟩
   ·rw[hbS b (λz:b=S=>oa (by rw[<-z];exact hb))];exact e
   ·show h'.get? b=some o;rw[hbS b (λz=>by subst z;rw[hS0]at e;cases e)];exact kp' b o e
   ·rw[pm.mem_iff,aAd,jv];constructor
    ·rintro(rfl|⟨j,hj,e⟩)
     ·exact⟨i,by omega,tf⟩
     ·exact⟨j,by omega,e⟩
    ·rintro⟨j,hj,e⟩;by_cases z:j=i
     ·subst z;rw[tf]at e;exact .inl e.symm
     ·exact .inr ⟨j,by omega,e⟩
   ·refine hR s'' (aFr W.gtrans ((hm.mono jh).then_heap vc λb o hb e=>?_) la) vf;rw[hbS b (λz:b=S=>hb (by rw[z];exact aAP))];exact e
end
section
variable{prog:Program} {w:World} {A:Around} {E:C5} {s:Shared}
abbrev lR (led:Bool):Obj:={cls:=.type "set",dict:=none,data:=.set #[] 0 (.fresh 0 0 led)}
def HF (h0 h:Heap)(S:Addr)(led:Bool)(e:h.get? S=some (lR led)):SetAt led h0 h S []:=by
 refine⟨⟨_,#[],0,.fresh 0 0 led,e,rfl,rfl,rfl,rfl,⟨⟨λi k hi=>?_,λj hj=>?_,rfl⟩,ST.ZZ,rfl,?_,λe he=>?_⟩,.inl ⟨rfl,aAY _⟩,.nil,rfl,rfl⟩,aCL⟩
 ·exact absurd hi (by show¬i<0;omega)
 ·exact absurd hj (by show¬j∈[];simp)
 ·show 0<=7;omega
 ·exact absurd he (by show¬e∈[];simp)
def wD (a:Value){Q₁:C5}(h:Q₁ (.ref s.heap.objs.size) {s with heap:=s.heap.push (lR (!w.params.followText "set-order"))}):
  codeAny (model prog w) A (.call (.builtin "set.__new__") ⟨[.type "set",a],[]⟩) (wants Q₁ E) s:=by
 refine codeAny_of_tree ?_;show wpAny _ A.in1 (do checkBuiltinCall "set.__new__" ⟨[.type "set",a],[]⟩;again (.builtin "set.__new__" ⟨[.type "set",a],[]⟩)) _ _ s;refine aAa (wpAny_of_eq (F.newCall_set_1 a)<|aAb ⟨aBP F.plain_set_new _,aBG F.entry_set_new ?_⟩);rw[aBk F.plain_set_new _];unfold Builtin.«set.__new__» Builtin.Frozenset.newClass;have jh:=sub_set_self;obtain⟨hp,g,d,tk,os⟩:=s;dsimp only
 wp_walk
 refine aFx (aAb ?_);dsimp only;simp only[newObj];exact aAa (wpAny_alloc<|aAb<|aAb h)
def xU {h0:Heap}(kp0:Keeps h0 s.heap){l:Addr}{its:Array Value}{val:Nat->D}{Q:C5}(hh:A.handled=none)(hl:s.heap.IsList l its)
  (hval:∀(i:Nat) (v:Value),its[i]?=some v->UR h0 v (val i)) (zu:∀i<its.size,E9 (val i)<8/\∃ys,val i=.tup ys) {U:List D} (hU:∀i<its.size,val i∈U) (hb:U.length<=75) (hu:A.units+300<cLine)
  (h:∀(h':Heap) (tk:Nat) (ds:List D),SetAt (!w.params.followText "set-order") h0 h' s.heap.objs.size ds->(∀d,d∈ds↔∃j<its.size,val j=d)->Keeps s.heap h'->Q (.ref s.heap.objs.size) {s with heap:=h',toks:=tk}):
  wpAny (model prog w) A (call (.type "set") [.ref l]) Q E s:=by
 obtain⟨c,tl,hmro⟩:=PySem.F.called_set.mro;have hmade:=PySem.F.called_set.made;have jh:=PySem.F.called_set.sub;refine wpAny_call (codeAny_of_tree ?_);show wpAny _ _ (callAny (.type "set") _) _ _ _;refine aAb ⟨Code.quiet_builtin _ (by decide+kernel),aBG PySem.F.entry_type_call ?_⟩;rw[Around.under_plain (weight_type_call_type "set" [.ref l] []) rfl];have h1:=PySem.F.called_set.notType;have h2:=PySem.F.called_set.canCreate;have hct:=PySem.F.typeCall_set_1 (.ref l);repeat(any_goals(first|assumption|wp_step))
 refine aDG (wD (.ref l) (E:=E) (Q₁:=λob aa=>∃led:Bool,led=!w.params.followText "set-order"/\ob=.ref s.heap.objs.size/\aa={s with heap:=s.heap.push (lR led)}) ⟨_,rfl,rfl,rfl⟩) λr aa hr=>?_;cases r with
 |error e=>exact hr
 |ok fl=>
  cases fl with
  |next=>exact hr.elim
  |brk=>exact hr.elim
  |cont=>exact hr.elim
  |ret ob=>
   obtain⟨led,eL,rfl,rfl⟩:=hr;have hS:(s.heap.push<|lR led).get? s.heap.objs.size=some (lR led):=aAp _ rfl;have hT:Shared.TypeIs {s with heap:=s.heap.push (lR led)} (.ref s.heap.objs.size) "set":=⟨_,hS,rfl⟩;have hli:=PySem.F.called_set.init.lookup;have hbi:=PySem.F.called_set.init.bind (.ref s.heap.objs.size);repeat(any_goals(first|assumption|wp_step))
   refine aDG (codeAny_call_builtin (R:=wants (λr fg=>r=.none/\∃h' tk ds,fg={s with heap:=h',toks:=tk}/\SetAt (!w.params.followText "set-order") h0 h' s.heap.objs.size ds/\(∀d,d∈ds↔∃j<its.size,val j=d)/\Keeps s.heap h') E) PySem.F.called_set.init.plain PySem.F.entry_set_init<|check_set_init_1 hT ?_) λrf fg hr0=>?_
   ·obtain⟨ol,hol,xi,nl,hdl⟩:=hl;obtain⟨ocls,odict,odata,oslots⟩:=ol;simp only at xi hdl;subst xi;subst hdl;have hol':(s.heap.push<|lR led).get? l=some {cls:=.type "list",dict:=odict,data:=.seq its nl,slots:=oslots}:=aAc _ hol;have hsls:=PySem.F.sub_list_set;have hslf:=PySem.F.sub_list_frozenset;have ae:(aCi "list"==aCi "dict")=false:=by decide
    have pg:(s.heap.push<|lR led).IsList l its:=⟨_,hol',rfl,nl,rfl⟩;unfold Builtin.«set.__init__» noKeywords Builtin.Frozenset.updateFrom;generalize hPI:pyIter=PI
    wp_walk
    subst hPI;refine aDs pg (aAa<|wpAny_runValue ?_);have hlS:l<s.heap.objs.size:=aAf hol;have hh3:A.in1.in1.in1.handled=none:=by simp[hh]
    have hneI:l≠(s.heap.push<|lR led).objs.size:=by rw[aBw];exact aAl (aBx hlS)
    have oa:s.heap.objs.size∉[(s.heap.push<|lR led).objs.size,l]:=by rw[aBw];simp only[aAd,aAz,or_false,not_or];exact⟨aAl (aDD _),aCD hlS⟩
    have mo:∀b,s.heap.objs.size<=b->h0.get? b=none:=λb hb=>by
     cases e:h0.get? b with
     |none=>rfl
     |some o=>have:=kp0 b o e;rw[aEp hb]at this;cases this
    refine NC (h0:=h0) ((Walks.list hh3 _ l hneI its).toS) s.heap.objs.size oa (mo _<|aAh _) (λb hb=>?hw) val hval zu hU hb (by show A.units+1+1+200<cLine;omega) (its.size-0) 0 _ (by omega) (aAY _) ⟨⟨_,aAp _ rfl,rfl,rfl⟩,(pg.push _)⟩ (λb o e=>aAc _ (aAc _<|kp0 b o e)) ⟨[],HF _ _ _ led (aAc _ hS),λd=>?he⟩ ?hR
    case he=>exact⟨λz=>(by cases z),λ⟨j,hj,_⟩=>(by omega)⟩
    case hw=>
     have iu:b=(s.heap.push<|lR led).objs.size:=by simpa using hb
     subst iu;rw[aBw];exact mo _ (Nat.le_succ _)
    case hR=>
     rintro⟨h',g',d',xh,os'⟩ hm ⟨ds,ig,ou⟩;have eg:g'=s.gens:=hm.gens;have ed:d'=s.drawn:=hm.drawn;have eo:os'=s.os:=hm.os;subst eg;subst ed;subst eo;refine aAb ?_;show wpAny _ _ (ret Value.none) _ _ _;refine aAb ⟨rfl,h',xh,ds,rfl,(eL▸ig),ou,λb o e=>?_⟩;have hb:=aAf e;have hb2:b≠(s.heap.push<|lR led).objs.size:=by rw[aBw];exact aAl (aBx hb)
     exact hm.heap b o (by simp only[aAd,aAz,or_false,not_or];exact⟨aAl hb,hb2⟩) (aAc _<|aAc _ e)
   ·cases rf with
    |error e=>exact hr0
    |ok fl0=>
     cases fl0 with
     |next=>exact hr0.elim
     |brk=>exact hr0.elim
     |cont=>exact hr0.elim
     |ret r=>
      obtain⟨rfl,h',tk,ds,rfl,ig,ou,ju⟩:=hr0;repeat(any_goals(first|assumption|wp_step))
      exact h _ _ _ ig ou ju
end
end DL
namespace SI
open PySem
theorem CG {α:Type}(next:Nat->Nat):∀(fuel k:Nat) (left:List α) (out:Array α),left.length=fuel->(aGp next fuel k left out).toList.Perm (out.toList++left)
 |0,k,left,out,h=>by have:left=[]:=aCn h;subst this;simp[aGp]
 |fuel+1,k,left,out,h=>by
  unfold aGp;have hp:0<left.length:=by lia
  have hi:next k%left.length<left.length:=aDY _ hp
  rw[aAg hi];dsimp only;refine(CG next fuel (k+1) _ _ (by rw[List.length_eraseIdx_of_lt hi];lia)).trans ?_;rw[Array.toList_push,aFi];refine List.Perm.append_left _ ?_;have:∀(l:List α) (i:Nat) (h:i<l.length),(l[i]::l.eraseIdx i).Perm l:=by
   intro l;induction l with
   |nil=>intro i h;simp at h
   |cons x l ih=>
    intro i h;cases i with
    |zero=>simp
    |succ i=>
     have h':i<l.length:=by simpa using h
     rw[aFq,List.getElem_cons_succ];exact(List.Perm.swap _ _ _).trans ((ih i h').cons _)
  exact this left _ hi
def qU {α:Type}(next:Nat->Nat)(xs:Array α):(pickOrder next xs).toList.Perm xs.toList:=by unfold pickOrder;simpa using CG next xs.size 0 xs.toList #[] (by simp)
def walkL (w:World)(S:Addr)(es:Array (Int×Value))(ep:Nat):List (Int×Value):=if w.params.followText "set-order"=true then(pickOrder (w.params.setOrder S ep) es).toList else es.toList
def walkL_perm (w:World)(S:Addr)(es:Array (Int×Value))(ep:Nat):(walkL w S es ep).Perm es.toList:=by
 unfold walkL;split
 ·exact qU _ _
 ·exact List.Perm.refl _
def slotAt (w:World)(t:SetTable):Nat->Nat
 |0=>0
 |i+1=>if w.params.followText "set-order"=true then 0 else t.place.getD i 0+1
def N5 (h:Heap)(w:World)(it S:Addr)(t:SetTable)(i n ep:Nat):Prop:=
 h.get? it=some {cls:=.type "set_iterator",dict:=none,data:=.fields #[rawInt (slotAt w t i),rawInt i,.ref S,rawInt n,rawInt ep],slots:=#[]}
def IsSet (h:Heap)(S:Addr)(es:Array (Int×Value))(ep:Nat)(t:SetTable):Prop:=∃o,h.get? S=some o/\o.cls=.type "set"/\o.data=.set es ep t
namespace F
def entry_set_iter:entryFor table "set.__iter__"=some Builtin.«frozenset.__iter__»:=entryFor_alias (id':= "frozenset.__iter__") (by kernel_rfl) rfl (by decide+kernel) (by kernel_rfl)
def slot_seti_next:Slot "set_iterator" "__next__" "set_iterator.__next__":=
 .of (owner:= "set_iterator") (n:= "__next__") (by rw[aDo,aCg];kernel_rfl) (by decide+kernel) (by decide+kernel) (by decide+kernel)
  (by first|exact .inl (by decide+kernel)|exact .inr (by decide+kernel)) (by rw[aEZ];kernel_rfl)
def entry_seti_next:entryFor table "set_iterator.__next__"=some Builtin.«set_iterator.__next__»:=entryFor_of_tree (by kernel_rfl)
def args_seti_next (a:Value):argsOk "set_iterator.__next__" ⟨[a],[]⟩:=by unfold argsOk;kernel_rfl
def slot_seti_iter:Slot "set_iterator" "__iter__" "set_iterator.__iter__":=
 .of (owner:= "set_iterator") (n:= "__iter__") (by rw[aDo,aCg];kernel_rfl) (by decide+kernel) (by decide+kernel) (by decide+kernel)
  (by first|exact .inl (by decide+kernel)|exact .inr (by decide+kernel)) (by rw[aEZ];kernel_rfl)
def entry_seti_iter:entryFor table "set_iterator.__iter__"=some Builtin.«dict_keyiterator.__iter__»:=entryFor_alias (id':= "dict_keyiterator.__iter__") (by kernel_rfl) rfl (by decide+kernel) (by kernel_rfl)
def args_seti_iter (a:Value):argsOk "set_iterator.__iter__" ⟨[a],[]⟩:=by unfold argsOk;kernel_rfl
end F
section
variable{s:Shared} {t:SetTable}
def ET {α:Type}{M:Model}{Q:α->Shared->Prop}{c:Prop}[Decidable c]{a b:Sem α}(h:c)(k:wpAny M A a Q E s):wpAny M A (if c then a else b) Q E s:=by rw[if_pos h];exact k
def vV (es:Array (Int×Value))(hp:t.plain=true):(!t.plain&&decide (es.size>1))=false:=by rw[hp];rfl
def AG {Q:vO}(h:Q (w.params.followText "set-order") s):wpAny (model prog w) A setsByText Q E s:=by unfold setsByText;exact aAa (aFx<|aAb h)
def IQ {Q:C5}(hS:IsSet s.heap S es ep t)(hf:t.fits es.size=true)(hp:t.plain=true)
  (h:Q (.ref s.heap.objs.size) {s with heap:=s.heap.push {cls:=.type "set_iterator",dict:=none,data:=.fields #[rawInt (slotAt w t 0),rawInt (0:Nat),.ref S,rawInt es.size,rawInt ep],slots:=#[]}}):
  wpAny (model prog w) A (pyIter (.ref S)) Q E s:=by
 obtain⟨o,ho,hc,hd⟩:=hS;have hT:s.TypeIs (.ref S) "set":=⟨o,ho,hc⟩;refine aFm hT PySem.F.slot_set_iter (aBp PySem.F.slot_set_iter hT F.entry_set_iter ?_ (PySem.F.args_set_iter_1 _));unfold Builtin.«frozenset.__iter__»;show wpAny _ _ (aFs "__iter__" ⟨[.ref S],[]⟩>>=_) _ _ s;have e0:aFs "__iter__" ⟨[.ref S],[]⟩=pure S:=rfl;rw[e0];refine aAa (aAb ?_);unfold Builtin.Frozenset.sizeOf;refine aAa (aAa<|aEA ho hd hf<|aAb ?_);refine aAa ?_;unfold setDrawn;refine aAa (aBY ho hd hf<|aAa<|AG<|aAb ?_);show wpAny _ _ (if(!w.params.followText "set-order"&&(!t.plain&&decide (es.size>1)))=true then _ else _) _ _ s;rw[vV es hp,aFU];simp only[aAt,if_false];refine aAa (aAb<|aAa<|wpAny_setEpoch_of ho hd hf ?_);refine aAa (aBu<|aAb ⟨_,rfl, "set_iterator",_,⟨_,aAp _ rfl,rfl⟩,F.slot_seti_next.lookup,?_⟩);simpa[slotAt]using h
def yU (ha:ST.FQ xs):aDA xs 0=0:=by
 obtain⟨b1,b2,b3⟩:=ST.aY ha 0;by_cases h:aDA xs 0=0
 ·exact h
 ·exact absurd (b2 0 (by lia) (by lia)) (by lia)
def zF (ha:ST.FQ xs)(hi:i<xs.size):aDA xs (xs.getD i 0+1)=i+1:=by
 have e:xs.getD i 0=xs[i]:=by simp[aFk,hi]
 rw[e];obtain⟨b1,b2,b3⟩:=ST.aY ha (xs[i]+1);rcases Nat.lt_trichotomy (aDA xs<|xs[i]+1) (i+1)with q|q|q
 ·have:=b3 i hi (by lia);lia
 ·exact q
 ·have h1:i+1<xs.size:=by lia
  have:=b2 (i+1) h1 q;have:=ha i (i+1) hi h1 (by lia)
  lia
def BM (t:SetTable)(ha:ST.FQ t.place)(hb:¬w.params.followText "set-order"=true)(hi:i<=t.place.size):aDA t.place (slotAt w t i)=i:=by
 cases i with
 |zero=>exact yU ha
 |succ i=>show aDA t.place (if w.params.followText "set-order"=true then 0 else t.place.getD i 0+1)=i+1;rw[if_neg hb];exact zF ha (by lia)
def xT {Q:Option (Value×Nat)->Shared->Prop}(hS:IsSet s.heap S es ep t)(hf:t.fits es.size=true)(hp:t.plain=true)(hl:¬w.params.followText "set-order"=true->t.led=true)(ha:ST.FQ t.place)(hi:i<=es.size)(h1:∀e,(walkL w S es ep)[i]?=some e->Q (some (e.2,slotAt w t (i+1))) s)(h2:i=es.size->Q none s):wpAny (model prog w) A (setNext S (slotAt w t i) i ep) Q E s:=by
 obtain⟨o,ho,hc,hd⟩:=hS;have hsz:t.place.size=es.size:=by simp only[aGf,aAM,beq_iff_eq,decide_eq_true_eq]at hf;exact hf.1
 unfold setNext;refine aAa (aBY ho hd hf ?_);refine aAa (AG ?_);by_cases hb:w.params.followText "set-order"=true
 ·rw[if_pos hb,if_neg (by simp)];unfold setWalk;refine aAa (aAa<|aBY ho hd hf<|aAa<|AG ?_);rw[if_pos hb];refine aAa (aFx<|aAb ?_);refine aAb ?_;have ew:(walkL w S es ep)=(pickOrder (w.params.setOrder S ep) es).toList:=by unfold walkL;rw[if_pos hb]
  have es0:slotAt w t i=slotAt w t (i+1):=by
   cases i with
   |zero=>show 0=if w.params.followText "set-order"=true then 0 else _;rw[if_pos hb]
   |succ i=>show(if w.params.followText "set-order"=true then 0 else _)=if w.params.followText "set-order"=true then 0 else _;rw[if_pos hb,if_pos hb]
  rw[ew,aAA]at h1;show Q (((pickOrder (w.params.setOrder S ep) es)[i]?).map λe=>(e.2,slotAt w t i)) s;cases e:(pickOrder (w.params.setOrder S ep) es)[i]? with
  |some x=>rw[es0];exact h1 x e
  |none=>
   have hsz2:(pickOrder (w.params.setOrder S ep) es).size=es.size:=by have:=(qU (w.params.setOrder S ep) es).length_eq;simpa using this
   have:=Array.getElem?_eq_none_iff.mp e;exact h2 (by lia)
 ·rw[if_neg hb];have d0:¬(!t.plain&&decide (es.size>1))=true:=by rw[hp];simp
  show wpAny _ _ (if(!t.plain&&decide (es.size>1))=true then _ else _) _ _ s;rw[if_neg d0];show wpAny _ _ ((if(!t.led&&!es.isEmpty)=true then _ else _)>>=_) _ _ s;rw[if_neg (by rw[hl hb];simp)];refine aAa (aAb<|aAb ?_);rw[BM t ha hb (by lia)];have ew:(walkL w S es ep)=es.toList:=by unfold walkL;rw[if_neg hb]
  rw[ew,aAA]at h1;by_cases ai:i<es.size
  ·have e1:es[i]?=some es[i]:=aAH ai;have hlt':i<t.place.size:=by lia
   have e2:t.place[i]?=some t.place[i]:=aAH hlt';have:=h1 _ e1;rw[e1,e2];have e3:slotAt w t (i+1)=t.place[i]+1:=by show(if w.params.followText "set-order"=true then 0 else t.place.getD i 0+1)=_;rw[if_neg hb];simp[aFk,hlt']
   rw[e3]at this;exact this
  ·have e1:es[i]?=none:=aCA (by lia);rw[e1];exact h2 (by lia)
def P6 (h:N5 s.heap w it S t i n ep):s.TypeIs (.ref it) "set_iterator":=⟨_,h,rfl⟩
def JB {Q:Option Value->Shared->Prop}(hit:N5 s.heap w it S t i es.size ep)(hS:IsSet s.heap S es ep t)(hf:t.fits es.size=true)(hp:t.plain=true)(hl:¬w.params.followText "set-order"=true->t.led=true)(ha:ST.FQ t.place)(hi:i<es.size)(h:∀e h',(walkL w S es ep)[i]?=some e->N5 h' w it S t (i+1) es.size ep->Heap.SameBut it s.heap h'->Q (some e.2) {s with heap:=h'}):wpAny (model prog w) A (pyNext (.ref it)) Q E s:=by
 have hT:=P6 hit;obtain⟨o,ho,hc,hd⟩:=id hS;unfold pyNext;refine aAa (aEt (aCp (name:=aDj "__next__") hT F.slot_seti_next
  (aBp F.slot_seti_next hT F.entry_seti_next ?_ (F.args_seti_next _))))
 refine aAa (aAb ?_);refine aAa (wpAny_fieldsOf hit rfl ?_);show wpAny _ _ (setEntries S>>=_) _ _ s;refine aAa (aEA ho hd hf ?_);rw[if_neg (by simp)];show wpAny _ _ (setNext S (aEB (slotAt w t i:Int)) (aEB (i:Int)) (aEB (ep:Int))>>=_) _ _ s;rw[aBZ,aBZ,aBZ];refine aAa (xT hS hf hp hl ha (aDi hi) (λe he=>?_) λe=>by lia);show wpAny _ _ (setField (.ref it) 0 (rawInt<|slotAt w t<|i+1)>>=_) _ _ s;refine aAa (aBQ hit (by simp) λh1 e1 s1=>?_);show wpAny _ _ (setField (.ref it) 1 (rawInt<|(i:Int)+1)>>=_) _ _ _;refine aAa (aBQ (s:={s with heap:=h1}) e1 (by simp) λh2 e2 s2=>?_);refine aAb ⟨_,rfl,aAb (h e h2 he ?_ (s1.trans s2))⟩;have:h2.get? it=some _:=e2;unfold N5;rw[this];simp
def QB {Q:Option Value->Shared->Prop}(hh:A.handled=none)(hit:N5 s.heap w it S t es.size es.size ep)(hS:IsSet s.heap S es ep t)(hf:t.fits es.size=true)(hp:t.plain=true)(hl:¬w.params.followText "set-order"=true->t.led=true)(ha:ST.FQ t.place)(h:∀h',Heap.ExtBut it s.heap h'->Q none {s with heap:=h'}):wpAny (model prog w) A (pyNext (.ref it)) Q E s:=by
 have hT:=P6 hit;obtain⟨o,ho,hc,hd⟩:=id hS;unfold pyNext;refine aAa (aEt (aCp (name:=aDj "__next__") hT F.slot_seti_next
  (aBp F.slot_seti_next hT F.entry_seti_next ?_ (F.args_seti_next _))))
 refine aAa (aAb ?_);refine aAa (wpAny_fieldsOf hit rfl ?_);show wpAny _ _ (setEntries S>>=_) _ _ s;refine aAa (aEA ho hd hf ?_);rw[if_neg (by simp)];show wpAny _ _ (setNext S (aEB (slotAt w t es.size:Int)) (aEB (es.size:Int)) (aEB (ep:Int))>>=_) _ _ s;rw[aBZ,aBZ,aBZ];refine aAa (xT hS hf hp hl ha (aAh _) (λe he=>?_) λ_=>?_)
 ·have h1:=(walkL_perm w S es ep).length_eq;have h2:=(aAC.mp he).1;rw[h1]at h2;simp at h2
 ·show wpAny _ _ (setField (.ref it) 2 .none>>=_) _ _ s;refine aAa (wpAny_setField hit rfl (by simp) ?_);show wpAny _ _ (newExc (.type "StopIteration") []>>=_) _ _ _;refine aAa ?_;simp only[newExc,newTuple];refine aAa (aBu ?_ (by size_fits));refine aAa (m:=firstArgMember _ _) (wpAny_of_eq (a:=Value.none) (by first|rfl|(simp only[firstArgMember];rfl)) ?_);refine aBu ?_ (by size_fits);simp only[raiseNew];refine aAa (wpAny_handled ?_);rw[show A.in1.handled=none from hh];refine aAa (aAb<|wpAny_throw ?_);refine aAa (aDE (T:= "StopIteration") (b:=true) ⟨_,aAp _ rfl,rfl⟩ isSubtype_stop ?_);exact aAb (h _<|((Heap.SameBut.update ..).extBut.push _).push _)
def bV (x:IsSet h S es ep t)(e:∀o,h.get? S=some o->h'.get? S=some o):IsSet h' S es ep t:=let⟨o,a,r⟩:=x;⟨o,e o a,r⟩
end
section
def FS (hh:A.handled=none)(I S:Addr)(ae:S≠I)(hf:t.fits es.size=true)(hp:t.plain=true)(hl:¬w.params.followText "set-order"=true->t.led=true)(ha:ST.FQ t.place):
  Walks prog w A I [I,S] [I] es.size (λi v=>∃e,(walkL w S es ep)[i]?=some e/\v=e.2) (λi h=>N5 h w I S t i es.size ep/\IsSet h S es ep t)where
 sub:=λb hb=>by simp at hb;simp[hb]
 frame:=λ_ _ _ st hk=>⟨hk I (by simp) _ st.1,bV st.2 λo e=>hk S (by simp) o e⟩
 item:=λi s Q E hi st hQ=>JB st.1 st.2 hf hp hl ha hi λe h' he eh hs=>hQ e.2 h' s.toks ⟨e,he,rfl⟩ ⟨eh,bV st.2 λo q=>(hs.2 S ae).trans q⟩ λb o hb q=>(hs.2 b (λz=>hb (by simp[z]))).trans q
 done:=λs Q E st hQ=>QB hh st.1 st.2 hf hp hl ha λh' hx=>hQ h' s.toks λb o hb q=>hx b o (λz=>hb (by simp[z])) q
 self:=λi s Q E st hQ=>by refine aFm (P6 st.1) F.slot_seti_iter (aBp F.slot_seti_iter (P6 st.1) F.entry_seti_iter ?_ (F.args_seti_iter _));refine aAa (aAb<|aAb ⟨_,rfl, "set_iterator",_,P6 st.1,F.slot_seti_next.lookup,hQ⟩)
def collect_set {Q:List Value->Shared->Prop}(hh:A.handled=none)(hS:IsSet s.heap S es ep t)(hf:t.fits es.size=true)(hp:t.plain=true)(hl:¬w.params.followText "set-order"=true->t.led=true)(ha:ST.FQ t.place)(hn:es.size<=sizeLine)
  (hQ:∀h' tk,(∀b o,s.heap.get? b=some o->h'.get? b=some o)->Q ((walkL w S es ep).map (·.2)) {s with heap:=h',toks:=tk}):wpAny (model prog w) A (collect (.ref S)) Q E s:=by
 obtain⟨oS,hoS,hcS,hdS⟩:=id hS;have hT:s.TypeIs (.ref S) "set":=⟨oS,hoS,hcS⟩;have ai:S<s.heap.objs.size:=aAf hoS;unfold collect;refine aAa (wpAny_runValue<|aBG PySem.F.entry_proto_collect ?_);rw[aBk PySem.F.plain_proto_collect _];show wpAny _ A.in1 (newList []>>=λl=>again (.builtin "list.__iadd__" ⟨[l,.ref S],[]⟩)) _ _ s;refine aAa (aBu ?_);refine aAb ⟨aBP PySem.F.plain_list_iadd _,aBG PySem.F.entry_list_iadd ?_⟩;rw[aBk PySem.F.plain_list_iadd _];generalize hh1:s.heap.push {cls:=.type "list",data:=.seq ([]:List Value).toArray}=h1;have hk1:∀b o,s.heap.get? b=some o->h1.get? b=some o:=λb o e=>by rw[<-hh1];exact aAc _ e
 have hsz1:h1.objs.size=s.heap.objs.size+1:=by rw[<-hh1,aBw]
 have hL1:h1.get? s.heap.objs.size=some {cls:=.type "list",data:=.seq ([]:List Value).toArray}:=by rw[<-hh1];exact aAp _ rfl
 have hS1:IsSet h1 S es ep t:=bV hS λo e=>hk1 S o e;have hT1:Shared.TypeIs {s with heap:=h1} (.ref S) "set":=⟨oS,hk1 _ _ hoS,hcS⟩;have hne1:aCS (.ref s.heap.objs.size) (.ref S)=false:=by simp[aCS,aCD ai]
 show wpAny _ A.in1 (aBR (.ref s.heap.objs.size) (.ref S)<|.ref s.heap.objs.size) _ _ _;unfold aBR;refine aAa (aDI hT1 ?_);rw[if_neg (by rw[hne1];decide)];refine aAa (IQ (s:={s with heap:=h1}) hS1 hf hp ?_);refine aAa (aAN ?_);generalize hh2:h1.push {cls:=.type "set_iterator",dict:=none,data:=.fields #[rawInt (slotAt w t 0),rawInt (0:Nat),.ref S,rawInt es.size,rawInt ep],slots:=#[]}=h2;have hk2:∀b o,h1.get? b=some o->h2.get? b=some o:=λb o e=>by rw[<-hh2];exact aAc _ e
 have hI2:N5 h2 w h1.objs.size S t 0 es.size ep:=by rw[<-hh2];exact aAp _ rfl
 have hS2:IsSet h2 S es ep t:=bV hS1 λo e=>hk2 S o e;have hT2:Shared.TypeIs {s with heap:=h2} (.ref S) "set":=⟨oS,hk2 _ _ (hk1 _ _ hoS),hcS⟩;have hL2:=hk2 _ _ hL1;unfold aCw;refine aAa (aBq hT2 PySem.F.slot_set_len.lookup ?_)
 (generalize hid:("set.__len__":String)=id0;(fail_if_success (clear hid id0));wp_delta;rw[show splitId id0=some ("set", "__len__")from by subst hid;decide+kernel];subst hid)
 refine aAa (aDE (b:=true) hT2 (by rw[aEZ];kernel_rfl) ?_);rw[if_neg (by decide)];refine ET (by decide+kernel) ?_
 ·refine aAa (aDI hT2<|aAb ?_);rw[if_pos (by decide)];show wpAny _ A.in1 (rule "list.extend.makes-room">>=λ_=>aFD (.ref s.heap.objs.size)>>=λ_=>again (.builtin "list.extend.loop" ⟨[.ref s.heap.objs.size,.ref h1.objs.size,.ref s.heap.objs.size],[]⟩)) _ _ _
  refine aAa (aDr ?_);refine aAa ?_;show wpAny _ A.in1 (updateSeq s.heap.objs.size (·.push .none)>>=λ_=>updateSeq s.heap.objs.size (·.pop)) _ _ _;refine aAa (aBS hL2 rfl ?_);have hL3:=aBe (aBv (·.push Value.none)) hL2 rfl;refine aBS hL3 rfl ?_;have hL4:=aBe (aBv (·.pop)) hL3 rfl;have uc:∀b o,b≠s.heap.objs.size->h2.get? b=some o->((h2.update s.heap.objs.size (aBv (·.push Value.none))).update s.heap.objs.size (aBv (·.pop))).get? b=some o:=
   λb o hb e=>(aAB _ _<|aBV hb).trans ((aAB _ _<|aBV hb).trans e)
  have neI:h1.objs.size≠s.heap.objs.size:=by rw[hsz1];lia
  have W:=(FS (prog:=prog) (w:=w) (A:=A.in1) (by simp[hh]) h1.objs.size S (by rw[hsz1];exact aAl (aBx ai)) (es:=es) (ep:=ep) (t:=t) hf hp hl ha).toS;refine aAb ⟨aBP PySem.F.plain_extend_loop _,codeAny_extend_loopS W hn _ (by simp only[aAd,aAz,or_false,not_or];exact⟨aBV neI,aCD ai⟩) _ es.size 0 _ _ _ rfl (aAY _) ⟨uc _ _ neI hI2,bV hS2 λo e=>uc S o (aAl ai) e⟩ hL4 (ItemsOf.nil _) λs' jb c' hm ig de=>?_⟩;show wpAny _ A (load s.heap.objs.size>>=_) _ _ s';refine aAa (wpAny_load ig ?_);refine aAb ?_;have g0:s'.gens=s.gens:=hm.gens;have d0:s'.drawn=s.drawn:=hm.drawn;have o0:s'.os=s.os:=hm.os;have ea:jb.toList=(walkL w S es ep).map (·.2):=by
   have lu:=(walkL_perm w S es ep).length_eq;apply aDZ;intro i;rw[aAG,aAA];by_cases hi:i<es.size
   ·have yg:i<jb.size:=by rw[de.1];exact hi
    obtain⟨e,he,hv⟩:=de.2 i _ (aAH yg);rw[he,aAH yg,hv];rfl
   ·rw[aCA (by rw[de.1];lia),aEg (by rw[lu];simp;lia)];rfl
  obtain⟨h',g',d',xh,os'⟩:=s';subst g0 d0 o0;rw[ea];refine hQ h' xh λb o e=>?_;have hb:b≠s.heap.objs.size:=aAl (aAf e);have hb2:b≠h1.objs.size:=by rw[hsz1];exact aAl (aBx<|aAf e)
  exact hm.heap b o (by simp only[aAd,aAz,or_false,not_or];exact⟨hb,hb2⟩) (uc b o hb<|hk2 _ _<|hk1 _ _ e)
end
end SI
namespace TS
open PySem PyProof.Rows
abbrev tupK:Bool->SortKind:=sortPriv%PySem.Builtin.KeyKind.tuples
structure TB (f:Bool)(a5:Array Keyed)(st:SortSt):Prop where
 perm:(arrOf st).Perm a5
 kind:kindOf st=tupK f
 failed:failedOf st=none
 pend:pendingOf st=#[]
def TB.size {f:Bool}{a5:Array Keyed}{st:SortSt}(h:TB f a5 st):(arrOf st).size=a5.size:=h.perm.size_eq
def TB.setArr {f:Bool}{a5:Array Keyed}{st:SortSt}(h:TB f a5 st){xs:Array Keyed}(hp:xs.Perm (arrOf st)):TB f a5 (PyProof.Rows.setArr st xs):=
 ⟨hp.trans h.perm,h.kind,h.failed,h.pend⟩
def SM (f:Bool)(A:Around)(s:Shared)(κ:KeyKind):Prop:=
 ∀(prog:Program) (w:World) (E:C5) (x y:Value) (a b:κ.α) {Q:vO},
  κ.keyOf x=some a->κ.keyOf y=some b->Q (κ.blt a b) s->wpAny (model prog w) A (keyLt' (tupK f) x y) Q E s
def TB.atK {f:Bool}{κ:KeyKind}{a5:Array Keyed}{st:SortSt}(h:TB f a5 st)(h0:KeysOf κ a5){i:Nat}(hi:i<a5.size):∃x p a,(arrOf st)[i]?=some (x,p)/\κ.keyOf x=some a/\KK κ (arrOf st) i=a:=by
 have eh:i<(arrOf st).size:=by rw[h.size];exact hi
 obtain⟨a,ha⟩:=h0 _ ((aEJ.mp h.perm).mem_iff.mp (show(arrOf st)[i]∈(arrOf st).toList by simp));have e:(arrOf st)[i]?=some (arrOf st)[i]:=getElem?_pos _ i eh;exact⟨(arrOf st)[i].1,(arrOf st)[i].2,a,by rw[e],ha,by unfold KK;rw[e];simp[ha]⟩
section
def YN (f:Bool){prog:Program}{w:World}{A:Around}{E:C5}{s:Shared}{a5:Array Keyed}{κ:KeyKind}{st:SortSt}{i j:Nat}{Q:Option Bool->SortSt->Prop}(hO:SM f A s κ)(hB:TB f a5 st)(h0:KeysOf κ a5)(hi:i<a5.size)(hj:j<a5.size)
  (h:Q (some (κ.blt (KK κ (arrOf st) i) (KK κ (arrOf st) j))) st):wpS (model prog w) A E s (ltAt' i j) Q st:=by
 obtain⟨x,p,a,e1,ha,ka⟩:=hB.atK h0 hi;obtain⟨y,q,b,e2,hb,kb⟩:=hB.atK h0 hj;rw[ka,kb]at h;rw[ltAt'_eq];refine aBn (wpS_get ?_);show wpS _ _ _ _ (do let x<-elem' (arrOf st) i;let y<-elem' (arrOf st) j;lt' x y) Q st;rw[elem'_eq,elem'_eq,e1,e2];refine aBn (aCd<|aBn<|aCd ?_);rw[lt'_eq];refine aBn (wpS_get ?_);rw[hB.kind];refine aBn (wpS_lift<|aEt<|hO prog w _ x y a b ha hb ⟨rfl,?_⟩);exact aCd h
def up1 (S:SortedToK κ xs x)(h:1<=x->κ.kle (KK κ xs (x-1)) (KK κ xs x)):SortedToK κ xs (x+1):=λi j jc hj=>by
 rcases aDe (aFn hj)with ai|rfl
 ·exact S i j jc ai
 ·rcases aDe jc with hi|rfl
  ·exact KeyOrd.kle_trans (S i (j-1) (by lia) (by lia)) (h (by lia))
  ·exact KeyOrd.kle_refl _
def aj (S:NonIncK κ xs x)(h:1<=x->κ.kle (KK κ xs x) (KK κ xs (x-1))):NonIncK κ xs (x+1):=λi j jc hj=>by
 rcases aDe (aFn hj)with ai|rfl
 ·exact S i j jc ai
 ·rcases aDe jc with hi|rfl
  ·exact KeyOrd.kle_trans (h (by lia)) (S i (j-1) (by lia) (by lia))
  ·exact KeyOrd.kle_refl _
def NI (S:NonIncK κ xs x)(e:∀k,KK κ ys k=KK κ xs k):NonIncK κ ys x:=λi j jc hj=>by rw[e,e];exact S i j jc hj
def zM (κ:KeyKind)(xs:Array Keyed)(x c:Nat):Prop:=c+1<=x/\∀k,x-(c+1)<=k->k<x->KK κ xs k=KK κ xs (x-1)
def zM.one (h:1<=x):zM κ xs x 0:=⟨h,λk h1 h2=>by rw[show k=x-1 by lia]⟩
variable{st:SortSt}
def KL (hO:SM f A s κ)(h0:KeysOf κ a5)(hm:m<=a5.size)(B:TB f a5 st)(ha:1<=a)(ham:a<=m)(S:SortedToK κ (arrOf st) a){Q:AscSt->SortSt->Prop}(q:∀n,a<=n->n<=m->SortedToK κ (arrOf st) n->(n<m->κ.klt (KK κ (arrOf st) n) (KK κ (arrOf st) (n-1)))->Q (none,n) st):wpS (model prog w) A E s (ascLoop a m) Q st:=by
 refine aEh (I:=λn r t=>t=st/\r=(none,n)/\SortedToK κ (arrOf st) n) (λn r t l1 l2 ⟨e1,e2,S'⟩=>?_) (λr t ⟨e1,e2,S'⟩=>?_) ⟨rfl,rfl,S⟩
 ·subst e1 e2;refine aBn (YN f hO B h0 (by lia) (by lia) ?_);cases z:κ.blt (KK κ (arrOf t) n) (KK κ (arrOf t)<|n-1)with
  |true=>exact aCd (q n l1 (by lia) S' λ_=>z)
  |false=>exact aCd ⟨rfl,rfl,up1 S' λ_=>z⟩
 ·subst e1 e2;have e:max a m=m:=Nat.max_eq_right ham;rw[e]at S'⊢;exact q m ham (aAh _) S' λz=>absurd z (aBc _)
abbrev Told (f:Bool)(κ:KeyKind)(a5:Array Keyed)(m:Nat)(Q:Option Nat->SortSt->Prop):Prop:=∀n t,TB f a5 t->1<=n->n<=m->SortedToK κ (arrOf t) n->Q (some n) t
def yK (hO:SM f A s κ)(h0:KeysOf κ a5)(hm:m<=a5.size)(B:TB f a5 st)(h1:1<=n)(hn:n<=m)(S:NonIncK κ (arrOf st) n){Q:Option Nat->SortSt->Prop}(q:Told f κ a5 m Q):
  wpS (model prog w) A E s (tail3 n m) Q st:=by
 have B2:=B.setArr (aFY (arrOf st) 0 n<|(n-0)/2);have hz:n<=(arrOf st).size:=by rw[B.size];exact aAs hn hm
 refine aBn (aFZ<|aBn<|KL hO h0 hm B2 h1 hn (λi j jc hj=>?_) λk k1 k2 S' _=>aCd (q k _ B2 (aAs h1 k1) k2 S'));have e:∀k,k<n->KK κ (arrOf<|setArr st<|mirror (arrOf st) 0 n<|(n-0)/2) k=KK κ (arrOf st) (0+n-1-k):=λk hk=>(KK_mirror hz k).trans (if_pos ⟨aAY _,hk⟩);rw[e i (by lia),e j hj];exact S _ _ (by lia) (by lia)
def MY (hO:SM f A s κ)(h0:KeysOf κ a5)(hm:m<=a5.size)(B:TB f a5 st)(h1:1<=n)(hn:n<=m)(S:NonIncK κ (arrOf st) n){Q:DescSt->SortSt->Prop}(q:∀k c t,TB f a5 t->1<=k->k<=m->NonIncK κ (arrOf t) k->zM κ (arrOf t) k c->Q (none,k,c) t):wpS (model prog w) A E s (descLoop n m) Q st:=by
 refine aEh (I:=λk r t=>∃c,r=(none,k,c)/\TB f a5 t/\NonIncK κ (arrOf t) k/\zM κ (arrOf t) k c) (λk r t l1 l2 ⟨c,e,B',S',F'⟩=>?_) (λr t ⟨c,e,B',S',F'⟩=>?_) ⟨0,rfl,B,S,zM.one h1⟩
 ·subst e;have hz:k<=(arrOf t).size:=by rw[B'.size];lia
  dsimp only;refine aBn (YN f hO B' h0 (by lia) (by lia) ?_);cases z:κ.blt (KK κ (arrOf t) k) (KK κ (arrOf t)<|k-1)with
  |true=>
   have S2:NonIncK κ (arrOf t) (k+1):=aj S' λ_=>KeyOrd.kle_of_klt z;show wpS _ _ _ _ (if c>0 then _ else _) _ t;by_cases hc:c>0
   ·rw[if_pos hc];exact aBn (aFZ (aCd ⟨0,rfl,B'.setArr (aFY _ _ _ _),NI S2 (aFJ hz F'.2),zM.one (by lia)⟩))
   ·rw[if_neg hc];exact aCd ⟨0,rfl,B',S2,zM.one (by lia)⟩
  |false=>
   dsimp only;simp only[aAt,if_false];refine aBn (YN f hO B' h0 (by lia) (by lia) ?_);cases z2:κ.blt (KK κ (arrOf t)<|k-1) (KK κ (arrOf t) k)with
   |true=>exact aCd (q k c t B' (by lia) (by lia) S' F')
   |false=>
    have e:KK κ (arrOf t) k=KK κ (arrOf t) (k-1):=KeyOrd.kle_antisymm z2 z;refine aCd ⟨c+1,rfl,B',aj S' λ_=>by rw[e];exact KeyOrd.kle_refl _,by have:=F'.1;lia,λi i1 i2=>?_⟩;show KK κ (arrOf t) i=KK κ (arrOf t) k;rcases aDe (aFn i2)with hi|rfl
    ·rw[e];exact F'.2 i (by lia) hi
    ·rfl
 ·subst e;have e:max n m=m:=Nat.max_eq_right hn;rw[e]at S' F'⊢;exact q m c t B' (aAs h1 hn) (aAh _) S' F'
def wQ (hO:SM f A s κ)(h0:KeysOf κ a5)(hm:m<=a5.size)(B:TB f a5 st)(hn:n+1<=m)(S:NonIncK κ (arrOf st) (n+1)){Q:Option Nat->SortSt->Prop}(q:Told f κ a5 m Q):
  wpS (model prog w) A E s (descPart n m) Q st:=by
 refine aBn (wpS_lift<|aDr ⟨rfl,aBn (MY hO h0 hm B (aGq n) hn S λk c t B' k1 k2 S' F'=>?_)⟩);have hz:k<=(arrOf t).size:=by rw[B'.size];lia
 show wpS _ _ _ _ (if c>0 then _ else _) _ t;by_cases hc:c>0
 ·rw[if_pos hc];exact aBn (aFZ<|yK hO h0 hm (B'.setArr<|aFY _ _ _ _) k1 k2 (NI S'<|aFJ hz F'.2) q)
 ·rw[if_neg hc];exact yK hO h0 hm B' k1 k2 S' q
def GA (hO:SM f A s κ)(h0:KeysOf κ a5)(hm:m<=a5.size)(h1:1<=m)(B:TB f a5 st){Q:Option Nat->SortSt->Prop}(q:Told f κ a5 m Q):wpS (model prog w) A E s (countRun' 0 m) Q st:=by
 rw[countRun0_eq];refine aBn (KL hO h0 hm B (aAh 1) h1 (up1 (λ_ _ _ z=>absurd z (aFK _)) λz=>absurd z (by decide)) λn n1 n2 S ai=>?_);show wpS _ _ _ _ (if(n==m)=true then _ else _) _ st;by_cases hn:n=m
 ·rw[if_pos (beq_iff_eq.mpr hn)];exact aCd (q n st B n1 n2 S)
 ·rw[if_neg λz=>hn (beq_iff_eq.mp z)];have lt:=ai (by lia);by_cases hg:n>1
  ·rw[if_pos hg];refine aBn (YN f hO B h0 (by lia) (by lia) ?_);cases z:κ.blt (KK κ (arrOf st) 0) (KK κ (arrOf st)<|n-1)with
   |true=>exact aCd (q n st B n1 n2 S)
   |false=>
    have hz:n<=(arrOf st).size:=by rw[B.size];lia
    have same:∀k,0<=k->k<n->KK κ (arrOf st) k=KK κ (arrOf st) (n-1):=λk _ hk=>KeyOrd.kle_antisymm (S k (n-1) (by lia) (by lia)) (KeyOrd.kle_trans z<|S 0 k (aAY _) hk);have S2:NonIncK κ (arrOf st) n:=λi j jc hj=>by rw[same i (aAY _) (by lia),same j (aAY _) hj];exact KeyOrd.kle_refl _
    exact aBn (aFZ (wQ hO h0 hm (B.setArr<|aFY _ _ _ _) (by lia) (NI (aj S2 λ_=>KeyOrd.kle_of_klt lt)<|aFJ hz same) q))
  ·rw[if_neg hg];obtain rfl:n=1:=by lia
   exact wQ hO h0 hm B (by lia) (aj (aj (λ_ _ _ z=>absurd z (aFK _)) λz=>absurd z (by decide)) λ_=>KeyOrd.kle_of_klt lt) q
def pB (hO:SM f A s κ)(h0:KeysOf κ a5)(hn:n<=a5.size)(hk:k<=n)(B:TB f a5 st)(S:SortedToK κ (arrOf st) k){Q:Bool->SortSt->Prop}(q:∀t,TB f a5 t->SortedToK κ (arrOf t) n->Q true t):
  wpS (model prog w) A E s (binarySort' 0 n k) Q st:=by
 rw[binarySort'_eq];simp only[aEV];have S0:SortedToK κ (arrOf st) (min (max k 1) n):=λi j jc hj=>by
  rcases Nat.eq_or_lt_of_le jc with rfl|ai
  ·exact KeyOrd.kle_refl _
  ·exact S i j jc (by lia)
 refine aBn (wpS_mono (Q:=λr t=>r=(none,())/\TB f a5 t/\SortedToK κ (arrOf t) n) (aEh (I:=λx r t=>r=(none,())/\TB f a5 t/\SortedToK κ (arrOf t) (min x n)) (λx r t l1 l2 ⟨e,B',S'⟩=>?step) (λr t ⟨e,B',S'⟩=>⟨e,B',?fin⟩) ⟨rfl,B,S0⟩) λr t ⟨e,B',S'⟩=>?post)
 case step=>
  subst e;rw[aEC (aDi l2)]at S';have hx:x<a5.size:=by lia
  let Low (l:Nat):Prop:=∀i,i<l->κ.kle (KK κ (arrOf t) i) (KK κ (arrOf t) x)
  let Top (r:Nat):Prop:=∀i,r<=i->i<x->κ.klt (KK κ (arrOf t) x) (KK κ (arrOf t) i)
  refine aBn (wpS_mono (Q:=λd u=>u=t/\∃l r,d=(none,l,r)/\l<=x/\Low l/\Top l) (aEh (I:=λy d u=>u=t/\∃l r,d=(none,l,r)/\l<=r/\r<=x/\r-l<=x-y/\Low l/\Top r) (λy d u _ y2 ⟨e,l,r,e2,lr,rx,far,lo,hi⟩=>?istep) (λd u ⟨e,l,r,e2,lr,rx,far,lo,hi⟩=>?ifin)
   ⟨rfl,0,x,rfl,aAY _,aAh _,aAh _,λ_ z=>absurd z (aFK _),λi a b=>absurd (aDd a b) (aBc _)⟩) λd u ⟨e,l,r,e2,lx,lo,hi⟩=>?ipost)
  case istep=>
   subst e e2;show wpS _ _ _ _ (if l>=r then _ else _) _ u;by_cases hlr:l>=r
   ·rw[if_pos hlr];obtain rfl:l=r:=Nat.le_antisymm lr hlr;exact aCd ⟨rfl,l,l,rfl,rx,lo,hi⟩
   ·rw[if_neg hlr];dsimp only;refine aBn (YN f hO B' h0 hx (by lia) ?_);cases z:κ.blt (KK κ (arrOf u) x) (KK κ (arrOf u)<|(l+r)/2)with
    |true=>exact aCd ⟨rfl,l,(l+r)/2,rfl,by lia,by lia,by lia,lo,λi a b=>KeyOrd.klt_of_klt_of_kle z (S' _ i a b)⟩
    |false=>exact aCd ⟨rfl,(l+r)/2+1,r,rfl,by lia,by lia,by lia,λi a=>KeyOrd.kle_trans (S' i ((l+r)/2) (by lia) (by lia)) z,hi⟩
  case ifin=>
   subst e e2;obtain rfl:l=r:=by lia
   exact⟨rfl,l,l,rfl,rx,lo,hi⟩
  case ipost=>
   subst e e2;have hz:x<(arrOf u).size:=by rw[B'.size];exact hx
   show wpS _ _ _ _ (do moveDown' x l;pure (aCf (none,()))) _ u;rw[moveDown'_eq];refine aBn (wpS_modify<|aCd ⟨rfl,B'.setArr (bubble_perm _ _ _),λi j jc hj=>?_⟩);have e:∀k,KK κ (arrOf<|setArr u<|bubble (arrOf u) x<|x-l) k=if k=l then KK κ (arrOf u) x else if l<k/\k<=x then KK κ (arrOf u) (k-1)else KK κ (arrOf u) k:=λk=>by have:=KK_bubble (κ:=κ) hz (Nat.sub_le x l) k;rw[show x-(x-l)=l by lia]at this;exact this
   have hj:j<x+1:=by lia
   rw[e,e];by_cases c1:i=l
   ·rw[if_pos c1];by_cases c2:j=l
    ·rw[if_pos c2];exact KeyOrd.kle_refl _
    ·rw[if_neg c2,if_pos ⟨by lia,by lia⟩];exact KeyOrd.kle_of_klt (hi _ (by lia) (by lia))
   ·rw[if_neg c1];by_cases c2:j=l
    ·rw[if_pos c2,if_neg λz=>by lia];exact lo i (by lia)
    ·rw[if_neg c2];by_cases c3:l<i/\i<=x
     ·rw[if_pos c3,if_pos ⟨by lia,by lia⟩];exact S' _ _ (by lia) (by lia)
     ·rw[if_neg c3];by_cases c4:l<j/\j<=x
      ·rw[if_pos c4];exact S' _ _ (by lia) (by lia)
      ·rw[if_neg c4];exact S' _ _ jc (by lia)
 case fin=>rw[show min (max (max k 1) n) n=n by lia]at S';exact S'
 case post=>subst e;exact aCd (q t B' S')
def lZ (f:Bool)(hO:SM f A s κ)(h0:KeysOf κ a5)(B:TB f a5 st)(h2:2<=a5.size)(h64:a5.size<64){Q:Unit->SortSt->Prop}(q:∀t,(arrOf t).Perm a5->failedOf t=none->SortedToK κ (arrOf t) a5.size->Q () t):wpS (model prog w) A E s sortRuns' Q st:=by
 have e1:minRun' a5.size a5.size 0=a5.size:=by
  generalize hN:a5.size=N at*
  cases N with
  |zero=>lia
  |succ N=>rw[minRun'_succ,if_pos h64]
 let QY (t:SortSt):Prop:=(arrOf t).Perm a5/\failedOf t=none/\pendingOf t=#[(0,a5.size,0)]/\SortedToK κ (arrOf t) a5.size
 have done:∀t,TB f a5 t->SortedToK κ (arrOf t) a5.size->QY (setPending t<|(pendingOf t).push (0,a5.size,0)):=λt B' S'=>⟨B'.perm,B'.failed,(congrArg (·.push (0,a5.size,0)) B'.pend),S'⟩;rw[sortRuns'_eq];refine aBn (wpS_get ?_);dsimp only;simp only[B.size,e1];refine aBn (wpS_mono (Q:=λr t=>r=(none,a5.size)/\QY t) (aEh (I:=λx r t=>(x=0/\r=(none,0)/\TB f a5 t)\/(0<x/\r=(none,a5.size)/\QY t)) (λx r t _ l2 I=>?step) (λr t I=>?fin)<|.inl ⟨rfl,rfl,B⟩) λr t ⟨e,D⟩=>?post)
 case step=>
  rcases I with⟨rfl,rfl,B'⟩|⟨x0,rfl,D⟩
  ·show wpS _ _ _ _ (if 0>=a5.size then _ else _) _ t;rw[if_neg (by lia)];simp only[Nat.sub_zero,Nat.min_self,aEV];have fin:∀u,TB f a5 u->(pendingOf u).back?=none:=λu B2=>by rw[B2.pend];rfl
   refine aBn (GA hO h0 (aAh _) (by lia) B' λn u B2 n1 n2 S2=>?_);show wpS _ _ _ _ (if n<a5.size then _ else _) _ u;by_cases hn:n<a5.size
   ·rw[if_pos hn];refine aBn (wpS_lift<|aDr ⟨rfl,aBn (pB hO h0 (aAh _) n2 B2 S2 λv B3 S3=>?_)⟩);simp only[aCW,aAt,if_false];refine aBn (wpS_get ?_);rw[fin v B3];exact aBn (wpS_modify<|aCd<|.inr ⟨aGq _,rfl,done v B3 S3⟩)
   ·rw[if_neg hn];obtain rfl:n=a5.size:=by lia
    refine aBn (wpS_get ?_);rw[fin u B2];exact aBn (wpS_modify<|aCd<|.inr ⟨aGq _,rfl,done u B2 S2⟩)
  ·show wpS _ _ _ _ (if a5.size>=a5.size then _ else _) _ t;rw[if_pos (aAh _)];exact aCd ⟨rfl,D⟩
 case fin=>
  rcases I with⟨z,_⟩|⟨_,e,D⟩
  ·lia
  ·exact⟨e,D⟩
 case post=>
  subst e;refine aBn (wpS_mono (Q:=λr u=>u=t/\r=(none,())) (aEh (I:=λ_ r u=>u=t/\r=(none,())) (λ_ r u _ _ ⟨e,e2⟩=>?istep) (λ_ _ z=>z) ⟨rfl,rfl⟩) λr u ⟨e,e2⟩=>?ipost)
  case istep=>subst e e2;refine aBn (wpS_get ?_);rw[if_pos (by rw[D.2.2.1];exact aAh 1)];exact aCd ⟨rfl,rfl⟩
  case ipost=>subst e e2;exact aCd (q _ D.1 D.2.1 D.2.2.2)
end
end TS
namespace TS
open PySem PyProof.Rows
section
def YG (a:Addr)(s s6:Shared):Prop:=∀b o,b≠a->s.heap.get? b=some o->s6.heap.get? b=some o
def xB {P:Fin->Shared->Prop}(ho:s.heap.get? a=some (seqObj "list" vs.toArray n))(h0:KeysOf κ (pairsOf vs))(hO:∀s6,YG a s s6->SM f A s6 κ)(hkk:2<=vs.length->∀s6,YG a s s6->∀{Q:SortKind->Shared->Prop},Q (tupK f) s6->wpAny (model prog w) A (keyKind' vs.toArray) Q E s6)(h64:vs.length<64)(h:∀st':SortSt,(arrOf st').Perm (pairsOf vs)->SortedToK κ (arrOf st') (pairsOf vs).size->P (.done (.ret .none)) {s with heap:=sortedHeap s.heap a vs ((arrOf st').map (·.2))}):
  wpAny (model prog w) A (Builtin.«list.sort» ⟨[.ref a],[]⟩) P E s:=by
 rw[list_sort_plain];have ha:a<s.heap.objs.size:=aAf ho;refine aAa (aEi ho rfl ?_);refine aAa (listUpdate_at ho rfl ?_);obtain⟨e1,ho1⟩:∃e1,(s.heap.update a<|aBv λ_=>#[]).get? a=some (seqObj "list" #[] e1):=⟨_,get?_update_seq ho _⟩;refine aAa (seqEpoch_at ho1 rfl<|aAa<|aFW<|aAa<|wpAny_newList<|aAN ?_);have ne1:a≠(s.heap.update a<|aBv λ_=>#[]).objs.size:=by rw[Heap.size_update];exact aAl ha
 have bar:YG a s {s with heap:=((s.heap.update a<|aBv λ_=>#[]).push (seqObj "tuple" vs.toArray 0)).push (seqObj "list" #[] 0)}:=λb o hb e=>aAc _ (aAc _<|(aAB _ _<|aBV hb).trans e)
 have ho6:(((s.heap.update a<|aBv λ_=>#[]).push (seqObj "tuple" vs.toArray 0)).push (seqObj "list" #[] 0)).get? a=some (seqObj "list" #[] e1):=aAc _ (aAc _ ho1);show wpAny (model prog w) A _ P E {s with heap:=((s.heap.update a<|aBv λ_=>#[]).push (seqObj "tuple" vs.toArray 0)).push (seqObj "list" #[] 0)};dsimp only;have hsz:vs.toArray.size=vs.length:=by simp
 have fin:=h;by_cases h2:vs.toArray.size<2
 ·rw[if_pos h2,if_pos h2];refine aAa (aAb ?_);rw[StateT.run_pure];refine aAa (aAb ?_);dsimp only;refine aAa (seqEpoch_at ho6 rfl (aAa (listUpdate_at ho6 rfl ?_ (hsz2:=by rw[Array.size_map];show(pairsOf vs).size<=_;rw[aEW,aFp];lia))));simp only[bne_self_eq_false,aAt,if_false];refine aAb (fin (SortSt.mk' general' (vs.toArray.zip vs.toArray) #[] 7 none) (aGu _) λi j jc hj=>?_);have:i=j:=by rw[aEW]at hj;lia
  subst this;exact KeyOrd.kle_refl _
 ·rw[if_neg h2,if_neg h2];refine aAa (hkk (by lia) _ bar ?_);refine aAa (aCj (lZ f (κ:=κ) (hO _ bar) (a5:=pairsOf vs) (st:=SortSt.mk' (tupK f) (vs.toArray.zip vs.toArray) #[] 7 none) (Q:=λ_ st'=>(arrOf st').Perm (pairsOf vs)/\failedOf st'=none/\SortedToK κ (arrOf st') (pairsOf vs).size)
   h0 ⟨aGu _,rfl,rfl,rfl⟩ (by rw[aEW];lia) (by rw[aEW];exact h64) λst' a1 a2 a3=>⟨a1,a2,a3⟩) ?_ λ_ _ e=>e)
  rintro⟨⟨⟩,st'⟩ s' ⟨rfl,hp,hf,hs⟩;dsimp only;refine aAa (seqEpoch_at ho6 rfl (aAa (listUpdate_at ho6 rfl ?_ (hsz2:=by refine aAs (aEe<|(Array.size_map ..).trans (hp.size_eq.trans<|aEW _)) ?_;rw[aFp];lia))));rw[hf];simp only[bne_self_eq_false,aAt,if_false];exact aAb (fin st' hp hs)
end
end TS
namespace TS
open PySem PyProof.Rows HT
def rT (f:Bool)(x y:Value):keyLt' (tupK f) x y=(do
 let xs<-aCB x;let ys<-aCB y
 for ((p,q),i)in(xs.toList.zip ys.toList).zipIdx do
  if !(<-eqBool p q)then return<-oneLt' (f&&i==0) p q
 return decide (xs.size<ys.size)):=rfl
def MO:Value->Sem (Option Value):=sortPriv%PySem.Builtin.firstOfTuple?
def ND:Array Value->Sem (Option Value):=sortPriv%PySem.Builtin.oneTypeOnly
def GP (v:Value):MO v=(do
 if(<-typeOf v) !=.type "tuple"then return none
 return (<-aCB v)[0]?):=rfl
def LU (vs:Array Value):ND vs=(do
 let ts<-vs.mapM typeOf
 match ts[0]? with
 |some t=>return if ts.all (· ==t)then some t else none
 |none=>return none):=rfl
def zB (ks:Array Value):keyKind' ks=(do
 let firsts<-ks.mapM MO
 if firsts.all (·.isSome)then
  rule "list.sort.keys-are-tuples"
  return tupK ((<-ND (firsts.filterMap id)).any (· !=.type "tuple"))
 if(firsts[0]?.bind id).isSome then return general'
 return if(<-ND ks).isSome then oneType' else general'):=rfl
section
def JK {Q:vO}(f:Bool)(h:Q (decide (a<b)) s):wpAny (model prog w) A (oneLt' f (.int a t) (.int b u)) Q E s:=by
 cases f with
 |true=>exact oneLt_int h
 |false=>rw[oneLt'_eq];simp only[aAt,if_false];exact aAa (wV A s a t b u prog w _ _<|aBA h)
def lt_ints (f:Bool){Q:vO}(hl:IsTup s.heap l items)(hb:IsTup s.heap b ao)(hi:IntsAre items.toList ns)(hj:IntsAre ao.toList ms)(h:Q (HT.lexLt ns ms) s):wpAny (model prog w) A (keyLt' (tupK f) (.ref l) (.ref b)) Q E s:=by
 obtain⟨o,ho,hc,n,hd⟩:=hl;obtain⟨o2,jt,jf,n2,hd2⟩:=hb;have z1:items.size=ns.length:=by rw[<-hi.length];simp
 have z2:ao.size=ms.length:=by rw[<-hj.length];simp
 rw[rT];refine aAa (aEi ho hd<|aAa<|aEi jt hd2 ?_);refine aAa (aCl _ (λrest b s'=>b.1=none/\s'=s/\∃(k:Nat) (vs ws:List Value) (sv td:List Int),rest=(vs.zip ws).zipIdx k/\IntsAre vs sv/\IntsAre ws td/\sv.length+ao.size=td.length+items.size/\Q (HT.lexLt sv td) s)
  (λb s'=>s'=s/\(∀c,b.1=some c->Q c s)/\(b.1=none->Q (decide (items.size<ao.size)) s)) ?turn ?fin _ _ ⟨rfl,rfl,0,items.toList,ao.toList,ns,ms,rfl,hi,hj,by lia,h⟩|>λz=>aCj z ?post λ_ _ e=>e)
 case post=>
  rintro⟨b1,b2⟩ s' ⟨rfl,q1,q2⟩;cases b1 with
  |none=>exact aAb (q2 rfl)
  |some c=>exact aAb (q1 c rfl)
 case fin=>
  rintro⟨b1,b2⟩ s' ⟨iu,rfl,k,vs,ws,sv,td,hz,tf,xt,hlen,hR⟩;refine⟨rfl,λc e=>(by rw[iu]at e;cases e),λ_=>?_⟩;cases tf with
  |nil=>
   cases xt with
   |nil=>rw[X8]at hR;simp only[aBo]at hlen;rw[decide_eq_false (by lia)];exact hR
   |cons c u hw=>rw[K3]at hR;simp only[aBo,aAw]at hlen;rw[decide_eq_true (by lia)];exact hR
  |cons a t hv=>
   cases xt with
   |nil=>rw[A6]at hR;simp only[aBo,aAw]at hlen;rw[decide_eq_false (by lia)];exact hR
   |cons c u hw=>rw[aBM,aEn]at hz;cases hz
 case turn=>
  rintro⟨⟨y,x⟩,i⟩ rest b s' ⟨iu,rfl,k,vs,ws,sv,td,hz,tf,xt,hlen,hR⟩;cases tf with
  |nil=>rw[List.zip_nil_left,aED]at hz;cases hz
  |cons a t hvi'=>
   cases xt with
   |nil=>rw[List.zip_nil_right,aED]at hz;cases hz
   |cons c u hwi'=>
    rw[aBM,aEn]at hz;injection hz with zc af;injection zc with zc hik;injection zc with hy hx;subst hy hx hik;rw[E6]at hR;simp only[aAw]at hlen;obtain⟨e,he,uh⟩:=yA A s' a t c u;refine aAa (he prog w _ _ ?_);cases e with
    |true=>rw[if_pos (uh.mp rfl)]at hR;exact aAb ⟨rfl,rfl,_,_,_,_,_,af,hvi',hwi',by lia,hR⟩
    |false=>rw[if_neg (λq=>absurd (uh.mpr q) aAQ)]at hR;exact aAa (JK _ (aAb ⟨rfl,λc e=>(by cases e;exact hR),λe=>(by cases e)⟩))
end
end TS
namespace TS
open PySem PyProof.Rows HT
section
theorem DW {α β:Type}{M:Model}{f:α->Sem β}(g:α->β):∀(xs:List α) {Q:List β->Shared->Prop},(∀x∈xs,∀{Q:β->Shared->Prop},Q (g x) s->wpAny M A (f x) Q E s)->Q (xs.map g) s->wpAny M A (xs.mapM f) Q E s
 |[],Q,_,q=>by rw[List.mapM_nil];exact aAb q
 |x::xs,Q,h,q=>by rw[List.mapM_cons];exact aAa (h x (.head _) (aAa (DW g xs (λy hy=>h y (.tail _ hy)) (aAb q))))
def CM {α β:Type}{M:Model}{f:α->Sem β}(g:α->β)(xs:List α){Q:Array β->Shared->Prop}(h:∀x∈xs,∀{Q:β->Shared->Prop},Q (g x) s->wpAny M A (f x) Q E s)(q:Q (xs.map g).toArray s):wpAny M A (xs.toArray.mapM f) Q E s:=by rw[List.mapM_toArray];show wpAny M A (List.toArray<$>xs.mapM f) Q E s;rw[map_eq_pure_bind];exact aAa (DW g xs h<|aAb q)
def kind_tuples {vs:List Value}{f:Bool}{T:String}{Q:SortKind->Shared->Prop}(gf:Value->Value)(h:∀x∈vs,∃a items,x=.ref a/\IsTup s.heap a items/\items[0]?=some (gf x)/\s.TypeIs (gf x) T)(ae:vs≠[])(hf:f=(aCi T !=aCi "tuple"))
  (q:Q (tupK f) s):wpAny (model prog w) A (keyKind' vs.toArray) Q E s:=by
 rw[zB];refine aAa (CM (λx=>some (gf x)) vs (λx hx {Q} q'=>?_) ?_)
 ·obtain⟨a,items,rfl,⟨o,ho,hc,n,hd⟩,h0,_⟩:=h x hx;rw[GP];refine aAa (aDI (T:= "tuple") ⟨o,ho,hc⟩ ?_);rw[if_neg (by simp)];refine aAa (aEi ho hd ?_);rw[h0];exact aAb q'
 ·have e1:((vs.map λx=>some (gf x)).toArray.all λx=>x.isSome)=true:=by simp
  have e2:(vs.map λx=>some (gf x)).toArray.filterMap id=(vs.map gf).toArray:=by
   rw[List.filterMap_toArray,aDc];congr 1;induction vs with
   |nil=>rfl
   |cons v vs ih=>simp
  simp only[e1,if_true,e2];refine aAa (aDr ?_);refine aAa ?_;rw[LU];refine aAa (CM (λ_=>aCi T) (vs.map gf) (λx hx {Q} q'=>?_) ?_)
  ·obtain⟨y,hy,rfl⟩:=aAo.mp hx;obtain⟨_,_,_,_,_,ht⟩:=h y hy;exact aDI ht q'
  ·cases vs with
   |nil=>exact absurd rfl ae
   |cons v vs=>
    simp only[aAu,aBj];have e3:((aCi T::aDf ((λ_=>aCi T)∘gf) vs).toArray.all λx=>x==aCi T)=true:=by simp
    simp only[aCE,aCU,e3,if_true];refine aAb (aAb ?_);rw[hf]at q;exact q
end
end TS
namespace TS
open PySem PyProof.Rows HT
theorem lex_irrefl:∀a:List Int,HT.lexLt a a=false
 |[]=>rfl
 |x::xs=>by rw[E6,if_pos rfl];exact lex_irrefl xs
theorem lex_total:∀a b:List Int,HT.lexLt a b=false->HT.lexLt b a=false->a=b
 |[],[],_,_=>rfl
 |[],_::_,h,_=>by rw[K3]at h;cases h
 |_::_,[],_,h=>by rw[K3]at h;cases h
 |x::xs,y::ys,h1,h2=>by
  rw[E6]at h1 h2;by_cases e:x=y
  ·subst e;rw[if_pos rfl]at h1 h2;rw[lex_total xs ys h1 h2]
  ·rw[if_neg e]at h1;rw[if_neg (aBV e)]at h2;have:=of_decide_eq_false h1;have:=of_decide_eq_false h2;omega
theorem lex_trans:∀a b c:List Int,HT.lexLt a b=true->HT.lexLt b c=true->HT.lexLt a c=true
 |[],[],_,h,_=>by rw[X8]at h;cases h
 |[],_::_,[],_,h=>by rw[A6]at h;cases h
 |[],_::_,_::_,_,_=>rfl
 |_::_,[],_,h,_=>by rw[A6]at h;cases h
 |_::_,_::_,[],_,h=>by rw[A6]at h;cases h
 |x::xs,y::ys,z::zs,h1,h2=>by
  rw[E6]at h1 h2⊢;by_cases e:x=y
  ·subst e;rw[if_pos rfl]at h1;by_cases e2:x=z
   ·subst e2;rw[if_pos rfl]at h2⊢;exact lex_trans xs ys zs h1 h2
   ·rw[if_neg e2]at h2⊢;exact h2
  ·rw[if_neg e]at h1;have a1:=of_decide_eq_true h1;by_cases e2:y=z
   ·subst e2;rw[if_neg e];exact h1
   ·rw[if_neg e2]at h2;have a2:=of_decide_eq_true h2;rw[if_neg (by omega)];exact decide_eq_true (by omega)
theorem DG:∀a b c:List Int,HT.lexLt a c=true->HT.lexLt a b=true\/HT.lexLt b c=true
 |[],[],_,h=>.inr h
 |[],_::_,_,_=>.inl rfl
 |_::_,_,[],h=>by rw[A6]at h;cases h
 |_::_,[],_::_,_=>.inr rfl
 |x::xs,y::ys,z::zs,h=>by
  rw[E6]at h;rw[E6,E6];by_cases e:x=y
  ·subst e;rw[if_pos rfl];by_cases e2:x=z
   ·subst e2;rw[if_pos rfl]at h⊢;exact DG xs ys zs h
   ·rw[if_neg e2]at h⊢;exact .inr h
  ·rw[if_neg e];by_cases l:x<y
   ·exact .inl (decide_eq_true l)
   ·refine .inr ?_;by_cases e2:x=z
    ·subst e2;rw[if_neg (aBV e)];exact decide_eq_true (by omega)
    ·rw[if_neg e2]at h;have:=of_decide_eq_true h;rw[if_neg (by omega)];exact decide_eq_true (by omega)
open Classical in
def kV (vs:List Value) (key:Value->List Int):KeyKind where
 α:=List Int
 blt:=HT.lexLt
 irrefl:=lex_irrefl
 trans:=lex_trans
 negTrans:=DG
 total:=lex_total
 keyOf:=λv=>if v∈vs then some (key v)else none
 dflt:=[]
open Classical in
def TF (h:v∈vs):(kV vs key).keyOf v=some (key v):=if_pos h
open Classical in
def UN (e:(kV vs key).keyOf v=some l):v∈vs/\key v=l:=by
 have e':(if v∈vs then some (key v)else none)=some l:=e;split at e'
 ·rename_i h;cases e';exact⟨h,rfl⟩
 ·cases e'
def pE (vs:List Value):(pairsOf vs).toList=vs.map λv=>(v,v):=by
 unfold pairsOf;rw[List.zip_toArray];show vs.zip vs=_;induction vs with
 |nil=>rfl
 |cons v vs ih=>rw[aBM,aAu,ih]
section
def HI {a:Addr}{vs:List Value}{n:Nat}{f:Bool}{key:Value->List Int}{P:Fin->Shared->Prop}(ho:s.heap.get? a=some (seqObj "list" vs.toArray n))
  (ai:∀s6,YG a s s6->∀x∈vs,∀y∈vs,∀(prog:Program) (w:World) (E:C5) {Q:vO},Q (HT.lexLt (key x) (key y)) s6->wpAny (model prog w) A (keyLt' (tupK f) x y) Q E s6)
  (me:2<=vs.length->∀s6,YG a s s6->∀{Q:SortKind->Shared->Prop},Q (tupK f) s6->wpAny (model prog w) A (keyKind' vs.toArray) Q E s6) (h64:vs.length<64)
  (h:∀gr:List Value,gr.Perm vs->gr.Pairwise (λx y=>HT.lexLt (key y) (key x)=false)->P (.done (.ret .none)) {s with heap:=sortedHeap s.heap a vs gr.toArray}):
  wpAny (model prog w) A (Builtin.«list.sort» ⟨[.ref a],[]⟩) P E s:=by
 refine xB (κ:=kV vs key) (f:=f) ho (λp ze=>?_) (λs6 hb prog w E x y k l Q hx hy q=>?_) (λh2 s6 hb {Q} q=>me h2 s6 hb q) h64 λst' zv hs=>?_
 ·rw[pE]at ze;obtain⟨v,hv,rfl⟩:=aAo.mp ze;exact⟨key v,TF hv⟩
 ·obtain⟨m1,e1⟩:=UN hx;obtain⟨m2,e2⟩:=UN hy;subst e1 e2;exact ai s6 hb x m1 y m2 prog w E q
 ·have bh:(arrOf st').toList.Perm (vs.map λv=>(v,v)):=by rw[<-pE];exact aEJ.mp zv
  have same:∀p∈(arrOf st').toList,p.1=p.2/\p.2∈vs:=λp ze=>by obtain⟨v,hv,rfl⟩:=aAo.mp (bh.mem_iff.mp ze);exact⟨rfl,hv⟩
  have ea:(arrOf st').map (·.2)=((arrOf st').toList.map (·.2)).toArray:=by apply Array.ext';simp
  rw[ea];refine h _ ?_ ?_
  ·have:=bh.map (·.2);rw[aBj,show((λx:Value×Value=>x.2)∘λv=>(v,v))=id from rfl,List.map_id]at this;exact this
  ·rw[aCc];intro i j hi hj jc;have eh:i<(arrOf st').size:=by simpa using hi
   have ua:j<(arrOf st').size:=by simpa using hj
   have hsz:(arrOf st').size=(pairsOf vs).size:=zv.size_eq;have q:=hs i j (aDi jc) (by rw[<-hsz];exact ua);have kk:∀k (hk:k<(arrOf st').size),KK (kV vs key) (arrOf st') k=key (arrOf st')[k].2:=λk hk=>by unfold KK;rw[getElem?_pos _ k hk];obtain⟨e1,e2⟩:=same (arrOf st')[k] (by simp);show((kV vs key).keyOf (arrOf st')[k].1).getD _=_;rw[e1,TF e2];rfl
   rw[kk i eh,kk j ua]at q;rw[aEo,aEo,aFT,aFT];exact q
def sorted_keys {x:Value}{vs:List Value}{f:Bool}{key:Value->List Int}{Q:C5}{C:Shared->Prop}(hc:∀{Q':List Value->Shared->Prop},(∀s',C s'->Q' vs s')->wpAny (model prog w) A.in1 (collect x) Q' E s)
  (ai:∀s',C s'->∀s6,(∀b o,s'.heap.get? b=some o->s6.heap.get? b=some o)->∀x∈vs,∀y∈vs,∀(prog:Program) (w:World) (A':Around) (E:C5) (hA:A'.units<=A.units+5) {Q:vO},Q (HT.lexLt (key x) (key y)) s6->wpAny (model prog w) A' (keyLt' (tupK f) x y) Q E s6)
  (me:2<=vs.length->∀s',C s'->∀s6,(∀b o,s'.heap.get? b=some o->s6.heap.get? b=some o)->∀(A:Around) {Q:SortKind->Shared->Prop},Q (tupK f) s6->wpAny (model prog w) A (keyKind' vs.toArray) Q E s6) (h64:vs.length<64)
  (h:∀(s':Shared) (gr:List Value) (h':Heap) (l:Addr),C s'->gr.Perm vs->gr.Pairwise (λx y=>HT.lexLt (key y) (key x)=false)->(∀b o,s'.heap.get? b=some o->h'.get? b=some o)->s'.heap.objs.size<=l->(∃n,h'.get? l=some (seqObj "list" gr.toArray n))->Q (.ref l) {s' with heap:=h'}):
  wpAny (model prog w) A (call (.builtin "sorted") [x]) Q E s:=by
 refine Calls.call_function_entry kind_sorted plain_sorted entry_sorted (args_sorted1 _) ?_;unfold Builtin.«sorted»;refine aAa (m:=checkCount "sorted" 1 1 _) (aAb ?_);refine aAa (hc λs' cs=>?_);refine aAa (wpAny_newList ?_);have hoL:(s'.heap.push<|seqObj "list" vs.toArray 0).get? s'.heap.objs.size=some (seqObj "list" vs.toArray 0):=aAp _ rfl;have kp:∀s6,YG s'.heap.objs.size {s' with heap:=s'.heap.push (seqObj "list" vs.toArray 0)} s6->∀b o,s'.heap.get? b=some o->s6.heap.get? b=some o:=λs6 hb b o e=>hb b o (aAl<|aAf e) (aAc _ e);refine aAa (aAN (aBp slot_list_sort ⟨_,hoL,rfl⟩ entry_list_sort (HI (key:=key) (f:=f) hoL (λs6 hb x hx y hy prog w E {Q} q=>ai s' cs s6 (kp s6 hb) x hx y hy prog w _ E (by simp) q) (λh2 s6 hb {Q} q=>me h2 s' cs s6 (kp s6 hb) _ q) h64 λgr hp hs=>⟨_,rfl,?_⟩)<|args_list_sort _));refine aAb ⟨_,rfl,h s' gr _ _ cs hp hs (λb o e=>?_) (aAh _) (sortedHeap_at hoL)⟩;rw[sortedHeap_old (aAl<|aAf e) (by rw[aBw];exact aBx (aAf e))];exact aAc _ e
end
end TS
namespace DL
open PySem PySem.Spec L2
open PyProof.Rows hiding St
def LN:D->Bool
 |.int _=>true
 |_=>false
def bO:D->Bool
 |.tup xs=>!xs.isEmpty&&xs.all LN
 |_=>false
def intD:D->Int
 |.int i=>i
 |_=>0
def flat:D->List Int
 |.tup xs=>xs.map intD
 |_=>[]
theorem IK:∀{xs:List D},xs.all LN=true->xs=(xs.map intD).map D.int
 |[],_=>rfl
 |x::xs,h=>by
  simp only[aGd,aAM]at h;cases x with
  |int i=>show D.int i::xs=D.int i::(xs.map intD).map D.int;rw[<-IK h.2]
  |_=>cases h.1
def bA (h:bO d=true):flat d≠[]/\d=.tup ((flat d).map .int):=by
 cases d with
 |tup xs=>simp only[bO,aAM,Bool.not_eq_true',List.isEmpty_eq_false_iff]at h;refine⟨by simpa[flat]using h.1,?_⟩;show D.tup xs=D.tup ((xs.map intD).map D.int);rw[<-IK h.2]
 |_=>cases h
def xC (h:bO d=true)(h':bO e=true)(q:flat d=flat e):d=e:=by rw[(bA h).2,(bA h').2,q]
theorem qT:∀l:List Int,fV (l.map D.int)=true
 |[]=>rfl
 |i::l=>by show(true&&fV (l.map D.int))=true;rw[qT l];rfl
def S9 (h:bO d=true):pQ d=true:=by rw[(bA h).2];exact qT _
def uY (h:bO d=true):E9 d<8:=by
 rw[(bA h).2];have:∀l:List Int,G0 (l.map D.int)=0:=λl=>by
  induction l with
  |nil=>rfl
  |cons i l ih=>show max 0 (G0<|l.map D.int)=0;rw[ih];rfl
 show G0 _+1<8;rw[this];lia
def qB (d:D):List D->List D
 |[]=>[d]
 |x::xs=>if flat d=flat x then x::xs else if HT.lexLt (flat d) (flat x)=true then d::x::xs else x::qB d xs
def Z6 (ds:List D):List D:=ds.foldr qB []
def OC (ds:List D):Prop:=ds.Pairwise λx y=>HT.lexLt (flat x) (flat y)=true
theorem iF:∀{xs:List D},e∈qB d xs->e=d\/e∈xs
 |[],h=>by rcases aAd.mp h with h|h;exact .inl h;cases h
 |x::xs,h=>by
  unfold qB at h;split at h
  ·exact .inr h
  ·split at h
   ·rcases aAd.mp h with h|h
    ·exact .inl h
    ·exact .inr h
   ·rcases aAd.mp h with h|h
    ·exact .inr (by rw[h];exact .head _)
    ·rcases iF h with h|h
     ·exact .inl h
     ·exact .inr (.tail _ h)
theorem xI:∀{xs:List D},e∈xs->e∈qB d xs
 |x::xs,h=>by
  unfold qB;split
  ·exact h
  ·split
   ·exact .tail _ h
   ·rcases aAd.mp h with h|h
    ·rw[h];exact .head _
    ·exact .tail _ (xI h)
theorem xS (hd:bO d=true):∀{xs:List D},(∀x∈xs,bO x=true)->d∈qB d xs
 |[],_=>.head _
 |x::xs,h=>by
  unfold qB;split
  ·rename_i q;rw[xC hd (h x (.head _)) q];exact .head _
  ·split
   ·exact .head _
   ·exact .tail _ (xS hd λy hy=>h y (.tail _ hy))
theorem yC:∀{xs:List D},OC xs->OC (qB d xs)
 |[],_=>aDP _ _
 |x::xs,h=>by
  have h1:=aAy.mp h;unfold qB;split
  ·exact h
  ·rename_i ne;split
   ·rename_i lt;refine aAy.mpr ⟨λy hy=>?_,h⟩;rcases aAd.mp hy with rfl|hy
    ·exact lt
    ·exact TS.lex_trans _ _ _ lt (h1.1 y hy)
   ·rename_i nlt;refine aAy.mpr ⟨λy hy=>?_,yC h1.2⟩;rcases iF hy with rfl|hy
    ·cases q:HT.lexLt (flat x) (flat y)with
     |true=>rfl
     |false=>exact absurd (TS.lex_total _ _ (by simpa using nlt) q) ne
    ·exact h1.1 y hy
theorem dR:∀ds:List D,OC (Z6 ds)
 |[]=>.nil
 |_::ds=>yC (dR ds)
theorem yB:∀{ds:List D},(∀d∈ds,bO d=true)->∀d∈Z6 ds,bO d=true
 |[],_,d,h=>by cases h
 |e::ds,h,d,hd=>by
  rcases iF hd with rfl|hd
  ·exact h _ (.head _)
  ·exact yB (λd hd=>h d (.tail _ hd)) d hd
theorem M3:∀{ds:List D},(∀d∈ds,bO d=true)->∀d,d∈Z6 ds↔d∈ds
 |[],_,d=>Iff.rfl
 |e::ds,h,d=>by
  have h':∀d∈ds,bO d=true:=λd hd=>h d (.tail _ hd);constructor
  ·intro q;rcases iF q with rfl|q
   ·exact .head _
   ·exact .tail _ ((M3 h' d).mp q)
  ·intro q;rcases aAd.mp q with rfl|q
   ·exact xS (h _<|.head _) (yB h')
   ·exact xI ((M3 h' d).mpr q)
theorem oZ:∀{xs ys:List D},OC xs->OC ys->(∀d,d∈xs↔d∈ys)->xs=ys
 |[],[],_,_,_=>rfl
 |[],y::ys,_,_,h=>by have:=(h y).mpr (.head _);cases this
 |x::xs,[],_,_,h=>by have:=(h x).mp (.head _);cases this
 |x::xs,y::ys,h1,h2,h=>by
  have a1:=aAy.mp h1;have a2:=aAy.mp h2;have irr:∀d:D,HT.lexLt (flat d) (flat d)≠true:=λd q=>by rw[TS.lex_irrefl]at q;cases q
  have exy:x=y:=by
   rcases aAd.mp ((h x).mp (.head _))with q|q
   ·exact q
   ·rcases aAd.mp ((h y).mpr (.head _))with q2|q2
    ·exact q2.symm
    ·exact absurd (TS.lex_trans _ _ _ (a2.1 x q)<|a1.1 y q2) (irr y)
  subst exy;congr 1;refine oZ a1.2 a2.2 λd=>?_;constructor
  ·intro q;rcases aAd.mp ((h d).mp (.tail _ q))with z|z
   ·subst z;exact absurd (a1.1 d q) (irr d)
   ·exact z
  ·intro q;rcases aAd.mp ((h d).mpr (.tail _ q))with z|z
   ·subst z;exact absurd (a2.1 d q) (irr d)
   ·exact z
def GK (h:OC xs):xs.Nodup:=h.imp λ{x y} q z=>by subst z;rw[TS.lex_irrefl]at q;cases q
def fj:D->R (List D)
 |.lst ds=>if ds.all bO=true/\(Z6 ds).length<=63 then .ok (Z6 ds)else .bad
 |_=>.bad
section
mutual
theorem cI (I:Inv X pins σ H s):∀{v:V} {d:D} {u:Value},Rep X.K H O v d->pQ d=true->RelV v u->HV s.heap u d
 |_,_,_,.non,e,_=>by cases e
 |_,_,_,.bl,e,_=>by cases e
 |_,_,_,.str,e,_=>by cases e
 |_,_,_,.lst _ _ _,e,_=>by cases e
 |_,_,_,.dct _ _ _,e,_=>by cases e
 |_,_,_,.int,_,r=>by obtain⟨t,rfl⟩:=r;exact .int _ t
 |_,_,_,.tup h r,e,ru=>by cases ru;obtain⟨its,rv,p,_⟩:=I.tuple h;exact .tup p (DS I r e rv)
theorem DS (I:Inv X pins σ H s):∀{v:List V} {d:List D} {u:List Value},Reps X.K H O v d->fV d=true->l6 v u->HVs s.heap u d
 |_,_,_,.nil,_,.nil=>.nil
 |_,_,_,.cons r t,e,.cons ru tu=>by have e':(pQ _&&fV _)=true:=e;rw[aAM]at e';exact .cons (cI I r e'.1 ru) (DS I t e'.2 tu)
end
end
variable [Tabs]
def ZX (w:World)(o:Obj)(es:List Value):Prop:=o.ExactSet/\∃ea ep t,o.data=.set ea ep t/\t.fits ea.size=true/\t.plain=true/\t.led=!w.params.followText "set-order"/\ST.FQ t.place/\ea.toList.map (·.2)=es
abbrev y3 (K:PySem.W.Frag)(H:Hp)(O:Addr->Prop):List Value->List D->Prop:=Paired λu d=>∃v,RelV v u/\Rep K H O v d
theorem y3.of {K:PySem.W.Frag}{H:Hp}{O:Addr->Prop}:∀{vs:List V} {us:List Value} {ds:List D},l6 vs us->Reps K H O vs ds->y3 K H O us ds
 |_,_,_,.nil,.nil=>.nil
 |_,_,_,.cons r t,.cons q u=>.cons ⟨_,r,q⟩ (y3.of t u)
theorem y3.ac1 {K:PySem.W.Frag}{H:Hp}{O:Addr->Prop}:∀{us:List Value} {ds:List D},y3 K H O us ds->∃vs,l6 vs us/\Reps K H O vs ds
 |_,_,.nil=>⟨[],.nil,.nil⟩
 |_,_,.cons ⟨v,r,q⟩ t=>let⟨vs,r',q'⟩:=y3.ac1 t;⟨v::vs,.cons r r',.cons q q'⟩
def y3.same {K:PySem.W.Frag}{H H':Hp}{O:Addr->Prop}(s:Same H H'){us:List Value}{ds:List D}(h:y3 K H O us ds):y3 K H' O us ds:=cB (λ_ _ ⟨v,r,q⟩=>⟨v,r,q.same s⟩) h
theorem y3.get {K:PySem.W.Frag}{H:Hp}{O:Addr->Prop}:∀{us:List Value} {ds:List D} {u:Value},y3 K H O us ds->u∈us->∃d∈ds,∃v,RelV v u/\Rep K H O v d
 |_,_,_,.cons r t,h=>by
  rcases aAd.mp h with rfl|h
  ·exact⟨_,.head _,r⟩
  ·obtain⟨d,hd,q⟩:=y3.get t h;exact⟨d,.tail _ hd,q⟩
open Classical in
def O7 (K:PySem.W.Frag) (H:Hp) (h:Heap):Heap:=PySem.W.hideAll h ((aBt h.objs.size).filter λa=>decide (¬∃xs,U1 K H a xs))
def Y2 (K:PySem.W.Frag)(H:Hp)(h:Heap):Keeps (O7 K H h) h:=λb o e=>PySem.W.of_hideAll _ e
open Classical in
def wF {K:PySem.W.Frag}{H:Hp}{h:Heap}{b:Addr}{o:Obj}{xs:List V}(e:h.get? b=some o)(q:U1 K H b xs):(O7 K H h).get? b=some o:=PySem.W.hideAll_get _ e λhm=>by have:=(aDh.mp hm).2;exact(of_decide_eq_true this) ⟨xs,q⟩
open Classical in
def AD {K:PySem.W.Frag}{H:Hp}{h:Heap}{b:Addr}{o:Obj}(e:(O7 K H h).get? b=some o):∃xs,U1 K H b xs:=by refine Classical.byContradiction λn=>?_;have e':=Y2 K H h b o e;have:(O7 K H h).get? b=none:=PySem.W.hideAll_none _ (aDh.mpr ⟨aCr.mpr (aAf e'),decide_eq_true n⟩);rw[this]at e;cases e
section
mutual
theorem LY (I:Inv X pins σ H s):∀{v:V} {d:D} {u:Value},Rep X.K H O v d->pQ d=true->RelV v u->HV (O7 X.K H s.heap) u d
 |_,_,_,.non,e,_=>by cases e
 |_,_,_,.bl,e,_=>by cases e
 |_,_,_,.str,e,_=>by cases e
 |_,_,_,.lst _ _ _,e,_=>by cases e
 |_,_,_,.dct _ _ _,e,_=>by cases e
 |_,_,_,.int,_,r=>by obtain⟨t,rfl⟩:=r;exact .int _ t
 |_,_,_,.tup h r,e,ru=>by cases ru;obtain⟨its,rv,⟨o,g,c,n,d⟩,_⟩:=I.tuple h;exact .tup ⟨o,wF g h,c,n,d⟩ (DY I r e rv)
theorem DY (I:Inv X pins σ H s):∀{v:List V} {d:List D} {u:List Value},Reps X.K H O v d->fV d=true->l6 v u->HVs (O7 X.K H s.heap) u d
 |_,_,_,.nil,_,.nil=>.nil
 |_,_,_,.cons r t,e,.cons ru tu=>by have e':(pQ _&&fV _)=true:=e;rw[aAM]at e';exact .cons (LY I r e'.1 ru) (DY I t e'.2 tu)
end
mutual
theorem KM (I:Inv X pins σ H s):∀{u:Value} {d:D},HV (O7 X.K H s.heap) u d->∃v,RelV v u/\Rep X.K H O v d
 |_,_,.int i t=>⟨.int i,⟨t,rfl⟩,.int⟩
 |_,_,.tup (a:=a) ⟨o,g,c,n,dd⟩ r=>by obtain⟨xs,q⟩:=AD g;obtain⟨vs,r1,r2⟩:=y3.ac1 (CU I r);obtain⟨its,rv,⟨o',g',_,n',d'⟩,_⟩:=I.tuple q;rw[Y2 _ _ _ _ _ g]at g';cases g';rw[dd]at d';injection d' with d1 _;subst d1;have:vs=xs:=r1.inj (by simpa using rv);subst this;exact⟨.ref a,rfl,.tup q r2⟩
theorem CU (I:Inv X pins σ H s):∀{u:List Value} {d:List D},HVs (O7 X.K H s.heap) u d->y3 X.K H O u d
 |_,_,.nil=>.nil
 |_,_,.cons r t=>.cons (KM I r) (CU I t)
end
end
section
def YR (X:Cx)(f:Ev->R D):TE:=λσ H Q=>∃H9 O0 O ρ,EnvOk X.K H9 O0 H O σ ρ/\match f ρ with
 |.ok (.lst ds)=>(ds.all bO=true/\(Z6 ds).length<=63)/\∀S o es bf H1,Same H H1->H1 S=none->ZX X.w o es->y3 X.K H1 O es bf->bf.Nodup->(∀d,d∈bf↔d∈ds)->Q (.ref S) (upd H1 S<|.frz o (.own S))
 |.ex x=>∀H',Same H H'->XW X x H'
 |_=>False
def SB (ha:PB X e f)(hh:X.calm=true)(hu:X.A.units+300<cLine)(hg:Gl X "set":=by rfl)(hm:X.mg "set"=none:=by assumption)(hv:bootBuiltins "set"=some (.type "set"):=by decide+kernel)(he:starEach [e] X.env=(false,eval e X.env)::starEach [] X.env:=by rfl)(bh:(backTo pos (starEach [] X.env)).any (·.1)=false:=by rfl):
  PE X (.Call (.Name "set" p) [e] [] pos) (YR X f):=by
 refine xN λpins s σ H Q I H9 O0 O ρ E q=>?_;refine aAT (V5 I hg hm hv ?_ (by decide) (by decide));have nu:PA X [e] _:=S6 ha fG he;refine aAX (C1 (nu pos pins s σ H (λvs H1=>∃v ds,vs=[v]/\f ρ=.ok (.lst ds)/\Same H H1/\A2 X.K H1 O v (.lst ds)) I ⟨H9,O0,O,ρ,E,?_⟩) λus s1 ⟨vs,H1,I1,r1,v,ds,ev,ef,sm,rb⟩=>?_) he bh
 ·cases e1:f ρ with
  |ex z=>rw[e1]at q;exact q
  |bad=>rw[e1]at q;exact q.elim
  |ok d=>
   rw[e1]at q;cases d with
   |lst ds=>exactλv H1 s1 r1=>⟨v,ds,rfl,rfl,s1,r1⟩
   |_=>exact q.elim
 ·subst ev;rw[ef]at q;obtain⟨⟨hp,yi⟩,q⟩:=q;obtain⟨a,ws,rfl,hS,rr⟩:=rb.aa5;obtain⟨u,rfl,ru⟩:=vals1 r1;cases ru;obtain⟨its,rv,⟨oL,nL,gL,cL,dL,sL⟩,zL⟩:=I1.list hS;have pt:∀d∈ds,bO d=true:=aBU.mp hp;have hlen:its.toArray.size=ds.length:=by rw[aAk,<-rv.length,rr.length]
  have st:y3 X.K H1 O its ds:=y3.of rv rr;have goes:∀(i:Nat) (v:Value),its.toArray[i]?=some v->UR (O7 X.K H1 s1.heap) v (ds.getD i .non):=λi v hi=>by
   rw[aCE]at hi;obtain⟨d,hd,w,qg,rp⟩:=D3 st hi;have og:ds.getD i .non=d:=by rw[aAn,hd];rfl
   rw[og];have hpt:=pt d (aAv hd);have hv:=LY I1 rp (S9 hpt) qg;rw[(bA hpt).2]at hv⊢;cases hv with
   |tup p r=>exact⟨_,_,rfl,rfl,by have:=uY hpt;rw[(bA hpt).2]at this;exact this,.tup p r⟩
  have vd:∀i<its.toArray.size,E9 (ds.getD i .non)<8/\∃ys,ds.getD i .non=.tup ys:=λi hi=>by
   have eh:i<ds.length:=by rw[<-hlen];exact hi
   have e1:ds.getD i .non=ds[i]:=by rw[aAn,aAg eh];rfl
   rw[e1];exact⟨uY (pt _<|aBr eh),_,(bA<|pt _<|aBr eh).2⟩
  refine xU (Y2 X.K H1 s1.heap) (val:=λi=>ds.getD i .non) (U:=Z6 ds) (I1.ok.hd hh) ⟨oL,gL,cL,nL,sL⟩ goes vd (λi hi=>?_) (by lia) hu λh' tk bf ig ou kp=>?_
  ·have eh:i<ds.length:=by rw[<-hlen];exact hi
   rw[M3 pt];have e1:ds.getD i .non=ds[i]:=by rw[aAn,aAg eh];rfl
   show ds.getD i .non∈ds;rw[e1];exact aBr eh
  ·obtain⟨⟨o,es,ep,t,ho,hc,yh,hsl,hd,sok,msk,pr,led,pl⟩,nd⟩:=ig;have mem:∀d,d∈bf↔d∈ds:=λd=>by
    rw[ou];constructor
    ·rintro⟨j,hj,e1⟩;have ua:j<ds.length:=by rw[<-hlen];exact hj
     have e2:ds.getD j .non=ds[j]:=by rw[aAn,aAg ua];rfl
     rw[<-e1,e2];exact aBr ua
    ·intro hd;obtain⟨j,hj,e1⟩:=aAZ hd;refine⟨j,by rw[hlen];exact hj,?_⟩;show ds.getD j .non=d;rw[aAn,aAg hj,<-e1];rfl
   have I2:=I1.laid (a:=s1.heap.objs.size) (o:=.frz o (.own s1.heap.objs.size)) (h':=h') (t':=tk) kp (aAh _) ⟨ho,o,ho⟩;refine⟨.ref s1.heap.objs.size,_,I2,rfl,q s1.heap.objs.size o (es.toList.map (·.2)) bf H1 sm (I1.hok.fresh<|aAh _) ⟨⟨hc,yh,hsl⟩,es,ep,t,hd,?_,pl,led,sok.tab.asc,rfl⟩ ?_ nd mem⟩
   ·have h1:=sok.len;have h2:=sok.room;simp only[aGf,aAM,beq_iff_eq,decide_eq_true_eq];exact⟨by simpa using h1,by show t.place.size+t.dummies.size<=t.mask;rw[sok.tab.nod];simpa using h2⟩
   ·have:∀{es:List (Int×Value)} {ds:List D},Paired (EV<|O7 X.K H1 s1.heap) es ds->y3 X.K H1 O (es.map (·.2)) ds:=λ{es ds} p=>by
     induction p with
     |nil=>exact .nil
     |cons r _ ih=>exact .cons (KM I1 r.1) ih
    exact this pr
def SC (h:Heap) (v:Value):List Int:=open Classical in if p:∃d,bO d=true/\HV h v d then flat p.choose else[]
def sM (hp:bO d=true)(hv:HV h v d):SC h v=flat d:=by unfold SC;have q:∃d,bO d=true/\HV h v d:=⟨d,hp,hv⟩;rw[dif_pos q,HV.inj q.choose_spec.2 hv]
def aP (hp:bO d=true)(hv:HV h v d):∃b items,v=.ref b/\IsTup h b items/\IntsAre items.toList (flat d):=by
 rw[(bA hp).2]at hv;cases hv with
 |tup p r=>
  refine⟨_,_,rfl,p,?_⟩;have:∀{vs:List Value} {l:List Int},HVs h vs (l.map D.int)->IntsAre vs l:=λ{vs l} r=>by
   induction l generalizing vs with
   |nil=>cases r;exact .nil
   |cons i l ih=>
    cases r with
    |cons r t=>cases r;exact .cons _ _ (ih t)
  exact this r
def VU {prog:Program}{w:World}{A:Around}{E:C5}{s:Shared}{x y:Value}{d e:D}{f:Bool}{Q:vO}(hd:bO d=true)(he:bO e=true)(hx:HV s.heap x d)(hy:HV s.heap y e)(q:Q (HT.lexLt (flat d) (flat e)) s):wpAny (model prog w) A (keyLt' (TS.tupK f) x y) Q E s:=by obtain⟨b,its,rfl,t1,i1⟩:=aP hd hx;obtain⟨b',its',rfl,t2,i2⟩:=aP he hy;exact TS.lt_ints f t1 t2 i1 i2 q
def KR {prog:Program}{w:World}{A:Around}{E:C5}{s:Shared}{vs:List Value}{Q:SortKind->Shared->Prop}(h:∀x∈vs,∃d,bO d=true/\HV s.heap x d)(h2:2<=vs.length)(q:Q (TS.tupK true) s):wpAny (model prog w) A (keyKind' vs.toArray) Q E s:=by
 obtain⟨gf,hgf⟩:∃gf:Value->Value,∀x∈vs,∃b items k t,x=.ref b/\IsTup s.heap b items/\items[0]?=some (gf x)/\gf x=.int k t:=by
  refine⟨λx=>open Classical in if z:∃p,∃b items k t,x=.ref b/\IsTup s.heap b items/\items[0]?=some p/\p=aGt k t then z.choose else .none,λx hx=>?_⟩;obtain⟨d,hp,hv⟩:=h x hx;obtain⟨b,items,rfl,ht,hi⟩:=aP hp hv;have hn:=(bA hp).1;have z:∃p,∃b' items k t,aDx b=.ref b'/\IsTup s.heap b' items/\items[0]?=some p/\p=aGt k t:=by
   cases e:items.toList with
   |nil=>rw[e]at hi;generalize flat d=l at hi hn;cases hi;exact absurd rfl hn
   |cons p ps=>
    rw[e]at hi;generalize flat d=l at hi;cases hi with
    |cons k t h'=>exact⟨_,b,items,k,t,rfl,ht,by rw[<-aAA,e];rfl,rfl⟩
  dsimp only;rw[dif_pos z];obtain⟨b',vg,k,t,q1,q2,q3,q4⟩:=z.choose_spec;exact⟨b',vg,k,t,q1,q2,q3,q4⟩
 refine TS.kind_tuples (T:= "int") gf (λx hx=>?_) (λz=>by rw[z]at h2;simp at h2) (by decide) q;obtain⟨b,items,k,t,q1,q2,q3,q4⟩:=hgf x hx;exact⟨b,items,q1,q2,q3,by rw[q4];exact typeIs_int s k t⟩
def tM {K:PySem.W.Frag}{H:Hp}{O:Addr->Prop}{us us':List Value}{ds:List D}{key:Value->List Int}(st:y3 K H O us ds)(hp:us'.Perm us)(hs:us'.Pairwise λx y=>HT.lexLt (key y) (key x)=false)(hk:∀u d,(∃v,RelV v u/\Rep K H O v d)->d∈ds->key u=flat d)(pt:∀d∈ds,bO d=true)(nd:ds.Nodup):
  ∃bf,y3 K H O us' bf/\bf.Perm ds/\OC bf:=by
 obtain⟨bf,p',st'⟩:=cC hp st;refine⟨bf,st',p',?_⟩;have nd':bf.Nodup:=p'.nodup_iff.mpr nd;have xl:∀d∈bf,bO d=true:=λd hd=>pt d (p'.mem_iff.mp hd);have ju:∀u d,(∃v,RelV v u/\Rep K H O v d)->d∈bf->key u=flat d:=λu d h hd=>hk u d h (p'.mem_iff.mp hd);clear hp p' st nd pt hk;induction st' with
 |nil=>exact .nil
 |@cons u d us ds r t ih=>
  have h1:=aAy.mp hs;have n1:=aAJ.mp nd';refine aAy.mpr ⟨λe he=>?_,ih h1.2 n1.2 (λd hd=>xl d (.tail _ hd)) λu d h hd=>ju u d h (.tail _ hd)⟩;have:∃u'∈us,∃v,RelV v u'/\Rep K H O v e:=by
   clear ih hs h1 n1 nd' xl ju r;induction t with
   |nil=>cases he
   |cons r t ih=>
    rcases aAd.mp he with rfl|he
    ·exact⟨_,.head _,r⟩
    ·obtain⟨u',hu,q⟩:=ih he;exact⟨u',.tail _ hu,q⟩
  obtain⟨u',hu,q⟩:=this;have l:=h1.1 u' hu;rw[ju u' e q (.tail _ he),ju u d r (.head _)]at l;cases z:HT.lexLt (flat d) (flat e)with
  |true=>rfl
  |false=>have:=xC (xl _<|.head _) (xl _<|.tail _ he) (TS.lex_total _ _ z l);subst this;exact absurd he n1.1
def gQ {p p2 eu:Pos}{f:Ev->R D}(ha:PB X e f)(hh:X.calm=true)(hu:X.A.units+300<cLine)(hg:Gl X "set":=by rfl)(hm:X.mg "set"=none:=by assumption)(hg2:Gl X "sorted":=by rfl)(jv:X.mg "sorted"=none:=by assumption)
  (hv:bootBuiltins "set"=some (.type "set"):=by decide+kernel) (hv2:bootBuiltins "sorted"=some (.builtin "sorted"):=by decide+kernel)
  (he:starEach [e] X.env=(false,eval e X.env)::starEach [] X.env:=by rfl) (bh:(backTo eu (starEach [] X.env)).any (·.1)=false:=by rfl)
  (ma:starEach [.Call (.Name "set" p2) [e] [] eu] X.env=(false,eval (.Call (.Name "set" p2) [e] [] eu) X.env)::starEach [] X.env:=by rfl) (vh:(backTo pos (starEach [] X.env)).any (·.1)=false:=by rfl):
  PF X (.Call (.Name "sorted" p) [.Call (.Name "set" p2) [e] [] eu] [] pos) (λρ=>(f ρ).bind fj):=by
 refine xN λpins s σ H Q I H9 O0 O ρ E q=>?_;dsimp only at q;refine aAT (V5 I hg2 jv hv2 ?_ (by decide) (by decide));have nu:PA X [.Call (.Name "set" p2) [e] [] eu] _:=S6 (SB (p:=p2) ha hh hu hg hm hv he bh) fG ma;refine aCT (C1 (nu pos pins s σ H (λvs H2=>∃S o es bf ds H1,vs=[.ref S]/\H2=upd H1 S (.frz o (.own S))/\f ρ=.ok (.lst ds)/\(ds.all bO=true/\(Z6 ds).length<=63)/\Same H H1/\H1 S=none/\ZX X.w o es/\y3 X.K H1 O es bf/\bf.Nodup/\(∀d,d∈bf↔d∈ds)) I ⟨H9,O0,O,ρ,E,?_⟩)
  λus s1 z=>?_) ma vh
 ·cases e1:f ρ with
  |ex z=>rw[e1]at q;exact q
  |bad=>rw[e1]at q;exact q.elim
  |ok d=>
   rw[e1,R.aa0]at q;cases d with
   |lst ds=>
    simp only[fj]at q;by_cases hc:ds.all bO=true/\(Z6 ds).length<=63
    ·exact⟨hc,λS o es bf H1 sm hS so st nd mem=>⟨S,o,es,bf,ds,H1,rfl,rfl,rfl,hc,sm,hS,so,st,nd,mem⟩⟩
    ·rw[if_neg hc]at q;exact q.elim
   |_=>exact q.elim
 ·obtain⟨vs,H2,I2,r1,S,o,es,bf,ds,H1,ev,eH,ef,⟨hp,yi⟩,sm,hS1,so,st,nd,mem⟩:=z;subst ev eH;obtain⟨u,rfl,ru⟩:=vals1 r1;cases ru;rw[ef,R.aa0]at q;simp only[fj]at q;rw[if_pos ⟨hp,yi⟩]at q;have pt:∀d∈ds,bO d=true:=aBU.mp hp;have xl:∀d∈bf,bO d=true:=λd hd=>pt d ((mem d).mp hd);have s12:Same H1 (upd H1 S<|.frz o (.own S)):=j5 hS1 _;have jr:=st.same s12;obtain⟨hc,ea,ep,t,hd,hf,hpln,led,asc,ees⟩:=so;have goS:=(I2.hok S _ j3).1;have hS2:SI.IsSet s1.heap S ea ep t:=⟨o,goS,hc.1,hd⟩;have hsl:(Z6 ds).Perm bf:=by
   letI:DecidableEq D:=λa b=>aDS _
   exact(aDv (GK<|dR ds) nd).mpr λd=>by rw[M3 pt,mem]
  have hsz:ea.size=bf.length:=by have:=st.length;rw[<-ees]at this;simpa using this
  have h63':bf.length<=63:=by rw[<-hsl.length_eq];exact yi
  have wp:=SI.walkL_perm X.w S ea ep;have wpv:((SI.walkL X.w S ea ep).map (·.2)).Perm es:=by rw[<-ees];exact wp.map _
  have each:∀u∈(SI.walkL X.w S ea ep).map (·.2),∃d,d∈bf/\bO d=true/\HV s1.heap u d:=λu hu=>by obtain⟨d,hd,v,rv,rp⟩:=jr.get (wpv.mem_iff.mp hu);exact⟨d,hd,xl d hd,cI I2 rp (S9<|xl d hd) rv⟩
  refine TS.sorted_keys (vs:=(SI.walkL X.w S ea ep).map (·.2)) (f:=true) (key:=SC s1.heap) (C:=λs'=>∃h' tk,s'={s1 with heap:=h',toks:=tk}/\∀b o,s1.heap.get? b=some o->h'.get? b=some o)
   (λ{Q'} hq=>SI.collect_set (by simp[I2.ok.hd hh]) hS2 hf hpln (λnb=>by rw[led];simpa using nb) asc (by rw[hsz];exact aAs h63' (by decide)) λh' tk k=>hq _ ⟨h',tk,rfl,k⟩)
   (λs' ⟨h',tk,es',k⟩ s6 k6 x hx y hy prog w A E hA {Q} qq=>?_) (λh2 s' ⟨h',tk,es',k⟩ s6 k6 A {Q} qq=>?_) (by rw[aAm,wp.length_eq,aAW,hsz];lia) λs' gr h' l ⟨h1,tk,es',k⟩ pm srt k2 hl ⟨n,gl⟩=>?_
  ·subst es';obtain⟨d,_,pd,zu⟩:=each x hx;obtain⟨d',_,pd',hvd'⟩:=each y hy;rw[sM pd zu,sM pd' hvd']at qq;exact VU pd pd' (zu.keeps λb o e _=>k6 b o (k b o e)) (hvd'.keeps λb o e _=>k6 b o (k b o e)) qq
  ·subst es';refine KR (λx hx=>?_) h2 qq;obtain⟨d,_,pd,zu⟩:=each x hx;exact⟨d,pd,zu.keeps λb o e _=>k6 b o (k b o e)⟩
  ·subst es';obtain⟨qe,st3,p2,srt2⟩:=tM (key:=SC s1.heap) jr (pm.trans wpv) srt (λu d ⟨v,rv,rp⟩ hd=>sM (xl d hd) (cI I2 rp (S9<|xl d hd) rv)) xl nd;have e2:qe=Z6 ds:=oZ srt2 (dR ds) λd=>by rw[p2.mem_iff,mem,M3 pt]
   subst e2;obtain⟨wv,qg,rr⟩:=st3.ac1;have I2':=I2.kept (h':=h1) (t':=tk) k;have I3:=I2'.laid (a:=l) (o:=.lst wv) (h':=h') (t':=tk) k2 hl ⟨by rw[rr.length];exact aAs yi (by decide),gr,n,qg,gl⟩;exact⟨.ref l,_,I3,rfl,q wv _ l (sm.trans s12) (I2'.hok.fresh hl) rr⟩
end
end DL
namespace SZ
open PySem
abbrev Zs (h:Heap)(z TI TO:Addr)(f0 f1:Value):Prop:=h.get? z=some {cls:=.type "zip",dict:=none,data:=.fields #[f0,f1,.bool false,.ref TI,.ref TO],slots:=#[]}
def xE (f0:Value):Prop:=f0=.none\/∃a:Nat,f0=rawInt a
section
def alive {Q:Option Obj->Shared->Prop}(h:Q (s.heap.get? c) s):wpAny (model prog w) A (loadIfAlive c) Q E s:=λΓ p _=>by unfold loadIfAlive;rw[Sem.wp_loadIfAlive];simpa using h
def mH {Q:vO}(hz:Zs s.heap z TI TO f0 f1)(ho:xE f0)(q1:Q true s)(q2:∀h' f1',Zs h' z TI TO f0 f1'->Heap.SameBut z s.heap h'->Q false {s with heap:=h'}):wpAny (model prog w) A (aBJ (.ref z)) Q E s:=by
 unfold aBJ;refine aAa (aCK hz rfl (x:=f0) rfl ?_);rcases ho with rfl|⟨a,rfl⟩
 ·exact aAb q1
 ·show wpAny _ _ (loadIfAlive (aEB (a:Int))>>=_) _ _ _;refine aAa (alive ?_);by_cases hn:(s.heap.get?<|aEB (a:Int)).isNone=true
  ·rw[if_pos hn];exact aAb q1
  ·rw[if_neg hn];refine aAa (aCK hz rfl (x:=f1) rfl ?_);by_cases hb:(f1 !=aDq true)=true
   ·rw[if_pos hb];refine aAa (aBQ hz (by simp) λh' e' s'=>aAb (q2 h' (.bool true) e' s'))
   ·rw[if_neg hb];exact aAb (q2 s.heap f1 hz ⟨rfl,λ_ _=>rfl⟩)
def MS {Q:C5}(D:ZipApart z TI TO i1 i2 l1 l2)(hz:Zs s.heap z TI TO f0 f1)(ho:xE f0)(ud:IsPair s.heap TI (.ref i1) (.ref i2))(qt:IsPair s.heap TO a b)(h1:s.heap.IsListIter i1 l1 k)(h2:s.heap.IsListIter i2 l2 k)(pg:s.heap.IsList l1 xs)(lu:s.heap.IsList l2 ys)(hx:xs[k]?=some x)(hy:ys[k]?=some y)(hQ:∀h' T f0' f1' a' b',Zs h' z TI TO f0' f1'->xE f0'->IsPair h' TO a' b'->h'.IsListIter i1 l1 (k+1)->h'.IsListIter i2 l2 (k+1)->s.heap.objs.size<=T->IsPair h' T x y->
   (∀c o,c≠z->c≠TO->c≠i1->c≠i2->s.heap.get? c=some o->h'.get? c=some o)->Q (.ref T) {s with heap:=h'}):
  wpAny (model prog w) A (Builtin.«zip.__next__» ⟨[.ref z],[]⟩) (λfin s'=>∃v,fin=.done (.ret v)/\Q v s') E s:=by
 show wpAny _ _ (field (.ref z) 2>>=_) _ _ _;refine aAa (aCK hz rfl (x:=.bool false) rfl ?_);show wpAny _ _ (field (.ref z) 3>>=_) _ _ _;refine aAa (aCK hz rfl (x:=.ref TI) rfl ?_);refine aAa (aBF ud rfl ?_);show wpAny _ _ (aBJ (.ref z)>>=_) _ _ _;refine aAa (mH hz ho ?_ λh₁ f1' xm ia=>?_)
 ·simp only[if_true];refine aAa (aDr ?_);refine aAa (aCK hz rfl (x:=.ref TO) rfl ?_);refine aAa (aBQ hz (by simp) λh₁ xm ia=>?_);replace xm:Zs h₁ z TI TO .ellipsis f1:=xm;refine aAa ?_;simp only[aEn,aED,aCQ,aEb];refine aAa (aAa<|wpAny_onRaise ?_);show wpAny _ _ (aBH (.ref i1)>>=_) _ _ _;refine aAa (aDb (h1.extBut ia.extBut D.i1z) (pg.extBut ia.extBut D.l1z) hx λib h10 kh=>aAb ?_);have hTO3:IsPair ib TO a b:=kh.extBut _ _ D.TOi1 (ia.extBut _ _ D.TOz qt);refine aAa (aBF hTO3 rfl ?_);refine aAa (wpAny_updateSeq_pair hTO3 λaA hTO2 ym=>?_);replace hTO2:IsPair aA TO x b:=hTO2;refine aAa (aEa<|aAb ?_);refine aAa (aAa<|wpAny_onRaise ?_);show wpAny _ _ (aBH (.ref i2)>>=_) _ _ _;refine aAa (aDb (((h2.extBut ia.extBut D.i2z).extBut kh.extBut D.i12.symm).extBut ym.extBut D.TOi2.symm)
   (((lu.extBut ia.extBut D.l2z).extBut kh.extBut D.l2i1).extBut ym.extBut D.l2TO) hy λhV h20 vm=>aAb ?_)
  have yn:IsPair hV TO x b:=vm.extBut _ _ D.TOi2 hTO2;refine aAa (aBF yn rfl ?_);refine aAa (wpAny_updateSeq_pair yn λh9 yo hs7=>?_);replace yo:IsPair h9 TO x y:=yo;refine aAa (aEa<|aAb<|aAb ?_);refine aAa (aBF yo rfl ?_);refine aAa (aFW ?_);have hsz:h9.objs.size=s.heap.objs.size:=by rw[hs7.1,vm.1,ym.1,kh.1,ia.1]
  have hz3:Zs h9 z TI TO .ellipsis f1:=hs7.extBut _ _ D.TOz.symm (vm.extBut _ _ D.i2z.symm<|ym.extBut _ _ D.TOz.symm<|kh.extBut _ _ D.i1z.symm xm);have hk3:∀c o,c≠z->c≠TO->c≠i1->c≠i2->s.heap.get? c=some o->h9.get? c=some o:=λc o c1 c2 c3 c4 e=>hs7.extBut _ _ c2 (vm.extBut _ _ c4<|ym.extBut _ _ c2<|kh.extBut _ _ c3<|ia.extBut _ _ c1 e)
  have h11:h9.IsListIter i1 l1 (k+1):=((h10.extBut ym.extBut D.TOi1.symm).extBut vm.extBut D.i12).extBut hs7.extBut D.TOi1.symm;have h21:h9.IsListIter i2 l2 (k+1):=h20.extBut hs7.extBut D.TOi2.symm;have hzlt:z<h9.objs.size:=aAf hz3;show wpAny _ _ (aDB (.ref z) (.ref h9.objs.size)>>=_) _ _ _;refine aAa ?_;unfold aDB;have hz5:Zs (h9.push {cls:=.type "tuple",data:=.seq #[x,y]}) z TI TO .ellipsis f1:=aAc _ hz3;refine aAa (aBQ hz5 (by simp) λaC hz1 hs8=>?_);replace hz1:Zs aC z TI TO (rawInt h9.objs.size) f1:=hz1;refine aBQ hz1 (by simp) λaB hz2 hs9=>?_;replace hz2:Zs aB z TI TO (rawInt h9.objs.size) (.bool false):=hz2;have up:∀c o,c≠z->h9.get? c=some o->aB.get? c=some o:=λc o c1 e=>hs9.extBut _ _ c1 (hs8.extBut _ _ c1<|aAc _ e);have hT0:IsPair aB h9.objs.size x y:=hs9.extBut _ _ (aCD hzlt) (hs8.extBut _ _ (aCD hzlt)<|aAp _ rfl);refine aAb ⟨_,rfl,?_⟩;exact hQ aB h9.objs.size _ _ x y hz2 (.inr ⟨_,rfl⟩) (up _ _ D.TOz yo) (h11.at λo e=>up _ o D.i1z e) (h21.at λo e=>up _ o D.i2z e) (aEe hsz.symm) hT0 λc o c1 c2 c3 c4 e=>up c o c1 (hk3 c o c1 c2 c3 c4 e)
 ·simp only[aAt,if_false];refine aAa ?_;show wpAny _ _ (forIn (#[.ref i1,.ref i2]:Array Value) _ _) _ _ _;rw[<-aCk];simp only[aCQ,aEb];refine aAa (aAa<|aAN ?_);show wpAny _ _ (aBH (.ref i1)>>=_) _ _ _;refine aAa (aDb (h1.extBut ia.extBut D.i1z) (pg.extBut ia.extBut D.l1z) hx λib h10 kh=>aAb ?_);refine aAb ?_;refine aAa (aAa<|aAN ?_);show wpAny _ _ (aBH (.ref i2)>>=_) _ _ _;refine aAa (aDb ((h2.extBut ia.extBut D.i2z).extBut kh.extBut D.i12.symm) ((lu.extBut ia.extBut D.l2z).extBut kh.extBut D.l2i1) hy λhV h20 vm=>aAb ?_);refine aAb (aAb ?_);have hsz:hV.objs.size=s.heap.objs.size:=by rw[vm.1,kh.1,ia.1]
  have hz6:Zs hV z TI TO f0 f1':=vm.extBut _ _ D.i2z.symm (kh.extBut _ _ D.i1z.symm xm);have yn:IsPair hV TO a b:=vm.extBut _ _ D.TOi2 (kh.extBut _ _ D.TOi1<|ia.extBut _ _ D.TOz qt);have h12:hV.IsListIter i1 l1 (k+1):=h10.extBut vm.extBut D.i12;show wpAny _ _ (newTuple [x,y]>>=_) _ _ _;refine aAa (aFW ?_);refine aAb ⟨_,rfl,?_⟩;exact hQ _ hV.objs.size _ _ a b (aAc _ hz6) ho (aAc _ yn) (h12.at λo e=>aAc _ e) (h20.at λo e=>aAc _ e) (aEe hsz.symm) (aAp _ rfl)
   λc o c1 c2 c3 c4 e=>aAc _ (vm.extBut _ _ c4<|kh.extBut _ _ c3<|ia.extBut _ _ c1 e)
def PV {Q:Fin->Shared->Prop}(hh:A.handled=none)(D:ZipApart z TI TO i1 i2 l1 l2)(hz:Zs s.heap z TI TO f0 f1)(ho:xE f0)(ud:IsPair s.heap TI (.ref i1) (.ref i2))(qt:IsPair s.heap TO a b)
  (h1:s.heap.IsListIter i1 l1 k) (h2:s.heap.IsListIter i2 l2 k) (pg:s.heap.IsList l1 xs) (lu:s.heap.IsList l2 ys) (hx:xs[k]?=none)
  (hE:∀h' e,(∀c o,c≠z->c≠TO->c≠i1->c≠i2->s.heap.get? c=some o->h'.get? c=some o)->(∃o,h'.get? e=some o/\o.cls=.type "StopIteration")->E (.ref e) {s with heap:=h'}):
  wpAny (model prog w) A (Builtin.«zip.__next__» ⟨[.ref z],[]⟩) Q E s:=by
 show wpAny _ _ (field (.ref z) 2>>=_) _ _ _;refine aAa (aCK hz rfl (x:=.bool false) rfl ?_);show wpAny _ _ (field (.ref z) 3>>=_) _ _ _;refine aAa (aCK hz rfl (x:=.ref TI) rfl ?_);refine aAa (aBF ud rfl ?_);show wpAny _ _ (aBJ (.ref z)>>=_) _ _ _;refine aAa (mH hz ho ?_ λh₁ f1' xm ia=>?_)
 ·simp only[if_true];refine aAa (aDr ?_);refine aAa (aCK hz rfl (x:=.ref TO) rfl ?_);refine aAa (aBQ hz (by simp) λh₁ xm ia=>?_);replace xm:Zs h₁ z TI TO .ellipsis f1:=xm;refine aAa ?_;simp only[aEn,aED,aCQ,aEb];refine aAa (aAa<|wpAny_onRaise ?_);show wpAny _ _ (aBH (.ref i1)>>=_) _ _ _;refine aAa (wpAny_nextOf_list_end hh (h1.extBut ia.extBut D.i1z) (pg.extBut ia.extBut D.l1z) hx λib e kh he=>?_);obtain⟨oe,hoe,hce⟩:=he;have hz4:Zs ib z TI TO .ellipsis f1:=kh _ _ D.i1z.symm xm;have hez:e≠z:=λx=>by subst x;rw[hz4]at hoe;cases hoe;simp at hce
  exact aBQ hz4 (by simp) λaA _ ym=>hE aA e (λc o c1 _ c3 _ x=>ym.extBut _ _ c1 (kh _ _ c3<|ia.extBut _ _ c1 x)) ⟨oe,ym.extBut _ _ hez hoe,hce⟩
 ·simp only[aAt,if_false];refine aAa ?_;show wpAny _ _ (forIn (#[.ref i1,.ref i2]:Array Value) _ _) _ _ _;rw[<-aCk];simp only[aCQ,aEb];refine aAa (aAa<|aAN ?_);show wpAny _ _ (aBH (.ref i1)>>=_) _ _ _;exact aAa (wpAny_nextOf_list_end hh (h1.extBut ia.extBut D.i1z) (pg.extBut ia.extBut D.l1z) hx λib e kh he=>hE ib e (λc o c1 _ c3 _ x=>kh _ _ c3 (ia.extBut _ _ c1 x)) he)
end
def NS (z TI TO i1 i2 l1 l2:Addr)(xs ys:Array Value)(i:Nat)(h:Heap):Prop:=
 (∃f0 f1,Zs h z TI TO f0 f1/\xE f0)/\IsPair h TI (.ref i1) (.ref i2)/\(∃a b,IsPair h TO a b)/\h.IsListIter i1 l1 i/\h.IsListIter i2 l2 i/\h.IsList l1 xs/\h.IsList l2 ys
section
variable{s:Shared}
def NS.type (h:NS z TI TO i1 i2 l1 l2 xs ys i s.heap):s.TypeIs (.ref z) "zip":=by obtain⟨⟨f0,f1,hz,_⟩,_⟩:=h;exact⟨_,hz,rfl⟩
def NS.keeps (x:NS z TI TO i1 i2 l1 l2 xs ys i h)(k:∀b o,b∈[z,TI,TO,i1,i2,l1,l2]->h.get? b=some o->h'.get? b=some o):NS z TI TO i1 i2 l1 l2 xs ys i h':=by obtain⟨⟨f0,f1,hz,ho⟩,ud,⟨a,b,qt⟩,h1,h2,pg,lu⟩:=x;exact⟨⟨f0,f1,k z _ (by simp) hz,ho⟩,k TI _ (by simp) ud,⟨a,b,k TO _ (by simp) qt⟩,h1.at λo e=>k i1 o (by simp) e,h2.at λo e=>k i2 o (by simp) e,pg.at λo e=>k l1 o (by simp) e,lu.at λo e=>k l2 o (by simp) e⟩
def MT {Q:Option Value->Shared->Prop}(D:ZipApart z TI TO i1 i2 l1 l2)(hl:xs.size=ys.size)(st:NS z TI TO i1 i2 l1 l2 xs ys i s.heap)(hi:i<xs.size)(hQ:∀h' T x y,xs[i]?=some x->ys[i]?=some y->NS z TI TO i1 i2 l1 l2 xs ys (i+1) h'->s.heap.objs.size<=T->IsPair h' T x y->(∀c o,c∉[z,TO,i1,i2]->s.heap.get? c=some o->h'.get? c=some o)->Q (some (.ref T)) {s with heap:=h'}):
  wpAny (model prog w) A (pyNext (.ref z)) Q E s:=by
 have hT:=st.type;obtain⟨⟨f0,f1,hz,ho⟩,ud,⟨a,b,qt⟩,h1,h2,pg,lu⟩:=st;have hx:xs[i]?=some xs[i]:=aAH hi;have hy:ys[i]?=some (ys[i]'(by lia)):=aAH (by lia);unfold pyNext;refine aAa (aEt (aCp (name:=aDj "__next__") hT aDT
  (aBp aDT hT F.entry_zip_next (MS D hz ho ud qt h1 h2 pg lu hx hy λh' T f0' f1' a' b' e1 e2 e3 e4 e5 e6 e7 kp=>aAb ?_)<|F.args_zip_next_1 _)))
 refine hQ h' T _ _ hx hy ⟨⟨f0',f1',e1,e2⟩,kp _ _ D.TIz D.TITO D.TIi1 D.TIi2 ud,⟨a',b',e3⟩,e4,e5,pg.at λo e=>kp _ o D.l1z D.l1TO D.l1i1 D.l1i2 e,lu.at λo e=>kp _ o D.l2z D.l2TO D.l2i1 D.l2i2 e⟩ e6 e7 λc o hc e=>?_;simp only[aAd,aAz,or_false,not_or]at hc;exact kp c o hc.1 hc.2.1 hc.2.2.1 hc.2.2.2 e
def KW {Q:Option Value->Shared->Prop}(hh:A.handled=none)(D:ZipApart z TI TO i1 i2 l1 l2)(st:NS z TI TO i1 i2 l1 l2 xs ys xs.size s.heap)
  (hQ:∀h',(∀c o,c∉[z,TO,i1,i2]->s.heap.get? c=some o->h'.get? c=some o)->Q none {s with heap:=h'}):wpAny (model prog w) A (pyNext (.ref z)) Q E s:=by
 have hT:=st.type;obtain⟨⟨f0,f1,hz,ho⟩,ud,⟨a,b,qt⟩,h1,h2,pg,lu⟩:=st;unfold pyNext;refine aAa (aEt (aCp (name:=aDj "__next__") hT aDT
  (aBp aDT hT F.entry_zip_next (PV (by simpa using hh) D hz ho ud qt h1 h2 pg lu (aCA<|aAh _) λh' e kp he=>?_)<|F.args_zip_next_1 _)))
 obtain⟨o,xr,hc⟩:=he;refine aAa (aDE (T:= "StopIteration") (b:=true) ⟨o,xr,hc⟩ isSubtype_stop ?_);refine aAb (hQ _ λc o hc e=>?_);simp only[aAd,aAz,or_false,not_or]at hc;exact kp c o hc.1 hc.2.1 hc.2.2.1 hc.2.2.2 e
def Pairs (h0:Heap)(xs ys acc:Array Value)(i:Nat)(h:Heap)(off:List Addr):Prop:=acc.size=i/\∀(j:Nat) (v:Value),acc[j]?=some v->∃T x y,v=.ref T/\xs[j]?=some x/\ys[j]?=some y/\IsPair h T x y/\T∉off/\h0.get? T=none
def LJ (hh:A.handled=none)(D:ZipApart z TI TO i1 i2 l1 l2)(hl:xs.size=ys.size)(hn:xs.size<=sizeLine)(S:Addr)(oa:S∉[z,TI,TO,i1,i2,l1,l2])(res:Value)(h0:Heap):
  ∀(k i:Nat) (s:Shared) (acc:Array Value) (c:Nat),xs.size-i=k->i<=xs.size->(∀b o,b∉[z,TO,i1,i2,S]->h0.get? b=some o->s.heap.get? b=some o)->NS z TI TO i1 i2 l1 l2 xs ys i s.heap->s.heap.get? S=some {cls:=.type "list",dict:=none,data:=.seq acc c,slots:=#[]}->Pairs h0 xs ys acc i s.heap [z,TO,i1,i2,S]->
  (∀h' jb c',(∀b o,b∉[z,TO,i1,i2,S]->s.heap.get? b=some o->h'.get? b=some o)->h'.get? S=some {cls:=.type "list",dict:=none,data:=.seq jb c',slots:=#[]}->Pairs h0 xs ys jb xs.size h' [z,TO,i1,i2,S]->R (.ok (.ret res)) {s with heap:=h'})->
  codeAny (model prog w) A (.builtin "list.extend.loop" ⟨[.ref S,.ref z,res],[]⟩) R s:=by
 have hS4:S∉[z,TO,i1,i2]:=λh=>oa (by simp only[aAd,aAz,or_false]at h⊢;rcases h with h|h|h|h<;>simp[h]);have to5:∀b,b∉[z,TO,i1,i2,S]->b∉[z,TO,i1,i2]:=λb h q=>h (by simp only[aAd,aAz,or_false]at q⊢;rcases q with q|q|q|q<;>simp[q]);intro k;induction k with
 |zero=>
  intro i s acc c hk hi h0k ja hS de hR;have lh:i=xs.size:=by lia
  subst lh;refine aBG F.entry_extend_loop ?_;rw[aBk aCX _];show wpAny _ A.in1 (pyNext (.ref z)>>=_) _ _ s;refine aAa (KW (by simpa using hh) D ja λh' kp=>?_);refine aAb (hR h' acc c (λb o hb e=>kp b o (to5 b hb) e) (kp S _ hS4 hS) ⟨de.1,λj v hv=>?_⟩);obtain⟨T,x,y,e1,e2,e3,e4,e5,e6⟩:=de.2 j v hv;exact⟨T,x,y,e1,e2,e3,kp T _ (to5 T e5) e4,e5,e6⟩
 |succ k ih=>
  intro i s acc c hk hi h0k ja hS de hR;have ai:i<xs.size:=by lia
  refine aBG F.entry_extend_loop ?_;rw[aBk aCX _];show wpAny _ A.in1 (pyNext (.ref z)>>=_) _ _ s;refine aAa (MT D hl ja ai λh' T x y hx hy kg hT hP kp=>?_);have ig:=kp S _ hS4 hS;have Tne:∀b o,s.heap.get? b=some o->T≠b:=λb o e q=>absurd (aAr (aAf e) hT) (by rw[q];exact aBc _);obtain⟨⟨f0,f1,hz,_⟩,_,⟨a,b,qt⟩,⟨o1,g1,_⟩,⟨o2,g2,_⟩,_⟩:=id ja;have hTo:T∉[z,TO,i1,i2,S]:=by simp only[aAd,aAz,or_false,not_or];exact⟨Tne _ _ hz,Tne _ _ qt,Tne _ _ g1,Tne _ _ g2,Tne _ _ hS⟩
  show wpAny _ A.in1 (updateSeq S (·.push (.ref T))>>=_) _ _ _;refine aAa ?_;have uc:∀b o,b≠S->h'.get? b=some o->(h'.update S (aBv (·.push (.ref T)))).get? b=some o:=λb o hb e=>(aAB _ _<|aBV hb).trans e;have neS:∀b,b∈[z,TI,TO,i1,i2,l1,l2]->b≠S:=λb hb q=>oa (q▸hb);refine aBS ig rfl (aAb ⟨aBP aCX _,ih (i+1) _ (acc.push<|.ref T) _ (by lia) ai (λb o hb e=>uc b o (λq=>hb (by simp[q])) (kp b o (to5 b hb)<|h0k b o hb e)) (kg.keeps λb o hb e=>uc b o (neS b hb) e) (aBe _ ig rfl) ⟨by rw[Array.size_push,de.1],λj v hv=>?_⟩ λh'' jb c' kp' vf hacc'=>?_⟩)
   (by rw[de.1];lia) (by show(acc.push<|.ref T).size<=sizeLine+1;rw[Array.size_push,de.1];lia)
  ·rw[Array.getElem?_push]at hv;split at hv
   ·rename_i q;cases hv;rw[de.1]at q;subst q;refine⟨T,x,y,rfl,hx,hy,uc T _ (Tne _ _ hS) hP,hTo,?_⟩;cases q0:h0.get? T with
    |none=>rfl
    |some o=>exact absurd rfl (Tne T o<|h0k T o hTo q0)
   ·obtain⟨T',x',y',e1,e2,e3,e4,e5,e6⟩:=de.2 j v hv;have n5:T'≠S:=λq=>e5 (by simp[q]);exact⟨T',x',y',e1,e2,e3,uc T' _ n5 (kp T' _ (to5 T' e5) e4),e5,e6⟩
  ·refine hR h'' jb c' (λb o hb e=>kp' b o hb (uc b o (λq=>hb (by simp[q]))<|kp b o (to5 b hb) e)) vf hacc'
end
section
def cQ {Q:C5}(St:Heap->Prop)(hT:∀s1:Shared,St s1.heap->s1.TypeIs (.ref I) T)(fr:∀h h',St h->(∀b o,b≠s.heap.objs.size->h.get? b=some o->h'.get? b=some o)->St h')(hIS:I≠s.heap.objs.size)
  (n1:(aCi T==aCi "list")=false) (n2:(aCi T==aCi "tuple")=false) (n3:∀{M:Model} {A:Around} {E:C5} {s:Shared} {Q:Fin->Shared->Prop} {a b:Sem Fin},(room=true->wpAny M A a Q E s)->(room=false->wpAny M A b Q E s)->wpAny M A (if(room||["set", "frozenset", "dict", "dict_keys", "dict_values", "dict_items"].any (aCi T==aCi ·))=true then a else b) Q E s)
  (self:∀(s1:Shared) (Q:C5) (E:C5),St s1.heap->Q (.ref I) s1->wpAny (model prog w) A.in1.in1 (pyIter (.ref I)) Q E s1)
  (hint:∀(s1:Shared) (Q:vO) (E:C5),St s1.heap->Q room s1->wpAny (model prog w) A.in1.in1 (aCw (.ref I)) Q E s1) (ja:St s.heap)
  (loop:∀(h1:Heap) (c:Nat) (R:Result->Shared->Prop),(∀b o,s.heap.get? b=some o->h1.get? b=some o)->St h1->h1.get? s.heap.objs.size=some {cls:=.type "list",dict:=none,data:=.seq #[] c,slots:=#[]}->(∀s',Q (.ref s.heap.objs.size) s'->R (.ok (.ret .none)) s')->
   codeAny (model prog w) A.in1 (.builtin "list.extend.loop" ⟨[.ref s.heap.objs.size,.ref I,.none],[]⟩) R {s with heap:=h1}):
  wpAny (model prog w) A (call (.type "list") [.ref I]) Q E s:=by
 refine callType_codes (Q₁:=λobj aa=>obj=.ref s.heap.objs.size/\aa={s with heap:=s.heap.push {cls:=.type "list",data:=.seq #[]}}) F.called_list (F.typeCall_list_1 _) F.entry_list_init
  (code_list_new _ ⟨rfl,rfl⟩) λobj aa h₁=>?_
 obtain⟨rfl,rfl⟩:=h₁;have hS:(s.heap.push {cls:=.type "list",data:=.seq #[]}).get? s.heap.objs.size=some {cls:=.type "list",data:=.seq #[]}:=aAp _ rfl;have ks:∀b o,s.heap.get? b=some o->b≠s.heap.objs.size:=λb o e=>aAl (aAf e);refine⟨⟨_,hS,rfl⟩,F.args_list_init_2 _ _,?_⟩;show wpAny _ A.in1.in1 (do let old<-aCB (.ref s.heap.objs.size);Builtin.List.listUpdate (.ref s.heap.objs.size) (λ_=>#[]);letGo old.toList.reverse;aBR (.ref s.heap.objs.size) (.ref I) .none) _ _ _;refine aAa ?_;unfold aCB;refine aAa (aBF hS rfl<|aAb ?_);show wpAny _ A.in1.in1 (updateSeq s.heap.objs.size (λ_=>#[])>>=λ_=>letGo (#[]:Array Value).toList.reverse>>=λ_=>aBR (.ref s.heap.objs.size) (.ref I) .none) _ _ _;refine aAa (aBS hS rfl ?_);have hS3:=aBe (aBv<|λ_=>(#[]:Array Value)) hS rfl;refine aAa (aEa ?_);generalize hh2:(s.heap.push {cls:=.type "list",data:=.seq #[]}).update s.heap.objs.size (aBv<|λ_=>(#[]:Array Value))=h2 at*
 have k2:∀b o,s.heap.get? b=some o->h2.get? b=some o:=λb o e=>by rw[<-hh2];exact(aAB _ _<|aBV<|ks b o e).trans (aAc _ e)
 have jr:St h2:=fr s.heap h2 ja λb o _ e=>k2 b o e;have hSI:aCS (.ref s.heap.objs.size) (.ref I)=false:=by simp[aCS,aBV hIS]
 have hT2:Shared.TypeIs {s with heap:=h2} (.ref I) T:=hT {s with heap:=h2} jr;unfold aBR;refine aAa (aDI hT2 ?_);simp only[hSI,n1,n2,Bool.or_false,aAt,if_false];refine aAa (self _ _ _ jr ?_);refine aAa (aAN<|hint _ _ _ jr ?_);refine n3 (λ_=>?_) (λ_=>?_)
 ·show wpAny _ A.in1.in1 (rule "list.extend.makes-room">>=λ_=>aFD (.ref s.heap.objs.size)>>=λ_=>again (.builtin "list.extend.loop" ⟨[.ref s.heap.objs.size,.ref I,.none],[]⟩)) _ _ _;refine aAa (aDr ?_);refine aAa ?_;show wpAny _ A.in1.in1 (updateSeq s.heap.objs.size (·.push .none)>>=λ_=>updateSeq s.heap.objs.size (·.pop)) _ _ _;refine aAa (aBS hS3 rfl ?_);have hS5:=aBe (aBv (·.push Value.none)) hS3 rfl;refine aBS (hz:=by seq_fits) hS5 rfl ?_;have hS6:=aBe (aBv (·.pop)) hS5 rfl;have uc:∀b o,b≠s.heap.objs.size->h2.get? b=some o->((h2.update s.heap.objs.size (aBv (·.push Value.none))).update s.heap.objs.size (aBv (·.pop))).get? b=some o:=
   λb o hb e=>(aAB _ _<|aBV hb).trans ((aAB _ _<|aBV hb).trans e)
  exact aAb ⟨aBP aCX _,loop _ _ _ (λb o e=>uc b o (ks b o e) (k2 b o e)) (fr h2 _ jr uc) hS6 λs' q=>⟨rfl,q⟩⟩
 ·exact aAb ⟨aBP aCX _,loop _ _ _ k2 jr hS3 λs' q=>⟨rfl,q⟩⟩
def FY:typeLookup (.type "zip") "__len__"=pure none:=by rw[aDo,aCg];kernel_rfl
def BG:typeLookup (.type "zip") "__length_hint__"=pure none:=by rw[aDo,aCg];kernel_rfl
def MD {Q:C5}(hh:A.handled=none)(D:ZipApart z TI TO i1 i2 l1 l2)(hl:xs.size=ys.size)(hn:xs.size<=sizeLine)(st:NS z TI TO i1 i2 l1 l2 xs ys 0 s.heap)(hQ:∀h' acc c,(∀b o,b∉[z,TO,i1,i2]->s.heap.get? b=some o->h'.get? b=some o)->h'.get? s.heap.objs.size=some {cls:=.type "list",dict:=none,data:=.seq acc c,slots:=#[]}->Pairs s.heap xs ys acc xs.size h' [z,TO,i1,i2,s.heap.objs.size]->Q (.ref s.heap.objs.size) {s with heap:=h'}):
  wpAny (model prog w) A (call (.type "list") [.ref z]) Q E s:=by
 have lt:∀b∈[z,TI,TO,i1,i2,l1,l2],b≠s.heap.objs.size:=λb hb=>by
  obtain⟨⟨f0,f1,hz,_⟩,ud,⟨a,b',qt⟩,⟨o1,g1,_⟩,⟨o2,g2,_⟩,⟨o3,g3,_⟩,⟨o4,g4,_⟩⟩:=st;simp only[aAd,aAz,or_false]at hb;rcases hb with rfl|rfl|rfl|rfl|rfl|rfl|rfl
  ·exact aAl (aAf hz)
  ·exact aAl (aAf ud)
  ·exact aAl (aAf qt)
  ·exact aAl (aAf g1)
  ·exact aAl (aAf g2)
  ·exact aAl (aAf g3)
  ·exact aAl (aAf g4)
 refine cQ (T:= "zip") (room:=true) (NS z TI TO i1 i2 l1 l2 xs ys 0) (λs1 h=>h.type) (λh h' x k=>x.keeps λb o hb e=>k b o (lt b hb) e) (lt z (by simp)) (by decide) (by decide) (λh1 h2=>by rw[if_pos (by decide)];exact h1 rfl)
  (λs1 Q E x q=>?_) (λs1 Q E x q=>?_) st λh1 c R k1 mR hS hR=>?_
 ·obtain⟨⟨f0,f1,hz,_⟩,_⟩:=id x;refine aFm x.type F.slot_zip_iter (aBp F.slot_zip_iter x.type F.entry_zip_iter ?_ (F.args_zip_iter_1 _));show wpAny _ _ (ret<|.ref z) _ _ s1;exact aAb ⟨_,rfl, "zip",_,x.type,aDT.lookup,q⟩
 ·unfold aCw;refine aAa (aBq x.type FY ?_);show wpAny _ _ (specialOf (aDx z) (aDj "__length_hint__")>>=_) _ _ _;exact aAa (aBq x.type BG<|aAb q)
 ·refine LJ (by simpa using hh) D hl hn s.heap.objs.size (λh=>lt _ h rfl) .none s.heap xs.size 0 _ #[] c (by lia) (aAY _) (λb o _ e=>k1 b o e) mR hS ⟨rfl,λj v h=>by simp at h⟩ λh' jb c' kp ig hP=>hR _ (hQ h' jb c' (λb o hb e=>kp b o ?_ (k1 b o e)) ig hP);have:=aAl (aAf e);simp only[aAd,aAz,or_false,not_or]at hb⊢;exact⟨hb.1,hb.2.1,hb.2.2.1,hb.2.2.2,this⟩
def HU:typeLookup (.type "list_reverseiterator") "__len__"=pure none:=by rw[aDo,aCg];kernel_rfl
def IZ:typeLookup (.type "list_reverseiterator") "__length_hint__"=pure (some (.builtin "list_reverseiterator.__length_hint__")):=by rw[aDo,aCg];kernel_rfl
def LB {Q:C5}(hh:A.handled=none)(ae:l≠r)(hn:xs.size<=sizeLine)(hr:s.heap.IsRevIter r l ((xs.size:Int)-1))(hl:s.heap.IsList l xs)(hQ:∀h' tk c,(∀b o,b≠r->s.heap.get? b=some o->h'.get? b=some o)->h'.get? s.heap.objs.size=some {cls:=.type "list",dict:=none,data:=.seq xs.reverse c,slots:=#[]}->Q (.ref s.heap.objs.size) {s with heap:=h',toks:=tk}):
  wpAny (model prog w) A (call (.type "list") [.ref r]) Q E s:=by
 have lr:r≠s.heap.objs.size:=by obtain⟨o,g,_⟩:=hr;exact aAl (aAf g)
 have ll:l≠s.heap.objs.size:=by obtain⟨o,g,_⟩:=hl;exact aAl (aAf g)
 refine cQ (T:= "list_reverseiterator") (room:=false) (λh=>h.IsRevIter r l ((xs.size:Int)-1)/\h.IsList l xs) (λs1 h=>h.1.typeIs) (λh h' x k=>⟨x.1.at λo e=>k r o lr e,x.2.at λo e=>k l o ll e⟩) lr (by decide) (by decide)
  (λh1 h2=>by rw[if_neg (by decide)];exact h2 rfl) (λs1 Q E x q=>wpAny_pyIter_revIter x.1 q) (λs1 Q E x q=>?_) ⟨hr,hl⟩ λh1 c R k1 mR hS hR=>?_
 ·have hT:=x.1.typeIs;unfold aCw;refine aAa (aBq hT HU ?_);show wpAny _ _ (specialOf (aDx r) (aDj "__length_hint__")>>=_) _ _ _;refine aAa (aBq hT IZ ?_)
  (generalize hid:("list_reverseiterator.__length_hint__":String)=id0;(fail_if_success (clear hid id0));wp_delta;rw[show splitId id0=some ("list_reverseiterator", "__length_hint__")from by subst hid;decide+kernel];subst hid)
  refine aAa (aDE (b:=true) hT (by rw[aEZ];kernel_rfl) ?_);exact aAb q
 ·have W:=(Walks.listRev (prog:=prog) (w:=w) (A:=A.in1.in1) (by simp[hh]) r l ae xs).toS;refine codeAny_extend_loopS W hn s.heap.objs.size (by simp only[aAd,aAz,or_false,not_or];exact⟨aBV lr,aBV ll⟩) .none xs.size 0 _ #[] c (by lia) (aAY _) ⟨aAY _,by simpa using mR.1,mR.2⟩ hS (ItemsOf.nil _) λs' jb c' hm ig de=>hR _ ?_;have ea:jb=xs.reverse:=by
   apply Array.ext';apply aDZ;intro i;rw[aAA,aAA];by_cases hi:i<xs.size
   ·have yg:i<jb.size:=by rw[de.1];exact hi
    have:=de.2 i _ (aAH yg);rw[aAH yg,Array.getElem?_reverse hi,this]
   ·rw[aCA (by rw[de.1];lia),aCA (by simp;lia)]
  subst ea;have g0:s'.gens=s.gens:=hm.gens;have d0:s'.drawn=s.drawn:=hm.drawn;have o0:s'.os=s.os:=hm.os;obtain⟨h',g',d',xh,os'⟩:=s';subst g0 d0 o0;refine hQ h' xh c' (λb o hb e=>?_) ig;exact hm.heap b o (by simp only[aAd,aAz,or_false,not_or];exact⟨aAl (aAf e),hb⟩) (k1 b o e)
end
end SZ
namespace DL
open PySem PySem.Spec L2
open PyProof.Rows hiding St
variable [Tabs]
def _root_.L2.ObjOk.live (x:ObjOk P w H h a o):h.get? a≠none:=by
 intro z;have key:∀{u:Obj},h.get? a=some u->False:=λq=>by rw[z]at q;cases q
 cases o with
 |lst xs=>obtain⟨_,_,_,_,e⟩:=x;exact key e
 |tup xs=>obtain⟨_,_,_,o,e,_⟩:=x;exact key e
 |dK kvs=>obtain⟨_,_,_,_,o,_,_,e,_⟩:=x;exact key e
 |dT kvs=>obtain⟨_,_,_,_,o,_,_,e,_⟩:=x;exact key e
 |set S n=>obtain⟨o,_,_,_,e,_⟩:=x;exact key e
 |ins C dx fs=>obtain⟨_,_,_,e,_⟩:=x;exact key e
 |own y=>obtain⟨_,e⟩:=x;exact key e
 |xd fs=>obtain⟨_,⟨_,_,_,e,_⟩,_⟩:=x;exact key e
 |rng lo hi=>obtain⟨_,_,_,e⟩:=x;exact key e
 |frz ob u=>obtain⟨e,_⟩:=x;exact key e
 |tbl tb=>obtain⟨_,e,_⟩:=x;exact key e
 |met f y=>exact key (show h.get? a=some _ from x)
 |ext φ=>obtain⟨_,⟨_,e⟩,_⟩:=x;exact key e
section
end
end DL
namespace DL
open PySem PySem.Spec L2
open PyProof.Rows hiding St
variable [Tabs]
section
def ZU:D->R (List D)
 |.lst xs=>.ok xs.reverse
 |_=>.bad
def AE (ha:PB X e f)(hh:X.calm=true)(hg:Gl X "reversed":=by rfl)(hm:X.mg "reversed"=none:=by assumption)(hg2:Gl X "list":=by rfl)(jv:X.mg "list"=none:=by assumption)(hv:bootBuiltins "reversed"=some (.type "reversed"):=by decide+kernel)(hv2:bootBuiltins "list"=some (.type "list"):=by decide+kernel)(he:starEach [e] X.env=(false,eval e X.env)::starEach [] X.env:=by rfl)(bh:(backTo eu (starEach [] X.env)).any (·.1)=false:=by rfl)(ma:starEach [.Call (.Name "reversed" p2) [e] [] eu] X.env=(false,eval (.Call (.Name "reversed" p2) [e] [] eu) X.env)::starEach [] X.env:=by rfl)(vh:(backTo pos (starEach [] X.env)).any (·.1)=false:=by rfl)(hnl:backTo pos (starEach [] X.env)=[]:=by rfl):
  PF X (.Call (.Name "list" p) [.Call (.Name "reversed" p2) [e] [] eu] [] pos) (λρ=>(f ρ).bind ZU):=by
 refine xN λpins s σ H Q I H9 O0 O ρ E q=>?_;dsimp only at q;refine aAT (V5 I hg2 jv hv2 ?_ (by decide) (by decide));refine aAX ?_ ma vh;rw[ma];show wpAny _ _ (spliced ((false,eval (.Call (.Name "reversed" p2) [e] [] eu) X.env)::backTo pos (starEach [] X.env))) _ _ s;refine aEO (aAT (V5 I hg hm hv ?_ (by decide) (by decide)));have nu:PA X [e] _:=S6 ha fG he;refine aAX (C1 (nu eu pins s σ H (λvs H1=>∃v ds,vs=[v]/\f ρ=.ok (.lst ds)/\Same H H1/\A2 X.K H1 O v (.lst ds)) I ⟨H9,O0,O,ρ,E,?_⟩) λus s1 ⟨vs,H1,I1,r1,v,ds,ev,ef,sm,rb⟩=>?_) he bh
 ·cases e1:f ρ with
  |ex z=>rw[e1]at q;exact q
  |bad=>rw[e1]at q;exact q.elim
  |ok d=>
   rw[e1,R.aa0]at q;cases d with
   |lst ds=>exactλv H1 s1 r1=>⟨v,ds,rfl,rfl,s1,r1⟩
   |_=>exact aAi q
 ·subst ev;rw[ef,R.aa0]at q;obtain⟨a,ws,rfl,hS,rr⟩:=rb.aa5;obtain⟨u,rfl,ru⟩:=vals1 r1;cases ru;obtain⟨its,rv,⟨oL,nL,gL,cL,dL,sL⟩,zL⟩:=I1.list hS;have hl:s1.heap.IsList a its.toArray:=⟨oL,gL,cL,nL,sL⟩;refine call_reversed_list hl ?_;rw[hnl];refine aFf ?_;have ge:a≠s1.heap.objs.size:=aAl (aAf gL);have I2:=I1.kept (h':=s1.heap.push (revObj a<|(its.toArray.size:Int)-1)) (t':=s1.toks) λb u e=>aAc _ e;refine SZ.LB (s:={s1 with heap:=s1.heap.push (revObj a<|(its.toArray.size:Int)-1)}) (I1.ok.hd hh) ge (by rw[aAk,<-rv.length];exact zL) ⟨_,aAp _ rfl,rfl,rfl⟩ (hl.push _) λh' tk c kp gl=>?_;have kk:∀b u,s1.heap.get? b=some u->h'.get? b=some u:=λb u e=>kp b u (aAl<|aAf e) (aAc _ e);have hle:s1.heap.objs.size<=(s1.heap.push<|revObj a<|(its.toArray.size:Int)-1).objs.size:=by rw[aBw];lia
  have vrev:l6 ws.reverse its.reverse:=by
   have:∀{vs:List V} {us:List Value},l6 vs us->l6 vs.reverse us.reverse:=λ{vs us} r=>by
    induction r with
    |nil=>exact .nil
    |cons r t ih=>rw[aAK,aAK];exact ih.append (.cons r .nil)
   exact this rv
  have I3:=I1.laid (a:=(s1.heap.push<|revObj a<|(its.toArray.size:Int)-1).objs.size) (o:=.lst ws.reverse) (h':=h') (t':=tk) kk hle ⟨by rw[aCa];exact zL,its.reverse,c,vrev,by rw[gl];simp⟩;exact⟨.ref _,_,I3,rfl,q ws.reverse H1 _ sm (I1.hok.fresh hle) rr.reverse⟩
def _root_.L2.Inv.ad5 (I:Inv X pins σ H s)(k:∀b u,s.heap.get? b=some u->h'.get? b=some u)(sm:Same H Hn)(lb:∀b u,H b=none->Hn b=some u->s.heap.get? b=none/\ObjOk X.prog X.w Hn h' b u):
  Inv X pins σ Hn {s with heap:=h',toks:=t'}:=by
 refine I.un ⟨λb o e _ _ _=>k b o e,λb o e _ _ _=>⟨o.slots,k b o e⟩,λb o e n _=>?_,λb o e _=>⟨o,k b o e⟩,λb xs e=>sm _ _ e,λb o u e=>sm _ _ e,λb tb e=>sm _ _ e⟩ λb u e=>?_
 ·cases q:Hn b with
  |none=>rfl
  |some u=>rw[(lb b u n q).1]at e;cases e
 ·cases q:H b with
  |none=>exact(lb b u q e).2
  |some u'=>have:=sm b u' q;rw[e]at this;cases this;exact(I.hok b u q).ab7 (λc v _ z=>k c v z) (λc z=>sm _ _ z) λc u _ z=>sm _ _ z
def kP (xs ys:List D):List D:=List.zipWith (λa b=>D.tup [a,b]) xs ys
def QM:List D->R (List D)
 |[.lst xs,.lst ys]=>if xs.length=ys.length then .ok (kP xs ys)else .bad
 |_=>.bad
def EX {K:PySem.W.Frag}{H1:Hp}{O:Addr->Prop}{h0 h':Heap}{l:Addr}(hf:∀b,h0.get? b=none->H1 b=none):∀{xs ys:List D} {ux uy acc:List Value},y3 K H1 O ux xs->y3 K H1 O uy ys->xs.length=ys.length->
  (∀(j:Nat) (v:Value),acc[j]?=some v->∃T x y,v=.ref T/\ux[j]?=some x/\uy[j]?=some y/\IsPair h' T x y/\T≠l/\h0.get? T=none)->acc.length=xs.length->
  ∃(vs:List V) (Hn:Hp),l6 vs acc/\Same H1 Hn/\(∀b u,H1 b=none->Hn b=some u->h0.get? b=none/\b≠l/\∃ws its,u=.tup ws/\ws.length<=2/\l6 ws its/\IsTup h' b its.toArray)/\Reps K Hn O vs (kP xs ys):=by
 intro xs ys ux uy acc;induction acc generalizing xs ys ux uy with
 |nil=>
  intro sx sy hl _ hz;cases xs with
  |nil=>cases ys with
   |nil=>exact⟨[],H1,.nil,Same.refl _,λb u n q=>(by rw[n]at q;cases q),.nil⟩
   |cons _ _=>cases hl
  |cons _ _=>cases hz
 |cons v acc ih=>
  intro sx sy hl hP hz;cases sx with
  |nil=>cases hz
  |@cons u d ux xs rx sx=>
   cases sy with
   |nil=>cases hl
   |@cons u' d' uy ys ry sy=>
    obtain⟨T,x,y,rfl,ex,ey,hp,nl,h0T⟩:=hP 0 v rfl;cases ex;cases ey;obtain⟨vs,Hn,r1,sm,lb,rr⟩:=ih sx sy (by simpa using hl) (λj v hj=>by obtain⟨T,x,y,e1,e2,e3,e4⟩:=hP (j+1) v (by simpa using hj);exact⟨T,x,y,e1,by simpa using e2,by simpa using e3,e4⟩) (by simpa using hz)
    obtain⟨vx,rvx,repx⟩:=rx;obtain⟨vy,rvy,repy⟩:=ry;have v2:l6 [vx,vy] [u,u']:=.cons rvx (.cons rvy .nil);cases q:Hn T with
    |none=>
     have s2:Same Hn (upd Hn T<|.tup [vx,vy]):=j5 q _;refine⟨.ref T::vs,upd Hn T (.tup [vx,vy]),.cons rfl r1,sm.trans s2,λb w n qb=>?_,.cons (.tup (U1.of j3) (.cons ((repx.same sm).same s2) (.cons ((repy.same sm).same s2) .nil))) (rr.same s2)⟩;by_cases hb:b=T
     ·subst hb;rw[j3]at qb;cases qb;exact⟨h0T,nl,_,_,rfl,by simp,v2,⟨_,hp,rfl,0,rfl⟩⟩
     ·rw[j8 hb]at qb;exact lb b w n qb
    |some w=>
     obtain⟨_,_,ws,its,rfl,_,vw,⟨o,g,_,n,dd⟩⟩:=lb T w (hf T h0T) q;have ze:h'.get? T=some {cls:=.type "tuple",data:=.seq #[u,u']}:=hp;rw[ze]at g;cases g;have e2:its=[u,u']:=by have:=congrArg (λd=>match d with|Data.seq a _=>a.toList|_=>[]) dd;simpa using this.symm
     subst e2;have:ws=[vx,vy]:=vw.inj v2;subst this;exact⟨.ref T::vs,Hn,.cons rfl r1,sm,lb,.cons (.tup (U1.of q) (.cons (repx.same sm) (.cons (repy.same sm) .nil))) rr⟩
def BE {e1 e2:Expr}{p p2 eu:Pos}{f1 f2:Ev->R D}(ha1:PB X e1 f1)(ha2:PB X e2 f2)(hh:X.calm=true)(hg:Gl X "zip":=by rfl)(hm:X.mg "zip"=none:=by assumption)(hg2:Gl X "list":=by rfl)(jv:X.mg "list"=none:=by assumption)
  (hv:bootBuiltins "zip"=some (.type "zip"):=by decide+kernel) (hv2:bootBuiltins "list"=some (.type "list"):=by decide+kernel)
  (he1:starEach [e2] X.env=(false,eval e2 X.env)::starEach [] X.env:=by rfl) (he:starEach [e1,e2] X.env=(false,eval e1 X.env)::starEach [e2] X.env:=by rfl) (bh:(backTo eu (starEach [e2] X.env)).any (·.1)=false:=by rfl)
  (ma:starEach [.Call (.Name "zip" p2) [e1,e2] [] eu] X.env=(false,eval (.Call (.Name "zip" p2) [e1,e2] [] eu) X.env)::starEach [] X.env:=by rfl) (vh:(backTo pos (starEach [] X.env)).any (·.1)=false:=by rfl) (hnl:backTo pos (starEach [] X.env)=[]:=by rfl):
  PF X (.Call (.Name "list" p) [.Call (.Name "zip" p2) [e1,e2] [] eu] [] pos) (λρ=>(o8 f1 (o8 f2 Q5) ρ).bind QM):=by
 refine xN λpins s σ H Q I H9 O0 O ρ E q=>?_;dsimp only at q;refine aAT (V5 I hg2 jv hv2 ?_ (by decide) (by decide));refine aAX ?_ ma vh;rw[ma];show wpAny _ _ (spliced ((false,eval (.Call (.Name "zip" p2) [e1,e2] [] eu) X.env)::backTo pos (starEach [] X.env))) _ _ s;refine aEO (aAT (V5 I hg hm hv ?_ (by decide) (by decide)));have nu:VG X [e1,e2] (o8 f1<|o8 f2 Q5):=l8 ha1 (l8 ha2 v6 he1) he;refine aAX (C1 (nu eu pins s σ H (λvs H1=>∃v1 v2 xs ys,vs=[v1,v2]/\o8 f1 (o8 f2 Q5) ρ=.ok [.lst xs,.lst ys]/\xs.length=ys.length/\Same H H1/\A2 X.K H1 O v1 (.lst xs)/\A2 X.K H1 O v2 (.lst ys)) I ⟨H9,O0,O,ρ,E,?_⟩) λus s1 ⟨vs,H1,I1,r1,v1,v2,xs,ys,ev,ef,hxy,sm,rb1,rb2⟩=>?_) he bh
 ·cases e1:o8 f1 (o8 f2 Q5) ρ with
  |ex z=>rw[e1]at q;exact q
  |bad=>rw[e1]at q;exact q.elim
  |ok ds=>
   rw[e1,R.aa0]at q;match ds,q with
   |[.lst xs,.lst ys],q=>
    simp only[QM]at q;by_cases hc:xs.length=ys.length
    ·intro vs H1 s1 r1;cases r1 with
     |cons ra r1=>cases r1 with
      |cons rb r1=>cases r1 with
       |nil=>exact⟨_,_,xs,ys,rfl,rfl,hc,s1,ra,rb⟩
    ·rw[if_neg hc]at q;exact aAi q
 ·subst ev;rw[ef,R.aa0]at q;simp only[QM]at q;rw[if_pos hxy]at q;obtain⟨a,wx,rfl,hSx,rx⟩:=rb1.aa5;obtain⟨b,wy,rfl,hSy,ry⟩:=rb2.aa5;obtain⟨u1,u2,rfl,ru1,ru2⟩:=vals2 r1;cases ru1;cases ru2;obtain⟨itx,rvx,⟨oX,nX,gX,cX,dX,sX⟩,zX⟩:=I1.list hSx;obtain⟨ity,rvy,⟨oY,nY,gY,cY,dY,sY⟩,zY⟩:=I1.list hSy;have hlx:s1.heap.IsList a itx.toArray:=⟨oX,gX,cX,nX,sX⟩;have hly:s1.heap.IsList b ity.toArray:=⟨oY,gY,cY,nY,sY⟩;refine call_zip_2 hlx hly λh1 z1 z2 z3 z4 z5 zsz k1=>?_;rw[hnl];refine aFf ?_;have lx:itx.length=xs.length:=by rw[<-rvx.length,rx.length]
  have ly:ity.length=ys.length:=by rw[<-rvy.length,ry.length]
  have I2:=I1.kept (h':=h1) (t':=s1.toks) k1;have D:=zipApart_new (n:=s1.heap.objs.size) (aAf gX) (aAf gY);refine SZ.MD (s:={s1 with heap:=h1}) (I1.ok.hd hh) D (by rw[aAk,aAk,lx,ly,hxy]) (by rw[aAk,<-rvx.length];exact zX) ⟨⟨_,_,z1,.inl rfl⟩,z2,⟨_,_,z3⟩,z4,z5,hlx.at λo e=>k1 _ o e,hly.at λo e=>k1 _ o e⟩ λh' acc c kp gl hP=>?_;have k12:∀b u,s1.heap.get? b=some u->h'.get? b=some u:=λb u e=>kp b u (by have hb:=aAf e;simp only[aAd,aAz,or_false,not_or];exact⟨aAl (aAr hb<|aFy _ _),aAl (aAr hb<|aFy _ _),aAl hb,aAl (aAr hb<|aFy _ _)⟩) (k1 b u e)
  have sx:y3 X.K H1 O itx xs:=y3.of rvx rx;have sy:y3 X.K H1 O ity ys:=y3.of rvy ry;obtain⟨vs,Hn,rva,smn,lb,rr⟩:=EX (h0:=h1) (h':=h') (l:=h1.objs.size) (λb hb=>by
   cases q:H1 b with
   |none=>rfl
   |some u=>exact absurd hb ((I2.hok b u q).live)) (acc:=acc.toList) sx sy hxy (λj v hj=>by
   obtain⟨T,x,y,e1,e2,e3,e4,e5,e6⟩:=hP.2 j v (by rw[<-aAA];exact hj);exact⟨T,x,y,e1,by simpa using e2,by simpa using e3,e4,λz=>e5 (by simp[z]),e6⟩) (by rw[aAW,hP.1,aAk,lx])
  have hls:Hn h1.objs.size=none:=by
   cases q:Hn h1.objs.size with
   |none=>rfl
   |some u=>have:=(lb _ u (I2.hok.fresh<|aAh _) q).2.1;exact absurd rfl this
  have hlen:vs.length<=sizeLine:=by rw[rva.length,aAW,hP.1,aAk,<-rvx.length];exact zX
  have s3:Same Hn (upd Hn h1.objs.size<|.lst vs):=j5 hls _;have I3:=I1.ad5 (Hn:=upd Hn h1.objs.size (.lst vs)) (h':=h') (t':=s1.toks) k12 (smn.trans s3) (λb u n qb=>by
   by_cases hb:b=h1.objs.size
   ·subst hb;rw[j3]at qb;cases qb;refine⟨aEp (by rw[zsz];lia),hlen,acc.toList,c,rva,by rw[gl]⟩
   ·rw[j8 hb]at qb;obtain⟨h0b,_,ws,its,rfl,l2,vw,tt⟩:=lb b u n qb;refine⟨?_,aAs l2 (by decide),its,vw,tt⟩;cases z:s1.heap.get? b with
    |none=>rfl
    |some o=>rw[k1 b o z]at h0b;cases h0b)
  exact⟨.ref _,_,I3,rfl,q vs Hn _ (sm.trans smn) hls rr⟩
end
mutual
def jK:D->Nat
 |.tup xs=>G8 xs+1
 |_=>1
def G8:List D->Nat
 |[]=>0
 |x::xs=>jK x+G8 xs
end
theorem bY:∀xs ys:List D,G8 (xs++ys)=G8 xs+G8 ys
 |[],ys=>by simp[G8]
 |x::xs,ys=>by rw[aAV,G8,G8,bY xs ys];lia
section
variable{prog:Program} {w:World}
def tx (prog:Program)(w:World)(h:Heap)(v:Value)(d:D):Prop:=∀(A:Around) (E:C5) (s:Shared) (Q:Int->Shared->Prop),s.heap=h->A.units+8*E9 d<cLine->Q (n8 d) {s with toks:=s.toks+jK d}->wpAny (model prog w) A (pyHash v) Q E s
mutual
theorem NL:∀{v:Value} {d:D},HV h v d->tx prog w h v d
 |_,_,.int i t=>λA E s Q hs hu q=>(intKind prog w).pyHash (k:=i) (intKind_is _ _ _ _) q
 |_,_,.tup (a:=a) (items:=items) (ds:=ds) p r=>λA E s Q hs hu q=>by
  have fs:=DT r;subst hs;obtain⟨o,ho,hc,n,hd⟩:=p;have hT:s.TypeIs (.ref a) "tuple":=⟨o,ho,hc⟩;have zl:A.units<cLine:=by lia
  rw[E9]at hu;unfold pyHash;first|unfold pyHashByItsType|skip
  first|refine aAa (wpAny_cRoomFor_or (.inr zl) ?_)|skip
  refine aAa (aBq hT PySem.F.slot_tuple_hash.lookup ?_);show wpAny _ _ (if(some (aGe "tuple.__hash__")==some Value.none)=true then _ else _) Q E s;rw[if_neg (by rw[aFw];exact aAQ)];refine aAa (aBq hT PySem.F.slot_tuple_hash.lookup ?_);show wpAny _ _ (callSpecialIfBoundUnlessNone? (.ref a) "__hash__" _>>=_) Q E s;refine aAa (aDg hT PySem.F.slot_tuple_hash<|aBp PySem.F.slot_tuple_hash hT PySem.F.entry_tuple_hash ?_ (PySem.F.args_tuple_hash_1 _));show wpAny _ _ (aDt (.ref a)>>=_) _ _ s;refine aAa (wpAny_tupleItemsOf ho hd ?_);refine aAa ?_;rw[<-aCk];refine aCl _
   (λrest (b:Array Int) s'=>∃done left,ds=done++left/\Paired (tx prog w s.heap) rest left/\b.toList=done.map n8/\s'={s with toks:=s.toks+G8 done})
   _ ?_ ?_ _ _ ⟨[],ds,rfl,fs,rfl,rfl⟩
  ·rintro x rest b s' ⟨done,left,e1,hl,hb,rfl⟩;cases hl with
   |@cons _ d _ left' h1 gu=>
    refine aAa (h1 _ _ _ _ rfl ?_ ?_)
    ·have:E9 d<=G0 ds:=by rw[e1];exact tW (j:=done.length) (by simp)
     rw[u7];lia
    have e3:s.toks+G8 done+jK d=s.toks+G8 (done++[d]):=by rw[bY];simp[G8];lia
    first
     |exact aAb ⟨done++[d],left',by simp[e1],gu,by simp[hb],by rw[<-e3]⟩
     |exact aAa (aAb (aAb ⟨done++[d],left',by simp[e1],gu,by simp[hb],by rw[<-e3]⟩))
  ·rintro b s' ⟨done,left,e1,hl,hb,rfl⟩;cases hl;rw[aCv]at e1;subst e1;show wpAny _ _ (retInt<|aAL b.toList) _ _ _;rw[hb];refine wpAny_ret_mkInt ?_;show wpAny _ _ (if(decide (-(2:Int)^63<=aAL (ds.map n8))&&decide (aAL (ds.map n8)<2^63))=true then _ else _) Q E _;have q':=q;rw[n8,gE,jK]at q';unfold reduceHash at q';by_cases hr:(decide (-(2:Int)^63<=aAL (ds.map n8))&&decide (aAL (ds.map n8)<2^63))=true
   ·rw[if_pos hr];rw[if_pos hr]at q';exact aAb q'
   ·rw[if_neg hr];rw[if_neg hr]at q';exact aAa (aDr<|aAb q')
theorem DT:∀{v:List Value} {d:List D},HVs h v d->Paired (tx prog w h) v d
 |_,_,.nil=>.nil
 |_,_,.cons r t=>.cons (NL r) (DT t)
end
end
theorem mI:∀{n:Nat} {d:D},R3 n d=true->pQ d=true/\E9 d<=n
 |n,.int i,_=>⟨rfl,by simp[E9]⟩
 |0,.tup xs,h=>by simp[R3]at h
 |n+1,.tup xs,h=>by
  have h':xs.all (R3 n)=true:=by simpa[R3]using h
  have key:∀ys:List D,ys.all (R3 n)=true->fV ys=true/\G0 ys<=n:=λys=>by
   induction ys with
   |nil=>intro _;exact⟨rfl,aAY _⟩
   |cons y ys ih=>intro hy;simp only[aGd,aAM]at hy;obtain⟨a1,a2⟩:=mI hy.1;obtain⟨b1,b2⟩:=ih hy.2;exact⟨by show(pQ y&&fV ys)=true;rw[a1,b1];rfl,by show max (E9 y) (G0 ys)<=n;lia⟩
  obtain⟨c1,c2⟩:=key xs h';exact⟨c1,by show G0 xs+1<=n+1;lia⟩
 |n,.non,h=>by cases n<;>simp[R3]at h
 |n,.dct,h=>by cases n<;>simp[R3]at h
 |n,.bl b,h=>by cases n<;>simp[R3]at h
 |n,.str x,h=>by cases n<;>simp[R3]at h
 |n,.lst xs,h=>by cases n<;>simp[R3]at h
mutual
theorem HV.ab9 (k:∀b o,h.get? b=some o->(∃its n,o.data=.seq its n)->h'.get? b=some o):∀{v:Value} {d:D},HV h v d->HV h' v d
 |_,_,.int i t=>.int i t
 |_,_,.tup p r=>.tup (by obtain⟨o,e,c,n,d⟩:=p;exact⟨o,k _ _ e ⟨_,n,d⟩,c,n,d⟩) (HVs.ab9 k r)
theorem HVs.ab9 (k:∀b o,h.get? b=some o->(∃its n,o.data=.seq its n)->h'.get? b=some o):∀{v:List Value} {d:List D},HVs h v d->HVs h' v d
 |_,_,.nil=>.nil
 |_,_,.cons r t=>.cons (HV.ab9 k r) (HVs.ab9 k t)
end
instance decD:DecidableEq D:=λa b=>aDS _
def rF (prog:Program) (w:World):HeapKind prog w D where
 is:=λh d a=>HV h (.ref a) d/\E9 d<8
 hash:=n8
 draws:=jK
 room:=λA=>A.units+128<cLine
 inj:=λx y=>HV.inj x.1 y.1
 keeps:=λ{h h' k a d o es ep} x ho hd hs=>⟨x.1.ab9 λb ob e ⟨its,n,q⟩=>(hs.2 b (λz=>by subst z;rw[ho]at e;cases e;rw[hd]at q;cases q)).trans e,x.2⟩
 pyHash:=λ{A E s k a Q} hu hk q=>NL hk.1 A E s Q rfl (by have:=hk.2;lia) q
 eqBool:=λ{A E s x y a b Q} hu hx hy q=>by
  have h1:=DK (A:=A) hx.1 hy.1 (by have:=hx.2;lia);refine h1 prog w E Q ?_;have e:v5 x y=decide (x=y):=by
   by_cases h:x=y
   ·subst h;rw[Y7,decide_eq_true rfl]
   ·rw[decide_eq_false h];cases z:v5 x y with
    |false=>rfl
    |true=>exact absurd (iK hx.1.ok hy.1.ok z) h
  rw[e];exact q
 quiet:=λ{A E s k a Q} hk q=>iQ 8 hk.1 hk.2 _ A E s Q rfl q
open Classical in
def eI (kvs:List (D×D)) (k v:D):List (D×D):=if k∈kvs.map (·.1)then kvs.map (λp=>if p.1=k then(p.1,v)else p)else kvs++[(k,v)]
def GO (kvs:List (D×D))(k v:D)(h:(kvs.map (·.1)).Nodup):((eI kvs k v).map (·.1)).Nodup:=by
 unfold eI;split
 ·rw[aBj];have:((λx=>x.1)∘λp:D×D=>if p.1=k then(p.1,v)else p)=λp=>p.1:=by funext p;simp only[aGg];split<;>rfl
  rw[this];exact h
 ·rename_i n;rw[aCh,aCR];refine⟨h,by simp,λa ha b hb=>?_⟩;simp at hb;subst hb;exactλe=>n (e▸ha)
section
theorem CQ (I:Inv X pins σ H s):∀{es:List DictEntry} {kvs:List (D×D)},oP X.K H O es kvs->∃xs:List (D×Addr×Value),es=xs.map (entryOfKey (rF X.prog X.w))/\xs.map (·.1)=kvs.map (·.1)/\(∀x∈xs,(rF X.prog X.w).is s.heap x.1 x.2.1)/\
  Paired (λ(x:D×Addr×Value) (p:D×D)=>x.1=p.1/\Rep X.K H O (.ref x.2.1) p.1/\(∃v,RelV v x.2.2/\Rep X.K H O v p.2)/\R3 7 p.1=true) xs kvs
 |_,_,.nil=>⟨[],rfl,rfl,λx h=>(by cases h),.nil⟩
 |e::_,p::_,.cons ⟨⟨a,e1,r1⟩,r2,e3,k⟩ t=>by
  obtain⟨xs,h1,h2,h3,h4⟩:=CQ I t;obtain⟨ok,dp⟩:=mI k;refine⟨(p.1,a,e.val)::xs,?_,by rw[aAu,aAu,h2],λx hx=>?_,.cons ⟨rfl,r1,r2,k⟩ h4⟩
  ·rw[aAu,<-h1];congr 1;obtain⟨hsh,ky,vl⟩:=e;simp only at e1 e3;subst e1 e3;rfl
  ·rcases aAd.mp hx with rfl|hx
   ·exact⟨cI I r1 ok rfl,by show E9 p.1<8;lia⟩
   ·exact h3 x hx
theorem CC {P:Program}{w:World}{K:PySem.W.Frag}{H:Hp}{O:Addr->Prop}:∀{xs:List (D×Addr×Value)} {kvs:List (D×D)},Paired (λ(x:D×Addr×Value) (p:D×D)=>x.1=p.1/\Rep K H O (.ref x.2.1) p.1/\(∃v,RelV v x.2.2/\Rep K H O v p.2)/\R3 7 p.1=true) xs kvs->oP K H O (xs.map (entryOfKey (rF P w))) kvs
 |_,_,.nil=>.nil
 |_,_,.cons ⟨e,r1,r2,k⟩ t=>.cons ⟨⟨_,rfl,r1⟩,r2,by rw[<-e];rfl,k⟩ (CC t)
def aL {xs:List (D×Addr×Value)}{k:D}:(atKey xs k).isSome=true↔k∈xs.map (·.1):=by unfold atKey;rw[Option.isSome_map,List.find?_isSome];simp only[decide_eq_true_eq,aAo]
def CL (I:Inv X pins σ H s)(h:H a=some (.ext λh=>h.get? a=some o))(d:IU a o es)(r:oP X.K H O es kvs)(nd:(kvs.map (·.1)).Nodup):
  ∃xs,s.heap.DictOfH (rF X.prog X.w) a xs/\xs.map (·.1)=kvs.map (·.1)/\Paired (λ(x:D×Addr×Value) (p:D×D)=>x.1=p.1/\Rep X.K H O (.ref x.2.1) p.1/\(∃v,RelV v x.2.2/\Rep X.K H O v p.2)/\R3 7 p.1=true) xs kvs:=by
 obtain⟨xs,h1,h2,h3,h4⟩:=CQ I r;obtain⟨_,ex,ea,ep,hd,he⟩:=d;have g:s.heap.get? a=some o:=(I.hok a _ h).1;exact⟨xs,⟨o,ea,ep,g,ex,hd,by rw[he,h1],h3,by rw[h2];exact nd⟩,h2,h4⟩
def FJ {K:PySem.W.Frag}{xs:List (D×Addr×Value)}{kvs:List (D×D)}{k d:D}{b:Addr}{u:Value}{v:V}(hp:Paired (λ(x:D×Addr×Value) (p:D×D)=>x.1=p.1/\Rep K H O (.ref x.2.1) p.1/\(∃v,RelV v x.2.2/\Rep K H O v p.2)/\R3 7 p.1=true) xs kvs)(hk:xs.map (·.1)=kvs.map (·.1))
  (rk:Rep K H O (.ref b) k) (kk:R3 7 k=true) (ru:RelV v u) (rv:Rep K H O v d):
  Paired (λ(x:D×Addr×Value) (p:D×D)=>x.1=p.1/\Rep K H O (.ref x.2.1) p.1/\(∃v,RelV v x.2.2/\Rep K H O v p.2)/\R3 7 p.1=true) (storedH xs k b u) (eI kvs k d):=by
 unfold storedH eI;by_cases h:k∈kvs.map (·.1)
 ·rw[if_pos h,if_pos (aL.mpr (by rw[hk];exact h))];clear hk h;induction hp with
  |nil=>exact .nil
  |@cons x p xs kvs r t ih=>
   rw[aAu,aAu];refine .cons ?_ ih;unfold putAt;by_cases e:p.1=k
   ·rw[if_pos (r.1.trans e),if_pos e];exact⟨r.1,r.2.1,⟨v,ru,rv⟩,r.2.2.2⟩
   ·rw[if_neg (λz=>e (r.1.symm.trans z)),if_neg e];exact r
 ·rw[if_neg h,if_neg (λz=>h (by rw[<-hk];exact aL.mp z))];clear hk h;induction hp with
  |nil=>exact .cons ⟨rfl,rk,⟨v,ru,rv⟩,kk⟩ .nil
  |cons r t ih=>exact .cons r ih
end
section
variable{K:Type} [DecidableEq K] {knd:HeapKind prog w K}
def pU {Q:vO}(hu:knd.room A.in1)(hkey:knd.is s.heap k a)(hd:(d==sysModules)=false)(hm:s.heap.DictOfH knd d xs)
  (h:Q (atKey xs k).isSome {s with toks:=s.toks+knd.draws k}):wpAny (model prog w) A (contains (.ref d) (.ref a)) Q E s:=by
 unfold contains;try with_reducible refine aAN ?_
 refine aAa (aBq hm.typeIs aEX.lookup ?_);show wpAny _ _ (if(some (aGe "dict.__contains__")==some Value.none)=true then _ else _) _ E s;rw[if_neg (by rw[aFw];exact aAQ)];refine aAa (wpAny_callSpecialUnlessNone?_slot (name:=aDj "__contains__") hm.typeIs aEX
  (aBp aEX hm.typeIs entry_dict_contains ?_ (args_dict_contains _ _)))
 show wpAny _ _ (dictGet d (.ref a)>>=_) _ _ s;refine aAa (wpAny_dictGet_heap hu hkey hm ?_);cases hf:atKey xs k with
 |some p=>rw[hf]at h;show wpAny _ _ (ret<|.bool true) _ _ _;exact aAb ⟨_,rfl,aBA h⟩
 |none=>rw[hf]at h;show wpAny _ _ (Builtin.Dict.pendingKey? d (.ref a)>>=_) _ _ _;exact aAa (wpAny_pendingKey_other hd<|aAb ⟨_,rfl,aBA h⟩)
end
def GM:D->Bool
 |.tup _=>true
 |_=>false
open Classical in
def pI (i:Nat) (ρ:Ev) (k:D):R Bool:=match ρ[i]? with
 |some (.d kvs)=>if R3 7 k=true/\GM k=true then .ok (!decide (k∈kvs.map (·.1)))else .bad
 |_=>.bad
section
def oD {K:PySem.W.Frag}{H:Hp}{O:Addr->Prop}{v:V}{k:D}(r:Rep K H O v k)(h:GM k=true):∃a,v=.ref a:=by
 cases r with
 |tup h r=>exact⟨_,rfl⟩
 |_=>cases h
def GU (i:Nat){x:Str}{p:Pos}{f:Ev->R D}(ha:PD X e f)(hu:X.A.units+130<cLine)(hN:X.N[i]?=some x:=by rfl)(hv:AR X.env.scope x:=by first|exact aCM rfl|exact aBN (aCM rfl)|exact aBN (aBN rfl))
  (hd:(x==("__debug__":Str))=false:=by decide) (fb:(x==("__classdict__":Str))=false:=by decide) (hm:behindInMarks .NotIn (.Name x p)=false:=by first|rfl|with_unfolding_all rfl):
  DB X (.Compare e [.NotIn] [.Name x p] pos) (λρ=>(f ρ).bind (pI i ρ)):=by
 refine xN λpins s σ H Q I H9 O0 O ρ E q=>?_;dsimp only at q;refine wpAny_isTrue_Compare1 (JI (ta:=tD X f) (tb:=ZW i) ha (Q6 hN hv hd fb) (R:=λy x H2=>∃a b o es kvs k,x=.ref a/\y=.ref b/\H2 a=some (.ext λh=>h.get? a=some o)/\IU a o es/\oP X.K H2 O es kvs/\(kvs.map (·.1)).Nodup/\Rep X.K H2 O (.ref b) k/\R3 7 k=true/\Q (!(open Classical in decide (k∈kvs.map (·.1)))) H2) I ⟨H9,O0,O,ρ,E,?_⟩ λu w s2 y x H2 I2 ry rx h=>?_) hm
 ·cases e1:f ρ with
  |ex z=>rw[e1]at q;exact q
  |bad=>rw[e1]at q;exact q.elim
  |ok k=>
   rw[e1,R.aa0]at q;intro v H1 sm r;unfold pI at q;cases e2:ρ[i]? with
   |none=>rw[e2]at q;exact aAi q
   |some sl=>
    rw[e2]at q;cases sl with
    |d kvs=>
     dsimp only at q;by_cases hk:R3 7 k=true/\GM k=true
     ·rw[if_pos hk]at q;obtain⟨a,o,es,h1,_,_,h4,h5,h6,h7⟩:=(E.grow sm).slot i _ e2;obtain⟨b,rfl⟩:=oD r hk.2;exact⟨_,h1,a,b,o,es,kvs,k,rfl,rfl,h4,h5,h6,h7,r,hk.1,q H1 sm⟩
     ·rw[if_neg hk]at q;exact aAi q
    |_=>exact aAi q
 ·obtain⟨a,b,o,es,kvs,k,rfl,rfl,h4,h5,h6,h7,rk,hk,qq⟩:=h;cases ry;cases rx;obtain⟨xs,hD,qh,hp⟩:=CL I2 h4 h5 h6 h7;obtain⟨ok,dp⟩:=mI hk;show wpAny _ _ (contains (.ref a) (.ref b)>>=λc=>pure (aDq (!c))) _ _ s2;refine aAa (pU (knd:=rF X.prog X.w) (by show X.A.in1.units+128<cLine;rw[u7];lia) ⟨cI I2 rk ok rfl,by lia⟩ h5.1 hD (aAb ?_));refine aBA ⟨H2,I2.tok _,?_⟩;have e3:(atKey xs k).isSome=(open Classical in decide (k∈kvs.map (·.1))):=by
   by_cases lh:k∈kvs.map (·.1)
   ·rw[decide_eq_true lh];exact aL.mpr (by rw[qh];exact lh)
   ·rw[decide_eq_false lh];cases z:(atKey xs k).isSome with
    |false=>rfl
    |true=>exact absurd (by rw[<-qh];exact aL.mp z) lh
  rw[e3];exact qq
def JG (i:Nat)(hN:X.N.Nodup)(hi:X.N[i]?=some x:=by rfl)(hx:Loc X.env.scope x:=by first|exact aCM rfl|exact aBN rfl)(hs:swapsWith (.Dict [] [] dpos) (some (.Name x pos')) pos.line X.env=pure false:=by rfl)(hf:X.fn x=true\/X.env.scope.names.lookup x=some .local:=by first|exact .inl rfl|exact .inr rfl|assumption):mS X (.Assign [.Name x pos'] (.Dict [] [] dpos) pos) (λρ=>.ok (.nx (ρ.set i (.d [])))):=by
 intro H9 O0 pins s σ H D I ⟨O,ρ,E,fk,q⟩;refine aFe (wpAny_Dict_empty ?_) hs;have gn:(s.heap.push {cls:=.type "dict",data:=.dict #[]}).get? s.heap.objs.size=some {cls:=.type "dict",data:=.dict #[]}:=aAp _ rfl;have hn:=I.hok.fresh (aAh s.heap.objs.size);have I1:=I.laid (a:=s.heap.objs.size) (o:=.ext λh=>h.get? s.heap.objs.size=some {cls:=.type "dict",data:=.dict #[]}) (h':=s.heap.push {cls:=.type "dict",data:=.dict #[]}) (t':=s.toks) (λ_ _ q=>aAc _ q) (aAh _)
  ⟨gn,⟨_,gn⟩,λh1 h2 e k=>k _ e⟩
 have hk:=LV I1 (j3 (H:=H) (a:=s.heap.objs.size));have big:sysModules<s.heap.objs.size:=aGo (by decide) (I.mod.glob.keeps I.bk).lt;refine P9 I1 hN hi hx (show RelV (.ref s.heap.objs.size) _ from rfl) (λs3 I3=>⟨_,_,I3,?_⟩) hf;have E2:=E.ad8 (u:=.ext λh=>h.get? s.heap.objs.size=some {cls:=.type "dict",data:=.dict #[]}) (sl:=.d []) i hn hk trivial λh0=>⟨s.heap.objs.size,_,[],rfl,.inr rfl,h0,j3,⟨by simp[aCD big],⟨rfl,rfl,rfl⟩,#[],0,rfl,rfl⟩,.nil,aCL⟩;exact q _ _ _ E2 (nR I1 _ E2.trk) λb o hb n=>⟨by rw[j8 (q9 hb hn)];exact hb,λz=>z.elim n (q9 hb hn)⟩
def vq (X:Cx):PU:=λx y v H Q=>∃O a b o es kvs k d,x=.ref a/\y=.ref b/\H a=some (.ext λh=>h.get? a=some o)/\IU a o es/\oP X.K H O es kvs/\(kvs.map (·.1)).Nodup/\es.length<=sizeLine/\Rep X.K H O (.ref b) k/\R3 7 k=true/\Rep X.K H O v d/\
 ∀o' es',IU a o' es'->oP X.K H O es' (eI kvs k d)->Q (upd H a<|.ext λh=>h.get? a=some o')
def PJ (hu:X.A.units+130<cLine):VR X (vq X):=by
 intro pins s σ H x y v ov iv u Q I rx ry ru z;obtain⟨O,a,b,o,es,kvs,k,d,ex,ey,h4,h5,h6,h7,hz,rk,hk,rv,q⟩:=z;subst ex ey;cases rx;cases ry;obtain⟨xs,hD,qh,hp⟩:=CL I h4 h5 h6 h7;obtain⟨ok,dp⟩:=mI hk;have hlen:xs.length<=sizeLine:=by
  obtain⟨_,ex,ea,ep,hd,he⟩:=h5;obtain⟨o2,nv,ep2,g2,_,hd2,ma,_⟩:=hD;have g:s.heap.get? a=some o:=(I.hok a _ h4).1;rw[g]at g2;cases g2;rw[hd]at hd2;cases hd2;have:=congrArg List.length (he.symm.trans ma);rw[aAm]at this
  lia
 refine wpAny_setItem_heap (knd:=rF X.prog X.w) (by show X.A.in1.units+128<cLine;rw[u7];lia) ⟨cI I rk ok rfl,by lia⟩ hD (λh' hD' hs=>?_) hlen;obtain⟨o',es',ep',g',ex',og,qd,is',nd'⟩:=hD';have I1:=I.write (x:=a) (e:=a) (o:=.ext λh=>h.get? a=some o') (h':=h') (t':=s.toks+jK k) (by rw[h4];trivial) (.inl rfl) (λb u hb e=>(hs.2 b hb).trans e) ⟨o',g'⟩ ⟨g',⟨o',g'⟩,λh1 h2 e k=>k _ e⟩;exact⟨_,I1,q o' _ ⟨h5.1,ex',es',ep',og,rfl⟩ (by rw[qd];exact CC (FJ hp qh rk hk ru rv))⟩
def wK (i:Nat) (ρ:Ev) (k d:D):R Out:=match ρ[i]? with
 |some (.d kvs)=>if R3 7 k=true/\GM k=true/\kvs.length<=sizeLine then .ok (.nx (ρ.set i<|.d (eI kvs k d)))else .bad
 |_=>.bad
def AN (i:Nat){x:Str}{k:Expr}{f g:Ev->R D}{p ps:Pos}(he:PD X e f)(hk:PD X k g)(hu:X.A.units+130<cLine)(hN:X.N[i]?=some x:=by rfl)(hv:AR X.env.scope x:=by first|exact aCM rfl|exact aBN (aCM rfl)|exact aBN (aBN rfl))(hd:(x==("__debug__":Str))=false:=by decide)
  (fb:(x==("__classdict__":Str))=false:=by decide) (ha:∀v,assign (.Subscript (.Name x p) k ps) X.env v=(do
   let ov<-holding [v] (eval (.Name x p) X.env)
   let iv<-holding [v,ov] (eval k X.env)
   standAt ps
   holding [v,ov,iv] (setItem ov iv v)
   release [v,ov,iv] []):=by intro _;rfl)
  (hs:swapsWithSole [.Subscript (.Name x p) k ps] e pos.line X.env=pure false:=by rfl) (hw:swappedStores [.Subscript (.Name x p) k ps] e X.env=pure none:=by rfl) (h1:(assignEach [.Subscript (.Name x p) k ps] X.env).map (·.2)=[assign (.Subscript (.Name x p) k ps) X.env]:=by rfl):
  mS X (.Assign [.Subscript (.Name x p) k ps] e pos) (λρ=>(f ρ).bind λd=>(g ρ).bind λkd=>wK i ρ kd d):=λH9 O0=>
 CA (BR he (JL (Q6 hN hv hd fb) hk (PJ hu) ha) hs hw h1) λD σ H O ρ E fk q=>⟨H9,O0,O,ρ,E,by
  cases e1:f ρ with
  |ex z=>rw[e1]at q;exactλH' s=>q H' (E.same.trans s)
  |bad=>rw[e1]at q;exact q
  |ok d=>
   rw[e1,R.aa0]at q;intro v H1 s1 r1;have E1:=E.grow s1;cases e2:g ρ with
   |ex z=>rw[e2]at q;exact(q H<|E.same.trans<|Same.refl _).elim
   |bad=>rw[e2]at q;exact aAi q
   |ok kd=>
    rw[e2,R.aa0]at q;unfold wK at q;cases e3:ρ[i]? with
    |none=>rw[e3]at q;exact aAi q
    |some sl=>
     rw[e3]at q;cases sl with
     |d kvs=>
      dsimp only at q;by_cases hk:R3 7 kd=true/\GM kd=true/\kvs.length<=sizeLine
      ·rw[if_pos hk]at q;obtain⟨a,o,es,h1,h2,h3,h4,h5,h6,h7⟩:=E1.slot i _ e3;refine⟨_,h1,H9,O0,O,ρ,E1,?_⟩;rw[e2];intro kv H2 s2 r2;have E2:=E1.grow s2;obtain⟨b,rfl⟩:=oD r2 hk.2.1;have h6':oP X.K H2 O es kvs:=h6.mono λr=>r.same s2;refine⟨O,a,b,o,es,kvs,kd,d,rfl,rfl,s2 _ _ h4,h5,h6',h7,by rw[h6.length];exact hk.2.2,r2,hk.1,r1.same s2,λo' es' d' r'=>?_⟩;obtain⟨E3,k3⟩:=E2.ad7 (sl':=.d (eI kvs kd d)) (u':=.ext λh=>h.get? a=some o') e3 trivial h1 (s2 _ _ h4) trivial trivial λhO h0 m=>⟨a,o',es',rfl,h2,h3,j3,d',r'.mono λr=>r.upd (s2 _ _ h4) trivial h2,GO kvs kd d h7⟩;exact q _ _ _ E3 fk (((Kp.of s1).trans (Kp.of s2)).trans k3)
      ·rw[if_neg hk]at q;exact aAi q
     |_=>exact aAi q⟩
end
end DL
namespace MM
open PySem
def NN (prog:Program)(w:World)(A:Around)(op:CmpOp)(Hs:Heap->Prop)(P:Nat->Value->Prop)(bt:Nat->Nat->Bool):Prop:=
 ∀i j vi vj (s:Shared) (Q:C5) (E:C5),Hs s.heap->P i vi->P j vj->Q (.bool (bt i j)) s->wpAny (model prog w) A (richCompare op vi vj) Q E s
section
def GS (W:WalksS prog w A.in1 I fp wr G n P St){Hs:Heap->Prop}(hH:∀i s,St i s->Hs s.heap)(bt:Nat->Nat->Bool)(vo:NN prog w A.in1 .Lt Hs P bt)(S:Addr)(oa:S∉fp):
  ∀(k j:Nat) (s:Shared) (vb:Value) (c:Nat),n-(j+1)=k->j+1<=n->St (j+1) s->P (argBest bt j) vb->
  s.heap.get? S=some {cls:=.type "list",dict:=none,data:=.seq #[vb,vb] c,slots:=#[]}->
  (∀v s',P (argBest bt (n-1)) v->Moved (S::wr) G s s'->R (.ok (.ret v)) s')->codeAny (model prog w) A (.builtin "min.loop" ⟨[.ref I,.none,.ref S],[]⟩) R s:=by
 have hSw:S∉wr:=λh=>oa (W.sub _ h);have jh:∀b∈wr,b∈S::wr:=λb hb=>aAe _ hb;have ki:(toString "min"++toString ".loop":String)= "min.loop":=by decide
 have yp:∀{b:Addr},b∉S::wr->S≠b:=λhb h=>hb (by rw[h];exact aAP);intro k;induction k with
 |zero=>
  intro j s vb c hk hj ja hPb hS hR;have lh:j+1=n:=by omega
  refine aBG aFz ?_;rw[aBk aCC _];show wpAny _ A.in1 (seqItems? (.ref S)>>=_) _ _ s;refine aAa (aBF hS rfl ?_);show wpAny _ A.in1 (tryCatch (pyNext<|.ref I) _>>=_) _ _ s;refine aAa (aFa<|W.done s _ _ (lh▸ja) λs' hm=>?_);have ig:=hm.heap S _ hSw hS;show wpAny _ A.in1 (updateSeq S (λ_=>#[])>>=_) _ _ _;refine aAa ?_;refine aBS ig rfl (aAa<|aEa<|aAb ?_);exact hR vb _ (by rw[<-lh];exact hPb) ((hm.mono jh).then_heap (tk:=s'.toks) (aAh _) λb o hb e=>(aAB _ _<|yp hb).trans e)
 |succ k ih=>
  intro j s vb c hk hj ja hPb hS hR;have ai:j+1<n:=by omega
  refine aBG aFz ?_;rw[aBk aCC _];show wpAny _ A.in1 (seqItems? (.ref S)>>=_) _ _ s;refine aAa (aBF hS rfl ?_);show wpAny _ A.in1 (tryCatch (pyNext<|.ref I) _>>=_) _ _ s;refine aAa (aFa<|W.item (j+1) s _ _ ai ja λv s' hP kg hm=>?_);have ig:=hm.heap S _ hSw hS;show wpAny _ A.in1 (tryCatch (holding [v,v]<|richCompare .Lt v vb>>=_) _>>=_) _ _ _;refine aAa (aFa<|aAN<|aAa<|vo (j+1) (argBest bt j) v vb _ _ _ (hH _ _ kg) hP hPb ?_);refine aAa (aAN<|aBA ?_);refine aAa (aEa<|aAb ?_);cases hb:bt (j+1) (argBest bt j)with
  |true=>
   simp only[if_true];refine aAa ?_;refine aBS ig rfl (aAa<|aEa ?_);rw[ki];refine aAb ⟨aBP aCC _,ih (j+1) _ v _ (by omega) ai (W.frame _ s' _ s'.toks kg (aAh _) λb hbf o e=>?_) (by simp only[argBest,hb,if_true];exact hP) (aBe _ ig rfl)
    λv' s'' hP' la=>?_⟩
   ·exact(aAB _ _ (λh:S=b=>oa (by rw[h];exact hbf))).trans e
   ·exact hR v' s'' hP' (aFr W.gtrans ((hm.mono jh).then_heap (aAh _) λb o hb e=>(aAB _ _<|yp hb).trans e) la)
  |false=>simp only[aAt,if_false];refine aAa (aEa ?_);rw[ki];refine aAb ⟨aBP aCC _,ih (j+1) _ vb c (by omega) ai kg (by simp only[argBest,hb,aAt,if_false];exact hPb) ig λv' s'' hP' la=>?_⟩;exact hR v' s'' hP' (aFr W.gtrans (hm.mono jh) la)
def zU (W:WalksS prog w A.in1 I fp wr G n P St){Hs:Heap->Prop}(hH:∀i s,St i s->Hs s.heap)(bt:Nat->Nat->Bool)(vo:NN prog w A.in1 .Lt Hs P bt)(S:Addr)(oa:S∉fp)(hn:0<n)(ja:St 0 s)(hS:s.heap.get? S=some {cls:=.type "list",dict:=none,data:=.seq #[] c,slots:=#[]})(hR:∀v s',P (argBest bt (n-1)) v->Moved (S::wr) G s s'->R (.ok (.ret v)) s'):codeAny (model prog w) A (.builtin "min.loop" ⟨[.ref I,.none,.ref S],[]⟩) R s:=by
 have hSw:S∉wr:=λh=>oa (W.sub _ h);have jh:∀b∈wr,b∈S::wr:=λb hb=>aAe _ hb;have ki:(toString "min"++toString ".loop":String)= "min.loop":=by decide
 have yp:∀{b:Addr},b∉S::wr->S≠b:=λhb h=>hb (by rw[h];exact aAP);refine aBG aFz ?_;rw[aBk aCC _];show wpAny _ A.in1 (seqItems? (.ref S)>>=_) _ _ s;refine aAa (aBF hS rfl ?_);show wpAny _ A.in1 (tryCatch (pyNext<|.ref I) _>>=_) _ _ s;refine aAa (aFa<|W.item 0 s _ _ hn ja λv s' hP kg hm=>?_);have ig:=hm.heap S _ hSw hS;show wpAny _ A.in1 (updateSeq S (λ_=>#[v,v])>>=_) _ _ _;refine aAa ?_;refine aBS ig rfl ?_;rw[ki];refine aAb ⟨aBP aCC _,GS W hH bt vo S oa _ 0 _ v _ rfl hn (W.frame _ s' _ s'.toks kg (aAh _) λb hbf o e=>?_) hP (aBe _ ig rfl) λv' s'' hP' la=>?_⟩
 ·exact(aAB _ _ (λh:S=b=>oa (by rw[h];exact hbf))).trans e
 ·exact hR v' s'' hP' (aFr W.gtrans ((hm.mono jh).then_heap (aAh _) λb o hb e=>(aAB _ _<|yp hb).trans e) la)
def call_minH {E:C5}{Q:C5}(h:wpAny (model prog w) A.in1 (pyIter x) (λit fg=>∃I fp wr G n P St Hs bt,it=.ref I/\WalksS prog w A.in1 I fp wr G n P St/\St 0 fg/\(∀b∈fp,b<fg.heap.objs.size)/\0<n/\(∀i s,St i s->Hs s.heap)/\NN prog w A.in1 .Lt Hs P bt/\
   ∀v s',P (argBest bt (n-1)) v->Moved wr G fg s'->Q v s') E s):
  wpAny (model prog w) A (call (.builtin "min") [x]) Q E s:=by
 have ki:(toString "min"++toString ".loop":String)= "min.loop":=by decide
 refine call_function_tree F.kind_min F.plain_min F.entry_min (F.args_min1 _) ?_;show wpAny _ A.in1 (aEE "min" ["key", "default"] 0 ⟨[],[]⟩>>=_) _ _ s;refine aAa (wpAny_of_eq (show aEE "min" ["key", "default"] 0 ⟨[],[]⟩=pure [none,none]from rfl) ?_);refine aAa (aAb ?_);refine aAa (aCj h (λit fg ib=>?_) λ_ _ e=>e);obtain⟨I,fp,wr,G,n,P,St,Hs,bt,rfl,W,ja,uo,hn,hH,vo,hQ⟩:=ib;refine aAa (aBu ?_);have oa:fg.heap.objs.size∉fp:=λhm=>aBc _ (uo _ hm);rw[ki];refine aAb ⟨aBP aCC _,zU W hH bt vo fg.heap.objs.size oa hn (W.frame 0 fg _ fg.toks ja (aAh _) λb _ o e=>aAc _ e) (aAp _ rfl) λv s' hP hm=>?_⟩;exact hQ v s' hP (Moved.drop_new (tk:=fg.toks) hm<|aAh _)
end
def walks_more {P:Nat->Value->Prop}{St:Nat->Heap->Prop}(W:Walks prog w A I fp wr n P St)(more:M2)(hd:∀p∈more,p.1∉wr):
  Walks prog w A I (fp++more.map (·.1)) wr n P (λi h=>St i h/\∀p∈more,h.get? p.1=some p.2)where
 sub:=λb hb=>aBB _ (W.sub b hb)
 frame:=λi h h' st k=>⟨W.frame i h h' st.1 λb hb o e=>k b (aBB _ hb) o e,λp hp=>k p.1 (aAD _<|aBa hp) _ (st.2 p hp)⟩
 item:=λi s Q E hi st hQ=>W.item i s Q E hi st.1 λv h' tk hP ja kp=>hQ v h' tk hP ⟨ja,λp hp=>kp p.1 p.2 (hd p hp) (st.2 p hp)⟩ kp
 done:=λs Q E st hQ=>W.done s Q E st.1 hQ
 self:=λi s Q E st hQ=>W.self i s Q E st.1 hQ
end MM
namespace DL
open PySem PySem.Spec L2
open PyProof.Rows hiding St
variable [Tabs]
section
def FN {x:Str}{a:Addr}{dd:Option Addr}{its:Array Value}{n:Nat}{sl:Array (Option Value)}{ns:List Int}(hm:X.mg x=some (.ref a))(hk:X.K.lookup a=some ⟨.type "tuple",dd,.seq its n,sl⟩)(hi:l6 (ns.map V.int) its.toList)(hz:its.size<=sizeLine)(hg:Gl X x:=by rfl)(gv:(x==("__debug__":Str))=false:=by decide):
 PD X (.Name x pos) (TH (.tup (ns.map D.int))):=uT (RZ hg hm (show RelV (.ref a) _ from rfl) gv) λH O=>.tup (.inr ⟨_,its,n,hk,rfl,rfl,hz,hi⟩) (Reps.ints ns)
def MG:D->D->R D
 |.non,.non=>.ok (.bl true)
 |_,.non=>.ok (.bl false)
 |_,_=>.bad
def ML:kG X (compareOp .Is) MG:=by
 intro H O x y dx dy Q fr rx ry q;refine⟨_,WY,?_⟩;cases dy with
 |non=>
  refine⟨ry.ac2,?_⟩;cases dx with
  |non=>rw[rx.ac2];exact q _ H (Same.refl _) .bl
  |bl b=>rw[rx.blI];exact q _ H (Same.refl _) .bl
  |int i=>rw[rx.aa6];exact q _ H (Same.refl _) .bl
  |str z=>rw[rx.ac7];exact q _ H (Same.refl _) .bl
  |tup ds=>obtain⟨a,_,rfl,_⟩:=rx.tupI;exact q _ H (Same.refl _) .bl
  |lst ds=>obtain⟨a,_,rfl,_⟩:=rx.aa5;exact q _ H (Same.refl _) .bl
  |dct=>obtain⟨a,_,rfl,_⟩:=rx.af9;exact q _ H (Same.refl _) .bl
 |_=>cases dx<;>exact aAi q
def NX (he:PD X e f)(hs:swapsWith e none pos.line X.env=pure false:=by rfl):mS X (.Expr e pos) (λρ=>(f ρ).bind λ_=>.ok (.nx ρ)):=λH9 O0=>
 CA (mJ he hs) λD σ H O ρ E fk q=>⟨H9,O0,O,ρ,E,by
  cases e1:f ρ with
  |ok d=>rw[e1]at q;exactλv H' s r=>q _ H' O (E.grow s) fk (Kp.of s)
  |ex x=>rw[e1]at q;exactλH' s=>q H' (E.same.trans s)
  |bad=>rw[e1]at q;exact q⟩
def cK:List D->Option (List Bool)
 |[]=>some []
 |.bl b::ds=>(cK ds).map (b::·)
 |_::_=>none
theorem oT:∀{ds:List D} {bs:List Bool},cK ds=some bs->ds=bs.map D.bl
 |[],bs,h=>by cases h;rfl
 |.bl b::ds,bs,h=>by
  unfold cK at h;cases e:cK ds with
  |none=>rw[e]at h;cases h
  |some l=>rw[e]at h;have h':b::l=bs:=aAj h;subst h';rw[oT e];rfl
 |.non::_,_,h|.int _::_,_,h|.str _::_,_,h|.tup _::_,_,h|.lst _::_,_,h|.dct::_,_,h=>by cases h
def anyR:List D->R D
 |[.lst ds]=>match cK ds with
  |some bs=>.ok (.bl (bs.any id))
  |none=>.bad
 |_=>.bad
def AY {K:PySem.W.Frag}{H:Hp}{O:Addr->Prop}{ws:List V}{bs:List Bool}{its:List Value}(r:Reps K H O ws (bs.map D.bl))(v:l6 ws its):its=bs.map aDq:=by
 induction bs generalizing ws its with
 |nil=>cases r;cases v;rfl
 |cons b bs ih=>
  cases r with
  |cons r t=>
   cases v with
   |cons rv tv=>cases r;have:_=aDq b:=rv;rw[this,ih t tv];rfl
def GD (bs:List Bool):(aBt bs.length).any (λi=>bs.getD i false)=bs.any id:=by
 rw[aDl,aEm,aEm];constructor
 ·rintro⟨i,hi,e⟩;have eh:i<bs.length:=by simpa using hi
  refine⟨bs[i],aBr eh,?_⟩;simpa[aAn,aAg eh]using e
 ·rintro⟨b,hb,e⟩;obtain⟨i,hi,rfl⟩:=aAZ hb;exact⟨i,by simpa using hi,by simpa[aAn,aAg hi]using e⟩
def XQ (hc:X.calm=true):Z5 X (.builtin "any") anyR:=by
 intro H O vs ds Q fr r q;match ds,q with
 |[.lst xs],q=>
  obtain⟨v,rfl,z⟩:=CB r;obtain⟨p,ws,rfl,h1,h2⟩:=z.aa5;simp only[anyR]at q;cases e:cK xs with
  |none=>rw[e]at q;exact q.elim
  |some bs=>
   rw[e]at q;rw[oT e]at h2;refine⟨λvs H' Q'=>vs=[.ref p]/\H'=H/\Q'=Q,λpins s σ H' xs us Q' I rv ⟨e1,e2,e3⟩=>?_,rfl,rfl,rfl⟩;subst e1 e2 e3;obtain⟨u,rfl,ru⟩:=vals1 rv;cases ru;obtain⟨its,rv2,⟨oL,nL,gL,cL,dL,sL⟩,zL⟩:=I.list h1;have ei:=AY h2 rv2;have hl:s.heap.IsList p its.toArray:=⟨oL,gL,cL,nL,sL⟩;refine call_any_walk (aDs hl ⟨s.heap.objs.size,_,_,its.toArray.size,_,_,λi=>bs.getD i false,rfl,Walks.list (by simp[I.ok.hd hc]) s.heap.objs.size p (aAl<|aAf gL) its.toArray,⟨⟨_,aAp _ rfl,rfl,rfl⟩,hl.push _⟩,λi v s' Q E hP hq=>?_,λh' tk kp=>?_⟩)
   ·have hP:its.toArray[i]?=some v:=hP;have hq:Q (bs.getD i false) s':=hq;rw[aCE,ei,aAG]at hP;cases eb:bs[i]? with
    |none=>rw[eb]at hP;cases hP
    |some b=>rw[eb]at hP;have:aDq b=v:=aAj hP;subst this;rw[aAn,eb]at hq;exact aBA hq
   ·have I2:=I.kept (h':=h') (t':=tk) λb o e=>kp b o (by simp only[aBl];exact aAl (aAf e)) (aAc _ e);refine⟨.bl (bs.any id),_,I2,?_,q _ _ (Same.refl _) .bl⟩;show aDq _=aDq _;rw[aAk,ei,aAm,GD]
end
end DL
namespace DL
open PySem PySem.Spec L2
open PyProof.Rows hiding St
variable [Tabs]
def XE (ds:List D)(i j:Nat):Bool:=HT.lexLt (flat<|ds.getD i .non) (flat<|ds.getD j .non)
def LA:List D->R D
 |[.lst ds]=>if ds≠[]/\ds.all bO=true then .ok (ds.getD (argBest (XE ds) (ds.length-1)) .non)else .bad
 |_=>.bad
def sR (h:Heap)(its:List Value):List (Addr×Obj):=its.filterMap λv=>match v with
 |.ref b=>(h.get? b).map λo=>(b,o)
 |_=>none
def zZ (hb:aDx b∈its)(e:h.get? b=some o):(b,o)∈sR h its:=
 aBL.mpr ⟨_,hb,by show(h.get? b).map _=_;rw[e];rfl⟩
def fH (hp:p∈sR h its):h.get? p.1=some p.2:=by
 obtain⟨v,_,e⟩:=aBL.mp hp;cases v with
 |ref b=>
  have e:(h.get? b).map (λo=>(b,o))=some p:=e;cases q:h.get? b with
  |none=>rw[q]at e;cases e
  |some o=>rw[q]at e;cases e;exact q
 |_=>cases e
section
def SJ (hc:X.calm=true)(hu:X.A.units+300<cLine):Z5 X (.builtin "min") LA:=by
 intro H O vs ds Q fr r q;match ds,q with
 |[.lst xs],q=>
  obtain⟨v,rfl,z⟩:=CB r;obtain⟨p,ws,rfl,h1,h2⟩:=z.aa5;simp only[LA]at q;by_cases hp:xs≠[]/\xs.all bO=true
  ·rw[if_pos hp]at q;obtain⟨ae,hp⟩:=hp;have pt:∀d∈xs,bO d=true:=aBU.mp hp;refine⟨λvs H' Q'=>vs=[.ref p]/\H'=H/\Q'=Q,λpins s σ H' xs' us Q' I rv ⟨e1,e2,e3⟩=>?_,rfl,rfl,rfl⟩;subst e1 e2 e3;obtain⟨u,rfl,ru⟩:=vals1 rv;cases ru;obtain⟨its,rv2,⟨oL,nL,gL,cL,dL,sL⟩,zL⟩:=I.list h1;have hl:s.heap.IsList p its.toArray:=⟨oL,gL,cL,nL,sL⟩;have st:y3 X.K H' O its xs:=y3.of rv2 h2;have hlen:its.toArray.size=xs.length:=by rw[aAk,<-rv2.length,h2.length]
   have qp:0<xs.length:=aDF.mpr ae;have W:=MM.walks_more (Walks.list (prog:=X.prog) (w:=X.w) (A:=X.A.in1) (by simp[I.ok.hd hc]) s.heap.objs.size p (aAl<|aAf gL) its.toArray) (sR s.heap its)
    (λq hq=>by simp only[aBl];exact aAl (aAf<|fH hq))
   refine MM.call_minH (aDs hl ⟨s.heap.objs.size,_,_,_,its.toArray.size,_,_,λh=>∀q∈sR s.heap its,h.get? q.1=some q.2,XE xs,rfl,W.toS,⟨⟨⟨_,aAp _ rfl,rfl,rfl⟩,hl.push _⟩,λq hq=>aAc _ (fH hq)⟩,λb hb=>?_,by rw[hlen];exact qp,λi s h=>h.2,λi j vi vj s' Q2 E2 hh hi hj hq=>?_,λv s' hP hm=>?_⟩)
   ·rw[aBw];rcases aAS.mp hb with hb|hb
    ·rcases aAd.mp hb with rfl|hb
     ·exact aDD _
     ·rcases aAd.mp hb with rfl|hb
      ·exact aBx (aAf gL)
      ·cases hb
    ·obtain⟨q,hq,rfl⟩:=aAo.mp hb;exact aBx (aAf<|fH hq)
   ·have one:∀i v,its.toArray[i]?=some v->∃b items,v=.ref b/\IsTup s'.heap b items/\IntsAre items.toList (flat<|xs.getD i .non):=λi v hi=>by
     rw[aCE]at hi;obtain⟨d,hd,w,qg,rp⟩:=D3 st hi;have og:xs.getD i .non=d:=by rw[aAn,hd];rfl
     rw[og];have hpt:=pt d (aAv hd);obtain⟨b,items,rfl,⟨o,g,c,n,dd⟩,hia⟩:=aP hpt (cI I rp (S9 hpt) qg);exact⟨b,items,rfl,⟨o,hh _ (zZ (aAv hi) g),c,n,dd⟩,hia⟩
    obtain⟨b,items,rfl,t1,i1⟩:=one i vi hi;obtain⟨b',vg,rfl,t2,i2⟩:=one j vj hj;exact HT.lt_tupInts t1 t2 i1 i2 (by rw[u7];lia) hq
   ·have hP:its.toArray[argBest (XE xs) (its.toArray.size-1)]?=some v:=hP;rw[aCE,hlen]at hP;obtain⟨d,hd,w,qg,rp⟩:=D3 st hP;have og:xs.getD (argBest (XE xs)<|xs.length-1) .non=d:=by rw[aAn,hd];rfl
    rw[og]at q;have I2:=I.kept (h':=s'.heap) (t':=s'.toks) λb o e=>hm.heap b o (by simp only[aBl];exact aAl (aAf e)) (aAc _ e);have es:s'={s with heap:=s'.heap,toks:=s'.toks}:=by have g1:=hm.gens;have g2:=hm.drawn;have g3:=hm.os;cases s';simp only at g1 g2 g3;subst g1 g2 g3;rfl
    rw[es];exact⟨w,_,I2,qg,q _ _ (Same.refl _) rp⟩
  ·rw[if_neg hp]at q;exact q.elim
def PK (h:OC ds)(n:Nat)(hn:n<ds.length):argBest (XE ds) n=0:=by
 induction n with
 |zero=>rfl
 |succ k ih=>
  have e:=ih (by lia);unfold argBest;rw[e];have:XE ds (k+1) 0=false:=by
   unfold XE;rw[aAn,aAn,aAg hn,aAg (by lia:0<ds.length)];have:=aCc.mp h 0 (k+1) (by lia) hn (by lia);cases q:HT.lexLt (flat<|(some ds[k+1]).getD .non) (flat ((some (ds[0]'(by lia))).getD .non))with
   |false=>rfl
   |true=>have z:HT.lexLt (flat (ds[0]'(by lia))) (flat (ds[0]'(by lia)))=true:=TS.lex_trans _ _ _ this q;rw[TS.lex_irrefl]at z;cases z
  rw[this];rfl
end
end DL
namespace DL
open PySem PySem.Spec L2
open PyProof.Rows hiding St sub_tuple_tuple sub_list_list sub_tuple_list sub_list_tuple
section
open PySem.MeetsSeq PySem.MeetsSeq2 PySem.MeetsSeq3 PySem.AutoSeq1
def NM (l:Addr)(xs:Array Value)(n:Nat)(b:Addr)(ys:Array Value)(n2:Nat)(sl:Array (Option Value))(hc0:¬(!xs.isEmpty&&aCP (xs.size+ys.size))=true)(xn:xs.size<=sizeLine)(yr:xs.size+ys.size<=sizeLine+1):
  Meets (Builtin.«list.extend» ⟨[.ref l,.ref b],[]⟩) (λ_ R s=>s.heap.get? l=some ⟨.type "list",none,.seq xs n,#[]⟩/\s.heap.get? b=some ⟨.type "list",none,.seq ys n2,sl⟩/\R (.ok (.ret Value.none)) {s with heap:=s.heap.update l (aBv λx=>x++ys),toks:=s.toks}):=
 .of_wp λprog w A R s q=>by
  obtain⟨hp,g,d,tk,os⟩:=s;obtain⟨q1,q2,q3⟩:=q;have g1:=idx_int;have g2:=sub_tuple_tuple;have g3:=sub_list_list;have g4:=sub_tuple_list;have g5:=sub_list_tuple;have z:(xs++ys).size<=sizeLine+1:=by rw[Array.size_append];exact yr
  wp_walk using(aBS q1 rfl (hz:=xn) (_hz':=z)),aEx q1,aEx q2
  exact⟨_,rfl,q3⟩
end
section
def YQ (K:PySem.W.Frag):V->List V->Hp->VK->Prop:=λx vs H Q=>∃l b xs zs,x=.ref l/\vs=[.ref b]/\H l=some (.lst xs)/\K0 K H b zs/\xs.length+zs.length<=sizeLine/\Q .non (upd H l<|.lst (xs++zs))
def XJ:qw X "list.extend" (YQ X.K):=by
 intro pins s σ H x vs v us Q I rx rv h;obtain⟨l,b,xs,zs,rfl,rfl,hH,hB,hz,q⟩:=h;cases rx;obtain⟨u,rfl,ru⟩:=rv.one;cases ru;obtain⟨z,its,n,r,hl,e⟩:=I.af4 hH;obtain⟨ke,r2,⟨⟨cl2,ug,da2,sr⟩,n2,e2,c2,d2,s2⟩,z2⟩:=I.list hB;simp only at c2 d2 s2;subst c2 d2 s2;have lu:=r2.length;have hsz:its.toArray.size+ke.toArray.size<=sizeLine:=by rw[aAk,aAk];lia
 have hlong:¬(!its.toArray.isEmpty&&aCP (its.toArray.size+ke.toArray.size))=true:=by rw[MU hsz,aFU];exact aAQ
 refine call_meets F.slot_list_extend ⟨_,e,rfl⟩ F.entry_list_extend (F.args_list_extend_2 _ _) (NM l its.toArray n b ke.toArray n2 sr hlong (by rw[aAk];lia) (by lia)) ⟨e,e2,?_⟩;refine⟨.non,_,I.af3 (its':=its++ke) hH e (by simp) (r.append r2) ?_,rfl,q⟩;rw[aAE]
 lia
end
variable [Tabs]
section
def AS (i:Nat)(he:PD X e f)(hN:X.N[i]?=some x:=by rfl)(hv:AR X.env.scope x:=by first|exact aCM rfl|exact aBN (aCM rfl)|exact aBN (aBN rfl))(hd:(x==("__debug__":Str))=false:=by decide)(fb:(x==("__classdict__":Str))=false:=by decide)(fm:attributeBase (.Name x p) "extend" X.env (eval (.Name x p) X.env)=eval (.Name x p) X.env:=by rfl)(um:((backTo ar (starEach [e] X.env)).all (λx=>!x.1)&&(backToKw ar (keywordEach [] X.env)).all (λx=>x.1.isSome)
   &&decide ([e].length+([]:List Keyword).length+(if([]:List Keyword).isEmpty then 0 else 1)<30))=true:=by rfl) (cb:(apos.endLine==ar.line)=true:=by rfl) (hs:starEach [e] X.env=(false,eval e X.env)::starEach [] X.env:=by rfl) (jg:(backTo ar (starEach [] X.env)).any (·.1)=false:=by rfl) (va:swapsWith (.Call (.Attribute (.Name x p) "extend" apos) [e] [] ar) none pos.line X.env=pure false:=by rfl):
  mS X (.Expr (.Call (.Attribute (.Name x p) "extend" apos) [e] [] ar) pos) (λρ=>(f ρ).bind (WO i ρ)):=λH9 O0=>
 CA (mJ (SQ PySem.F.plainAttrs_list PySem.F.slot_list_extend PySem.F.type_list_extend XJ (Q6 hN hv hd fb) (f8 he o5 hs) fm um cb hs jg) va) λD σ H O ρ E fk q=>by
 cases e1:f ρ with
 |ok d=>
  rw[e1,R.aa0]at q;unfold WO at q;cases e2:ρ[i]? with
  |none=>rw[e2]at q;exact aAi q
  |some sl=>
   rw[e2]at q;cases sl with
   |x C=>exact aAi q
   |c m φ=>exact aAi q
   |d kvs=>exact aAi q
   |no=>exact aAi q
   |v d=>exact aAi q
   |o xs=>
    cases d with
    |lst ys=>
     dsimp only at q;split at q
     ·rename_i hz;obtain⟨a,vs,h1,h2,h3,h4,h5⟩:=E.own i xs e2;refine⟨_,h1,.inl ⟨rfl,vs,K0.of h4⟩,H9,O0,O,ρ,E,?_⟩;show FP X H O ((f ρ).bind λd=>(R.ok []).bind λds=>.ok (d::ds)) _;rw[e1];intro us H1 s1 r1;cases r1 with
      |cons r1 rn=>
       cases rn;have E1:=E.grow s1;cases r1 with
       |lst hb nb rb=>refine⟨a,_,vs,_,rfl,rfl,s1 _ _ h4,hb,by rw[h5.length,rb.length];exact hz,?_⟩;obtain⟨E2,k2⟩:=E1.write e2 h1 ((h5.same s1).append rb);exact q σ _ O E2 fk ((Kp.of s1).trans k2)
     ·exact aAi q
    |_=>exact aAi q
 |ex x=>
  rw[e1]at q;cases e2:ρ[i]? with
  |none=>exact(q H E.same).elim
  |some sl=>exact(q H E.same).elim
 |bad=>rw[e1]at q;exact aAi q
end
end DL
namespace TS
open PySem PyProof.Rows HT
section
def CP (A:Around)(s:Shared)(x y:Value)(b:Bool):Prop:=∀(prog:Program) (w:World) (E:C5) (Q:vO),Q b s->wpAny (model prog w) A (oneLt' false x y) Q E s
def lt_two {Q:vO}(hl:IsTup s.heap l #[p,r])(hb:IsTup s.heap b #[p',r'])(hf:f=false)(h1:SeqAt.EqAt A s p p' e1)(h2:e1=false->CP A s p p' b1)(h3:e1=true->SeqAt.EqAt A s r r' e2)(h4:e1=true->e2=false->CP A s r r' b2)(q:Q (bif e1 then(bif e2 then false else b2)else b1) s):wpAny (model prog w) A (keyLt' (tupK f) (.ref l) (.ref b)) Q E s:=by
 obtain⟨o,ho,hc,n,hd⟩:=hl;obtain⟨o2,jt,jf,n2,hd2⟩:=hb;subst hf;rw[rT];refine aAa (aEi ho hd<|aAa<|aEi jt hd2 ?_);show wpAny _ _ (forIn [((p,p'),0),((r,r'),1)] _ _>>=_) _ _ _;rw[aCQ];refine aAa (aAa ?_);refine aAa (h1 _ _ _ _ ?_);cases e1 with
 |false=>refine aAa (h2 rfl _ _ _ _ ?_);exact aAb (aAb<|aAb q)
 |true=>
  refine aAb ?_;dsimp only;rw[aCQ];refine aAa ?_;refine aAa (h3 rfl _ _ _ _ ?_);cases e2 with
  |false=>refine aAa (h4 rfl rfl _ _ _ _ ?_);exact aAb (aAb<|aAb q)
  |true=>refine aAb ?_;dsimp only;rw[aEb];exact aAb (aAb q)
def JM (h:∀(prog:Program) (w:World) (E:C5) (Q:C5),Q (.bool b) s->wpAny (model prog w) A (richCompare .Lt x y) Q E s):CP A s x y b:=λprog w E Q q=>by rw[oneLt'_eq];simp only[aAt,if_false];exact aAa (h prog w _ _<|aBA q)
def oneLt_tup (hl:IsTup s.heap l items)(hb:IsTup s.heap b ao)(hi:IntsAre items.toList ns)(hj:IntsAre ao.toList ms)(hu:A.units<cLine):CP A s (.ref l) (.ref b) (HT.lexLt ns ms):=
 JM λprog w E Q q=>HT.lt_tupInts hl hb hi hj hu q
end
end TS
namespace DL
open PySem PySem.Spec L2
open PyProof.Rows hiding St
def uS (k:D->List Int)(d:D):List D->List D
 |[]=>[d]
 |x::xs=>if HT.lexLt (k d) (k x)=true then d::x::xs else x::uS k d xs
def pC (k:D->List Int)(ds:List D):List D:=ds.foldr (uS k) []
def tO (k:D->List Int)(ds:List D):Prop:=ds.Pairwise λx y=>HT.lexLt (k x) (k y)=true
theorem jQ (k:D->List Int)(d:D):∀xs:List D,(uS k d xs).Perm (d::xs)
 |[]=>.refl _
 |x::xs=>by
  unfold uS;split
  ·exact .refl _
  ·exact((jQ k d xs).cons x).trans (.swap d x xs)
theorem U5 (k:D->List Int):∀ds:List D,(pC k ds).Perm ds
 |[]=>.refl _
 |d::ds=>(jQ k d (pC k ds)).trans ((U5 k ds).cons d)
theorem vJ:∀{xs:List D},tO k xs->(∀x∈xs,k x≠k d)->tO k (uS k d xs)
 |[],_,_=>aDP _ _
 |x::xs,h,n=>by
  have h1:=aAy.mp h;unfold uS;split
  ·rename_i lt;refine aAy.mpr ⟨λy hy=>?_,h⟩;rcases aAd.mp hy with rfl|hy
   ·exact lt
   ·exact TS.lex_trans _ _ _ lt (h1.1 y hy)
  ·rename_i nlt;refine aAy.mpr ⟨λy hy=>?_,vJ h1.2 λz hz=>n z (.tail _ hz)⟩;rcases aAd.mp ((jQ k d xs).mem_iff.mp hy)with rfl|hy
   ·cases q:HT.lexLt (k x) (k y)with
    |true=>rfl
    |false=>exact absurd (TS.lex_total _ _ q (by simpa using nlt)) (n x<|.head _)
   ·exact h1.1 y hy
theorem jU:∀{ds:List D},(ds.map k).Nodup->tO k (pC k ds)
 |[],_=>.nil
 |d::ds,h=>by rw[aAu,aAJ]at h;refine vJ (jU h.2) λx hx e=>h.1 ?_;rw[<-e];exact aBa ((U5 k ds).mem_iff.mp hx)
theorem kJ:∀{xs ys:List D},tO k xs->tO k ys->xs.Perm ys->xs=ys
 |[],ys,_,_,p=>(List.nil_perm.mp p).symm
 |x::xs,[],_,_,p=>by have:=p.length_eq;simp at this
 |x::xs,y::ys,h1,h2,p=>by
  have a1:=aAy.mp h1;have a2:=aAy.mp h2;have exy:x=y:=by
   rcases aAd.mp (p.mem_iff.mp<|.head _)with q|q
   ·exact q
   ·rcases aAd.mp (p.mem_iff.mpr<|.head _)with q2|q2
    ·exact q2.symm
    ·have:=TS.lex_trans _ _ _ (a2.1 x q) (a1.1 y q2);rw[TS.lex_irrefl]at this;cases this
  subst exy;rw[kJ a1.2 a2.2 ((List.perm_cons x).mp p)]
def RL [Tabs]{R:Value->D->Prop}{key:Value->List Int}{k:D->List Int}{us:List Value}{ds:List D}(st:Paired R us ds)(srt:us.Pairwise λx y=>HT.lexLt (key y) (key x)=false)(nd:(ds.map k).Nodup)(hk:∀u d,R u d->d∈ds->key u=k d):tO k ds:=by
 induction st with
 |nil=>exact .nil
 |@cons u d us ds r t ih=>
  have n1:=aAJ.mp nd;have s1:=aAy.mp srt;refine aAy.mpr ⟨λe he=>?_,ih s1.2 n1.2 λu d h hd=>hk u d h (.tail _ hd)⟩;obtain⟨j,hj,rfl⟩:=aAZ he;have ua:j<us.length:=by rw[t.length];exact hj
  obtain⟨d',og,ni⟩:=D3 t (aAg ua);rw[aAg hj]at og;cases og;have l:=s1.1 us[j] (aBr ua);rw[hk _ _ ni (.tail _ (aBr hj)),hk u d r (.head _)]at l;cases z:HT.lexLt (k d) (k ds[j])with
  |true=>rfl
  |false=>exact absurd (aAo.mpr ⟨ds[j],aBr hj,(TS.lex_total _ _ z l).symm⟩) n1.1
def YM:D->Bool
 |.tup [p,.lst _]=>bO p
 |_=>false
def R4:D->List Int
 |.tup (p::_)=>flat p
 |_=>[]
def XG (h:YM d=true):∃p r,d=.tup [p,.lst r]/\bO p=true/\R4 d=flat p:=by
 unfold YM at h;split at h
 ·exact⟨_,_,rfl,h,rfl⟩
 ·cases h
def YW:D->R (List D)
 |.lst ds=>if ds.all YM=true/\(ds.map R4).Nodup/\ds.length<=63 then .ok (pC R4 ds)else .bad
 |_=>.bad
variable [Tabs]
def FV (h:Heap)(u:Value)(l:List Int):Prop:=∃b p r d,u=.ref b/\IsTup h b #[p,r]/\bO d=true/\HV h p d/\flat d=l
def FV.inj (x:FV h u l)(y:FV h u l'):l=l':=by obtain⟨b,p,r,d,rfl,⟨o,g,_,n,dd⟩,_,hv,rfl⟩:=x;obtain⟨b',p',r',d',e,⟨o',g',_,n',yf⟩,_,hv',rfl⟩:=y;cases e;rw[g]at g';cases g';rw[dd]at yf;injection yf with e1 _;have e2:=congrArg aFF e1;simp only[aFL]at e2;obtain⟨rfl,_⟩:=e2;rw[HV.inj hv hv']
def FE (h:Heap) (u:Value):List Int:=open Classical in if p:∃l,FV h u l then p.choose else[]
def iN (x:FV h u l):FE h u=l:=by unfold FE;rw[dif_pos ⟨l,x⟩];exact FV.inj (Exists.choose_spec (⟨l,x⟩:∃l,FV h u l)) x
section
def JO (I:Inv X pins σ H s)(r:Rep X.K H O v d)(h:YM d=true)(ru:RelV v u):FV s.heap u (R4 d):=by
 obtain⟨p,ring,rfl,hp,hk⟩:=XG h;cases r with
 |tup q rr=>
  cases ru;obtain⟨its,rv,ht,_⟩:=I.tuple q;cases rr with
  |cons r1 rr=>
   cases rr with
   |cons r2 rr=>
    cases rr;cases rv with
    |cons v1 rv=>
     cases rv with
     |cons v2 rv=>cases rv;exact⟨_,_,_,p,rfl,ht,hp,cI I r1 (S9 hp) v1,hk.symm⟩
end
section
def AH (ha:PB X e f)(hh:X.calm=true)(hu:X.A.units+300<cLine)(hg:Gl X "sorted":=by rfl)(hm:X.mg "sorted"=none:=by assumption)(hv:bootBuiltins "sorted"=some (.builtin "sorted"):=by decide+kernel)(he:starEach [e] X.env=(false,eval e X.env)::starEach [] X.env:=by rfl)(bh:(backTo pos (starEach [] X.env)).any (·.1)=false:=by rfl):
  PF X (.Call (.Name "sorted" p) [e] [] pos) (λρ=>(f ρ).bind YW):=by
 refine xN λpins s σ H Q I H9 O0 O ρ E q=>?_;dsimp only at q;refine aAT (V5 I hg hm hv ?_ (by decide) (by decide));have nu:PA X [e] _:=S6 ha fG he;refine aCT (C1 (nu pos pins s σ H (λvs H1=>∃v ds,vs=[v]/\f ρ=.ok (.lst ds)/\Same H H1/\A2 X.K H1 O v (.lst ds)) I ⟨H9,O0,O,ρ,E,?_⟩) λus s1 ⟨vs,H1,I1,r1,v,ds,ev,ef,sm,rb⟩=>?_) he bh
 ·cases e1:f ρ with
  |ex z=>rw[e1]at q;exact q
  |bad=>rw[e1]at q;exact q.elim
  |ok d=>
   rw[e1,R.aa0]at q;cases d with
   |lst ds=>exactλv H1 s1 r1=>⟨v,ds,rfl,rfl,s1,r1⟩
   |_=>exact aAi q
 ·subst ev;rw[ef,R.aa0]at q;obtain⟨a,ws,rfl,hS,rr⟩:=rb.aa5;obtain⟨u,rfl,ru⟩:=vals1 r1;cases ru;obtain⟨its,rv,⟨oL,nL,gL,cL,dL,sL⟩,zL⟩:=I1.list hS;have hl:s1.heap.IsList a its.toArray:=⟨oL,gL,cL,nL,sL⟩;simp only[YW]at q;by_cases hc:ds.all YM=true/\(ds.map R4).Nodup/\ds.length<=63
  ·rw[if_pos hc]at q;obtain⟨oi,nd,yi⟩:=hc;have fc:∀d∈ds,YM d=true:=aBU.mp oi;have st:y3 X.K H1 O its ds:=y3.of rv rr;have hlen:its.length=ds.length:=st.length;have each:∀u∈its,∃i d,its[i]?=some u/\ds[i]?=some d/\FV s1.heap u (R4 d):=λu hu=>by obtain⟨i,hi,rfl⟩:=aAZ hu;obtain⟨d,hd,w,qg,rp⟩:=D3 st (aAg hi);exact⟨i,d,aAg hi,hd,JO I1 rp (fc d<|aAv hd) qg⟩
   have keq:∀u∈its,∀u'∈its,FE s1.heap u=FE s1.heap u'->u=u':=λu hu u' au e=>by
    obtain⟨i,d,hi,hd,fv⟩:=each u hu;obtain⟨j,d',hj,og,fv'⟩:=each u' au;rw[iN fv,iN fv']at e;have eij:i=j:=by obtain⟨li,ei⟩:=aAC.mp hd;obtain⟨lj,ej⟩:=aAC.mp og;refine(List.getElem_inj (xs:=ds.map R4) (i:=i) (j:=j) (h₀:=by simpa using li) (h₁:=by simpa using lj) nd).mp ?_;rw[aEo,aEo,ei,ej];exact e
    subst eij;rw[hi]at hj;cases hj;rfl
   refine TS.sorted_keys (vs:=its) (f:=false) (key:=FE s1.heap) (C:=λs'=>∃h',s'={s1 with heap:=h'}/\∀b o,s1.heap.get? b=some o->h'.get? b=some o)
    (λ{Q'} hq=>collect_list hl (hq _ ⟨_,rfl,λb o e=>?_⟩) (by rw[hlen];exact aAs yi (by decide)))
    (λs' ⟨h',es',k⟩ s6 k6 x hx y hy prog w A E hA {Q} qq=>?_) (λh2 s' ⟨h',es',k⟩ s6 k6 A {Q} qq=>?_) (by rw[hlen];lia) λs' gr h' l ⟨h1,es',k⟩ pm srt k2 hl ⟨n,gl⟩=>?_
   ·exact(aAB _ _<|aBV<|aAl<|aAf e).trans (aAc _ e)
   ·subst es';have kk:∀b o,s1.heap.get? b=some o->s6.heap.get? b=some o:=λb o e=>k6 b o (k b o e);obtain⟨i,d,hi,hd,fv⟩:=each x hx;obtain⟨j,d',hj,og,fv'⟩:=each y hy;have kx:=iN fv;have ky:=iN fv';have eqk:=keq x hx y hy;rw[kx,ky]at qq;rw[kx,ky]at eqk;obtain⟨b,p1,r1,d1,rfl,⟨o,g,c,n,dd⟩,hp1,hv1,e1⟩:=fv;obtain⟨b',p2,r2,d2,rfl,⟨o',g',c',n',yf⟩,hp2,hv2,e2⟩:=fv';have yu:HV s6.heap p1 d1:=hv1.keeps λb o e _=>kk b o e;have hv2':HV s6.heap p2 d2:=hv2.keeps λb o e _=>kk b o e;have hA':A.units+8<cLine:=by lia
    obtain⟨c1,i1,rfl,t1,ia1⟩:=aP hp1 yu;obtain⟨c2,i2,rfl,t2,ia2⟩:=aP hp2 hv2';rw[<-e1,<-e2]at qq eqk;refine TS.lt_two (e1:=v5 d1 d2) (e2:=true) (b1:=HT.lexLt (flat d1) (flat d2)) (b2:=false) ⟨o,kk _ _ g,c,n,dd⟩ ⟨o',kk _ _ g',c',n',yf⟩ rfl (DK yu hv2' (by have:=uY hp1;lia)) (λ_=>TS.oneLt_tup t1 t2 ia1 ia2 (by lia)) (λeq=>?_) (λ_ z=>by cases z) ?_
    ·have ed:=iK (S9 hp1) (S9 hp2) eq;have er:=eqk (by rw[ed]);cases er;rw[g]at g';cases g';rw[dd]at yf;injection yf with e3 _;have e4:=congrArg aFF e3;simp only[aFL]at e4;rw[e4.2.1];exact aDO _
    ·cases z:v5 d1 d2 with
     |false=>exact qq
     |true=>have ed:=iK (S9 hp1) (S9 hp2) z;rw[ed,TS.lex_irrefl]at qq;exact qq
   ·subst es';have kk:∀b o,s1.heap.get? b=some o->s6.heap.get? b=some o:=λb o e=>k6 b o (k b o e);have sg:∀x∈its,∃p,∃b items,x=.ref b/\IsTup s6.heap b items/\items[0]?=some p/\s6.TypeIs p "tuple":=λx hx=>by obtain⟨i,d,hi,hd,fv⟩:=each x hx;obtain⟨b,p1,r1,d1,rfl,⟨o,g,c,n,dd⟩,hp1,hv1,e1⟩:=fv;have yu:HV s6.heap p1 d1:=hv1.keeps λb o e _=>kk b o e;obtain⟨c1,i1,rfl,⟨o1,g1,cc1,_⟩,ia1⟩:=aP hp1 yu;exact⟨_,b,_,rfl,⟨o,kk _ _ g,c,n,dd⟩,rfl,⟨o1,g1,cc1⟩⟩
    obtain⟨gf,hgf⟩:∃gf:Value->Value,∀x∈its,∃b items,x=.ref b/\IsTup s6.heap b items/\items[0]?=some (gf x)/\s6.TypeIs (gf x) "tuple":=by refine⟨λx=>open Classical in if z:x∈its then(sg x z).choose else .none,λx hx=>?_⟩;dsimp only;rw[dif_pos hx];exact(sg x hx).choose_spec
    exact TS.kind_tuples (T:= "tuple") gf hgf (λz=>by rw[z]at h2;simp at h2) (by decide) qq
   ·subst es';obtain⟨qe,p2,jr⟩:=cC pm st;have hk:∀u d,(∃v,RelV v u/\Rep X.K H1 O v d)->d∈ds->FE s1.heap u=R4 d:=λu d ⟨v,rv,rp⟩ hd=>iN (JO I1 rp (fc d hd) rv);have qr:(qe.map R4).Nodup:=(p2.map R4).nodup_iff.mpr nd;have srt2:tO R4 qe:=RL (R:=λu d=>∃v,RelV v u/\Rep X.K H1 O v d) jr srt qr λu d h hd=>hk u d h (p2.mem_iff.mp hd);have e2:qe=pC R4 ds:=kJ srt2 (jU nd) (p2.trans (U5 R4 ds).symm);subst e2;obtain⟨wv,qg,ni⟩:=y3.ac1 jr;have I2':=I1.kept (h':=h1) (t':=s1.toks) k;have I3:=I2'.laid (a:=l) (o:=.lst wv) (h':=h') (t':=s1.toks) k2 hl ⟨by rw[ni.length,(U5 R4 ds).length_eq];exact aAs yi (by decide),gr,n,qg,gl⟩;exact⟨.ref l,_,I3,rfl,q wv _ l sm (I2'.hok.fresh hl) ni⟩
  ·rw[if_neg hc]at q;exact q.elim
end
end DL
namespace DL
open PySem PySem.Spec L2
open PyProof.Rows hiding St
def jF:List Int->Int
 |[]=>0
 |a::l=>l.foldl max a
def vW:List Int->Int
 |[]=>0
 |a::l=>l.foldl min a
theorem R9:∀(l:List Int) (a:Int),(l.foldl max a=a\/l.foldl max a∈l)/\a<=l.foldl max a/\∀b∈l,b<=l.foldl max a
 |[],a=>⟨.inl rfl,aCm _,λb h=>by cases h⟩
 |c::l,a=>by
  obtain⟨h1,h2,h3⟩:=R9 l (max a c);rw[aDR];refine⟨?_,by lia,λb hb=>?_⟩
  ·rcases h1 with h1|h1
   ·rw[h1];rcases aGn a c with q|q
    ·exact .inr (by rw[Int.max_eq_right q];exact .head _)
    ·exact .inl (Int.max_eq_left q)
   ·exact .inr (.tail _ h1)
  ·rcases aAd.mp hb with rfl|hb
   ·lia
   ·exact h3 b hb
theorem T0:∀(l:List Int) (a:Int),(l.foldl min a=a\/l.foldl min a∈l)/\l.foldl min a<=a/\∀b∈l,l.foldl min a<=b
 |[],a=>⟨.inl rfl,aCm _,λb h=>by cases h⟩
 |c::l,a=>by
  obtain⟨h1,h2,h3⟩:=T0 l (min a c);rw[aDR];refine⟨?_,by lia,λb hb=>?_⟩
  ·rcases h1 with h1|h1
   ·rw[h1];rcases aGn a c with q|q
    ·exact .inl (Int.min_eq_left q)
    ·exact .inr (by rw[Int.min_eq_right q];exact .head _)
   ·exact .inr (.tail _ h1)
  ·rcases aAd.mp hb with rfl|hb
   ·lia
   ·exact h3 b hb
def iO (h:ns≠[]):jF ns∈ns:=by
 cases ns with
 |nil=>exact absurd rfl h
 |cons a l=>
  rcases(R9 l a).1 with q|q
  ·show l.foldl max a∈_;rw[q];exact .head _
  ·exact .tail _ q
def mN (h:a∈ns):a<=jF ns:=by
 cases ns with
 |nil=>cases h
 |cons b l=>
  rcases aAd.mp h with rfl|h
  ·exact(R9 l a).2.1
  ·exact(R9 l b).2.2 a h
def wG (h:ns≠[]):vW ns∈ns:=by
 cases ns with
 |nil=>exact absurd rfl h
 |cons a l=>
  rcases(T0 l a).1 with q|q
  ·show l.foldl min a∈_;rw[q];exact .head _
  ·exact .tail _ q
def QO (h:a∈ns):vW ns<=a:=by
 cases ns with
 |nil=>cases h
 |cons b l=>
  rcases aAd.mp h with rfl|h
  ·exact(T0 l a).2.1
  ·exact(T0 l b).2.2 a h
def DP:List D->R D
 |[.lst xs]=>match bQ xs with
  |some ns=>if ns≠[]then .ok (.int (jF ns))else .bad
  |none=>.bad
 |_=>.bad
def LO:List D->R D
 |[.lst xs]=>match bQ xs with
  |some ns=>if ns≠[]then .ok (.int (vW ns))else .bad
  |none=>.bad
 |_=>.bad
variable [Tabs]
section
def uO (hi:IntsAre its ns)(e:its.toArray=intItems ys):∀i,numAt ys i=ns.getD i 0:=λi=>by have h1:=nums_intItems ys;rw[<-e]at h1;have h2:=hi.numsOf;rw[show its.toArray.toList=its from rfl,h2]at h1;rw[h1];unfold numAt;rw[aAn,aAG,<-aAA]
def PY (hc:X.calm=true):Z5 X (.builtin "max") DP:=by
 intro H O vs ds Q fr r q;match ds,q with
 |[.lst xs],q=>
  obtain⟨v,rfl,z⟩:=CB r;obtain⟨p,ws,rfl,h1,h2⟩:=z.aa5;simp only[DP]at q;cases e:bQ xs with
  |none=>rw[e]at q;exact q.elim
  |some ns=>
   rw[e]at q;dsimp only at q;by_cases ae:ns≠[]
   ·rw[if_pos ae]at q;rw[dI e]at h2;rw[dZ h2]at h1;refine⟨λvs H' Q'=>vs=[.ref p]/\H'=H/\Q'=Q,λpins s σ H' xs' us Q' I rv ⟨e1,e2,e3⟩=>?_,rfl,rfl,rfl⟩;subst e1 e2 e3;obtain⟨u,rfl,ru⟩:=vals1 rv;cases ru;obtain⟨its,r',pl,hz⟩:=I.list h1;have hi:=DL.M6 r';obtain⟨ys,ey⟩:=hi.allInts.items;have hl:=pl.isList;rw[ey]at hl;have hlen:ys.size=ns.length:=by have:=congrArg Array.size ey;rw[aAk,hi.length]at this;simpa[intItems]using this.symm
    have qp:0<ns.length:=aDF.mpr ae;refine max_intList (I.ok.hd hc) hl (by lia) λv h' tk hv hk=>?_;obtain⟨t,rfl⟩:=intItems_at hv;obtain⟨g1,g2⟩:=argBest_gt (numAt ys) (ys.size-1);have em:numAt ys (argBest (λi j=>decide (numAt ys i>numAt ys j))<|ys.size-1)=jF ns:=by
     generalize argBest (λi j=>decide (numAt ys i>numAt ys j)) (ys.size-1)=b at g1 g2;have m1:numAt ys b∈ns:=by rw[uO hi ey,aAn,aAg (by lia)];exact aBr _
     have m2:=mN m1;obtain⟨j,hj,ej⟩:=aAZ (iO ae);have m3:=g2 j (by lia);rw[uO hi ey j,aAn,aAg hj]at m3;have m4:ns[j]<=numAt ys b:=m3
     lia
    rw[em];exact⟨.int (jF ns),_,I.kept hk,⟨t,rfl⟩,q _ _ (Same.refl _) .int⟩
   ·rw[if_neg ae]at q;exact q.elim
def SN (hc:X.calm=true):Z5 X (.builtin "min") LO:=by
 intro H O vs ds Q fr r q;match ds,q with
 |[.lst xs],q=>
  obtain⟨v,rfl,z⟩:=CB r;obtain⟨p,ws,rfl,h1,h2⟩:=z.aa5;simp only[LO]at q;cases e:bQ xs with
  |none=>rw[e]at q;exact q.elim
  |some ns=>
   rw[e]at q;dsimp only at q;by_cases ae:ns≠[]
   ·rw[if_pos ae]at q;rw[dI e]at h2;rw[dZ h2]at h1;refine⟨λvs H' Q'=>vs=[.ref p]/\H'=H/\Q'=Q,λpins s σ H' xs' us Q' I rv ⟨e1,e2,e3⟩=>?_,rfl,rfl,rfl⟩;subst e1 e2 e3;obtain⟨u,rfl,ru⟩:=vals1 rv;cases ru;obtain⟨its,r',pl,hz⟩:=I.list h1;have hi:=DL.M6 r';obtain⟨ys,ey⟩:=hi.allInts.items;have hl:=pl.isList;rw[ey]at hl;have hlen:ys.size=ns.length:=by have:=congrArg Array.size ey;rw[aAk,hi.length]at this;simpa[intItems]using this.symm
    have qp:0<ns.length:=aDF.mpr ae;refine min_intList (I.ok.hd hc) hl (by lia) λv h' tk hv hk=>?_;obtain⟨t,rfl⟩:=intItems_at hv;obtain⟨g1,g2⟩:=argBest_lt (numAt ys) (ys.size-1);have em:numAt ys (argBest (λi j=>decide (numAt ys i<numAt ys j))<|ys.size-1)=vW ns:=by
     generalize argBest (λi j=>decide (numAt ys i<numAt ys j)) (ys.size-1)=b at g1 g2;have m1:numAt ys b∈ns:=by rw[uO hi ey,aAn,aAg (by lia)];exact aBr _
     have m2:=QO m1;obtain⟨j,hj,ej⟩:=aAZ (wG ae);have m3:=g2 j (by lia);rw[uO hi ey j,aAn,aAg hj]at m3;have m4:numAt ys b<=ns[j]:=m3
     lia
    rw[em];exact⟨.int (vW ns),_,I.kept hk,⟨t,rfl⟩,q _ _ (Same.refl _) .int⟩
   ·rw[if_neg ae]at q;exact q.elim
def JZ (K:PySem.W.Frag)(mg:bX)(x:Str)(ns:List Int):Prop:=∃a dd its n sl,mg x=some (.ref a)/\K.lookup a=some ⟨.type "tuple",dd,.seq its n,sl⟩/\l6 (ns.map V.int) its.toList/\its.size<=sizeLine
omit [Tabs]in
def VB {K:PySem.W.Frag}{mg:bX}{x:Str}{a:Addr}{dd:Option Addr}{n:Nat}{sl:Array (Option Value)}{i j k:Int}{t u v:Tok}(hm:mg x=some (.ref a))(hk:K.lookup a=some ⟨.type "tuple",dd,.seq #[.int i t,.int j u,.int k v] n,sl⟩):JZ K mg x [i,j,k]:=
 ⟨a,dd,_,n,sl,hm,hk,.cons ⟨t,rfl⟩ (.cons ⟨u,rfl⟩ (.cons ⟨v,rfl⟩ .nil)),show 3<=sizeLine by decide⟩
def sG (c:JZ X.K X.mg x ns)(hg:Gl X x:=by rfl)(gv:(x==("__debug__":Str))=false:=by decide):PD X (.Name x pos) (TH (.tup (ns.map D.int))):=by obtain⟨a,dd,its,n,sl,hm,hk,hi,hz⟩:=c;exact FN hm hk hi hz hg gv
end
end DL
namespace DL
open PySem PySem.Spec L2
open PyProof.Rows hiding St
theorem aI {α β:Type}[BEq α][LawfulBEq α]:∀{l:List (α×β)} {a:α} {b:β},(l.map (·.1)).Nodup->(a,b)∈l->l.lookup a=some b
 |(x,y)::l,a,b,h,hm=>by
  rw[aAu,aAJ]at h;rw[aAU];rcases aAd.mp hm with e|jv
  ·cases e;simp
  ·have:(a==x)=false:=by rw[beq_eq_false_iff_ne];rintro rfl;exact h.1 (aAo.mpr ⟨(a,b),jv,rfl⟩)
   rw[this];exact aI h.2 jv
theorem mem_lookup {α β:Type}[BEq α][LawfulBEq α]:∀{l:List (α×β)} {a:α} {b:β},l.lookup a=some b->(a,b)∈l
 |(x,y)::l,a,b,h=>by
  rw[aAU]at h;split at h
  ·rename_i q;cases h;rw[eq_of_beq q];exact .head _
  ·exact .tail _ (mem_lookup h)
def uH (o:Obj):Prop:=∃v,o.data=.cell v
def cO (H:Hp)(cs:M2):Hp:=λb=>match cs.lookup b with
 |some o=>some (.frz o (.own b))
 |none=>H b
def Q3 (H:Hp)(cs:M2):Hp:=λb=>match cs.lookup b with
 |some _=>none
 |none=>H b
section
variable{K:PySem.W.Frag}
def dJ (e:cs.lookup b=some o):cO H cs b=some (.frz o (.own b)):=by unfold cO;rw[e]
def P7 (e:cs.lookup b=none):cO H cs b=H b:=by unfold cO;rw[e]
def aT (e:cs.lookup b=some o):Q3 H cs b=none:=by unfold Q3;rw[e]
def K7 (e:cs.lookup b=none):Q3 H cs b=H b:=by unfold Q3;rw[e]
def C6 (hn:∀b o,cs.lookup b=some o->H b=none)(e:H b=some u):cO H cs b=some u:=by
 cases q:cs.lookup b with
 |none=>rw[P7 q];exact e
 |some o=>rw[hn b o q]at e;cases e
def cW (hn:∀b o,cs.lookup b=some o->H b=none):Same H (cO H cs):=λb u e=>C6 hn e
def v9 (hn:∀b o,cs.lookup b=some o->H b=some (.frz o (.own b)))(e:H b=some u)(ne:∀o,cs.lookup b=some o->u≠.frz o (.own b)):Q3 H cs b=some u:=by
 cases q:cs.lookup b with
 |none=>rw[K7 q];exact e
 |some o=>rw[hn b o q]at e;cases e;exact absurd rfl (ne o q)
def MB (x:fF P w H h)(hc:∀b o,cs.lookup b=some o->h.get? b=some o/\H b=none):fF P w (cO H cs) h:=λb u e=>by
 have hn:∀b o,cs.lookup b=some o->H b=none:=λb o q=>(hc b o q).2;cases q:cs.lookup b with
 |some o=>rw[dJ q]at e;cases e;exact⟨(hc b o q).1,⟨o,(hc b o q).1⟩⟩
 |none=>rw[P7 q]at e;exact(x b u e).ab7 (λ_ _ _ z=>z) (λc z=>C6 hn z) λc u _ z=>C6 hn z
def JE (x:fF P w H h)(hc:∀b o,cs.lookup b=some o->H b=some (.frz o (.own b))/\uH o):fF P w (Q3 H cs) h:=λb u e=>by
 have hn:∀b o,cs.lookup b=some o->H b=some (.frz o (.own b)):=λb o q=>(hc b o q).1;cases q:cs.lookup b with
 |some o=>rw[aT q]at e;cases e
 |none=>rw[K7 q]at e;refine(x b u e).ab7 (λ_ _ _ z=>z) (λc z=>v9 hn z λo _ z'=>by cases z') λc u f z=>v9 hn z λo q z'=>?_;subst z';obtain⟨vs,e1⟩:=f;obtain⟨v,e2⟩:=(hc c o q).2;rw[e1]at e2;cases e2
def XS (U:Un fs [] (cO H cs) H2 h h')(k:fF P w H2 h')(hc:∀b o,cs.lookup b=some o->h.get? b=some o/\H b=none/\uH o):Un fs [] H (Q3 H2 cs) h h'/\fF P w (Q3 H2 cs) h'/\∀b o,cs.lookup b=some o->H2 b=some (.frz o (.own b)):=by
 have hn:∀b o,cs.lookup b=some o->H b=none:=λb o q=>(hc b o q).2.1;have h2:∀b o,cs.lookup b=some o->H2 b=some (.frz o (.own b)):=λb o q=>U.frzs b o _ (dJ q);refine⟨⟨λb o e n hb hx=>?_,λb o e n hb hx=>?_,λb o e n hx=>?_,λb o e hx=>U.there b o e hx,λb xs e=>?_,λb o u e=>?_,λb tb e=>?_⟩,JE k λb o q=>⟨h2 b o q,(hc b o q).2.2⟩,h2⟩
 ·cases q:cs.lookup b with
  |none=>exact U.keep b o e (by rw[P7 q];exact n) hb hx
  |some o'=>have:=(hc b o' q).1;rw[e]at this;cases this;exact(k b _<|h2 b o q).1
 ·cases q:cs.lookup b with
  |none=>exact U.slot b o e (by rw[P7 q];exact n) hb hx
  |some o'=>have:=(hc b o' q).1;rw[e]at this;cases this;exact⟨o.slots,(k b _<|h2 b o q).1⟩
 ·cases q:cs.lookup b with
  |none=>rw[K7 q];exact U.free b o e (by rw[P7 q];exact n) hx
  |some o'=>exact aT q
 ·exact v9 h2 (U.tups b xs<|C6 hn e) λo _ z=>by cases z
 ·refine v9 h2 (U.frzs b o u<|C6 hn e) λo' q z=>?_;rw[hn b o' q]at e;cases e
 ·exact v9 h2 (U.tbls b tb<|C6 hn e) λo _ z=>by cases z
def WN (U:Un fs [] (Q3 H cs) H2 h h')(k:fF P w H2 h')(hc:∀b o,cs.lookup b=some o->h.get? b=some o/\H b=some (.frz o (.own b))/\b∉fs):Un fs [] H (cO H2 cs) h h'/\fF P w (cO H2 cs) h'/\Same H2 (cO H2 cs):=by
 have hn:∀b o,cs.lookup b=some o->H b=some (.frz o (.own b)):=λb o q=>(hc b o q).2.1;have h2:∀b o,cs.lookup b=some o->H2 b=none:=λb o q=>U.free b o (hc b o q).1 (aT q) (by simp);have h3:∀b o,cs.lookup b=some o->h'.get? b=some o:=λb o q=>U.keep b o (hc b o q).1 (aT q) (hc b o q).2.2 (by simp);have out:∀b,H b=none->cs.lookup b=none:=λb n=>by
  cases q:cs.lookup b with
  |none=>rfl
  |some o=>rw[hn b o q]at n;cases n
 refine⟨⟨λb o e n hb hx=>U.keep b o e (by rw[K7 (out b n)];exact n) hb hx,λb o e n hb hx=>U.slot b o e (by rw[K7 (out b n)];exact n) hb hx,λb o e n hx=>?_,λb o e hx=>U.there b o e hx,λb xs e=>?_,λb o u e=>?_,λb tb e=>?_⟩,
  MB k λb o q=>⟨h3 b o q,h2 b o q⟩,cW h2⟩
 ·rw[P7 (out b n)];exact U.free b o e (by rw[K7 (out b n)];exact n) hx
 ·exact C6 h2 (U.tups b xs (v9 hn e λo _ z=>by cases z))
 ·cases q:cs.lookup b with
  |none=>exact C6 h2 (U.frzs b o u (by rw[K7 q];exact e))
  |some o'=>rw[hn b o' q]at e;cases e;exact dJ q
 ·exact C6 h2 (U.tbls b tb (v9 hn e λo _ z=>by cases z))
def EG (hn:∀b o,cs.lookup b=some o->H b=some (.frz o (.own b)))(q:U1 K H a xs):U1 K (Q3 H cs) a xs:=by
 rcases q with(q|⟨o,q⟩)|q
 ·exact .inl (.inl (v9 hn q λo _ z=>by cases z))
 ·exact .inl (.inr ⟨o,v9 hn q λo _ z=>by cases z⟩)
 ·exact .inr q
def CN (hn:∀b o,cs.lookup b=some o->H b=some (.frz o (.own b)))(q:K0 K H a xs):K0 K (Q3 H cs) a xs:=by
 rcases q with(q|⟨o,q⟩)|q
 ·exact .inl (.inl (v9 hn q λo _ z=>by cases z))
 ·exact .inl (.inr ⟨o,v9 hn q λo _ z=>by cases z⟩)
 ·exact .inr q
def DX {cs:M2}{φ:Heap->Prop}(hn:∀b o,cs.lookup b=some o->H b=some (.frz o (.own b)))(q:H b=some (.ext φ)):Q3 H cs b=some (.ext φ):=by
 unfold Q3;cases e:cs.lookup b with
 |none=>simpa[e]using q
 |some o=>have:=hn b o e;rw[q]at this;cases this
def Rep.hid (hn:∀b o,cs.lookup b=some o->H b=some (.frz o (.own b)))(r:Rep K H O v d):Rep K (Q3 H cs) O v d:=r.mono (λ_ _ q=>EG hn q) (λ_ _ n q=>⟨n,CN hn q⟩) λb φ n q=>⟨n,DX hn q⟩
def Reps.hid (hn:∀b o,cs.lookup b=some o->H b=some (.frz o (.own b)))(r:Reps K H O v d):Reps K (Q3 H cs) O v d:=r.mono (λ_ _ q=>EG hn q) (λ_ _ n q=>⟨n,CN hn q⟩) λb φ n q=>⟨n,DX hn q⟩
end
variable [Tabs]
section
variable(P:Program) (w:World) (K:PySem.W.Frag) (mg:bX) (base:Heap) (k:Nat)
def HY (n:Nat)(m:List D->R D)(H:Hp)(O:Addr->Prop)(a:Addr):Prop:=
 (∃oc od fd sl,H a=some (.frz ⟨oc,od,.func fd,sl⟩ (.own a)))/\
 ∀(A:Around) (outer:List Env) (s:Shared) (us:List Value) (vs:List V) (ds:List D) (d:D) (Q:VK) (E:XK),Room k A->Env0 P w K mg base A outer s H->l6 vs us->Reps K H O vs ds->ds.length=n->(∀a,O a->∃o,H a=some o/\Mt o)->Tb H->bS K O->m ds=.ok d->
  (∀v H',Same H H'->Rep K H' O v d->Q v H')->codeAny (model P w) A (.call (.ref a) ⟨us,[]⟩) (CR uI outer P w H s Q E) s
end
open Classical in
def callC (Φ:(List D->R D)->Hp->(Addr->Prop)->Addr->Prop) (i:Nat) (f:Ev->R (List D)):Ev->R D:=λρ=>match ρ[i]? with
 |some (.c m φ)=>if φ=Φ m then(f ρ).bind m else .bad
 |_=>.bad
section
def LW (i:Nat)(ha:HZ X (e::es) f)(hl:HR f n)(hr:Room k X.A)(hN:X.N[i]?=some x:=by rfl)(hv:AR X.env.scope x:=by first|exact aCM rfl|exact aBN (aCM rfl)|exact aBN (aBN rfl))(hd:(x==("__debug__":Str))=false:=by decide)(fb:(x==("__classdict__":Str))=false:=by decide)(he:starEach (e::es) X.env=(false,eval e X.env)::starEach es X.env:=by rfl)(bh:(backTo pos (starEach es X.env)).any (·.1)=false:=by rfl):
  PD X (.Call (.Name x p) (e::es) [] pos) (callC (HY X.prog X.w X.K X.mg X.base k n) i f):=by
 refine xN λpins s σ H Q I H9 O0 O ρ E q=>?_;unfold callC at q;cases e1:ρ[i]? with
 |none=>rw[e1]at q;exact q.elim
 |some sl=>
  rw[e1]at q;cases sl with
  |c m φ=>
   dsimp only at q;split at q
   ·rename_i hφ;subst hφ;obtain⟨a,h1,h2⟩:=E.slot i _ e1;obtain⟨⟨oc,od,fd,sl,hf⟩,_⟩:=h2 H O (Kp.refl _ _);refine aAT (C1 (Q6 hN hv hd fb pins s σ H (λv H'=>v=.ref a/\H'=H) I ⟨_,h1,rfl,rfl⟩) λu s1 ⟨v,H1,I1,r1,ev,eH⟩=>?_);subst ev eH;obtain rfl:u=aDx a:=r1;refine PySem.W.callWith_F ⟨oc,od,fd,sl,(I1.hok a _ hf).1⟩ (C1 (ha pos pins s1 σ H1 _ I1 ⟨H9,O0,O,ρ,E,FP.seq q⟩) λus s2 ⟨vs,H2,I2,rv,ds,e2,sm,rr,qq⟩=>⟨⟨oc,od,fd,sl,(I2.hok a _<|sm _ _ hf).1⟩,?_⟩) he bh;cases e3:m ds with
    |ex z=>rw[e3]at qq;exact(qq H2<|Same.refl _).elim
    |bad=>rw[e3]at qq;exact qq.elim
    |ok d=>
     rw[e3]at qq;have E2:=E.grow sm;refine wpAny_call (aDG ((h2 H2 O<|Kp.of sm).2 X.A X.stack s2 us vs ds d Q (λ_ _ _=>False) hr I2.af1 rv rr (hl ρ ds e2) E2.trk E2.tab (nR I2 O E2.trk) e3 qq) λr s' hq=>?_);cases r with
     |error e=>exact hq.elim
     |ok fl=>
      cases fl with
      |ret u=>exact I2.after hq
      |next=>exact aAi hq
      |brk=>exact aAi hq
      |cont=>exact aAi hq
   ·exact q.elim
  |_=>exact q.elim
end
def iq (K:PySem.W.Frag)(Φ:(List D->R D)->Hp->(Addr->Prop)->Addr->Prop)(M:D->(List D->R D)->(List D->R D)->R D):Sp:=λvs H Q _=>∃O v1 d1 a1 m1 a2 m2 d,vs=[v1,.ref a1,.ref a2]/\Rep K H O v1 d1/\(∀H2 O2,Kp H O H2 O2->Φ m1 H2 O2 a1)/\(∀H2 O2,Kp H O H2 O2->Φ m2 H2 O2 a2)/\
 (∀a,O a->∃o,H a=some o/\Mt o)/\Tb H/\bS K O/\M d1 m1 m2=.ok d/\∀v H',Same H H'->Rep K H' O v d->Q v H'
def jW (N:List Str)(Φ:(List D->R D)->Hp->(Addr->Prop)->Addr->Prop)(d1:D)(m1 m2:List D->R D):Ev:=.v d1::.c m1 (Φ m1)::.c m2 (Φ m2)::aCI (N.length-3) Sl.no
def AL {K:PySem.W.Frag}{H:Hp}{O:Addr->Prop}{N:List Str}{v1:V}{d1:D}{a1 a2:Addr}{m1 m2:List D->R D}{Φ:(List D->R D)->Hp->(Addr->Prop)->Addr->Prop}(r:Rep K H O v1 d1)(c1:∀H2 O2,Kp H O H2 O2->Φ m1 H2 O2 a1)(c2:∀H2 O2,Kp H O H2 O2->Φ m2 H2 O2 a2)
  (t:∀a,O a->∃o,H a=some o/\Mt o) (tb:Tb H):EnvOk K H O H O (start N [v1,.ref a1,.ref a2]) (jW N Φ d1 m1 m2)where
 len:=by simp[L2.start,jW]
 same:=Same.refl H
 sub:=λ_ h=>h
 trk:=t
 trk0:=λa h=>let⟨o,q,_⟩:=t a h;⟨o,q⟩
 tab:=tb
 slot:=λi sl h=>by
  match i with
  |0=>cases h;exact⟨v1,rfl,r⟩
  |1=>cases h;exact⟨a1,rfl,c1⟩
  |2=>cases h;exact⟨a2,rfl,c2⟩
  |i+3=>
   have h':(aCI (N.length-3) Sl.no)[i]?=some sl:=h;rw[aBm]at h';split at h'
   ·cases h';trivial
   ·cases h'
 inj:=λi j x y a h _ o=>by
  match i with
  |0=>cases h;exact o.elim
  |1=>cases h;exact o.elim
  |2=>cases h;exact o.elim
  |i+3=>
   have h':(aCI (N.length-3) Sl.no)[i]?=some x:=h;rw[aBm]at h';split at h'
   ·cases h';exact o.elim
   ·cases h'
section
variable{K:PySem.W.Frag}
def fnF {x qual:Str}{st:Stmt}{f:Addr}{fd:FuncData}{N ps:List Str}{k:Nat}{M:D->(List D->R D)->(List D->R D)->R D}{Φ:(List D->R D)->Hp->(Addr->Prop)->Addr->Prop}{F:Ev->R Out}(F0:Fun K x qual st f fd)(S:FnScope N ps (c6 st))(h3:ps.length=3)
  (hb:∀(cdv:Value) (A:Around) (outer:List Env) (s:Shared) (H:Hp) (E:XK),Room k (A.deeper (envOfC qual (c6 st) s.heap.objs.size f cdv))->bG (OY P w K mg base N qual (c6 st) f cdv A outer s H E) (t5 st) F)
  (hm:∀d1 m1 m2 d,M d1 m1 m2=.ok d->P8 (F (jW N Φ d1 m1 m2))=.ok d):FnOk P w K mg base uI (k+1) f fd ps (iq K Φ M):=by
 refine F0.ok S (λvs H Q E z=>by obtain⟨O,v1,d1,a1,m1,a2,m2,d,e,_⟩:=z;rw[e,h3];rfl) (λcdv A outer s H vs Q E hr z=>?_);obtain⟨O,v1,d1,a1,m1,a2,m2,d,e0,r,c1,c2,ht,tb,fk,e,q⟩:=z;subst e0;refine⟨_,hb cdv A outer s H E hr H O,O,_,AL r c1 c2 ht tb,fk,?_⟩;have h:=hm d1 m1 m2 d e;cases e1:F (jW N Φ d1 m1 m2)with
 |ok o=>
  rw[e1]at h;cases o with
  |rt d'=>have h':R.ok d'=R.ok d:=h;injection h' with h';subst h';exact q
  |nx ρ=>have h':R.ok D.non=R.ok d:=h;injection h' with h';subst h';exactλah H' O' E' _ _=>q .non H' E'.same .non
  |bk ρ=>cases h
  |ct ρ=>cases h
 |ex x=>rw[e1]at h;cases h
 |bad=>rw[e1]at h;cases h
end
structure NScope (ps ls fn:List Str)(sc:Scope):Prop where
 kind:sc.kind=.function
 co:sc.isCoroutine=false
 gen:sc.isGenerator=false
 nd:(ps++(ls++fn)).Nodup
 par:∀x∈ps,sc.names.lookup x=some .local
 fre:∀x∈fn,sc.names.lookup x=some .free
 all:∀x,sc.names.lookup x=some .free->x∈fn
 nocell:∀y∈sc.names,y.2≠.cell
abbrev YT (P:Program)(w:World)(K:PySem.W.Frag)(mg:bX)(base:Heap)(N:List Str)(env:Env)(A:Around)(outer:List Env)(s:Shared)(H:Hp):Cx where
 prog:=P
 w:=w
 K:=K
 mg:=mg
 base:=base
 A:=A.deeper env
 N:=N
 s9:=s
 H9:=H
 env:=env
 outer:=outer
 stack:=env::outer
 ex:=[]
 calm:=true
 fn:=λ_=>false
 pn:=[]
 xe:=λ_ _=>False
def L5 {α:Type}(vs:List α)(n:Nat)(no:α)(ws:List α):List α:=vs++(aCI n no++ws)
def fK {α:Type}{vs ws:List α}{n i:Nat}{no a:α}(h:(L5 vs n no ws)[i]?=some a):vs[i]?=some a\/a=no\/(vs.length+n<=i/\ws[i-(vs.length+n)]?=some a):=by
 unfold L5 at h;by_cases h1:i<vs.length
 ·rw[aAO h1]at h;exact .inl h
 ·rw[aAx (by lia)]at h;by_cases h2:i-vs.length<n
  ·rw[aAO (by simpa using h2),aBm,if_pos h2]at h;exact .inr (.inl (aAj h).symm)
  ·rw[aAx (by simpa using h2),aCe]at h;exact .inr (.inr ⟨by lia,by rw[show i-(vs.length+n)=i-vs.length-n by lia];exact h⟩)
def KP {α:Type}{vs ws:List α}{n i:Nat}{no a:α}(h:vs[i]?=some a):(L5 vs n no ws)[i]?=some a:=by unfold L5;rw[aAO (aAC.mp h).1];exact h
def LG {α:Type}{vs ws:List α}{n i:Nat}{no a:α}(h:ws[i]?=some a):(L5 vs n no ws)[vs.length+n+i]?=some a:=by unfold L5;rw[aAx (by lia),aAx (by simp;lia),aCe,show vs.length+n+i-vs.length-n=i by lia];exact h
section
variable{K:PySem.W.Frag}
def yV {A:Around}{outer:List Env}{s:Shared}{H:Hp}{us:List Value}{vs wv:List V}{h₁:Heap}{tk:Nat}(S:NScope ps ls fn scope)(hd:A.handled=none)(e0:Env0 P w K mg base A outer s H)(hl:vs.length=ps.length)(r:l6 vs us)(nh:wv.length=fn.length)
  (xi:∀(i:Nat) (x:Str) (v:V),fn[i]?=some x->wv[i]?=some v->∃c u,clos.lookup x=some c/\RelV v u/\s.heap.IsCell c (some u)) (hcc:∀x c,clos.lookup x=some c->(∃v,s.heap.IsCell c v)/\H c=none)
  (lh:∀x y c,clos.lookup x=some c->clos.lookup y=some c->x=y) (xv:h₁.Ns s.heap.objs.size (λx=>(ps.zip us).reverse.lookup x)) (hk:∀b o,s.heap.get? b=some o->h₁.get? b=some o):
  Inv (YT P w K mg base (ps++(ls++fn)) (PySem.W.envX qual scope s.heap.objs.size fa cd clos) A outer s H) [] (L5 (vs.map some) ls.length none (wv.map some)) H {s with heap:=h₁,toks:=tk}:=by
 have noA:∀b:Addr,b∉(YT P w K mg base (ps++(ls++fn)) (PySem.W.envX qual scope s.heap.objs.size fa cd clos) A outer s H).ex:=λb z=>absurd (show b∈([]:List Addr)from z) (by simp);have nd1:ps.Nodup:=(aCR.mp S.nd).1;refine⟨⟨e0.mod,S.kind,rfl,rfl,aAh _,lh,λy hy=>?_,λy c hf _=>(by cases hf),λ_=>hd,aFN e0.frames,.inr ⟨rfl,rfl⟩,λb z=>absurd z (noA b),e0.bs,e0.bsz,λb _ _=>noA b,λb z=>absurd z (noA b),e0.funs,e0.frf⟩,
  rfl,e0.bare,Un.kept hk,⟨_,xv,λi y v h1 h2 h3=>?_⟩,λy c h=>?_,e0.hok.fresh (aAh _),λy c h=>(hcc y c h).2,λp hp=>absurd (show p∈([]:M2)from hp) (by simp),e0.hok.kept hk,?_⟩
 ·have hy:scope.names.lookup y=some .cell\/scope.names.lookup y=some .free:=hy;rcases hy with hy|hy
  ·exact absurd rfl (S.nocell _<|PySem.mem_of_lookup hy)
  ·have hm:=S.all y hy;obtain⟨i,hi,e⟩:=aAZ hm;have hw:i<wv.length:=by rw[nh];exact hi
   obtain⟨c,u,q,_⟩:=xi i y wv[i] (by rw[aAg hi,e]) (aAg hw);exact⟨c,q⟩
 ·have hN:(ps++(ls++fn))[i]?=some y:=h1;rcases fK h2 with h2|h2|⟨h4,h2⟩
  ·rw[aAG]at h2;cases e:vs[i]? with
   |none=>rw[e]at h2;cases h2
   |some a=>
    rw[e]at h2;have ea:a=v:=aAj (aAj h2);subst ea;obtain⟨u,hu,rv⟩:=r.get e;have hi:i<ps.length:=by rw[<-hl];exact(aAC.mp e).1
    rw[aAO hi]at hN;refine⟨u,rv,.inl ⟨S.par y (aAv hN),?_⟩⟩;refine aI ?_ ?_
    ·rw[aFA];refine(List.reverse_perm _).nodup_iff.mpr ?_;rw[List.map_fst_zip (by rw[<-hl,r.length];exact aAh _)];exact nd1
    ·rw[aCY];exact aAv (i:=i) (by rw[aBy];exact⟨hN,hu⟩)
  ·cases h2
  ·rw[aAm]at h4 h2;rw[aAG]at h2;cases e:wv[i-(vs.length+ls.length)]? with
   |none=>rw[e]at h2;cases h2
   |some a=>rw[e]at h2;have ea:a=v:=aAj (aAj h2);subst ea;rw[aAx (by lia),aAx (by lia),<-hl,show i-vs.length-ls.length=i-(vs.length+ls.length)by lia]at hN;obtain⟨c,u,q1,q2,q3⟩:=xi _ y a hN e;exact⟨u,q2,.inr ⟨.inr (S.fre y<|aAv hN),c,q1,q3.keeps hk⟩⟩
 ·obtain⟨⟨v,z⟩,_⟩:=hcc y c h;exact⟨v,z.keeps hk⟩
 ·unfold L5;simp[hl,nh]
def zS {H:Hp}{O:Addr->Prop}{vs wv:List V}{ds wd:List D}{n:Nat}(r:Reps K H O vs ds)(r2:Reps K H O wv wd)(t:∀a,O a->∃o,H a=some o/\Mt o)(tb:Tb H):
  EnvOk K H O H O (L5 (vs.map some) n none (wv.map some)) (L5 (ds.map Sl.v) n .no (wd.map Sl.v))where
 len:=by unfold L5;simp[r.length,r2.length]
 same:=Same.refl H
 sub:=λ_ h=>h
 trk:=t
 trk0:=λa h=>let⟨o,q,_⟩:=t a h;⟨o,q⟩
 tab:=tb
 slot:=λi sl h=>by
  rcases fK h with h|h|⟨h1,h⟩
  ·rw[aAG]at h;cases e:ds[i]? with
   |none=>rw[e]at h;cases h
   |some d=>rw[e]at h;have h':Sl.v d=sl:=aAj h;subst h';obtain⟨v,e1,e2⟩:=r.get e;exact⟨v,KP (by rw[aAG,e1];rfl),e2⟩
  ·subst h;trivial
  ·rw[aAG,aAm]at h;rw[aAm]at h1;cases e:wd[i-(ds.length+n)]? with
   |none=>rw[e]at h;cases h
   |some d=>rw[e]at h;have h':Sl.v d=sl:=aAj h;subst h';obtain⟨v,e1,e2⟩:=r2.get e;refine⟨v,?_,e2⟩;have:=LG (vs:=vs.map some) (n:=n) (no:=(none:Option V)) (ws:=wv.map some) (i:=i-(ds.length+n)) (a:=some v) (by rw[aAG,e1];rfl);rw[aAm,r.length,show ds.length+n+(i-(ds.length+n))=i by lia]at this;exact this
 inj:=λi j x y a h _ o=>by
  rcases fK h with h|h|⟨_,h⟩
  ·obtain⟨d,_,rfl⟩:=aAo.mp (aAv h);exact o.elim
  ·subst h;exact o.elim
  ·obtain⟨d,_,rfl⟩:=aAo.mp (aAv h);exact o.elim
def VS {name:Str}{params:Arguments}{body:List Stmt}{doc pm ctv:Value}{c':Addr}{oc:Obj}{k:Nat}{m:List D->R D}{F:Ev->R Out}{H:Hp}{O:Addr->Prop}{cs:M2}{wv:List V}{wd:List D}(S:NScope ps ls fn scope)
  (hb:∀(A:Around) (outer:List Env) (s:Shared) (H:Hp),Room k (A.deeper (PySem.W.envX qual scope s.heap.objs.size fa (.ref c') clos))->bG (YT P w K mg base (ps++(ls++fn)) (PySem.W.envX qual scope s.heap.objs.size fa (.ref c') clos) A outer s H) body F)
  (hm:∀ds d,ds.length=ps.length->m ds=.ok d->P8 (F (L5 (ds.map Sl.v) ls.length .no (wd.map Sl.v)))=.ok d)
  (vp:∀(s:Shared) (us:List Value),us.length=ps.length->BindsTo s (PySem.W.fnX name qual params body scope clos .none .none doc pm none (.ref c') ctv) ⟨us,[]⟩ (ps.zip us))
  (hfa:H fa=some (.frz (PySem.W.fnMade name qual params body scope clos doc pm c' ctv) (.own fa))) (hc:H c'=some (.frz oc (.own c'))) (bu:∃vs t,oc.data=.fields vs/\vs[1]?=some (.str qual t))
  (ui:∀b o,cs.lookup b=some o->H b=some (.frz o (.own b))/\uH o) (xi:∀(i:Nat) (x:Str) (v:V),fn[i]?=some x->wv[i]?=some v->∃c u o,clos.lookup x=some c/\cs.lookup c=some o/\o.data=.cell (some u)/\RelV v u)
  (hcc:∀x c,clos.lookup x=some c->∃o,cs.lookup c=some o) (lh:∀x y c,clos.lookup x=some c->clos.lookup y=some c->x=y) (nh:wv.length=fn.length) (hr:Reps K H O wv wd) (hO:∀a,O a->∃o,H a=some o/\Mt o):
  ∀H2 O2,Kp H O H2 O2->HY P w K mg base (k+1) ps.length m H2 O2 fa:=by
 intro H2 O2 kp;have fz:∀b o u,H b=some (.frz o u)->H2 b=some (.frz o u):=λb o u e=>(kp b _ e λz=>by obtain⟨o',q,mt⟩:=hO b z;rw[e]at q;cases q;exact mt).1;have yv:∀b o,cs.lookup b=some o->H2 b=some (.frz o (.own b)):=λb o q=>fz _ _ _ (ui b o q).1;refine⟨⟨_,_,_,_,fz _ _ _ hfa⟩,λA outer s us vs ds d Q E ml e0 rv rr hl ht tb fk em q=>?_⟩;have KX:K.In s.heap:=e0.mod.kin.keeps λb o e=>(e0.bs b o e).1;have lim:s.heap.NoLimit:=e0.mod.nolimit.keeps λb o e=>(e0.bs b o e).1;have gfa:=(e0.hok fa _<|fz _ _ _ hfa).1;have goc:=(e0.hok c' _<|fz _ _ _ hc).1;obtain⟨ovs,ot,od1,od2⟩:=bu;have hidn:∀b,H2 b=none->Q3 H2 cs b=none:=λb n=>by
  cases z:cs.lookup b with
  |none=>rw[K7 z];exact n
  |some o=>exact aT z
 have e1:Env0 P w K mg base A outer s (Q3 H2 cs):=⟨e0.frames,e0.mod,λb o e=>⟨(e0.bs b o e).1,hidn b (e0.bs b o e).2⟩,e0.bsz,e0.funs,λb hb=>hidn b (e0.frf b hb),JE e0.hok λb o z=>⟨yv b o z,(ui b o z).2⟩,e0.bare⟩;have za:∀b o,cs.lookup b=some o->s.heap.get? b=some o:=λb o z=>(e0.hok b _<|yv b o z).1;have cfs:∀b o,cs.lookup b=some o->b∉xD outer:=λb o z hb=>by have:=e0.frf b hb;rw[yv b o z]at this;cases this
 have hul:us.length=ps.length:=by rw[<-rv.length,rr.length];exact hl
 have hvl:vs.length=ps.length:=by rw[rr.length];exact hl
 have rwv:Reps K (Q3 H2 cs) O2 wv wd:=(kp.ac1 hO fk hr).hid yv;have tb1:Tb (Q3 H2 cs):=λp hp=>v9 yv (tb p hp) λo _ z=>by cases z
 have ht1:∀a,O2 a->∃o,Q3 H2 cs a=some o/\Mt o:=λa z=>by obtain⟨o,q1,q2⟩:=ht a z;exact⟨o,v9 yv q1 λo' _ z'=>by subst z';exact q2,q2⟩
 let Q':VK:=λv H3=>(∀b o,cs.lookup b=some o->H3 b=none)->Q v (cO H3 cs)
 have qq:∀v H',Same (Q3 H2 cs) H'->Rep K H' O2 v d->Q' v H':=λv H' sm r hn=>by
  refine q v _ (λb u e=>?_) (r.same<|cW hn);cases z:cs.lookup b with
  |none=>exact C6 hn (sm b u (by rw[K7 z];exact e))
  |some o=>rw[yv b o z]at e;cases e;exact dJ z
 have fin:∀{u:Value} {s':Shared},CE outer P w (Q3 H2 cs) s Q' u s'->CE outer P w H2 s Q u s':=λ{u s'} ⟨v,H3,os,bare,un,hok,r,qv⟩=>by obtain⟨U2,k2,yb⟩:=WN un hok λb o z=>⟨za b o z,yv b o z,cfs b o z⟩;exact⟨v,_,os,bare,U2,k2,r,qv λb o z=>un.free b o (za b o z) (aT z) (by simp)⟩
 refine codeAny_call_def (fd:=PySem.W.fnX name qual params body scope clos .none .none doc pm none (.ref c') ctv) (body:=body) (binds:=ps.zip us) ml.depth gfa rfl lim ⟨c',oc,ovs,ot,rfl,goc,od1,od2⟩ rfl (vp s us hul) S.nocell (λy hy=>S.par y.1 (aDN hy).1) (λh₁ xv hk=>?_) S.co S.gen S.kind;show wpAny (model P w) (A.deeper<|PySem.W.envX qual scope s.heap.objs.size fa (.ref c') clos) (execs body<|PySem.W.envX qual scope s.heap.objs.size fa (.ref c') clos) _ _ _;have I:=yV (qual:=qual) (fa:=fa) (cd:=.ref c') (clos:=clos) (tk:=s.toks+(ps.zip us).length) S ml.hd e1 hvl rv nh (λi x v h1 h2=>by
   obtain⟨c,u,o,q1,q2,q3,q4⟩:=xi i x v h1 h2;exact⟨c,u,q1,q4,o,za c o q2,q3⟩) (λx c h=>by
   obtain⟨o,z⟩:=hcc x c h;obtain⟨v,z2⟩:=(ui c o z).2;exact⟨⟨v,o,za c o z,z2⟩,aT z⟩) lh xv hk
 have hx:=hb A outer s (Q3 H2 cs) (ml.deeper _) (Q3 H2 cs) O2 [] _ _ _ {nx:=λ_ H'=>Q' .non H',rt:=Q'} I ⟨O2,_,zS (rr.hid yv) rwv ht1 tb1,fk,?_⟩
 ·refine aCj hx (λfl s' hs=>?_) λe s' hs=>hs.elim;have fin2:∀{ah:St} {H':Hp} {v:V} {u:Value},Inv (YT P w K mg base (ps++(ls++fn)) (PySem.W.envX qual scope s.heap.objs.size fa (.ref c') clos) A outer s<|Q3 H2 cs) [] ah H' s'->RelV v u->Q' v H'->CE outer P w H2 s Q u s':=
   λ{ah H' v u} J rv q=>fin ⟨v,H',J.os,J.bare,J.base,J.hok,rv,q⟩
  cases fl with
  |ret u=>obtain⟨v,ah,H',J,rv,q⟩:=hs;exact fin2 J rv q
  |next=>obtain⟨ah,H',J,q⟩:=hs;exact fin2 (v:=V.non) (u:=Value.none) J rfl q
  |brk=>obtain⟨_,_,_,q⟩:=hs;exact aAi q
  |cont=>obtain⟨_,_,_,q⟩:=hs;exact aAi q
 ·have h:=hm ds d hl em;cases e1:F (L5 (ds.map Sl.v) ls.length .no (wd.map Sl.v))with
  |ok o=>
   rw[e1]at h;cases o with
   |rt d'=>have h':R.ok d'=R.ok d:=h;injection h' with h';subst h';exact qq
   |nx ρ=>have h':R.ok D.non=R.ok d:=h;injection h' with h';subst h';exactλah H' O' E' _ _=>qq .non H' E'.same .non
   |bk ρ=>cases h
   |ct ρ=>cases h
  |ex x=>rw[e1]at h;cases h
  |bad=>rw[e1]at h;cases h
end
def iP (mg:bX)(base:Heap):Prop:=∃bm ob,mg "__builtins__"=some (.ref bm)/\bm≠builtinsNs/\base.get? bm=some ob/\ob.cls=.type "module"/\ob.dict=some builtinsNs/\ob.data=.plain
def qO:∀(l:List Value),TriplesOk l->codeAmong pos l=some x->codeAmong pos (l++[rawInt a,rawInt b,c])=some x:=λl h e=>by
 fun_induction TriplesOk l with
 |case1=>simp[codeAmong]at e
 |case2 a' t b' u y rest ih=>
  simp only[aAV,codeAmong]at e⊢;split at e
  ·rename_i hc;rw[if_pos hc];exact e
  ·rename_i hc;rw[if_neg hc];exact ih h e
 |case3 l h1 h2=>exact h.elim
def KZ (ne:¬(a=pos.line/\b=pos.col)):∀(l:List Value),TriplesOk l->codeAmong pos l=none->codeAmong pos (l++[rawInt a,rawInt b,c])=none:=λl h e=>by
 fun_induction TriplesOk l with
 |case1=>simp only[aCx,rawInt,codeAmong];rw[if_neg];simp only[aAM,beq_iff_eq];exact ne
 |case2 a' t b' u y rest ih=>
  simp only[aAV,codeAmong]at e⊢;split at e
  ·cases e
  ·rename_i hc;rw[if_neg hc];exact ih h e
 |case3 l h1 h2=>exact h.elim
def fL (H:Hp)(fa:Addr)(name qual:Str)(params:Arguments)(body:List Stmt)(scope:Scope)(clos:List (Str×Addr)):Prop:=
 ∃c' oc doc pm ctv,H fa=some (.frz (PySem.W.fnMade name qual params body scope clos doc pm c' ctv) (.own fa))/\H c'=some (.frz oc (.own c'))/\∃vs t,oc.data=.fields vs/\vs[1]?=some (.str qual t)
def fL.same (h:fL H fa name qual params body scope clos)(s:Same H H'):fL H' fa name qual params body scope clos:=
 let⟨c',oc,doc,pm,ctv,h1,h2,h3⟩:=h;⟨c',oc,doc,pm,ctv,s _ _ h1,s _ _ h2,h3⟩
section
def xH {Q:Flow->Shared->Prop}(I:Inv X pins σ H s)(hB:iP X.mg X.base)(ji:X.env.code=.ref c)(hK:PySem.W.codeHdIn X.K c Pt=true)(hT:H Pt=some (.tbl tb))(hq:qualnameIn X.env name name=qual)(hm:(pos,qual)∈tb)(hu:∀p∈tb,p.1.line=pos.line->p.1.col=pos.col->p.2=qual)(xi:closureFor scope X.env=pure clos)(hd0:params.defaults=[])(hk0:params.kw_defaults=[])(ha:annTrees params none X.env=[])(hN:X.N.Nodup)(hi:X.N[i]?=some name)(hx:Loc X.env.scope name)(hf:X.fn name=true\/X.env.scope.names.lookup name=some .local)(h:∀fa H' s',Inv X pins (σ.set i (some (.ref fa))) H' s'->Same H H'->fL H' fa name qual params body scope clos->Q .next s'):wpAny (model X.prog X.w) X.A (exec (.FunctionDef name params body [] none [] scope none name pos) X.env) Q X.xe s:=by
 refine PySem.W.nestDef_K hd0 hk0 ha ?_;rw[hq];have hg:s.heap.Ns mainGlobals X.mg:=I.mod.glob.keeps I.bk;have C:PySem.W.CodeHd s.heap c Pt:=PySem.W.codeHd_of_K I.kIn hK;obtain⟨ps,hP,hTr,hTb⟩:=I.hok Pt _ hT;have hgP:mainGlobals≠Pt:=λq=>by obtain⟨o,es,ep,e,hd,_⟩:=hg;rw[q,hP]at e;cases e;cases hd
 have hb:s.heap.BuiltinsAt X.mg Pt:=by
  obtain⟨bm,ob,b1,b2,b3,b4,b5,b6⟩:=hB;have b3':=I.bk _ _ b3;refine⟨bm,ob,b1,b2,λq=>?_,λq=>?_,b3',b4,b5,b6⟩
  ·obtain⟨o,es,ep,e,hd,_⟩:=hg;rw[<-q,b3']at e;cases e;rw[hd]at b6;cases b6
  ·rw[q,hP]at b3';cases b3';cases b4
 have neP:∀b,H b=none->b≠Pt:=λb n z=>by rw[z,hT]at n;cases n
 have neL:X.env.locals≠Pt:=neP _ I.free;rcases hTb _ hm with hnf|⟨c',oc,vs,t,hf',wu,fb⟩
 ·refine PySem.W.makeFunction_K (mg:=X.mg) xi I.ok.glob hg ji C hP hTr hnf hgP hb λc' ctv doc h' tk hx' hge ai hrec htb=>?_;obtain⟨c2,oc,vs,t,e2,bu,hd,hv⟩:=hrec;cases e2;have old:∀b u,H b=some u->b<s.heap.objs.size:=λb u e=>I.hok.lt e;have hcN:H c'=none:=I.hok.fresh hge;have hfN:H h'.objs.size=none:=I.hok.fresh (aAs hge<|aDi ai);have ncf:c'≠h'.objs.size:=aAl ai;have sm:Same H (upd (upd H c'<|.frz oc (.own c')) h'.objs.size<|.frz (PySem.W.fnMade name qual params body scope clos doc ((X.mg "__name__").getD .none) c' ctv) (.own h'.objs.size)):=λb u e=>by rw[j8 (q9 e hfN),j8 (q9 e hcN)];exact e
  have nc:∀b o,b≠Pt->s.heap.get? b=some o->(h'.push<|PySem.W.fnMade name qual params body scope clos doc ((X.mg "__name__").getD .none) c' ctv).get? b=some o:=λb o hb e=>aAc _ (hx' b o hb e);have lts:∀b o,s.heap.get? b=some o->b≠c'/\b≠h'.objs.size:=λb o e=>⟨aAl (aAr (aAf e) hge),aAl (aAr (aAf e)<|aAs hge<|aDi ai)⟩;have I1:=I.step (H':=upd (upd H c'<|.frz oc (.own c')) h'.objs.size (.frz (PySem.W.fnMade name qual params body scope clos doc ((X.mg "__name__").getD .none) c' ctv) (.own h'.objs.size)))
   (h':=h'.push (PySem.W.fnMade name qual params body scope clos doc ((X.mg "__name__").getD .none) c' ctv)) (g':=s.gens) (t':=tk) (d':=s.drawn) (ch:=[]) (λ_ z=>nomatch z) (λb o _ _ _ e n=>nc b o (neP b n) e) (λb o _ _ _ e n=>⟨o.slots,nc b o (neP b n) e⟩)
   (λb o _ e n=>by rw[j8 (lts b o e).2,j8 (lts b o e).1];exact n) (λb o _ e=>by
    by_cases hb:b=Pt
    ·subst hb;exact⟨_,aAc _ htb⟩
    ·exact⟨o,nc b o hb e⟩) (λb xs e=>sm _ _ e) (λb o u e=>sm _ _ e) (λb tb e=>sm _ _ e) (λm' hm'=>by
    obtain⟨o,es,ep,e,r⟩:=hm';exact⟨o,es,ep,nc _ o neL e,r⟩) (λb u e=>by
    by_cases hbf:b=h'.objs.size
    ·subst hbf;rw[j3]at e;cases e;exact⟨aAp _ rfl,_,aAp _ rfl⟩
    ·rw[j8 hbf]at e;by_cases hbc:b=c'
     ·subst hbc;rw[j3]at e;cases e;exact⟨aAc _ bu,_,aAc _ bu⟩
     ·rw[j8 hbc]at e;by_cases hbP:b=Pt
      ·subst hbP;rw[hT]at e;cases e;refine⟨_,aAc _ htb,?_,λp hp=>?_⟩
       ·rw[aGa];exact TriplesOk_snoc _ _ _ _ hTr
       ·rw[aGa];show codeAmong p.1 (ps.toList++[rawInt pos.line,rawInt pos.col,.ref c'])=none\/_;by_cases hpp:(pos.line:Int)=p.1.line/\(pos.col:Int)=p.1.col
        ·rcases hTb p hp with h0|⟨c3,oc3,vs3,t3,h0,h1,h2⟩
         ·have e1:pos.line=p.1.line:=by exact_mod_cast hpp.1
          have e2:pos.col=p.1.col:=by exact_mod_cast hpp.2
          refine .inr ⟨c',oc,vs,t,?_,by rw[j8 ncf,j3],hd,?_⟩
          ·rw[e1,e2];exact codeAmong_snoc _ hTr h0
          ·rw[hu p hp e1.symm e2.symm];exact hv
         ·exact .inr ⟨c3,oc3,vs3,t3,qO _ hTr h0,sm _ _ h1,h2⟩
        ·rcases hTb p hp with h0|⟨c3,oc3,vs3,t3,h0,h1,h2⟩
         ·exact .inl (KZ hpp _ hTr h0)
         ·exact .inr ⟨c3,oc3,vs3,t3,qO _ hTr h0,sm _ _ h1,h2⟩
      ·refine(I.hok b u e).ab7 (λb2 v hc q=>nc b2 v (λz=>?_) q) (λb2 z=>sm _ _ z) λb2 u _ z=>sm _ _ z;rcases hc with hc|hc
       ·exact hbP (hc▸z)
       ·rw[z,hT]at hc;cases hc) I.bare
  refine P9 I1 hN hi hx (show RelV (.ref h'.objs.size) _ from rfl) (λs' I'=>h _ _ s' I' sm ⟨c',oc,doc,_,ctv,j3,by rw[j8 ncf,j3],vs,t,hd,hv⟩) hf
 ·refine PySem.W.makeFunction_hit (mg:=X.mg) xi I.ok.glob hg ji C hP hTr hf' hb λctv doc h' tk hk hsz=>?_;have hfN:H h'.objs.size=none:=I.hok.fresh hsz;have I1:=I.laid (a:=h'.objs.size) (o:=.frz (PySem.W.fnMade name qual params body scope clos doc ((X.mg "__name__").getD .none) c' ctv) (.own h'.objs.size)) (h':=h'.push (PySem.W.fnMade name qual params body scope clos doc ((X.mg "__name__").getD .none) c' ctv)) (t':=tk)
   (λb u e=>aAc _ (hk b u e)) hsz ⟨aAp _ rfl,_,aAp _ rfl⟩
  refine P9 I1 hN hi hx (show RelV (.ref h'.objs.size) _ from rfl) (λs' I'=>h _ _ s' I' (j5 hfN _) ⟨c',oc,doc,_,ctv,j3,j5 hfN _ _ _ wu,vs,t,fb⟩) hf
end
structure Nst where
 name:Str
 qual:Str
 params:Arguments
 body:List Stmt
 scope:Scope
 pos:Pos
 ps:List Str
 ls:List Str
 fn:List Str
 js:List Nat
 F:Ev->R Out
 mm:List D->List D->R D
 i:Nat
abbrev Nst.stmt (n:Nst):Stmt:=.FunctionDef n.name n.params n.body [] none [] n.scope none n.name n.pos
structure NstOk (X:Cx)(k:Nat)(n:Nst):Prop where
 sc:NScope n.ps n.ls n.fn n.scope
 one:n.ps.length=1
 body:∀(fa:Addr) (cd:Value) (clos:List (Str×Addr)) (A:Around) (outer:List Env) (s:Shared) (H:Hp),Room k (A.deeper (PySem.W.envX n.qual n.scope s.heap.objs.size fa cd clos))->bG (YT X.prog X.w X.K X.mg X.base (n.ps++(n.ls++n.fn)) (PySem.W.envX n.qual n.scope s.heap.objs.size fa cd clos) A outer s H) n.body n.F
 mm:∀wd ds d,wd.length=n.fn.length->ds.length=n.ps.length->n.mm wd ds=.ok d->P8 (n.F (L5 (ds.map Sl.v) n.ls.length .no (wd.map Sl.v)))=.ok d
 bind:∀(clos:List (Str×Addr)) (doc pm cd ctv:Value) (us:List Value),us.length=n.ps.length->bindArgs (PySem.W.fnX n.name n.qual n.params n.body n.scope clos .none .none doc pm none cd ctv) ⟨us,[]⟩=pure (n.ps.zip us)
 len:n.js.length=n.fn.length
 at_:∀(i j:Nat) (x:Str),n.js[i]?=some j->n.fn[i]?=some x->X.N[j]?=some x/\X.env.scope.names.lookup x=some .cell
 d0:n.params.defaults=[]
 k0:n.params.kw_defaults=[]
 nm:X.N[n.i]?=some n.name
 lc:Loc X.env.scope n.name
 st:X.fn n.name=true\/X.env.scope.names.lookup n.name=some .local
 dbg:(n.name==("__debug__":Str))=false
 cdt:(n.name==("__classdict__":Str))=false
structure ClosOk (X:Cx)(n:Nst)(clos:List (Str×Addr)):Prop where
 eq:closureFor n.scope X.env=pure clos
 ann:annTrees n.params none X.env=[]
 qn:qualnameIn X.env n.name n.name=n.qual
 sub:∀x c,clos.lookup x=some c->X.env.cells.lookup x=some c
 has:∀x∈n.fn,∃c,clos.lookup x=some c
def cV:List Nat->Ev->R (List D)
 |[],_=>.ok []
 |j::js,ρ=>(V6 j ρ).bind λd=>(cV js ρ).bind λds=>.ok (d::ds)
theorem LQ {K:PySem.W.Frag}{H9 H:Hp}{O0 O:Addr->Prop}{σ:St}{ρ:Ev}(E:EnvOk K H9 O0 H O σ ρ):∀{js:List Nat} {wd:List D},cV js ρ=.ok wd->∃wv,Reps K H O wv wd/\wv.length=js.length/\∀(i j:Nat) (v:V),js[i]?=some j->wv[i]?=some v->σ[j]?=some (some v)
 |[],wd,h=>by cases h;exact⟨[],.nil,rfl,λi j v e=>by simp at e⟩
 |j::js,wd,h=>by
  unfold cV at h;cases e1:V6 j ρ with
  |ok d=>
   rw[e1,R.aa0]at h;cases e2:cV js ρ with
   |ok ds=>
    rw[e2,R.aa0]at h;cases h;obtain⟨wv,r,hl,at_⟩:=LQ E e2;have:ρ[j]?=some (.v d):=by
     unfold V6 at e1;split at e1
     ·rename_i q;cases e1;exact q
     ·cases e1
    obtain⟨v,h1,h2⟩:=E.val j d this;refine⟨v::wv,.cons h2 r,by simp[hl],λi j' v' q1 q2=>?_⟩;cases i with
    |zero=>simp at q1 q2;subst q1 q2;exact h1
    |succ i=>exact at_ i j' v' (by simpa using q1) (by simpa using q2)
   |ex z=>rw[e2]at h;cases h
   |bad=>rw[e2]at h;cases h
  |ex z=>rw[e1]at h;cases h
  |bad=>rw[e1]at h;cases h
section
def S7 (h:Heap)(cl:List (Str×Addr)):List (Addr×Obj):=cl.filterMap λp=>(h.get? p.2).map λo=>(p.2,o)
def J4 (e:(S7 h cl).lookup b=some o):h.get? b=some o/\∃x,(x,b)∈cl:=by
 obtain⟨p,hp,q⟩:=aBL.mp (mem_lookup e);cases z:h.get? p.2 with
 |none=>rw[z]at q;cases q
 |some o'=>rw[z]at q;have q':(p.2,o')=(b,o):=aAj q;injection q' with q1 q2;subst q1 q2;exact⟨z,p.1,hp⟩
def lI (hm:(x,b)∈cl)(e:h.get? b=some o):∃o',(S7 h cl).lookup b=some o':=by
 have:(b,o)∈S7 h cl:=aBL.mpr ⟨(x,b),hm,by show(h.get? b).map _=_;rw[e];rfl⟩;cases q:(S7 h cl).lookup b with
 |some o'=>exact⟨o',rfl⟩
 |none=>have:=List.lookup_eq_none_iff.mp q (b,o) this;simp at this
def gq (X:Cx)(n1 n2:Nst)(clos1 clos2:List (Str×Addr))(f:Ev->R D)(M:D->(List D->R D)->(List D->R D)->R D):TE:=λσ H Q=>∃H9 O0 O ρ xo fa2,EnvOk X.K H9 O0 H O σ ρ/\σ[n1.i]?=some (some<|V.ref xo)/\σ[n2.i]?=some (some<|V.ref fa2)/\
 fL H xo n1.name n1.qual n1.params n1.body n1.scope clos1/\fL H fa2 n2.name n2.qual n2.params n2.body n2.scope clos2/\RC X H O ((f ρ).bind λd1=>(cV n1.js ρ).bind λw1=>(cV n2.js ρ).bind λw2=>M d1 (n1.mm w1) (n2.mm w2)) Q
def xW {n:Nst}{clos clA:List (Str×Addr)}{k:Nat}{pins:M2}{σ:St}{H:Hp}{s:Shared}{H9:Hp}{O0 O:Addr->Prop}{ρ:Ev}{fa:Addr}{wd:List D}(ok:NstOk X k n)(hc:ClosOk X n clos)(I:Inv X pins σ H s)(E:EnvOk X.K H9 O0 H O σ ρ)
  (hA:∀p∈clos,p∈clA) (hAc:∀x b,(x,b)∈clA->X.env.cells.lookup x=some b) (made:fL H fa n.name n.qual n.params n.body n.scope clos) (hw:cV n.js ρ=.ok wd):
  ∀H2 O2,Kp (cO H (S7 s.heap clA)) O H2 O2->HY X.prog X.w X.K X.mg X.base (k+1) 1 (n.mm wd) H2 O2 fa:=by
 obtain⟨c',oc,doc,pm,ctv,h1,h2,h3⟩:=made;obtain⟨wv,qg,hl,at_⟩:=LQ E hw;have hn:∀b o,(S7 s.heap clA).lookup b=some o->H b=none:=λb o q=>by obtain⟨_,x,hm⟩:=J4 q;exact I.freeC x b (hAc x b hm)
 have sm:=cW hn
 suffices key:∀H2 O2,Kp (cO H<|S7 s.heap clA) O H2 O2->HY X.prog X.w X.K X.mg X.base (k+1) n.ps.length (n.mm wd) H2 O2 fa by rw[ok.one]at key;exact key
 refine VS (cs:=S7 s.heap clA) (wv:=wv) (wd:=wd) (F:=n.F) ok.sc (λA outer s H hr=>ok.body fa (.ref c') clos A outer s H hr) (λds d lu e=>ok.mm wd ds d (by rw[<-qg.length,hl,ok.len]) lu e) (λs us lu=>.of_eq (ok.bind clos doc pm (.ref c') ctv us lu)) (sm _ _ h1) (sm _ _ h2) h3
  (λb o q=>⟨dJ q,?_⟩) (λi x v q1 q2=>?_) (λx c q=>?_) (λx y c q1 q2=>I.ok.inj x y c (hc.sub x c q1) (hc.sub y c q2)) (by rw[hl,ok.len]) (qg.same sm) (E.grow sm).trk
 ·obtain⟨e1,x,hm⟩:=J4 q;obtain⟨v,o',e2,e3⟩:=I.cell x b (hAc x b hm);rw[e1]at e2;cases e2;exact⟨v,e3⟩
 ·have hi:i<n.js.length:=by rw[ok.len];exact(aAC.mp q1).1
  have ej:n.js[i]?=some n.js[i]:=aAg hi;obtain⟨hN,hk⟩:=ok.at_ i _ x ej q1;have hσ:=at_ i _ v ej q2;obtain⟨m,xv,hloc⟩:=I.loc;obtain⟨u,ru,look⟩:=hloc _ x v hN hσ (.inr (.inl hk));rcases look with⟨ju,_⟩|⟨_,c,dh,o,ho,hd⟩
  ·have hk'':X.env.scope.names.lookup x=some .local:=ju;rw[hk]at hk'';cases hk''
  ·obtain⟨c2,q3⟩:=hc.has x (aAv q1);have q4:=hc.sub x c2 q3;rw[dh]at q4;cases q4;obtain⟨o',q5⟩:=lI (hA _<|PySem.mem_of_lookup q3) ho;have:=(J4 q5).1;rw[ho]at this;cases this;exact⟨c,u,o,q3,q5,hd,ru⟩
 ·obtain⟨v,o,ho,_⟩:=I.cell x c (hc.sub x c q);exact lI (hA _<|PySem.mem_of_lookup q) ho
def PX (ph:NstOk X k n1)(qa:NstOk X k n2)(xn:ClosOk X n1 clos1)(jf:ClosOk X n2 clos2)(hA:∀x b,(x,b)∈clos1++clos2->X.env.cells.lookup x=some b)(FF:FnOk X.prog X.w X.K X.mg X.base uI kf g gd ps3 (iq X.K (HY X.prog X.w X.K X.mg X.base (k+1) 1) M))(hr:Room kf X.A)(hm:X.mg x=some (.ref g))(hk:PySem.W.keepIn X.K (.ref g)=true)(hb:Binds X.K gd ps3 [])(h3:ps3.length=3)(he:PD X e f)(wg:∀y,X.fn y=true)(hg:Gl X x:=by rfl)(gv:(x==("__debug__":Str))=false:=by decide)(ya:starEach [e,.Name n1.name p1,.Name n2.name p2] X.env=(false,eval e X.env)::starEach [.Name n1.name p1,.Name n2.name p2] X.env:=by rfl)(yr:starEach [.Name n1.name p1,.Name n2.name p2] X.env=(false,eval (.Name n1.name p1) X.env)::starEach [.Name n2.name p2] X.env:=by rfl)(hs3:starEach [.Name n2.name p2] X.env=(false,eval (.Name n2.name p2) X.env)::starEach [] X.env:=by rfl)(bh:(backTo pos (starEach [.Name n1.name p1,.Name n2.name p2] X.env)).any (·.1)=false:=by rfl):
  PE X (.Call (.Name x p) [e,.Name n1.name p1,.Name n2.name p2] [] pos) (gq X n1 n2 clos1 clos2 f M):=by
 intro pins s σ H Q I ⟨H9,O0,O,ρ,xo,fa2,E,h1,h2,md1,md2,q⟩;have vis:∀{y:Str},Loc X.env.scope y->AR X.env.scope y:=λh=>h.elim .inl λz=>.inr (.inl z);have nu:PA X [e,.Name n1.name p1,.Name n2.name p2] _:=S6 he (S6 (Q6 ph.nm (vis ph.lc) ph.dbg ph.cdt) (S6 (Q6 qa.nm (vis qa.lc) qa.dbg qa.cdt) fG hs3) yr) ya;refine aAT (tN I hg hm ?_ gv);refine PySem.W.callWith_K (h₀:=X.base) I.ok.mod.kin hk (C1 (nu pos pins s σ H (λvs H1=>∃v1 d1 w1 w2 d,vs=[v1,.ref xo,.ref fa2]/\Same H H1/\Rep X.K H1 O v1 d1/\cV n1.js ρ=.ok w1/\cV n2.js ρ=.ok w2/\M d1 (n1.mm w1) (n2.mm w2)=.ok d/\∀v H',Same H1 H'->Rep X.K H' O v d->Q v H') I ⟨H9,O0,O,ρ,E,?_⟩) λus s1 ⟨vs,H1,I1,r,v1,d1,w1,w2,d,ev,sm,r1,c1,c2,em,qq⟩=>⟨I1.kIn,?_⟩) ya bh
 ·cases e1:f ρ with
  |ex z=>rw[e1]at q;exact q
  |bad=>rw[e1]at q;exact q
  |ok d1=>
   rw[e1,R.aa0]at q;cases e2:cV n1.js ρ with
   |ex z=>rw[e2]at q;exact(q H<|Same.refl _).elim
   |bad=>rw[e2]at q;exact q.elim
   |ok w1=>
    rw[e2,R.aa0]at q;cases e3:cV n2.js ρ with
    |ex z=>rw[e3]at q;exact(q H<|Same.refl _).elim
    |bad=>rw[e3]at q;exact q.elim
    |ok w2=>
     rw[e3,R.aa0]at q;cases e4:M d1 (n1.mm w1) (n2.mm w2)with
     |ex z=>rw[e4]at q;exact(q H<|Same.refl _).elim
     |bad=>rw[e4]at q;exact q.elim
     |ok d=>rw[e4]at q;exactλv1 H1 s1 r1=>⟨_,h1,_,h2,v1,d1,w1,w2,d,rfl,s1,r1,rfl,rfl,e4,λv H' s2 r2=>q v H' (s1.trans s2) r2⟩
 ·subst ev;have E1:=E.grow sm;generalize ui:S7 s1.heap (clos1++clos2)=cs;have hn:∀b o,cs.lookup b=some o->s1.heap.get? b=some o/\H1 b=none/\uH o:=λb o z=>by rw[<-ui]at z;obtain⟨e1,y,hm⟩:=J4 z;obtain⟨v,o',e2,e3⟩:=I1.cell y b (hA y b hm);rw[e1]at e2;cases e2;exact⟨e1,I1.freeC y b (hA y b hm),v,e3⟩
  have hn0:∀b o,cs.lookup b=some o->H1 b=none:=λb o z=>(hn b o z).2.1;have smf:Same H1 (cO H1 cs):=cW hn0;have E2:=E1.grow smf;have e0:=I1.af1;have nofr:∀b o,cs.lookup b=some o->b∉xD X.stack:=λb o z hb=>by
   rw[<-ui]at z;obtain⟨_,y,hmy⟩:=J4 z;rcases aAd.mp (I1.ab2 b hb)with e|hb
   ·exact I1.cne y b (hA y b hmy) e
   ·obtain⟨_,o',ho,_⟩:=I1.ok.funs.mem hb;exact absurd (aAr (aAf ho)<|I1.ok.cab y b (wg y)<|hA y b hmy) (aBc _)
  have nob:∀b o,X.base.get? b=some o->cs.lookup b=none:=λb o e=>by
   cases z:cs.lookup b with
   |none=>rfl
   |some o'=>rw[<-ui]at z;obtain⟨_,y,hm⟩:=J4 z;exact absurd (aAr (aAf e)<|aAs I1.ok.bsz<|I1.ok.cab y b (wg y)<|hA y b hm) (aBc _)
  have e2:Env0 X.prog X.w X.K X.mg X.base X.A X.stack s1 (cO H1 cs):=⟨e0.frames,e0.mod,λb o e=>⟨(e0.bs b o e).1,by rw[P7 (nob b o e)];exact(e0.bs b o e).2⟩,e0.bsz,e0.funs,λb hb=>by
   cases z:cs.lookup b with
   |none=>rw[P7 z];exact e0.frf b hb
   |some o=>exact absurd hb (nofr b o z),MB e0.hok λb o z=>⟨(hn b o z).1,(hn b o z).2.1⟩,e0.bare⟩
  have cl1:=xW ph xn I1 E1 (λp hp=>aBB _ hp) hA (md1.same sm) c1;have cl2:=xW qa jf I1 E1 (λp hp=>aAD _ hp) hA (md2.same sm) c2;rw[ui]at cl1 cl2;have hl:us.length=ps3.length:=by rw[<-r.length,h3];rfl
  have hbs:=hb s1 us I1.kIn (by rw[aCv];exact hl);rw[aCv]at hbs;refine wpAny_call (aDG (FF.run X.A X.stack s1 (cO H1 cs) ⟨us,[]⟩ us _ (λv H'=>Q v (Q3 H' cs)) (λ_ _ _=>False) hr e2 hbs r ⟨O,v1,d1,xo,_,fa2,_,d,rfl,r1.same smf,cl1,cl2,E2.trk,E2.tab,nR I1 O E1.trk,em,λv H' s2 r2=>?_⟩) λrr s' hq=>?_)
  ·have hz:∀b o,cs.lookup b=some o->H' b=some (.frz o (.own b)):=λb o z=>s2 _ _ (dJ z);refine qq v _ (λb u e=>v9 hz (s2 b u<|smf b u e) λo z _=>?_) (r2.hid hz);rw[hn0 b o z]at e;cases e
  ·cases rr with
   |error e=>exact hq.elim
   |ok fl=>
    cases fl with
    |next=>exact aAi hq
    |brk=>exact aAi hq
    |cont=>exact aAi hq
    |ret u=>obtain⟨v,H',os,bare,un,hok,rv,qv⟩:=hq;obtain⟨U2,k2,_⟩:=XS un hok hn;exact I1.after ⟨v,_,os,bare,U2,k2,rv,qv⟩
def GX (ph:NstOk X k n1)(qa:NstOk X k n2)(xn:ClosOk X n1 clos1)(jf:ClosOk X n2 clos2)(hA:∀x b,(x,b)∈clos1++clos2->X.env.cells.lookup x=some b)(hB:iP X.mg X.base)(ji:X.env.code=.ref c)(hK:PySem.W.codeHdIn X.K c Pt=true)(hTt:(Pt,tb)∈Tabs.tbs)(hm1:(n1.pos,n1.qual)∈tb)(jv:(n2.pos,n2.qual)∈tb)(cu:∀p∈tb,p.1.line=n1.pos.line->p.1.col=n1.pos.col->p.2=n1.qual)(hu2:∀p∈tb,p.1.line=n2.pos.line->p.1.col=n2.pos.col->p.2=n2.qual)(ae:n1.i≠n2.i)(hN:X.N.Nodup)(FF:FnOk X.prog X.w X.K X.mg X.base uI kf g gd ps3 (iq X.K (HY X.prog X.w X.K X.mg X.base (k+1) 1) M))(hr:Room kf X.A)(hm:X.mg x=some (.ref g))(hk:PySem.W.keepIn X.K (.ref g)=true)(hb:Binds X.K gd ps3 [])(h3:ps3.length=3)(he:PD X e f)(wg:∀y,X.fn y=true)(hg:Gl X x:=by rfl)(gv:(x==("__debug__":Str))=false:=by decide)(ya:starEach [e,.Name n1.name p1,.Name n2.name p2] X.env=(false,eval e X.env)::starEach [.Name n1.name p1,.Name n2.name p2] X.env:=by rfl)(yr:starEach [.Name n1.name p1,.Name n2.name p2] X.env=(false,eval (.Name n1.name p1) X.env)::starEach [.Name n2.name p2] X.env:=by rfl)(hs3:starEach [.Name n2.name p2] X.env=(false,eval (.Name n2.name p2) X.env)::starEach [] X.env:=by rfl)(bh:(backTo pos (starEach [.Name n1.name p1,.Name n2.name p2] X.env)).any (·.1)=false:=by rfl):
  bG X [n1.stmt,n2.stmt,.Return (some (.Call (.Name x p) [e,.Name n1.name p1,.Name n2.name p2] [] pos)) rpos] (λρ=>((f ((ρ.set n1.i .no).set n2.i .no)).bind λd1=>(cV n1.js ((ρ.set n1.i .no).set n2.i .no)).bind λw1=>(cV n2.js ((ρ.set n1.i .no).set n2.i .no)).bind λw2=>M d1 (n1.mm w1) (n2.mm w2)).bind λd=>.ok (.rt d)):=by
 intro H9 O0 pins s σ H D I ⟨O,ρ,E,fk,q⟩;refine aEj (xH (σ:=σ) I hB ji hK (E.tab _ hTt) xn.qn hm1 cu xn.eq ph.d0 ph.k0 xn.ann hN ph.nm ph.lc ph.st λxo H1 s1 I1 sm1 md1=>?_);have E1:EnvOk X.K H9 O0 H1 O (σ.set n1.i<|some<|.ref xo) (ρ.set n1.i .no):=(E.grow sm1).put n1.i (λz=>z) trivial;refine aEj (xH (σ:=σ.set n1.i (some<|.ref xo)) I1 hB ji hK (E1.tab _ hTt) jf.qn jv hu2 jf.eq qa.d0 qa.k0 jf.ann hN qa.nm qa.lc qa.st λfa2 H2 s2 I2 yb md2=>?_);have E2:EnvOk X.K H9 O0 H2 O ((σ.set n1.i<|some<|.ref xo).set n2.i (some<|.ref fa2)) ((ρ.set n1.i .no).set n2.i .no):=(E1.grow yb).put n2.i (λz=>z) trivial;have l1:n1.i<σ.length:=by rw[I.len];exact(aAC.mp ph.nm).1
 have l2:n2.i<σ.length:=by rw[I.len];exact(aAC.mp qa.nm).1
 refine EJ (LR<|PX ph qa xn jf hA FF hr hm hk hb h3 he wg hg gv ya yr hs3 bh) pins s2 _ H2 D I2 ⟨H9,O0,O,_,xo,fa2,E2,?_,?_,md1.same yb,md2,?_⟩
 ·rw[aCo (aBV ae),aBD l1]
 ·rw[aBD (by rw[aFH];exact l2)]
 ·revert q;dsimp only;generalize((f<|(ρ.set n1.i .no).set n2.i .no).bind λd1=>(cV n1.js<|(ρ.set n1.i .no).set n2.i .no).bind λw1=>(cV n2.js<|(ρ.set n1.i .no).set n2.i .no).bind λw2=>M d1 (n1.mm w1) (n2.mm w2))=rr;intro q;cases rr with
  |ok d=>exactλv H' s r=>q v H' (E2.same.trans s) (r.sub E2.sub)
  |ex z=>exactλH' s=>q H' (E2.same.trans s)
  |bad=>exact q
end
def uW (K:PySem.W.Frag):Sp:=λvs H Q _=>∃(a:Addr) (ns:List Int),vs=[.ref a]/\K0 K H a (ns.map V.int)/\ns.length<=63/\(∀x∈ns,aAR x<=1048576)/\Tb H/\∀H',Q (.bl true) H'
def RK {P:Program}{w:World}{K:PySem.W.Frag}{mg:bX}{base:Heap}{k:Nat}{f:Addr}{fd:FuncData}{m:List D->R D}(F:FnOk P w K mg base uI k f fd ["script"] (YK K 1 m))
  (h:∀ns:List Int,ns.length<=63->(∀x∈ns,aAR x<=1048576)->m [.lst (ns.map D.int)]=.ok (.bl true)):FnOk P w K mg base uI k f fd ["script"] (uW K):=
 F.imp λvs H Q E ⟨a,ns,e,hS,hl,hb,tb,q⟩=>⟨λ_=>False,_,_,by rw[e];exact .cons (.lst hS (λz=>z) (Reps.ints ns)) .nil,rfl,λ_ z=>z.elim,tb,λ_ _ _ z=>z,h ns hl hb,λv H' _ r=>by cases r;exact q H'⟩
def FC {P:Program}{w:World}{K:PySem.W.Frag}{mg mb:bX}{k:Nat}{fa a:Addr}{fd:FuncData}{aa:Shared}{vs:List Value}{ns:List Int}
  (KX:K.In aa.heap) (xv:aa.heap.Ns mainGlobals mg) (hb:aa.heap.Ns builtinsNs mb) (hbb:∀x:Str,x≠ "__name__"->mb x=bootBuiltins x) (hlim:aa.heap.NoLimit) (hB:iP mg aa.heap) (hg:aa.gens=#[])
  (ha:aa.heap.get? a=some {cls:=.type "list",data:=.seq vs.toArray}) (hi:IntsAre vs ns) (hl:ns.length<=63) (vt:∀x∈ns,aAR x<=1048576) (hr:Room k callerA)
  (hT:∀p∈Tabs.tbs,aa.heap.get? p.1=some (PySem.W.tabObj #[])/\isCodeTable aa.heap p.1) (hTd:(Tabs.tbs.map (·.1)).Nodup) (hKn:PySem.W.noTabs K=true)
  (F:∀base:Heap,K.In base->base.Ns mainGlobals mg->iP mg base->FnOk P w K mg base uI k fa fd ["script"] (uW K)) (vp:∀(s:Shared) (u:Value),BindsTo s fd ⟨[u],[]⟩ [("script",u)]):
  codeAny (model P w) callerA (.call (.ref fa) ⟨[.ref a],[]⟩) (λr s'=>r=.ok (.ret (.bool true))/\OldK aa.heap s'.heap/\s'.os=aa.os/\AllBare s'.gens) aa:=by
 have rv:=L2.M6 hi;have lenV:=hi.length;have gu:ns.length<=sizeLine:=aAs hl (by decide);have qu:∀b tb,Tabs.tbs.lookup b=some tb->aa.heap.get? b=some (PySem.W.tabObj #[])/\isCodeTable aa.heap b:=λb tb e=>hT (b,tb) (mem_lookup e);have nta:Tabs.tbs.lookup a=none:=by
  cases e:Tabs.tbs.lookup a with
  |none=>rfl
  |some tb=>have:=(qu a tb e).1;rw[ha]at this;cases this
 have noK:∀b o,K.lookup b=some o->Tabs.tbs.lookup b=none:=λb o e=>by
  cases z:Tabs.tbs.lookup b with
  |none=>rfl
  |some tb=>have e1:=KX b o e;rw[(qu b tb z).1]at e1;cases e1;have h2:=aBU.mp hKn (b,_) (PySem.W.mem_of_lookupK e);exact absurd (show false=true from h2) aAQ
 let put:Hp->Hp:=λH b=>match Tabs.tbs.lookup b with
  |some tb=>some (.tbl tb)
  |none=>H b
 have pB:∀(H:Hp) b tb,Tabs.tbs.lookup b=some tb->put H b=some (.tbl tb):=λH b tb e=>by show(match Tabs.tbs.lookup b with|some tb=>some (HO.tbl tb)|none=>H b)=_;rw[e]
 have gi:∀(H:Hp) b,Tabs.tbs.lookup b=none->put H b=H b:=λH b e=>by show(match Tabs.tbs.lookup b with|some tb=>some (HO.tbl tb)|none=>H b)=_;rw[e]
 have core:∀H0:Hp,(∀b,H0 b=none\/∃xs,H0 b=some (.frz {cls:=.type "list",data:=.seq vs.toArray} (.lst xs)))->K0 K (put H0) a (ns.map V.int)->(∀b u,H0 b=some u->ObjOk P w (put H0) aa.heap b u)->(∀b,H0 b≠none->b=a)->(H0 a≠none->K.lookup a=none)->
   codeAny (model P w) callerA (.call (.ref fa) ⟨[.ref a],[]⟩) (λr s'=>r=.ok (.ret (.bool true))/\OldK aa.heap s'.heap/\s'.os=aa.os/\AllBare s'.gens) aa:=by
  intro H0 hO hS hok0 hA hK;have hok:fF P w (put H0) aa.heap:=λb u e=>by
   cases z:Tabs.tbs.lookup b with
   |none=>rw[gi _ b z]at e;exact hok0 b u e
   |some tb=>rw[pB _ b tb z]at e;cases e;exact⟨#[],(qu b tb z).1,trivial,λp _=>.inl rfl⟩
  have lg:∀{b:Addr} {o:Obj},aa.heap.get? b=some o->put H0 b=none->(qK aa.heap<|put H0).get? b=some o:=λe n=>JR e n;have none_of:∀{b:Addr} {o:Obj},aa.heap.get? b=some o->o≠PySem.W.tabObj #[]->o≠{cls:=.type "list",data:=.seq vs.toArray}->put H0 b=none:=λ{b o} e n1 n2=>by
   cases z:Tabs.tbs.lookup b with
   |some tb=>have:=(qu b tb z).1;rw[e]at this;exact absurd (aAj this) n1
   |none=>
    rw[gi _ b z];cases q:H0 b with
    |none=>rfl
    |some u=>have e':b=a:=hA b (by rw[q];simp);subst e';rw[ha]at e;exact absurd (aAj e).symm n2
  have nsK:∀{b:Addr} {m:bX},aa.heap.Ns b m->(qK aa.heap<|put H0).Ns b m:=λ{b m} ⟨o,es,ep,e,d,r⟩=>⟨o,es,ep,lg e (none_of e (λz=>by rw[z]at d;cases d) λz=>by rw[z]at d;cases d),d,r⟩;have hKb:K.In (qK aa.heap<|put H0):=λb o e=>lg (KX b o e) (by
   rw[gi _ b (noK b o e)];cases q:H0 b with
   |none=>rfl
   |some u=>have e':b=a:=hA b (by rw[q];simp);subst e';rw[hK (by rw[q];simp)]at e;cases e)
  have hBb:iP mg (qK aa.heap<|put H0):=by obtain⟨bm,ob,b1,b2,b3,b4,b5,b6⟩:=hB;exact⟨bm,ob,b1,b2,lg b3 (none_of b3 (λz=>by rw[z]at b6;cases b6) λz=>by rw[z]at b6;cases b6),b4,b5,b6⟩
  have hM:Mod K mg (qK aa.heap<|put H0):=⟨hKb,nsK xv,⟨mb,nsK hb,hbb⟩,let⟨mc,h1,h2⟩:=hlim;⟨mc,nsK h1,h2⟩⟩;have e0:Env0 P w K mg (qK aa.heap<|put H0) callerA [] aa (put H0):=⟨rfl,hM,λb o e=>OT e,aEe (FI _ _),trivial,λb hb=>absurd (show b∈([]:List Addr)from hb) (by simp),hok,.of_eq hg⟩;have tb0:Tb (put H0):=λp hp=>pB _ p.1 p.2 (aI hTd hp);refine aDG ((F _ hKb (nsK xv) hBb).run callerA [] aa (put H0) ⟨[.ref a],[]⟩ [.ref a] [.ref a] (λv _=>v=.bl true) (λ_ _ _=>False) hr e0 (vp aa<|.ref a) (.cons rfl .nil) ⟨a,ns,rfl,hS,hl,vt,tb0,λ_=>rfl⟩) λr s' h=>?_;cases r with
  |error e=>exact(show False from h).elim
  |ok fl=>
   cases fl with
   |next=>exact aAi h
   |brk=>exact aAi h
   |cont=>exact aAi h
   |ret u=>
    obtain⟨v,H',os,bare,un,yc,r',q⟩:=h;have q':v=.bl true:=q;subst q';obtain rfl:u=aDq true:=r';have each:∀b o,aa.heap.get? b=some o->s'.heap.get? b=some o\/(isCodeTable aa.heap b/\o=PySem.W.tabObj #[]/\∃ps,s'.heap.get? b=some (PySem.W.tabObj ps)):=λb o e=>by
     cases z:Tabs.tbs.lookup b with
     |some tb=>have:=(qu b tb z).1;rw[e]at this;obtain⟨ps,hps,_⟩:=yc b _ (un.tbls b tb<|pB _ b tb z);exact .inr ⟨(qu b tb z).2,aAj this,ps,hps⟩
     |none=>
      refine .inl ?_;rcases hO b with n|⟨xs,n⟩
      ·exact un.keep b o e (by rw[gi _ b z];exact n) (by intro z;exact absurd (show b∈([]:List Addr)from z) (by simp)) (by simp)
      ·have z1:put H0 b=some (.frz {cls:=.type "list",data:=.seq vs.toArray} (.lst xs)):=by rw[gi _ b z];exact n
       have z2:=un.frzs b _ _ z1;obtain⟨e1,_⟩:=hok b _ z1;obtain⟨e2,_⟩:=yc b _ z2;rw[e]at e1;cases e1;exact e2
    refine⟨rfl,⟨λb o e=>?_,λb o e=>?_⟩,os,bare⟩
    ·rcases each b o e with h|⟨h1,h2,ps,h3⟩
     ·exact .inl h
     ·subst h2;exact .inr (.inl ⟨h1,rfl,#[],ps,rfl,by rw[Array.empty_append];exact h3⟩)
    ·rcases each b o e with h|⟨h1,h2,ps,h3⟩
     ·exact⟨o,h⟩
     ·exact⟨_,h3⟩
 cases hk:K.lookup a with
 |some o=>have e:=KX a o hk;rw[ha]at e;cases e;refine core (λ_=>none) (λ_=>.inl rfl) (.inr ⟨_,vs.toArray,_,hk,rfl,rfl,rfl,by rw[aAk,lenV];exact gu,by simpa using rv⟩) (λb u z=>by have z':(none:Option HO)=some u:=z;cases z') (λb z=>absurd rfl z) λz=>absurd rfl z
 |none=>
  obtain⟨H0,h1,h2⟩:∃H0:Hp,H0 a=some (.frz {cls:=.type "list",data:=.seq vs.toArray} (.lst (ns.map V.int)))/\∀b,b≠a->H0 b=none:=⟨λb=>if b=a then _ else none,if_pos rfl,λb hb=>if_neg hb⟩;refine core H0 (λb=>?_) (.inl (.inr ⟨{cls:=.type "list",data:=.seq vs.toArray},(gi H0 a nta).trans h1⟩)) (λb u z=>?_) (λb z=>?_) λ_=>hk
  ·by_cases hb:b=a
   ·subst hb;exact .inr ⟨_,h1⟩
   ·exact .inl (h2 b hb)
  ·by_cases hb:b=a
   ·subst hb;rw[h1]at z;cases z;exact⟨ha,by rw[aAm];exact gu,vs,_,rv,ha⟩
   ·rw[h2 b hb]at z;cases z
  ·by_cases hb:b=a
   ·exact hb
   ·exact absurd (h2 b hb) z
def SH {l:PySem.W.OpenLaw}{k:Nat}{q:Program}{loose:List Str}{XP:(Str->Option Value)->Heap->Prop}{YP:World->Heap->Prop}{d:DefRec}{K:Params->PySem.W.Frag}{ts:List Addr}
  (hn:l.most=some 63) (hdf:d.params.defaults=[]) (hr:Room k callerA)
  (hY:∀(w:World) (h:Heap),YP w h->(K w.params).In h/\∀P∈ts,h.get? P=some (PySem.W.tabObj #[]))
  (hTs:∀p∈Tabs.tbs,p.1∈ts/\∃c,∀w:World,PySem.W.codeHdIn (K w.params) c p.1=true) (hTd:(Tabs.tbs.map (·.1)).Nodup) (hKn:∀w:World,PySem.W.noTabs (K w.params)=true)
  (F:∀(w:World) (mg:bX) (fa:Addr) (h:Heap),(K w.params).In h->h.Ns mainGlobals mg->mg d.name=some (.ref fa)->
   ∃fd:FuncData,(∀(s:Shared) (u:Value),BindsTo s fd ⟨[u],[]⟩ [("script",u)])/\
    ∀base:Heap,(K w.params).In base->base.Ns mainGlobals mg->iP mg base->FnOk l.prog w (K w.params) mg base uI k fa fd ["script"] (uW (K w.params))):
  PySem.W.WalkO q loose XP YP l.row.toRowW d [] (λf vs=>PySem.call f vs):=by
 refine Att2.attach_bits hn hdf λw s9 aa mg mb fa o pm cd doc a vs ns G Y ho hd fb mi hobj hints hlen vt hg=>?_;obtain⟨KX,hT⟩:=hY w _ Y;obtain⟨fd,hb,hF⟩:=F w mg fa _ KX G.T.g mi;refine FC KX G.T.g G.T.b G.T.builtins G.T.nolimit G.T.bmain hg hobj hints hlen vt hr (λp hp=>?_) hTd (hKn w) hF hb;obtain⟨h1,c,h2⟩:=hTs p hp;have h3:=hT p.1 h1;exact⟨h3,((PySem.W.codeHd_of_K KX<|h2 w).tab h3).isCodeTable⟩
section
variable{K:PySem.W.Frag}
structure FunC (K:PySem.W.Frag)(x qual:Str)(st:Stmt)(f:Addr)(fd:FuncData)(cd:Addr):Prop where
 ex:∃(oc:Value) (od:Option Addr) (kV doc pm:Value) (an:Option Addr) (ct:Value) (osl:Array (Option Value)),
  fd=PySem.W.fnOf x qual (C8 st) (t5 st) (c6 st) .none kV doc pm an (.ref cd) ct/\K.lookup f=some ⟨oc,od,.func fd,osl⟩/\PySem.W.codeIn K (.ref cd) qual=true
 kp:PySem.W.keepIn K (.ref f)=true
omit [Tabs]in
def FunC.fn {x qual:Str}{st:Stmt}{f:Addr}{fd:FuncData}{cd:Addr}(F:FunC K x qual st f fd cd):Fun K x qual st f fd:=
 let⟨oc,od,kV,doc,pm,an,ct,osl,h1,h2,h3⟩:=F.ex
 ⟨⟨oc,od,kV,doc,pm,an,.ref cd,ct,osl,h1,h2,h3⟩,F.kp⟩
omit [Tabs]in
def QL {x qual:Str}{st:Stmt}{f cd:Addr}{oc:Value}{od an:Option Addr}{osl:Array (Option Value)}{kV doc pm cdv ct:Value}(l:K.lookup f=some ⟨oc,od,.func (PySem.W.fnOf x qual (C8 st) (t5 st) (c6 st) .none kV doc pm an cdv ct),osl⟩)
  (e:cdv=.ref cd) (c:PySem.W.codeIn K cdv qual=true) (k:PySem.W.keepIn K (.ref f)=true):FunC K x qual st f (PySem.W.fnOf x qual (C8 st) (t5 st) (c6 st) .none kV doc pm an cdv ct) cd:=by
 subst e;exact⟨⟨oc,od,kV,doc,pm,an,ct,osl,rfl,l,c⟩,k⟩
def xx {x qual:Str}{st:Stmt}{f cd:Addr}{fd:FuncData}{N ps:List Str}{k:Nat}{m:List D->R D}{F:Ev->R Out}(F0:FunC K x qual st f fd cd)(S:FnScope N ps (c6 st))
  (hb:∀(A:Around) (outer:List Env) (s:Shared) (H:Hp) (E:XK),Room k (A.deeper (envOfC qual (c6 st) s.heap.objs.size f (.ref cd)))->bG (OY P w K mg base N qual (c6 st) f (.ref cd) A outer s H E) (t5 st) F)
  (hm:∀ds d,ds.length=ps.length->m ds=.ok d->P8 (F (j2 N ds))=.ok d):FnOk P w K mg base uI (k+1) f fd ps (YK K ps.length m):=by
 obtain⟨oc,od,kV,doc,pm,an,ct,osl,rfl,lk,fb⟩:=F0.ex;refine TY lk fb S (λvs H Q E ⟨O,ds,d,r,hl,_⟩=>by rw[r.length];exact hl) λA outer s H vs Q E hr ⟨O,ds,d,r,hl,ht,tb,fk,e,q⟩=>?_;refine⟨_,sW.nox (hb A outer s H E hr H O),O,_,rE r ht tb,fk,?_⟩;have h:=hm ds d hl e;cases e1:F (j2 N ds)with
 |ok o=>
  rw[e1]at h;cases o with
  |rt d'=>have h':R.ok d'=R.ok d:=h;injection h' with h';subst h';exact q
  |nx ρ=>have h':R.ok D.non=R.ok d:=h;injection h' with h';subst h';exactλah H' O' E' _ _=>q .non H' E'.same .non
  |bk ρ=>cases h
  |ct ρ=>cases h
 |ex x=>rw[e1]at h;cases h
 |bad=>rw[e1]at h;cases h
def RM {x qual:Str}{st:Stmt}{f cd:Addr}{fd:FuncData}{N ps:List Str}{k:Nat}{m:List D->R D}{F:Ev->R Out}(F0:FunC K x qual st f fd cd)(S:FnScope N ps (c6 st))(hb0:Binds K fd ps [])(mi:mg x=some (.ref f))
  (hb:∀(A:Around) (outer:List Env) (s:Shared) (H:Hp) (E:XK),Room k (A.deeper (envOfC qual (c6 st) s.heap.objs.size f (.ref cd)))->bG (OY P w K mg base N qual (c6 st) f (.ref cd) A outer s H E) (t5 st) F)
  (hm:∀ds d,ds.length=ps.length->m ds=.ok d->P8 (F (j2 N ds))=.ok d):u3 P w K mg base (k+1) x ps.length m:=
 ⟨f,fd,ps,xx F0 S hb hm,hb0,F0.kp,mi⟩
def QX (P:Program)(w:World)(K:PySem.W.Frag)(mg:bX)(base:Heap)(k kc:Nat)(x:Str)(M:D->(List D->R D)->(List D->R D)->R D):Prop:=
 ∃g gd ps,FnOk P w K mg base uI k g gd ps (iq K (HY P w K mg base kc 1) M)/\Binds K gd ps []/\PySem.W.keepIn K (.ref g)=true/\mg x=some (.ref g)/\ps.length=3
def QA {x qual:Str}{st:Stmt}{f:Addr}{fd:FuncData}{N ps:List Str}{k kc:Nat}{M:D->(List D->R D)->(List D->R D)->R D}{F:Ev->R Out}(F0:Fun K x qual st f fd)(S:FnScope N ps (c6 st))(h3:ps.length=3)(hb0:Binds K fd ps [])(mi:mg x=some (.ref f))
  (hb:∀(cdv:Value) (A:Around) (outer:List Env) (s:Shared) (H:Hp) (E:XK),Room k (A.deeper (envOfC qual (c6 st) s.heap.objs.size f cdv))->bG (OY P w K mg base N qual (c6 st) f cdv A outer s H E) (t5 st) F)
  (hm:∀d1 m1 m2 d,M d1 m1 m2=.ok d->P8 (F (jW N (HY P w K mg base kc 1) d1 m1 m2))=.ok d):QX P w K mg base (k+1) kc x M:=
 ⟨f,fd,ps,fnF F0 S h3 hb hm,hb0,F0.kp,mi,h3⟩
end
section
def xP (i:Nat){Φ:(List D->R D)->Hp->(Addr->Prop)->Addr->Prop}(hΦ:HY X.prog X.w X.K X.mg X.base k n=Φ)(ha:HZ X (e::es) f)(hl:HR f n)(hr:Room k X.A)(hN:X.N[i]?=some x:=by rfl)(hv:AR X.env.scope x:=by first|exact aCM rfl|exact aBN (aCM rfl)|exact aBN (aBN rfl))(hd:(x==("__debug__":Str))=false:=by decide)(fb:(x==("__classdict__":Str))=false:=by decide)(he:starEach (e::es) X.env=(false,eval e X.env)::starEach es X.env:=by rfl)(bh:(backTo pos (starEach es X.env)).any (·.1)=false:=by rfl):
  PD X (.Call (.Name x p) (e::es) [] pos) (callC Φ i f):=by
 subst hΦ;exact LW i ha hl hr hN hv hd fb he bh
def AI (ph:NstOk X k n1)(qa:NstOk X k n2)(xn:ClosOk X n1 clos1)(jf:ClosOk X n2 clos2)(hA:∀x b,(x,b)∈clos1++clos2->X.env.cells.lookup x=some b)(hB:iP X.mg X.base)(ji:X.env.code=.ref c)(hK:PySem.W.codeHdIn X.K c Pt=true)(hTt:(Pt,tb)∈Tabs.tbs)(hm1:(n1.pos,n1.qual)∈tb)(jv:(n2.pos,n2.qual)∈tb)(cu:∀p∈tb,p.1.line=n1.pos.line->p.1.col=n1.pos.col->p.2=n1.qual)(hu2:∀p∈tb,p.1.line=n2.pos.line->p.1.col=n2.pos.col->p.2=n2.qual)(ae:n1.i≠n2.i)(hN:X.N.Nodup)(cf:QX X.prog X.w X.K X.mg X.base kf (k+1) x M)(hr:Room kf X.A)(he:PD X e f)(wg:∀y,X.fn y=true)(hg:Gl X x:=by rfl)(gv:(x==("__debug__":Str))=false:=by decide)(ya:starEach [e,.Name n1.name p1,.Name n2.name p2] X.env=(false,eval e X.env)::starEach [.Name n1.name p1,.Name n2.name p2] X.env:=by rfl)(yr:starEach [.Name n1.name p1,.Name n2.name p2] X.env=(false,eval (.Name n1.name p1) X.env)::starEach [.Name n2.name p2] X.env:=by rfl)(hs3:starEach [.Name n2.name p2] X.env=(false,eval (.Name n2.name p2) X.env)::starEach [] X.env:=by rfl)(bh:(backTo pos (starEach [.Name n1.name p1,.Name n2.name p2] X.env)).any (·.1)=false:=by rfl):
  bG X [n1.stmt,n2.stmt,.Return (some (.Call (.Name x p) [e,.Name n1.name p1,.Name n2.name p2] [] pos)) rpos] (λρ=>((f ((ρ.set n1.i .no).set n2.i .no)).bind λd1=>(cV n1.js ((ρ.set n1.i .no).set n2.i .no)).bind λw1=>(cV n2.js ((ρ.set n1.i .no).set n2.i .no)).bind λw2=>M d1 (n1.mm w1) (n2.mm w2)).bind λd=>.ok (.rt d)):=by
 obtain⟨g,gd,ps,FF,hb,hk,hm,h3⟩:=cf;exact GX ph qa xn jf hA hB ji hK hTt hm1 jv cu hu2 ae hN FF hr hm hk hb h3 he wg hg gv ya yr hs3 bh
end
end DL
namespace DL
open PySem L2
def _root_.L2.Room.ae4 (r:Room k A):A.units+130<cLine:=by have:=r.un;lia
def _root_.L2.Room.ae7 (r:Room k A)(h:7<=k):A.units+300<cLine:=by have:=r.un;lia
def FX {y:Str}{b0:Addr}{cells:List (Str×Addr)}(h:cells.lookup y=some b0:=by rfl):∀(x:Str) (b:Addr),(x,b)∈[(y,b0)]++[(y,b0)]->cells.lookup x=some b:=λx b hm=>by
 have:(x,b)=(y,b0):=by simpa using hm
 injection this with h1 h2;subst h1 h2;exact h
def DO {sc:Scope}{fn:List Str}{x:Str}(h:sc.names.lookup x=some .free)(hs:(sc.names.all λp=>p.2 !=.free||fn.contains p.1)=true:=by decide+kernel):x∈fn:=by have h1:=aBU.mp hs _ (PySem.mem_of_lookup h);simpa using h1
def DD:Stmt->Pos
 |.FunctionDef _ _ _ _ _ _ _ _ _ p=>p
 |_=>⟨0,0,0,0⟩
end DL
namespace G
def T1 {a b:V}(h:a-b=0):a=b:=by have q1:=congrArg V.x h;have q2:=congrArg V.y h;have q3:=congrArg V.z h;simp at q1 q2 q3;exact ext (by lia) (by lia) (by lia)
def IsFace.aa2 (ho:pts.Pairwise (λa b=>i7 (b-a)))(h:IsFace pts n d):Sheet n (x5 n d pts)where
 nz:=h.prim.ne
 pl:=λX hX Y hY=>by have:=(d5.mp hX).2;have:=(d5.mp hY).2;rw[d8];lia
 ord:=aFR _ ho
 two:=by obtain⟨A,hA,B,hB,C,hC,a,b,c,e⟩:=h.three;refine⟨A,d5.mpr ⟨hA,a⟩,B,d5.mpr ⟨hB,b⟩,λz=>e ?_⟩;subst z;rw[w5];apply ext<;>simp
def IsFace.ac5 {pts:List V}{n:V}{d:Int}(h:IsFace pts n d){a b:V}(he:EdgeOf n (λX=>X∈x5 n d pts) a b):∃X∈x5 n d pts,0<i9 n (b-a) (X-a):=by
 by_cases z:∃X∈x5 n d pts,0<i9 n (b-a) (X-a)
 ·exact z
 ·exfalso;have hn:=h.prim.ne;obtain⟨pa,da⟩:=d5.mp he.p;obtain⟨pb,db⟩:=d5.mp he.q;have hba:c9 n (b-a)=0:=by rw[d8];lia
  have ae:b-a≠0:=λe=>he.ne (T1 e).symm;have k:∀X∈pts,c9 n X=d->cr (b-a) (X-a)=0:=λX hX dX=>by have tX:=d5.mpr ⟨hX,dX⟩;have l:=he.left X tX;have l':¬0<i9 n (b-a) (X-a):=λq=>z ⟨X,tX,q⟩;exact gA hn hba (by rw[d8];lia) (by lia)
  obtain⟨A,hA,B,hB,C,hC,eA,eB,eC,e⟩:=h.three;have k2:∀X∈pts,c9 n X=d->∀Y∈pts,c9 n Y=d->cr (X-Y) (b-a)=0:=λX hX dX Y hY dY=>by have q1:=k X hX dX;have q2:=k Y hY dY;have a1:=congrArg V.x q1;have a2:=congrArg V.y q1;have a3:=congrArg V.z q1;have b1:=congrArg V.x q2;have b2:=congrArg V.y q2;have b3:=congrArg V.z q2;simp at a1 a2 a3 b1 b2 b3;apply ext<;>simp<;>grind
  exact e (oJ ae (k2 B hB eB A hA eA)<|k2 C hC eC A hA eA)
def JX (hs:j9 pts)(hf:IsFace pts n d)(hg:IsFace pts m e)(h1:EdgeOf n (λX=>X∈x5 n d pts) a b)(h2:EdgeOf m (λX=>X∈x5 m e pts) b a)(hX:X∈x5 n d pts)(hx:0<i9 n (b-a) (X-a)):c9 m X<e:=by
 obtain⟨pX,dX⟩:=d5.mp hX;have le:=hg.sup X pX;by_cases z:c9 m X=e
 ·exfalso;obtain⟨pa,da⟩:=d5.mp h1.p;obtain⟨pb,db⟩:=d5.mp h1.q;obtain⟨_,ea⟩:=d5.mp h2.q;obtain⟨_,eb⟩:=d5.mp h2.p;obtain⟨Z,hZ,hz⟩:=hs.below hf.prim.ne hf.sup;have hc:cr (b-a) (X-a)≠0:=λq=>by unfold i9 at hx;rw[q,M0]at hx;lia
  obtain⟨rfl,rfl⟩:=iG hf.prim hg.prim hf.sup hg.sup da db dX ea eb z hc hZ hz;have:=h2.left X hX;have e1:i9 n (a-b) (X-b)=-i9 n (b-a) (X-a):=by simp[i9,c9];grind
  lia
 ·lia
def yO:List V->V
 |[]=>0
 |X::l=>X+yO l
theorem oH (n:V):∀l:List V,c9 n (yO l)=(l.map (c9 n)).sum
 |[]=>M0 n
 |X::l=>by simp only[yO,aAu,aDU];rw[bD,oH n l]
theorem zG {α:Type}(f g:α->Int):∀l:List α,(∀x∈l,f x<=g x)->(l.map f).sum<=(l.map g).sum
 |[],_=>aCm _
 |x::l,h=>by
  simp only[aAu,aDU];have:=h x (by simp);have:=zG f g l (λy hy=>h y (aAe _ hy))
  lia
theorem zJ {α:Type}(f g:α->Int):∀l:List α,(∀x∈l,f x<=g x)->(∃x∈l,f x<g x)->(l.map f).sum<(l.map g).sum
 |[],_,⟨x,hx,_⟩=>by cases hx
 |x::l,h,⟨y,hy,ai⟩=>by
  simp only[aAu,aDU];have h1:=h x (by simp);have h2:=zG f g l (λy hy=>h y (aAe _ hy));rcases aAd.mp hy with e|e
  ·subst e;lia
  ·have:=zJ f g l (λy hy=>h y (aAe _ hy)) ⟨y,e,ai⟩
   lia
theorem aF {α:Type}(c:Int):∀l:List α,(l.map λ_=>c).sum=(l.length:Int)*c
 |[]=>by simp
 |x::l=>by simp only[aAu,aDU,aAw];rw[aF c l];push_cast;grind
def A3 (pts:List V)(X:V):V:=(pts.length:Int)*X-yO pts
def R6 (pts:List V)(n:V)(d:Int):Int:=(pts.length:Int)*d-c9 n (yO pts)
def uM (pts:List V)(n X:V):c9 n (A3 pts X)=(pts.length:Int)*c9 n X-c9 n (yO pts):=by unfold A3;rw[d8,t6]
def cZ (hs:j9 pts)(hn:n≠0)(h:∀X∈pts,c9 n X<=d):0<R6 pts n d:=by
 unfold R6;rw[oH,<-aF];have:=zJ (c9 n) (λ_=>d) pts h (hs.below hn h)
 lia
def len_pos (hs:j9 pts):0<(pts.length:Int):=by
 obtain⟨A,hA,_⟩:=hs;have:0<pts.length:=aDX hA
 lia
def Y0 (h:c9 n X=d):c9 n (A3 pts X)=R6 pts n d:=by rw[uM,h];rfl
def nV (h:c9 n X<=d):c9 n (A3 pts X)<=R6 pts n d:=by
 rw[uM];unfold R6;have:=aAI h (show(0:Int)<=pts.length by lia)
 lia
def MH (hl:0<(pts.length:Int))(h:c9 n X<d):c9 n (A3 pts X)<R6 pts n d:=by
 rw[uM];unfold R6;have:=aEK h hl
 lia
def QE (pts:List V)(a b X:V):i9 (A3 pts a) (A3 pts b) (A3 pts X)=(pts.length:Int)*(pts.length:Int)*c9 (A3 pts a) (cr (b-a) (X-a)):=by unfold A3;generalize(pts.length:Int)=N;generalize yO pts=s;simp[i9,c9];grind
def wI (h:cr w c=0)(x y:V):c9 w y*c9 c x=c9 w x*c9 c y:=by
 have e:c9 w y*c9 c x-c9 w x*c9 c y=c9 (cr w c) (cr y x):=by simp[c9];grind
 rw[h]at e;have:c9 0 (cr y x)=0:=by simp[c9]
 lia
def CS (hs:j9 pts)(hf:IsFace pts n d)(ha:c9 n a=d)(hb:c9 n b=d)(hX:c9 n X=d)(h:0<i9 n (b-a) (X-a)):0<i9 (A3 pts a) (A3 pts b) (A3 pts X):=by
 rw[QE];have hl:=len_pos hs;refine aBh (aBh hl hl) ?_;have hn:=hf.prim.ne;have p:cr n (cr (b-a)<|X-a)=0:=I0 (by rw[d8];lia) (by rw[d8];lia);have q:=wI p n (A3 pts a);have h1:0<c9 n (A3 pts a):=by rw[Y0 ha];exact cZ hs hn hf.sup
 have h2:0<c9 (cr (b-a)<|X-a) n:=by rw[cH];exact h
 have h3:=aBh h1 h2;have h4:=z9 hn;rw[cH (A3 pts a)];by_cases z:0<c9 (cr (b-a)<|X-a) (A3 pts a)
 ·exact z
 ·exfalso;have:c9 n n*c9 (cr (b-a)<|X-a) (A3 pts a)<=0:=by have:=aAI (show c9 (cr (b-a)<|X-a) (A3 pts a)<=0 by lia) (aAF h4);simpa using this
  lia
def RP (hs:j9 pts)(hf:IsFace pts n d)(hg:IsFace pts m e)(h1:EdgeOf n (λX=>X∈x5 n d pts) a b)(h2:EdgeOf m (λX=>X∈x5 m e pts) b a)(hB:c9 m B*R6 pts n d<=c9 n B*R6 pts m e):0<=i9 (A3 pts a) (A3 pts b) B:=by
 obtain⟨X,hX,hx⟩:=hf.ac5 h1;have ai:=JX hs hf hg h1 h2 hX hx;obtain⟨pX,dX⟩:=d5.mp hX;obtain⟨pa,da⟩:=d5.mp h1.p;obtain⟨pb,db⟩:=d5.mp h1.q;obtain⟨_,ea⟩:=d5.mp h2.q;obtain⟨_,eb⟩:=d5.mp h2.p;have c0:=cZ hs hf.prim.ne hf.sup;have c1:=cZ hs hg.prim.ne hg.sup;have dp:=CS hs hf da db dX hx;by_cases z:0<=i9 (A3 pts a) (A3 pts b) B
 ·exact z
 ·exfalso;have wd:∀y,c9 (R6 pts n d*m-R6 pts m e*n) y=R6 pts n d*c9 m y-R6 pts m e*c9 n y:=λy=>by rw[cH,d8,t6,t6,cH y m,cH y n]
  have wa:c9 (R6 pts n d*m-R6 pts m e*n) (A3 pts a)=0:=by rw[wd,Y0 da,Y0 ea];grind
  have wb:c9 (R6 pts n d*m-R6 pts m e*n) (A3 pts b)=0:=by rw[wd,Y0 db,Y0 eb];grind
  have wx:c9 (R6 pts n d*m-R6 pts m e*n) (A3 pts X)<0:=by
   rw[wd,Y0 dX];have h3:=MH (len_pos hs) ai;have:=aEK h3 c0;have e1:R6 pts m e*R6 pts n d=R6 pts n d*R6 pts m e:=aGr _ _
   lia
  have p:=wI (I0 wa wb) (A3 pts X) B;have e2:c9 (cr (A3 pts a)<|A3 pts b) (A3 pts X)=i9 (A3 pts a) (A3 pts b) (A3 pts X):=S4 _ _ _;have e3:c9 (cr (A3 pts a)<|A3 pts b) B=i9 (A3 pts a) (A3 pts b) B:=S4 _ _ _;rw[e2,e3]at p;have r:0<c9 (R6 pts n d*m-R6 pts m e*n) (A3 pts X)*i9 (A3 pts a) (A3 pts b) B:=Int.mul_pos_of_neg_of_neg wx (by lia);rw[<-p]at r;have s:0<c9 (R6 pts n d*m-R6 pts m e*n) B:=by
   by_cases q:0<c9 (R6 pts n d*m-R6 pts m e*n) B
   ·exact q
   ·have:=aBd (show c9 (R6 pts n d*m-R6 pts m e*n) B<=0 by lia) (aAF dp);simp at this;lia
  rw[wd]at s;have e4:c9 m B*R6 pts n d=R6 pts n d*c9 m B:=aGr _ _;have e5:c9 n B*R6 pts m e=R6 pts m e*c9 n B:=aGr _ _
  lia
def BU {a b c d e f:Int}(hb:0<b)(hd:0<d)(hf:0<f)(h1:a*d<=c*b)(h2:c*f<=e*d):a*f<=e*b:=by
 have h3:=aBd h1 (aAF hf);have h4:=aBd h2 (aAF hb);have h5:(a*f)*d<=(e*b)*d:=by grind
 exact aEL h5 hd
theorem EL {α:Type}(p q:α->Int):∀(l:List α),l≠[]->(∀x∈l,0<q x)->∃x∈l,∀y∈l,p y*q x<=p x*q y
 |[],h,_=>absurd rfl h
 |[x],_,_=>⟨x,by simp,λy hy=>by simp at hy;subst hy;exact aCm _⟩
 |x::y::l,_,hq=>by
  obtain⟨z,hz,h⟩:=EL p q (y::l) (by simp) (λw hw=>hq w (aAe _ hw));by_cases c:p x*q z<=p z*q x
  ·refine⟨z,aAe _ hz,λw hw=>?_⟩;rcases aAd.mp hw with e|e
   ·subst e;exact c
   ·exact h w e
  ·refine⟨x,by simp,λw hw=>?_⟩;rcases aAd.mp hw with e|e
   ·subst e;exact aCm _
   ·exact BU (hq w hw) (hq z<|aAe _ hz) (hq x (by simp)) (h w e) (by lia)
theorem YZ (h:V->Int):∀(x:V) (l:List V),0<=h x->(∀z,(x::l).getLast?=some z->h z<=0)->l≠[]->∃u v,(u,v)∈q8 (x::l)/\0<=h u/\h v<=0
 |x,[],_,_,hl=>absurd rfl hl
 |x,y::r,h1,h2,_=>by
  by_cases c:h y<=0
  ·exact⟨x,y,by simp[q8],h1,c⟩
  ·match r,h2 with
   |[],h2=>exact absurd (h2 y rfl) c
   |z::r,h2=>obtain⟨u,v,m,p⟩:=YZ h y (z::r) (by lia) (λw hw=>h2 w (by rw[aBf];exact hw)) (by simp);exact⟨u,v,by simp only[q8]at m⊢;exact aAe _ m,p⟩
theorem lK:∀(l:List V) (x z w:V),(x::l).getLast?=some z->(z,w)∈q8 (x::l++[w])
 |[],x,z,w,h=>by simp at h;subst h;simp[q8]
 |y::l,x,z,w,h=>by rw[aBf]at h;have:=lK l y z w h;simp only[aAV,q8]at this⊢;exact aAe _ this
theorem gC:∀(l:List V) (x w:V),∀e∈q8 (x::l),e∈q8 (x::l++[w])
 |[],x,w,e,h=>by simp[q8]at h
 |y::l,x,w,e,h=>by
  simp only[aAV,q8]at h⊢;rcases aAd.mp h with q|q
  ·subst q;simp
  ·exact aAe _ (gC l y w e q)
def U6 (ho:pts.Pairwise (λa b=>i7 (b-a)))(hf:IsFace pts n d):∃r s t l,k9 n (x5 n d pts)=r::s::t::l:=by
 have S:=hf.aa2 ho;obtain⟨r,l,e,_⟩:=S.ab4;match l,e with
 |[],e=>
  have h:(r,r)∈T5 (k9 n<|x5 n d pts):=by rw[e];simp[T5]
  exact absurd rfl (S.pair h).ne
 |[s],e=>
  have h1:(r,s)∈T5 (k9 n<|x5 n d pts):=by rw[e];simp[T5]
  have h2:(s,r)∈T5 (k9 n<|x5 n d pts):=by rw[e];simp[T5]
  have g1:=S.pair h1;have g2:=S.pair h2;obtain⟨X,hX,hx⟩:=hf.ac5 g1;have:=g2.left X hX;have e1:i9 n (r-s) (X-s)=-i9 n (s-r) (X-r):=by simp[i9,c9];grind
  lia
 |s::t::l,e=>exact⟨r,s,t,l,e⟩
def rA (hs:j9 pts)(ho:pts.Pairwise (λa b=>i7 (b-a)))(fs:List (V×Int))(ae:fs≠[])(hf:∀f∈fs,IsFace pts f.1 f.2)(hc:∀f∈fs,∀a b,EdgeOf f.1 (λX=>X∈x5 f.1 f.2 pts) a b->∃g∈fs,EdgeOf g.1 (λX=>X∈x5 g.1 g.2 pts) b a)(hn:IsFace pts n d):(n,d)∈fs:=by
 obtain⟨B,hBd⟩:∃B,B=yO ((x5 n d pts).map (A3 pts)):=⟨_,rfl⟩;have dB:∀m,c9 m B=((x5 n d pts).map λX=>c9 m (A3 pts X)).sum:=λm=>by rw[hBd,oH,aBj];rfl
 have cn:=cZ hs hn.prim.ne hn.sup;have ub:∀m e,(∀X∈pts,c9 m X<=e)->c9 m B<=((x5 n d pts).length:Int)*R6 pts m e:=λm e hm=>by rw[dB,<-aF];exact zG _ _ _ λX hX=>nV (hm X (d5.mp hX).1)
 have eB:c9 n B=((x5 n d pts).length:Int)*R6 pts n d:=by rw[dB,<-aF];congr 1;exact aEF λX hX=>Y0 (d5.mp hX).2
 obtain⟨⟨m,e⟩,hm,htop⟩:=EL (λf:V×Int=>c9 f.1 B) (λf=>R6 pts f.1 f.2) fs ae λf h=>cZ hs (hf f h).prim.ne (hf f h).sup;have vv:=hf _ hm;have ins:∀a b,EdgeOf m (λX=>X∈x5 m e pts) a b->0<=i9 (A3 pts a) (A3 pts b) B:=λa b hab=>by obtain⟨g,hg,hg2⟩:=hc _ hm a b hab;exact RP hs vv (hf g hg) hab hg2 (htop g hg)
 have S:=vv.aa2 ho;obtain⟨r,s,t,l,er⟩:=U6 ho vv;have nd:=S.aa4;have pr:=λ{P Q}=>S.aa1 (P:=P) (Q:=Q);rw[er]at pr nd;have rm:r∈k9 m (x5 m e pts):=by rw[er];simp
 have on:∀X∈r::s::t::l,c9 m X=e:=λX hX=>by rw[<-er]at hX;exact(d5.mp<|S.aa3 hX).2
 obtain⟨z,hz⟩:∃z,(s::t::l).getLast?=some z:=by simp[aES]
 have c1:(r,s)∈T5 (r::s::t::l):=by rw[T9];simp[q8]
 have c2:(z,r)∈T5 (r::s::t::l):=by rw[T9];exact lK _ _ _ _ (by rw[aBf];exact hz)
 have w1:=ins _ _ (pr.mp c1);have w2:=ins _ _ (pr.mp c2);obtain⟨u,v,huv,hu,hv⟩:=YZ (λX=>i9 (A3 pts r) (A3 pts X) B) s (t::l) w1 (λy hy=>by
  have:y=z:=aAj (hy.symm.trans hz);subst this;have e1:i9 (A3 pts r) (A3 pts y) B=-i9 (A3 pts y) (A3 pts r) B:=by simp[i9,c9];grind
  lia) (by simp)
 have c3:(u,v)∈T5 (r::s::t::l):=by rw[T9];have:=gC (t::l) s r _ huv;simp only[aAV,q8]at this⊢;exact aAe _ this
 have g3:=pr.mp c3;have mu:u∈s::t::l/\v∈s::t::l:=by
  have:=huv;have hh:∀(l:List V) (p q:V),(p,q)∈q8 l->p∈l/\q∈l:=λl=>by
   induction l with
   |nil=>intro p q h;simp[q8]at h
   |cons x l ih=>
    intro p q h;match l,h,ih with
    |[],h,_=>simp[q8]at h
    |y::l,h,ih=>
     simp only[q8]at h;rcases aAd.mp h with c|c
     ·cases c;simp
     ·have:=ih p q c;exact⟨aAe _ this.1,aAe _ this.2⟩
  exact hh _ _ _ huv
 have nr:=(aAJ.mp nd).1;have ru:r≠u:=λq=>by subst q;exact nr mu.1
 have rv:r≠v:=λq=>by subst q;exact nr mu.2
 have st:=S.strict g3 rm ru rv;have du:=on u (aAe _ mu.1);have dv:=on v (aAe _ mu.2);have dr:=on r (by simp);have D0:=CS hs vv du dv dr st;have w3:=ins _ _ g3;have cram:=zI B (A3 pts r) (A3 pts u) (A3 pts v);have a1:i9 B (A3 pts u) (A3 pts v)=i9 (A3 pts u) (A3 pts v) B:=by simp[i9,c9];grind
 have a2:i9 B (A3 pts v) (A3 pts r)=-i9 (A3 pts r) (A3 pts v) B:=by simp[i9,c9];grind
 have a3:i9 B (A3 pts r) (A3 pts u)=i9 (A3 pts r) (A3 pts u) B:=by simp[i9,c9];grind
 have a4:i9 (A3 pts r) (A3 pts u) (A3 pts v)=i9 (A3 pts u) (A3 pts v) (A3 pts r):=by simp[i9,c9];grind
 rw[a1,a2,a3,a4]at cram;obtain⟨al,hal⟩:∃al,al=i9 (A3 pts u) (A3 pts v) B:=⟨_,rfl⟩;obtain⟨be,xp⟩:∃be,be=-i9 (A3 pts r) (A3 pts v) B:=⟨_,rfl⟩;obtain⟨ga,hga⟩:∃ga,ga=i9 (A3 pts r) (A3 pts u) B:=⟨_,rfl⟩;obtain⟨De,hDe⟩:∃De,De=i9 (A3 pts u) (A3 pts v) (A3 pts r):=⟨_,rfl⟩;rw[<-hal,<-xp,<-hga,<-hDe]at cram;have al0:0<=al:=by lia
 have be0:0<=be:=by lia
 have ga0:0<=ga:=by lia
 have De0:0<De:=by lia
 have cd:∀f:V,De*c9 f B=ga*c9 f (A3 pts v)+al*c9 f (A3 pts r)+be*c9 f (A3 pts u):=λf=>by
  have:=congrArg (c9 f) cram;rw[bD,bD,t6,t6,t6,t6]at this
  lia
 have q1:=cd m;rw[Y0 dr,Y0 du,Y0 dv]at q1;have q2:=cd n;have cm:=cZ hs vv.prim.ne vv.sup;have pt:∀X∈r::s::t::l,X∈pts:=λX hX=>by rw[<-er]at hX;exact(d5.mp<|S.aa3 hX).1
 have r1:=nV (pts:=pts) (hn.sup r (pt r (by simp)));have r2:=nV (pts:=pts) (hn.sup u<|pt u<|aAe _ mu.1);have r3:=nV (pts:=pts) (hn.sup v<|pt v<|aAe _ mu.2);have s1:=aAI r1 al0;have s2:=aAI r2 be0;have s3:=aAI r3 ga0;obtain⟨L,hL⟩:∃L:Int,L=((x5 n d pts).length:Int):=⟨_,rfl⟩;have ub1:=ub m e vv.sup;rw[<-hL]at eB ub1;have k1:De*L<=al+be+ga:=by
  have:(De*L)*R6 pts n d<=(al+be+ga)*R6 pts n d:=by
   rw[eB]at q2;have e1:De*L*R6 pts n d=De*(L*R6 pts n d):=aEu _ _ _;have e2:(al+be+ga)*R6 pts n d=al*R6 pts n d+be*R6 pts n d+ga*R6 pts n d:=by grind
   lia
  exact aEL this cn
 have k2:De*c9 m B=(al+be+ga)*R6 pts m e:=by rw[q1];grind
 have k3:(De*L)*R6 pts m e<=De*c9 m B:=by rw[k2];exact aBd k1 (aAF cm)
 have k4:L*R6 pts m e<=c9 m B:=by rw[aEu]at k3;exact aFb k3 De0
 have all:∀X∈x5 n d pts,c9 m X=e:=λX hX=>by
  have le:c9 m X<=e:=vv.sup X (d5.mp hX).1;by_cases z:c9 m X=e
  ·exact z
  ·exfalso;have:=zJ (λX=>c9 m (A3 pts X)) (λ_=>R6 pts m e) (x5 n d pts) (λY hY=>nV (vv.sup Y (d5.mp hY).1)) ⟨X,hX,MH (len_pos hs) (by lia)⟩;rw[<-dB,aF,<-hL]at this
   lia
 obtain⟨A,hA,B',hB',C,hC,ea,eb,ec,hcr⟩:=hn.three;obtain⟨Z,hZ,hz⟩:=hs.below hn.prim.ne hn.sup;obtain⟨rfl,rfl⟩:=iG hn.prim vv.prim hn.sup vv.sup ea eb ec (all A<|d5.mpr ⟨hA,ea⟩) (all B'<|d5.mpr ⟨hB',eb⟩) (all C<|d5.mpr ⟨hC,ec⟩) hcr hZ hz;exact hm
end G
namespace G
def j6 (pts:List V)(f:V×Int):List V:=k9 f.1 (x5 f.1 f.2 pts)
structure LInv (pts:List V)(p0:V×V)(fs:List (V×Int))(walked:V×V->Prop)(waiting:List (V×V)):Prop where
 face:∀f∈fs,IsFace pts f.1 f.2
 nd:fs.Nodup
 wk:∀e,walked e↔∃f∈fs,e∈T5 (j6 pts f)
 cl:∀f∈fs,∀a b,(a,b)∈T5 (j6 pts f)->(∃g∈fs,(b,a)∈T5 (j6 pts g))\/(b,a)∈waiting
 wt:∀p∈waiting,(∃f∈fs,(p.2,p.1)∈T5 (j6 pts f))\/(fs=[]/\p=p0)
 ne:fs=[]->waiting=[p0]
structure Good (pts:List V)(m:V):Prop where
 solid:j9 pts
 ord:pts.Pairwise (λa b=>i7 (b-a))
 mem:m∈pts
 least:∀X∈pts,X=m\/i7 (X-m)
section
variable{pts:List V} {m:V} (G:Good pts m) {fs:List (V×Int)} {walked:V×V->Prop} {waiting rest:List (V×V)} {p:V×V}
include G
theorem BB:LInv pts (e9 m pts) [] (λ_=>False) [e9 m pts]where
 face:=λf h=>by cases h
 nd:=aCL
 wk:=λe=>⟨λh=>h.elim,λ⟨f,h,_⟩=>by cases h⟩
 cl:=λf h=>by cases h
 wt:=λq h=>.inr ⟨rfl,by simpa using h⟩
 ne:=λ_=>rfl
theorem IN (h:LInv pts (e9 m pts) fs walked waiting)(hW:waiting=rest++[p])(hp:walked p):LInv pts (e9 m pts) fs walked rest:=by
 have hw:∀q,q∈waiting↔q=p\/q∈rest:=λq=>by rw[hW];simp[or_comm]
 obtain⟨f0,hf0,e0⟩:=(h.wk p).mp hp;have ae:fs≠[]:=λe=>by subst e;cases hf0
 refine⟨h.face,h.nd,h.wk,λf hf a b hab=>?_,λq hq=>h.wt q ((hw q).mpr (.inr hq)),λe=>absurd e ae⟩;rcases h.cl f hf a b hab with q|q
 ·exact .inl q
 ·rcases(hw (b,a)).mp q with z|z
  ·subst z;exact .inl ⟨f0,hf0,e0⟩
  ·exact .inr z
theorem vE (h:LInv pts (e9 m pts) fs walked waiting)(hp:p∈waiting)(hn:¬walked p):IsFace pts (b7 p.1 p.2 pts).1 (b7 p.1 p.2 pts).2/\b7 p.1 p.2 pts∉fs/\(fs≠[]->p∈T5 (j6 pts (b7 p.1 p.2 pts))):=by
 rcases h.wt p hp with⟨f,hf,he⟩|⟨e1,e2⟩
 ·have hfc:=h.face f hf;have S:=hfc.aa2 G.ord;have ed:=S.aa1.mp he;obtain⟨t1,t2⟩:=rV hfc.prim.ne hfc.sup (G.solid.below hfc.prim.ne hfc.sup) ed;have S':=t1.aa2 G.ord;have e3:p∈T5 (j6 pts<|b7 p.1 p.2 pts):=S'.aa1.mpr t2;exact⟨t1,λz=>hn ((h.wk p).mpr ⟨_,z,e3⟩),λ_=>e3⟩
 ·subst e1 e2;exact⟨fQ G.solid G.ord G.mem G.least,by simp,λz=>absurd rfl z⟩
theorem LF (h:LInv pts (e9 m pts) fs walked waiting)(hW:waiting=rest++[p])(hn:¬walked p){walked':V×V->Prop}(h1:∀e,walked' e↔walked e\/e∈T5 (j6 pts (b7 p.1 p.2 pts)))(h2:∀q,q∈waiting'↔q∈rest\/(q.2,q.1)∈T5 (j6 pts (b7 p.1 p.2 pts))):
  LInv pts (e9 m pts) (fs++[b7 p.1 p.2 pts]) walked' waiting':=by
 have hw:∀q,q∈waiting↔q=p\/q∈rest:=λq=>by rw[hW];simp[or_comm]
 obtain⟨n1,n2,n3⟩:=vE G h ((hw p).mpr (.inl rfl)) hn;refine⟨λf hf=>?_,?_,λe=>?_,λf hf a b hab=>?_,λq hq=>?_,λe=>by simp at e⟩
 ·rcases aAS.mp hf with z|z
  ·exact h.face f z
  ·have:f=b7 p.1 p.2 pts:=by simpa using z
   subst this;exact n1
 ·rw[aCR];exact⟨h.nd,by simp,λa ha b hb=>λe=>by
   have:b=b7 p.1 p.2 pts:=by simpa using hb
   subst e this;exact n2 ha⟩
 ·rw[h1,h.wk];constructor
  ·rintro(⟨f,hf,he⟩|he)
   ·exact⟨f,aBB _ hf,he⟩
   ·exact⟨_,aAD _ (by simp),he⟩
  ·rintro⟨f,hf,he⟩;rcases aAS.mp hf with z|z
   ·exact .inl ⟨f,z,he⟩
   ·have:f=b7 p.1 p.2 pts:=by simpa using z
    subst this;exact .inr he
 ·rcases aAS.mp hf with z|z
  ·rcases h.cl f z a b hab with⟨g,hg,e⟩|q
   ·exact .inl ⟨g,aBB _ hg,e⟩
   ·rcases(hw (b,a)).mp q with y|y
    ·have ae:fs≠[]:=λe=>by subst e;cases z
     exact .inl ⟨b7 p.1 p.2 pts,aAD _ (by simp),by rw[y];exact n3 ae⟩
    ·exact .inr ((h2 _).mpr (.inl y))
  ·have:f=b7 p.1 p.2 pts:=by simpa using z
   subst this;exact .inr ((h2 _).mpr (.inr hab))
 ·rcases(h2 q).mp hq with z|z
  ·rcases h.wt q ((hw q).mpr (.inr z))with⟨f,hf,e⟩|⟨e1,e2⟩
   ·exact .inl ⟨f,aBB _ hf,e⟩
   ·have:=h.ne e1;exfalso;rw[hW]at this;have hl:=congrArg List.length this;simp at hl;subst hl;cases z
  ·exact .inl ⟨_,aAD _ (by simp),z⟩
theorem NO (h:LInv pts (e9 m pts) fs walked []):fs≠[]/\∀n d,(n,d)∈fs↔IsFace pts n d:=by
 have ae:fs≠[]:=λe=>by have:=h.ne e;cases this
 refine⟨ae,λn d=>⟨λhf=>h.face _ hf,λhf=>?_⟩⟩;refine rA G.solid G.ord fs ae h.face (λf hf a b hab=>?_) hf;have S:=(h.face f hf).aa2 G.ord;rcases h.cl f hf a b (S.aa1.mpr hab)with⟨g,hg,e⟩|q
 ·exact⟨g,hg,((h.face g hg).aa2 G.ord).aa1.mp e⟩
 ·cases q
end
def kN (h:IsFace pts n d):∃A∈pts,∃B∈pts,∃C∈pts,cr (B-A) (C-A)≠0/\j4 A B C=(n,d):=by
 obtain⟨A,hA,B,hB,C,hC,a,b,c,e⟩:=h.three;have key:∀B∈pts,∀C∈pts,c9 n B=d->c9 n C=d->cr (B-A) (C-A)≠0->0<c9 n (cr (B-A)<|C-A)->j4 A B C=(n,d):=λB hB C hC b c e pos=>by
  obtain⟨g,g0,ge,gp,gd⟩:=nT e;have p:cr n (cr (B-A)<|C-A)=0:=I0 (by rw[d8];lia) (by rw[d8];lia);obtain⟨k,l,hk,e1⟩:=y7 h.prim.ne p;have hl:0<l:=by
   have q:=congrArg (c9 n) e1;rw[t6,t6]at q;have:=aBh hk pos;have hn:=z9 h.prim.ne;by_cases z:0<l
   ·exact z
   ·have:=aBd (show l<=0 by lia) (aAF hn);simp at this;lia
  rw[ge]at e1;have e2:(k*g)*(j4 A B C).1=l*n:=by rw[<-e1];apply ext<;>simp<;>grind
  have e3:=sS gp h.prim (aBh hk g0) hl e2;refine aFM e3 ?_;rw[gd,e3];exact a
 by_cases z:0<c9 n (cr (B-A)<|C-A)
 ·exact⟨A,hA,B,hB,C,hC,e,key B hB C hC b c e z⟩
 ·have sw:cr (C-A) (B-A)=-cr (B-A) (C-A):=by apply ext<;>simp<;>grind
  have e':cr (C-A) (B-A)≠0:=λq=>e (by rw[sw]at q;have q1:=congrArg V.x q;have q2:=congrArg V.y q;have q3:=congrArg V.z q;simp only[YV,ZK,bq,bB,bK,bE]at q1 q2 q3;exact ext (by simp only[bB];lia) (by simp only[bK];lia) (by simp only[bE];lia))
  have ae:c9 n (cr (B-A)<|C-A)≠0:=λq=>e (gA h.prim.ne (by rw[d8];lia) (by rw[d8];lia) q);refine⟨A,hA,C,hC,B,hB,e',key C hC B hB c b e' ?_⟩;have:c9 n (cr (C-A)<|B-A)=-c9 n (cr (B-A)<|C-A):=by rw[sw];simp[c9];grind
  lia
def cands (pts:List V):List (V×Int):=pts.flatMap λA=>pts.flatMap λB=>pts.map λC=>j4 A B C
def HN (pts:List V):(cands pts).length=pts.length*(pts.length*pts.length):=by
 unfold cands;have h:∀(l:List V) (f:V->List (V×Int)) (k:Nat),(∀x,(f x).length=k)->(l.flatMap f).length=l.length*k:=λl f k hk=>by
  induction l with
  |nil=>simp
  |cons x l ih=>rw[List.flatMap_cons,aAE,ih,hk,aAw,Nat.succ_mul,Nat.add_comm]
 rw[h pts _ (pts.length*pts.length) λA=>h pts _ pts.length λB=>by simp]
theorem M9 {α:Type}[DecidableEq α]:∀{l m:List α},l.Nodup->(∀x∈l,x∈m)->l.length<=m.length
 |[],_,_,_=>aAY _
 |x::l,m,h,hs=>by
  have hx:=hs x (by simp);have h':=aAJ.mp h;have:=M9 (l:=l) (m:=m.erase x) h'.2 (λy hy=>by
   have ne:y≠x:=λe=>by subst e;exact h'.1 hy
   exact(aFS ne).mpr (hs y<|aAe _ hy))
  rw[aFl hx]at this;have:0<m.length:=aDX hx;simp only[aAw]
  lia
def FG {pts:List V}{fs:List (V×Int)}(nd:fs.Nodup)(hf:∀f∈fs,IsFace pts f.1 f.2):fs.length<=pts.length*(pts.length*pts.length):=by rw[<-HN];refine M9 nd λf h=>?_;obtain⟨A,hA,B,hB,C,hC,_,e⟩:=kN (hf f h);unfold cands;rw[aBs];refine⟨A,hA,?_⟩;rw[aBs];exact⟨B,hB,aAo.mpr ⟨C,hC,e⟩⟩
end G
namespace G
section
variable{pts:List V} (hs:j9 pts) (ho:pts.Pairwise (λa b=>i7 (b-a)))
include hs ho
theorem kO (hf:IsFace pts n d)(h:EdgeOf n (λX=>X∈x5 n d pts) a b):
 IsFace pts (b7 b a pts).1 (b7 b a pts).2/\EdgeOf (b7 b a pts).1 (λX=>X∈x5 (b7 b a pts).1 (b7 b a pts).2 pts) b a:=rV hf.prim.ne hf.sup (hs.below hf.prim.ne hf.sup) h
theorem iI (hf:IsFace pts n d)(h1:EdgeOf n (λX=>X∈x5 n d pts) a b)(h2:EdgeOf n (λX=>X∈x5 n d pts) b a):False:=by
 obtain⟨X,hX,hx⟩:=hf.ac5 h1;have:=h2.left X hX;have e1:i9 n (a-b) (X-b)=-i9 n (b-a) (X-a):=by simp[i9,c9];grind
 lia
theorem tZ (hf:IsFace pts n d)(hX:X∈j6 pts (n,d)):∃g1 g2:V×Int,IsFace pts g1.1 g1.2/\IsFace pts g2.1 g2.2/\(n,d)≠g1/\(n,d)≠g2/\g1≠g2/\c9 n X=d/\c9 g1.1 X=g1.2/\c9 g2.1 X=g2.2:=by
 have S:=hf.aa2 ho;obtain⟨Y,hY⟩:=aX S hX;obtain⟨W,hW⟩:=MP S hX;have eY:=S.aa1.mp hY;have eW:=S.aa1.mp hW;obtain⟨f1,b1⟩:=kO hs ho hf eY;obtain⟨f2,b2⟩:=kO hs ho hf eW;have hWY:W≠Y:=λe=>by subst e;exact iI hs ho hf eY eW
 refine⟨_,_,f1,f2,λe=>?_,λe=>?_,λe=>?_,(d5.mp eY.p).2,(d5.mp b1.q).2,(d5.mp b2.p).2⟩
 ·rw[<-e]at b1;exact iI hs ho hf eY b1
 ·rw[<-e]at b2;exact iI hs ho hf eW b2
 ·
  have st:=S.strict eY (sD S hW).1 (eW.ne) hWY;have oW:=(d5.mp eW.p).2;have oX:=(d5.mp eY.p).2;have oY:=(d5.mp eY.q).2;have gY:=(d5.mp b1.p).2;have gX:=(d5.mp b1.q).2;have gW:=(d5.mp b2.q).2;rw[<-e]at gW;have hc:cr (Y-X) (W-X)≠0:=λq=>by unfold i9 at st;rw[q,M0]at st;lia
  obtain⟨Z,hZ,hz⟩:=hs.below hf.prim.ne hf.sup;obtain⟨q1,q2⟩:=iG hf.prim f1.prim hf.sup f1.sup oX oY oW gX gY gW hc hZ hz;have:(n,d)=b7 Y X pts:=aFM q1 q2;rw[<-this]at b1;exact iI hs ho hf eY b1
theorem HJ (hf:IsFace pts n d)(hg:IsFace pts m e)(h:EdgeOf n (λX=>X∈x5 n d pts) a b)(ga:c9 m a=e)(gb:c9 m b=e):(m,e)=(n,d)\/(m,e)=b7 b a pts:=by
 obtain⟨pa,da⟩:=d5.mp h.p;obtain⟨pb,db⟩:=d5.mp h.q;obtain⟨f1,b1⟩:=kO hs ho hf h;have hab:c9 n (a-b)=0:=by rw[d8];lia
 have C:=rO (n:=n) hf.prim.ne hab;have ae:a-b≠0:=λq=>h.ne (T1 q);obtain⟨P,pP,eP,hP⟩:∃P∈pts,c9 m P=e/\cr (a-b) (P-b)≠0:=by
  by_cases z:∃P∈pts,c9 m P=e/\cr (a-b) (P-b)≠0
  ·exact z
  ·exfalso;obtain⟨A,hA,B,hB,D,hD,eA,eB,eD,hc⟩:=hg.three;have k:∀X∈pts,c9 m X=e->cr (a-b) (X-b)=0:=λX hX dX=>by
    by_cases q:cr (a-b) (X-b)=0
    ·exact q
    ·exact absurd ⟨X,hX,dX,q⟩ z
   have k2:∀X∈pts,c9 m X=e->∀Y∈pts,c9 m Y=e->cr (X-Y) (a-b)=0:=λX hX dX Y hY dY=>by have q1:=k X hX dX;have q2:=k Y hY dY;have a1:=congrArg V.x q1;have a2:=congrArg V.y q1;have a3:=congrArg V.z q1;have b1:=congrArg V.x q2;have b2:=congrArg V.y q2;have b3:=congrArg V.z q2;simp at a1 a2 a3 b1 b2 b3;apply ext<;>simp<;>grind
   exact hc (oJ ae (k2 B hB eB A hA eA)<|k2 D hD eD A hA eA)
 have mab:c9 m (a-b)=0:=by rw[d8];lia
 have mP:c9 m (P-b)=0:=by rw[d8];lia
 have par:cr m (cr (a-b)<|P-b)=0:=I0 mab mP;obtain⟨k,l,hk,ek⟩:=y7 hg.prim.ne par;have dl:∀w,k*i9 (a-b) (P-b) w=l*c9 m w:=λw=>by have:=congrArg (λv=>c9 v w) ek;simp only[G9,S4]at this;exact this
 have l0:l≠0:=λq=>hP (by rw[q,u4]at ek;have q1:=congrArg V.x ek;have q2:=congrArg V.y ek;have q3:=congrArg V.z ek;simp only[JN,IP,IX,bB,bK,bE]at q1 q2 q3;exact ext ((aAq.mp q1).resolve_left (by lia)) ((aAq.mp q2).resolve_left (by lia)) ((aAq.mp q3).resolve_left (by lia)))
 have mle:∀Q∈pts,c9 m (Q-b)<=0:=λQ hQ=>by rw[d8];have:=hg.sup Q hQ;lia
 obtain⟨Z,hZ,hz⟩:=hs.below hf.prim.ne hf.sup;by_cases hl:0<l
 ·
  right;obtain⟨O,hO,eO⟩:∃O∈x5 (b7 b a pts).1 (b7 b a pts).2 pts,0<i9 (b7 b a pts).1 (a-b) (O-b):=f1.ac5 b1;obtain⟨pO,dO⟩:=d5.mp hO;obtain⟨_,e1b⟩:=d5.mp b1.p;obtain⟨_,e1a⟩:=d5.mp b1.q;have t1:i9 (a-b) (P-b) (O-b)<=0:=by
   have q:=dl (O-b);have:=aAI (mle O pO) (aAF hl);rw[aDK]at this;by_cases z:i9 (a-b) (P-b) (O-b)<=0
   ·exact z
   ·have:=aBh hk (show 0<i9 (a-b) (P-b) (O-b)by lia);lia
  have par2:cr (b7 b a pts).1 (cr (a-b)<|O-b)=0:=I0 (by rw[d8];lia) (by rw[d8];lia);obtain⟨k',l',ju,ek'⟩:=y7 f1.prim.ne par2;have dl':∀w,k'*i9 (a-b) (O-b) w=l'*c9 (b7 b a pts).1 w:=λw=>by have:=congrArg (λv=>c9 v w) ek';simp only[G9,S4]at this;exact this
  have gu:0<l':=by
   have q:=congrArg (c9 (b7 b a pts).1) ek';rw[t6,t6]at q;have q2:0<c9 (b7 b a pts).1 (cr (a-b)<|O-b):=eO;have:=aBh ju q2;have hn:=z9 f1.prim.ne;by_cases z:0<l'
   ·exact z
   ·have:=aBd (show l'<=0 by lia) (aAF hn);simp at this;lia
  have t2:i9 (a-b) (O-b) (P-b)<=0:=by
   have q:=dl' (P-b);have h0:c9 (b7 b a pts).1 (P-b)<=0:=by rw[d8];have:=f1.sup P pP;lia
   have:=aAI h0 (aAF gu);rw[aDK]at this;by_cases z:i9 (a-b) (O-b) (P-b)<=0
   ·exact z
   ·have:=aBh ju (show 0<i9 (a-b) (O-b) (P-b)by lia);lia
  have t3:i9 (a-b) (O-b) (P-b)=0:=by rw[k7]at t1;lia
  have q0:=dl' (P-b);rw[t3,aDK]at q0;have onP':c9 (b7 b a pts).1 P=(b7 b a pts).2:=by have:=(aAq.mp q0.symm).resolve_left (by lia);rw[d8]at this;lia
  obtain⟨Z',hZ',hz'⟩:=hs.below hg.prim.ne hg.sup;obtain⟨q1,q2⟩:=iG hg.prim f1.prim hg.sup f1.sup gb ga eP e1b e1a onP' hP hZ' hz';exact aFM q1 q2
 ·
  left;have lu:l<0:=by lia
  obtain⟨O,hO,eO⟩:=hf.ac5 h;obtain⟨pO,dO⟩:=d5.mp hO;rw[oM]at eO;have t1:0<=i9 (a-b) (P-b) (O-b):=by
   have q:=dl (O-b);have h2:0<=l*c9 m (O-b):=by
    have:=aBg (show 0<=-l by lia) (show 0<=-c9 m (O-b)by have:=mle O pO;lia)
    rwa [aDm]at this
   by_cases z:0<=i9 (a-b) (P-b) (O-b)
   ·exact z
   ·have:=aBi hk (show i9 (a-b) (P-b) (O-b)<0 by lia);lia
  have par2:cr n (cr (b-a)<|O-b)=0:=I0 (by rw[d8];lia) (by rw[d8];lia);obtain⟨k',l',ju,ek'⟩:=y7 hf.prim.ne par2;have dl':∀w,k'*i9 (b-a) (O-b) w=l'*c9 n w:=λw=>by have:=congrArg (λv=>c9 v w) ek';simp only[G9,S4]at this;exact this
  have gu:0<l':=by
   have q:=congrArg (c9 n) ek';rw[t6,t6]at q;have q2:0<c9 n (cr (b-a)<|O-b):=eO;have:=aBh ju q2;have hn:=z9 hf.prim.ne;by_cases z:0<l'
   ·exact z
   ·have:=aBd (show l'<=0 by lia) (aAF hn);simp at this;lia
  have t2:i9 (b-a) (O-b) (P-b)<=0:=by
   have q:=dl' (P-b);have h0:c9 n (P-b)<=0:=by rw[d8];have:=hf.sup P pP;lia
   have:=aAI h0 (aAF gu);rw[aDK]at this;by_cases z:i9 (b-a) (O-b) (P-b)<=0
   ·exact z
   ·have:=aBh ju (show 0<i9 (b-a) (O-b) (P-b)by lia);lia
  have e3:i9 (b-a) (O-b) (P-b)=i9 (a-b) (P-b) (O-b):=by simp[i9,c9];grind
  have t3:i9 (b-a) (O-b) (P-b)=0:=by lia
  have q0:=dl' (P-b);rw[t3,aDK]at q0;have onn:c9 n P=d:=by have:=(aAq.mp q0.symm).resolve_left (by lia);rw[d8]at this;lia
  obtain⟨Z',hZ',hz'⟩:=hs.below hg.prim.ne hg.sup;obtain⟨q1,q2⟩:=iG hg.prim hf.prim hg.sup hf.sup gb ga eP db da onn hP hZ' hz';exact aFM q1 q2
end
end G
namespace M
open PySem L2 DL
def mF:D->Option G.V
 |.tup [.int a,.int b,.int c]=>some ⟨a,b,c⟩
 |_=>none
@[simp]def iE (v:G.V):mF (vd v)=some v:=rfl
def Z0 (h:mF d=some v):d=vd v:=by
 unfold mF at h;split at h
 ·cases h;rfl
 ·cases h
def B1:List D->Option (List G.V)
 |[]=>some []
 |d::ds=>match mF d,B1 ds with
  |some v,some vs=>some (v::vs)
  |_,_=>none
@[simp]theorem o6:∀vs:List G.V,B1 (vs.map vd)=some vs
 |[]=>rfl
 |v::vs=>by rw[aAu,B1,iE,o6 vs]
theorem m9:∀{ds:List D} {vs:List G.V},B1 ds=some vs->ds=vs.map vd
 |[],vs,h=>by cases h;rfl
 |d::ds,vs,h=>by
  unfold B1 at h;split at h
  ·rename_i v ws h1 h2;cases h;rw[Z0 h1,m9 h2];rfl
  ·cases h
def AK (h:vd u=vd v):u=v:=by
 have:mF (vd u)=mF (vd v):=by rw[h]
 simpa using this
def QU {u v:List G.V}(h:u.map vd=v.map vd):u=v:=by
 have:B1 (u.map vd)=B1 (v.map vd):=by rw[h]
 simpa using this
def V7 (n:Nat)(pts:List G.V):Prop:=(∀P∈pts,Sz n P)/\pts.length<=1000
def BF:Option G.V->D
 |some v=>vd v
 |none=>.non
def y8:List D->R D
 |[.lst xs]=>match B1 xs with
  |some ws=>.ok (BF (G.z6 ws))
  |none=>.bad
 |_=>.bad
open Classical in
def A9:List D->R D
 |[.lst xs]=>match B1 xs with
  |some pts=>if pts≠[]/\V7 1000 pts then .ok (.int (G.S8 pts))else .bad
  |none=>.bad
 |_=>.bad
open Classical in
def C3:List D->R D
 |[.lst xs]=>match B1 xs with
  |some pts=>if V7 1000 pts/\G.S8 pts=3 then .ok .non else .bad
  |none=>.bad
 |_=>.bad
open Classical in
def x9:List D->R D:=v4 λa b c d=>OE λxs=>uZ (match B1 xs with
 |some pts=>if Sz 10000 ⟨a,b,c⟩/\V7 1000 pts then .ok (.lst ((G.x5 ⟨a,b,c⟩ d pts).map vd))else .bad
 |none=>.bad)
open Classical in
def C4:List D->R D:=jz λys=>OE λxs=>uZ ((v1 λa b c=>v1 λd e f=>uZ (match B1 xs with
 |some pts=>if Sz 1000 ⟨a,b,c⟩/\Sz 1000 ⟨d,e,f⟩/\V7 1000 pts/\G.W2 (G.b7 ⟨a,b,c⟩ ⟨d,e,f⟩ pts).1 then .ok (rK (G.b7 ⟨a,b,c⟩ ⟨d,e,f⟩ pts).1 (G.b7 ⟨a,b,c⟩ ⟨d,e,f⟩ pts).2)else .bad
 |none=>.bad)) ys)
abbrev E8 (p:G.V×G.V):D:=.tup [vd p.1,vd p.2]
structure Land (pts:List G.V)(m:G.V):Prop where
 good:G.Good pts m
 sz:V7 900 pts
 few:pts.length<=63
 head:pts.head?=some m
open Classical in
def F1:List D->R D
 |[.lst xs]=>match B1 xs with
  |some (m::pts)=>if Land (m::pts) m then .ok (E8 (G.e9 m (m::pts)))else .bad
  |_=>.bad
 |_=>.bad
open Classical in
def dP:List D->R D:=v1 λa b c=>v1 λd e f=>v1 λg h i=>v1 λj k l=>uZ (
 if Sz 10000 ⟨a,b,c⟩/\Sz 1000 ⟨d,e,f⟩/\Sz 1000 ⟨g,h,i⟩/\Sz 1000 ⟨j,k,l⟩then .ok (.int (G.turn ⟨a,b,c⟩ ⟨d,e,f⟩ ⟨g,h,i⟩ ⟨j,k,l⟩))else .bad)
open Classical in
def S5:List D->R D:=v1 λa b c=>OE λxs=>uZ (match B1 xs with
 |some pts=>if Sz 10000 ⟨a,b,c⟩/\V7 1000 pts then .ok (.lst ((G.y9 ⟨a,b,c⟩ pts).reverse.map vd))else .bad
 |none=>.bad)
open Classical in
def N6:List D->R D:=v1 λa b c=>OE λxs=>uZ (match B1 xs with
 |some pts=>if Sz 10000 ⟨a,b,c⟩/\V7 1000 pts then .ok (.lst ((G.k9 ⟨a,b,c⟩ pts).map vd))else .bad
 |none=>.bad)
def x8:List D->R D
 |[.lst xs]=>match B1 xs with
  |some pts=>if pts.length<=3000 then .ok (.lst ((G.T5 pts).map E8))else .bad
  |none=>.bad
 |_=>.bad
abbrev l9 (pts:List G.V)(f:G.V×Int):D:=.tup [rK f.1 f.2,.lst ((G.j6 pts f).map vd)]
def cM (pts:List G.V)(fs:List (G.V×Int)):Prop:=(∀f,f∈fs↔G.IsFace pts f.1 f.2)/\tO R4 (fs.map<|l9 pts)
open Classical in
def p7 (pts:List G.V):List (G.V×Int):=if h:∃fs,cM pts fs then h.choose else[]
def G5:List D->List D->R D
 |[w],[_]=>.ok w
 |_,_=>.bad
def B5:List D->List D->R D
 |[w],[p]=>x9 [p,w]
 |_,_=>.bad
open Classical in
def F6 (d:D) (m1 m2:List D->R D):R D:=match m1 [.non]with
 |.ok (.lst xs)=>match B1 xs with
  |some (m::pts)=>if Land (m::pts) m/\(m::pts).length<=14/\d=E8 (G.e9 m (m::pts))/\m1=G5 [.lst xs]/\m2=B5 [.lst xs]then .ok (.lst ((p7 (m::pts)).map (l9 (m::pts))))else .bad
  |_=>.bad
 |_=>.bad
def d6 (pts:List G.V):List G.V:=(Z6<|pts.map vd).filterMap mF
open Classical in
def M7:List D->R D
 |[.lst xs]=>match B1 xs with
  |some pts=>if V7 900 pts/\G.j9 pts/\(d6 pts).length<=14 then .ok (.lst ((p7 (d6 pts)).map (l9 (d6 pts))))else .bad
  |none=>.bad
 |_=>.bad
def UZ:D->Option (List G.V)
 |.tup [_,.lst xs]=>B1 xs
 |_=>none
def rC:List D->Option (List (List G.V))
 |[]=>some []
 |d::ds=>match UZ d,rC ds with
  |some v,some vs=>some (v::vs)
  |_,_=>none
open Classical in
def F5:List D->R D
 |[.lst xs]=>match rC xs with
  |some rs=>if rs.flatten.length<=3000/\(d6 rs.flatten).length<=63 then .ok (.lst ((d6 rs.flatten).map vd))else .bad
  |none=>.bad
 |_=>.bad
def v7 (pts:List G.V):List G.V:=d6 ((p7<|d6 pts).flatMap (G.j6<|d6 pts))
open Classical in
def Y9:List D->R D
 |[.lst xs]=>match B1 xs with
  |some pts=>if V7 900 pts/\G.j9 pts/\(d6 pts).length<=14 then .ok (.lst ((v7 pts).map vd))else .bad
  |none=>.bad
 |_=>.bad
end M
namespace M
open PySem L2 DL
def kw (v:G.V):MK (vd v) (.tup [.int 0,.int 0,.int 0])=.ok (.bl (!decide (v=0))):=by rw[kE];congr 3;rw[aDl];simp only[aAM,beq_iff_eq,decide_eq_true_eq,G.nZ];exact⟨λh=>h,λh=>h⟩
def eq0 (v:G.V):QJ (vd v) (.tup [.int 0,.int 0,.int 0])=.ok (.bl (decide (v=0))):=by rw[WT];congr 2;rw[aDl];simp only[aAM,beq_iff_eq,decide_eq_true_eq,G.nZ];exact⟨λh=>h,λh=>h⟩
def L8 (h1:G d ρ=.ok ρ1)(h2:F ρ1=.ok (.nx ρ2)):I9 G F (d::ds) ρ=I9 G F ds ρ2:=by rw[I9,h1];dsimp only;rw[h2]
def bM (h1:G d ρ=.ok ρ1)(h2:F ρ1=.ok (.rt x)):I9 G F (d::ds) ρ=.ok (.rt x):=by rw[I9,h1];dsimp only;rw[h2]
theorem N9 {α:Type}(rep:α->D)(p:α->Bool)(g:α->D):∀(l:List α),(∀a∈l,∃ρ1,G (rep a) ρ=.ok ρ1/\ft ρ1=.ok (p a)/\(p a=true->fe ρ1=.ok (g a)))->t9 G ft fe ρ (l.map rep)=.ok ((l.filter p).map g)
 |[],_=>rfl
 |a::l,h=>by
  obtain⟨ρ1,h1,h2,h3⟩:=h a (.head _);have ih:=N9 rep p g l λb hb=>h b (.tail _ hb);rw[aAu,t9,h1];dsimp only;rw[h2,R.aa0,ih];cases hp:p a with
  |false=>rw[if_neg (by decide),List.filter_cons_of_neg (by simp[hp])]
  |true=>rw[if_pos rfl,h3 hp,R.aa0,R.aa0,List.filter_cons_of_pos hp];rfl
def J3 {α:Type}(rep:α->D)(g:α->D)(l:List α)(h:∀a∈l,∃ρ1,G (rep a) ρ=.ok ρ1/\fe ρ1=.ok (g a)):t9 G (λ_=>.ok true) fe ρ (l.map rep)=.ok (l.map g):=by
 have:=N9 rep (G:=G) (ft:=λ_=>.ok true) (fe:=fe) (ρ:=ρ) (λ_=>true) g l λa ha=>let⟨ρ1,h1,h2⟩:=h a ha;⟨ρ1,h1,rfl,λ_=>h2⟩
 rw[this,List.filter_eq_self.mpr λ_ _=>rfl]
def small (h:n<=1000):n<=sizeLine:=aAs h (by decide)
def JW (h:n<=3000):n<=sizeLine:=aAs h (by decide)
def V7.sub (h:V7 n pts)(hs:∀P∈qs,P∈pts)(hl:qs.length<=pts.length):V7 n qs:=⟨λP hP=>h.1 P (hs P hP),aAs hl h.2⟩
def V7.mono (h:V7 m pts)(hm:m<=n:=by decide):V7 n pts:=⟨λP hP=>(h.1 P hP).mono hm,h.2⟩
def xw (t:Int):(sgn t==0)=decide (t=0):=by
 unfold sgn;by_cases h:0<t
 ·rw[if_pos h];simp;lia
 ·rw[if_neg h];by_cases h2:t<0
  ·rw[if_pos h2];simp;lia
  ·rw[if_neg h2];simp;lia
def gH (h1:Sz 10000 n)(h2:V7 1000 pts):x9 [rK n d,.lst (pts.map vd)]=.ok (.lst ((G.x5 n d pts).map vd)):=by simp only[x9,v4,OE,uZ,o6];exact if_pos ⟨h1,h2⟩
def JU (h1:pts≠[])(h2:V7 1000 pts):A9 [.lst (pts.map vd)]=.ok (.int (G.S8 pts)):=by simp only[A9,o6];exact if_pos ⟨h1,h2⟩
def AX (ws:List G.V):y8 [.lst (ws.map vd)]=.ok (BF (G.z6 ws)):=by simp only[y8,o6]
def BX (bs:List Bool):cK (bs.map D.bl)=some bs:=by
 induction bs with
 |nil=>rfl
 |cons b bs ih=>rw[aAu,cK,ih];rfl
def YE (bs:List Bool):anyR [.lst (bs.map D.bl)]=.ok (.bl (bs.any id)):=by simp only[anyR,BX]
def OU (xs:List D):IC (.lst xs) none (some (-1))=.ok (.lst xs.dropLast):=by
 show R.ok (D.lst<|cutD xs none<|some (-1))=_;unfold cutD HT.sIx;rw[aEd];simp;congr 1
 lia
def OV (xs:List D):IC (.lst xs) (some 1) none=.ok (.lst xs.tail):=by
 show R.ok (D.lst<|cutD xs (some 1) none)=_;unfold cutD HT.sIx;cases xs with
 |nil=>rfl
 |cons a l=>simp
def XI (xs:List D):IC (.lst xs) none (some 1)=.ok (.lst (xs.take 1)):=by
 show R.ok (D.lst<|cutD xs none<|some 1)=_;unfold cutD HT.sIx;cases xs with
 |nil=>rfl
 |cons a l=>simp
def TM (xs:List D)(a b:D):mB (xs++[a,b]) (-1)=some b:=by
 have hl:(xs++[a,b]).length=xs.length+2:=by simp
 unfold mB yS;rw[hl,if_neg (by decide),if_pos (by lia)];show(xs++[a,b])[((-1:Int)+((xs.length+2:Nat):Int)).toNat]?=_;have:((-1:Int)+((xs.length+2:Nat):Int)).toNat=xs.length+1:=by lia
 rw[this,aAx (by lia),show xs.length+1-xs.length=1 by lia];rfl
def UE (xs:List D)(a b:D):mB (xs++[a,b]) (-2)=some a:=by
 have hl:(xs++[a,b]).length=xs.length+2:=by simp
 unfold mB yS;rw[hl,if_neg (by decide),if_pos (by lia)];show(xs++[a,b])[((-2:Int)+((xs.length+2:Nat):Int)).toNat]?=_;have:((-2:Int)+((xs.length+2:Nat):Int)).toNat=xs.length:=by lia
 rw[this,aAx (by lia),Nat.sub_self];rfl
def ay (a:D)(xs:List D):mB (a::xs) 0=some a:=by rw[N3 (by decide)];rfl
def dj (a b:D)(xs:List D):mB (a::b::xs) 1=some b:=by rw[N3 (by decide)];rfl
def QV {P Q R:G.V}(h:G.W2 (G.j4 P Q R).1):G.cr (Q-P) (R-P)≠0:=λe=>by
 have:(G.j4 P Q R).1=0:=by show G.jJ (G.cr (Q-P)<|R-P) _=0;rw[e];rfl
 rw[this]at h;unfold G.W2 at h;exact absurd h (by decide)
theorem xZ:∀{c:List G.V},(G.V8 n P c).length<=c.length
 |[]=>aAh _
 |[a]=>aAh _
 |b::a::r=>by
  unfold G.V8;split
  ·exact aAs (xZ (c:=a::r)) (by simp)
  ·exact aAh _
theorem nB:∀(qs c:List G.V),(qs.foldl (λc P=>P::G.V8 n P c) c).length<=qs.length+c.length
 |[],c=>by simp
 |P::qs,c=>by refine aAs (nB qs _) ?_;have:=xZ (n:=n) (P:=P) (c:=c);simp;lia
def qX (n:G.V)(ps:List G.V):(G.y9 n ps).length<=ps.length:=by simpa[G.y9]using nB (n:=n) ps []
theorem rM {α β:Type}(f:α->D):∀(xs ys:List α),kP (xs.map f) (ys.map f)=(xs.zip ys).map λp=>D.tup [f p.1,f p.2]
 |[],_=>by simp[kP]
 |_::_,[]=>by simp[kP]
 |x::xs,y::ys=>by have:=rM (β:=β) f xs ys;simp only[kP]at this⊢;simp[this]
def SW (h1:Sz 10000 n)(h2:V7 1000 pts):S5 [vd n,.lst (pts.map vd)]=.ok (.lst ((G.y9 n pts).reverse.map vd)):=by simp only[S5,v1,OE,uZ,o6];exact if_pos ⟨h1,h2⟩
def EI {n P Q R:G.V}(h:Sz 10000 n)(h1:Sz 1000 P)(h2:Sz 1000 Q)(h3:Sz 1000 R):dP [vd n,vd P,vd Q,vd R]=.ok (.int (G.turn n P Q R)):=if_pos ⟨h,h1,h2,h3⟩
def U8 (h1:Sz 1000 A)(h2:Sz 1000 B)(h3:V7 1000 pts)(h4:G.W2 (G.b7 A B pts).1):C4 [.tup [vd A,vd B],.lst (pts.map vd)]=.ok (rK (G.b7 A B pts).1 (G.b7 A B pts).2):=by simp only[C4,jz,OE,v1,uZ,o6];exact if_pos ⟨h1,h2,h3,h4⟩
def RB (h1:Sz 10000 n)(h2:V7 1000 pts):N6 [vd n,.lst (pts.map vd)]=.ok (.lst ((G.k9 n pts).map vd)):=by simp only[N6,v1,OE,uZ,o6];exact if_pos ⟨h1,h2⟩
def IM (h:pts.length<=3000):x8 [.lst (pts.map vd)]=.ok (.lst ((G.T5 pts).map E8)):=by simp only[x8,o6];exact if_pos h
def CJ (h:a.length+b.length<=sizeLine):lT (.lst a) (.lst b)=.ok (.lst (a++b)):=if_pos h
end M
namespace G
def xM (hs:j9 pts)(hm:m∈pts)(hl:∀X∈pts,X=m\/i7 (X-m)):
  W2 (b7 m (m+kk) pts).1/\m∈x5 (b7 m (m+kk) pts).1 (b7 m (m+kk) pts).2 pts/\∃out∈x5 (b7 m (m+kk) pts).1 (b7 m (m+kk) pts).2 pts,m≠out:=by
 have C:ConeM (m+kk-m) (λw=>0<w.x\/(w.x=0/\0<w.y)):=by rw[J6];exact DI
 have ae:m+kk-m≠0:=by rw[J6];intro e;have:=congrArg V.z e;simp[kk]at this
 have hp:∀P∈pts,(0<(P-m).x\/((P-m).x=0/\0<(P-m).y))\/cr (m+kk-m) (P-m)=0:=λP hP=>by
  rw[J6];rcases hl P hP with e|e
  ·right;subst e;rw[w5];apply ext<;>simp
  ·unfold i7 at e;rcases e with e|⟨e1,e|⟨e2,e3⟩⟩
   ·exact .inl (.inl e)
   ·exact .inl (.inr ⟨e1,e⟩)
   ·right;apply ext
    ·simp[kk];simp at e2;lia
    ·simp[kk];simp at e1;lia
    ·simp[kk]
 have hx:∃P∈pts,0<(P-m).x\/((P-m).x=0/\0<(P-m).y):=by
  by_cases z:∃P∈pts,0<(P-m).x\/((P-m).x=0/\0<(P-m).y)
  ·exact z
  ·exfalso;obtain⟨Z,hZ,e⟩:=hs.off (n:=⟨1,0,0⟩) (d:=m.x) (λe=>by have:=congrArg V.x e;simp at this);have w:=(hp Z hZ).resolve_left λq=>z ⟨Z,hZ,q⟩;rw[J6]at w;have:=congrArg V.y w;simp[kk]at this;simp[c9]at e
   lia
 obtain⟨out,g,o1,o2,g0,ge,gp,gd,sup,sB,sO,sP⟩:=U8 C ae hp hx;refine⟨gp,d5.mpr ⟨hm,gd.symm⟩,out,d5.mpr ⟨o1,sO⟩,λe=>?_⟩;subst e;rw[w5]at o2;simp at o2
section
variable{pts:List V} (hs:j9 pts) (ho:pts.Pairwise (λa b=>i7 (b-a)))
include hs ho
theorem LX (hf:IsFace pts f.1 f.2)(hg:IsFace pts g.1 g.2)(h1:(a,b)∈T5 (j6 pts f))(h2:(a,b)∈T5 (j6 pts g)):f=g:=by
 have e1:=(hf.aa2 ho).aa1.mp h1;have e2:=(hg.aa2 ho).aa1.mp h2;obtain⟨f1,b1⟩:=kO hs ho hf e1;rcases HJ hs ho hf hg e1 (d5.mp e2.p).2 (d5.mp e2.q).2 with q|q
 ·exact q.symm
 ·exfalso;have:g=b7 b a pts:=q;rw[<-this]at b1;exact iI hs ho hg e2 b1
theorem HP (h:l.Nodup):(T5 l).Nodup:=by
 have:((T5 l).map (·.1)).Nodup:=by
  unfold T5;rw[List.map_fst_zip]
  ·exact h
  ·simp;lia
 exact(aBK.mp this).imp λ{a b} h e=>h (by rw[e])
def HG (pts:List V)(fs:List (V×Int)):List (V×V):=fs.flatMap λf=>T5 (j6 pts f)
omit hs ho in
theorem ID (fs:List (V×Int)):(HG pts fs).length=(fs.map λf=>(j6 pts f).length).sum:=by
 induction fs with
 |nil=>rfl
 |cons f fs ih=>show(T5 (j6 pts f)++HG pts fs).length=_;rw[aAE,ih,aAu,aDU];congr 1;unfold T5;simp;lia
theorem nA:∀{fs:List (V×Int)},fs.Nodup->(∀f∈fs,IsFace pts f.1 f.2)->(HG pts fs).Nodup
 |[],_,_=>aCL
 |f::fs,nd,hf=>by have n1:=aAJ.mp nd;have h1:=hf f (.head _);show(T5 (j6 pts f)++HG pts fs).Nodup;rw[aCR];refine⟨HP hs ho ((h1.aa2 ho).aa4),nA n1.2 λg hg=>hf g (.tail _ hg),λe he e' qd q=>?_⟩;subst q;obtain⟨g,hg,ma⟩:=aBs.mp qd;exact n1.1 (LX hs ho h1 (hf g<|.tail _ hg) (a:=e.1) (b:=e.2) he ma▸hg)
theorem dQ {fs:List (V×Int)}(nd:fs.Nodup)(hf:∀f∈fs,IsFace pts f.1 f.2):(fs.map λf=>(j6 pts f).length).sum+pts.length<=pts.length*pts.length:=by
 have npts:pts.Nodup:=ho.imp λ{a b} h e=>by subst e;exact O6 h
 have h1:=nA hs ho nd hf;have h2:(HG pts fs++pts.map λa=>(a,a)).Nodup:=by rw[aCR];refine⟨h1,aBK.mpr (npts.imp λ{a b} h e=>h (Prod.mk.inj e).1),λe he e' qd q=>?_⟩;subst q;obtain⟨g,hg,ma⟩:=aBs.mp he;obtain⟨a,_,rfl⟩:=aAo.mp qd;exact(((hf g hg).aa2 ho).aa1.mp ma).ne rfl
 have h3:∀e∈HG pts fs++pts.map (λa=>(a,a)),e∈pts.flatMap λa=>pts.map λb=>(a,b):=λe he=>by
  rcases aAS.mp he with he|he
  ·obtain⟨g,hg,ma⟩:=aBs.mp he;have ma:(e.1,e.2)∈T5 (j6 pts g):=ma;have ed:=((hf g hg).aa2 ho).aa1.mp ma;exact aBs.mpr ⟨e.1,(d5.mp ed.p).1,aAo.mpr ⟨e.2,(d5.mp ed.q).1,rfl⟩⟩
  ·obtain⟨a,ha,rfl⟩:=aAo.mp he;exact aBs.mpr ⟨a,ha,aAo.mpr ⟨a,ha,rfl⟩⟩
 have h4:=M9 h2 h3;have h5:(pts.flatMap λa=>pts.map λb=>(a,b)).length=pts.length*pts.length:=by
  have:∀l:List V,(l.flatMap λa=>pts.map λb=>(a,b)).length=l.length*pts.length:=λl=>by
   induction l with
   |nil=>simp
   |cons a l ih=>rw[List.flatMap_cons,aAE,ih,aAm,aAw,Nat.succ_mul];lia
  exact this pts
 rw[aAE,ID,aAm,h5]at h4;exact h4
theorem kZ {fs:List (V×Int)}(hf:∀f∈fs,IsFace pts f.1 f.2):3*fs.length<=(fs.map λf=>(j6 pts f).length).sum:=by
 induction fs with
 |nil=>simp
 |cons f fs ih=>
  have:=ih λg hg=>hf g (.tail _ hg);obtain⟨r,s,t,l,e⟩:=U6 ho (hf f<|.head _);have e2:(j6 pts f).length=l.length+3:=by show(k9 f.1 (x5 f.1 f.2 pts)).length=_;rw[e];simp
  rw[aAu,aDU,aAw,e2]
  lia
end
theorem jS:∀(pts:List V) (up out:V),(C9 a A pts up out).2∈pts\/(C9 a A pts up out).2=out
 |[],up,out=>.inr rfl
 |P::Ps,up,out=>by
  unfold C9;split
  ·rcases jS Ps (cr a (P-A)) P with h|h
   ·exact .inl (.tail _ h)
   ·exact .inl (by rw[h];exact .head _)
  ·rcases jS Ps up out with h|h
   ·exact .inl (.tail _ h)
   ·exact .inr h
end G
namespace M
open PySem L2 DL
def KJ (a b:G.V):HT.lexLt (flat (vd a)) (flat (vd b))=true↔G.i7 (b-a):=by
 show HT.lexLt [a.x,a.y,a.z] [b.x,b.y,b.z]=true↔_;unfold G.i7;simp only[HT.lexLt,G.TQ,G.SV,G.TV];by_cases h1:a.x=b.x
 ·by_cases h2:a.y=b.y
  ·by_cases h3:a.z=b.z
   ·simp[h1,h2,h3]
   ·simp[h1,h2,h3];try lia
  ·simp[h1,h2];try lia
 ·simp[h1];try lia
def zV {pts:List G.V}(h:pts.Pairwise λa b=>G.i7 (b-a)):OC (pts.map vd):=aBK.mpr (h.imp λ{a b} q=>(KJ a b).mpr q)
def VZ {pts:List G.V}(h:OC (pts.map vd)):pts.Pairwise λa b=>G.i7 (b-a):=(aBK.mp h).imp λ{a b} q=>(KJ a b).mp q
def IS (pts:List G.V):(pts.map vd).all bO=true:=aBU.mpr λd hd=>by obtain⟨v,_,rfl⟩:=aAo.mp hd;rfl
def XT [Tabs]{m:G.V}{pts:List G.V}(h:(m::pts).Pairwise λa b=>G.i7 (b-a)):LA [.lst ((m::pts).map vd)]=.ok (vd m):=by show(if(m::pts).map vd≠[]/\((m::pts).map vd).all bO=true then _ else _)=_;rw[if_pos ⟨by simp,IS _⟩,PK (zV h) _ (by simp)];rfl
def mV {P Q R:G.V}(p:Sz 1000 P)(q:Sz 1000 Q)(r:Sz 1000 R):Sz 2003 (G.j4 P Q R).1:=by
 have sC:=(q.sub p).cr (r.sub p);by_cases hc:G.cr (Q-P) (R-P)=0
 ·have:(G.j4 P Q R).1=0:=by show G.jJ (G.cr (Q-P)<|R-P) _=0;rw[hc];rfl
  rw[this];exact⟨by decide,by decide,by decide⟩
 ·obtain⟨g0,g1,g2⟩:=G.kL hc;have f1:=bits_fdiv (b:=(G.w8 (G.cr (Q-P)<|R-P):Int)) sC.1;have f2:=bits_fdiv (b:=(G.w8 (G.cr (Q-P)<|R-P):Int)) sC.2.1;have f3:=bits_fdiv (b:=(G.w8 (G.cr (Q-P)<|R-P):Int)) sC.2.2;rw[mX g0]at f1 f2 f3;exact⟨f1,f2,f3⟩
def wH {A B:G.V}{pts:List G.V}(p:Sz 1000 A)(q:Sz 1000 B)(r:V7 1000 pts):Sz 2003 (G.b7 A B pts).1:=by
 unfold G.b7;rcases G.jS (a:=B-A) (A:=A) pts 0 A with h|h
 ·exact mV p q (r.1 _ h)
 ·rw[h];exact mV p q p
def ak (m:G.V):vd (m+G.kk)=.tup [.int m.x,.int m.y,.int (m.z+1)]:=by simp[G.kk]
def ME (h:Sz 900 m):Sz 1000 (m+G.kk):=(h.add (v:=G.kk) ⟨by decide,by decide,by decide⟩).mono
def IL (h:V7 k pts):V7 k (G.x5 n d pts):=h.sub (λP hP=>(G.d5.mp hP).1) (List.length_filter_le _ _)
def KH {α:Type}{l:List α}{a b:α}(ha:a∈l)(hb:b∈l)(h:a≠b):∃x y r,l=x::y::r:=by
 match l,ha,hb with
 |[x],ha,hb=>exact absurd ((aBl.mp ha).trans (aBl.mp hb).symm) h
 |x::y::r,_,_=>exact⟨x,y,r,rfl⟩
end M
namespace M
open PySem L2 DL
open Classical in
def KN {kvs:List (D×D)}{k v k':D}:k'∈(eI kvs k v).map (·.1)↔k'∈kvs.map (·.1)\/k'=k:=by
 unfold eI;split
 ·rename_i h;rw[aBj];have:((λx=>x.1)∘λp:D×D=>if p.1=k then(p.1,v)else p)=λp=>p.1:=by funext p;simp only[aGg];split<;>rfl
  rw[this];exact⟨.inl,λq=>q.elim id λe=>by rw[e];exact h⟩
 ·rw[aCh,aAS];simp
def KD {kvs:List (D×D)}{k v:D}:(eI kvs k v).length<=kvs.length+1:=by
 unfold eI;split
 ·simp
 ·simp
def SA {p q:G.V×G.V}(h:E8 p=E8 q):p=q:=by injection h with h;injection h with h1 h2;injection h2 with h2 _;exact aFM (AK h1) (AK h2)
def zC (p:G.V×G.V):R3 7 (E8 p)=true/\GM (E8 p)=true:=⟨rfl,rfl⟩
def ffC:Ev->R Bool:=λρ=>((((pM 5 ρ).bind λd=>R.ok [d]).bind RA).bind λx=>YJ x (D.int 0)).bind yR
def ffS:Ev->R Out:=λρ=>
 D5 ((V6 9 ρ).bind λkd=>wK 4 ρ kd (D.bl true)) λρ=>((((pM 9 ρ).bind λx=>D2 x (D.int 1)).bind λd=>(((pM 9 ρ).bind λx=>D2 x (D.int 0)).bind λd=>R.ok [d]).bind λds=>R.ok (d::ds)).bind bR).bind (lX 5 ρ)
theorem DM {a0 a1 a2 a3 a6 a7 a8:Sl}:∀(qs:List (G.V×G.V)) (kvs:List (D×D)) (W:List (G.V×G.V)) (a9:Sl),kvs.length+qs.length<=10000->W.length+qs.length<=10000->
  ∃ic a9',I9 (λd ρ=>R.ok (aCF ρ 9 (Sl.v d))) ffS (qs.map E8) [a0,a1,a2,a3,.d kvs,.o (W.map E8),a6,a7,a8,a9]=.ok (.nx [a0,a1,a2,a3,.d ic,.o ((W++qs.map λq=>(q.2,q.1)).map E8),a6,a7,a8,a9'])/\
   (∀e:G.V×G.V,E8 e∈ic.map (·.1)↔E8 e∈kvs.map (·.1)\/e∈qs)/\ic.length<=kvs.length+qs.length
 |[],kvs,W,a9,_,_=>⟨kvs,a9,by simp,λe=>by simp,by simp⟩
 |q::qs,kvs,W,a9,h1,h2=>by
  simp only[aAw]at h1 h2;have pl:=KD (kvs:=kvs) (k:=E8 q) (v:=.bl true);obtain⟨ic,a9',e,m,l⟩:=DM qs (eI kvs (E8 q)<|.bl true) (W++[(q.2,q.1)]) (.v (E8 q)) (by lia) (by simp;lia);refine⟨ic,a9',?_,λx=>?_,by simp;lia⟩
  ·rw[aAu];refine(L8 (ρ2:=[a0,a1,a2,a3,.d (eI kvs (E8 q)<|.bl true),.o ((W++[(q.2,q.1)]).map E8),a6,a7,a8,.v (E8 q)]) rfl ?_).trans ?_
   ·have hk:kvs.length<=sizeLine:=aAs (show kvs.length<=10000 by lia) (by decide);have hw:(W.map E8).length<sizeLine:=by rw[aAm];exact aDd (show W.length<=10000 by lia) (by decide)
    have d1:wK 4 [a0,a1,a2,a3,.d kvs,.o (W.map E8),a6,a7,a8,.v (E8 q)] (E8 q) (.bl true)=.ok (.nx [a0,a1,a2,a3,.d (eI kvs (E8 q)<|.bl true),.o (W.map E8),a6,a7,a8,.v (E8 q)]):=by show(if _ then _ else _)=_;rw[if_pos ⟨(zC q).1,(zC q).2,hk⟩];rfl
    have d2:lX 5 [a0,a1,a2,a3,.d (eI kvs (E8 q)<|.bl true),.o (W.map E8),a6,a7,a8,.v (E8 q)] (E8 (q.2,q.1))=.ok (.nx [a0,a1,a2,a3,.d (eI kvs (E8 q)<|.bl true),.o ((W++[(q.2,q.1)]).map E8),a6,a7,a8,.v (E8 q)]):=by show(if _ then _ else _)=_;rw[if_pos hw,aCh];rfl
    show D5 ((R.ok<|E8 q).bind λkd=>wK 4 [a0,a1,a2,a3,.d kvs,.o (W.map E8),a6,a7,a8,.v (E8 q)] kd (D.bl true)) _=_;rw[R.aa0,d1];exact d2
   ·rw[e];simp
  ·rw[m x,KN,aAd];constructor
   ·rintro((h|h)|h)
    ·exact .inl h
    ·exact .inr (.inl (SA h))
    ·exact .inr (.inr h)
   ·rintro(h|h|h)
    ·exact .inl (.inl h)
    ·exact .inl (.inr (by rw[h]))
    ·exact .inr h
section
variable(Φ:(List D->R D)->Hp->(Addr->Prop)->Addr->Prop)
def rj:Ev->R Out:=λρ=>
 D5 ((zH 5 ρ).bind λz=>R.ok (Out.nx<|aCF z.snd 6<|Sl.v z.fst)) λρ=>
  ((V6 6 ρ).bind (pI 4 ρ)).bind λt=>
   if t=true then
    D5
     ((((V6 6 ρ).bind λd=>((callC Φ 1 (o8 (λρ=>(pM 6 ρ).bind λx=>D2 x (D.int 0)) Q5) ρ).bind λd=>R.ok [d]).bind λds=>R.ok (d::ds)).bind C4).bind λd=>R.ok (Out.nx<|aCF ρ 7<|Sl.v d))
     λρ=>
     D5
      (((((pM 7 ρ).bind λx=>IC x none (some 3)).bind λd=>((callC Φ 2 (o8 (V6 7) Q5) ρ).bind λd=>R.ok [d]).bind λds=>R.ok (d::ds)).bind N6).bind λd=>R.ok (Out.nx<|aCF ρ 8<|Sl.v d))
      λρ=>
      D5 ((((V6 7 ρ).bind λd=>((V6 8 ρ).bind λd=>R.ok [d]).bind λds=>R.ok (d::ds)).bind bR).bind (lX 3 ρ))
       λρ=>((((V6 8 ρ).bind λd=>R.ok [d]).bind x8).bind O9).bind λds=>I9 (λd ρ=>R.ok (aCF ρ 9<|Sl.v d)) ffS ds ρ
   else R.ok (Out.nx ρ)
def xJ (L:D) (p0:G.V×G.V) (fs:List D) (kvs:List (D×D)) (W:List (G.V×G.V)) (a b c d:Sl):Ev:=
 [Sl.v (E8 p0),Sl.c (G5 [L]) (Φ<|G5 [L]),Sl.c (B5 [L]) (Φ<|B5 [L]),.o fs,.d kvs,.o (W.map E8),a,b,c,d]
end
def xY {Φ:(List D->R D)->Hp->(Addr->Prop)->Addr->Prop}{i:Nat}{f:Ev->R (List D)}{ρ:Ev}{m:List D->R D}{ds:List D}(h:ρ[i]?=some (.c m (Φ m)))(hf:f ρ=.ok ds):callC Φ i f ρ=m ds:=by unfold callC;rw[h];dsimp only;rw[if_pos rfl,hf];rfl
def fZ (pts:List G.V)(fs:List (G.V×Int)):Nat:=(fs.map λf=>(G.j6 pts f).length).sum
def dS (pts:List G.V)(fs:List (G.V×Int))(f:G.V×Int):fZ pts (fs++[f])=fZ pts fs+(G.j6 pts f).length:=by simp[fZ]
def JH {pts:List G.V}{m:G.V}(h:Land pts m):Sz 1000 (G.e9 m pts).1/\Sz 1000 (G.e9 m pts).2:=by
 have sm:Sz 900 m:=h.sz.1 m h.good.mem;obtain⟨hp,tm,out,to,ae⟩:=G.xM h.good.solid h.good.mem h.good.least;unfold G.e9;dsimp only;split
 ·exact⟨sm.mono,ME sm⟩
 ·obtain⟨x,y,r,et⟩:=KH tm to ae;rw[et];have q:∀z∈x::y::r,Sz 1000 z:=λz hz=>by rw[<-et]at hz;exact(h.sz.1 z (G.d5.mp hz).1).mono
  exact⟨q x (.head _),q y (.tail _ (.head _))⟩
def RW {pts:List G.V}{m:G.V}(h:Land pts m){fs:List (G.V×Int)}{wk:G.V×G.V->Prop}{W:List (G.V×G.V)}(L:G.LInv pts (G.e9 m pts) fs wk W){p:G.V×G.V}(hp:p∈W):Sz 1000 p.1/\Sz 1000 p.2:=by
 rcases L.wt p hp with⟨f,hf,he⟩|⟨_,e⟩
 ·have S:=(L.face f hf).aa2 h.good.ord;have ed:=S.aa1.mp he;exact⟨(h.sz.1 _ (G.d5.mp ed.q).1).mono,(h.sz.1 _ (G.d5.mp ed.p).1).mono⟩
 ·rw[e];exact JH h
def KO {pts:List G.V}{m:G.V}(h:Land pts m){f:G.V×Int}(hf:G.IsFace pts f.1 f.2):(G.j6 pts f).length<=pts.length:=by have S:=hf.aa2 h.good.ord;exact G.M9 S.aa4 λx hx=>(G.d5.mp<|S.aa3 hx).1
def vS {pts:List G.V}{f g:G.V×Int}(h:R4 (l9 pts f)=R4 (l9 pts g)):f=g:=by have h:[f.1.x,f.1.y,f.1.z,f.2]=[g.1.x,g.1.y,g.1.z,g.2]:=h;simp only[aFL,and_true]at h;exact aFM (G.ext h.1 h.2.1 h.2.2.1) h.2.2.2
def qA {α β:Type}{f:α->β}(hf:∀a b,f a=f b->a=b){l:List α}(h:l.Nodup):(l.map f).Nodup:=aBK.mpr (h.imp λ{a b} n e=>n (hf a b e))
def QP {Φ:(List D->R D)->Hp->(Addr->Prop)->Addr->Prop}{pts:List G.V}{m:G.V}(hz:Land pts m){fs:List (G.V×Int)}{kvs:List (D×D)}{W:List (G.V×G.V)}{a b c d:Sl}(L:G.LInv pts (G.e9 m pts) fs (λe=>E8 e∈kvs.map (·.1)) W)
  (hk:kvs.length<=fZ pts fs) (hW:W.length<=1+fZ pts fs) {n:Nat} (hn:W.length+(pts.length*pts.length-fZ pts fs)<n+1) (ae:W≠[]):
  ∃wc ic W' a' b' c' d',rj Φ (xJ Φ (.lst (pts.map vd)) (G.e9 m pts) (fs.map (l9 pts)) kvs W a b c d)=.ok (.nx (xJ Φ (.lst (pts.map vd)) (G.e9 m pts) (wc.map (l9 pts)) ic W' a' b' c' d'))/\
   G.LInv pts (G.e9 m pts) wc (λe=>E8 e∈ic.map (·.1)) W'/\ic.length<=fZ pts wc/\W'.length<=1+fZ pts wc/\W'.length+(pts.length*pts.length-fZ pts wc)<n:=by
 obtain⟨rest,p,rfl⟩:∃rest p,W=rest++[p]:=⟨W.dropLast,W.getLast ae,(List.dropLast_concat_getLast ae).symm⟩;have sfew:=G.dQ hz.good.solid hz.good.ord L.nd L.face;have few:=hz.few;have nn:pts.length*pts.length<=63*63:=aEc few few;have hsum:fZ pts fs+pts.length<=pts.length*pts.length:=sfew;have hlW:(rest++[p]).length=rest.length+1:=by simp
 rw[hlW]at hW hn;have pop:zH 5 (xJ Φ (.lst (pts.map vd)) (G.e9 m pts) (fs.map<|l9 pts) kvs (rest++[p]) a b c d)=.ok (E8 p,xJ Φ (.lst (pts.map vd)) (G.e9 m pts) (fs.map<|l9 pts) kvs rest a b c d):=by show(match((rest++[p]).map E8)[((rest++[p]).map E8).length-1]? with|some d=>_|none=>_:R (D×Ev))=_;rw[aCh];simp;rfl
 have nin:pI 4 (xJ Φ (.lst (pts.map vd)) (G.e9 m pts) (fs.map<|l9 pts) kvs rest (.v (E8 p)) b c d) (E8 p)=.ok (!(open Classical in decide (E8 p∈kvs.map (·.1)))):=by unfold pI;rw[show(xJ Φ (.lst (pts.map vd)) (G.e9 m pts) (fs.map<|l9 pts) kvs rest (.v (E8 p)) b c d)[4]?=some (.d kvs)from rfl];dsimp only;rw[if_pos (zC p)]
 have s1:V7 1000 pts:=hz.sz.mono;unfold rj;rw[pop];show∃wc ic W' a' b' c' d',D5 (R.ok<|Out.nx<|xJ Φ (.lst (pts.map vd)) (G.e9 m pts) (fs.map<|l9 pts) kvs rest (.v (E8 p)) b c d) _=_/\_;rw[A8];rw[show V6 6 (xJ Φ (.lst (pts.map vd)) (G.e9 m pts) (fs.map<|l9 pts) kvs rest (.v (E8 p)) b c d)=.ok (E8 p)from rfl,R.aa0,nin,R.aa0];by_cases hp:E8 p∈kvs.map (·.1)
 ·refine⟨fs,kvs,rest,.v (E8 p),b,c,d,?_,G.IN hz.good L rfl hp,hk,by lia,by lia⟩;rw[decide_eq_true hp];rfl
 ·have hpm:p∈rest++[p]:=by simp
  obtain⟨n1,n2,n3⟩:=G.vE hz.good L hpm hp;obtain⟨sp1,sp2⟩:=RW hz L hpm;have ab:=U8 sp1 sp2 s1 n1.prim;have asz:=wH sp1 sp2 s1;obtain⟨f,ef⟩:∃f,G.b7 p.1 p.2 pts=f:=⟨_,rfl⟩;rw[ef]at n1 n2 n3 ab asz;have po:=gH (d:=f.2) asz.mono s1;have ro:=RB (n:=f.1) (pts:=G.x5 f.1 f.2 pts) asz.mono (IL s1);have rl:=KO hz n1;have ro:N6 [vd f.1,.lst ((G.x5 f.1 f.2 pts).map vd)]=.ok (.lst ((G.j6 pts f).map vd)):=ro;have pr:=IM (pts:=G.j6 pts f) (by lia);have L':=λ{wk'} {W'} h1 h2=>G.LF hz.good L (rest:=rest) (p:=p) rfl hp (walked':=wk') (waiting':=W') h1 h2;rw[ef]at L';have nd':(fs++[f]).Nodup:=by
   have:=(L' (wk':=λe=>E8 e∈kvs.map (·.1)\/e∈G.T5 (G.j6 pts f)) (W':=rest++(G.T5<|G.j6 pts f).map λq=>(q.2,q.1)) (λe=>Iff.rfl) (λq=>by
    rw[aAS,aAo];constructor
    ·rintro(h|⟨x,hx,rfl⟩)
     ·exact .inl h
     ·exact .inr hx
    ·rintro(h|h)
     ·exact .inl h
     ·exact .inr ⟨_,h,rfl⟩))
   exact this.nd
  have sfew2:fZ pts (fs++[f])+pts.length<=pts.length*pts.length:=G.dQ hz.good.solid hz.good.ord nd' λg hg=>by
   rcases aAS.mp hg with z|z
   ·exact L.face g z
   ·rw[aBl.mp z];exact n1
  rw[dS]at sfew2;have clen:(G.T5<|G.j6 pts f).length=(G.j6 pts f).length:=by unfold G.T5;simp;lia
  obtain⟨ic,a9',run,mem',len'⟩:=DM (a0:=Sl.v (E8<|G.e9 m pts)) (a1:=Sl.c (G5 [.lst (pts.map vd)]) (Φ<|G5 [.lst (pts.map vd)])) (a2:=Sl.c (B5 [.lst (pts.map vd)]) (Φ<|B5 [.lst (pts.map vd)])) (a3:=.o ((fs++[f]).map (l9 pts))) (a6:=.v (E8 p)) (a7:=.v (rK f.1 f.2)) (a8:=.v (.lst ((G.j6 pts f).map vd))) (G.T5<|G.j6 pts f) kvs rest d (by lia) (by lia);refine⟨fs++[f],ic,rest++(G.T5<|G.j6 pts f).map (λq=>(q.2,q.1)),.v (E8 p),.v (rK f.1 f.2),.v (.lst ((G.j6 pts f).map vd)),a9',?_,L' mem' (λq=>?_),?_,?_,?_⟩
  ·have ap:lX 3 (xJ Φ (.lst (pts.map vd)) (G.e9 m pts) (fs.map<|l9 pts) kvs rest (.v (E8 p)) (.v (rK f.1 f.2)) (.v (.lst ((G.j6 pts f).map vd))) d) (l9 pts f)=.ok (.nx (xJ Φ (.lst (pts.map vd)) (G.e9 m pts) ((fs++[f]).map (l9 pts)) kvs rest (.v (E8 p)) (.v (rK f.1 f.2)) (.v (.lst ((G.j6 pts f).map vd))) d)):=by show(if(fs.map<|l9 pts).length<sizeLine then _ else _)=_;have h3:=G.kZ hz.good.solid hz.good.ord L.face;have h3:3*fs.length<=fZ pts fs:=h3;rw[if_pos (by rw[aAm];exact aDd (show fs.length<=4000 by lia) (by decide)),aCh];rfl
   have ca:callC Φ 1 (o8 (λρ=>(pM 6 ρ).bind λx=>D2 x (D.int 0)) Q5) (xJ Φ (.lst (pts.map vd)) (G.e9 m pts) (fs.map<|l9 pts) kvs rest (.v (E8 p)) b c d)=.ok (.lst (pts.map vd)):=by exact(xY (m:=G5 [.lst (pts.map vd)]) (ds:=[vd p.1]) rfl rfl).trans rfl
   have ct:callC Φ 2 (o8 (V6 7) Q5) (xJ Φ (.lst (pts.map vd)) (G.e9 m pts) (fs.map<|l9 pts) kvs rest (.v (E8 p)) (.v (rK f.1 f.2)) c d)=.ok (.lst ((G.x5 f.1 f.2 pts).map vd)):=by exact(xY (m:=B5 [.lst (pts.map vd)]) (ds:=[rK f.1 f.2]) rfl rfl).trans po
   have sl:IC (rK f.1 f.2) none (some 3)=.ok (vd f.1):=rfl;rw[decide_eq_false hp];simp only[Bool.not_false,if_true];rw[ca,R.aa0,R.aa0,R.aa0,R.aa0,ab,R.aa0];show D5 (R.ok<|Out.nx<|xJ Φ (.lst (pts.map vd)) (G.e9 m pts) (fs.map<|l9 pts) kvs rest (.v (E8 p)) (.v (rK f.1 f.2)) c d) _=_;rw[A8];rw[ct];show D5 ((((R.ok<|rK f.1 f.2).bind λx=>IC x none (some 3)).bind λd=>(R.ok [D.lst ((G.x5 f.1 f.2 pts).map vd)]).bind λds=>R.ok (d::ds)).bind N6|>.bind λd=>R.ok (Out.nx<|aCF _ 8<|Sl.v d)) _=_;rw[R.aa0,sl,R.aa0,R.aa0,R.aa0,ro,R.aa0];show D5 (R.ok<|Out.nx<|xJ Φ (.lst (pts.map vd)) (G.e9 m pts) (fs.map<|l9 pts) kvs rest (.v (E8 p)) (.v (rK f.1 f.2)) (.v (.lst ((G.j6 pts f).map vd))) d) _=_;rw[A8];show D5 (lX 3 (xJ Φ (.lst (pts.map vd)) (G.e9 m pts) (fs.map<|l9 pts) kvs rest (.v (E8 p)) (.v (rK f.1 f.2)) (.v (.lst ((G.j6 pts f).map vd))) d)<|l9 pts f) _=_;rw[ap,A8];show((x8 [.lst ((G.j6 pts f).map vd)]).bind O9).bind _=_;rw[pr,R.aa0];exact run
  ·rw[aAS,aAo];constructor
   ·rintro(h|⟨x,hx,rfl⟩)
    ·exact .inl h
    ·exact .inr hx
   ·rintro(h|h)
    ·exact .inl h
    ·exact .inr ⟨_,h,rfl⟩
  ·rw[dS];lia
  ·rw[dS,aAE,aAm];lia
  ·rw[dS,aAE,aAm];lia
end M
namespace M
open PySem L2 DL
def PL (pts:List G.V)(f:G.V×Int):List (G.V×Int)->List (G.V×Int)
 |[]=>[f]
 |x::xs=>if HT.lexLt (R4 (l9 pts f)) (R4 (l9 pts x))=true then f::x::xs else x::PL pts f xs
def CD (pts:List G.V)(fs:List (G.V×Int)):List (G.V×Int):=fs.foldr (PL pts) []
theorem yP (pts:List G.V)(f:G.V×Int):∀xs:List (G.V×Int),uS R4 (l9 pts f) (xs.map (l9 pts))=(PL pts f xs).map (l9 pts)
 |[]=>rfl
 |x::xs=>by
  unfold PL;rw[aAu,uS];split
  ·rfl
  ·rw[aAu,yP pts f xs]
theorem dE (pts:List G.V):∀fs:List (G.V×Int),pC R4 (fs.map (l9 pts))=(CD pts fs).map (l9 pts)
 |[]=>rfl
 |f::fs=>by show uS R4 (l9 pts f) (pC R4 (fs.map (l9 pts)))=_;rw[dE pts fs,yP];rfl
def jN (h:l9 pts f=l9 pts g):f=g:=vS (by rw[h])
theorem fD:∀{a b:List (G.V×Int)},a.map (l9 pts)=b.map (l9 pts)->a=b
 |[],[],_=>rfl
 |[],_::_,h=>by cases h
 |_::_,[],h=>by cases h
 |x::a,y::b,h=>by rw[aAu,aAu]at h;injection h with h1 h2;rw[jN h1,fD h2]
def FA:f∈CD pts fs↔f∈fs:=by
 have h:=(U5 R4<|fs.map<|l9 pts).mem_iff (a:=l9 pts f);rw[dE]at h;constructor
 ·intro q;obtain⟨g,hg,e⟩:=aAo.mp (h.mp<|aBa q);rw[<-jN e];exact hg
 ·intro q;obtain⟨g,hg,e⟩:=aAo.mp (h.mpr<|aBa q);rw[<-jN e];exact hg
def rZ [Tabs]{pts:List G.V}{fs:List (G.V×Int)}(h:fs.Nodup):((fs.map (l9 pts)).map R4).Nodup:=by rw[aBj];exact qA (λa b e=>vS (pts:=pts) e) h
def bN (h:tO k l):l.Nodup:=h.imp λ{a b} q e=>by subst e;rw[TS.lex_irrefl]at q;cases q
def T2 {pts:List G.V}{fs:List (G.V×Int)}(h:(fs.map (l9 pts)).Nodup):fs.Nodup:=(aBK.mp h).imp λ{a b} n e=>n (by rw[e])
def wR {pts:List G.V}{fs gs:List (G.V×Int)}(h1:cM pts fs)(h2:cM pts gs):fs=gs:=by
 have n1:=T2 (bN h1.2);have n2:=T2 (bN h2.2);have p:fs.Perm gs:=(aDv n1 n2).mpr λf=>by rw[h1.1,h2.1]
 exact fD (kJ h1.2 h2.2 (p.map _))
def nE (h:cM pts fs):p7 pts=fs:=by unfold p7;have q:∃fs,cM pts fs:=⟨fs,h⟩;rw[dif_pos q];exact wR q.choose_spec h
def rJ [Tabs]{pts:List G.V}{fs:List (G.V×Int)}(nd:fs.Nodup)(h:∀n d,(n,d)∈fs↔G.IsFace pts n d):cM pts (CD pts fs):=by refine⟨λf=>by rw[FA];exact h f.1 f.2,?_⟩;rw[<-dE];exact jU (rZ nd)
def fq [Tabs]{Φ:(List D->R D)->Hp->(Addr->Prop)->Addr->Prop}{pts:List G.V}{m:G.V}(hz:Land pts m)(rh:pts.length<=14):
  P8 (D5 (R5 ffC (rj Φ) 5000 (xJ Φ (.lst (pts.map vd)) (G.e9 m pts) [] [] [G.e9 m pts] .no .no .no .no)) λρ=>(((pM 3 ρ).bind YW).bind λds=>R.ok (D.lst ds)).bind λd=>R.ok (Out.rt d))=.ok (.lst ((p7 pts).map (l9 pts))):=by
 refine GH (Iv:=λn ρ=>∃fs kvs W a b c d,ρ=xJ Φ (.lst (pts.map vd)) (G.e9 m pts) (fs.map<|l9 pts) kvs W a b c d/\G.LInv pts (G.e9 m pts) fs (λe=>E8 e∈kvs.map (·.1)) W/\kvs.length<=fZ pts fs/\W.length<=1+fZ pts fs/\W.length+(pts.length*pts.length-fZ pts fs)<n) ?_ ?_ ?_ (by rintro ρ ⟨_,_,_,_,_,_,_,_,_,_,_,h⟩;lia)
 ·rintro n ρ ⟨fs,kvs,W,a,b,c,d,rfl,L,hk,hW,hn⟩;by_cases ae:W=[]
  ·subst ae;exact .inl rfl
  ·refine .inr ⟨?_,?_⟩
   ·have hl:(0:Int)<((W.map E8).length:Int):=by have:=aDF.mpr ae;rw[aAm];lia
    show(R.ok<|D.bl<|decide ((0:Int)<((W.map E8).length:Int))).bind yR=_;rw[decide_eq_true hl];rfl
   ·obtain⟨wc,ic,W',a',b',c',d',e,L',ju,hW',hn'⟩:=QP (Φ:=Φ) (a:=a) (b:=b) (c:=c) (d:=d) hz L hk hW hn ae;exact⟨_,e,wc,ic,W',a',b',c',d',rfl,L',ju,hW',hn'⟩
 ·refine⟨[],[],[G.e9 m pts],.no,.no,.no,.no,rfl,?_,aAh _,aAh _,?_⟩
  ·have:=G.BB hz.good;refine⟨this.face,this.nd,λe=>?_,this.cl,this.wt,this.ne⟩;rw[<-this.wk e];simp
  ·have nn:pts.length*pts.length<=14*14:=aEc rh rh;show 1+(pts.length*pts.length-0)<5000
   lia
 ·rintro n ρ ⟨fs,kvs,W,a,b,c,d,rfl,L,hk,hW,hn⟩ hc;have hW0:W=[]:=by
   cases W with
   |nil=>rfl
   |cons p W=>have hc:(R.ok<|D.bl<|decide ((0:Int)<(((p::W).map E8).length:Int))).bind yR=.ok false:=hc;rw[decide_eq_true (by simp;try lia)]at hc;cases hc
  subst hW0;obtain⟨ae,oi⟩:=G.NO hz.good L;have FL:=rJ L.nd oi;rw[nE FL];have few:=G.dQ hz.good.solid hz.good.ord L.nd L.face;have three:=G.kZ hz.good.solid hz.good.ord L.face;have nn:pts.length*pts.length<=14*pts.length:=Nat.mul_le_mul_right _ rh;have yi:(fs.map<|l9 pts).length<=63:=by rw[aAm];lia
  have sf:YW (.lst (fs.map<|l9 pts))=.ok ((CD pts fs).map (l9 pts)):=by show(if _ then _ else _)=_;rw[if_pos ⟨aBU.mpr λd hd=>by obtain⟨f,_,rfl⟩:=aAo.mp hd;rfl,rZ L.nd,yi⟩,dE]
  show P8 ((((R.ok<|D.lst<|fs.map<|l9 pts).bind YW).bind λds=>R.ok (D.lst ds)).bind λd=>R.ok (Out.rt d))=_;rw[R.aa0,sf];rfl
end M
namespace M
open PySem L2 DL
theorem DQ:∀{ds:List D},(∀d∈ds,∃v,d=vd v)->(ds.filterMap mF).map vd=ds
 |[],_=>rfl
 |d::ds,h=>by obtain⟨v,rfl⟩:=h d (.head _);rw[List.filterMap_cons_some (iE v),aAu,DQ λd hd=>h d (.tail _ hd)]
section
variable [Tabs]
def LD (pts:List G.V):∀d∈pts.map vd,bO d=true:=λd hd=>by obtain⟨v,_,rfl⟩:=aAo.mp hd;rfl
def aS (pts:List G.V):Z6 (pts.map vd)=(d6 pts).map vd:=by unfold d6;refine(DQ λd hd=>?_).symm;obtain⟨v,_,rfl⟩:=aAo.mp ((M3 (LD pts) d).mp hd);exact⟨v,rfl⟩
def D8 (pts:List G.V):(d6 pts).Pairwise λa b=>G.i7 (b-a):=VZ (by rw[<-aS];exact dR _)
def NY {v:G.V}{pts:List G.V}:vd v∈pts.map vd↔v∈pts:=by rw[aAo];exact⟨λ⟨u,hu,e⟩=>by rw[<-AK e];exact hu,λh=>⟨v,h,rfl⟩⟩
def u8 {pts:List G.V}{v:G.V}:v∈d6 pts↔v∈pts:=by rw[<-NY,<-aS,M3 (LD pts),NY]
def bF (pts:List G.V):(d6 pts).Nodup:=(D8 pts).imp λ{a b} h e=>by subst e;exact G.O6 h
def lJ {a b:List G.V}(ha:a.Pairwise λa b=>G.i7 (b-a))(hb:b.Pairwise λa b=>G.i7 (b-a))(h:∀v,v∈a↔v∈b):a=b:=by refine QU (oZ (zV ha) (zV hb) λd=>?_);rw[aAo,aAo];exact⟨λ⟨v,hv,e⟩=>⟨v,(h v).mp hv,e⟩,λ⟨v,hv,e⟩=>⟨v,(h v).mpr hv,e⟩⟩
def UC (h:(d6 pts).length<=63):fj (.lst (pts.map vd))=.ok ((d6 pts).map vd):=by show(if _ then _ else _)=_;rw[if_pos ⟨IS pts,by rw[aS,aAm];exact h⟩,aS]
def jL (h:G.j9 a)(hm:∀v,v∈a->v∈b):G.j9 b:=by obtain⟨A,hA,B,hB,C,hC,D,hD,e⟩:=h;exact⟨A,hm A hA,B,hm B hB,C,hm C hC,D,hm D hD,e⟩
def UT (h:G.j9 pts):G.S8 pts=3:=by
 by_cases e:G.S8 pts=3
 ·exact e
 ·exact absurd h (G.NV e)
def pH (pts:List G.V):(d6 pts).length<=pts.length:=G.M9 (bF pts) λv hv=>u8.mp hv
def dH (hs:V7 900 pts)(hd:G.j9 pts)(hl:(d6 pts).length<=63):∃m r,d6 pts=m::r/\Land (m::r) m:=by
 have sd:G.j9 (d6 pts):=jL hd λv hv=>u8.mpr hv;cases e:d6 pts with
 |nil=>rw[e]at sd;obtain⟨A,hA,_⟩:=sd;cases hA
 |cons m r=>
  refine⟨m,r,rfl,?_⟩;have so:=D8 pts;rw[e]at sd hl so;refine⟨⟨sd,so,.head _,λX hX=>?_⟩,⟨λP hP=>hs.1 P (u8.mp (by rw[e];exact hP)),by lia⟩,hl,rfl⟩;rcases aAd.mp hX with h|h
  ·exact .inl h
  ·exact .inr ((aAy.mp so).1 X h)
def RQ (h1:V7 1000 pts)(h2:G.j9 pts):C3 [.lst (pts.map vd)]=.ok .non:=by simp only[C3,o6];exact if_pos ⟨h1,UT h2⟩
def bz (h:Land (m::pts) m):F1 [.lst ((m::pts).map vd)]=.ok (E8 (G.e9 m (m::pts))):=by simp only[F1,o6];exact if_pos h
def UP (h:Land (m::pts) m)(rh:(m::pts).length<=14):F6 (E8 (G.e9 m (m::pts))) (G5 [.lst ((m::pts).map vd)]) (B5 [.lst ((m::pts).map vd)])=.ok (.lst ((p7 (m::pts)).map (l9 (m::pts)))):=by simp only[F6,show G5 [.lst ((m::pts).map vd)] [.non]=.ok (.lst ((m::pts).map vd))from rfl,o6];exact if_pos ⟨h,rh,rfl,rfl,rfl⟩
def xV (h1:V7 900 pts)(h2:G.j9 pts)(h3:(d6 pts).length<=14):M7 [.lst (pts.map vd)]=.ok (.lst ((p7 (d6 pts)).map (l9 (d6 pts)))):=by simp only[M7,o6];exact if_pos ⟨h1,h2,h3⟩
def QD (h1:V7 900 pts)(h2:G.j9 pts)(h3:(d6 pts).length<=14):Y9 [.lst (pts.map vd)]=.ok (.lst ((v7 pts).map vd)):=by simp only[Y9,o6];exact if_pos ⟨h1,h2,h3⟩
omit [Tabs]in
theorem YY {α:Type}:∀l:List α,∃l':List α,l'.Nodup/\∀x,x∈l'↔x∈l
 |[]=>⟨[],aCL,λ_=>Iff.rfl⟩
 |a::l=>by
  obtain⟨l',nd,h⟩:=YY l;by_cases ha:a∈l
  ·exact⟨l',nd,λx=>by rw[h,aAd];exact⟨.inr,λq=>q.elim (λe=>by rw[e];exact ha) id⟩⟩
  ·exact⟨a::l',aAJ.mpr ⟨λz=>ha ((h a).mp z),nd⟩,λx=>by rw[aAd,aAd,h]⟩
def Q1 (h:Land pts m)(rh:pts.length<=14):cM pts (p7 pts):=by
 classical
 obtain⟨fs,nd,hfs⟩:=YY ((G.cands pts).filter λf=>decide (G.IsFace pts f.1 f.2));have hm:∀n d,(n,d)∈fs↔G.IsFace pts n d:=λn d=>by
  rw[hfs,aDh];constructor
  ·intro q;exact of_decide_eq_true q.2
  ·intro q;refine⟨?_,decide_eq_true q⟩;obtain⟨A,hA,B,hB,C,hC,_,e⟩:=G.kN q;unfold G.cands;rw[<-e];exact aBs.mpr ⟨A,hA,aBs.mpr ⟨B,hB,aAo.mpr ⟨C,hC,rfl⟩⟩⟩
 have FL:=rJ nd hm;rw[nE FL];exact FL
theorem lF:∀(xs:List D) (rs:List (List G.V)) (acc:List G.V) (x y:Sl),rC xs=some rs->acc.length+rs.flatten.length<=3000->
  ∃x' y',I9 (eS 2 (L6 (λd ρ=>R.ok (aCF ρ 2 (Sl.v d))) (L6 (λd ρ=>R.ok (aCF ρ 3 (Sl.v d))) lC))) (λρ=>(V6 3 ρ).bind (WO 1 ρ)) xs [a,.o (acc.map vd),x,y]=.ok (.nx [a,.o ((acc++rs.flatten).map vd),x',y'])
 |[],rs,acc,x,y,h,_=>by cases h;exact⟨x,y,by simp⟩
 |d::xs,rs,acc,x,y,h,hl=>by
  unfold rC at h;split at h
  ·rename_i v vs h1 h2;cases h;obtain⟨p,ys,rfl,e1⟩:∃p ys,d=.tup [p,.lst ys]/\B1 ys=some v:=by
    unfold UZ at h1;split at h1
    ·exact⟨_,_,rfl,h1⟩
    ·cases h1
   have ey:=m9 e1;subst ey;rw[List.flatten_cons,aAE]at hl;obtain⟨x',y',e⟩:=lF xs vs (acc++v) (.v p) (.v (.lst (v.map vd))) h2 (by rw[aAE];lia);refine⟨x',y',?_⟩;have hz:(acc.map vd).length+(v.map vd).length<=sizeLine:=by rw[aAm,aAm];exact JW (by lia)
   refine(L8 (ρ1:=[a,.o (acc.map vd),.v p,.v (.lst (v.map vd))]) (ρ2:=[a,.o ((acc++v).map vd),.v p,.v (.lst (v.map vd))]) rfl ?_).trans ?_
   ·show(if(acc.map vd).length+(v.map vd).length<=sizeLine then _ else _)=_;rw[if_pos hz,aCh];rfl
   ·rw[e,List.flatten_cons,aFi]
  ·cases h
theorem lL (pts:List G.V):∀fs:List (G.V×Int),rC (fs.map (l9 pts))=some (fs.map (G.j6 pts))
 |[]=>rfl
 |f::fs=>by rw[aAu,rC,lL pts fs];rw[show UZ (l9 pts f)=some (G.j6 pts f)from o6 _];rfl
def zP {pts:List G.V}{fs:List (G.V×Int)}(h1:(fs.flatMap (G.j6 pts)).length<=3000)(h2:(d6 (fs.flatMap (G.j6 pts))).length<=63):F5 [.lst (fs.map (l9 pts))]=.ok (.lst ((d6 (fs.flatMap (G.j6 pts))).map vd)):=by have e:(fs.map<|G.j6 pts).flatten=fs.flatMap (G.j6 pts):=rfl;simp only[F5,lL,e];exact if_pos ⟨h1,h2⟩
def oK (ho:pts.Pairwise λa b=>G.i7 (b-a))(hf:G.IsFace pts f.1 f.2)(h:X∈G.j6 pts f):X∈pts:=(G.d5.mp<|(hf.aa2 ho).aa3 h).1
def vT (h1:V7 900 pts)(h2:G.j9 pts)(h3:(d6 pts).length<=14)(h:X∈v7 pts):X∈pts:=by obtain⟨m,r,e,L⟩:=dH h1 h2 (by lia);unfold v7 at h;rw[u8,aBs]at h;obtain⟨f,hf,hX⟩:=h;rw[e]at hf hX h3;have FL:=Q1 L h3;have:=oK L.good.ord ((FL.1 f).mp hf) hX;rw[<-e,u8]at this;exact this
def qY (L:Land pts m)(rh:pts.length<=14):((p7 pts).flatMap (G.j6 pts)).length<=200/\(d6 ((p7 pts).flatMap (G.j6 pts))).length<=14:=by
 have FL:=Q1 L rh;have nd:=T2 (bN FL.2);have few:=G.dQ L.good.solid L.good.ord nd λf hf=>(FL.1 f).mp hf;have nn:pts.length*pts.length<=14*14:=aEc rh rh;constructor
 ·rw[List.length_flatMap]
  lia
 ·refine aAs (G.M9 (bF _) λv hv=>?_) rh;rw[u8,aBs]at hv;obtain⟨f,hf,hX⟩:=hv;exact oK L.good.ord ((FL.1 f).mp hf) hX
end
end M
namespace M
open PySem L2 DL
def K6 (h:0<b):N4 (.int a) (.int b)=.ok (.int (a.fmod b)):=wT (by omega)
def T6 (h:0<b)(h2:b<1000000000000000):G3 (.int a) (.int b)=.ok (.int (a.fdiv b)):=aD ⟨by omega,u6 (J5 (n:=60) (by omega) (by omega))⟩
def fI {a b:Int}(h:0<b):0<=a.fmod b/\a.fmod b<b:=by have f:=PyProof.Rows.fdiv_fmod_facts a b;have g:=f.2.2.1 h;omega
def C0 (h1:r=.ok (.nx ρ))(h2:P8 (F ρ)=x):P8 (D5 r F)=x:=by rw[h1];exact h2
def wW (h1:r=.ok (.rt d)):P8 (D5 r F)=.ok d:=by rw[h1];rfl
def qy {n:Nat}(h:n<=1000000):fT [.int (n:Int)]=.ok ((aBt n).map λ(k:Nat)=>D.int (k:Int)):=by
 show(if qP 0 (n:Int) 1 then R.ok (zO 0 1<|lP 0 n 1)else R.bad)=_;rw[if_pos ⟨by decide,by decide,by decide,by decide,by omega,by omega⟩];have e:lP 0 (n:Int) 1=n:=by
  unfold lP;split
  ·simp
  ·omega
 rw[e];unfold zO;congr 1;refine aEF λk _=>?_;simp
end M
namespace DL
open PySem PySem.Spec L2
open PyProof.Rows hiding St
variable [Tabs]
section
variable{P:Program} {w:World} {K:PySem.W.Frag} {mg:bX} {base:Heap}
end
section
variable{X:Cx} {E:XK} {st:Stmt} {rest:List Stmt} {F:Ev->R Out} {G Ga Gb:Ev->Option Value} {pos:Pos}
end
section
variable{K:PySem.W.Frag} {h:Heap} {C:Addr} {bmB:List Value} {newId:String}
end
section
variable{X:Cx} {E:XK} {pos ar np:Pos} {x:Str} {C:Addr} {bmB:List Value} {B newId initId:String}
end
end DL
namespace DL
open PySem PySem.Spec PySem.Calls PySem.W Builtin Builtin.ObjectAttr Builtin.Getset_descriptor
open PyProof.Rows hiding St
section
variable{prog:Program} {w:World} {A:Around} {E:C5} {K:Frag} {h:Heap} {g:Array GenState} {d:Drawn} {t:Nat} {os:OsState} {a C:Addr} {o:Obj}
end
end DL
namespace DL
open PySem PySem.Spec L2
open PyProof.Rows hiding St
variable [Tabs]
section
variable{X:Cx} {pos:Pos}
end
section
variable{X:Cx} {pins:M2} {σ:St} {H H':Hp} {s s':Shared}
end
section
variable{K:PySem.W.Frag} {H9 H:Hp} {O0 O:Addr->Prop} {σ:St} {ρ:Ev}
end
section
variable{X:Cx} {pos qp np:Pos}
end
section
variable{X:Cx} {pos:Pos}
end
section
variable{X:Cx} {pos:Pos}
end
section
def cw {xs es:List Expr}{p:Pos}{env:Env}:starEach (.List xs p::es) env=(false,eval (.List xs p) env)::starEach es env:=rfl
def YF {xs:List Expr}{p:Pos}{t:Option Expr}{l:Nat}{env:Env}:swapsWith (Expr.List xs p) t l env=pure false:=rfl
end
section
end
section
end
end DL
namespace G
end G
namespace M
open PySem L2 DL
variable [Tabs]
end M
namespace G
section
variable{pts c:List V} (hs:j9 pts) (ho:pts.Pairwise (λa b=>i7 (b-a))) (bu:c.Pairwise (λa b=>i7 (b-a))) (hc:∀X,X∈c↔∃f:V×Int,IsFace pts f.1 f.2/\X∈j6 pts f)
include hs ho bu hc
theorem TZ (h:X∈c):X∈pts:=by obtain⟨f,hf,hX⟩:=(hc X).mp h;exact(d5.mp<|(hf.aa2 ho).aa3 hX).1
theorem kD (hf:IsFace pts n d)(h:X∈j6 pts (n,d)):X∈x5 n d c:=by have h2:=(d5.mp<|(hf.aa2 ho).aa3 h).2;exact d5.mpr ⟨(hc X).mpr ⟨(n,d),hf,h⟩,h2⟩
theorem WE (h:X∈x5 n d c):X∈x5 n d pts:=d5.mpr ⟨TZ hs ho bu hc (d5.mp h).1,(d5.mp h).2⟩
theorem jY (hf:IsFace pts n d):IsFace c n d:=by
 have S:=hf.aa2 ho;obtain⟨r,s,t,l,e⟩:=U6 ho hf;have hr:r∈k9 n (x5 n d pts):=by rw[e];simp
 have jd:s∈k9 n (x5 n d pts):=by rw[e];simp
 have ht:t∈k9 n (x5 n d pts):=by rw[e];simp
 have nd:=S.aa4;rw[e]at nd;simp only[aAJ,aAd,not_or]at nd;have ers:EdgeOf n (λX=>X∈x5 n d pts) r s:=S.aa1.mp (by rw[e];simp[T5]);have st:=S.strict ers ht (λq=>nd.1.2.1 q.symm) (λq=>nd.2.1.1 q.symm);have k:=λ{X} (h:X∈k9 n (x5 n d pts))=>kD hs ho bu hc hf (X:=X) h;refine⟨hf.prim,λX hX=>hf.sup X (TZ hs ho bu hc hX),r,(d5.mp<|k hr).1,s,(d5.mp<|k jd).1,t,(d5.mp<|k ht).1,(d5.mp<|k hr).2,(d5.mp<|k jd).2,(d5.mp<|k ht).2,λq=>?_⟩;unfold i9 at st;rw[q,M0]at st
 lia
theorem uN (hf:IsFace pts n d)(h:EdgeOf n (λX=>X∈x5 n d pts) a b):EdgeOf n (λX=>X∈x5 n d c) a b:=by have S:=hf.aa2 ho;have m:=sD S (S.aa1.mpr h);exact⟨kD hs ho bu hc hf m.1,kD hs ho bu hc hf m.2,h.ne,λX hX=>h.left X (WE hs ho bu hc hX),λX hX=>h.btw X (WE hs ho bu hc hX)⟩
omit hs ho bu hc in
theorem pF {R:V->Prop}{E:List (V×V)}(hR:∀a b,R a->(a,b)∈E->R b):∀(x:V) (l:List V),R x->(∀e∈q8 (x::l),e∈E)->∀X∈x::l,R X
 |x,[],hx,_,X,hX=>by rw[aBl.mp hX];exact hx
 |x,y::l,hx,h,X,hX=>by
  have hy:=hR x y hx (h (x,y) (by simp[q8]));rcases aAd.mp hX with rfl|hX
  ·exact hx
  ·exact pF hR y l hy (λe he=>h e (by simp only[q8,aAd];exact .inr he)) X hX
theorem AF (hf:IsFace pts n d)(h:X∈k9 n (x5 n d c)):X∈k9 n (x5 n d pts):=by
 have S:=hf.aa2 ho;have S2:=(jY hs ho bu hc hf).aa2 bu;obtain⟨m,r,e,hm,hl⟩:=S2.ab4;obtain⟨m',r',e',hm',gu⟩:=S.ab4;have mm:m=m':=by
  have h1:m'∈x5 n d c:=kD hs ho bu hc hf (show m'∈k9 n (x5 n d pts)by rw[e'];simp);rcases hl m' h1 with q|q
  ·exact q.symm
  ·rcases gu m (WE hs ho bu hc hm)with q'|q'
   ·exact q'
   ·exact absurd (A4.add q q') (by
     have:(m'-m)+(m-m')=0:=by apply ext<;>simp<;>lia
     rw[this];exactλz=>by simp[i7]at z)
 have step:∀a b,a∈k9 n (x5 n d pts)->(a,b)∈T5 (k9 n<|x5 n d c)->b∈k9 n (x5 n d pts):=λa b ha hab=>by obtain⟨b',iu⟩:=aX S ha;have e1:=S2.aa1.mp hab;have e2:=uN hs ho bu hc hf (S.aa1.mp iu);rw[e1.next e2];exact(sD S iu).2
 rw[e]at h;refine pF (E:=T5 (k9 n<|x5 n d c)) (R:=λX=>X∈k9 n (x5 n d pts)) step m r (by rw[mm,e'];simp) (λf hf'=>?_) X h;rw[e,T9];exact gC r m m f hf'
theorem wY (hf:IsFace pts n d)(h:EdgeOf n (λX=>X∈x5 n d c) a b):EdgeOf n (λX=>X∈x5 n d pts) a b:=by have S:=hf.aa2 ho;have S2:=(jY hs ho bu hc hf).aa2 bu;have ha:=AF hs ho bu hc hf (S2.ac3 h);obtain⟨b',iu⟩:=aX S ha;have e:=S.aa1.mp iu;rw[h.next (uN hs ho bu hc hf e)];exact e
theorem CY (hf:IsFace pts n d):j9 c:=by
 have S:=hf.aa2 ho;obtain⟨r,s,t,l,e⟩:=U6 ho hf;have hr:r∈k9 n (x5 n d pts):=by rw[e];simp
 have ht:t∈k9 n (x5 n d pts):=by rw[e];simp
 have nd:=S.aa4;rw[e]at nd;simp only[aAJ,aAd,not_or]at nd;have ers:EdgeOf n (λX=>X∈x5 n d pts) r s:=S.aa1.mp (by rw[e];simp[T5]);have st:=S.strict ers ht (λq=>nd.1.2.1 q.symm) (λq=>nd.2.1.1 q.symm);obtain⟨hg,eg⟩:=kO hs ho hf ers;generalize(b7 s r pts).1=m at*
 generalize(b7 s r pts).2=f at*
 have T:=hg.aa2 ho;obtain⟨r2,s2,t2,l2,e2⟩:=U6 ho hg;have qr:=T.aa4;rw[e2]at qr;simp only[aAJ,aAd,not_or]at qr;obtain⟨Y,hY,y1,y2⟩:∃Y∈k9 m (x5 m f pts),Y≠s/\Y≠r:=by
  have q1:r2∈k9 m (x5 m f pts):=by rw[e2];simp
  have q2:s2∈k9 m (x5 m f pts):=by rw[e2];simp
  have q3:t2∈k9 m (x5 m f pts):=by rw[e2];simp
  by_cases a1:r2≠s/\r2≠r
  ·exact⟨r2,q1,a1⟩
  ·by_cases a2:s2≠s/\s2≠r
   ·exact⟨s2,q2,a2⟩
   ·refine⟨t2,q3,λz=>?_,λz=>?_⟩
    ·subst z;have h1:r2=r:=by
      by_cases h:r2=r
      ·exact h
      ·exact absurd ⟨qr.1.2.1,h⟩ a1
     have h2:s2=r:=by
      by_cases h:s2=r
      ·exact h
      ·exact absurd ⟨qr.2.1.1,h⟩ a2
     exact qr.1.1 (h1.trans h2.symm)
    ·subst z;have h1:r2=s:=by
      by_cases h:r2=s
      ·exact h
      ·exact absurd ⟨h,qr.1.2.1⟩ a1
     have h2:s2=s:=by
      by_cases h:s2=s
      ·exact h
      ·exact absurd ⟨h,qr.2.1.1⟩ a2
     exact qr.1.1 (h1.trans h2.symm)
 have sY:=T.strict eg hY y1 y2;have lt:=JX hs hg hf eg ers (T.aa3 hY) sY;have k:=λ{X} (h:X∈k9 n (x5 n d pts))=>kD hs ho bu hc hf (X:=X) h;have kY:=kD hs ho bu hc hg hY;have jd:s∈k9 n (x5 n d pts):=by rw[e];simp
 have dr:=(d5.mp<|k hr).2;have dss:=(d5.mp<|k jd).2;have dt:=(d5.mp<|k ht).2;refine⟨r,(d5.mp<|k hr).1,s,(d5.mp<|k jd).1,t,(d5.mp<|k ht).1,Y,(d5.mp kY).1,λz=>?_⟩;have p1:c9 n (s-r)=0:=by rw[d8];lia
 have p2:c9 n (t-r)=0:=by rw[d8];lia
 have pY:c9 n (Y-r)<0:=by rw[d8];lia
 have id:i9 (s-r) (t-r) (Y-r)*c9 n n=i9 n (s-r) (t-r)*c9 n (Y-r)+c9 n (s-r)*(c9 n (t-r)*0)+(c9 n (s-r)*i9 n (t-r) (Y-r)+c9 n (t-r)*i9 n (Y-r) (s-r)):=by generalize s-r=u;generalize t-r=v;generalize Y-r=w;have:=UL n n u v w;simp[i9,c9]at this⊢;grind
 rw[z,p1,p2]at id;have:i9 n (s-r) (t-r)*c9 n (Y-r)<0:=aBi st pY
 lia
theorem QK (fs:List (V×Int))(ae:fs≠[])(hfs:∀f,f∈fs↔IsFace pts f.1 f.2):IsFace c n d↔IsFace pts n d:=by
 refine⟨λh=>?_,jY hs ho bu hc⟩;obtain⟨f0,f0m⟩:=aFc fs ae;have sc:=CY hs ho bu hc ((hfs f0).mp f0m);have:=rA sc bu fs ae (λf hf=>jY hs ho bu hc ((hfs f).mp hf)) (λf hf a b hab=>?_) h
 ·exact(hfs _).mp this
 ·have h1:=(hfs f).mp hf;obtain⟨hg,eg⟩:=kO hs ho h1 (wY hs ho bu hc h1 hab);exact⟨b7 b a pts,(hfs _).mpr hg,uN hs ho bu hc hg eg⟩
theorem JA (hX:X∈c):∃f:V×Int,IsFace c f.1 f.2/\X∈j6 c f:=by obtain⟨⟨n,d⟩,hf,h⟩:=(hc X).mp hX;have S:=hf.aa2 ho;obtain⟨Q,hQ⟩:=aX S h;exact⟨(n,d),jY hs ho bu hc hf,((jY hs ho bu hc hf).aa2 bu).ac3 (uN hs ho bu hc hf<|S.aa1.mp hQ)⟩
end
end G
namespace M
open PySem L2 DL
variable [Tabs]
def iH {pts:List G.V}(h1:V7 900 pts)(h2:G.j9 pts)(h3:(d6 pts).length<=14):∀X,X∈v7 pts↔∃f:G.V×Int,G.IsFace (d6 pts) f.1 f.2/\X∈G.j6 (d6 pts) f:=λX=>by obtain⟨m,r,e,L⟩:=dH h1 h2 (by lia);unfold v7;rw[u8,aBs];rw[e]at h3⊢;have FL:=Q1 L h3;exact⟨λ⟨f,hf,hX⟩=>⟨f,(FL.1 f).mp hf,hX⟩,λ⟨f,hf,hX⟩=>⟨f,(FL.1 f).mpr hf,hX⟩⟩
def xO {l:List G.V}(h:l.Pairwise λa b=>G.i7 (b-a)):d6 l=l:=lJ (D8 _) h λv=>u8
def jE {pts:List G.V}(h1:V7 900 pts)(h2:G.j9 pts)(h3:(d6 pts).length<=14):G.j9 (v7 pts)/\V7 900 (v7 pts)/\d6 (v7 pts)=v7 pts/\(v7 pts).length<=14/\v7 (v7 pts)=v7 pts/\∀n d,G.IsFace (v7 pts) n d↔G.IsFace (d6 pts) n d:=by
 have hc:=iH h1 h2 h3;have bu:(v7 pts).Pairwise λa b=>G.i7 (b-a):=D8 _;have hs:G.j9 (d6 pts):=jL h2 λv hv=>u8.mpr hv;have ho:=D8 pts;obtain⟨m,r,e,L⟩:=dH h1 h2 (by lia);have FL:cM (d6 pts) (p7<|d6 pts):=by have h3':=h3;rw[e]at h3'⊢;exact Q1 L h3'
 have fl:(v7 pts).length<=14:=by have h3':=h3;unfold v7;rw[e]at h3'⊢;exact(qY L h3').2
 have ae:p7 (d6 pts)≠[]:=λz=>by
  obtain⟨A,hA,_⟩:=hs;have:∃f:G.V×Int,G.IsFace (d6 pts) f.1 f.2:=by have L':=L;rw[<-e]at L';have:=G.fQ L'.good.solid L'.good.ord L'.good.mem L'.good.least;exact⟨_,this⟩
  obtain⟨f,hf⟩:=this;have:=(FL.1 f).mpr hf;rw[z]at this;cases this
 obtain⟨f0,hf0⟩:=aFc _ ae;have sc:=G.CY hs ho bu hc ((FL.1 f0).mp hf0);have sz:V7 900 (v7 pts):=⟨λP hP=>h1.1 P (vT h1 h2 h3 hP),by lia⟩;have ss:=xO bu;refine⟨sc,sz,ss,fl,?_,λn d=>G.QK hs ho bu hc _ ae FL.1⟩;refine lJ (D8 _) bu λv=>?_;have bm:=iH sz sc (by rw[ss];exact fl) v;show v∈v7 (v7 pts)↔_;rw[bm,ss];constructor
 ·rintro⟨f,hf,hv⟩;exact oK bu hf hv
 ·exactλhv=>G.JA hs ho bu hc hv
end M
namespace M
open PySem L2 DL
end M
namespace DL
open PySem PySem.Spec L2
def QQ {K:Params->PySem.W.Frag}{P c:Addr}{tb:List (Pos×Str)}{ts:List Addr}(h1:P∈ts)(h2:∀w:World,PySem.W.codeHdIn (K w.params) c P=true):∀p∈[(P,tb)],p.1∈ts/\∃c,∀w:World,PySem.W.codeHdIn (K w.params) c p.1=true:=λp hp=>by rw[aBl.mp hp];exact⟨h1,c,h2⟩
end DL
namespace DL
open PySem PySem.Spec L2
def Got (K:PySem.W.Frag)(x:Str)(st:Stmt):Prop:=∃f fd,PySem.W.nsIn K mainGlobals x=some (some<|.ref f)/\Fun K x x st f fd
def OS (K:PySem.W.Frag)(x:Str)(st:Stmt)(Pt:Addr):Prop:=∃f fd cd,PySem.W.nsIn K mainGlobals x=some (some<|.ref f)/\PySem.W.codeHdIn K cd Pt=true/\FunC K x x st f fd cd
def bT (K:PySem.W.Frag)(mg:bX)(x:Str)(st:Stmt):Prop:=∃f fd,mg x=some (.ref f)/\Fun K x x st f fd
def gj (K:PySem.W.Frag)(mg:bX)(x:Str)(st:Stmt)(Pt:Addr):Prop:=∃f fd cd,mg x=some (.ref f)/\PySem.W.codeHdIn K cd Pt=true/\FunC K x x st f fd cd
section
variable{kV doc pm cdv ct:Value}
def US (a:PySem.W.nsIn K mainGlobals x=some (some (.ref f)))(l:K.lookup f=some ⟨oc,od,.func (PySem.W.fnOf x x (C8 st) (t5 st) (c6 st) .none kV doc pm an cdv ct),osl⟩)
 (c:PySem.W.codeIn K cdv x=true) (k:PySem.W.keepIn K (.ref f)=true):Got K x st:=⟨f,_,a,KQ l c k⟩
def QI (a:PySem.W.nsIn K mainGlobals x=some (some (.ref f)))(l:K.lookup f=some ⟨oc,od,.func (PySem.W.fnOf x x (C8 st) (t5 st) (c6 st) .none kV doc pm an cdv ct),osl⟩)
 (c:PySem.W.codeIn K cdv x=true) (k:PySem.W.keepIn K (.ref f)=true) (e:cdv=.ref cd) (n:PySem.W.codeHdIn K cd Pt=true):OS K x st Pt:=⟨f,_,cd,a,n,QL l e c k⟩
def Got.def (g:Got K x st)(X:K.In h)(G:h.Ns mainGlobals mg):bT K mg x st:=let⟨f,fd,a,b⟩:=g;⟨f,fd,PySem.W.mg_of X G a,b⟩
def OS.def (g:OS K x st Pt)(X:K.In h)(G:h.Ns mainGlobals mg):gj K mg x st Pt:=let⟨f,fd,cd,a,b⟩:=g;⟨f,fd,cd,PySem.W.mg_of X G a,b⟩
def D1 (h1:sc.kind=.function:=by rfl)(h2:sc.isCoroutine=false:=by rfl)(h3:sc.isGenerator=false:=by rfl)(h4:N.Nodup:=by decide+kernel)(h5:N.take ps.length=ps:=by rfl)(h6:∀x∈ps,sc.names.lookup x=some .local\/sc.names.lookup x=some .cell:=by decide+kernel)(h7:∀y∈sc.names,y.2≠.free:=by decide+kernel):FnScope N ps sc:=⟨h1,h2,h3,h4,h5,h6,h7⟩
variable [Tabs]
def l7 (g:bT K mg x st)(S:FnScope N ps (c6 st))(hb:∀{f:Addr} {cdv:Value} {A:Around} {outer:List Env} {s:Shared} {H:Hp} {E:XK},Room k (A.deeper (aEG x (c6 st) s.heap.objs.size f cdv))->(A.deeper (aEG x (c6 st) s.heap.objs.size f cdv)).units+64<cLine->(A.deeper (aEG x (c6 st) s.heap.objs.size f cdv)).units+130<cLine->N.Nodup->
  bG (OY P w K mg base N x (c6 st) f cdv A outer s H E) (t5 st) F) (hm:∀ds d,ds.length=ps.length->m ds=.ok d->P8 (F (j2 N ds))=.ok d) (hb0:∀(kV doc pm:Value) (an:Option Addr) (cdv ct:Value) (us:List Value),us.length=ps.length->bindArgs (PySem.W.fnOf x x (C8 st) (t5 st) (c6 st) .none kV doc pm an cdv ct) ⟨us,[]⟩=pure (ps.zip us):=by
  intro _ _ _ _ _ _ us hl;rcases us with _|⟨_,_|⟨_,_|⟨_,_|⟨_,_|⟨_,_|⟨_,_|⟨_,_⟩⟩⟩⟩⟩⟩⟩<;>first|rfl|exact absurd hl (by simp)):u3 P w K mg base (k+1) x ps.length m:=by
 obtain⟨f,fd,mi,F0⟩:=g;exact XA F0 S (F0.binds hb0) mi (λcdv A outer s H E hr=>hb hr hr.units hr.ae4 S.nd) hm
end
end DL
namespace DL
open PySem L2
variable [Tabs]
end DL
namespace M
open PySem L2 DL
variable [Tabs]
end M
namespace M
open PySem L2 DL
variable [Tabs]
def yN (k:Int):Int:=6*k*k+5*k+8
def W4:List D->R D
 |[.lst xs,.int k]=>if 0<=k/\k<=1000 then .ok (qN yN xs k)else .bad
 |_=>.bad
def cJ (xs:List D)(k:Int):Int:=match qN yN xs k with
 |.int i=>i
 |_=>0
def CO (hi:L4 1048576 xs)(k:Int)(h0:0<=k)(h1:k<=100):W4 [.lst xs,.int k]=.ok (.int (cJ xs k))/\bits (cJ xs k)<=2000000:=by
 obtain⟨c,e,hb⟩:=GN hi yN k;have ec:cJ xs k=c:=by unfold cJ;rw[e]
 rw[ec];refine⟨(if_pos ⟨h0,by lia⟩).trans (congrArg R.ok e),?_⟩;rcases hb with hb|rfl
 ·exact u6 hb
 ·unfold yN;have k2:0<=k*k:=aBg h0 h0;have k3:k*k<=100*100:=Int.mul_le_mul h1 h1 h0 (by decide);rw[aEu];exact j0 (J5 (n:=30) (by lia) (by lia)) (by decide)
def dw (c w:Int):G.V:=⟨c.fmod w-w.fdiv 2,(c.fdiv w).fmod w-w.fdiv 2,(c.fdiv<|w*w).fmod w-w.fdiv 2⟩
def qx (c:Int)(at_ j:Nat):Int:=(c.fdiv<|5+7*(at_:Int)+(j:Int)).fmod 5-2
def XX (P:G.V)(t:Int)(w:G.V):G.V:=⟨P.x+t*w.x,P.y+t*w.y,P.z+t*w.z⟩
def ptA (c:Int)(b:G.V)(ws:List G.V)(at_:Nat):G.V:=match ws with
 |[]=>b
 |[u]=>XX b (qx c at_ 0) u
 |u::v::_=>XX (XX b (qx c at_ 0) u) (qx c at_ 1) v
def ZB (c:Int)(b:G.V)(ws:List G.V)(n:Nat):List G.V:=(aBt n).map (ptA c b ws)
structure Drawn (pts:List G.V):Prop where
 ne:pts≠[]
 len:pts.length<=40
 sz:∀P∈pts,Sz 100 P
 flat:¬G.j9 pts
end M
namespace G
section
variable{n:V} {ts:List V} (S:Sheet n ts)
include S
end
section
variable{pts:List V} (hs:j9 pts)
include hs
theorem jZ (hf:IsFace pts n d)(hg:IsFace pts m e)(hX:c9 n X=d)(om:c9 m X=e)(h:cr m n=0):(n,d)=(m,e):=by
 obtain⟨k,l,hk,e1⟩:=y7 hg.prim.ne h;obtain⟨Z,hZ,hz⟩:=hs.below hf.prim.ne hf.sup;have hl:0<l:=by
  have q:=congrArg (λv=>c9 v (Z-X)) e1;rw[G9,G9]at q;have q1:c9 n (Z-X)<0:=by rw[d8];lia
  have q2:c9 m (Z-X)<=0:=by rw[d8];have:=hg.sup Z hZ;lia
  have q3:k*c9 n (Z-X)<0:=aBi hk q1;by_cases z:0<l
  ·exact z
  ·exfalso;have:0<=l*c9 m (Z-X):=by
    have:=aBg (show 0<=-l by lia) (show 0<=-c9 m (Z-X)by lia)
    rwa [aDm]at this
   lia
 have e2:=sS hf.prim hg.prim hk hl e1;subst e2;rw[<-hX,<-om]
theorem AV {a b c:Int}(hf:IsFace pts n d)(hg:IsFace pts m e)(hk:IsFace pts k f)(hX:c9 n X=d)(om:c9 m X=e)(hX2:c9 k X=f)(hc:0<c)(ha:0<a)(hb:0<b)(h:c*k=a*n+b*m)(hp:cr n m≠0):False:=by
 obtain⟨A,hA,B,hB,C,hC,dA,dB,dC,hcr⟩:=hk.three;have on:∀Y∈pts,c9 k Y=f->c9 n Y=d/\c9 m Y=e:=λY hY hy=>by
  have h1:=hf.sup Y hY;have h2:=hg.sup Y hY;have q:=congrArg (λv=>c9 v (Y-X)) h;have q:c*c9 k (Y-X)=a*c9 n (Y-X)+b*c9 m (Y-X):=by
   have e1:c9 (c*k) (Y-X)=c*c9 k (Y-X):=G9 ..;have e2:c9 (a*n+b*m) (Y-X)=a*c9 n (Y-X)+b*c9 m (Y-X):=by simp[c9];grind
   rw[<-e1,<-e2];exact q
  have k0:c9 k (Y-X)=0:=by rw[d8];lia
  rw[k0,aDK]at q;have n0:c9 n (Y-X)<=0:=by rw[d8];lia
  have m0:c9 m (Y-X)<=0:=by rw[d8];lia
  have a0:a*c9 n (Y-X)<=0:=aDL (aAF ha) n0;have b0:b*c9 m (Y-X)<=0:=aDL (aAF hb) m0;have z1:a*c9 n (Y-X)=0:=by lia
  have z2:b*c9 m (Y-X)=0:=by lia
  have y1:c9 n (Y-X)=0:=by rcases aAq.mp z1 with z|z;lia;exact z
  have y2:c9 m (Y-X)=0:=by rcases aAq.mp z2 with z|z;lia;exact z
  rw[d8]at y1 y2;exact⟨by lia,by lia⟩
 obtain⟨a1,a2⟩:=on A hA dA;obtain⟨b1,b2⟩:=on B hB dB;obtain⟨c1,c2⟩:=on C hC dC;have p1:cr n (cr (B-A)<|C-A)=0:=I0 (by rw[d8];lia) (by rw[d8];lia);have p2:cr m (cr (B-A)<|C-A)=0:=I0 (by rw[d8];lia) (by rw[d8];lia);exact hp (oJ hcr p1 p2)
theorem FM (h1:IsFace pts n d)(h2:IsFace pts m e)(h3:IsFace pts k f)(x1:c9 n X=d)(x2:c9 m X=e)(x3:c9 k X=f)(n12:(n,d)≠(m,e))(n13:(n,d)≠(k,f))(n23:(m,e)≠(k,f)):i9 n m k≠0:=λz=>by
 have p12:cr n m≠0:=λq=>n12 (jZ hs h2 h1 x2 x1 q).symm;have p13:cr n k≠0:=λq=>n13 (jZ hs h3 h1 x3 x1 q).symm;have p23:cr m k≠0:=λq=>n23 (jZ hs h3 h2 x3 x2 q).symm;have swap:∀{u v:V},cr u v≠0->cr v u≠0:=λ{u v} h q=>h (by have hx:=congrArg V.x q;have hy:=congrArg V.y q;have hz:=congrArg V.z q;simp at hx hy hz;apply ext<;>simp<;>grind)
 obtain⟨w,ew⟩:∃w,w=cr n m:=⟨_,rfl⟩;have r:=zI w n m k;rw[z]at r;have ar:0<i9 w n m:=by
  have:i9 w n m=c9 w w:=by rw[ew];rfl
  rw[this,ew];exact z9 p12
 obtain⟨c,ec⟩:∃c,c=i9 w n m:=⟨_,rfl⟩;obtain⟨a,ea⟩:∃a,a=-i9 w m k:=⟨_,rfl⟩;obtain⟨b,eb⟩:∃b,b=-i9 w k n:=⟨_,rfl⟩;have r1:c*k=a*n+b*m:=by rw[ec,ea,eb];have hx:=congrArg V.x r;have hy:=congrArg V.y r;have hz:=congrArg V.z r;simp at hx hy hz;apply ext<;>simp<;>lia
 rw[<-ec]at ar;have vx:=congrArg V.x r1;have vy:=congrArg V.y r1;have vz:=congrArg V.z r1;simp at vx vy vz;have par0:∀{u v:V} {s t:Int},s≠0->s*u=t*v->cr u v=0:=λ{u v s t} jd h=>by
  have hx:=congrArg V.x h;have hy:=congrArg V.y h;have hz:=congrArg V.z h;simp at hx hy hz;have go:∀y:Int,s*y=0->y=0:=λy hy=>by rcases aAq.mp hy with q|q;exact absurd q jd;exact q
  apply ext<;>simp<;>apply go<;>grind
 rcases aDp 0 a with ha|ha
 ·rcases aDp 0 b with hb|hb
  ·exact AV hs h1 h2 h3 x1 x2 x3 ar ha hb r1 p12
  ·rcases aDp b 0 with iu|iu
   ·
    refine AV hs h3 h2 h1 x3 x2 x1 ha ar (show 0< -b by lia) (c:=a) (a:=c) (b:=-b) ?_ (swap p23);apply ext<;>simp<;>lia
   ·have b0:b=0:=by lia
    refine p13 (par0 (u:=n) (v:=k) (s:=a) (t:=c) (by lia) ?_);rw[b0]at vx vy vz;apply ext<;>simp<;>lia
 ·rcases aDp a 0 with ha'|ha'
  ·rcases aDp 0 b with hb|hb
   ·refine AV hs h3 h1 h2 x3 x1 x2 hb ar (show 0< -a by lia) (c:=b) (a:=c) (b:=-a) ?_ (swap p13);apply ext<;>simp<;>lia
   ·
    obtain⟨Z,hZ,hz⟩:=hs.below h3.prim.ne h3.sup;have q:c*c9 k (Z-X)=a*c9 n (Z-X)+b*c9 m (Z-X):=by simp[c9];grind
    have k0:c9 k (Z-X)<0:=by rw[d8];lia
    have n0:c9 n (Z-X)<=0:=by rw[d8];have:=h1.sup Z hZ;lia
    have m0:c9 m (Z-X)<=0:=by rw[d8];have:=h2.sup Z hZ;lia
    have t1:c*c9 k (Z-X)<0:=aBi ar k0;have t2:0<=a*c9 n (Z-X):=by
     have:=aBg (show 0<=-a by lia) (show 0<=-c9 n (Z-X)by lia)
     rwa [aDm]at this
    have t3:0<=b*c9 m (Z-X):=by
     have:=aBg (show 0<=-b by lia) (show 0<=-c9 m (Z-X)by lia)
     rwa [aDm]at this
    lia
  ·have a0:a=0:=by lia
   by_cases b0:b=0
   ·rw[a0,b0]at vx vy vz;have k0:k=0:=by
     have go:∀y:Int,c*y=0->y=0:=λy hy=>by rcases aAq.mp hy with q|q;lia;exact q
     apply ext<;>simp<;>apply go<;>lia
    exact h3.prim.ne k0
   ·refine p23 (par0 (u:=m) (v:=k) (s:=b) (t:=c) b0 ?_);rw[a0]at vx vy vz;apply ext<;>simp<;>lia
end
end G
namespace G
def Up (pts:List V)(A B C:V):Prop:=(∀X∈pts,c9 (cr (B-A)<|C-A) (X-A)<=0)/\∃X∈pts,c9 (cr (B-A)<|C-A) (X-A)<0
def Dn (pts:List V)(A B C:V):Prop:=(∀X∈pts,0<=c9 (cr (B-A)<|C-A) (X-A))/\∃X∈pts,0<c9 (cr (B-A)<|C-A) (X-A)
end G
namespace G
abbrev T3:=V×V×V
def SG (r:T3)(v:V):V:=⟨c9 r.1 v,c9 r.2.1 v,c9 r.2.2 v⟩
def tr (r:T3):T3:=(⟨r.1.x,r.2.1.x,r.2.2.x⟩,⟨r.1.y,r.2.1.y,r.2.2.y⟩,⟨r.1.z,r.2.1.z,r.2.2.z⟩)
def ZI (f:V->V)(r:T3):T3:=(f r.1,f r.2.1,f r.2.2)
def tK (r:T3):Int:=c9 r.1 (cr r.2.1 r.2.2)
def uz:T3:=(⟨1,0,0⟩,⟨0,1,0⟩,⟨0,0,1⟩)
def a0x (r:T3):tr (tr r)=r:=rfl
def RN (r c:T3):tK (ZI (SG r) c)=tK r*tK c:=by obtain⟨⟨a,b,c1⟩,⟨d,e,f⟩,⟨g,h,i⟩⟩:=r;obtain⟨⟨j,k,l⟩,⟨m,n,o⟩,⟨p,q,s⟩⟩:=c;simp[tK,ZI,SG,c9];grind
def RE (r:T3)(u v:V):SG r (u-v)=SG r u-SG r v:=by apply ext<;>simp[SG,c9]<;>grind
abbrev Mv:=T3×V
def bP (m:Mv)(P:V):V:=SG m.1 P+m.2
def UD:Mv:=(uz,0)
def TW (r:T3):Prop:=tK r=1\/tK r=-1
def oU (m:Mv)(P Q:V):bP m P-bP m Q=SG m.1 (P-Q):=by rw[RE];apply ext<;>simp[bP]<;>lia
def MF (m:Mv)(A B C D:V):i9 (bP m B-bP m A) (bP m C-bP m A) (bP m D-bP m A)=tK m.1*i9 (B-A) (C-A) (D-A):=by rw[oU,oU,oU];exact RN m.1 (B-A,C-A,D-A)
end G
namespace G
section
variable{pts km:List V} {m:Mv} {n:V} {d:Int}
end
end G
namespace G
section
variable{pts km:List V} {m:Mv} {n:V} {d:Int}
end
end G
namespace G
section
variable{pts km:List V} {n:V} {d:Int}
def p6 (t:Int)(v:V):V:=⟨t*v.x,t*v.y,t*v.z⟩
def EU (t:Int)(n:V):V:=if 0<t then n else-n
def LK (h:W2 n):W2 (-n):=by unfold W2 w8 at*;simpa using h
def CI (t:Int)(h:W2 n):W2 (EU t n):=by unfold EU;split<;>first|exact h|exact LK h
def jG {t:Int}(ht:t≠0)(n P:V):c9 (EU t n) (p6 t P)=t.natAbs*c9 n P:=by
 unfold EU;split
 ·have:(t.natAbs:Int)=t:=by lia
  rw[this];simp[p6,c9];grind
 ·have:(t.natAbs:Int)=-t:=by lia
  rw[this];simp[p6,c9];grind
def SO {t:Int}(ht:t≠0)(n:V):EU t (EU t n)=n:=by
 unfold EU;split
 ·rfl
 ·apply ext<;>simp
def KI (t:Int)(A B C:V):cr (p6 t B-p6 t A) (p6 t C-p6 t A)=(t*t)*cr (B-A) (C-A):=by apply ext<;>simp[p6]<;>grind
def RG {t:Int}(ht:t≠0)(hq:∀Y,Y∈km↔∃X∈pts,Y=p6 t X)(hf:IsFace pts n d):IsFace km (EU t n) (t.natAbs*d):=by
 obtain⟨A,hA,B,hB,C,hC,a,b,c,e⟩:=hf.three;have tp:(0:Int)<t.natAbs:=by lia
 refine⟨CI t hf.prim,λY hY=>?_,p6 t A,(hq _).mpr ⟨A,hA,rfl⟩,p6 t B,(hq _).mpr ⟨B,hB,rfl⟩,p6 t C,(hq _).mpr ⟨C,hC,rfl⟩,?_,?_,?_,?_⟩
 ·obtain⟨X,hX,rfl⟩:=(hq Y).mp hY;rw[jG ht];exact aAI (hf.sup X hX) (aAF tp)
 ·rw[jG ht,a]
 ·rw[jG ht,b]
 ·rw[jG ht,c]
 ·rw[KI];intro z;refine e ?_;have tt:t*t≠0:=λw=>by rcases aAq.mp w with w|w<;>exact ht w
  have kz:∀{a:Int},t*t*a=0->a=0:=λ{a} h=>by
   rcases aAq.mp h with h|h
   ·exact absurd h tt
   ·exact h
  exact ext (by simp only[bB];apply kz;simpa using congrArg V.x z) (by simp only[bK];apply kz;simpa using congrArg V.y z) (by simp only[bE];apply kz;simpa using congrArg V.z z)
def RI {t:Int}(ht:t≠0)(hq:∀Y,Y∈km↔∃X∈pts,Y=p6 t X)(hf:IsFace km n d):∃k,IsFace pts (EU t n) k/\d=t.natAbs*k:=by
 obtain⟨A,hA,B,hB,C,hC,a,b,c,e⟩:=hf.three;obtain⟨A,wA,rfl⟩:=(hq A).mp hA;obtain⟨B,wB,rfl⟩:=(hq B).mp hB;obtain⟨C,wC,rfl⟩:=(hq C).mp hC;have tp:(0:Int)<t.natAbs:=by lia
 have dt:∀X,c9 n (p6 t X)=t.natAbs*c9 (EU t n) X:=λX=>by have:=jG ht (EU t n) X;rw[SO ht]at this;exact this
 rw[dt]at a b c;refine⟨c9 (EU t n) A,⟨CI t hf.prim,λX hX=>?_,A,wA,B,wB,C,wC,rfl,?_,?_,?_⟩,a.symm⟩
 ·have:=hf.sup _ ((hq _).mpr ⟨X,hX,rfl⟩);rw[dt,<-a]at this;exact aFb this tp
 ·exact aCb (show(t.natAbs:Int)≠0 by lia) (by rw[b,a])
 ·exact aCb (show(t.natAbs:Int)≠0 by lia) (by rw[c,a])
 ·intro z;refine e ?_;rw[KI,z];apply ext<;>simp
end
end G
namespace G
structure Sl where
 a:Int
 b:Int
 c:Int
 w:V
 t:Bool
def Sl.put (s:Sl)(P:V):V:=
 let x:=P.x+s.a*P.y
 let y:=P.y+s.b*P.z
 let z:=P.z+s.c*x
 if s.t then⟨y+s.w.x,x+s.w.y,z+s.w.z⟩else⟨x+s.w.x,y+s.w.y,z+s.w.z⟩
def Sl.mv (s:Sl):Mv:=
 let r1:V:=⟨1,s.a,0⟩
 let r2:V:=⟨0,1,s.b⟩
 let r3:V:=⟨s.c,s.c*s.a,1⟩
 (if s.t then(r2,r1,r3)else(r1,r2,r3),s.w)
def Sl.ad9 (s:Sl)(P:V):s.put P=bP s.mv P:=by obtain⟨a,b,c,w,t⟩:=s;cases t<;>apply ext<;>simp[Sl.put,Sl.mv,bP,SG,c9]<;>grind
def Sl.unit (s:Sl):TW s.mv.1:=by
 obtain⟨a,b,c,w,t⟩:=s;cases t
 ·left;simp[Sl.mv,tK,c9,cr];try grind
 ·right;simp[Sl.mv,tK,c9,cr];try grind
def KT {m:Mv}(h:TW m.1){pts km:List V}(hq:∀X∈pts,bP m X∈km)(S:j9 pts):j9 km:=by
 obtain⟨A,hA,B,hB,C,hC,D,hD,e⟩:=S;refine⟨_,hq A hA,_,hq B hB,_,hq C hC,_,hq D hD,?_⟩;rw[MF];intro z;rcases aAq.mp z with z|z
 ·rcases h with h|h<;>lia
 ·exact e z
def GR {t:Int}(ht:t≠0){pts km:List V}(hq:∀X∈pts,p6 t X∈km)(S:j9 pts):j9 km:=by
 obtain⟨A,hA,B,hB,C,hC,D,hD,e⟩:=S;refine⟨_,hq A hA,_,hq B hB,_,hq C hC,_,hq D hD,?_⟩;have:i9 (p6 t B-p6 t A) (p6 t C-p6 t A) (p6 t D-p6 t A)=t*t*t*i9 (B-A) (C-A) (D-A):=by simp[p6,i9,c9,cr];grind
 rw[this];intro z;rcases aAq.mp z with z|z
 ·rcases aAq.mp z with z|z
  ·rcases aAq.mp z with z|z<;>exact ht z
  ·exact ht z
 ·exact e z
def wJ (P:V){pts:List V}(h:P∈pts):j9 (pts++[⟨P.x+1,P.y,P.z⟩,⟨P.x,P.y+1,P.z⟩,⟨P.x,P.y,P.z+1⟩]):=by
 refine⟨P,by simp[h],⟨P.x+1,P.y,P.z⟩,by simp,⟨P.x,P.y+1,P.z⟩,by simp,⟨P.x,P.y,P.z+1⟩,by simp,?_⟩;have:i9 ((⟨P.x+1,P.y,P.z⟩:V)-P) (⟨P.x,P.y+1,P.z⟩-P) (⟨P.x,P.y,P.z+1⟩-P)=1:=by simp[i9,c9,cr];try grind
 rw[this];decide
def nI {P:V}{pts:List V}(h:P∈pts):j9 pts↔∃u∈pts,∃v∈pts,cr (u-P) (v-P)≠0/\∃w∈pts,c9 (cr (u-P) (v-P)) (w-P)≠0:=by
 have ed:∀u v w:V,i9 w u v=c9 (cr u v) w:=λu v w=>by simp[i9,c9,cr];grind
 have cy:∀u v w:V,i9 w u v=i9 u v w:=λu v w=>by simp[i9,c9,cr];grind
 constructor
 ·rintro⟨A,hA,B,hB,C,hC,D,hD,e⟩;have id:i9 (B-A) (C-A) (D-A)=i9 (B-P) (C-P) (D-P)-i9 (A-P) (C-P) (D-P)+i9 (A-P) (B-P) (D-P)-i9 (A-P) (B-P) (C-P):=by simp[i9,c9,cr];grind
  have mk:∀{X Y Z:V},X∈pts->Y∈pts->Z∈pts->i9 (X-P) (Y-P) (Z-P)≠0->∃u∈pts,∃v∈pts,cr (u-P) (v-P)≠0/\∃w∈pts,c9 (cr (u-P)<|v-P) (w-P)≠0:=λ{X Y Z} hX hY hZ q=>by rw[<-cy,ed]at q;exact⟨X,hX,Y,hY,λz=>q (by rw[z];simp[c9]),Z,hZ,q⟩
  by_cases c1:i9 (B-P) (C-P) (D-P)=0
  ·by_cases c2:i9 (A-P) (C-P) (D-P)=0
   ·by_cases c3:i9 (A-P) (B-P) (D-P)=0
    ·exact mk hA hB hC (by lia)
    ·exact mk hA hB hD c3
   ·exact mk hA hC hD c2
  ·exact mk hB hC hD c1
 ·rintro⟨u,hu,v,hv,_,w,hw,q⟩;exact⟨P,h,u,hu,v,hv,w,hw,by rw[<-cy,ed];exact q⟩
end G
namespace G
open Classical in
def i8 (pts:List V) (P:V):Int:=if∀n d,IsFace pts n d->c9 n P-d<=0 then(if∀n d,IsFace pts n d->c9 n P-d<0 then 1 else 0)else-1
def IG {pts km:List V}{P Q:V}(h1:(∀n d,IsFace pts n d->c9 n P-d<=0)↔∀n d,IsFace km n d->c9 n Q-d<=0)(h2:(∀n d,IsFace pts n d->c9 n P-d<0)↔∀n d,IsFace km n d->c9 n Q-d<0):i8 pts P=i8 km Q:=by
 unfold i8;by_cases a:∀n d,IsFace pts n d->c9 n P-d<=0
 ·rw[if_pos a,if_pos (h1.mp a)];by_cases b:∀n d,IsFace pts n d->c9 n P-d<0
  ·rw[if_pos b,if_pos (h2.mp b)]
  ·rw[if_neg b,if_neg (λq=>b (h2.mpr q))]
 ·rw[if_neg a,if_neg (λq=>a (h1.mpr q))]
def GW {t:Int}{pts km:List V}(ht:t≠0)(hq:∀Y,Y∈km↔∃X∈pts,Y=p6 t X)(P:V):i8 km (p6 t P)=i8 pts P:=by
 have tp:(0:Int)<t.natAbs:=by lia
 have ex:∀n k,c9 (EU t n) (p6 t P)-t.natAbs*k=t.natAbs*(c9 n P-k):=λn k=>by rw[jG ht];grind
 have le:∀a:Int,t.natAbs*a<=0↔a<=0:=λa=>⟨λh=>by
  by_cases z:a<=0
  ·exact z
  ·have:=aBh tp (show 0<a by lia);lia,λh=>by
  have:=aAI h (aAF tp);simpa using this⟩
 have lt:∀a:Int,t.natAbs*a<0↔a<0:=λa=>⟨λh=>by
  by_cases z:a<0
  ·exact z
  ·have:=aBg (aAF tp) (show 0<=a by lia);lia,λh=>by
  have:=aBh tp (show 0< -a by lia);rw[Int.mul_neg]at this;lia⟩
 have go:∀(p:Int->Prop),(∀a:Int,p (t.natAbs*a)↔p a)->((∀n d,IsFace pts n d->p (c9 n P-d))↔∀n d,IsFace km n d->p (c9 n (p6 t P)-d)):=λp hp=>by
  constructor
  ·intro h n d hf;obtain⟨k,hk,rfl⟩:=RI ht hq hf;have:=h _ _ hk;rw[<-hp,<-ex,SO ht]at this;exact this
  ·intro h n d hf;have:=h _ _ (RG ht hq hf);rw[ex,hp]at this;exact this
 exact(IG (go (· <=0) le) (go (· <0) lt)).symm
end G
namespace DL
open PySem PySem.Spec L2
open PyProof.Rows hiding St
section
variable [Tabs]
def _root_.L2.Inv.ae5 {pins:M2}{σ:St}{H:Hp}{s:Shared}{h':Heap}{t':Nat}{L:List Addr}{T:Addr}{vs:List V}(I:Inv X pins σ H s)(k:∀b o,b∉L->s.heap.get? b=some o->h'.get? b=some o)
  (hL:∀b∈L,mE X pins H b) (hT:s.heap.objs.size<=T) (hz:vs.length<=sizeLine) {its:List Value} (hv:l6 vs its) (ht:IsTup h' T its.toArray):Inv X pins σ (upd H T (.tup vs)) {s with heap:=h',toks:=t'}:=by
 have hn:H T=none:=I.hok.fresh hT;have ne:∀b u,H b=some u->b≠T:=λb u e z=>by rw[z,hn]at e;cases e
 have sm:Same H (upd H T<|.tup vs):=j5 hn _;have nL:∀b u,H b=some u->b∉L:=λb u e z=>by rw[(hL b z).1]at e;cases e
 refine I.step (g':=s.gens) (d':=s.drawn) (ch:=L) (λb hb=>?_) (λb o _ _ hc e _=>k b o hc e) (λb o _ _ hc e _=>⟨o.slots,k b o hc e⟩) (λb o _ e n=>?_)
  (λb o hc e=>⟨o,k b o hc e⟩) (λb _ e=>sm _ _ e) (λb _ _ e=>sm _ _ e) (λb _ e=>sm _ _ e) (λm hm=>?_) (λb u e=>?_) I.bare
 ·obtain⟨_,f1,_,f3,f4,f5⟩:=hL b hb;exact⟨f3,f1,f4,f5⟩
 ·rw[j8 (aAl<|aAr (aAf e) hT)];exact n
 ·obtain⟨o,es,ep,ho,r⟩:=hm;exact⟨o,es,ep,k _ o (λz=>(hL _ z).2.1 rfl) ho,r⟩
 ·by_cases hb:b=T
  ·subst hb;rw[j3]at e;cases e;exact⟨hz,its,hv,ht⟩
  ·rw[j8 hb]at e;refine(I.hok b u e).ab7 (λc v hc q=>k c v ?_ q) (λ_ q=>sm _ _ q) λ_ _ _ q=>sm _ _ q;rcases hc with z|z
   ·rw[z];exact nL b u e
   ·exact nL c _ z
def _root_.L2.Inv.ae2 {pins:M2}{σ:St}{H:Hp}{s:Shared}{h':Heap}{t':Nat}{L:List Addr}(I:Inv X pins σ H s)(k:∀b o,b∉L->s.heap.get? b=some o->h'.get? b=some o)
  (hL:∀b∈L,mE X pins H b):Inv X pins σ H {s with heap:=h',toks:=t'}:=by
 have nL:∀b u,H b=some u->b∉L:=λb u e z=>by rw[(hL b z).1]at e;cases e
 refine I.step (g':=s.gens) (d':=s.drawn) (ch:=L) (λb hb=>?_) (λb o _ _ hc e _=>k b o hc e) (λb o _ _ hc e _=>⟨o.slots,k b o hc e⟩) (λ_ _ _ _ n=>n)
  (λb o hc e=>⟨o,k b o hc e⟩) (λb _ e=>e) (λb _ _ e=>e) (λb _ e=>e) (λm hm=>?_) (λb u e=>?_) I.bare
 ·obtain⟨_,f1,_,f3,f4,f5⟩:=hL b hb;exact⟨f3,f1,f4,f5⟩
 ·obtain⟨o,es,ep,ho,r⟩:=hm;exact⟨o,es,ep,k _ o (λz=>(hL _ z).2.1 rfl) ho,r⟩
 ·refine(I.hok b u e).ab7 (λc v hc q=>k c v ?_ q) (λ_ q=>q) λ_ _ _ q=>q;rcases hc with z|z
  ·rw[z];exact nL b u e
  ·exact nL c _ z
def YA {h:Heap}{i a:Addr}{k:Nat}(x:h.IsListIter i a k):∃o,h.get? i=some o/\∀v,o.data≠.cell v:=by obtain⟨o,e,c,d⟩:=x;exact⟨o,e,λv z=>by rw[d]at z;cases z⟩
def Ite (K:PySem.W.Frag)(a:Addr):It:=
 ⟨λi H=>∃xs x,K0 K H a xs/\xs[i]?=some x,
  λi H v H'=>∃T,v=.ref T/\H T=none/\∀xs,K0 K H a xs->∃x,xs[i]?=some x/\H'=upd H T (.tup [.int i,x]),
  λi H=>∃xs,K0 K H a xs/\xs.length<=i⟩
def tnE (e it a:Addr)(i:Nat)(h:Heap):Prop:=(∃old,IsEnum h e it (i:Int) old)/\h.IsListIter it a i
def FT {P:Program}{w:World}{K:PySem.W.Frag}{el:List Expr}{c}{tp:Pos}{e it a:Addr}(D:e≠it):Turn P w K (.Tuple el c tp) (Ite K a) [e,it] e (tnE e it a)where
 mem:=by simp
 obj:=λi h ⟨⟨old,he⟩,h1⟩ c hc=>by
  simp only[aAd,aAz,or_false]at hc;rcases hc with rfl|rfl
  ·exact⟨_,he,λv z=>nomatch z⟩
  ·exact YA h1
 keep:=λi h h' ⟨⟨old,he⟩,h1⟩ k=>⟨⟨old,k _ (by simp) _ he⟩,h1.at λo e=>k _ (by simp) o e⟩
 item:=by
  intro X hP hw hK hc i pins s σ H E I hf st hg;subst hP hw hK;obtain⟨xs,x,hx,ex⟩:=hg;obtain⟨itx,rvx,px,zx⟩:=I.list hx;obtain⟨u,hu,ru⟩:=rvx.get ex;obtain⟨⟨old,s0⟩,s1⟩:=st;refine wpAny_pyNext_enum_item s0 s1 px.isList (x:=u) (by simpa using hu) D λh' q0 q1 hp hsz kp=>?_;refine⟨.ref s.heap.objs.size,rfl,wpAny_letOwnedTupleGo_enum (s:={s with heap:=h',toks:=s.toks+1}) q0 λh2 z2 sb=>?_⟩;have hel:e<s.heap.objs.size:=aAf s0;have hil:it<s.heap.objs.size:=by obtain⟨o,e,_⟩:=s1;exact aAf e
  have up:∀c o,c≠e->h'.get? c=some o->h2.get? c=some o:=λc o hc e=>sb.extBut c o hc e;have hTf:s.heap.objs.size∉[e,it]:=λhm=>by
   simp only[aAd,aAz,or_false]at hm;rcases hm with hm|hm
   ·rw[<-hm]at hel;exact absurd hel (aBc _)
   ·rw[<-hm]at hil;exact absurd hil (aBc _)
  have kk:∀c o,c∉[e,it]->s.heap.get? c=some o->h2.get? c=some o:=λc o hc e=>by simp only[aAd,aAz,or_false,not_or]at hc;exact up c o hc.1 (kp c o hc.1 hc.2 e)
  refine⟨.ref s.heap.objs.size,upd H s.heap.objs.size (.tup [.int i,x]),I.ae5 (t':=s.toks+1) kk hf (aAh _) (by show 2<=sizeLine;decide) (its:=[.int i s.toks,u]) (.cons ⟨_,rfl⟩ (.cons ru .nil)) ⟨_,up _ _ (aCD hel) hp,rfl,0,rfl⟩,rfl,
   ⟨_,rfl,I.hok.fresh (aAh _),λxs' hx'=>⟨x,by rw[I.ab0 hx' hx];exact ex,rfl⟩⟩,⟨⟨u,?_⟩,q1.at λo e=>up _ o (aBV D) e⟩,λb hb=>?_⟩
  ·have:((i+1:Nat):Int)=(i:Int)+1:=by lia
   rw[this];exact z2
  ·rw[j8 (λq:b=s.heap.objs.size=>hTf (q▸hb))];exact(hf b hb).1
 done:=by intro X hP hw hK hc i pins s σ H E I hf st hg;subst hP hw hK;obtain⟨xs,hx,hl⟩:=hg;obtain⟨itx,rvx,px,zx⟩:=I.list hx;obtain⟨⟨old,s0⟩,s1⟩:=st;have hlx:=rvx.length;refine wpAny_pyNext_enum_end (I.ok.hd hc) s0 s1 px.isList (by simp;lia) λh' kp=>⟨rfl,I.ae2 (t':=s.toks) (λc o hc e=>?_) hf⟩;simp only[aAd,aAz,or_false,not_or]at hc;exact kp c o hc.2 e
 self:=λ_ _ _ _ _ ⟨⟨_,st⟩,_⟩ h=>wpAny_pyIter_enum st h
def DV (xs:List D):List D:=List.zipWith (λ(k:Nat) d=>D.tup [.int (k:Int),d]) (aBt xs.length) xs
def MW:List D->R (List D)
 |[.lst xs]=>.ok (DV xs)
 |_=>.bad
def iS (xs:List D)(i:Nat):(DV xs)[i]?=xs[i]?.map λd=>D.tup [.int (i:Int),d]:=by
 unfold DV;rw[List.getElem?_zipWith];by_cases h:i<xs.length
 ·rw[List.getElem?_range h];cases xs[i]?<;>rfl
 ·rw[aEg (by simpa using h),aEg (by lia:xs.length<=i)];rfl
def JS {el:List Expr}{c}{tp:Pos}{e1:Expr}{p:Pos}{f1:Ev->R D}(ha1:PD X e1 f1)(hg:Gl X "enumerate":=by rfl)(hm:X.mg "enumerate"=none:=by assumption)(hv:bootBuiltins "enumerate"=some (.type "enumerate"):=by decide+kernel)
  (he:starEach [e1] X.env=(false,eval e1 X.env)::starEach [] X.env:=by rfl) (bh:(backTo pos (starEach [] X.env)).any (·.1)=false:=by rfl):
  SR X (.Tuple el c tp) (.Call (.Name "enumerate" p) [e1] [] pos) (λρ=>(o8 f1 Q5 ρ).bind MW):=by
 intro pins s σ H Rr I ⟨H9,O0,O,ρ,E,fk,q⟩;dsimp only at q;refine aAT (V5 I hg hm hv ?_ (by decide) (by decide));have nu:HZ X [e1] (o8 f1 Q5):=f8 ha1 o5 he;refine aAX (C1 (nu pos pins s σ H (λvs H1=>∃v1 xs,vs=[v1]/\o8 f1 Q5 ρ=.ok [.lst xs]/\Same H H1/\Rep X.K H1 O v1 (.lst xs)) I ⟨H9,O0,O,ρ,E,?_⟩) λus s1 ⟨vs,H1,I1,r1,v1,xs,ev,ef,sm,rb1⟩=>?_) he bh
 ·cases e1:o8 f1 Q5 ρ with
  |ex z=>rw[e1]at q;exact q
  |bad=>rw[e1]at q;exact q.elim
  |ok ds=>
   rw[e1,R.aa0]at q;match ds,q with
   |[.lst xs],q=>
    intro vs H1 s1 r1;cases r1 with
    |cons ra r1=>cases r1 with
     |nil=>exact⟨_,xs,rfl,rfl,s1,ra⟩
 ·subst ev;rw[ef,R.aa0]at q;simp only[MW]at q;cases rb1 with
  |@lst a wx _ hSx nx rx=>
  obtain⟨u1,rfl,ru1⟩:=vals1 r1;cases ru1;obtain⟨itx,rvx,px,zX⟩:=I1.list hSx;refine call_enumerate_list px.isList λh1 z1 z2 zsz k1=>?_;have I2:=I1.kept (h':=h1) (t':=s1.toks) k1;refine wpAny_pyIter_enum (s:={s1 with heap:=h1}) z1 ⟨_,_,_,Ite X.K a,H1,rfl,I2,FT (Nat.succ_ne_self _),⟨⟨_,z1⟩,z2⟩,λc hc=>?_,q _ H1 sm λH2 O2 k hK hO hO2 i=>?_⟩
  ·have wu:s1.heap.objs.size<=c:=by simp only[aAd,aAz,or_false]at hc;rcases hc with rfl|rfl<;>lia
   exact I1.ae6 wu (I1.hok.fresh wu)
  ·obtain⟨n2x,h2x⟩:=k.lst nx hSx λo q=>hK a o q;have r2x:=k.ac1 hO hK rx;refine⟨λd e=>?_,λe=>⟨wx,h2x,?_⟩⟩
   ·rw[iS]at e;cases e1:xs[i]? with
    |none=>rw[e1]at e;cases e
    |some dx=>rw[e1]at e;cases e;obtain⟨vx,g1,g2⟩:=r2x.get e1;refine⟨⟨wx,vx,h2x,g1⟩,λx H' ⟨T,ev,hT,hh⟩=>?_⟩;obtain⟨x1,q1,rfl⟩:=hh wx h2x;rw[g1]at q1;cases q1;subst ev;have s2:Same H2 (upd H2 T<|.tup [.int i,vx]):=j5 hT _;exact⟨s2,.tup (U1.of j3) (.cons .int (.cons (g2.same s2) .nil))⟩
   ·rw[rx.length];rw[iS]at e;cases e1:xs[i]? with
    |none=>exact aBE.mp e1
    |some dx=>rw[e1]at e;cases e
end
end DL
namespace M
open PySem L2 DL
variable [Tabs]
def TN (t:Int):Int:=(t*40009+6007).fmod 2147483647
def mR (s k:Int):Int:=(s*s+5003*k+11).fmod 2147483647
def ZJ (s:Int):Int:=s.fmod 2000000011-1000000000
def UG (t:Int):G.V:=⟨ZJ (mR (TN t) 0),ZJ (mR (mR (TN t) 0) 1),ZJ (mR (mR (mR (TN t) 0) 1) 2)⟩
def eZ (way:Int):Int:=if way=0 then 3 else if way=1 then 5 else if way=2 then 9 else 2000000001
def OB (t way:Int):G.V:=if way=4 then UG t else dw t (eZ way)
def VQ (t way:Int):Sz 40 (OB t way):=by
 unfold OB;split
 ·have a:∀s,bits (ZJ s)<=40:=λs=>bits_sub (bits_fmod (by decide) (show bits 2000000011<=39 by decide)) (show bits 1000000000<=39 by decide);exact⟨a _,a _,a _⟩
 ·have w:eZ way≠0/\bits (eZ way)<=39:=by
   unfold eZ
   repeat' split
   all_goals decide
  have d:∀c:Int,bits (c.fmod (eZ way)-(eZ way).fdiv 2)<=40:=λc=>bits_sub (bits_fmod w.1 w.2) (bits_fdiv w.2);exact⟨d _,d _,d _⟩
open Classical in
def Z7:List D->R D
 |[.int t,.int way]=>if bits t<=3000000/\0<=way/\way<=4 then .ok (vd (OB t way))else .bad
 |_=>.bad
def EQ {t way:Int}(h:bits t<=3000000)(h0:0<=way)(h1:way<=4):Z7 [.int t,.int way]=.ok (vd (OB t way)):=if_pos ⟨h,h0,h1⟩
def NT (l:List Int):List D:=l.map D.int
def eT:List D->Option (List Int)
 |[]=>some []
 |.int i::r=>match eT r with
  |some l=>some (i::l)
  |none=>none
 |_=>none
@[simp]theorem rQ:∀l:List Int,eT (NT l)=some l
 |[]=>rfl
 |i::l=>by have:=rQ l;unfold NT at this;simp[NT,eT,this]
theorem oB:∀{ds:List D} {l:List Int},eT ds=some l->ds=NT l
 |[],l,h=>by simp[eT]at h;subst h;rfl
 |.int i::r,l,h=>by
  simp only[eT]at h;split at h
  ·rename_i l' e;injection h with h;subst h;rw[oB e];rfl
  ·cases h
 |.tup _::_,_,h=>by simp[eT]at h
 |.lst _::_,_,h=>by simp[eT]at h
 |.bl _::_,_,h=>by simp[eT]at h
def vK (l:List Int):G.Sl:=⟨l.getD 0 0,l.getD 1 0,l.getD 2 0,⟨l.getD 3 0,l.getD 4 0,l.getD 5 0⟩,decide (l.getD 6 0=1)⟩
def bL (l:List Int):Prop:=l.length=7/\∀i∈l,bits i<=100
open Classical in
def J1:List D->R D
 |[p,.lst xs]=>match mF p,eT xs with
  |some P,some l=>if bL l/\Sz 500 P then .ok (vd ((vK l).put P))else .bad
  |_,_=>.bad
 |_=>.bad
def wN {l:List Int}{P:G.V}(h:bL l)(hP:Sz 500 P):J1 [vd P,.lst (NT l)]=.ok (vd ((vK l).put P)):=by simp only[J1,iE,rQ];exact if_pos ⟨h,hP⟩
def wO (c:Int):Int:=(c.fdiv 1029*271828182845904523536).fmod 200000000000000000001-100000000000000000000
def s7 (c k:Int):Int:=(c.fdiv k).fmod 7-3
def SY (c:Int):List Int:=(if c.fmod 3=2 then[s7 c 3*7654321,s7 c 21*7654321,s7 c 147*7654321]else[s7 c 3,s7 c 21,s7 c 147])++[wO c,0-(wO c).fdiv 7,(c.fdiv 1029).fmod 50,(c.fdiv 9).fmod 2]
def MV (c:Int):bL (SY c):=by
 have s:∀k,bits (s7 c k)<=4:=λk=>bits_sub (bits_fmod (by decide) (show bits 7<=3 by decide)) (show bits 3<=3 by decide);have m:∀k,bits (s7 c k*7654321)<=100:=λk=>j0 (bits_mul (s k) (show bits 7654321<=30 by decide)) (by decide);have s':∀k,bits (s7 c k)<=100:=λk=>j0 (s k) (by decide);have f:bits (wO c)<=99:=bits_sub (n:=98) (bits_fmod (by decide) (by decide)) (by decide);have r:∀x∈[wO c,0-(wO c).fdiv 7,(c.fdiv 1029).fmod 50,(c.fdiv 9).fmod 2],bits x<=100:=by simp only[aBT];exact⟨j0 f (by decide),bits_sub (show bits 0<=99 by decide) (bits_fdiv f),bits_fmod (by decide) (by decide),bits_fmod (by decide) (by decide),λ_ h=>by cases h⟩
 unfold SY;split
 ·exact⟨rfl,aBT.mpr ⟨m _,aBT.mpr ⟨m _,aBT.mpr ⟨m _,r⟩⟩⟩⟩
 ·exact⟨rfl,aBT.mpr ⟨s' _,aBT.mpr ⟨s' _,aBT.mpr ⟨s' _,r⟩⟩⟩⟩
open Classical in
def T8:List D->R D
 |[.int c]=>if bits c<=3000000 then .ok (.lst (NT (SY c)))else .bad
 |_=>.bad
def BA {c:Int}(h:bits c<=3000000):T8 [.int c]=.ok (.lst (NT (SY c))):=if_pos h
def FD {pts:List G.V}{fs:List (G.V×Int)}(hf:∀f,f∈fs↔G.IsFace pts f.1 f.2)(ae:fs≠[])(P:G.V):(if jF (fs.map λf=>G.c9 f.1 P-f.2)<0 then 1 else 0)-(if 0<jF (fs.map λf=>G.c9 f.1 P-f.2)then 1 else 0)=G.i8 pts P:=by
 have hm:=iO (ns:=fs.map λf=>G.c9 f.1 P-f.2) (by simpa using ae);have hle:∀f∈fs,G.c9 f.1 P-f.2<=jF (fs.map λf=>G.c9 f.1 P-f.2):=λf h=>mN (aAo.mpr ⟨f,h,rfl⟩);generalize jF (fs.map λf=>G.c9 f.1 P-f.2)=M at*
 obtain⟨g,hg,rfl⟩:=aAo.mp hm;have hg':=(hf g).mp hg;unfold G.i8;by_cases a:∀n d,G.IsFace pts n d->G.c9 n P-d<=0
 ·rw[if_pos a];have ag:=a _ _ hg';by_cases b:∀n d,G.IsFace pts n d->G.c9 n P-d<0
  ·have bg:=b _ _ hg';rw[if_pos b,if_pos bg,if_neg (by lia)];rfl
  ·rw[if_neg b];have:∃n d,G.IsFace pts n d/\¬G.c9 n P-d<0:=by simpa using b
   obtain⟨n,d,h,q⟩:=this;have h1:=hle (n,d) ((hf (n,d)).mpr h);dsimp only at h1;rw[if_neg (by lia),if_neg (by lia)];rfl
 ·rw[if_neg a];have:∃n d,G.IsFace pts n d/\¬G.c9 n P-d<=0:=by simpa using a
  obtain⟨n,d,h,q⟩:=this;have h1:=hle (n,d) ((hf (n,d)).mpr h);dsimp only at h1;rw[if_neg (by lia),if_pos (by lia)];rfl
def OJ {ns:List Int}(h:ns≠[]):jF (ns.map sgn)=sgn (jF ns):=by
 have mono:∀{x y:Int},x<=y->sgn x<=sgn y:=λ{x y} h=>by
  unfold sgn
  repeat' split
  all_goals lia
 have m1:=mN (aBa (f:=sgn)<|iO h);obtain⟨x,hx,e⟩:=aAo.mp (iO (ns:=ns.map sgn) (by simpa using h));have:=mono (mN hx)
 lia
def GJ {pts:List G.V}{fs:List (G.V×Int)}(hf:∀f,f∈fs↔G.IsFace pts f.1 f.2)(ae:fs≠[])(P:G.V):-(jF (fs.map λf=>sgn (G.c9 f.1 P-f.2)))=G.i8 pts P:=by
 have:=OJ (ns:=fs.map λf=>G.c9 f.1 P-f.2) (by simpa using ae);rw[aBj]at this;rw[<-FD hf ae P];refine(congrArg Neg.neg this).trans ?_;unfold sgn
 repeat' split
 all_goals lia
open Classical in
def dD:List D->R D
 |[.lst ds,p]=>match B1 ds,mF p with
  |some pts,some P=>if V7 900 pts/\G.j9 pts/\(d6 pts).length<=14/\Sz 900 P then .ok (.int (G.i8 (d6 pts) P))else .bad
  |_,_=>.bad
 |_=>.bad
def PQ {pts:List G.V}{n:G.V}{d:Int}(h:V7 900 pts)(hf:G.IsFace (d6 pts) n d):Sz 2003 n:=by obtain⟨A,hA,B,hB,C,hC,_,e⟩:=G.kN hf;have z:∀X∈d6 pts,Sz 1000 X:=λX hX=>(h.1 X (u8.mp hX)).mono;have:=mV (z A hA) (z B hB) (z C hC);rw[e]at this;exact this
def qM {pts:List G.V}{f:G.V×Int}{P:G.V}(h:V7 900 pts)(hP:Sz 900 P)(hf:G.IsFace (d6 pts) f.1 f.2):F7 [rK f.1 f.2,vd P]=.ok (.int (sgn (G.c9 f.1 P-f.2))):=by have z:=PQ h hf;exact CF ⟨u6 z.1,u6 z.2.1,u6 z.2.2⟩ ⟨u6 hP.1,u6 hP.2.1,u6 hP.2.2⟩
def FB {pts:List G.V}(h1:V7 900 pts)(h2:G.j9 pts)(h3:(d6 pts).length<=14):(∀f,f∈p7 (d6 pts)↔G.IsFace (d6 pts) f.1 f.2)/\p7 (d6 pts)≠[]/\(p7 (d6 pts)).length<=2744:=by obtain⟨m,r,e,L⟩:=dH h1 h2 (by lia);have h3':=h3;rw[e]at h3';have FL:=Q1 L h3';rw[<-e]at FL L;have nd:=T2 (bN FL.2);have few:=G.FG nd λf hf=>(FL.1 f).mp hf;have c1:(d6 pts).length*((d6 pts).length*(d6 pts).length)<=14*(14*14):=aEc h3 (aEc h3 h3);refine⟨FL.1,λz=>?_,aAs few c1⟩;have q:=G.fQ L.good.solid L.good.ord L.good.mem L.good.least;have:=(FL.1 (_,_)).mpr q;rw[z]at this;cases this
def intD:D->Int
 |.int i=>i
 |_=>0
def rR:Nat->List D->List D
 |_,[]=>[]
 |k,d::ds=>.tup [.int (k:Int),d]::rR (k+1) ds
theorem rW:∀(xs:List D) (k i:Nat),(rR k xs)[i]?=xs[i]?.map λd=>D.tup [.int ((k+i:Nat):Int),d]
 |[],_,_=>rfl
 |d::ds,k,0=>rfl
 |d::ds,k,i+1=>by rw[rR,aCV,aCV,rW ds (k+1) i,Nat.add_right_comm];rfl
def PR (xs:List D):DV xs=rR 0 xs:=aDZ λi=>by rw[iS,rW,aEV]
def yG (m:Nat):Nat->List D->List Int->List Int
 |_,[],ts=>ts
 |k,d::ds,ts=>yG m (k+1) ds (ts.set (k%m) (ts.getD (k%m) 0+intD d))
def xL (m:Nat):List Int:=(aBt m).map λ(k:Nat)=>5*(k:Int)*k+3*k
def w4 (xs:List D)(most:Int):Nat:=(4+(cJ xs 0).fmod (most-3)).toNat
def xA (xs:List D)(most:Int):List Int:=yG (w4 xs most) 0 ((xs.take 63).drop 2) (xL<|w4 xs most)
def fR (xs:List D)(most:Int):List G.V:=(xA xs most).map λt=>OB t ((cJ xs 1).fmod 5)
theorem EH (m:Nat)(hm:0<m):∀(ds:List D) (k:Nat) (ts:List Int),L4 1048576 ds->ts.length=m->(∀t∈ts,bits t<=1100000+k)->(yG m k ds ts).length=m/\∀t∈yG m k ds ts,bits t<=1100000+k+ds.length
 |[],k,ts,_,h,hb=>⟨h,hb⟩
 |d::ds,k,ts,hi,h,hb=>by
  have:=EH m hm ds (k+1) (ts.set (k%m)<|ts.getD (k%m) 0+intD d) (λx hx=>hi x (.tail _ hx)) (by simpa using h) (λt ht=>by
   rcases List.mem_or_eq_of_mem_set ht with ht|rfl
   ·exact j0 (hb t ht) (by lia)
   ·have hk:k%m<ts.length:=by rw[h];exact aDY _ hm
    have h1:bits (ts.getD (k%m) 0)<=1100000+k:=by rw[aAn,aAg hk];exact hb _ (aBr hk)
    obtain⟨i,rfl,hb2⟩:=hi d (.head _);exact bits_add h1 (j0 hb2 (by lia)))
  refine⟨this.1,λt ht=>j0 (this.2 t ht) ?_⟩;simp only[aAw];lia
def fO (xs:List D){most:Int}(h0:4<=most):4<=w4 xs most/\(w4 xs most:Int)<=most/\(w4 xs most:Int)=4+(cJ xs 0).fmod (most-3):=by have:=fI (a:=cJ xs 0) (b:=most-3) (by lia);unfold w4;lia
def EN (m:Nat)(h:m<=20):(xL m).length=m/\∀t∈xL m,bits t<=1100000:=by
 unfold xL;refine⟨by simp,λt ht=>?_⟩;obtain⟨k,hk,rfl⟩:=aAo.mp ht;have ju:k<m:=by simpa using hk
 have k3:(k:Int)*k<=20*20:=Int.mul_le_mul (by lia) (by lia) (by lia) (by decide);have k2:0<=(k:Int)*k:=aBg (by lia) (by lia);rw[aEu];exact j0 (J5 (n:=30) (by lia) (by lia)) (by decide)
def KC {xs:List D}{most:Int}(hi:L4 1048576 xs)(h0:4<=most)(h1:most<=20):(xA xs most).length=w4 xs most/\∀t∈xA xs most,bits t<=1100061:=by
 have hm:=fO xs h0;have t0:=EN (w4 xs most) (by lia);have:=EH (w4 xs most) (by lia) ((xs.take 63).drop 2) 0 (xL<|w4 xs most) (λx hx=>hi x (aEs<|aDw hx)) t0.1 t0.2;refine⟨this.1,λt ht=>j0 (this.2 t ht) ?_⟩;have:((xs.take 63).drop 2).length<=61:=by simp;lia
 lia
open Classical in
def dM:List D->R D
 |[.lst xs,.int most]=>if L4 1048576 xs/\xs.length<=63/\4<=most/\most<=20 then .ok (.lst ((fR xs most).map vd))else .bad
 |_=>.bad
def AZ {xs:List D}{most:Int}(hi:L4 1048576 xs)(hl:xs.length<=63)(h0:4<=most)(h1:most<=20):dM [.lst xs,.int most]=.ok (.lst ((fR xs most).map vd)):=if_pos ⟨hi,hl,h0,h1⟩
def KU {xs:List D}{most:Int}(hi:L4 1048576 xs)(h0:4<=most)(h1:most<=20):(∀p∈fR xs most,Sz 40 p)/\4<=(fR xs most).length/\((fR xs most).length:Int)<=most:=by have t:=KC hi h0 h1;have m:=fO xs h0;unfold fR;refine⟨λp hp=>?_,by rw[aAm,t.1];lia,by rw[aAm,t.1];lia⟩;obtain⟨a,_,rfl⟩:=aAo.mp hp;exact VQ ..
def XM (xs:List D):IC (.lst xs) (some 2) (some 63)=.ok (.lst ((xs.take 63).drop 2)):=by
 show R.ok (D.lst<|cutD xs (some 2)<|some 63)=_;rw[List.drop_take];show R.ok (D.lst<|List.take (min 63 xs.length-min 2 xs.length)<|List.drop (min 2 xs.length) xs)=_;by_cases h:xs.length<=2
 ·rw[aFE (by lia),aFE (by lia)];simp
 ·rw[aEC (by lia:2<=xs.length)];by_cases h2:xs.length<=63
  ·rw[aCZ (by simp;lia),aCZ (by simp;lia)]
  ·rw[aEC (by lia)]
open Classical in
def eG (pts:List G.V):List G.V:=if G.j9 pts then pts else match pts with
 |[]=>[]
 |P::r=>(P::r)++[⟨P.x+1,P.y,P.z⟩,⟨P.x,P.y+1,P.z⟩,⟨P.x,P.y,P.z+1⟩]
open Classical in
def cP:List D->R D
 |[.lst ds]=>match B1 ds with
  |some pts=>if pts≠[]/\(∀p∈pts,Sz 300 p)/\pts.length<=1000 then .ok (.lst ((eG pts).map vd))else .bad
  |_=>.bad
 |_=>.bad
def IH {α β:Type}{G:D->Ev->R Ev}{fe:Ev->R D}{ρ:Ev}(rep:α->D)(rp:β->D)(g:α->β)(l:List α)(h:∀a∈l,∃ρ1,G (rep a) ρ=.ok ρ1/\fe ρ1=.ok (rp (g a))):t9 G (λ_=>.ok true) fe ρ (l.map rep)=.ok ((l.map g).map rp):=by rw[aBj];exact J3 rep _ l h
theorem mW {α:Type}{G:D->Ev->R Ev}{F:Ev->R Out}{x:D}{Iv:Ev->Prop}(rep:α->D)(p:α->Prop)(Iw:Ev->Prop)(hw:∀ρ,Iw ρ->Iv ρ):∀(l:List α) (ρ:Ev),Iw ρ->(∀a∈l,∀ρ,Iw ρ->(p a/\V4 G F (rep a) ρ=.ok (.rt x))\/(¬p a/\∃ρ2,V4 G F (rep a) ρ=.ok (.nx ρ2)/\Iw ρ2))->((∃a∈l,p a)/\I9 G F (l.map rep) ρ=.ok (.rt x))\/(¬(∃a∈l,p a)/\∃ρ2,I9 G F (l.map rep) ρ=.ok (.nx ρ2)/\Iv ρ2)
 |[],ρ,h,_=>.inr ⟨λ⟨a,q,_⟩=>(by cases q),ρ,rfl,hw ρ h⟩
 |a::l,ρ,h,hs=>by
  have go:∀{o},V4 G F (rep a) ρ=.ok o->∃ρ1,G (rep a) ρ=.ok ρ1/\F ρ1=.ok o:=λ{o} e=>by
   unfold V4 at e;cases e1:G (rep a) ρ with
   |ok ρ1=>rw[e1]at e;exact⟨ρ1,rfl,e⟩
   |ex z=>rw[e1]at e;cases e
   |bad=>rw[e1]at e;cases e
  rcases hs a (.head _) ρ h with⟨hp,e⟩|⟨hp,ρ2,e,h2⟩
  ·obtain⟨ρ1,e1,e2⟩:=go e;exact .inl ⟨⟨a,.head _,hp⟩,bM e1 e2⟩
  ·obtain⟨ρ1,e1,e2⟩:=go e;rw[aAu,L8 e1 e2];rcases mW rep p Iw hw l ρ2 h2 (λb hb=>hs b (.tail _ hb))with⟨⟨b,hb,q⟩,e3⟩|⟨q,e3⟩
   ·exact .inl ⟨⟨b,.tail _ hb,q⟩,e3⟩
   ·exact .inr ⟨λ⟨b,hb,q'⟩=>by
     cases hb with
     |head=>exact hp q'
     |tail _ hb=>exact q ⟨b,hb,q'⟩,e3⟩
def OO {α:Type}{G:D->Ev->R Ev}{F F2:Ev->R Out}{x d:D}{l:List α}{ρ:Ev}(rep:α->D)(p:α->Prop)(Iw:Ev->Prop)(h:Iw ρ)(hs:∀a∈l,∀ρ,Iw ρ->(p a/\V4 G F (rep a) ρ=.ok (.rt x))\/(¬p a/\∃ρ2,V4 G F (rep a) ρ=.ok (.nx ρ2)/\Iw ρ2))(yes:(∃a∈l,p a)->x=d)(no:¬(∃a∈l,p a)->∀av,Iw av->P8 (F2 av)=.ok d):P8 (D5 (I9 G F (l.map rep) ρ) F2)=.ok d:=by
 rcases mW (Iv:=Iw) rep p Iw (λ_ h=>h) l ρ h hs with⟨q,e⟩|⟨q,ρ2,e,h2⟩
 ·rw[e,<-yes q];rfl
 ·rw[e];exact no q ρ2 h2
def JD (pts:List G.V):G0 (pts.map vd)<=5:=by
 induction pts with
 |nil=>simp[G0]
 |cons v l ih=>rw[aAu,G0];simp[E9,G0]at ih⊢;lia
def PN (pts:List G.V):MK (.lst (pts.map vd)) (.lst [])=.ok (.bl (!pts.isEmpty)):=by have:=JD pts;unfold MK;rw[if_pos ⟨by rw[E9];lia,by simp[E9,G0]⟩];cases pts<;>simp[v5,V9]
def VE (W:List G.V)(u v:G.V):Prop:=G.cr u v≠0/\∃w∈W,G.c9 (G.cr u v) w≠0
def VD (W:List G.V)(u:G.V):Prop:=∃v∈W,VE W u v
def SF {P:G.V}{ps:List G.V}(h:∃u∈(P::ps).map (· -P),VD ((P::ps).map (· -P)) u):eG (P::ps)=P::ps:=by unfold eG;rw[if_pos];obtain⟨u,hu,v,hv,c,w,hw,q⟩:=h;obtain⟨u,au,rfl⟩:=aAo.mp hu;obtain⟨v,hv',rfl⟩:=aAo.mp hv;obtain⟨w,hw',rfl⟩:=aAo.mp hw;exact(G.nI<|.head _).mpr ⟨u,au,v,hv',c,w,hw',q⟩
def XO {P:G.V}{ps:List G.V}(h:¬∃u∈(P::ps).map (· -P),VD ((P::ps).map (· -P)) u):eG (P::ps)=(P::ps)++[⟨P.x+1,P.y,P.z⟩,⟨P.x,P.y+1,P.z⟩,⟨P.x,P.y,P.z+1⟩]:=by unfold eG;rw[if_neg];intro s;obtain⟨u,hu,v,hv,c,w,hw,q⟩:=(G.nI<|aAP (a:=P)).mp s;exact h ⟨_,aBa hu,_,aBa hv,c,_,aBa hw,q⟩
def HD {pts:List G.V}(h:pts≠[]):G.j9 (eG pts):=by
 match pts,h with
 |P::r,_=>
  unfold eG;split
  ·assumption
  ·exact G.wJ P (.head _)
def FW {pts:List G.V}(h:pts≠[])(hs:∀p∈pts,Sz 300 p)(hl:pts.length<=1000):cP [.lst (pts.map vd)]=.ok (.lst ((eG pts).map vd)):=by simp only[cP,o6];exact if_pos ⟨h,hs,hl⟩
def MQ {pts:List G.V}(hs:∀p∈pts,Sz 40 p):(∀p∈eG pts,Sz 41 p)/\(eG pts).length<=pts.length+3:=by
 unfold eG;split
 ·exact⟨λp hp=>(hs p hp).mono,by lia⟩
 ·match pts,hs with
  |[],hs=>exact⟨λp hp=>(nomatch hp),aAY _⟩
  |P::r,hs=>
   refine⟨λp hp=>?_,by simp⟩;have hP:=hs P (.head _);have m:∀{i:Int},bits i<=40->bits i<=41:=λh=>j0 h (by lia);have a1:∀{i:Int},bits i<=40->bits (i+1)<=41:=λh=>bits_add h (show bits 1<=40 by decide);rcases aAS.mp hp with hp|hp
   ·exact(hs p hp).mono
   ·simp only[aAd,aAz,or_false]at hp;rcases hp with rfl|rfl|rfl
    ·exact⟨a1 hP.1,m hP.2.1,m hP.2.2⟩
    ·exact⟨m hP.1,a1 hP.2.1,m hP.2.2⟩
    ·exact⟨m hP.1,m hP.2.1,a1 hP.2.2⟩
end M
namespace DL
open PySem PySem.Spec L2
open PyProof.Rows hiding St
section
variable [Tabs]
end
end DL
namespace DL
open PySem PySem.Spec L2
open PyProof.Rows hiding St st
variable [Tabs]
section
end
end DL
namespace SD
open PySem
section
variable{prog:Program} {w:World} {A:Around} {E:C5} {s:Shared} {d it:Addr} {es:Array DictEntry} {ep i:Nat}
end
section
variable{prog:Program} {w:World} {A:Around} {E:C5} {s:Shared} {d:Addr} {es:Array DictEntry} {ep:Nat}
end
end SD
namespace DL
open PySem L2
section
variable [Tabs]
end
end DL
namespace M
open PySem L2 DL
variable [Tabs]
def lD (xs:List D) (most:Int):List G.V:=if((cJ xs 1).fdiv 5).fmod 3=0 then eG (fR xs most)else(eG<|fR xs most).map (vK<|SY<|(cJ xs 1).fdiv 5).put
open Classical in
def mO:List D->R D
 |[.lst xs,.int most]=>if L4 1048576 xs/\xs.length<=63/\4<=most/\most<=20 then .ok (.lst ((lD xs most).map vd))else .bad
 |_=>.bad
def IV {xs:List D}{most:Int}(hi:L4 1048576 xs)(hl:xs.length<=63)(h0:4<=most)(h1:most<=20):mO [.lst xs,.int most]=.ok (.lst ((lD xs most).map vd)):=if_pos ⟨hi,hl,h0,h1⟩
def VX {l:List Int}{P:G.V}(h:bL l)(hP:Sz 41 P):Sz 300 ((vK l).put P):=by
 have g:∀k,bits (l.getD k 0)<=100:=λk=>by
  rw[aAn];cases e:l[k]? with
  |none=>exact(show bits 0<=100 by decide)
  |some i=>exact h.2 i (aAv e)
 have hx:bits (P.x+l.getD 0 0*P.y)<=142:=bits_add (j0 hP.1 (by decide)) (bits_mul (g 0) hP.2.1);have hy:bits (P.y+l.getD 1 0*P.z)<=142:=bits_add (j0 hP.2.1 (by decide)) (bits_mul (g 1) hP.2.2);have hz:bits (P.z+l.getD 2 0*(P.x+l.getD 0 0*P.y))<=243:=bits_add (j0 hP.2.2 (by decide)) (bits_mul (g 2) hx);have ad:∀{x:Int} (k:Nat),bits x<=243->bits (x+l.getD k 0)<=300:=λk h=>j0 (bits_add h (j0 (g k) (by decide))) (by decide);have hx':=j0 hx (show 142<=243 by decide);have hy':=j0 hy (show 142<=243 by decide);unfold vK G.Sl.put;dsimp only;split
 ·exact⟨ad 3 hy',ad 4 hx',ad 5 hz⟩
 ·exact⟨ad 3 hx',ad 4 hy',ad 5 hz⟩
def GT (s:G.Sl){pts:List G.V}(h:G.j9 pts):G.j9 (pts.map s.put):=G.KT s.unit (λX hX=>by rw[<-s.ad9];exact aBa hX) h
def RO {xs:List D}{most:Int}(hi:L4 1048576 xs)(h0:4<=most)(h1:most<=20):G.j9 (lD xs most)/\(∀p∈lD xs most,Sz 300 p)/\((lD xs most).length:Int)<=most+3:=by
 obtain⟨p1,p2,p3⟩:=KU hi h0 h1;have ne:fR xs most≠[]:=λz=>by rw[z]at p2;simp at p2
 have s:=HD ne;obtain⟨z1,z2⟩:=MQ p1;unfold lD;split
 ·exact⟨s,λp hp=>(z1 p hp).mono,by lia⟩
 ·refine⟨GT _ s,λp hp=>?_,by rw[aAm];lia⟩;obtain⟨q,hq,rfl⟩:=aAo.mp hp;exact VX (MV _) (z1 q hq)
def yw (f:G.V×Int):D:=rK f.1 f.2
def UJ (kvs:List (D×D)):List D:=kvs.map (·.1)
def Cov (S:List G.V)(kvs:List (D×D))(i j k:Nat):Prop:=∀A B C,S[i]?=some A->S[j]?=some B->S[k]?=some C->(G.Up S A B C->yw (G.j4 A B C)∈UJ kvs)/\(G.Dn S A B C->yw (G.j4 A C B)∈UJ kvs)
def QY (S:List G.V)(kvs:List (D×D))(i j k:Nat):Prop:=∀i' j' k',i'<j'->j'<k'->(i'<i\/(i'=i/\(j'<j\/(j'=j/\k'<k))))->Cov S kvs i' j' k'
def DH (cs:List G.V)(k:Int):G.V:=cs.getD (k.fmod cs.length).toNat 0
def gG {cs:List G.V}(h:cs≠[])(k:Int):DH cs k∈cs/\cs[(k.fmod cs.length).toNat]?=some (DH cs k)/\0<=k.fmod cs.length:=by
 have l0:(0:Int)<cs.length:=by
  have:cs.length≠0:=λz=>h (aCn z)
  lia
 have r:=fI (a:=k) l0;have hk:(k.fmod cs.length).toNat<cs.length:=by lia
 unfold DH;rw[aAn,aAg hk];exact⟨aBr hk,rfl,r.1⟩
def KB {cs:List G.V}(h:cs≠[])(k:Int):D2 (.lst (cs.map vd)) (.int (k.fmod cs.length))=.ok (vd (DH cs k)):=by obtain⟨_,e,r⟩:=gG h k;exact G2 (by rw[N3 r,aAG,e];rfl)
def QN {L:List G.V}{t:Int}(h0:t≠0)(hb:bits t<=250)(hs:∀p∈L,Sz 300 p)(S:G.j9 L)(hl:L.length<=14):V7 900 (L.map (G.p6 t))/\G.j9 (L.map (G.p6 t))/\(d6 (L.map (G.p6 t))).length<=14/\∀p∈L.map (G.p6 t),Sz 550 p:=by
 have z:∀p∈L.map (G.p6 t),Sz 550 p:=λp hp=>by obtain⟨q,hq,rfl⟩:=aAo.mp hp;have:=hs q hq;exact⟨bits_mul hb this.1,bits_mul hb this.2.1,bits_mul hb this.2.2⟩
 refine⟨⟨λp hp=>(z p hp).mono,by rw[aAm];lia⟩,G.GR h0 (λX hX=>aBa hX) S,?_,z⟩;exact aAs (pH _) (by rw[aAm];exact hl)
end M
namespace G
def eV {n m k y:V}(ind:i9 n m k≠0)(h1:c9 n y=0)(h2:c9 m y=0)(h3:c9 k y=0):y=0:=by
 have go:∀t:Int,i9 n m k*t=0->t=0:=λt ht=>by
  rcases aAq.mp ht with q|q
  ·exact absurd q ind
  ·exact q
 have e:∀f:V->Int,(f=(·.x)\/f=(·.y)\/f=(·.z))->i9 n m k*f y=c9 n y*f (cr m k)+c9 m y*f (cr k n)+c9 k y*f (cr n m):=λf hf=>by rcases hf with rfl|rfl|rfl<;>simp[i9,c9,cr]<;>grind
 have z:∀f:V->Int,(f=(·.x)\/f=(·.y)\/f=(·.z))->f y=0:=λf hf=>go _ (by rw[e f hf,h1,h2,h3];simp);exact ext (z _<|.inl rfl) (z _<|.inr (.inl rfl)) (z _<|.inr (.inr rfl))
def OG {a b p q d:Int}(ha:0<a)(hb:0<b)(hp:p<=d)(hq:q<=d)(e:(a+b)*d=a*p+b*q):p=d:=by
 have h1:=aBg (aAF ha) (show 0<=d-p by lia);have h2:=aBg (aAF hb) (show 0<=d-q by lia);have h3:a*(d-p)+b*(d-q)=0:=by
  have:a*(d-p)+b*(d-q)=(a+b)*d-(a*p+b*q):=by grind
  lia
 have h4:a*(d-p)=0:=by
  clear e;generalize a*(d-p)=u at*
  generalize b*(d-q)=v at*
  lia
 rcases aAq.mp h4 with q|q<;>lia
section
variable{pts:List V} (hs:j9 pts) (ho:pts.Pairwise (λa b=>i7 (b-a)))
include hs ho
theorem pJ (hf:IsFace pts n d)(hX:X∈j6 pts (n,d))(hP:P∈pts)(hQ:Q∈pts){a b:Int}(ha:0<a)(hb:0<b)(e:(a+b)*X=a*P+b*Q):P=X:=by
 obtain⟨g1,g2,f1,f2,n1,n2,n3,x1,x2,x3⟩:=tZ hs ho hf hX;have on:∀{m:V} {c:Int},IsFace pts m c->c9 m X=c->c9 m (P-X)=0:=λ{m c} h hx=>by have q:=congrArg (c9 m) e;rw[t6,show c9 m (a*P+b*Q)=a*c9 m P+b*c9 m Q by simp[c9];grind,hx]at q;rw[d8,hx,OG ha hb (h.sup P hP) (h.sup Q hQ) q];lia
 exact T1 (eV (FM hs hf f1 f2 x1 x2 x3 n1 n2 n3) (on hf x1) (on f1 x2)<|on f2 x3)
theorem OR (hA:∃f:V×Int,IsFace pts f.1 f.2/\A∈j6 pts f)(hB:∃f:V×Int,IsFace pts f.1 f.2/\B∈j6 pts f)(hC:∃f:V×Int,IsFace pts f.1 f.2/\C∈j6 pts f)(ab:A≠B)(ac:A≠C)(bc:B≠C):cr (B-A) (C-A)≠0:=λz=>by
 have mem:∀{X:V},(∃f:V×Int,IsFace pts f.1 f.2/\X∈j6 pts f)->X∈pts:=λ{X} ⟨f,hf,hX⟩=>(d5.mp<|(hf.aa2 ho).aa3 hX).1;have ex:∀{X P Q:V} {a b:Int},(∃f:V×Int,IsFace pts f.1 f.2/\X∈j6 pts f)->P∈pts->Q∈pts->0<a->0<b->(a+b)*X=a*P+b*Q->P=X:=λ⟨f,hf,hX⟩ hP hQ ha hb e=>pJ hs ho hf hX hP hQ ha hb e;obtain⟨k,m,hk,e⟩:=y7 (a:=B-A) (w:=C-A) (λq=>ab (T1 q).symm) z;have ex1:=congrArg V.x e;have ey1:=congrArg V.y e;have ez1:=congrArg V.z e;simp at ex1 ey1 ez1;rcases Int.lt_trichotomy m 0 with h|h|h
 ·exact ac (ex hA (mem hC) (mem hB) hk (show 0< -m by lia) (by apply G.ext<;>simp<;>grind)).symm
 ·subst h;refine ac (G.ext ?_ ?_ ?_)
  ·rcases aAq.mp (show k*(C.x-A.x)=0 by lia)with q|q<;>lia
  ·rcases aAq.mp (show k*(C.y-A.y)=0 by lia)with q|q<;>lia
  ·rcases aAq.mp (show k*(C.z-A.z)=0 by lia)with q|q<;>lia
 ·rcases Int.lt_trichotomy m k with q|q|q
  ·exact ac (ex hC (mem hA) (mem hB) (show 0<k-m by lia) h (by apply G.ext<;>simp<;>grind))
  ·subst q;refine bc (G.ext ?_ ?_ ?_)
   ·rcases aAq.mp (show m*(C.x-B.x)=0 by grind)with q|q<;>lia
   ·rcases aAq.mp (show m*(C.y-B.y)=0 by grind)with q|q<;>lia
   ·rcases aAq.mp (show m*(C.z-B.z)=0 by grind)with q|q<;>lia
  ·exact bc (ex hB (mem hC) (mem hA) hk (show 0<m-k by lia) (by apply G.ext<;>simp<;>grind)).symm
end
def WX {pts:List V}(hA:A∈pts)(hB:B∈pts)(hC:C∈pts)(hD:D∈pts)(ne:c9 (cr (B-A) (C-A)) (D-A)≠0)(e:(4:Int)*M=A+B+C+D):i8 pts M=1:=by
 have go:∀n d,IsFace pts n d->c9 n M-d<0:=λn d h=>by
  have q:=congrArg (c9 n) e;rw[t6,show c9 n (A+B+C+D)=c9 n A+c9 n B+c9 n C+c9 n D by simp[c9];grind]at q;have a:=h.sup A hA;have b:=h.sup B hB;have c:=h.sup C hC;have f:=h.sup D hD;rcases aDp (c9 n M-d) 0 with l|l
  ·exact l
  ·exfalso;have p:=I0 (n:=n) (u:=B-A) (v:=C-A) (by rw[d8];lia) (by rw[d8];lia);obtain⟨k,m,hk,e1⟩:=y7 h.prim.ne p;have e2:=congrArg (λv=>c9 v (D-A)) e1;simp only[G9]at e2;rw[show c9 n (D-A)=0 by rw[d8];lia,aDK]at e2;rcases aAq.mp e2 with q|q
   ·lia
   ·exact ne q
 unfold i8;rw[if_pos λn d h=>aAF (go n d h),if_pos go]
def gJ {pts:List V}{P:V}:0<=i8 pts P↔∀n d,IsFace pts n d->c9 n P-d<=0:=by
 unfold i8;by_cases a:∀n d,IsFace pts n d->c9 n P-d<=0
 ·rw[if_pos a];refine⟨λ_=>a,λ_=>?_⟩;split<;>decide
 ·rw[if_neg a];exact⟨λz=>absurd z (by decide),λz=>absurd z a⟩
def jO {pts:List V}{P:V}:i8 pts P=1↔∀n d,IsFace pts n d->c9 n P-d<0:=by
 unfold i8;by_cases a:∀n d,IsFace pts n d->c9 n P-d<=0
 ·rw[if_pos a];by_cases b:∀n d,IsFace pts n d->c9 n P-d<0
  ·rw[if_pos b];exact⟨λ_=>b,λ_=>rfl⟩
  ·rw[if_neg b];exact⟨λz=>absurd z (by decide),λz=>absurd z b⟩
 ·rw[if_neg a];exact⟨λz=>absurd z (by decide),λz=>absurd (λn d h=>aAF (z n d h)) a⟩
def lA (pts:List V)(P:V):i8 pts P=1\/i8 pts P=0\/i8 pts P=-1:=by
 unfold i8;split
 ·split
  ·exact .inl rfl
  ·exact .inr (.inl rfl)
 ·exact .inr (.inr rfl)
def EM {A B P:V}{s t:Int}(e:(s+t)*P=s*A+t*B)(n:V)(d:Int):(s+t)*(c9 n P-d)=s*(c9 n A-d)+t*(c9 n B-d):=by have q:=congrArg (c9 n) e;rw[t6,show c9 n (s*A+t*B)=s*c9 n A+t*c9 n B by simp[c9];grind]at q;grind
def LC {pts:List V}{A B P:V}{s t:Int}(hs:0<s)(ht:0<t)(e:(s+t)*P=s*A+t*B)(hA:0<=i8 pts A)(hB:0<=i8 pts B):0<=i8 pts P:=gJ.mpr λn d h=>by
 have a:=gJ.mp hA n d h;have b:=gJ.mp hB n d h;have q:=EM e n d;have h1:=aBg (aAF hs) (show 0<=-(c9 n A-d)by lia);have h2:=aBg (aAF ht) (show 0<=-(c9 n B-d)by lia);rcases aDp 0 (c9 n P-d)with l|l
 ·have:=aBh (show 0<s+t by lia) l;rw[Int.mul_neg]at h1 h2
  lia
 ·exact l
def uB {pts:List V}{A P R:V}{s t:Int}(hs:0<s)(ht:0<t)(e:(s+t)*P=s*A+t*R)(hA:i8 pts A=1)(hP:i8 pts P≠1):i8 pts R=-1:=by
 have a:=jO.mp hA;have hp:∃n d,IsFace pts n d/\¬c9 n P-d<0:=by have:¬∀n d,IsFace pts n d->c9 n P-d<0:=λz=>hP (jO.mpr z);simpa using this
 obtain⟨n,d,h,l⟩:=hp;have q:=EM e n d;have h1:=aBh hs (show 0< -(c9 n A-d)by have:=a n d h;lia);have h2:=aBg (show 0<=s+t by lia) (show 0<=c9 n P-d by lia);have h3:0<c9 n R-d:=by
  rcases aDp 0 (c9 n R-d)with l|l
  ·exact l
  ·have:=aBg (aAF ht) (show 0<=-(c9 n R-d)by lia);rw[Int.mul_neg]at h1 this
   lia
 rcases lA pts R with z|z|z
 ·have:=jO.mp z n d h;lia
 ·have:=gJ.mp (show 0<=i8 pts R by lia) n d h;lia
 ·exact z
end G
namespace DL
open PySem PySem.Spec L2
open PyProof.Rows hiding St
section
variable [Tabs]
def bj:D->R D
 |.lst xs=>.ok (.lst xs.reverse)
 |_=>.bad
def WU {st:Expr}{p2:Pos}{f:Ev->R D}(he:PB X a f)(hs:fy X (some st) λ_=>.ok (some (-1))){ops:Value->Value->List Value}(ho:∀v u,subscripted (.Slice none none (some st) p2) false v u=operate (ops v u) (getItem v u):=by intro _ _;with_unfolding_all rfl):PD X (.Subscript a (.Slice none none (some st) p2) pos) (λρ=>(f ρ).bind bj):=by
 refine xN λpins s σ H Q I H9 O0 O ρ E q=>?_;dsimp only at q;refine Subscript_ (C1 (he pins s σ H (λx H1=>∃ds,f ρ=.ok (.lst ds)/\Same H H1/\A2 X.K H1 O x (.lst ds)) I ⟨H9,O0,O,ρ,E,?_⟩) λv s1 ⟨x,H1,I1,r1,ds,ef,sm,rb⟩=>?_)
 ·cases e1:f ρ with
  |ex z=>rw[e1]at q;exact q
  |bad=>rw[e1]at q;exact q.elim
  |ok d=>
   rw[e1,R.aa0]at q;cases d with
   |lst ds=>exactλv H1 s1 r1=>⟨ds,rfl,s1,r1⟩
   |_=>exact aAi q
 ·rw[ef,R.aa0]at q;refine wpAny_Slice (C1 (uF pins s1 σ H1 (λo H2=>o=none/\H2=H1) I1 ⟨rfl,rfl⟩) λvl s2 ⟨l,H2,I2,pl,e1,e2⟩=>?_);subst e1 e2;refine C1 (uF pins s2 σ H2 (λo H3=>o=none/\H3=H2) I2 ⟨rfl,rfl⟩) λvu s3 ⟨u,H3,I3,pu,e1,e2⟩=>?_;subst e1 e2;refine C1 (hs pins s3 σ H3 (λo H4=>o=some (-1)/\Same H3 H4) I3 ⟨H9,O0,O,ρ,E.grow sm,λH' s=>⟨rfl,s⟩⟩) λvk s4 ⟨k,H4,I4,pk,e1,xg⟩=>?_;subst e1;obtain⟨b,vs,rfl,hx,rr⟩:=(rb.same xg).aa5;cases r1;have I5:Inv X pins σ H4 {s4 with heap:=s4.heap.push {cls:=.type "slice",data:=.fields #[vl,vu,vk]}}:=I4.kept (t':=s4.toks) λb ob q=>aAc _ q;obtain⟨its,r,ht,hz⟩:=I5.list hx;have hlen:=r.length;show wpAny (model X.prog X.w) X.A (subscriptTail a (.Slice none none (some st) p2) (.ref b)<|.ref s4.heap.objs.size) (EP X pins σ Q) X.xe {s4 with heap:=s4.heap.push {cls:=.type "slice",data:=.fields #[vl,vu,vk]}};refine tail_any ht.isList.typeIs aFg.lookup ?_ (ho _ _);refine wpAny_getItem_list_slice ht.isList (Heap.IsSliceOf.new ..) pl pu pk (by simp) ?_ (by rw[aAk];lia);rw[PySem.W.krv_pick];have hf:=I5.hok.fresh (aAh _);refine⟨.ref _,_,I5.laid (t':=s4.toks) (o:=.lst vs.reverse) (λb ob q=>aAc _ q) (aAh _) ?_,rfl,?_⟩
  ·exact⟨by rw[aCa];exact hz,_,0,r.reverse,aAp _ rfl⟩
  ·have E4:=(E.grow sm).grow xg;exact q _ _ ((sm.trans xg).trans (j5 hf _)) (.lst (K0.of j3) (E4.fresh hf) (rr.reverse.same<|j5 hf _))
end
end DL
namespace M
open PySem L2 DL
variable [Tabs]
def nq (a b e:Int):Int:=(a+b).fdiv 24+e.fmod 4-2
def kQ (L:List G.V)(c:Int):G.V:=⟨nq (DH L c).x (DH L<|c.fdiv 11).x (c.fdiv 121),nq (DH L c).y (DH L<|c.fdiv 11).y (c.fdiv 484),nq (DH L c).z (DH L<|c.fdiv 11).z (c.fdiv 1936)⟩
open Classical in
def dG:List D->R D
 |[.lst ds,.int c]=>match B1 ds with
  |some L=>if bits c<=3000000/\L≠[]/\(∀p∈L,Sz 550 p)/\L.length<=1000 then .ok (vd (G.p6 12 (kQ L c)))else .bad
  |_=>.bad
 |_=>.bad
def vX {c:Int}{L:List G.V}(hc:bits c<=3000000)(h:L≠[])(hs:∀p∈L,Sz 550 p)(hl:L.length<=1000):dG [.lst (L.map vd),.int c]=.ok (vd (G.p6 12 (kQ L c))):=by simp only[dG,o6];exact if_pos ⟨hc,h,hs,hl⟩
def ED {a b e:Int}(ha:bits a<=550)(hb:bits b<=550):bits (nq a b e)<=560:=j0 (bits_sub (n:=552) (bits_add (n:=551) (bits_fdiv<|bits_add ha hb) (bits_fmod (by decide) (by decide))) (by decide)) (by decide)
def yL {L:List G.V}(h:L≠[])(hs:∀p∈L,Sz 550 p)(c:Int):Sz 560 (kQ L c)/\Sz 600 (G.p6 12 (kQ L c)):=by
 have a:=λk=>hs _ (gG h k).1;have z:Sz 560 (kQ L c):=⟨ED (a _).1 (a _).1,ED (a _).2.1 (a _).2.1,ED (a _).2.2 (a _).2.2⟩;have b:bits 12<=10:=by decide
 exact⟨z,j0 (bits_mul b z.1) (by decide),j0 (bits_mul b z.2.1) (by decide),j0 (bits_mul b z.2.2) (by decide)⟩
def pK (A B:G.V)(k:Int):G.V:=⟨A.x+((B.x-A.x)*k).fdiv 12,A.y+((B.y-A.y)*k).fdiv 12,A.z+((B.z-A.z)*k).fdiv 12⟩
def ZD {A B:G.V}{k:Int}(hA:Sz 600 A)(hB:Sz 600 B)(hk:bits k<=10):Sz 900 (pK A B k):=by have g:∀{x y:Int},bits x<=600->bits y<=600->bits (x+((y-x)*k).fdiv 12)<=900:=λhx hy=>j0 (bits_add (n:=700) (j0 hx (by decide)) (j0 (bits_fdiv<|bits_mul (bits_sub hy hx) hk) (by decide))) (by decide);exact⟨g hA.1 hB.1,g hA.2.1 hB.2.1,g hA.2.2 hB.2.2⟩
def WR (S:List G.V) (A B:G.V):List Int:=[0,4,8,12].map λk=>G.i8 S (pK A B k)
open Classical in
def N2:List D->R D
 |[.lst ds,p,q]=>match B1 ds,mF p,mF q with
  |some L,some A,some B=>if V7 900 L/\G.j9 L/\(d6 L).length<=14/\Sz 600 A/\Sz 600 B then .ok (.lst ((WR (d6 L) A B).map D.int))else .bad
  |_,_,_=>.bad
 |_=>.bad
def wZ {L:List G.V}{A B:G.V}(h1:V7 900 L)(h2:G.j9 L)(h3:(d6 L).length<=14)(hA:Sz 600 A)(hB:Sz 600 B):N2 [.lst (L.map vd),vd A,vd B]=.ok (.lst ((WR (d6 L) A B).map D.int)):=by simp only[N2,o6,iE];exact if_pos ⟨h1,h2,h3,hA,hB⟩
def pL {L:List G.V}{P:G.V}(h1:V7 900 L)(h2:G.j9 L)(h3:(d6 L).length<=14)(hP:Sz 900 P):dD [.lst (L.map vd),vd P]=.ok (.int (G.i8 (d6 L) P)):=by simp only[dD,o6,iE];exact if_pos ⟨h1,h2,h3,hP⟩
def SX (a b c d:Int):Prop:=(0<=a->0<=d->0<=b/\0<=c)/\(a<1\/(a=1/\b=1/\c=1)\/(a=1/\b=1/\c<1/\d=-1)\/(a=1/\b<1/\c=-1/\d=-1))
open Classical in
def M4:List D->R D
 |[.lst [.int a,.int b,.int c,.int d]]=>if SX a b c d then .ok (.bl true)else .bad
 |_=>.bad
def BK (x k:Int):(12*x*k).fdiv 12=x*k:=by rw[aEu,aDu _ (by decide),aFo _ (by decide)]
def nW (a b:G.V)(k:Int):pK (G.p6 12 a) (G.p6 12 b) k=⟨12*a.x+(b.x-a.x)*k,12*a.y+(b.y-a.y)*k,12*a.z+(b.z-a.z)*k⟩:=by unfold pK G.p6;dsimp only;rw[<-Int.mul_sub,<-Int.mul_sub,<-Int.mul_sub,BK,BK,BK]
def IJ (S:List G.V)(a b:G.V):SX (G.i8 S (pK (G.p6 12 a) (G.p6 12 b) 0)) (G.i8 S (pK (G.p6 12 a) (G.p6 12 b) 4)) (G.i8 S (pK (G.p6 12 a) (G.p6 12 b) 8)) (G.i8 S (pK (G.p6 12 a) (G.p6 12 b) 12)):=by
 have seg:∀{i j k:Int},(j-i+(k-j))*pK (G.p6 12 a) (G.p6 12 b) j=(k-j)*pK (G.p6 12 a) (G.p6 12 b) i+(j-i)*pK (G.p6 12 a) (G.p6 12 b) k:=λ{i j k}=>by rw[nW,nW,nW];apply G.ext<;>simp<;>grind
 have s048:=seg (i:=0) (j:=4) (k:=8);have s0412:=seg (i:=0) (j:=4) (k:=12);have s0812:=seg (i:=0) (j:=8) (k:=12);have t:=G.lA S;generalize pK (G.p6 12 a) (G.p6 12 b) 0=P0 at*
 generalize pK (G.p6 12 a) (G.p6 12 b) 4=P1 at*
 generalize pK (G.p6 12 a) (G.p6 12 b) 8=P2 at*
 generalize pK (G.p6 12 a) (G.p6 12 b) 12=P3 at*
 refine⟨λh0 h3=>⟨G.LC (s:=8) (t:=4) (by decide) (by decide) s0412 h0 h3,G.LC (s:=4) (t:=8) (by decide) (by decide) s0812 h0 h3⟩,?_⟩;by_cases h0:G.i8 S P0=1
 ·have o1:G.i8 S P1≠1->G.i8 S P2=-1/\G.i8 S P3=-1:=λz=>⟨G.uB (s:=4) (t:=4) (by decide) (by decide) s048 h0 z,G.uB (s:=8) (t:=4) (by decide) (by decide) s0412 h0 z⟩;have o2:G.i8 S P2≠1->G.i8 S P3=-1:=λz=>G.uB (s:=4) (t:=8) (by decide) (by decide) s0812 h0 z;have t1:=t P1;have t2:=t P2;by_cases h1:G.i8 S P1=1
  ·by_cases h2:G.i8 S P2=1
   ·exact .inr (.inl ⟨h0,h1,h2⟩)
   ·exact .inr (.inr (.inl ⟨h0,h1,by lia,o2 h2⟩))
  ·exact .inr (.inr (.inr ⟨h0,by lia,o1 h1⟩))
 ·have:=t P0;exact .inl (by lia)
def mL (a b:G.V)(k:Int):pK (G.p6 12 a) (G.p6 12 b) k=pK (G.p6 12 b) (G.p6 12 a) (12-k):=by rw[nW,nW];apply G.ext<;>simp<;>grind
def BL (a b c d:Int):Int:=(a+(b+(c+d))).fdiv 4
def HH (A B C E:G.V):G.V:=⟨BL A.x B.x C.x E.x,BL A.y B.y C.y E.y,BL A.z B.z C.z E.z⟩
open Classical in
def Z3:List D->R D
 |[.lst ds]=>match B1 ds with
  |some (A::B::C::r)=>match r.find? λE=>decide (G.c9 (G.cr (B-A) (C-A)) (E-A)≠0)with
   |some E=>if(∀p∈A::B::C::r,Sz 550 p)/\r.length<=1000 then .ok (vd (HH A B C E))else .bad
   |none=>.bad
  |_=>.bad
 |_=>.bad
open Classical in
def gR:List D->R D
 |[.lst xs]=>if xs.length<=63/\L4 1048576 xs then .ok (.bl true)else .bad
 |_=>.bad
theorem rG {α:Type}{G:D->Ev->R Ev}{F:Ev->R Out}(rep:α->D)(p:α->Bool)(g:α->D)(Iv:Ev->Prop):∀(l:List α) (ρ:Ev),Iv ρ->(∀a∈l,∀ρ,Iv ρ->(p a=true->V4 G F (rep a) ρ=.ok (.rt (g a)))/\(p a=false->∃ρ2,V4 G F (rep a) ρ=.ok (.nx ρ2)/\Iv ρ2))->∀E,l.find? p=some E->I9 G F (l.map rep) ρ=.ok (.rt (g E))
 |[],ρ,_,_,E,e=>by cases e
 |a::l,ρ,h,hs,E,e=>by
  have go:∀{o},V4 G F (rep a) ρ=.ok o->∃ρ1,G (rep a) ρ=.ok ρ1/\F ρ1=.ok o:=λ{o} e=>by
   unfold V4 at e;cases e1:G (rep a) ρ with
   |ok ρ1=>rw[e1]at e;exact⟨ρ1,rfl,e⟩
   |ex z=>rw[e1]at e;cases e
   |bad=>rw[e1]at e;cases e
  obtain⟨h1,h2⟩:=hs a (.head _) ρ h;cases hp:p a with
  |true=>rw[List.find?_cons,hp]at e;cases e;obtain⟨ρ1,e1,e2⟩:=go (h1 hp);exact bM e1 e2
  |false=>rw[List.find?_cons,hp]at e;obtain⟨ρ2,e0,i2⟩:=h2 hp;obtain⟨ρ1,e1,e2⟩:=go e0;rw[aAu,L8 e1 e2];exact rG rep p g Iv l ρ2 i2 (λb hb=>hs b (.tail _ hb)) E e
def uk (a b c:D)(r:List D):IC (.lst (a::b::c::r)) (some 3) none=.ok (.lst r):=by show R.ok (D.lst<|List.take ((r.length+3)-min 3 (r.length+3))<|List.drop (min 3<|r.length+3) (a::b::c::r))=_;rw[aEC (by lia)];simp
def xG {pts:List G.V}{x:G.V}(h1:V7 900 pts)(h2:G.j9 pts)(h3:(d6 pts).length<=14)(hx:x∈v7 pts):G.i8 (v7 pts) x=0:=by
 obtain⟨b1,b2,b3,b4,b5,b6⟩:=jE h1 h2 h3;obtain⟨f,hf,hr⟩:=(iH h1 h2 h3 x).mp hx;have on:=(G.d5.mp<|(hf.aa2<|D8 pts).aa3 hr).2;unfold G.i8;rw[if_pos λn d h=>by have:=h.sup x hx;lia,if_neg λz=>by
  have:=z f.1 f.2 ((b6 _ _).mpr hf)
  lia]
def yX {cs:List G.V}(h:G.j9 cs):4<=cs.length:=by
 obtain⟨A,hA,B,hB,C,hC,E,hE,e⟩:=h;have nd:[A,B,C,E].Nodup:=by simp only[aAJ,aAd,aAz,or_false,not_or,aCL,not_false_eq_true,and_true];refine⟨⟨?_,?_,?_⟩,⟨?_,?_⟩,?_⟩<;>rintro rfl<;>apply e<;>simp[G.i9,G.c9,G.cr]<;>grind
 exact G.M9 nd (m:=cs) λv hv=>by simp only[aAd,aAz,or_false]at hv;rcases hv with rfl|rfl|rfl|rfl<;>assumption
def JQ {L:List G.V}{A c:G.V}(hc:c≠0)(h:∀X∈L,G.c9 c (X-A)=0):¬G.j9 L:=by
 rintro⟨P,hP,Q,hQ,R,hR,S,hS,e⟩;have d:∀{X Y:G.V},X∈L->Y∈L->G.c9 (X-Y) c=0:=λ{X Y} hX hY=>by
  have a:=h X hX;have b:=h Y hY;have:G.c9 (X-Y) c=G.c9 c (X-A)-G.c9 c (Y-A):=by simp[G.c9];grind
  lia
 exact hc (G.eV e (d hQ hP) (d hR hP)<|d hS hP)
def VA {pts:List G.V}(h1:V7 900 pts)(h2:G.j9 pts)(h3:(d6 pts).length<=14)(hz:∀p∈v7 pts,Sz 300 p):∃A B C r E,(v7 pts).map (G.p6 12)=A::B::C::r/\(r.find? λE=>decide (G.c9 (G.cr (B-A) (C-A)) (E-A)≠0))=some E/\G.i8 (d6 ((v7 pts).map (G.p6 12))) (HH A B C E)=1/\Sz 900 (HH A B C E):=by
 obtain⟨b1,b2,b3,b4,b5,b6⟩:=jE h1 h2 h3;have bm:=iH h1 h2 h3;have nd:(v7 pts).Nodup:=bF _;have four:=yX b1;have hs:G.j9 (d6 pts):=jL h2 λv hv=>u8.mpr hv;generalize v7 pts=cs at*
 obtain⟨a,b,c,r,ec⟩:∃a b c r,cs=a::b::c::r:=by
  clear hz nd b1 b2 b3 b5 b6 bm;match cs with
  |a::b::c::r=>exact⟨a,b,c,r,rfl⟩
  |[]=>exact absurd four (by decide)
  |[_]=>exact absurd four (by simp)
  |[_,_]=>exact absurd four (by simp)
 subst ec;have nd3:a≠b/\a≠c/\b≠c:=by simp only[aAJ,aAd,not_or]at nd;exact⟨nd.1.1,nd.1.2.1,nd.2.1.1⟩
 have nl:=G.OR hs (D8 pts) ((bm a).mp (by simp)) ((bm b).mp (by simp)) ((bm c).mp (by simp)) nd3.1 nd3.2.1 nd3.2.2;have ex:∃e∈r,G.c9 (G.cr (b-a)<|c-a) (e-a)≠0:=by
  by_cases q:∃e∈r,G.c9 (G.cr (b-a)<|c-a) (e-a)≠0
  ·exact q
  ·refine absurd b1 (JQ (A:=a) nl λX hX=>?_);simp only[aAd]at hX;rcases hX with rfl|rfl|rfl|hX
   ·simp[G.c9]
   ·simp[G.c9,G.cr];grind
   ·simp[G.c9,G.cr];grind
   ·by_cases z:G.c9 (G.cr (b-a)<|c-a) (X-a)=0
    ·exact z
    ·exact absurd ⟨X,hX,z⟩ q
 have sc:∀e:G.V,G.c9 (G.cr (G.p6 12 b-G.p6 12 a)<|G.p6 12 c-G.p6 12 a) (G.p6 12 e-G.p6 12 a)=1728*G.c9 (G.cr (b-a)<|c-a) (e-a):=λe=>by simp[G.p6,G.c9,G.cr];grind
 have fd:((r.map<|G.p6 12).find? λE=>decide (G.c9 (G.cr (G.p6 12 b-G.p6 12 a)<|G.p6 12 c-G.p6 12 a) (E-G.p6 12 a)≠0)).isSome=true:=by rw[List.find?_isSome];obtain⟨e,he,q⟩:=ex;exact⟨_,aBa he,decide_eq_true (by rw[sc];lia)⟩
 obtain⟨E,hE⟩:=aDH.mp fd;have hE1:=List.find?_some hE;have hE2:=aEY hE;obtain⟨e,he,rfl⟩:=aAo.mp hE2;have hE1:G.c9 (G.cr (G.p6 12 b-G.p6 12 a)<|G.p6 12 c-G.p6 12 a) (G.p6 12 e-G.p6 12 a)≠0:=of_decide_eq_true hE1;have s4:∀w x y z:Int,4*BL (12*w) (12*x) (12*y) (12*z)=12*w+12*x+12*y+12*z:=λw x y z=>by
  unfold BL;rw[show 12*w+(12*x+(12*y+12*z))=4*(3*(w+x+y+z))by lia,aDu _ (by decide),aFo _ (by decide)]
  lia
 have z4:∀{w x y z:Int},bits w<=300->bits x<=300->bits y<=300->bits z<=300->bits (BL (12*w) (12*x) (12*y)<|12*z)<=900:=λhw hx hy hz=>by have m:∀{i:Int},bits i<=300->bits (12*i)<=310:=λh=>bits_mul (show bits 12<=10 by decide) h;exact j0 (bits_fdiv (bits_add (n:=312) (j0 (m hw) (by decide)) (bits_add (n:=311) (j0 (m hx) (by decide))<|bits_add (m hy)<|m hz))) (by decide)
 have ha:=hz a (by simp);have hb:=hz b (by simp);have hc:=hz c (by simp);have qd:=hz e (by simp[he]);have mem:∀{v:G.V},v∈a::b::c::r->G.p6 12 v∈d6 ((a::b::c::r).map (G.p6 12)):=λhv=>u8.mpr (aBa hv);refine⟨G.p6 12 a,G.p6 12 b,G.p6 12 c,r.map (G.p6 12),G.p6 12 e,rfl,hE,?_,?_⟩
 case refine_2=>exact⟨z4 ha.1 hb.1 hc.1 qd.1,z4 ha.2.1 hb.2.1 hc.2.1 qd.2.1,z4 ha.2.2 hb.2.2 hc.2.2 qd.2.2⟩
 exact G.WX (mem (by simp)) (mem (by simp)) (mem (by simp)) (mem (by simp[he])) hE1 (G.ext (s4 a.x b.x c.x e.x) (s4 a.y b.y c.y e.y)<|s4 a.z b.z c.z e.z)
def zD {A B C E:G.V}{r:List G.V}(h:(r.find? λE=>decide (G.c9 (G.cr (B-A) (C-A)) (E-A)≠0))=some E)(hs:∀p∈A::B::C::r,Sz 550 p)(hl:r.length<=1000):Z3 [.lst ((A::B::C::r).map vd)]=.ok (vd (HH A B C E)):=by simp only[Z3,o6,h];exact if_pos ⟨hs,hl⟩
end M
namespace DL
open PySem PySem.Spec L2
open PyProof.Rows hiding St
variable [Tabs]
section
abbrev yQ (X:Cx)(e:Expr)(es:List Expr):Prop:=starEach (e::es) X.env=(false,eval e X.env)::starEach es X.env
def u0 {i:Int}{j}:PB X (.Constant (.int i) j pos) (TH (.int i)):=c8.pb
def wL {e1:Expr}{f1:Ev->R D}(c:u3 X.prog X.w X.K X.mg X.base k x 1 m)(hr:Room k' X.A)(a1:PD X e1 f1)(hk:k<=k':=by decide)(s1:yQ X e1 []:=by rfl)(hg:Gl X x:=by rfl)(gv:(x==("__debug__":Str))=false:=by decide)(bh:(backTo pos (starEach [] X.env)).any (·.1)=false:=by rfl):
 PD X (.Call (.Name x p) [e1] [] pos) (λρ=>((o8 f1 Q5) ρ).bind m):=tH c (hr.mono hk) (f8 a1 o5 s1) (z7 Y6) hg gv s1 bh
def W0 {e1 e2:Expr}{f1 f2:Ev->R D}(c:u3 X.prog X.w X.K X.mg X.base k x 2 m)(hr:Room k' X.A)(a1:PD X e1 f1)(a2:PD X e2 f2)(hk:k<=k':=by decide)(s1:yQ X e1 [e2]:=by rfl)(s2:yQ X e2 []:=by rfl)(hg:Gl X x:=by rfl)(gv:(x==("__debug__":Str))=false:=by decide)(bh:(backTo pos (starEach [e2] X.env)).any (·.1)=false:=by rfl):
 PD X (.Call (.Name x p) [e1,e2] [] pos) (λρ=>((o8 f1 (o8 f2 Q5)) ρ).bind m):=tH c (hr.mono hk) (f8 a1 (f8 a2 o5 s2) s1) (z7<|z7 Y6) hg gv s1 bh
def yx {e1 e2 e3:Expr}{f1 f2 f3:Ev->R D}(c:u3 X.prog X.w X.K X.mg X.base k x 3 m)(hr:Room k' X.A)(a1:PD X e1 f1)(a2:PD X e2 f2)(a3:PD X e3 f3)(hk:k<=k':=by decide)(s1:yQ X e1 [e2,e3]:=by rfl)(s2:yQ X e2 [e3]:=by rfl)(s3:yQ X e3 []:=by rfl)(hg:Gl X x:=by rfl)(gv:(x==("__debug__":Str))=false:=by decide)(bh:(backTo pos (starEach [e2,e3] X.env)).any (·.1)=false:=by rfl):
 PD X (.Call (.Name x p) [e1,e2,e3] [] pos) (λρ=>((o8 f1 (o8 f2 (o8 f3 Q5))) ρ).bind m):=tH c (hr.mono hk) (f8 a1 (f8 a2 (f8 a3 o5 s3) s2) s1) (z7<|z7<|z7 Y6) hg gv s1 bh
def pc4 {e1 e2 e3 e4:Expr}{f1 f2 f3 f4:Ev->R D}(c:u3 X.prog X.w X.K X.mg X.base k x 4 m)(hr:Room k' X.A)(a1:PD X e1 f1)(a2:PD X e2 f2)(a3:PD X e3 f3)(a4:PD X e4 f4)(hk:k<=k':=by decide)(s1:yQ X e1 [e2,e3,e4]:=by rfl)(s2:yQ X e2 [e3,e4]:=by rfl)(s3:yQ X e3 [e4]:=by rfl)(s4:yQ X e4 []:=by rfl)(hg:Gl X x:=by rfl)(gv:(x==("__debug__":Str))=false:=by decide)(bh:(backTo pos (starEach [e2,e3,e4] X.env)).any (·.1)=false:=by rfl):
 PD X (.Call (.Name x p) [e1,e2,e3,e4] [] pos) (λρ=>((o8 f1 (o8 f2 (o8 f3 (o8 f4 Q5)))) ρ).bind m):=tH c (hr.mono hk) (f8 a1 (f8 a2 (f8 a3 (f8 a4 o5 s4) s3) s2) s1) (z7<|z7<|z7<|z7 Y6) hg gv s1 bh
def HX {e1 e2:Expr}{f1 f2:Ev->R D}{j}(a1:PD X e1 f1)(a2:PD X e2 f2)(s1:yQ X e1 [e2]:=by rfl)(s2:yQ X e2 []:=by rfl):PD X (.Tuple [e1,e2] j pos) (λρ=>((o8 f1 (o8 f2 Q5)) ρ).bind bR):=yW (f8 a1 (f8 a2 o5 s2) s1)
def DJ {e1 e2 e3:Expr}{f1 f2 f3:Ev->R D}{j}(a1:PD X e1 f1)(a2:PD X e2 f2)(a3:PD X e3 f3)(s1:yQ X e1 [e2,e3]:=by rfl)(s2:yQ X e2 [e3]:=by rfl)(s3:yQ X e3 []:=by rfl):PD X (.Tuple [e1,e2,e3] j pos) (λρ=>((o8 f1 (o8 f2 (o8 f3 Q5))) ρ).bind bR):=yW (f8 a1 (f8 a2 (f8 a3 o5 s3) s2) s1)
def GB {id:String}{g:List D->R D}{e:Expr}{f:Ev->R D}(hc:Z5 X (.builtin id) g)(a:PB X e f)(hg:Gl X x:=by rfl)(hm:X.mg x=none:=by assumption)(hv:bootBuiltins x=some (.builtin id):=by decide+kernel)(hn:x≠ "__name__":=by decide)(gv:(x==("__debug__":Str))=false:=by decide)(s1:yQ X e []:=by rfl)(bh:(backTo pos (starEach [] X.env)).any (·.1)=false:=by rfl):
 PD X (.Call (.Name x p) [e] [] pos) (λρ=>(o8 f Q5 ρ).bind g):=cE hc (l8 a v6 s1) hg hm hv hn gv s1 bh
def GZ {fr:List Str}{scope:Scope}{tp:Pos}{elt:Expr}{fe:Ev->R D}(h:∀pins fp s0 H1 C,PD (HB X pins s0 H1 ([x]++fr) scope (cF X scope C) C fp) elt fe)(nd:([x]++fr).Nodup:=by decide+kernel)(hx:Loc (relabel scope X.env) x:=by first|exact aCM rfl|exact aBN rfl)(hf:(scope.names.lookup x==some .cell)=true\/(relabel scope X.env).names.lookup x=some .local:=by first|exact .inl rfl|exact .inr rfl):
  ∀(pins:M2) (fp:List Addr) (X':Cx),(∃s9 Ha C,X'=HB X pins s9 Ha ([x]++fr) scope (cF X scope C) C fp)->IE X' (.Name x tp) (λd ρ=>.ok (ρ.set 0 (.v d)))/\TD X' [] (λ_=>.ok true)/\PD X' elt fe:=by
 rintro pins fp X2 ⟨s0,H1,C,rfl⟩;exact⟨m8 0 nd rfl hx hf,EA,h pins fp s0 H1 C⟩
def uq {fr:List Str}{scope:Scope}{tp:Pos}{elt c:Expr}{fe:Ev->R D}{ft:Ev->R Bool}(h:∀pins fp s0 H1 C,DB (HB X pins s0 H1 ([x]++fr) scope (cF X scope C) C fp) c ft/\PD (HB X pins s0 H1 ([x]++fr) scope (cF X scope C) C fp) elt fe)(nd:([x]++fr).Nodup:=by decide+kernel)(hx:Loc (relabel scope X.env) x:=by first|exact aCM rfl|exact aBN rfl)(hf:(scope.names.lookup x==some .cell)=true\/(relabel scope X.env).names.lookup x=some .local:=by first|exact .inl rfl|exact .inr rfl):
  ∀(pins:M2) (fp:List Addr) (X':Cx),(∃s9 Ha C,X'=HB X pins s9 Ha ([x]++fr) scope (cF X scope C) C fp)->IE X' (.Name x tp) (λd ρ=>.ok (ρ.set 0 (.v d)))/\TD X' [c] ft/\PD X' elt fe:=by
 rintro pins fp X2 ⟨s0,H1,C,rfl⟩;exact⟨m8 0 nd rfl hx hf,OZ (h pins fp s0 H1 C).1,(h pins fp s0 H1 C).2⟩
end
end DL
namespace K25
open PySem L2 DL M
def bU (i:Nat):Stmt:=PySem.Challenge.pw_stakebodies_k25_whole_between_two.main.body.getD i (.Pass ⟨0,0,0,0⟩)
abbrev X4:Stmt:=bU 5
abbrev qE:List Str:=["P", "Q"]
def oN:FnScope qE ["P", "Q"] (c6 X4):=D1
abbrev gD:Stmt:=bU 6
abbrev zW:List Str:=["u", "v"]
def wS:FnScope zW ["u", "v"] (c6 gD):=D1
abbrev aH:Stmt:=bU 7
abbrev tQ:List Str:=["u", "v"]
def qJ:FnScope tQ ["u", "v"] (c6 aH):=D1
abbrev N0:Stmt:=bU 8
abbrev jC:List Str:=["numbers", "divisor", "number", "rest", "further"]
def iM:FnScope jC ["numbers"] (c6 N0):=D1
abbrev Q8:Stmt:=bU 9
abbrev lW:List Str:=["P", "Q", "R", "cross", "divisor", "upright"]
def kK:FnScope lW ["P", "Q", "R"] (c6 Q8):=D1
abbrev jR:Stmt:=bU 10
abbrev HL:List Str:=["plane", "P", "height"]
def BN:FnScope HL ["plane", "P"] (c6 jR):=D1
abbrev N1:Stmt:=bU 13
abbrev iT:List Str:=["ways", "way"]
def gP:FnScope iT ["ways"] (c6 N1):=D1
abbrev A5:Stmt:=bU 14
abbrev K4:List Str:=["points", "ways", "along", "upright"]
def lY:FnScope K4 ["points"] (c6 A5):=D1
abbrev Y5:Stmt:=bU 15
abbrev pR:List Str:=["points"]
def oC:FnScope pR ["points"] (c6 Y5):=D1
abbrev W6:Stmt:=bU 16
abbrev kS:List Str:=["plane", "points"]
def tL:FnScope kS ["plane", "points"] (c6 W6):=D1
abbrev X6:Stmt:=bU 17
abbrev qC:List Str:=["pair", "points", "along", "upright", "outermost", "P", "way"]
def oG:FnScope qC ["pair", "points"] (c6 X6):=D1
abbrev aM:Stmt:=bU 18
abbrev uL:List Str:=["points", "least", "upward", "touched"]
def pT:FnScope uL ["points"] (c6 aM):=D1
abbrev iY:Stmt:=bU 19
abbrev FH:List Str:=["upright", "P", "Q", "R"]
def AA:FnScope FH ["upright", "P", "Q", "R"] (c6 iY):=D1
abbrev aU:Stmt:=bU 20
abbrev sI:List Str:=["upright", "points", "chain", "P"]
def pV:FnScope sI ["upright", "points"] (c6 aU):=D1
abbrev jA:Stmt:=bU 21
abbrev GC:List Str:=["upright", "points", "there", "back"]
def BY:FnScope GC ["upright", "points"] (c6 jA):=D1
abbrev Y3:Stmt:=bU 22
abbrev pN:List Str:=["ring"]
def nP:FnScope pN ["ring"] (c6 Y3):=D1
abbrev aK:Stmt:=bU 23
abbrev tR:List Str:=["first", "about", "touched_by", "faces", "walked", "waiting", "pair", "plane", "ring", "step"]
def fC:FnScope tR ["first", "about", "touched_by"] (c6 aK):=D1
abbrev J0:Stmt:=bU 24
abbrev fW:List Str:=["points", "spread", "about", "touched_by"]
def lB:FnScope fW ["points"] (c6 J0):=D1
abbrev aG:Stmt:=bU 25
abbrev uE:List Str:=["faces", "corners", "plane", "ring"]
def qG:FnScope uE ["faces"] (c6 aG):=D1
abbrev jP:Stmt:=bU 26
abbrev HW:List Str:=["points"]
def zA:FnScope HW ["points"] (c6 jP):=D1
abbrev aZ:Stmt:=bU 28
abbrev mT:List Str:=["land", "P"]
def vI:FnScope mT ["land", "P"] (c6 aZ):=D1
abbrev cD:Stmt:=bU 30
abbrev yH:List Str:=["script", "k"]
def sF:FnScope yH ["script", "k"] (c6 cD):=D1
abbrev fY:Stmt:=bU 31
abbrev BD:List Str:=["one", "other"]
def yD:FnScope BD ["one", "other"] (c6 fY):=D1
abbrev bH:Stmt:=bU 32
abbrev tT:List Str:=["u", "v"]
def pS:FnScope tT ["u", "v"] (c6 bH):=D1
abbrev V3:Stmt:=bU 33
abbrev oO:List Str:=["u", "v"]
def mC:FnScope oO ["u", "v"] (c6 V3):=D1
abbrev aJ:Stmt:=bU 34
abbrev tU:List Str:=["total", "way", "wide", "stir", "found", "k"]
def qD:FnScope tU ["total", "way"] (c6 aJ):=D1
abbrev F9:Stmt:=bU 35
abbrev X0:List Str:=["script", "most", "many", "totals", "k", "cell"]
def mZ:FnScope X0 ["script", "most"] (c6 F9):=D1
abbrev M1:Stmt:=bU 36
abbrev bI:List Str:=["points", "ways", "u", "v", "crossed", "x", "y", "z"]
def qI:FnScope bI ["points"] (c6 M1):=D1
abbrev O5:Stmt:=bU 37
abbrev eN:List Str:=["cell", "slants", "far"]
def nD:FnScope eN ["cell"] (c6 O5):=D1
abbrev U4:Stmt:=bU 38
abbrev nQ:List Str:=["point", "slants", "x", "y", "z"]
def lQ:FnScope nQ ["point", "slants"] (c6 U4):=D1
abbrev W9:Stmt:=bU 39
abbrev lO:List Str:=["script", "most", "points", "cell"]
def sJ:FnScope lO ["script", "most"] (c6 W9):=D1
abbrev L7:Stmt:=bU 44
abbrev cN:List Str:=["land", "one", "two", "found", "k", "point"]
def mD:FnScope cN ["land", "one", "two"] (c6 L7):=D1
abbrev W7:Stmt:=bU 45
abbrev kX:List Str:=["land", "cell", "one", "two"]
def uQ:FnScope kX ["land", "cell"] (c6 W7):=D1
abbrev L0:Stmt:=bU 46
abbrev cT:List Str:=["row", "out", "k"]
def lV:FnScope cT ["row"] (c6 L0):=D1
abbrev P4:Stmt:=bU 47
abbrev fA:List Str:=["land", "one", "crossed", "four"]
def oV:FnScope fA ["land"] (c6 P4):=D1
abbrev eM:Stmt:=bU 48
abbrev UF:List Str:=["script", "land", "cell", "row"]
def JV:FnScope UF ["script"] (c6 eM):=D1
def bW:Stmt:=(t5 J0).getD 2 (.Pass ⟨0,0,0,0⟩)
abbrev CH:Str:= "faces_of.<locals>.about"
def G6:Stmt:=(t5 J0).getD 3 (.Pass ⟨0,0,0,0⟩)
abbrev iJ:Str:= "faces_of.<locals>.touched_by"
def tbK:List (Pos×Str):=[(DD bW,CH),(DD G6,iJ)]
section
variable [Tabs]
variable{P:Program} {w:World} {K:PySem.W.Frag} {mg:bX} {base:Heap}
def n9 (g:bT K mg "way_between" X4):u3 P w K mg base 1 "way_between" 2 m6:=by
 refine' l7 (k:=0) (F:=_) g oN (λhr hu cu nd=>?b) λds d hl h=>?_
 case b=>refine' (d4<|f9<|DJ (b9 t7 (PD.pb<|d7 (b8 1) c8)<|PD.pb<|d7 (b8 0) c8) (b9 t7 (PD.pb<|d7 (b8 1) c8)<|PD.pb<|d7 (b8 0) c8)<|b9 t7 (PD.pb<|d7 (b8 1) c8)<|PD.pb<|d7 (b8 0) c8)
 replace h:=F8 h;obtain⟨a,b,c,ds,rfl,h⟩:=h;replace h:=F8 h;obtain⟨a',b',c',ds,rfl,h⟩:=h;replace h:=K5 h;obtain⟨rfl,h⟩:=h;exact h
def B6 (g:bT K mg "cross_of" gD):u3 P w K mg base 1 "cross_of" 2 u9:=by
 refine' l7 (k:=0) (F:=_) g wS (λhr hu cu nd=>?b) λds d hl h=>?_
 case b=>refine' (d4<|f9<|DJ (b9 t7 (PD.pb<|b9 j7 (PD.pb<|d7 (b8 0) c8)<|PD.pb<|d7 (b8 1) c8)<|PD.pb<|b9 j7 (PD.pb<|d7 (b8 0) c8)<|PD.pb<|d7 (b8 1) c8) (b9 t7 (PD.pb<|b9 j7 (PD.pb<|d7 (b8 0) c8)<|PD.pb<|d7 (b8 1) c8)<|PD.pb<|b9 j7 (PD.pb<|d7 (b8 0) c8)<|PD.pb<|d7 (b8 1) c8)<|b9 t7 (PD.pb<|b9 j7 (PD.pb<|d7 (b8 0) c8)<|PD.pb<|d7 (b8 1) c8)<|PD.pb<|b9 j7 (PD.pb<|d7 (b8 0) c8)<|PD.pb<|d7 (b8 1) c8)
 replace h:=F8 h;obtain⟨a,b,c,ds,rfl,h⟩:=h;replace h:=F8 h;obtain⟨a',b',c',ds,rfl,h⟩:=h;replace h:=K5 h;obtain⟨rfl,h⟩:=h;split at h
 ·rename_i hz;obtain⟨⟨h1,h2,h3⟩,h4,h5,h6⟩:=hz;rw[<-h];simp[j2,f7 (k5.of h2 h6),f7 (k5.of h3 h5),f7 (k5.of h3 h4),f7 (k5.of h1 h6),f7 (k5.of h1 h5),f7 (k5.of h2 h4)]
 ·cases h
def x6 (g:bT K mg "product_of" aH):u3 P w K mg base 1 "product_of" 2 k8:=by
 refine' l7 (k:=0) (F:=_) g qJ (λhr hu cu nd=>?b) λds d hl h=>?_
 case b=>refine' (d4<|f9<|b9 o7 (PD.pb<|b9 o7 (PD.pb<|b9 j7 (PD.pb<|d7 (b8 0) c8)<|PD.pb<|d7 (b8 1) c8)<|PD.pb<|b9 j7 (PD.pb<|d7 (b8 0) c8)<|PD.pb<|d7 (b8 1) c8)<|PD.pb<|b9 j7 (PD.pb<|d7 (b8 0) c8)<|PD.pb<|d7 (b8 1) c8)
 replace h:=TL h;obtain⟨a,b,c,t,ds,rfl,h⟩:=h;replace h:=F8 h;obtain⟨a',b',c',ds,rfl,h⟩:=h;replace h:=K5 h;obtain⟨rfl,h⟩:=h;split at h
 ·rename_i hz;obtain⟨⟨h1,h2,h3⟩,h4,h5,h6⟩:=hz;rw[<-h];simp[j2,TJ,TR,UK,f7 (k5.of h1 h4),f7 (k5.of h2 h5),f7 (k5.of h3 h6)]
 ·cases h
def N7 (b_abs:mg "abs"=none)(g:bT K mg "common_divisor" N0):u3 P w K mg base 1 "common_divisor" 1 A7:=by
 refine' l7 (k:=0) (F:=_) g iM (λhr hu cu nd=>?b) λds d hl h=>?_
 case b=>
  refine' (c5 (j1 1 c8 nd)
   (c5 (F3 aBb rfl (RF<|c7 0) (m8 2 nd) (c5 (j1 3 (GB YD<|b8 2) nd)
   (d4 (jD (bw 3) aBb (l5 (kW hu) (b8 3) u0) (c5 (j1 4 (b9 v8 (b8 1)<|b8 3) nd)
   (c5 (j1 1 (c7 3) nd)
   (d4<|j1 3 (c7 4) nd)))))))
   (d4<|f9<|c7 1)))
 match ds,h with
 |[.tup [.int a,.int b,.int c]],h=>
  rw[<-h];simp only[j2,aAu,aDk,aAV,aCx,A7];simp only[fB,BH,R.aa0,HQ,A8,aAw,aBo,aDV,aDW,aCy,aCz,aCG,aCH];refine gI (λrest ρ=>∃(g:Nat) (n r f:Sl),ρ=[.v (.tup [.int a,.int b,.int c]),.v (.int g),n,r,f]/\∃ns:List Int,rest=ns.map D.int/\ns.foldl (λg n=>Nat.gcd g n.natAbs) g=G.w8 ⟨a,b,c⟩) ?_ ⟨0,_,_,_,rfl,[a,b,c],rfl,by simp[G.w8]⟩ ?_
  ·rintro d ds ρ ⟨g,n,r,f,rfl,ns,e1,e2⟩;match ns,e1,e2 with
   |x::ns,e1,e2=>
    injection e1 with e3 e4;subst e3 e4;simp only[fJ,aCG,aCH,oA,sK,qL,NH,R.aa0,VT,A8];have ea:(if x<0 then-x else x)=(x.natAbs:Int):=by split<;>lia
    rw[ea];refine vH (λm ρ=>∃(p q:Nat) (f:Sl),ρ=[.v (.tup [.int a,.int b,.int c]),.v (.int p),.v (.int x),.v (.int q),f]/\q<m/\Nat.gcd p q=Nat.gcd g x.natAbs) ?_ (by rintro ρ ⟨p,q,f,_,h,_⟩;lia) ⟨g,x.natAbs,f,rfl,by show x.natAbs<((x.natAbs:Int).natAbs)+2;lia,rfl⟩ ?_
    ·rintro m ρ ⟨p,q,f,rfl,hq,hg⟩;by_cases h0:(q:Int)=0
     ·exact .inl (by simp[h0])
     ·have h1:q≠0:=by lia
      refine .inr ⟨by simp[h1],_,?_,q,p%q,Sl.v (.int ((p%q:Nat):Int)),rfl,?_,?_⟩
      ·have em:N4 (.int (p:Int)) (.int (q:Int))=.ok (.int ((p%q:Nat):Int)):=by rw[wT h0,aEM _ (by lia)];rfl
       simp[em]
      ·have:=aDY p (show 0<q by lia)
       lia
      ·rw[Nat.gcd_comm,<-Nat.gcd_rec,Nat.gcd_comm];exact hg
    ·rintro m ρ ⟨p,q,f,rfl,hq,hg⟩ hc;have h0:q=0:=by
      by_cases z:q=0
      ·exact z
      ·simp[z]at hc
     subst h0;refine⟨p,_,_,_,rfl,ns,rfl,?_⟩;rw[<-e2,aDR,<-hg,Nat.gcd_zero_right]
  ·rintro ρ ⟨g,n,r,f,rfl,ns,e1,e2⟩;have:ns=[]:=by simpa using e1.symm
   subst this;simp at e2;simp[e2]
def R0 (B6:u3 P w K mg base 1 "cross_of" 2 u9)(n9:u3 P w K mg base 1 "way_between" 2 m6)(N7:u3 P w K mg base 1 "common_divisor" 1 A7)(x6:u3 P w K mg base 1 "product_of" 2 k8)(g:bT K mg "plane_through" Q8):u3 P w K mg base 2 "plane_through" 3 Q7:=by
 refine' l7 (k:=1) (F:=_) g kK (λhr hu cu nd=>?b) λds d hl h=>?_
 case b=>
  refine' (c5 (j1 3 (W0 B6 hr (W0 n9 hr (c7 0)<|c7 1)<|W0 n9 hr (c7 0)<|c7 2) nd)
   (c5 (j1 4 (wL N7 hr<|c7 3) nd)
   (c5 (w6 (l5 (Z9 hu) (b8 4) u0) (d4 kM) n6)
   (c5 (j1 5 (DJ (b9 p8 (PD.pb<|d7 (b8 3) c8)<|b8 4) (b9 p8 (PD.pb<|d7 (b8 3) c8)<|b8 4)<|b9 p8 (PD.pb<|d7 (b8 3) c8)<|b8 4) nd)
   (d4<|f9<|yW<|f8 (d7 (b8 5) c8)<|f8 (d7 (b8 5) c8)<|f8 (d7 (b8 5) c8)<|f8 (W0 x6 hr (c7 5)<|c7 0) o5)))))
 replace h:=F8 h;obtain⟨a,b,c,ds,rfl,h⟩:=h;replace h:=F8 h;obtain⟨d,e,f,ds,rfl,h⟩:=h;replace h:=F8 h;obtain⟨g,h',i,ds,rfl,h⟩:=h;replace h:=K5 h;obtain⟨rfl,h⟩:=h
 ·skip
  split at h
  ·rename_i hz;obtain⟨⟨p,q,r⟩,hc⟩:=hz;rw[<-h];obtain⟨P,eP⟩:∃P:G.V,P=⟨a,b,c⟩:=⟨_,rfl⟩;obtain⟨Q,eQ⟩:∃P:G.V,P=⟨d,e,f⟩:=⟨_,rfl⟩;obtain⟨R',eR⟩:∃P:G.V,P=⟨g,h',i⟩:=⟨_,rfl⟩;rw[<-eP]at p hc;rw[<-eQ]at q hc;rw[<-eR]at r hc;have vP:(.tup [.int a,.int b,.int c]:D)=vd P:=by rw[eP]
   have vQ:(.tup [.int d,.int e,.int f]:D)=vd Q:=by rw[eQ]
   have vR:(.tup [.int g,.int h',.int i]:D)=vd R':=by rw[eR]
   rw[vP,vQ,vR,<-eP,<-eQ,<-eR];have sc:=(q.sub p).cr (r.sub p);have c1:=Z1 (u:=Q-P) (v:=R'-P) (q.sub p).mono (r.sub p).mono;obtain⟨g0,g1,g2⟩:=G.kL hc;have gne:((G.w8 (G.cr (Q-P)<|R'-P):Nat):Int)≠0:=by lia
   have gb:wM ((G.w8 (G.cr (Q-P)<|R'-P):Nat):Int):=⟨gne,u6 (ES sc)⟩;have dv:=AU (G.cr (Q-P)<|R'-P);have pl:G.j4 P Q R'=(G.jJ (G.cr (Q-P)<|R'-P) (G.w8<|G.cr (Q-P)<|R'-P),G.c9 (G.jJ (G.cr (Q-P)<|R'-P)<|G.w8<|G.cr (Q-P)<|R'-P) P):=rfl;rw[pl];generalize hC:G.cr (Q-P) (R'-P)=C at*
   have sn:Sz 2003 (G.jJ C<|G.w8 C):=by have f1:=bits_fdiv (b:=(G.w8 C:Int)) sc.1;have f2:=bits_fdiv (b:=(G.w8 C:Int)) sc.2.1;have f3:=bits_fdiv (b:=(G.w8 C:Int)) sc.2.2;rw[mX g0]at f1 f2 f3;exact⟨f1,f2,f3⟩
   have d1:∀t:Int,G3 (.int t) (.int (G.w8 C:Nat))=.ok (.int (t/(G.w8 C:Nat))):=λt=>by rw[aD gb,mX g0]
   have p2:=dW (u:=G.jJ C (G.w8 C)) (v:=P) sn.mono p.mono;have e0:(((G.w8 C:Nat):Int)==0)=false:=by simpa using gne
   simp only[G.jJ]at p2;have p2':k8 [.tup [.int (C.x/(G.w8 C:Nat)),.int (C.y/(G.w8 C:Nat)),.int (C.z/(G.w8 C:Nat))],vd P]=_:=p2;simp[j2,c1,dv,e0,d1,p2',G.jJ]
  ·cases h
def Y8 (g:bT K mg "side_of" jR):u3 P w K mg base 1 "side_of" 2 F7:=by
 refine' l7 (k:=0) (F:=_) g BN (λhr hu cu nd=>?b) λds d hl h=>?_
 case b=>
  refine' (c5 (j1 2 (b9 t7 (PD.pb<|b9 o7 (PD.pb<|b9 o7 (PD.pb<|b9 j7 (PD.pb<|d7 (b8 0) c8)<|PD.pb<|d7 (b8 1) c8)<|PD.pb<|b9 j7 (PD.pb<|d7 (b8 0) c8)<|PD.pb<|d7 (b8 1) c8)<|PD.pb<|b9 j7 (PD.pb<|d7 (b8 0) c8)<|PD.pb<|d7 (b8 1) c8)<|PD.pb<|d7 (b8 0) c8) nd)
   (c5 (w6 (l5 xR (b8 2) u0) (d4<|f9 c8) n6)
   (c5 (w6 (l5 oQ (b8 2) u0) (d4<|f9<|aN c8) n6)
   (d4<|f9 c8))))
 replace h:=TU h;obtain⟨a,b,c,d,ds,rfl,h⟩:=h;replace h:=F8 h;obtain⟨x,y,z,ds,rfl,h⟩:=h;replace h:=K5 h;obtain⟨rfl,h⟩:=h
 ·skip
  split at h
  ·rename_i hz;obtain⟨⟨h1,h2,h3⟩,h4,h5,h6⟩:=hz;rw[<-h];obtain⟨t,et⟩:∃t,a*x+b*y+c*z-d=t:=⟨_,rfl⟩;have e0:NK (.int (a*x+b*y+c*z)) (.int d)=.ok (.int t):=by rw[<-et];rfl
   rw[et];unfold sgn;by_cases p:0<t
   ·simp[-uV,j2,f7 (k5.of h1 h4),f7 (k5.of h2 h5),f7 (k5.of h3 h6),p,e0]
   ·by_cases n:t<0
    ·simp[-uV,j2,f7 (k5.of h1 h4),f7 (k5.of h2 h5),f7 (k5.of h3 h6),p,n,e0]
    ·simp[-uV,j2,f7 (k5.of h1 h4),f7 (k5.of h2 h5),f7 (k5.of h3 h6),p,n,e0]
  ·cases h
def F4 (br:JZ K mg "NO_WAY" [0,0,0])(g:bT K mg "first_real_way" N1):u3 P w K mg base 1 "first_real_way" 1 y8:=by
 refine' l7 (k:=0) (F:=_) g gP (λhr hu cu nd=>?b) λds d hl h=>?_
 case b=>
  refine' (c5 (F3 aBb rfl (t4<|c7 0) (m8 1 nd)<|d4<|w6 (l5 (kW hu) (b8 1)<|PD.pb<|sG br) (d4<|f9<|c7 1) n6)
   (d4<|f9 uD))
 match ds,h with
 |[.lst xs],h=>
  simp only[y8]at h;split at h
  ·rename_i ws hw;rw[m9 hw];rw[<-h];simp[j2];generalize Sl.v (D.lst<|aDf vd ws)=a;generalize Sl.no=b;clear h hw;induction ws generalizing b with
   |nil=>rfl
   |cons v ws ih=>
    rw[aAu,G.z6];by_cases hv:v=0
    ·rw[L8 (ρ2:=[a,.v (vd v)]) rfl (by simp[-kE,kw,hv]),ih];simp[hv]
    ·rw[bM (x:=vd v) rfl (by simp[-kE,kw,hv])];simp[hv,BF]
  ·cases h
def D6 (n9:u3 P w K mg base 1 "way_between" 2 m6)(F4:u3 P w K mg base 1 "first_real_way" 1 y8)(B6:u3 P w K mg base 1 "cross_of" 2 u9)(x6:u3 P w K mg base 1 "product_of" 2 k8)(cg:mg "len"=none)(b_any:mg "any"=none)(g:bT K mg "dimension_of" A5):u3 P w K mg base 2 "dimension_of" 1 A9:=by
 refine' l7 (k:=1) (F:=_) g lY (λhr hu cu nd=>?b) λds d hl h=>?_
 case b=>
  refine' (c5 (w6 (l5 (Z9 hu) (PD.pb<|GB X5<|b8 0) u0) (d4 kM) n6)
   (c5 (gN 1 ["P"] ["points"] [0] nd rfl (D4 (sc:=c6 A5) (N:=K4)) (t4<|c7 0) (GZ λ_ _ _ _ _=>(W0 n9 hr (d7 (b8 1) c8)<|c7 0))<|λ_=>o9)
   (c5 (j1 2 (wL F4 hr<|c7 1) nd)
   (c5 (w6 (l5 ML (b8 2)<|PD.pb uD) (d4<|f9 c8) n6)
   (c5 (j1 3 (wL F4 hr<|G7 ["way"] ["along"] [2] rfl (D4 (sc:=c6 A5) (N:=K4)) (t4<|c7 1) (GZ λ_ _ _ _ _=>(W0 B6 hr (c7 1)<|c7 0))<|λ_=>o9) nd)
   (c5 (w6 (l5 ML (b8 3)<|PD.pb uD) (d4<|f9 c8) n6)
   (c5 (w6 (mG<|GB (XQ rfl)<|PD.pb<|G7 ["way"] ["upright"] [3] rfl (D4 (sc:=c6 A5) (N:=K4)) (t4<|c7 1) (GZ λ_ _ _ _ _=>(sV (kW hu) (PD.pb<|W0 x6 hr (c7 1)<|c7 0) u0))<|λ_=>o9) (d4<|f9 c8) n6)
   (d4<|f9 c8))))))))
 match ds,h with
 |[.lst xs],h=>
  simp only[A9]at h;split at h
  ·rename_i pts hw;rw[m9 hw];split at h
   ·rename_i hz;rw[<-h];obtain⟨ae,hs⟩:=hz;match pts,ae with
    |p::ps,_=>
    obtain⟨xs',hxs⟩:∃xs',(p::ps).map vd=xs':=⟨_,rfl⟩;have i0:D2 (.lst xs') (.int 0)=.ok (vd p):=G2 (by rw[N3 (by decide),<-hxs];rfl);have c1:t9 (λd ρ=>R.ok (aCF ρ 0<|Sl.v d)) (λx=>R.ok true) (λρ=>(((pM 1 ρ).bind λx=>D2 x (D.int 0)).bind λd=>((V6 0 ρ).bind λd=>R.ok [d]).bind λds=>R.ok (d::ds)).bind m6) [.no,.v (.lst xs')] xs'=.ok (((p::ps).map (· -p)).map vd):=by rw[aBj];rw[show t9 _ _ _ _ xs'=t9 _ _ _ _ ((p::ps).map vd)by rw[hxs]];refine J3 vd _ _ λq hq=>⟨[.v (vd q),Sl.v (.lst xs')],rfl,?_⟩;show((D2 (.lst xs')<|.int 0).bind _).bind _=_;rw[i0];rfl
    have hw:∀w∈(p::ps).map (· -p),Sz 1001 w:=λw hw=>by obtain⟨q,hq,rfl⟩:=aAo.mp hw;exact(hs.1 q hq).sub (hs.1 p (.head _))
    have nh:(((p::ps).map (· -p)).map vd).length<=sizeLine:=by rw[aAm,aAm];exact small hs.2
    have bh:xs'.length<=sizeLine:=by rw[<-hxs,aAm];exact small hs.2
    have hl0:((xs'.length:Int)==0)=false:=by rw[<-hxs];simp;lia
    have f1:=AX ((p::ps).map (· -p));unfold G.S8;dsimp only;rw[hxs];generalize(p::ps).map (· -p)=W at*
    have f2:=λu=>AX (W.map<|G.cr u);cases ha:G.z6 W with
    |none=>rw[ha]at f1;simp[j2,f6,bh,hl0,c1,f1,BF,MG]
    |some al=>
     rw[ha]at f1;obtain⟨hm,_⟩:=G.t8 ha;have sal:=hw al hm;have c2:t9 (λd ρ=>R.ok (aCF ρ 0<|Sl.v d)) (λx=>R.ok true) (λρ=>((V6 1 ρ).bind λd=>((V6 0 ρ).bind λd=>R.ok [d]).bind λds=>R.ok (d::ds)).bind u9) [.no,.v (vd al)] (W.map vd)=.ok ((W.map<|G.cr al).map vd):=by rw[aBj];refine J3 vd _ _ λq hq=>⟨[.v (vd q),Sl.v (vd al)],rfl,?_⟩;show u9 [vd al,vd q]=_;exact Z1 sal.mono (hw q hq).mono
     have f2:=AX (W.map<|G.cr al);have eW:(W.map vd).length=W.length:=aAm ..;rw[eW]at nh;cases hb:G.z6 (W.map<|G.cr al)with
     |none=>rw[hb]at f2;simp only[aBj]at c2 f2;simp only[hb];simp[j2,f6,bh,hl0,c1,f1,BF,MG,nh,c2,f2]
     |some up=>
      rw[hb]at f2;obtain⟨jv,_⟩:=G.t8 hb;have sup:Sz 2003 up:=by obtain⟨q,hq,rfl⟩:=aAo.mp jv;exact(sal.cr<|hw q hq).mono
      have c3:t9 (λd ρ=>R.ok (aCF ρ 0<|Sl.v d)) (λx=>R.ok true) (λρ=>(((V6 1 ρ).bind λd=>((V6 0 ρ).bind λd=>R.ok [d]).bind λds=>R.ok (d::ds)).bind k8).bind λx=>MK x (D.int 0)) [.no,.v (vd up)] (W.map vd)=.ok ((W.map λw=>decide (G.c9 up w≠0)).map D.bl):=by rw[aBj];refine J3 vd _ _ λq hq=>⟨[.v (vd q),Sl.v (vd up)],rfl,?_⟩;show(k8 [vd up,vd q]).bind _=_;rw[dW sup.mono (hw q hq).mono,R.aa0,LZ];congr 2;rw[aDl];simp
      have f3:=YE (W.map λw=>decide (G.c9 up w≠0));have ean:(W.map λw=>decide (G.c9 up w≠0)).any id=W.any λw=>decide (G.c9 up w≠0):=by rw[List.any_map];rfl
      rw[ean]at f3;simp only[aBj]at c2 f2 c3 f3;simp only[hb];generalize(λw=>decide (G.c9 up w≠0))=Bf at*
      cases hc:W.any Bf with
      |false=>rw[hc]at f3;simp[j2,f6,bh,hl0,c1,f1,BF,MG,nh,c2,f2,c3,f3]
      |true=>rw[hc]at f3;simp[j2,f6,bh,hl0,c1,f1,BF,MG,nh,c2,f2,c3,f3]
   ·cases h
  ·cases h
def X3 (D6:u3 P w K mg base 2 "dimension_of" 1 A9)(g:bT K mg "refuse_flat" Y5):u3 P w K mg base 3 "refuse_flat" 1 C3:=by
 refine' l7 (k:=2) (F:=_) g oC (λhr hu cu nd=>?b) λds d hl h=>?_
 case b=>refine' (d4<|w6 (l5 oQ (PD.pb<|wL D6 hr<|c7 0) u0) (d4 kM) n6)
 match ds,h with
 |[.lst xs],h=>
  simp only[C3]at h;split at h
  ·rename_i pts hw;rw[m9 hw];split at h
   ·rename_i hz;rw[<-h];obtain⟨hs,h3⟩:=hz;have ae:pts≠[]:=λe=>by subst e;cases h3
    have e:=JU ae hs;rw[h3]at e;simp[j2,e]
   ·cases h
  ·cases h
def D9 (Y8:u3 P w K mg base 1 "side_of" 2 F7)(g:bT K mg "points_on" W6):u3 P w K mg base 2 "points_on" 2 x9:=by
 refine' l7 (k:=1) (F:=_) g tL (λhr hu cu nd=>?b) λds d hl h=>?_
 case b=>refine' (d4<|f9<|G7 ["P"] ["plane"] [0] rfl (D4 (sc:=c6 W6) (N:=kS)) (t4<|c7 1) (uq λ_ _ _ _ _=>⟨(l5 (Z9 hu) (PD.pb<|W0 Y8 hr (c7 1)<|c7 0) u0),(c7 0)⟩)<|λ_=>o9)
 replace h:=TU h;obtain⟨a,b,c,d,ds,rfl,h⟩:=h;replace h:=sE h;obtain⟨xs,ds,rfl,h⟩:=h;replace h:=K5 h;obtain⟨rfl,h⟩:=h
 ·skip
  split at h
  ·rename_i pts hw;rw[m9 hw];split at h
   ·rename_i hz;rw[<-h];have e:=N9 vd (G:=λd ρ=>R.ok (aCF ρ 0<|Sl.v d)) (ft:=λρ=>((((V6 1 ρ).bind λd=>((V6 0 ρ).bind λd=>R.ok [d]).bind λds=>R.ok (d::ds)).bind F7).bind λx=>QJ x (D.int 0)).bind yR) (fe:=V6 0) (ρ:=[.no,.v (.tup [D.int a,D.int b,D.int c,D.int d])])
     (λX=>decide (G.c9 ⟨a,b,c⟩ X=d)) vd pts λP hP=>⟨[.v (vd P),Sl.v (D.tup [D.int a,D.int b,D.int c,D.int d])],rfl,by simp[CF hz.1.mono (hz.2.1 P hP).mono,xw,G.c9];exact decide_eq_decide.mpr (by lia),λ_=>rfl⟩
    simp[j2,f6,small hz.2.2,e];rfl
   ·cases h
  ·cases h
def G4 (n9:u3 P w K mg base 1 "way_between" 2 m6)(x6:u3 P w K mg base 1 "product_of" 2 k8)(B6:u3 P w K mg base 1 "cross_of" 2 u9)(R0:u3 P w K mg base 2 "plane_through" 3 Q7)(br:JZ K mg "NO_WAY" [0,0,0])(g:bT K mg "plane_about" X6):u3 P w K mg base 3 "plane_about" 2 C4:=by
 refine' l7 (k:=2) (F:=_) g oG (λhr hu cu nd=>?b) λds d hl h=>?_
 case b=>
  refine' (c5 (j1 2 (W0 n9 hr (d7 (b8 0) c8)<|d7 (b8 0) c8) nd)
   (c5 (j1 3 (sG br) nd)
   (c5 (j1 4 (d7 (b8 0) c8) nd)
   (c5 (F3 aBb rfl (t4<|c7 1) (m8 5 nd) (c5 (j1 6 (W0 n9 hr (d7 (b8 0) c8)<|c7 5) nd)
   (d4 (w6 (AB.pt<|JY (l5 (Z9 hu) (b8 3)<|PD.pb<|sG br)<|DZ<|l5 xR (PD.pb<|W0 x6 hr (c7 3)<|c7 6) u0) (c5 (j1 3 (W0 B6 hr (c7 2)<|c7 6) nd)
   (d4<|j1 4 (c7 5) nd)) n6))))
   (d4<|f9<|yx R0 hr (d7 (b8 0) c8) (d7 (b8 0) c8)<|c7 4)))))
 replace h:=VH h;obtain⟨ys,ds,rfl,h⟩:=h;replace h:=sE h;obtain⟨xs,ds,rfl,h⟩:=h;replace h:=K5 h;obtain⟨rfl,h⟩:=h;replace h:=F8 h;obtain⟨a,b,c,ys,rfl,h⟩:=h;replace h:=F8 h;obtain⟨d,e,f,ys,rfl,h⟩:=h;replace h:=K5 h;obtain⟨rfl,h⟩:=h
 ·skip
  split at h
  ·rename_i pts hw;rw[m9 hw];split at h
   ·rename_i hz;rw[<-h];obtain⟨sA,sB,hs,hp⟩:=hz;have vA:(.tup [.int a,.int b,.int c]:D)=vd ⟨a,b,c⟩:=rfl;have vB:(.tup [.int d,.int e,.int f]:D)=vd ⟨d,e,f⟩:=rfl;rw[vA,vB];generalize(⟨a,b,c⟩:G.V)=A at*
    generalize(⟨d,e,f⟩:G.V)=B at*
    simp[j2];have z0:(.tup [.int 0,.int 0,.int 0]:D)=vd 0:=rfl;rw[z0];refine gI (λrest ρ=>∃(up out:G.V) (qs:List G.V) (x y:Sl),ρ=[.v (.tup [vd A,vd B]),.v (.lst (aDf vd pts)),.v (vd<|B-A),.v (vd up),.v (vd out),x,y]/\rest=qs.map vd/\Sz 2003 up/\Sz 1000 out/\(∀X∈qs,Sz 1000 X)/\G.C9 (B-A) A qs up out=G.C9 (B-A) A pts 0 A) ?_ ⟨0,A,pts,_,_,rfl,rfl,⟨by decide,by decide,by decide⟩,sA,hs.1,rfl⟩ ?_
    ·rintro d ds ρ ⟨up,out,qs,x,y,rfl,e1,su,so,sq,e2⟩;match qs,e1 with
     |P::qs,e1=>
      injection e1 with e3 e4;subst e3 e4;have sP:=sq P (.head _);have sw:=sP.sub sA;have e0:=eq0 up;rw[show(.tup [.int 0,.int 0,.int 0]:D)=vd 0 from rfl]at e0;have c1:=Z1 (u:=B-A) (v:=P-A) (sB.sub sA).mono sw.mono;have p1:=dW (u:=up) (v:=P-A) su.mono sw.mono;have w1:=XH A P;have i0:D2 (.tup [vd A,vd B]) (.int 0)=.ok (vd A):=rfl
      conv at e2=>lhs;unfold G.C9
      simp only[fJ,aCG,aCH,qL,NH,kU,fB,R.aa0,i0,w1,A8,e0,CK,p1,sN];by_cases zl:up=0
      ·rw[if_pos (.inl zl)]at e2;refine⟨_,?_,G.cr (B-A) (P-A),P,qs,.v (vd P),.v (vd<|P-A),rfl,rfl,(((sB.sub sA).cr sw).mono),sP,λX hX=>sq X (.tail _ hX),e2⟩;rw[decide_eq_true zl];simp only[if_true,R.aa0,c1,A8,aCG,aCH,kU,fB]
      ·rw[decide_eq_false zl];by_cases hd0:0<G.c9 up (P-A)
       ·rw[if_pos (.inr hd0)]at e2;refine⟨_,?_,G.cr (B-A) (P-A),P,qs,.v (vd P),.v (vd<|P-A),rfl,rfl,(((sB.sub sA).cr sw).mono),sP,λX hX=>sq X (.tail _ hX),e2⟩;rw[decide_eq_true hd0];simp only[if_true,aAt,if_false,R.aa0,c1,A8,aCG,aCH,kU,fB]
       ·rw[if_neg (λz=>z.elim zl hd0)]at e2;refine⟨_,?_,up,out,qs,.v (vd P),.v (vd<|P-A),rfl,rfl,su,so,λX hX=>sq X (.tail _ hX),e2⟩;rw[decide_eq_false hd0];simp only[aAt,if_false,R.aa0]
    ·rintro ρ ⟨up,out,qs,x,y,rfl,e1,su,so,sq,e2⟩;have:qs=[]:=by simpa using e1.symm
     subst this;have e2:(up,out)=G.C9 (B-A) A pts 0 A:=e2;have eo:(G.C9 (B-A) A pts 0 A).2=out:=by rw[<-e2]
     unfold G.b7 at hp⊢;rw[eo]at hp⊢;have pl:=NE ⟨sA,sB,so⟩ (QV hp);simp[pl]
   ·cases h
  ·cases h
def aW (D9:u3 P w K mg base 2 "points_on" 2 x9)(G4:u3 P w K mg base 3 "plane_about" 2 C4)(D6:u3 P w K mg base 2 "dimension_of" 1 A9)(qi:mg "min"=none)(g:bT K mg "first_pair" aM):u3 P w K mg base 8 "first_pair" 1 F1:=by
 refine' l7 (k:=7) (F:=_) g pT (λhr hu cu nd=>?b) λds d hl h=>?_
 case b=>
  have hu3:=hr.ae7 (by decide);refine' (c5 (j1 1 (cE (SJ rfl hu3)<|l8 (b8 0) v6) nd)
   (c5 (j1 2 (HX (c7 1)<|DJ (d7 (b8 1) c8) (d7 (b8 1) c8)<|b9 o7 (PD.pb<|d7 (b8 1) c8) u0) nd)
   (c5 (j1 3 (W0 D9 hr (W0 G4 hr (c7 2)<|c7 0)<|c7 0) nd)
   (c5 (w6 (l5 (Z9 hu) (PD.pb<|wL D6 hr<|c7 3) u0) (d4<|f9<|c7 2) n6)
   (d4<|f9<|HX (d7 (b8 3) c8)<|d7 (b8 3) c8)))))
 match ds,h with
 |[.lst xs],h=>
  simp only[F1]at h;split at h
  ·rename_i m pts hw;rw[m9 hw];split at h
   ·rename_i hz;rw[<-h];have hm:=XT hz.good.ord;have s1:V7 1000 (m::pts):=hz.sz.mono;have sm:Sz 900 m:=hz.sz.1 m (.head _);obtain⟨hp,tm,out,to,ae⟩:=G.xM hz.good.solid hz.good.mem hz.good.least;have ab:=U8 sm.mono (ME sm) s1 hp;have asz:=wH sm.mono (ME sm) s1;rw[ak]at ab;have po:=gH (d:=(G.b7 m (m+G.kk) (m::pts)).2) asz.mono s1;obtain⟨x,y,r,et⟩:=KH tm to ae;have ts:=IL (n:=(G.b7 m (m+G.kk) (m::pts)).1) (d:=(G.b7 m (m+G.kk) (m::pts)).2) s1;have dm:=JU (pts:=G.x5 (G.b7 m (m+G.kk) (m::pts)).1 (G.b7 m (m+G.kk) (m::pts)).2 (m::pts)) (by rw[et];simp) ts;have i0:D2 (.lst ((G.x5 (G.b7 m (m+G.kk) (m::pts)).1 (G.b7 m (m+G.kk) (m::pts)).2 (m::pts)).map vd)) (.int 0)=.ok (vd x):=G2 (by rw[et];exact ay _ _);have i1:D2 (.lst ((G.x5 (G.b7 m (m+G.kk) (m::pts)).1 (G.b7 m (m+G.kk) (m::pts)).2 (m::pts)).map vd)) (.int 1)=.ok (vd y):=G2 (by rw[et];exact dj _ _ _);unfold G.e9;dsimp only;by_cases h2:G.S8 (G.x5 (G.b7 m (m+G.kk) (m::pts)).1 (G.b7 m (m+G.kk) (m::pts)).2 (m::pts))=2
    ·rw[if_pos h2];rw[h2]at dm;generalize(m::pts).map vd=L at*
     generalize(G.x5 (G.b7 m (m+G.kk) (m::pts)).1 (G.b7 m (m+G.kk) (m::pts)).2 (m::pts)).map vd=L2 at*
     generalize(G.b7 m (m+G.kk) (m::pts)).1=pn at*
     generalize(G.b7 m (m+G.kk) (m::pts)).2=pm at*
     simp[j2,hm,ab,po,dm,G.kk]
    ·rw[if_neg h2];have e0:(G.x5 (G.b7 m (m+G.kk) (m::pts)).1 (G.b7 m (m+G.kk) (m::pts)).2 (m::pts)).getD 0 0=x:=by rw[et];rfl
     have e1:(G.x5 (G.b7 m (m+G.kk) (m::pts)).1 (G.b7 m (m+G.kk) (m::pts)).2 (m::pts)).getD 1 0=y:=by rw[et];rfl
     rw[e0,e1];have hb:((G.S8 (G.x5 (G.b7 m (m+G.kk) (m::pts)).1 (G.b7 m (m+G.kk) (m::pts)).2 (m::pts)):Int)==2)=false:=by rw[beq_eq_false_iff_ne];lia
     generalize(m::pts).map vd=L at*
     generalize(G.x5 (G.b7 m (m+G.kk) (m::pts)).1 (G.b7 m (m+G.kk) (m::pts)).2 (m::pts)).map vd=L2 at*
     generalize(G.S8 (G.x5 (G.b7 m (m+G.kk) (m::pts)).1 (G.b7 m (m+G.kk) (m::pts)).2 (m::pts)):Int)=dd at*
     generalize(G.b7 m (m+G.kk) (m::pts)).1=pn at*
     generalize(G.b7 m (m+G.kk) (m::pts)).2=pm at*
     simp[j2,hm,ab,po,dm,hb,i0,i1]
   ·cases h
  ·cases h
def jI (x6:u3 P w K mg base 1 "product_of" 2 k8)(B6:u3 P w K mg base 1 "cross_of" 2 u9)(n9:u3 P w K mg base 1 "way_between" 2 m6)(g:bT K mg "turn_of" iY):u3 P w K mg base 2 "turn_of" 4 dP:=by
 refine' l7 (k:=1) (F:=_) g AA (λhr hu cu nd=>?b) λds d hl h=>?_
 case b=>refine' (d4<|f9<|W0 x6 hr (c7 0)<|W0 B6 hr (W0 n9 hr (c7 1)<|c7 2)<|W0 n9 hr (c7 2)<|c7 3)
 replace h:=F8 h;obtain⟨a,b,c,ds,rfl,h⟩:=h;replace h:=F8 h;obtain⟨d,e,f,ds,rfl,h⟩:=h;replace h:=F8 h;obtain⟨g,h',i,ds,rfl,h⟩:=h;replace h:=F8 h;obtain⟨j,k,l,ds,rfl,h⟩:=h;replace h:=K5 h;obtain⟨rfl,h⟩:=h
 ·skip
  split at h
  ·rename_i hz;obtain⟨p,q,r,s⟩:=hz;rw[<-h];have c1:=Z1 (u:=⟨g,h',i⟩-⟨d,e,f⟩) (v:=⟨j,k,l⟩-⟨g,h',i⟩) (r.sub q).mono (s.sub r).mono;have c2:=dW (u:=⟨a,b,c⟩) (v:=G.cr (⟨g,h',i⟩-⟨d,e,f⟩) (⟨j,k,l⟩-⟨g,h',i⟩)) p.mono ((r.sub q).cr (s.sub r)).mono;simp only[vd,G.TQ,G.SV,G.TV,G.RT,G.OM,G.ON]at c1 c2;simp[j2,m6,v1,uZ,c1,c2,G.turn,G.i9]
  ·cases h
def R8 (jI:u3 P w K mg base 2 "turn_of" 4 dP)(cg:mg "len"=none)(g:bT K mg "left_chain" aU):u3 P w K mg base 3 "left_chain" 2 S5:=by
 refine' l7 (k:=2) (F:=_) g pV (λhr hu cu nd=>?b) λds d hl h=>?_
 case b=>
  refine' (c5 (dF 2 (kH o5) nd)
   (c5 (F3 aBb rfl (t4<|c7 1) (m8 3 nd) (c5 (jD (λ_=>1001) aBb (AB.pt<|eF (l5 xR (PD.pb<|GB X5<|b8 2) u0)<|cA<|l5 ZO (PD.pb<|pc4 jI hr (c7 0) (d7 (b8 2)<|aN c8) (d7 (b8 2)<|aN c8)<|c7 3) u0)<|d4<|OI 2)
   (d4<|V0 2<|c7 3)))
   (d4<|uK 2<|f9<|c7 2)))
 replace h:=F8 h;obtain⟨a,b,c,ds,rfl,h⟩:=h;replace h:=sE h;obtain⟨xs,ds,rfl,h⟩:=h;replace h:=K5 h;obtain⟨rfl,h⟩:=h
 ·skip
  split at h
  ·rename_i pts hw;rw[m9 hw];split at h
   ·rename_i hz;rw[<-h];obtain⟨sn,hs⟩:=hz;have vn:(.tup [.int a,.int b,.int c]:D)=vd ⟨a,b,c⟩:=rfl;rw[vn];generalize(⟨a,b,c⟩:G.V)=n at*
    simp[j2];refine gI (λrest ρ=>∃(c qs:List G.V) (x:Sl),ρ=[.v (vd n),.v (.lst (aDf vd pts)),.o (c.reverse.map vd),x]/\rest=qs.map vd/\(∀X∈c,Sz 1000 X)/\(∀X∈qs,Sz 1000 X)/\c.length+qs.length<=1000/\qs.foldl (λc P=>P::G.V8 n P c) c=G.y9 n pts) ?_ ⟨[],pts,_,rfl,rfl,λX hX=>by(cases hX),hs.1,by simpa using hs.2,rfl⟩ ?_
    ·rintro d ds ρ ⟨c,qs,x,rfl,e1,sc,sq,hl,e2⟩;match qs,e1 with
     |P::qs,e1=>
      injection e1 with e3 e4;subst e3 e4;have sP:=sq P (.head _);simp only[aAw]at hl;simp only[fJ,aCG,aCH];refine Exists.elim (vH (n:=1001) (ρ:=[.v (vd n),.v (.lst (aDf vd pts)),.o (c.reverse.map vd),.v (vd P)]) (Post:=λρ=>∃c',ρ=[.v (vd n),.v (.lst (aDf vd pts)),.o (c'.reverse.map vd),.v (vd P)]/\(∀X∈c',Sz 1000 X)/\c'.length<=c.length/\c'=G.V8 n P c)
       (c:=WI (λρ=>((((pM 2 ρ).bind λd=>R.ok [d]).bind RA).bind λx=>YJ x (D.int 1)).bind yR) λρ=>((((V6 0 ρ).bind λd=>(((pM 2 ρ).bind λx=>D2 x (D.int (-2))).bind λd=>(((pM 2 ρ).bind λx=>D2 x (D.int (-1))).bind λd=>((V6 3 ρ).bind λd=>R.ok [d]).bind λds=>R.ok (d::ds)).bind λds=>R.ok (d::ds)).bind λds=>R.ok (d::ds)).bind dP).bind λx=>ZF x (D.int 0)).bind yR) (F:=λρ=>(zH 2 ρ).bind λz=>R.ok (Out.nx z.snd))
       (λm ρ=>∃c',ρ=[.v (vd n),.v (.lst (aDf vd pts)),.o (c'.reverse.map vd),.v (vd P)]/\(∀X∈c',Sz 1000 X)/\c'.length<=c.length/\c'.length<m/\G.V8 n P c'=G.V8 n P c) ?_ (by rintro ρ ⟨c',_,_,_,h,_⟩;lia) ⟨c,rfl,sc,aAh _,by lia,rfl⟩ ?_) ?_
      ·rintro m ρ ⟨c',rfl,sub,gu,hm,ep⟩;match c',sub,gu,hm,ep with
       |[],_,_,_,_=>exact .inl (by simp)
       |[a],_,_,_,_=>exact .inl (by simp)
       |b::a::r,sub,gu,hm,ep=>
        have er:(b::a::r).reverse.map vd=r.reverse.map vd++[vd a,vd b]:=by simp
        have i1:D2 (.lst ((b::a::r).reverse.map vd)) (.int (-1))=.ok (vd b):=G2 (by rw[er];exact TM _ _ _);have i2:D2 (.lst ((b::a::r).reverse.map vd)) (.int (-2))=.ok (vd a):=G2 (by rw[er];exact UE _ _ _);have tn:=EI sn (sub a<|.tail _ (.head _)) (sub b<|.head _) sP;have hg:(1:Int)<(aDf vd (b::a::r).reverse).length:=by rw[aAm,aCa];simp;lia
        by_cases ht:G.turn n a b P<=0
        ·refine .inr ⟨?_,[.v (vd n),.v (.lst (aDf vd pts)),.o ((a::r).reverse.map vd),.v (vd P)],?_,a::r,rfl,λX hX=>sub X (.tail _ hX),?_,?_,?_⟩
         ·simp only[uC,qL,zT,R.aa0,AO,sN,decide_eq_true hg,CK,if_true,fB,kU,i1,i2,tn,BV,decide_eq_true ht]
         ·show(match(aDf vd (b::a::r).reverse)[(aDf vd (b::a::r).reverse).length-1]? with|some d=>_|none=>_:R (D×Ev)).bind _=_;rw[er];simp
         ·simp only[aAw]at gu⊢;lia
         ·simp only[aAw]at hm⊢;lia
         ·rw[<-ep]
          conv=>rhs;unfold G.V8
          rw[if_pos ht]
        ·refine .inl ?_;simp only[uC,qL,zT,R.aa0,AO,sN,decide_eq_true hg,CK,if_true,fB,kU,i1,i2,tn,BV,decide_eq_false ht]
      ·rintro m ρ ⟨c',rfl,sub,gu,hm,ep⟩ hc;refine⟨c',rfl,sub,gu,?_⟩;match c',sub,gu,hm,ep,hc with
       |[],_,_,_,ep,_=>exact ep
       |[a],_,_,_,ep,_=>exact ep
       |b::a::r,sub,gu,hm,ep,hc=>
        have er:(b::a::r).reverse.map vd=r.reverse.map vd++[vd a,vd b]:=by simp
        have i1:D2 (.lst ((b::a::r).reverse.map vd)) (.int (-1))=.ok (vd b):=G2 (by rw[er];exact TM _ _ _);have i2:D2 (.lst ((b::a::r).reverse.map vd)) (.int (-2))=.ok (vd a):=G2 (by rw[er];exact UE _ _ _);have tn:=EI sn (sub a<|.tail _ (.head _)) (sub b<|.head _) sP;have hg:(1:Int)<(aDf vd (b::a::r).reverse).length:=by rw[aAm,aCa];simp;lia
        simp only[uC,qL,zT,R.aa0,AO,sN,decide_eq_true hg,CK,if_true,fB,kU,i1,i2,tn,BV,MZ,decide_eq_false_iff_not]at hc;rw[<-ep]
        conv=>rhs;unfold G.V8
        rw[if_neg hc]
      ·rintro ρ2 ⟨ew,c',rfl,sub,gu,epop⟩;refine⟨[.v (vd n),.v (.lst (aDf vd pts)),.o ((P::c').reverse.map vd),.v (vd P)],?_,P::c',qs,_,rfl,rfl,?_,λX hX=>sq X (.tail _ hX),?_,?_⟩
       ·rw[ew];have hz:(aDf vd c'.reverse).length<sizeLine:=by rw[aAm,aCa];exact aDd (show c'.length<=1000 by lia) (by decide)
        simp only[A8,kU,fB,R.aa0];show(if(aDf vd c'.reverse).length<sizeLine then _ else _)=_;rw[if_pos hz];simp
       ·intro X hX;rcases aAd.mp hX with rfl|hX
        ·exact sP
        ·exact sub X hX
       ·simp;lia
       ·rw[<-e2,aDR,epop]
    ·rintro ρ ⟨c,qs,x,rfl,e1,sc,sq,hl,e2⟩;have:qs=[]:=by simpa using e1.symm
     subst this;have e2:c=G.y9 n pts:=e2;subst e2;simp[RV]
   ·cases h
  ·cases h
def iW (R8:u3 P w K mg base 3 "left_chain" 2 S5)(fu:mg "list"=none)(jl:mg "reversed"=none)(g:bT K mg "ring_of" jA):u3 P w K mg base 4 "ring_of" 2 N6:=by
 refine' l7 (k:=3) (F:=_) g BY (λhr hu cu nd=>?b) λds d hl h=>?_
 case b=>
  refine' (c5 (j1 2 (W0 R8 hr (c7 0)<|c7 1) nd)
   (c5 (j1 3 (W0 R8 hr (c7 0)<|PF.pd<|AE (b8 1) rfl) nd)
   (d4<|f9<|b9 o7 (PD.pb<|nM (b8 2) aE<|K8<|aN c8)<|PD.pb<|nM (b8 3) aE<|K8<|aN c8)))
 replace h:=F8 h;obtain⟨a,b,c,ds,rfl,h⟩:=h;replace h:=sE h;obtain⟨xs,ds,rfl,h⟩:=h;replace h:=K5 h;obtain⟨rfl,h⟩:=h
 ·skip
  split at h
  ·rename_i pts hw;rw[m9 hw];split at h
   ·rename_i hz;rw[<-h];obtain⟨sn,hs⟩:=hz;have vn:(.tup [.int a,.int b,.int c]:D)=vd ⟨a,b,c⟩:=rfl;rw[vn];generalize(⟨a,b,c⟩:G.V)=n at*
    have l1:=SW sn hs;have yr:V7 1000 pts.reverse:=hs.sub (λP hP=>by simpa using hP) (by simp);have l2:=SW sn yr;rw[aFA (l:=pts)]at l2;have k1:=qX n pts;have k2:=qX n pts.reverse;rw[aCa]at k2;have ha:lT (.lst ((G.y9 n pts).reverse.map vd).dropLast) (.lst ((G.y9 n pts.reverse).reverse.map vd).dropLast)=.ok (.lst ((G.k9 n pts).map vd)):=by rw[CJ (by simp only[aFO,aAm,aCa];exact aAs (show _<=2000 by have:=hs.2;lia) (by decide))];unfold G.k9;rw[aCh,List.map_dropLast,List.map_dropLast]
    simp[-aFA,j2,l1,l2,OU,ha,ZU]
   ·cases h
  ·cases h
def Y1 (fu:mg "list"=none)(b_zip:mg "zip"=none)(g:bT K mg "pairs_round" Y3):u3 P w K mg base 1 "pairs_round" 1 x8:=by
 refine' l7 (k:=0) (F:=_) g nP (λhr hu cu nd=>?b) λds d hl h=>?_
 case b=>refine' (d4<|f9<|PF.pd<|BE (b8 0) (PD.pb<|b9 o7 (PD.pb<|nM (b8 0) (K8 c8) aE)<|PD.pb<|nM (b8 0) aE<|K8 c8) rfl)
 match ds,h with
 |[.lst xs],h=>
  simp only[x8]at h;split at h
  ·rename_i pts hw;rw[m9 hw];split at h
   ·rename_i hz;rw[<-h];have ha:lT (.lst (pts.map vd).tail) (.lst ((pts.map vd).take 1))=.ok (.lst ((pts.tail++pts.take 1).map vd)):=by rw[CJ (by simp only[List.length_tail,aBI,aAm];exact JW (by lia))];rw[aCh,List.map_tail,List.map_take]
    have hzz:(pts.map vd).length=((pts.tail++pts.take 1).map vd).length:=by
     simp only[aAm,aAE,List.length_tail,aBI]
     lia
    have hzp:QM [.lst (pts.map vd),.lst ((pts.tail++pts.take 1).map vd)]=.ok ((G.T5 pts).map E8):=by show(if _ then _ else _)=_;rw[if_pos hzz,rM (β:=Unit)];rfl
    simp[-aCh,-List.map_tail,-List.map_take,j2,OV,XI,ha,hzp]
   ·cases h
  ·cases h
def aQ (G4:u3 P w K mg base 3 "plane_about" 2 C4)(iW:u3 P w K mg base 4 "ring_of" 2 N6)(Y1:u3 P w K mg base 1 "pairs_round" 1 x8)(cg:mg "len"=none)(cv:mg "sorted"=none)(g:bT K mg "faces_from" aK):QX P w K mg base 8 3 "faces_from" F6:=by
 obtain⟨f,fd,mi,F0⟩:=g;refine' QA (k:=7) (F:=_) F0 fC rfl (F0.binds λ_ _ _ _ _ _ us hl=>match us,hl with|[_,_,_],_=>rfl) mi (λcdv A outer s H E hr=>?hb) ?hm
 case hb=>
  have hu:=hr.units;have cu:=hr.ae4;have hu3:=hr.ae7 (by decide);have nd:=fC.nd;refine' (c5 (dF 3 (kH o5) nd)
   (c5 (JG 4 nd)
   (c5 (dF 5 (kH<|f8 (c7 0) o5) nd)
   (c5 (jD (λ_=>5000) aBb (l5 xR (PD.pb<|GB X5<|b8 5) u0) (c5 (BQ 6 5 nd)
   (d4 (w6 (GU 4 (c7 6) cu) (c5 (j1 7 (W0 G4 hr (c7 6) (xP 1 (k:=3) (Φ:=HY P w K mg base 3 1) rfl (f8 (d7 (b8 6) c8) o5) (z7 Y6) (hr.mono (by decide)))) nd)
   (c5 (j1 8 (W0 iW hr (nM (b8 7) aE<|K8 c8) (xP 2 (k:=3) (Φ:=HY P w K mg base 3 1) rfl (f8 (c7 7) o5) (z7 Y6) (hr.mono (by decide)))) nd)
   (c5 (V0 3<|HX (c7 7)<|c7 8)
   (d4 (F3 aBb rfl (t4<|wL Y1 hr<|c7 8) (m8 9 nd) (c5 (AN 4 nJ (c7 9) cu)
   (d4<|V0 5<|HX (d7 (b8 9) c8)<|d7 (b8 9) c8))))))) n6))))
   (d4<|f9<|PF.pd<|AH (b8 3) rfl hu3)))))
 case hm=>
  intro d m1 m2 d' h;simp only[F6]at h;split at h
  ·rename_i xs hm1;split at h
   ·rename_i m pts hw;split at h
    ·rename_i hz;rw[<-h];obtain⟨hz,rh,hd,e1,e2⟩:=hz;rw[m9 hw]at e1 e2;subst hd e1 e2;have s1:(1:Nat)<=sizeLine:=by decide
     simp only[jW,fB,oA,sK,R.aa0,aAw,aBo,aEV,s1,if_true,A8];exact fq (Φ:=HY P w K mg base 3 1) hz rh
    ·cases h
   ·cases h
  ·cases h
def rN:Nst:=⟨"about",CH,C8 bW,t5 bW,c6 bW,DD bW,["corner"],[],["spread"],[1],(λρ=>(V6 1 ρ).bind λd=>.ok (.rt d)),G5,2⟩
def cR:Nst:=⟨"touched_by",iJ,C8 G6,t5 G6,c6 G6,DD G6,["plane"],[],["spread"],[1],(λρ=>((o8 (V6 0) (o8 (V6 1) Q5) ρ).bind x9).bind λd=>.ok (.rt d)),B5,3⟩
def HS {f:Addr}{cdv:Value}{A:Around}{outer:List Env}{s:Shared}{H:Hp}{E:XK}:NstOk (OY P w K mg base fW "faces_of" (c6 J0) f cdv A outer s H E) 2 rN where
 sc:=⟨rfl,rfl,rfl,by decide+kernel,by decide+kernel,by decide+kernel,λx h=>DO h,by decide+kernel⟩
 one:=rfl
 body:=λfa cd clos A outer s H hr=>by have hu:=hr.units;exact(d4<|f9<|c7 1)
 mm:=by
  intro wd ds d h1 h2 h;match wd,ds,h1,h2,h with
  |[_],[_],_,_,h=>cases h;rfl
 bind:=λclos doc pm cd ctv us hl=>match us,hl with|[_],_=>rfl
 len:=rfl
 at_:=λi j x h1 h2=>match i,h1,h2 with
  |0,h1,h2=>by obtain rfl:1=j:=aAj h1;obtain rfl:("spread":Str)=x:=aAj h2;exact⟨rfl,rfl⟩
  |i+1,h1,_=>nomatch(show(none:Option Nat)=some j from h1)
 d0:=rfl
 k0:=rfl
 nm:=rfl
 lc:=.inl rfl
 st:=.inl rfl
 dbg:=by decide
 cdt:=by decide
def nF (D9:u3 P w K mg base 2 "points_on" 2 x9){f:Addr}{cdv:Value}{A:Around}{outer:List Env}{s:Shared}{H:Hp}{E:XK}:NstOk (OY P w K mg base fW "faces_of" (c6 J0) f cdv A outer s H E) 2 cR where
 sc:=⟨rfl,rfl,rfl,by decide+kernel,by decide+kernel,by decide+kernel,λx h=>DO h,by decide+kernel⟩
 one:=rfl
 body:=λfa cd clos A outer s H hr=>by have hu:=hr.units;exact(d4<|f9<|W0 D9 hr (c7 0)<|c7 1)
 mm:=by
  intro wd ds d h1 h2 h;match wd,ds,h1,h2,h with
  |[w],[p],_,_,h=>have h:x9 [p,w]=.ok d:=h;show P8 (((o8 (V6 0) (o8 (V6 1) Q5) [.v p,.v w]).bind x9).bind λd=>.ok (.rt d))=.ok d;have e:o8 (V6 0) (o8 (V6 1) Q5) [.v p,.v w]=.ok [p,w]:=rfl;rw[e,R.aa0,h];rfl
 bind:=λclos doc pm cd ctv us hl=>match us,hl with|[_],_=>rfl
 len:=rfl
 at_:=λi j x h1 h2=>match i,h1,h2 with
  |0,h1,h2=>by obtain rfl:1=j:=aAj h1;obtain rfl:("spread":Str)=x:=aAj h2;exact⟨rfl,rfl⟩
  |i+1,h1,_=>nomatch(show(none:Option Nat)=some j from h1)
 d0:=rfl
 k0:=rfl
 nm:=rfl
 lc:=.inl rfl
 st:=.inl rfl
 dbg:=by decide
 cdt:=by decide
def V2 {Pt:Addr}(D9:u3 P w K mg base 2 "points_on" 2 x9)(X3:u3 P w K mg base 3 "refuse_flat" 1 C3)(aW:u3 P w K mg base 8 "first_pair" 1 F1)(aQ:QX P w K mg base 8 3 "faces_from" F6)(cv:mg "sorted"=none)(qm:mg "set"=none)(hB:iP mg base)(hTt:(Pt,tbK)∈Tabs.tbs)(g:gj K mg "faces_of" J0 Pt):u3 P w K mg base 9 "faces_of" 1 M7:=by
 obtain⟨f,fd,cd,mi,hK,F0⟩:=g;refine' RM (k:=8) (F:=_) F0 lB (F0.fn.binds λ_ _ _ _ _ _ us hl=>match us,hl with|[_],_=>rfl) mi (λA outer s H E hr=>?hb) ?hm
 case hb=>
  have hu:=hr.units;have cu:=hr.ae4;have hu3:=hr.ae7 (by decide);have nd:=lB.nd;refine' (c5 (NX<|wL X3 hr<|c7 0)
   (c5 (j1 1 (PF.pd<|gQ (b8 0) rfl hu3) nd)
   (AI (n1:=rN) (n2:=cR) (clos1:=[("spread",s.heap.objs.size+1)]) (clos2:=[("spread",s.heap.objs.size+1)]) (tb:=tbK) HS (nF D9) ?co1 ?co2 ?hA hB rfl hK hTt (by decide+kernel) (by decide+kernel) (by decide+kernel) (by decide+kernel) (by decide) nd aQ (hr.mono (by decide)) (wL aW hr<|c7 1) (λ_=>rfl))))
  case co1=>exact⟨rfl,rfl,rfl,λx c h=>h,λx hx=>⟨_,by obtain rfl:x= "spread":=aBl.mp hx;rfl⟩⟩
  case co2=>exact⟨rfl,rfl,rfl,λx c h=>h,λx hx=>⟨_,by obtain rfl:x= "spread":=aBl.mp hx;rfl⟩⟩
  case hA=>exact FX
 case hm=>
  intro ds d hl h;match ds,h with
  |[.lst xs],h=>
   simp only[M7]at h;split at h
   ·rename_i pts hw;rw[m9 hw];split at h
    ·rename_i hz;rw[<-h];obtain⟨h1,h2,h3⟩:=hz;obtain⟨m,r,e,L⟩:=dH h1 h2 (by lia);have ss:=UC (pts:=pts) (by lia);have fl:=RQ (h1.mono (n:=1000)) h2;rw[e]at h3 ss⊢;have fp:=bz L;have ff:=UP L h3;obtain⟨L1,eL⟩:∃L1,(m::r).map vd=L1:=⟨_,rfl⟩;rw[eL]at ss fp ff;show P8 (D5 ((C3 [D.lst (pts.map vd)]).bind λ_=>R.ok (Out.nx [.v (.lst (pts.map vd)),.no,.no,.no])) _)=_;rw[fl,R.aa0,A8];show P8 (D5 (((fj<|.lst (pts.map vd)).bind λds=>R.ok (D.lst ds)).bind λd=>R.ok (Out.nx [.v (.lst (pts.map vd)),.v d,.no,.no])) _)=_;rw[ss,R.aa0,R.aa0,A8];show P8 (((F1 [D.lst L1]).bind λd1=>(R.ok [D.lst L1]).bind λw1=>(R.ok [D.lst L1]).bind λw2=>F6 d1 (G5 w1) (B5 w2)).bind λd=>R.ok (Out.rt d))=_;rw[fp,R.aa0,R.aa0,R.aa0,ff];rfl
    ·cases h
   ·cases h
def aR (cv:mg "sorted"=none)(qm:mg "set"=none)(g:bT K mg "corners_in" aG):u3 P w K mg base 8 "corners_in" 1 F5:=by
 refine' l7 (k:=7) (F:=_) g qG (λhr hu cu nd=>?b) λds d hl h=>?_
 case b=>
  have hu3:=hr.ae7 (by decide);refine' (c5 (dF 1 (kH o5) nd)
   (c5 (F3 aBb rfl (t4<|c7 0) (gM (n:=2) rfl<|y6 (m8 2 nd)<|y6 (m8 3 nd) cU)<|d4<|AS 1<|c7 3)
   (d4<|f9<|PF.pd<|gQ (b8 1) rfl hu3)))
 match ds,h with
 |[.lst xs],h=>
  simp only[F5]at h;split at h
  ·rename_i rs hw;split at h
   ·rename_i hz;rw[<-h];obtain⟨x',y',e⟩:=lF (a:=Sl.v (D.lst xs)) xs rs [] Sl.no Sl.no hw (by simpa using hz.1);rw[aDk,aCx]at e;have ss:=UC hz.2;simp[j2,-List.map_flatten,e,ss]
   ·cases h
  ·cases h
def jV (aR:u3 P w K mg base 8 "corners_in" 1 F5)(V2:u3 P w K mg base 9 "faces_of" 1 M7)(g:bT K mg "body_of" jP):u3 P w K mg base 10 "body_of" 1 Y9:=by
 refine' l7 (k:=9) (F:=_) g zA (λhr hu cu nd=>?b) λds d hl h=>?_
 case b=>refine' (d4<|f9<|wL aR hr<|wL V2 hr<|c7 0)
 match ds,h with
 |[.lst xs],h=>
  simp only[Y9]at h;split at h
  ·rename_i pts hw;rw[m9 hw];split at h
   ·rename_i hz;rw[<-h];obtain⟨h1,h2,h3⟩:=hz;obtain⟨m,r,e,L⟩:=dH h1 h2 (by lia);have fo:=xV h1 h2 h3;have fr:((p7<|d6 pts).flatMap (G.j6<|d6 pts)).length<=200/\(d6<|(p7<|d6 pts).flatMap (G.j6<|d6 pts)).length<=14:=by rw[e]at h3⊢;exact qY L h3
    have co:=zP (pts:=d6 pts) (fs:=p7 (d6 pts)) (by lia) (by lia);simp[j2,fo,co,v7]
   ·cases h
  ·cases h
end
end K25
namespace K25
open PySem L2 DL M
section
variable [Tabs]
variable{P:Program} {w:World} {K:PySem.W.Frag} {mg:bX} {base:Heap}
def N8 (V2:u3 P w K mg base 9 "faces_of" 1 M7)(Y8:u3 P w K mg base 1 "side_of" 2 F7)(qo:mg "max"=none)(g:bT K mg "where_in" aZ):u3 P w K mg base 10 "where_in" 2 dD:=by
 refine' l7 (k:=9) (F:=_) g vI (λhr hu cu nd=>?b) λds d hl h=>?_
 case b=>refine' (d4<|f9<|aN<|cE (PY rfl)<|l8 (PD.pb<|G7 ["face"] ["P"] [1] rfl (D4 (sc:=c6 aZ) (N:=mT)) (t4<|wL V2 hr<|c7 0) (GZ λ_ _ _ _ _=>(W0 Y8 hr (d7 (b8 0) c8)<|c7 1))<|λ_=>o9) v6)
 match ds,h with
 |[.lst xs,p],h=>
  simp only[dD]at h;split at h
  ·rename_i pts P' e1 e2;rw[m9 e1,Z0 e2];split at h
   ·rename_i hz;rw[<-h];obtain⟨h1,h2,h3,hP⟩:=hz;have FO:=xV h1 h2 h3;obtain⟨hf,ae,hl⟩:=FB h1 h2 h3;have gu:(p7<|d6 pts).length<=sizeLine:=aAs hl (by decide);have cm:∀(ρ:Ev),ρ.length=2->V6 1 ρ=.ok (vd P')->t9 (λd ρ=>R.ok (aCF ρ 0<|Sl.v d)) (λx=>R.ok true) (λρ=>(((pM 0 ρ).bind λx=>D2 x (D.int 0)).bind λd=>((V6 1 ρ).bind λd=>R.ok [d]).bind λds=>R.ok (d::ds)).bind F7) ρ ((p7<|d6 pts).map (l9<|d6 pts))=.ok (((p7<|d6 pts).map λf=>sgn (G.c9 f.1 P'-f.2)).map D.int):=λρ hρ e1=>by
     rw[N9 (r:=λd=>match d with|.tup [p,_]=>(match F7 [p,vd P']with|.ok x=>x|_=>.non)|_=>.non)]
     ·congr 1;rw[aBj,aBj];refine aEF λf hF=>?_;simp only[aGg,qM h1 hP ((hf f).mp hF)]
     ·intro d hd;obtain⟨f,hF,rfl⟩:=aAo.mp hd;match ρ,hρ with
      |[a,b],_=>refine⟨_,rfl,?_⟩;have zd:V6 1 [.v (l9 (d6 pts) f),b]=.ok (vd P'):=e1;have i0:D2 (l9 (d6 pts) f) (.int 0)=.ok (rK f.1 f.2):=DA rfl;have sf:=qM h1 hP ((hf f).mp hF);simp[zd,i0,sf]
    simp[j2,FO,gu];rw[cm _ (by rfl) (by rfl)];have mx:DP [.lst (((p7<|d6 pts).map λf=>sgn (G.c9 f.1 P'-f.2)).map D.int)]=.ok (.int (jF<|(p7<|d6 pts).map λf=>sgn (G.c9 f.1 P'-f.2))):=by simp only[DP,vG];exact if_pos (by simpa using ae)
    have wm:=GJ hf ae P';generalize(p7<|d6 pts).map (λf=>sgn (G.c9 f.1 P'-f.2))=ns at*
    simp[mx,PC,wm]
   ·exact absurd h (by simp)
  ·exact absurd h (by simp)
end
end K25
namespace K25
open PySem L2 DL M
section
variable [Tabs]
variable{P:Program} {w:World} {K:PySem.W.Frag} {mg:bX} {base:Heap}
def B4 (cg:mg "len"=none)(g:bT K mg "_law_cell" cD):u3 P w K mg base 1 "_law_cell" 2 W4:=by
 refine' l7 (k:=0) (F:=_) g sF (λhr hu cu nd=>?b) λds d hl h=>?_
 case b=>
  refine' (c5 (w6 (l5 oQ (b8 1)<|PD.pb<|GB X5<|b8 0) (d4<|f9<|d7 (b8 0)<|c7 1) n6)
   (d4<|f9<|b9 o7 (PD.pb<|b9 o7 (PD.pb<|b9 j7 (PD.pb<|b9 j7 u0<|b8 1)<|b8 1)<|PD.pb<|b9 j7 u0<|b8 1) u0))
 match ds,h with
 |[.lst xs,.int k],h=>
  simp only[W4]at h;split at h
  ·rename_i hz;obtain⟨h0,h1⟩:=hz;rw[<-h];have hb:bits k<=20:=J5 (by lia) (by lia);have hb2:bits (6*k)<=30:=J5 (by lia) (by lia);by_cases hk:k<xs.length
   ·have e:xs[k.toNat]?=some xs[k.toNat]:=aAg (by lia);have e2:mB xs k=some xs[k.toNat]:=by rw[N3 h0,e]
    simp[j2,hk,G2 e2,qN,e]
   ·have e:xs[k.toNat]?=none:=aBE.mpr (by lia);simp[j2,hk,qN,e,f7 (k5.of (show bits 6<=10 by decide) hb),f7 (k5.of hb2 hb),f7 (k5.of (show bits 5<=10 by decide) hb),M.yN]
  ·cases h
def J2 (g:bT K mg "_law_way" fY):u3 P w K mg base 1 "_law_way" 2 m6:=by
 refine' l7 (k:=0) (F:=_) g yD (λhr hu cu nd=>?b) λds d hl h=>?_
 case b=>refine' (d4<|f9<|DJ (b9 t7 (PD.pb<|d7 (b8 1) c8)<|PD.pb<|d7 (b8 0) c8) (b9 t7 (PD.pb<|d7 (b8 1) c8)<|PD.pb<|d7 (b8 0) c8)<|b9 t7 (PD.pb<|d7 (b8 1) c8)<|PD.pb<|d7 (b8 0) c8)
 replace h:=F8 h;obtain⟨a,b,c,ds,rfl,h⟩:=h;replace h:=F8 h;obtain⟨a',b',c',ds,rfl,h⟩:=h;replace h:=K5 h;obtain⟨rfl,h⟩:=h;exact h
def L9 (g:bT K mg "_law_cross" bH):u3 P w K mg base 1 "_law_cross" 2 u9:=by
 refine' l7 (k:=0) (F:=_) g pS (λhr hu cu nd=>?b) λds d hl h=>?_
 case b=>refine' (d4<|f9<|DJ (b9 t7 (PD.pb<|b9 j7 (PD.pb<|d7 (b8 0) c8)<|PD.pb<|d7 (b8 1) c8)<|PD.pb<|b9 j7 (PD.pb<|d7 (b8 0) c8)<|PD.pb<|d7 (b8 1) c8) (b9 t7 (PD.pb<|b9 j7 (PD.pb<|d7 (b8 0) c8)<|PD.pb<|d7 (b8 1) c8)<|PD.pb<|b9 j7 (PD.pb<|d7 (b8 0) c8)<|PD.pb<|d7 (b8 1) c8)<|b9 t7 (PD.pb<|b9 j7 (PD.pb<|d7 (b8 0) c8)<|PD.pb<|d7 (b8 1) c8)<|PD.pb<|b9 j7 (PD.pb<|d7 (b8 0) c8)<|PD.pb<|d7 (b8 1) c8)
 replace h:=F8 h;obtain⟨a,b,c,ds,rfl,h⟩:=h;replace h:=F8 h;obtain⟨a',b',c',ds,rfl,h⟩:=h;replace h:=K5 h;obtain⟨rfl,h⟩:=h;split at h
 ·rename_i hz;obtain⟨⟨h1,h2,h3⟩,h4,h5,h6⟩:=hz;rw[<-h];simp[j2,f7 (k5.of h2 h6),f7 (k5.of h3 h5),f7 (k5.of h3 h4),f7 (k5.of h1 h6),f7 (k5.of h1 h5),f7 (k5.of h2 h4)]
 ·cases h
def D7 (g:bT K mg "_law_product" V3):u3 P w K mg base 1 "_law_product" 2 k8:=by
 refine' l7 (k:=0) (F:=_) g mC (λhr hu cu nd=>?b) λds d hl h=>?_
 case b=>refine' (d4<|f9<|b9 o7 (PD.pb<|b9 o7 (PD.pb<|b9 j7 (PD.pb<|d7 (b8 0) c8)<|PD.pb<|d7 (b8 1) c8)<|PD.pb<|b9 j7 (PD.pb<|d7 (b8 0) c8)<|PD.pb<|d7 (b8 1) c8)<|PD.pb<|b9 j7 (PD.pb<|d7 (b8 0) c8)<|PD.pb<|d7 (b8 1) c8)
 replace h:=TL h;obtain⟨a,b,c,t,ds,rfl,h⟩:=h;replace h:=F8 h;obtain⟨a',b',c',ds,rfl,h⟩:=h;replace h:=K5 h;obtain⟨rfl,h⟩:=h;split at h
 ·rename_i hz;obtain⟨⟨h1,h2,h3⟩,h4,h5,h6⟩:=hz;rw[<-h];simp[j2,TJ,TR,UK,f7 (k5.of h1 h4),f7 (k5.of h2 h5),f7 (k5.of h3 h6)]
 ·cases h
def aO (ba:mg "range"=none)(cp:mg "tuple"=none)(g:bT K mg "_law_point" aJ):u3 P w K mg base 1 "_law_point" 2 Z7:=by
 refine' l7 (k:=0) (F:=_) g qD (λhr hu cu nd=>?b) λds d hl h=>?_
 case b=>
  refine' (c5 (w6 (l5 (Z9 hu) (b8 1) u0) (c5 (j1 2 (b9 o7 (PD.pb<|b9 j7 u0<|PD.pb<|b9 fX u0 u0) u0) nd)
   (d4<|f9<|DJ (b9 t7 (PD.pb<|b9 v8 (b8 0)<|b8 2)<|PD.pb<|b9 fX u0 u0) (b9 t7 (PD.pb<|b9 v8 (PD.pb<|b9 p8 (b8 0)<|b8 2)<|b8 2)<|PD.pb<|b9 fX u0 u0)<|b9 t7 (PD.pb<|b9 v8 (PD.pb<|b9 p8 (b8 0)<|PD.pb<|b9 j7 (b8 2)<|b8 2)<|b8 2)<|PD.pb<|b9 fX u0 u0)) n6)
   (c5 (w6 (l5 (Z9 hu) (b8 1) u0) (c5 (j1 3 (b9 v8 (PD.pb<|b9 o7 (PD.pb<|b9 j7 (b8 0) u0) u0) u0) nd)
   (c5 (dF 4 (kH o5) nd)
   (c5 (F3 aBb rfl (J8<|l8 u0 v6) (m8 5 nd) (c5 (j1 3 (b9 v8 (PD.pb<|b9 o7 (PD.pb<|b9 o7 (PD.pb<|b9 j7 (b8 3)<|b8 3)<|PD.pb<|b9 j7 u0<|b8 5) u0) u0) nd)
   (d4<|V0 4<|b9 t7 (PD.pb<|b9 v8 (b8 3) u0)<|PD.pb<|b9 fX u0 u0)))
   (d4<|f9<|M8 gK<|l8 (b8 4) v6)))) n6)
   (c5 (j1 2 (d7 (PD.pb<|bZ<|f8 c8<|f8 c8<|f8 c8 o5)<|c7 1) nd)
   (d4<|f9<|DJ (b9 t7 (PD.pb<|b9 v8 (b8 0)<|b8 2)<|PD.pb<|b9 p8 (b8 2) u0) (b9 t7 (PD.pb<|b9 v8 (PD.pb<|b9 p8 (b8 0)<|b8 2)<|b8 2)<|PD.pb<|b9 p8 (b8 2) u0)<|b9 t7 (PD.pb<|b9 v8 (PD.pb<|b9 p8 (b8 0)<|PD.pb<|b9 j7 (b8 2)<|b8 2)<|b8 2)<|PD.pb<|b9 p8 (b8 2) u0))))
 match ds,h with
 |[.int t,.int way],h=>
  simp only[Z7]at h;split at h
  ·rename_i hc;rw[<-h];obtain⟨hc,h0,h4⟩:=hc;have p9:GY (.int 10) (.int 9)=.ok (.int 1000000000):=(yF ⟨by decide,by decide,by decide⟩).trans (by rfl);have mw:∀{x w:Int},0<w->N4 (.int x) (.int w)=.ok (.int (x.fmod w)):=λhw=>K6 hw;have wd:∀{w:Int},0<w->bits w<=80->J9 (.int w) (.int w)=.ok (.int (w*w))/\G3 (.int t) (.int w)=.ok (.int (t.fdiv w))/\G3 (.int t) (.int (w*w))=.ok (.int (t.fdiv<|w*w))/\G3 (.int w) (.int 2)=.ok (.int (w.fdiv 2)):=λ{w} w0 wb=>by have ww:0<w*w:=aBh w0 w0;exact⟨f7 (k5.of wb wb),aD ⟨by lia,u6 wb⟩,aD ⟨by lia,u6 (bits_mul wb wb)⟩,T6 (by decide) (by decide)⟩
   rcases(show way=4\/way=3\/way=0\/way=1\/way=2 by lia)with rfl|rfl|rfl|rfl|rfl
   ·have m0:J9 (.int t) (.int 40009)=.ok (.int (t*40009)):=f7 (k5.of hc (show bits 40009<=80 by decide));have r1:∀x:Int,bits (x.fmod 2147483647)<=80:=λx=>bits_fmod (by decide) (by decide);have b0:J9 (.int (TN t)) (.int (TN t))=.ok (.int (TN t*TN t)):=f7 (k5.of (r1 _)<|r1 _);have b1:∀s k:Int,J9 (.int (mR s k)) (.int (mR s k))=.ok (.int (mR s k*mR s k)):=λs k=>f7 (k5.of (r1 _)<|r1 _);have f0:(t*40009+6007).fmod 2147483647=TN t:=rfl;have f1:∀s:Int,(s*s+11).fmod 2147483647=mR s 0:=λs=>by unfold mR;simp
    have f2:∀s:Int,(s*s+5003+11).fmod 2147483647=mR s 1:=λs=>by unfold mR;simp
    have f3:∀s:Int,(s*s+10006+11).fmod 2147483647=mR s 2:=λs=>by unfold mR;simp
    have mp:∀x:Int,N4 (.int x) (.int 2147483647)=.ok (.int (x.fmod 2147483647)):=λx=>mw (by decide);have mq:∀x:Int,N4 (.int x) (.int 2000000011)=.ok (.int (x.fmod 2000000011)):=λx=>mw (by decide);have k0:J9 (.int 5003) (.int 0)=.ok (.int 0):=(f7 (k5.of (show bits 5003<=80 by decide) (show bits 0<=80 by decide))).trans (by rfl);have k1:J9 (.int 5003) (.int 1)=.ok (.int 5003):=(f7 (k5.of (show bits 5003<=80 by decide) (show bits 1<=80 by decide))).trans (by rfl);have k2:J9 (.int 5003) (.int 2)=.ok (.int 10006):=(f7 (k5.of (show bits 5003<=80 by decide) (show bits 2<=80 by decide))).trans (by rfl);simp[j2,p9,m0,mp,mq,f0,f1,f2,f3,b0,b1,k0,k1,k2,I9,lX,OB,UG,ZJ,vd,kB,bR,sizeLine,qF]
   ·have k0:J9 (.int 2) (.int 1000000000)=.ok (.int 2000000000):=(f7 (k5.of (show bits 2<=80 by decide) (show bits 1000000000<=80 by decide))).trans (by rfl);obtain⟨e1,e2,e3,e4⟩:=wd (w:=2000000001) (by decide) (by decide);have mp:∀x:Int,N4 (.int x) (.int 2000000001)=.ok (.int (x.fmod 2000000001)):=λx=>mw (by decide);simp only[aFt]at e1 e3;simp[j2,p9,k0,e1,e2,e3,mp,OB,eZ,dw,vd,bR,sizeLine]
   ·obtain⟨e1,e2,e3,e4⟩:=wd (w:=3) (by decide) (by decide);have mp:∀x:Int,N4 (.int x) (.int 3)=.ok (.int (x.fmod 3)):=λx=>mw (by decide);simp only[aFt]at e1 e3;simp[j2,e1,e2,e3,e4,mp,OB,eZ,dw,vd,bR,sizeLine,D2,mB,yS]
   ·obtain⟨e1,e2,e3,e4⟩:=wd (w:=5) (by decide) (by decide);have mp:∀x:Int,N4 (.int x) (.int 5)=.ok (.int (x.fmod 5)):=λx=>mw (by decide);simp only[aFt]at e1 e3;simp[j2,e1,e2,e3,e4,mp,OB,eZ,dw,vd,bR,sizeLine,D2,mB,yS]
   ·obtain⟨e1,e2,e3,e4⟩:=wd (w:=9) (by decide) (by decide);have mp:∀x:Int,N4 (.int x) (.int 9)=.ok (.int (x.fmod 9)):=λx=>mw (by decide);simp only[aFt]at e1 e3;simp[j2,e1,e2,e3,e4,mp,OB,eZ,dw,vd,bR,sizeLine,D2,mB,yS]
  ·exact absurd h (by simp)
def X9 (B4:u3 P w K mg base 1 "_law_cell" 2 W4)(aO:u3 P w K mg base 1 "_law_point" 2 Z7)(ba:mg "range"=none)(ip:mg "enumerate"=none)(g:bT K mg "_law_points" F9):u3 P w K mg base 2 "_law_points" 2 dM:=by
 refine' l7 (k:=1) (F:=_) g mZ (λhr hu cu nd=>?b) λds d hl h=>?_
 case b=>
  refine' (c5 (j1 2 (b9 o7 u0<|PD.pb<|b9 v8 (PD.pb<|W0 B4 hr (c7 0) c8)<|PD.pb<|b9 t7 (b8 1) u0) nd)
   (c5 (EY 3 ["k"] [] [] nd rfl (D4 (sc:=c6 F9) (N:=X0)) (J8<|l8 (b8 2) v6) (GZ λ_ _ _ _ _=>(b9 o7 (PD.pb<|b9 j7 (PD.pb<|b9 j7 u0<|b8 0)<|b8 0)<|PD.pb<|b9 j7 u0<|b8 0))<|λ_=>o9)
   (c5 (F3 aBb rfl (JS<|nM (b8 0) (K8 c8)<|K8 c8) (gM (n:=2) rfl<|y6 (m8 4 nd)<|y6 (m8 5 nd) cU)<|d4<|GL 3 (b9 o7 (PD.pb<|d7 (b8 3)<|b9 v8 (b8 4)<|b8 2)<|b8 5)<|b9 v8 (b8 4)<|b8 2)
   (d4<|uK 3<|f9<|G7 ["total"] ["script"] [0] rfl (D4 (sc:=c6 F9) (N:=X0)) (t4<|c7 3) (GZ λ_ _ _ _ _=>(W0 aO hr (c7 0)<|b9 v8 (PD.pb<|W0 B4 hr (c7 1) c8) u0))<|λ_=>o9))))
 match ds,h with
 |[.lst xs,.int most],h=>
  simp only[dM]at h;split at h
  ·rename_i hc;rw[<-h];obtain⟨hi,hl,h0,h1⟩:=hc;obtain⟨c0,b0⟩:=CO hi 0 (by decide) (by decide);obtain⟨c1,b1⟩:=CO hi 1 (by decide) (by decide);have mr:=fO xs h0;have md:N4 (.int (cJ xs 0)) (.int (most-3))=.ok (.int ((cJ xs 0).fmod (most-3))):=K6 (by lia);have rg:fT [.int (4+(cJ xs 0).fmod (most-3))]=.ok ((aBt<|w4 xs most).map λ(k:Nat)=>D.int (k:Int)):=by rw[<-mr.2.2];exact qy (by lia)
   have t0:=EN (w4 xs most) (by lia);have cm:t9 (λd ρ=>R.ok (aCF ρ 0<|Sl.v d)) (λx=>R.ok true) (λρ=>(((pM 0 ρ).bind λy=>J9 (D.int 5) y).bind λx=>(pM 0 ρ).bind λy=>J9 x y).bind λx=>((pM 0 ρ).bind λy=>J9 (D.int 3) y).bind λy=>lT x y) [.no] ((aBt<|w4 xs most).map λ(k:Nat)=>D.int (k:Int))=.ok ((xL<|w4 xs most).map D.int):=by
    unfold xL;rw[aBj];refine J3 (λ(k:Nat)=>D.int (k:Int)) _ _ λk hk=>⟨[.v (.int k)],rfl,?_⟩;have ju:k<w4 xs most:=by simpa using hk
    have kb:bits (k:Int)<=80:=J5 (by lia) (by lia);have m1:J9 (.int 5) (.int k)=.ok (.int (5*k)):=f7 (k5.of (show bits 5<=80 by decide) kb);have m2:J9 (.int (5*(k:Int))) (.int k)=.ok (.int (5*k*k)):=f7 (k5.of (bits_mul (show bits 5<=80 by decide) kb) kb);have m3:J9 (.int 3) (.int k)=.ok (.int (3*k)):=f7 (k5.of (show bits 3<=80 by decide) kb);simp[m1,m2,m3]
   have en:MW [.lst ((xs.take 63).drop 2)]=.ok (rR 0<|(xs.take 63).drop 2):=by rw[<-PR];rfl
   have l1:w4 xs most<=sizeLine:=aAs (show w4 xs most<=20 by lia) (by decide);have hlc:((xs.take 63).drop 2).length<=61:=by simp;lia
   have hic:L4 1048576 ((xs.take 63).drop 2):=λx hx=>hi x (aEs<|aDw hx);have TK:=KC hi h0 h1;have q5:=fI (a:=cJ xs 1) (b:=5) (by decide);have m5:N4 (.int (cJ xs 1)) (.int 5)=.ok (.int ((cJ xs 1).fmod 5)):=K6 (by decide);have cf:t9 (λd ρ=>R.ok (aCF ρ 0<|Sl.v d)) (λx=>R.ok true) (λρ=>((V6 0 ρ).bind λd=>(((((V6 1 ρ).bind λd=>R.ok [d,D.int 1]).bind W4).bind λx=>N4 x (D.int 5)).bind λd=>R.ok [d]).bind λds=>R.ok (d::ds)).bind Z7) [.no,.v (.lst xs)] ((xA xs most).map D.int)=.ok ((fR xs most).map vd):=by unfold fR;rw[aBj];refine J3 D.int _ _ λt ht=>⟨[.v (.int t),Sl.v (.lst xs)],rfl,?_⟩;have:=EQ (t:=t) (way:=(cJ xs 1).fmod 5) (j0 (TK.2 t ht) (by decide)) q5.1 (by lia);simp[c1,m5,this]
   have l2:((xA xs most).map D.int).length<=sizeLine:=by rw[aAm,TK.1];exact aAs (show w4 xs most<=20 by lia) (by decide)
   have mpos:0<w4 xs most:=by lia
   simp only[<-mr.2.2]at rg md⊢;simp-implicitDefEqProofs [j2,c0,md,rg,cm,l1,f6,XM,en,<-mr.2.2];refine gI (λds ρ=>∃(k:Nat) (ys:List D) (ts:List Int) (a b:Sl),ds=rR k ys/\ρ=[.v (.lst xs),.v (.int most),.v (.int (w4 xs most:Int)),.o (ts.map D.int),a,b]/\yG (w4 xs most) k ys ts=xA xs most/\ts.length=w4 xs most/\L4 1048576 ys) ?_ ⟨0,(xs.take 63).drop 2,xL (w4 xs most),_,_,rfl,rfl,rfl,t0.1,hic⟩ ?_
   ·rintro d ds ρ ⟨k,ys,ts,a,b,e1,rfl,e3,e4,e5⟩;match ys,e1,e3,e5 with
    |y::ys,e1,e3,e5=>
     obtain⟨i,rfl,hb⟩:=e5 _ (.head _);injection e1 with e1 e2;subst e1 e2;have hk:k%w4 xs most<ts.length:=by rw[e4];exact aDY _ mpos
     have mk:N4 (.int (k:Int)) (.int (w4 xs most:Int))=.ok (.int ((k%w4 xs most:Nat):Int)):=(K6 (by lia)).trans (by rw[aEM _ (by lia)];rfl);have ix:D2 (.lst (ts.map D.int)) (.int ((k%w4 xs most:Nat):Int))=.ok (.int (ts.getD (k%w4 xs most) 0)):=G2 (by rw[N3 (by lia),aBZ,aAG,aAn,aAg hk];rfl)
     have ixn:yS (ts.map D.int).length ((k%w4 xs most:Nat):Int)=some (k%w4 xs most):=by unfold yS;rw[if_pos (by lia),if_pos (by rw[aAm];lia),aBZ]
     refine⟨[.v (.lst xs),.v (.int most),.v (.int (w4 xs most:Int)),.o ((ts.set (k%w4 xs most)<|ts.getD (k%w4 xs most) 0+i).map D.int),.v (.int (k:Int)),.v (.int i)],?_,k+1,ys,_,_,_,rfl,rfl,e3,by simpa using e4,λx hx=>e5 x (.tail _ hx)⟩;clear e3;rw[aAm]at ixn;generalize k%w4 xs most=j at*
     generalize ts.getD j 0=tj at*
     simp[V4,eS,L6,lC,mk,ix,VO,ixn]
   ·rintro ρ ⟨k,ys,ts,a,b,e1,rfl,e3,e4,e5⟩;match ys,e1,e3 with
    |[],_,e3=>
     have e3:ts=xA xs most:=e3;subst e3;have l3:(xA xs most).length<=sizeLine:=by rw[aAm]at l2;exact l2
     simp[RV,O9,l3,cf]
  ·exact absurd h (by simp)
def aV (J2:u3 P w K mg base 1 "_law_way" 2 m6)(L9:u3 P w K mg base 1 "_law_cross" 2 u9)(D7:u3 P w K mg base 1 "_law_product" 2 k8)(g:bT K mg "_law_solid" M1):u3 P w K mg base 2 "_law_solid" 1 cP:=by
 refine' l7 (k:=1) (F:=_) g qI (λhr hu cu nd=>?b) λds d hl h=>?_
 case b=>
  refine' (c5 (gN 1 ["one"] ["points"] [0] nd rfl (D4 (sc:=c6 M1) (N:=bI)) (t4<|c7 0) (GZ λ_ _ _ _ _=>(W0 J2 hr (d7 (b8 1) c8)<|c7 0))<|λ_=>o9)
   (c5 (F3 aBb rfl (t4<|c7 1) (m8 2 nd) (d4 (F3 aBb rfl (t4<|c7 1) (m8 3 nd) (c5 (j1 4 (W0 L9 hr (c7 2)<|c7 3) nd)
   (d4<|w6 (AB.pt<|eF (l5 (kW hu) (b8 4)<|PD.pb<|DJ c8 c8 c8)<|cA<|l5 (kW hu) (PD.pb<|G7 ["w"] ["crossed"] [4] rfl (D4 (sc:=c6 M1) (N:=bI)) (t4<|c7 1) (uq λ_ _ _ _ _=>⟨(l5 (kW hu) (PD.pb<|W0 D7 hr (c7 1)<|c7 0) u0),(c7 0)⟩)<|λ_=>o9)<|PD.pb<|bZ o5) (d4<|f9<|c7 0) n6)))))
   (c5 (EC (d7 (b8 0) c8)<|gM (n:=3) rfl<|y6 (m8 5 nd)<|y6 (m8 6 nd)<|y6 (m8 7 nd) cU)
   (d4<|f9<|b9 o7 (b8 0)<|PD.pb<|bZ<|f8 (DJ (b9 o7 (b8 5) u0) (c7 6)<|c7 7)<|f8 (DJ (c7 5) (b9 o7 (b8 6) u0)<|c7 7)<|f8 (DJ (c7 5) (c7 6)<|b9 o7 (b8 7) u0) o5))))
 match ds,h with
 |[.lst xs],h=>
  simp only[cP]at h;split at h
  ·rename_i pts e1;rw[m9 e1];split at h
   ·rename_i hz;rw[<-h];obtain⟨ae,hs,hl⟩:=hz;match pts,ae with
    |P::ps,_=>
    have yes:=SF (P:=P) (ps:=ps);have no:=XO (P:=P) (ps:=ps);obtain⟨pts,hpts⟩:∃q,P::ps=q:=⟨_,rfl⟩;have i0:D2 (.lst (pts.map vd)) (.int 0)=.ok (vd P):=G2 (by rw[N3 (by decide),<-hpts];rfl);rw[hpts]at yes no hs hl⊢;have c1:t9 (λd ρ=>R.ok (aCF ρ 0<|Sl.v d)) (λx=>R.ok true) (λρ=>(((pM 1 ρ).bind λx=>D2 x (D.int 0)).bind λd=>((V6 0 ρ).bind λd=>R.ok [d]).bind λds=>R.ok (d::ds)).bind m6) [.no,.v (.lst (pts.map vd))] (pts.map vd)=.ok ((pts.map (· -P)).map vd):=by rw[aBj];refine J3 vd _ _ λq hq=>⟨[.v (vd q),Sl.v (.lst (pts.map vd))],rfl,?_⟩;show((D2 (.lst (pts.map vd))<|.int 0).bind _).bind _=_;rw[i0];rfl
    have hw:∀w∈pts.map (· -P),Sz 301 w:=λw hw=>by obtain⟨q,hq,rfl⟩:=aAo.mp hw;exact(hs q hq).sub (hs P (by rw[<-hpts];exact .head _))
    have bh:pts.length<=sizeLine:=aAs hl (by decide);have nh:(pts.map (· -P)).length<=sizeLine:=by rw[aAm];exact bh
    generalize pts.map (· -P)=W at*
    have c2:∀u∈W,∀v∈W,t9 (λd ρ=>R.ok (aCF ρ 0<|Sl.v d)) (λρ=>((((V6 1 ρ).bind λd=>((V6 0 ρ).bind λd=>R.ok [d]).bind λds=>R.ok (d::ds)).bind k8).bind λx=>MK x (D.int 0)).bind yR) (V6 0) [.no,.v (vd<|G.cr u v)] (W.map vd)=.ok ((W.filter λw=>decide (G.c9 (G.cr u v) w≠0)).map vd):=λu hu v hv=>by refine N9 vd _ _ _ λw hW=>⟨[.v (vd w),Sl.v (vd<|G.cr u v)],rfl,?_,λ_=>rfl⟩;show((k8 [vd (G.cr u v),vd w]).bind _).bind _=_;rw[dW ((hw u hu).cr (hw v hv)).mono (hw w hW).mono,R.aa0,LZ];show R.ok _=_;congr 1;rw[aDl];simp
    simp[j2,f6,bh,c1,O9];refine OO (x:=.lst (pts.map vd)) vd (VD W) (λρ=>∃a b c,ρ=[.v (.lst (pts.map vd)),.v (.lst (W.map vd)),a,b,c,.no,.no,.no]) ⟨_,_,_,rfl⟩ ?_ ?_ ?_
    ·rintro u hu ρ ⟨a,b,c,rfl⟩;simp[O9];refine mW vd (VE W u) (λρ=>∃b c,ρ=[.v (.lst (pts.map vd)),.v (.lst (W.map vd)),.v (vd u),b,c,.no,.no,.no]) ?_ W _ ⟨_,_,rfl⟩ ?_
     ·rintro ρ ⟨b,c,rfl⟩;exact⟨_,_,_,rfl⟩
     ·rintro v hv ρ ⟨b,c,rfl⟩;have cc:=Z1 (hw u hu).mono (hw v hv).mono;have c3:=c2 u hu v hv;have c4:((W.filter λw=>decide (G.c9 (G.cr u v) w≠0)).map vd)=((W.filter λw=>decide (G.c9 (G.cr u v) w≠0)).map vd):=rfl;have ex:(!(W.filter λw=>decide (G.c9 (G.cr u v) w≠0)).isEmpty)=true↔∃w∈W,G.c9 (G.cr u v) w≠0:=by rw[Bool.not_eq_true',<-Bool.not_eq_true,List.isEmpty_iff,List.filter_eq_nil_iff];simp
      have nn:=PN (W.filter λw=>decide (G.c9 (G.cr u v) w≠0));unfold VE;rw[<-ex];clear ex c4;generalize(W.filter λw=>decide (G.c9 (G.cr u v) w≠0))=L at*
      generalize G.cr u v=X at*
      have n0:=kw X;by_cases hX:X=0
      ·refine .inr ⟨λz=>z.1 hX,[.v (.lst (pts.map vd)),.v (.lst (W.map vd)),.v (vd u),.v (vd v),.v (vd X),.no,.no,.no],?_,_,_,rfl⟩;simp only[hX,decide_true,aCW]at n0;simp[-kE,cc,hX,n0,yR]
      ·simp only[hX,decide_false,Bool.not_false]at n0;cases hL:L.isEmpty with
       |true=>rw[hL]at nn;refine .inr ⟨λz=>by simp at z,[.v (.lst (pts.map vd)),.v (.lst (W.map vd)),.v (vd u),.v (vd v),.v (vd X),.no,.no,.no],?_,_,_,rfl⟩;simp[-kE,cc,n0,yR,O9,nh,c3,nn,seen]
       |false=>rw[hL]at nn;refine .inl ⟨⟨hX,rfl⟩,?_⟩;simp[-kE,cc,n0,yR,O9,nh,c3,nn,seen]
    ·intro q;rw[yes q]
    ·rintro q ρ ⟨a,b,c,rfl⟩;rw[no q];have al:(pts.map vd).length+3<=sizeLine:=by rw[aAm];exact aAs (Nat.add_le_add_right hl 3) (by decide)
     rw[aAm]at al;have s3:3<=sizeLine:=by decide
     simp[i0,JJ,eS,L6,lC,bR,qF,lT,s3,al]
   ·exact absurd h (by simp)
  ·exact absurd h (by simp)
def X7 (g:bT K mg "_law_slants" O5):u3 P w K mg base 1 "_law_slants" 1 T8:=by
 refine' l7 (k:=0) (F:=_) g nD (λhr hu cu nd=>?b) λds d hl h=>?_
 case b=>
  refine' (c5 (j1 1 (bZ<|f8 (b9 t7 (PD.pb<|b9 v8 (PD.pb<|b9 p8 (b8 0) u0) u0) u0)<|f8 (b9 t7 (PD.pb<|b9 v8 (PD.pb<|b9 p8 (b8 0) u0) u0) u0)<|f8 (b9 t7 (PD.pb<|b9 v8 (PD.pb<|b9 p8 (b8 0) u0) u0) u0) o5) nd)
   (c5 (w6 (l5 (Z9 hu) (PD.pb<|b9 v8 (b8 0) u0) u0) (d4<|gN 1 ["number"] [] [] nd rfl (D4 (sc:=c6 O5) (N:=eN)) (t4<|c7 1) (GZ λ_ _ _ _ _=>(b9 j7 (b8 0) u0))<|λ_=>o9) n6)
   (c5 (j1 2 (b9 t7 (PD.pb<|b9 v8 (PD.pb<|b9 j7 (PD.pb<|b9 p8 (b8 0) u0) u0)<|PD.pb<|b9 o7 (PD.pb<|b9 j7 u0<|PD.pb<|b9 fX u0 u0) u0)<|PD.pb<|b9 fX u0 u0) nd)
   (d4<|f9<|b9 o7 (b8 1)<|PD.pb<|bZ<|f8 (c7 2)<|f8 (b9 t7 u0<|PD.pb<|b9 p8 (b8 2) u0)<|f8 (b9 v8 (PD.pb<|b9 p8 (b8 0) u0) u0)<|f8 (b9 v8 (PD.pb<|b9 p8 (b8 0) u0) u0) o5))))
 match ds,h with
 |[.int t],h=>
  simp only[T8]at h;split at h
  ·rename_i hc;rw[<-h];have p20:GY (.int 10) (.int 20)=.ok (.int 100000000000000000000):=(yF ⟨by decide,by decide,by decide⟩).trans (by rfl);have k20:J9 (.int 2) (.int 100000000000000000000)=.ok (.int 200000000000000000000):=(f7 (k5.of (show bits 2<=80 by decide) (show bits 100000000000000000000<=80 by decide))).trans (by rfl);have mw:∀{x w:Int},0<w->N4 (.int x) (.int w)=.ok (.int (x.fmod w)):=λhw=>K6 hw;have dv:∀{x w:Int},0<w->bits w<=80->G3 (.int x) (.int w)=.ok (.int (x.fdiv w)):=λw0 wb=>aD ⟨by lia,u6 wb⟩;have d3:G3 (.int t) (.int 3)=.ok (.int (t.fdiv 3)):=dv (by decide) (by decide);have d21:G3 (.int t) (.int 21)=.ok (.int (t.fdiv 21)):=dv (by decide) (by decide);have d147:G3 (.int t) (.int 147)=.ok (.int (t.fdiv 147)):=dv (by decide) (by decide);have d9:G3 (.int t) (.int 9)=.ok (.int (t.fdiv 9)):=dv (by decide) (by decide);have dn:G3 (.int t) (.int 1029)=.ok (.int (t.fdiv 1029)):=dv (by decide) (by decide);have df:G3 (.int (wO t)) (.int 7)=.ok (.int ((wO t).fdiv 7)):=dv (by decide) (by decide);have bn:bits (t.fdiv 1029)<=3000000:=bits_fdiv hc;have mb:J9 (.int (t.fdiv 1029)) (.int 271828182845904523536)=.ok (.int (t.fdiv 1029*271828182845904523536)):=f7 (k5.of bn (show bits 271828182845904523536<=80 by decide));have m7:∀x:Int,N4 (.int x) (.int 7)=.ok (.int (x.fmod 7)):=λx=>mw (by decide);have m3:∀x:Int,N4 (.int x) (.int 3)=.ok (.int (x.fmod 3)):=λx=>mw (by decide);have m50:∀x:Int,N4 (.int x) (.int 50)=.ok (.int (x.fmod 50)):=λx=>mw (by decide);have m2:∀x:Int,N4 (.int x) (.int 2)=.ok (.int (x.fmod 2)):=λx=>mw (by decide);have mf:∀x:Int,N4 (.int x) (.int 200000000000000000001)=.ok (.int (x.fmod 200000000000000000001)):=λx=>mw (by decide);have ef:(t.fdiv 1029*271828182845904523536).fmod 200000000000000000001-100000000000000000000=wO t:=rfl;have es:∀k:Int,(t.fdiv k).fmod 7-3=s7 t k:=λk=>rfl;have sm:∀k:Int,J9 (.int (s7 t k)) (.int 7654321)=.ok (.int (s7 t k*7654321)):=λk=>by exact f7 (k5.of (bits_sub (n:=80) (bits_fmod (by decide) (by decide)) (by decide)) (show bits 7654321<=80 by decide))
   by_cases h2:t.fmod 3=2
   ·simp[j2,p20,k20,d3,d21,d147,d9,dn,df,mb,m7,m3,m50,m2,mf,ef,es,sm,h2,SY,NT,sizeLine,qF,lT,f6]
   ·simp[j2,p20,k20,d3,d21,d147,d9,dn,df,mb,m7,m3,m50,m2,mf,ef,es,sm,h2,SY,NT,sizeLine,qF,lT,f6]
  ·exact absurd h (by simp)
def U3 (g:bT K mg "_law_slanted" U4):u3 P w K mg base 1 "_law_slanted" 2 J1:=by
 refine' l7 (k:=0) (F:=_) g lQ (λhr hu cu nd=>?b) λds d hl h=>?_
 case b=>
  refine' (c5 (EC (c7 0)<|gM (n:=3) rfl<|y6 (m8 2 nd)<|y6 (m8 3 nd)<|y6 (m8 4 nd) cU)
   (c5 (j1 2 (b9 o7 (b8 2)<|PD.pb<|b9 j7 (PD.pb<|d7 (b8 1) c8)<|b8 3) nd)
   (c5 (j1 3 (b9 o7 (b8 3)<|PD.pb<|b9 j7 (PD.pb<|d7 (b8 1) c8)<|b8 4) nd)
   (c5 (j1 4 (b9 o7 (b8 4)<|PD.pb<|b9 j7 (PD.pb<|d7 (b8 1) c8)<|b8 2) nd)
   (c5 (w6 (l5 (Z9 hu) (PD.pb<|d7 (b8 1) c8) u0) (d4<|NU 2 3 rfl nd<|f8 (c7 3)<|f8 (c7 2) o5) n6)
   (d4<|f9<|DJ (b9 o7 (b8 2)<|PD.pb<|d7 (b8 1) c8) (b9 o7 (b8 3)<|PD.pb<|d7 (b8 1) c8)<|b9 o7 (b8 4)<|PD.pb<|d7 (b8 1) c8))))))
 match ds,h with
 |[p,.lst xs],h=>
  simp only[J1]at h;split at h
  ·rename_i P l e1 e2;rw[Z0 e1,oB e2];split at h
   ·rename_i hz;rw[<-h];obtain⟨⟨hl7,hb⟩,hP⟩:=hz;match l,hl7,hb with
    |[a,b,c,f,g',e,s],_,hb=>
     obtain⟨x,y,z⟩:=P;obtain⟨hx,hy,hz⟩:=hP;have ha:bits a<=100:=hb a (by simp);have iu:bits b<=100:=hb b (by simp);have hc:bits c<=100:=hb c (by simp);have m1:J9 (.int a) (.int y)=.ok (.int (a*y)):=f7 (k5.of ha hy);have m2:J9 (.int b) (.int z)=.ok (.int (b*z)):=f7 (k5.of iu hz);have m3:J9 (.int c) (.int (x+a*y))=.ok (.int (c*(x+a*y))):=f7 (k5.of hc<|bits_add (u6 (n:=600) hx)<|bits_mul ha hy);have i0:D2 (.lst [.int a,.int b,.int c,.int f,.int g',.int e,.int s]) (.int 0)=.ok (.int a):=G2 rfl;have i1:D2 (.lst [.int a,.int b,.int c,.int f,.int g',.int e,.int s]) (.int 1)=.ok (.int b):=G2 rfl;have i2:D2 (.lst [.int a,.int b,.int c,.int f,.int g',.int e,.int s]) (.int 2)=.ok (.int c):=G2 rfl;have i3:D2 (.lst [.int a,.int b,.int c,.int f,.int g',.int e,.int s]) (.int 3)=.ok (.int f):=G2 rfl;have i4:D2 (.lst [.int a,.int b,.int c,.int f,.int g',.int e,.int s]) (.int 4)=.ok (.int g'):=G2 rfl;have i5:D2 (.lst [.int a,.int b,.int c,.int f,.int g',.int e,.int s]) (.int 5)=.ok (.int e):=G2 rfl;have i6:D2 (.lst [.int a,.int b,.int c,.int f,.int g',.int e,.int s]) (.int 6)=.ok (.int s):=G2 rfl;by_cases hs:s=1
     ·subst hs;simp[j2,vd,NT,m1,m2,m3,i0,i1,i2,i3,i4,i5,i6,vK,G.Sl.put,bR,sizeLine,JJ,eS,L6,lC]
     ·simp[j2,vd,NT,m1,m2,m3,i0,i1,i2,i3,i4,i5,i6,vK,G.Sl.put,bR,sizeLine,JJ,eS,L6,lC,hs]
   ·exact absurd h (by simp)
  ·exact absurd h (by simp)
def cG (aV:u3 P w K mg base 2 "_law_solid" 1 cP)(X9:u3 P w K mg base 2 "_law_points" 2 dM)(B4:u3 P w K mg base 1 "_law_cell" 2 W4)(U3:u3 P w K mg base 1 "_law_slanted" 2 J1)(X7:u3 P w K mg base 1 "_law_slants" 1 T8)(g:bT K mg "_law_land" W9):u3 P w K mg base 3 "_law_land" 2 mO:=by
 refine' l7 (k:=2) (F:=_) g sJ (λhr hu cu nd=>?b) λds d hl h=>?_
 case b=>
  refine' (c5 (j1 2 (wL aV hr<|W0 X9 hr (c7 0)<|c7 1) nd)
   (c5 (j1 3 (b9 p8 (PD.pb<|W0 B4 hr (c7 0) c8) u0) nd)
   (c5 (w6 (l5 (Z9 hu) (PD.pb<|b9 v8 (b8 3) u0) u0) (d4<|f9<|c7 2) n6)
   (d4<|f9<|G7 ["point"] ["cell"] [3] rfl (D4 (sc:=c6 W9) (N:=lO)) (t4<|c7 2) (GZ λ_ _ _ _ _=>(W0 U3 hr (c7 0)<|wL X7 hr<|c7 1))<|λ_=>o9))))
 match ds,h with
 |[.lst xs,.int most],h=>
  simp only[mO]at h;split at h
  ·rename_i hc;rw[<-h];obtain⟨hi,hl,h0,h1⟩:=hc;obtain⟨c1,b1⟩:=CO hi 1 (by decide) (by decide);obtain⟨p1,p2,p3⟩:=KU hi h0 h1;have ne:fR xs most≠[]:=λz=>by rw[z]at p2;simp at p2
   have z0:=AZ hi hl h0 h1;have z1:=FW ne (λp hp=>(p1 p hp).mono) (by lia);have f5:G3 (.int (cJ xs 1)) (.int 5)=.ok (.int ((cJ xs 1).fdiv 5)):=T6 (by decide) (by decide);have m3:N4 (.int ((cJ xs 1).fdiv 5)) (.int 3)=.ok (.int (((cJ xs 1).fdiv 5).fmod 3)):=K6 (by decide);have s1:=BA (c:=(cJ xs 1).fdiv 5) (bits_fdiv<|u6 b1);have so:=MV ((cJ xs 1).fdiv 5);obtain⟨q1,q2⟩:=MQ p1;have ql:(eG<|fR xs most).length<=sizeLine:=aAs (show(eG<|fR xs most).length<=40 by lia) (by decide);unfold lD;generalize(cJ xs 1).fdiv 5=C at*
   generalize eG (fR xs most)=S at*
   by_cases hz:C.fmod 3=0
   ·simp-implicitDefEqProofs [j2,c1,z0,z1,f5,m3,hz]
   ·have cm:t9 (λd ρ=>R.ok (aCF ρ 0<|Sl.v d)) (λx=>R.ok true) (λρ=>((V6 0 ρ).bind λd=>((((V6 1 ρ).bind λd=>R.ok [d]).bind T8).bind λd=>R.ok [d]).bind λds=>R.ok (d::ds)).bind J1) [.no,.v (.int C)] (S.map vd)=.ok ((S.map (vK<|SY C).put).map vd):=by rw[aBj];refine J3 vd _ _ λq hq=>⟨[.v (vd q),Sl.v (.int C)],rfl,?_⟩;have:=wN (P:=q) so ((q1 q hq).mono);simp only[fB,kU,R.aa0,s1,this];rfl
    simp-implicitDefEqProofs [j2,c1,z0,z1,f5,m3,hz,O9,ql,f6,cm]
  ·exact absurd h (by simp)
def V1 (N8:u3 P w K mg base 10 "where_in" 2 dD)(ba:mg "range"=none)(cp:mg "tuple"=none)(fu:mg "list"=none)(g:bT K mg "_law_between" L7):u3 P w K mg base 11 "_law_between" 3 N2:=by
 refine' l7 (k:=10) (F:=_) g mD (λhr hu cu nd=>?b) λds d hl h=>?_
 case b=>
  refine' (c5 (dF 3 (kH o5) nd)
   (c5 (F3 aBb rfl (J8<|l8 u0<|l8 u0<|l8 u0 v6) (m8 4 nd) (c5 (j1 5 (M8 gK<|l8 (PD.pb<|G7 ["j"] ["one", "k", "two"] [1,4,2] rfl (D4 (sc:=c6 L7) (N:=cN)) (J8<|l8 u0 v6) (GZ λ_ _ _ _ _=>(b9 o7 (PD.pb<|d7 (b8 1)<|c7 0)<|PD.pb<|b9 p8 (PD.pb<|b9 j7 (PD.pb<|b9 t7 (PD.pb<|d7 (b8 3)<|c7 0)<|PD.pb<|d7 (b8 1)<|c7 0)<|b8 2) u0))<|λ_=>o9) v6) nd)
   (d4<|V0 3<|W0 N8 hr (M8 uG<|l8 (b8 0) v6)<|c7 5)))
   (d4<|uK 3<|f9<|c7 3)))
 match ds,h with
 |[.lst xs,p,q],h=>
  simp only[N2]at h;split at h
  ·rename_i L A B e1 e2 e3;rw[m9 e1,Z0 e2,Z0 e3];split at h
   ·rename_i hz;rw[<-h];obtain⟨h1,h2,h3,hA,hB⟩:=hz;have wo:=λ(k:Int) (hk:bits k<=10)=>pL h1 h2 h3 (ZD hA hB hk);have w0:=wo 0 (by decide);have w1:=wo 4 (by decide);have w2:=wo 8 (by decide);have w3:=wo 12 (by decide);unfold WR;have dv:∀{x:Int},G3 (.int x) (.int 12)=.ok (.int (x.fdiv 12)):=T6 (by decide) (by decide);have s3:3<=sizeLine:=by decide
    have kv:∀v:G.V,D2 (vd v) (.int 0)=.ok (.int v.x)/\D2 (vd v) (.int 1)=.ok (.int v.y)/\D2 (vd v) (.int 2)=.ok (.int v.z):=λv=>⟨rfl,rfl,rfl⟩;have tl:∀a b d:D,kB [.lst [a,b,d]]=.ok (.tup [a,b,d]):=λa b d=>rfl;have mm:∀{x y:Int} (k:Int),bits k<=10->bits x<=600->bits y<=600->J9 (.int (y-x)) (.int k)=.ok (.int ((y-x)*k)):=λk hk hx hy=>f7 (k5.of (bits_sub hy hx) hk);have rg:fT [.int 0,.int 13,.int 4]=.ok [.int 0,.int 4,.int 8,.int 12]:=rfl;simp only[j2,aAu,aDk,aAV,aCx,aAw,aBo,aDV,aDW,aCy,aCz];refine C0 (ρ:=[.v (.lst (L.map vd)),.v (vd A),.v (vd B),.o [],.no,.no]) (by simp) ?_;refine C0 (ρ:=[.v (.lst (L.map vd)),.v (vd A),.v (vd B),.o [.int (G.i8 (d6 L)<|pK A B 0),.int (G.i8 (d6 L)<|pK A B 4),.int (G.i8 (d6 L)<|pK A B 8),.int (G.i8 (d6 L)<|pK A B 12)],.v (.int 12),.v (vd<|pK A B 12)]) ?_ rfl;simp only[BH,oA,sK,R.aa0,rg];rw[dN (ρ2:=[.v (.lst (L.map vd)),.v (vd A),.v (vd B),.o [.int (G.i8 (d6 L)<|pK A B 0)],.v (.int 0),.v (vd<|pK A B 0)]) ?h0,dN (ρ2:=[.v (.lst (L.map vd)),.v (vd A),.v (vd B),.o [.int (G.i8 (d6 L)<|pK A B 0),.int (G.i8 (d6 L)<|pK A B 4)],.v (.int 4),.v (vd<|pK A B 4)]) ?h1,dN (ρ2:=[.v (.lst (L.map vd)),.v (vd A),.v (vd B),.o [.int (G.i8 (d6 L)<|pK A B 0),.int (G.i8 (d6 L)<|pK A B 4),.int (G.i8 (d6 L)<|pK A B 8)],.v (.int 8),.v (vd<|pK A B 8)]) ?h2,dN (ρ2:=[.v (.lst (L.map vd)),.v (vd A),.v (vd B),.o [.int (G.i8 (d6 L)<|pK A B 0),.int (G.i8 (d6 L)<|pK A B 4),.int (G.i8 (d6 L)<|pK A B 8),.int (G.i8 (d6 L)<|pK A B 12)],.v (.int 12),.v (vd<|pK A B 12)]) ?h3]
    case h0=>have m1:=mm 0 (by decide) hA.1 hB.1;have m2:=mm 0 (by decide) hA.2.1 hB.2.1;have m3:=mm 0 (by decide) hA.2.2 hB.2.2;simp[pK]at w0;simp[f6,kv,tl,s3,dv,m1,m2,m3,w0,lX,pG,pK];decide
    case h1=>have m1:=mm 4 (by decide) hA.1 hB.1;have m2:=mm 4 (by decide) hA.2.1 hB.2.1;have m3:=mm 4 (by decide) hA.2.2 hB.2.2;simp[pK]at w1;simp[f6,kv,tl,s3,dv,m1,m2,m3,w1,lX,pG,pK];decide
    case h2=>have m1:=mm 8 (by decide) hA.1 hB.1;have m2:=mm 8 (by decide) hA.2.1 hB.2.1;have m3:=mm 8 (by decide) hA.2.2 hB.2.2;simp[pK]at w2;simp[f6,kv,tl,s3,dv,m1,m2,m3,w2,lX,pG,pK];decide
    case h3=>have m1:=mm 12 (by decide) hA.1 hB.1;have m2:=mm 12 (by decide) hA.2.1 hB.2.1;have m3:=mm 12 (by decide) hA.2.2 hB.2.2;simp[pK]at w3;simp[f6,kv,tl,s3,dv,m1,m2,m3,w3,lX,pG,pK];decide
    rfl
   ·exact absurd h (by simp)
  ·exact absurd h (by simp)
def W5 (cg:mg "len"=none)(cp:mg "tuple"=none)(ba:mg "range"=none)(g:bT K mg "_law_near" W7):u3 P w K mg base 1 "_law_near" 2 dG:=by
 refine' l7 (k:=0) (F:=_) g uQ (λhr hu cu nd=>?b) λds d hl h=>?_
 case b=>
  refine' (c5 (j1 2 (d7 (b8 0)<|b9 v8 (b8 1)<|PD.pb<|GB X5<|b8 0) nd)
   (c5 (j1 3 (d7 (b8 0)<|b9 v8 (PD.pb<|b9 p8 (b8 1) u0)<|PD.pb<|GB X5<|b8 0) nd)
   (d4<|f9<|M8 gK<|l8 (PD.pb<|G7 ["k"] ["cell", "one", "two"] [1,2,3] rfl (D4 (sc:=c6 W7) (N:=kX)) (J8<|l8 u0 v6) (GZ λ_ _ _ _ _=>(b9 j7 u0<|PD.pb<|b9 t7 (PD.pb<|b9 o7 (PD.pb<|b9 p8 (PD.pb<|b9 o7 (PD.pb<|d7 (b8 2)<|c7 0)<|PD.pb<|d7 (b8 3)<|c7 0) u0)<|PD.pb<|b9 v8 (PD.pb<|b9 p8 (b8 1)<|PD.pb<|b9 j7 u0<|PD.pb<|d7 (PD.pb<|bZ<|f8 c8<|f8 c8<|f8 c8 o5)<|c7 0) u0) u0))<|λ_=>o9) v6)))
 match ds,h with
 |[.lst xs,.int c],h=>
  simp only[dG]at h;split at h
  ·rename_i L e1;rw[m9 e1];split at h
   ·rename_i hz;rw[<-h];obtain⟨hc,ae,hs,hl⟩:=hz;have l0:(0:Int)<L.length:=by
     have:L.length≠0:=λz=>ae (aCn z)
     lia
    have sa:∀k,Sz 550 (DH L k):=λk=>hs _ (gG ae k).1;have i1:=KB ae c;have i2:=KB ae (c.fdiv 11);have mc:∀x:Int,N4 (.int x) (.int (L.length:Int))=.ok (.int (x.fmod L.length)):=λx=>K6 l0;have m4:∀x:Int,N4 (.int x) (.int 4)=.ok (.int (x.fmod 4)):=λx=>K6 (by decide);have dv:∀{x w:Int},0<w->w<1000000000000000->G3 (.int x) (.int w)=.ok (.int (x.fdiv w)):=λw0 w1=>T6 w0 w1;have s3:3<=sizeLine:=by decide
    have kv:∀v:G.V,D2 (vd v) (.int 0)=.ok (.int v.x)/\D2 (vd v) (.int 1)=.ok (.int v.y)/\D2 (vd v) (.int 2)=.ok (.int v.z):=λv=>⟨rfl,rfl,rfl⟩;have kl:∀a b d:D,D2 (.lst [a,b,d]) (.int 0)=.ok a/\D2 (.lst [a,b,d]) (.int 1)=.ok b/\D2 (.lst [a,b,d]) (.int 2)=.ok d:=λa b d=>⟨rfl,rfl,rfl⟩;have tl:∀a b d:D,kB [.lst [a,b,d]]=.ok (.tup [a,b,d]):=λa b d=>rfl;have n1:J9 (.int 121) (.int 1)=.ok (.int 121):=(f7 (k5.of (show bits 121<=80 by decide) (show bits 1<=80 by decide))).trans (by rfl);have n2:J9 (.int 121) (.int 4)=.ok (.int 484):=(f7 (k5.of (show bits 121<=80 by decide) (show bits 4<=80 by decide))).trans (by rfl);have n3:J9 (.int 121) (.int 16)=.ok (.int 1936):=(f7 (k5.of (show bits 121<=80 by decide) (show bits 16<=80 by decide))).trans (by rfl);have m12:∀a b e:Int,bits a<=550->bits b<=550->J9 (.int 12) (.int ((a+b).fdiv 24+e.fmod 4-2))=.ok (.int (12*nq a b e)):=λa b e ha hb=>f7 (k5.of (show bits 12<=80 by decide)<|ED ha hb);have t1:=sa c;have t2:=sa (c.fdiv 11);unfold kQ G.p6;generalize DH L c=A at*
    generalize DH L (c.fdiv 11)=B at*
    have q1:=m12 A.x B.x (c.fdiv 121) t1.1 t2.1;have q2:=m12 A.y B.y (c.fdiv 484) t1.2.1 t2.2.1;have q3:=m12 A.z B.z (c.fdiv 1936) t1.2.2 t2.2.2;clear m12 sa t1 t2;simp only[j2,aAu,aDk,aAV,aCx,aAw,aBo,aDV,aDW,aCy,aCz];refine C0 (by simp[mc,i1];rfl) ?_;refine C0 (by simp[dv,mc,i2];rfl) ?_;simp[f6,kv,kl,tl,s3,dv,m4,n1,n2,n3,q1,q2,q3]
   ·exact absurd h (by simp)
  ·exact absurd h (by simp)
def L3 (qi:mg "min"=none)(ba:mg "range"=none)(cg:mg "len"=none)(g:bT K mg "_law_stretch" L0):u3 P w K mg base 1 "_law_stretch" 1 M4:=by
 refine' l7 (k:=0) (F:=_) g lV (λhr hu cu nd=>?b) λds d hl h=>?_
 case b=>
  refine' (c5 (w6 (AB.pt<|eF (l5 SS (PD.pb<|d7 (b8 0) c8) u0)<|eF (l5 SS (PD.pb<|d7 (b8 0)<|aN c8) u0)<|cA<|l5 oQ (PD.pb<|cE (SN rfl)<|l8 (b8 0) v6) u0) (d4<|f9 nJ) n6)
   (c5 (w6 (l5 oQ (PD.pb<|d7 (b8 0) c8) u0) (d4<|f9 nJ) n6)
   (c5 (j1 1 nJ nd)
   (c5 (F3 aBb rfl (J8<|l8 u0<|l8 (PD.pb<|GB X5<|b8 0) v6) (m8 2 nd) (c5 (j1 1 (ZY (c7 1)<|WW<|sV oQ (PD.pb<|d7 (b8 0)<|c7 2) u0) nd)
   (d4<|w6 (AB.pt<|eF (mG<|c7 1)<|cA<|l5 (Z9 hu) (PD.pb<|d7 (b8 0)<|c7 2) u0) (d4<|f9 nJ) n6)))
   (d4<|f9<|sV (Z9 hu) (PD.pb<|G7 ["k"] ["row"] [0] rfl (D4 (sc:=c6 L0) (N:=cT)) (J8<|l8 u0<|l8 (PD.pb<|GB X5<|b8 0) v6) (uq λ_ _ _ _ _=>⟨(AB.pt<|eF (l5 oQ (PD.pb<|d7 (b8 1)<|b9 t7 (b8 0) u0) u0)<|cA<|l5 xR (PD.pb<|d7 (b8 1)<|c7 0)<|PD.pb<|aN c8),(c7 0)⟩)<|λ_=>o9)<|PD.pb<|bZ o5)))))
 match ds,h with
 |[.lst [.int a,.int b,.int c,.int e]],h=>
  simp only[M4]at h;split at h
  ·rename_i hz;rw[<-h];obtain⟨hr,hs⟩:=hz;have mn:LO [.lst [.int a,.int b,.int c,.int e]]=.ok (.int (vW [a,b,c,e])):=rfl;have il:D2 (.lst [.int a,.int b,.int c,.int e]) (.int (-1))=.ok (.int e):=rfl;have i0:D2 (.lst [.int a,.int b,.int c,.int e]) (.int 0)=.ok (.int a):=rfl;have i1:D2 (.lst [.int a,.int b,.int c,.int e]) (.int 1)=.ok (.int b):=rfl;have i2:D2 (.lst [.int a,.int b,.int c,.int e]) (.int 2)=.ok (.int c):=rfl;have i3:D2 (.lst [.int a,.int b,.int c,.int e]) (.int 3)=.ok (.int e):=rfl;have rg:fT [.int 1,.int 4]=.ok [.int 1,.int 2,.int 3]:=rfl;have mm:0<=a->0<=e->¬vW [a,b,c,e]<0:=λx y=>by
    obtain⟨z1,z2⟩:=hr x y;have:=wG (ns:=[a,b,c,e]) (by simp);simp only[aAd,aAz,or_false]at this
    lia
   generalize vW [a,b,c,e]=m at*
   simp only[j2,aAu,aDk,aAV,aCx,aAw,aBo,aDV,aDW,aCy,aCz];refine C0 (ρ:=[.v (.lst [.int a,.int b,.int c,.int e]),.no,.no]) (by
    by_cases q1:0<=a
    ·by_cases q2:0<=e
     ·have:=mm q1 q2;simp[i0,il,mn,q1,q2,this]
     ·simp[i0,il,q1,q2]
    ·simp[i0,q1]) ?_
   clear mm hr mn il;have e0:QJ (.lst []) (.lst [])=.ok (.bl true):=rfl;have s0:3<=sizeLine:=by decide
   rcases hs with hs|hs
   ·exact wW (by simp[i0,hs])
   have ha:a=1:=by lia
   subst ha;refine C0 (by simp[i0];rfl) ?_;refine C0 (ρ:=[.v (.lst [.int 1,.int b,.int c,.int e]),.v (.bl false),.no]) (by simp) ?_;rcases hs with⟨_,rfl,rfl⟩|⟨_,rfl,h1,rfl⟩|⟨_,h1,rfl,rfl⟩
   ·by_cases q:e<1
    ·have q2:¬e=1:=by lia
     simp[i0,i1,i2,i3,rg,I9,f6,q,q2,e0,s0]
    ·simp[i0,i1,i2,i3,rg,I9,f6,q,e0,s0]
   ·have q2:¬c=1:=by lia
    simp[i0,i1,i2,i3,rg,I9,f6,h1,q2,e0,s0]
   ·have q2:¬b=1:=by lia
    simp[i0,i1,i2,i3,rg,I9,f6,h1,q2,e0,s0]
  ·exact absurd h (by simp)
def X1 (L9:u3 P w K mg base 1 "_law_cross" 2 u9)(J2:u3 P w K mg base 1 "_law_way" 2 m6)(D7:u3 P w K mg base 1 "_law_product" 2 k8)(cp:mg "tuple"=none)(ba:mg "range"=none)(b_sum:mg "sum"=none)(g:bT K mg "_law_middle" P4):u3 P w K mg base 2 "_law_middle" 1 Z3:=by
 refine' l7 (k:=1) (F:=_) g oV (λhr hu cu nd=>?b) λds d hl h=>?_
 case b=>
  refine' (c5 (F3 aBb rfl (t4<|nM (b8 0) (K8 c8) aE) (m8 1 nd) (c5 (j1 2 (W0 L9 hr (W0 J2 hr (d7 (b8 0) c8)<|d7 (b8 0) c8)<|W0 J2 hr (d7 (b8 0) c8)<|d7 (b8 0) c8) nd)
   (d4 (w6 (l5 (kW hu) (PD.pb<|W0 D7 hr (c7 2)<|W0 J2 hr (d7 (b8 0) c8)<|c7 1) u0) (c5 (j1 3 (bZ<|f8 (d7 (b8 0) c8)<|f8 (d7 (b8 0) c8)<|f8 (d7 (b8 0) c8)<|f8 (c7 1) o5) nd)
   (d4<|f9<|M8 gK<|l8 (PD.pb<|G7 ["k"] ["four"] [3] rfl (D4 (sc:=c6 P4) (N:=fA)) (J8<|l8 u0 v6) (GZ λ_ _ _ _ _=>(b9 p8 (PD.pb<|GB (XR rfl)<|PD.pb<|G7 ["corner"] ["k"] [0] rfl QH (t4<|c7 1) (GZ λ_ _ _ _ _=>(d7 (b8 0)<|c7 1))<|λ_=>o9) u0))<|λ_=>o9) v6)) n6))))
   (d4<|f9 uD))
 match ds,h with
 |[.lst xs],h=>
  simp only[Z3]at h;split at h
  ·rename_i A B C r e1;rw[m9 e1];split at h
   ·rename_i E eE;split at h
    ·rename_i hz;rw[<-h];obtain⟨hs,hl⟩:=hz;have sA:=hs A (by simp);have sB:=hs B (by simp);have sC:=hs C (by simp);have cc:=Z1 (sB.sub sA).mono (sC.sub sA).mono;have sc:Sz 1200 (G.cr (B-A)<|C-A):=((sB.sub sA).cr (sC.sub sA)).mono;have pq:∀E∈r,k8 [vd (G.cr (B-A)<|C-A),vd (E-A)]=.ok (.int (G.c9 (G.cr (B-A)<|C-A)<|E-A)):=λE hE=>dW sc.mono ((hs E (by simp[hE])).sub sA).mono;clear hs sA sB sC sc;generalize G.cr (B-A) (C-A)=c at*
     have i0:D2 (.lst (vd A::vd B::vd C::r.map vd)) (.int 0)=.ok (vd A):=G2 (by rw[N3 (by decide)];rfl);have i1:D2 (.lst (vd A::vd B::vd C::r.map vd)) (.int 1)=.ok (vd B):=G2 (by rw[N3 (by decide)];rfl);have i2:D2 (.lst (vd A::vd B::vd C::r.map vd)) (.int 2)=.ok (vd C):=G2 (by rw[N3 (by decide)];rfl);simp only[j2,aAu,aDk,aAV,aCx,aAw,aBo,aDV,aDW,aCy,aCz];refine wW ?_;have sl:=uk (vd A) (vd B) (vd C) (r.map vd);have tI:ik (.int 3)=.ok (some 3):=rfl;simp only[qL,NH,BH,R.aa0,tI,sl,GQ];refine rG vd (λE=>decide (G.c9 c (E-A)≠0)) (λE=>vd (HH A B C E)) (λρ=>∃a b d,ρ=[.v (.lst (vd A::vd B::vd C::r.map vd)),a,b,d]) r _ ⟨_,_,_,rfl⟩ ?_ E eE;rintro E hE ρ ⟨a,b,d,rfl⟩;have p1:=pq E hE;generalize vd A::vd B::vd C::r.map vd=L at*
     constructor
     ·intro q;have q:¬G.c9 c (E-A)=0:=by simpa using q
      have kv:∀v:G.V,D2 (vd v) (.int 0)=.ok (.int v.x)/\D2 (vd v) (.int 1)=.ok (.int v.y)/\D2 (vd v) (.int 2)=.ok (.int v.z):=λv=>⟨rfl,rfl,rfl⟩;have tl:∀a b d:D,kB [.lst [a,b,d]]=.ok (.tup [a,b,d]):=λa b d=>rfl;have s3:3<=sizeLine:=by decide
      have s4:4<=sizeLine:=by decide
      have l4:∀a b c d:D,qF [a,b,c,d]=.ok (.lst [a,b,c,d]):=λ_ _ _ _=>rfl;have dv:∀x:Int,G3 (.int x) (.int 4)=.ok (.int (x.fdiv 4)):=λx=>T6 (by decide) (by decide);simp[i0,i1,i2,cc,p1,q,l4,f6,s3,s4,kv,dv,tl,HH,BL]
     ·intro q;have q:G.c9 c (E-A)=0:=by simpa using q
      refine⟨[.v (.lst L),.v (vd E),.v (vd c),d],?_,_,_,_,rfl⟩;simp[i0,i1,i2,cc,p1,q]
    ·exact absurd h (by simp)
   ·exact absurd h (by simp)
  ·exact absurd h (by simp)
section
seal PySem.eval
def o_law {f:Addr}{fd:FuncData}(jV:u3 P w K mg base 10 "body_of" 1 Y9)(cG:u3 P w K mg base 3 "_law_land" 2 mO)(B4:u3 P w K mg base 1 "_law_cell" 2 W4)(V1:u3 P w K mg base 11 "_law_between" 3 N2)(W5:u3 P w K mg base 1 "_law_near" 2 dG)(L3:u3 P w K mg base 1 "_law_stretch" 1 M4)(N8:u3 P w K mg base 10 "where_in" 2 dD)(X1:u3 P w K mg base 2 "_law_middle" 1 Z3)(qo:mg "max"=none)(cg:mg "len"=none)(fu:mg "list"=none)(F0:Fun K "law" "law" eM f fd):FnOk P w K mg base uI 12 f fd ["script"] (YK K 1 gR):=by
 refine' yz (k:=11) (F:=_) F0 JV (λcdv A outer s H E hr=>?b) λds d hl h=>?_
 case b=>
  have hu:=hr.units;have cu:=hr.ae4;have nd:=JV.nd;refine' (c5 (gN 1 ["x", "y", "z"] [] [] nd rfl (D4 (sc:=c6 eM) (N:=UF)) (t4<|wL jV hr<|W0 cG hr (c7 0) c8) (by rintro pins fp X2 ⟨s0,H1,C,rfl⟩;exact⟨(gM (n:=3) rfl (y6 (m8 0 (show(["x", "y", "z"]:List Str).Nodup by decide+kernel)) (y6 (m8 1 (show(["x", "y", "z"]:List Str).Nodup by decide+kernel)) (y6 (m8 2 (show(["x", "y", "z"]:List Str).Nodup by decide+kernel)) cU)))),EA,(DJ (b9 j7 u0<|b8 0) (b9 j7 u0<|b8 1)<|b9 j7 u0<|b8 2)⟩)<|λ_=>BW)
   (c5 (j1 2 (W0 B4 hr (c7 0)<|cE (OF rfl)<|l8 u0<|l8 (PD.pb<|b9 t7 (PD.pb<|GB X5<|b8 0) u0) v6) nd)
   (c5 (j1 3 (yx V1 hr (c7 1) (W0 W5 hr (c7 1)<|c7 2)<|W0 W5 hr (c7 1)<|b9 o7 (PD.pb<|b9 p8 (b8 2) u0) u0) nd)
   (c5 (w6 (AB.pt<|JY (EF<|mG<|wL L3 hr<|c7 3)<|DZ<|EF<|mG<|wL L3 hr<|WU (b8 3)<|K8<|aN c8) (d4<|f9 nJ) n6)
   (c5 (w6 (l5 (kW hu) (PD.pb<|W0 N8 hr (M8 uG<|l8 (b8 1) v6)<|d7 (b8 1)<|b9 v8 (PD.pb<|b9 p8 (b8 2) u0)<|PD.pb<|GB X5<|b8 1) u0) (d4<|f9 nJ) n6)
   (d4<|f9<|sV (Z9 hu) (PD.pb<|W0 N8 hr (M8 uG<|l8 (b8 1) v6)<|wL X1 hr<|c7 1) u0))))))
 match ds,h with
 |[.lst xs],h=>
  simp only[gR]at h;split at h
  ·rename_i hc;rw[<-h];obtain⟨hl,hi⟩:=hc;have LL:=IV hi hl (most:=7) (by decide) (by decide);obtain⟨a1,a2,a3⟩:=RO hi (most:=7) (by decide) (by decide);generalize lD xs 7=pts at*
   have h1:V7 900 pts:=⟨λp hp=>(a2 p hp).mono,by lia⟩;have h3:(d6 pts).length<=14:=aAs (pH _) (by lia);have BO:=QD h1 a1 h3;obtain⟨b1,b2,b3,b4,b5,b6⟩:=jE h1 a1 h3;have cz:∀p∈v7 pts,Sz 300 p:=λp hp=>a2 p (vT h1 a1 h3 hp);obtain⟨l1,l2,l3,l4⟩:=QN (t:=12) (by decide) (by decide) cz b1 b4;obtain⟨A,B,C,r,E,eL,fE,wE,zE⟩:=VA h1 a1 h3 cz;have CZ:∀X∈(v7 pts).map (G.p6 12),G.i8 (d6<|(v7 pts).map (G.p6 12)) X=0:=λX hX=>by obtain⟨x,hx,rfl⟩:=aAo.mp hX;rw[G.GW (pts:=v7 pts) (by decide) (λY=>by rw[u8,aAo];exact⟨λ⟨x,h,e⟩=>⟨x,h,e.symm⟩,λ⟨x,h,e⟩=>⟨x,h,e.symm⟩⟩) x];exact xG h1 a1 h3 hx
   have cl:(v7 pts).length<=sizeLine:=aAs b4 (by decide);clear h1 h3 a1 a2 a3 b1 b2 b3 b5 b6;generalize v7 pts=cs at*
   obtain⟨L,hL⟩:∃L,cs.map (G.p6 12)=L:=⟨_,rfl⟩;have Ll:L.length<=14:=by rw[<-hL,aAm];exact b4
   rw[hL]at l1 l2 l3 l4 eL wE CZ;have Lne:L≠[]:=by rw[eL];simp
   have MI:=zD fE (by rw[<-eL];exact l4) (by have:=Ll;rw[eL]at this;simp at this;lia);rw[<-eL]at MI;have l0:(0:Int)<L.length:=by
    have:L.length≠0:=λz=>Lne (aCn z)
    lia
   clear eL fE b4;obtain⟨k,ek⟩:∃k:Int,(if 1<(xs.length:Int)then(xs.length:Int)-1 else 0)=k:=⟨_,rfl⟩;obtain⟨ck,bk⟩:=CO hi k (by rw[<-ek];split<;>lia) (by rw[<-ek];split<;>lia);generalize cJ xs k=c at*
   have n1:=vX (c:=c) (u6 bk) Lne l4 (by lia);have n2:=vX (c:=c.fdiv 7+5) (j0 (bits_add (bits_fdiv bk) (show bits 5<=2000000 by decide)) (by decide)) Lne l4 (by lia);have BT:=wZ l1 l2 l3 (yL Lne l4 c).2 (yL Lne l4<|c.fdiv 7+5).2;have WC:=pL l1 l2 l3 (l4 _ (gG Lne<|c.fdiv 3).1).mono;rw[CZ _ (gG Lne<|c.fdiv 3).1]at WC;have WM:=pL l1 l2 l3 zE;rw[wE]at WM;have iC:=KB Lne (c.fdiv 3);generalize DH L (c.fdiv 3)=X at*
   generalize kQ L c=na at*
   generalize kQ L (c.fdiv 7+5)=nb at*
   have R1:=IJ (d6 L) na nb;have R2:=IJ (d6 L) nb na;rw[show pK (G.p6 12 nb) (G.p6 12 na) 0=pK (G.p6 12 na) (G.p6 12 nb) 12 from mL nb na 0,show pK (G.p6 12 nb) (G.p6 12 na) 4=pK (G.p6 12 na) (G.p6 12 nb) 8 from mL nb na 4,show pK (G.p6 12 nb) (G.p6 12 na) 8=pK (G.p6 12 na) (G.p6 12 nb) 4 from mL nb na 8,show pK (G.p6 12 nb) (G.p6 12 na) 12=pK (G.p6 12 na) (G.p6 12 nb) 0 from mL nb na 12]at R2;have BT:N2 [.lst (L.map vd),vd (G.p6 12 na),vd (G.p6 12 nb)]=.ok (.lst [.int (G.i8 (d6 L)<|pK (G.p6 12 na) (G.p6 12 nb) 0),.int (G.i8 (d6 L)<|pK (G.p6 12 na) (G.p6 12 nb) 4),.int (G.i8 (d6 L)<|pK (G.p6 12 na) (G.p6 12 nb) 8),.int (G.i8 (d6 L)<|pK (G.p6 12 na) (G.p6 12 nb) 12)]):=BT;generalize G.i8 (d6 L) (pK (G.p6 12 na) (G.p6 12 nb) 0)=r0 at*
   generalize G.i8 (d6 L) (pK (G.p6 12 na) (G.p6 12 nb) 4)=r1 at*
   generalize G.i8 (d6 L) (pK (G.p6 12 na) (G.p6 12 nb) 8)=r2 at*
   generalize G.i8 (d6 L) (pK (G.p6 12 na) (G.p6 12 nb) 12)=r3 at*
   have S1:M4 [.lst [.int r0,.int r1,.int r2,.int r3]]=.ok (.bl true):=if_pos R1;have S2:M4 [.lst [.int r3,.int r2,.int r1,.int r0]]=.ok (.bl true):=if_pos R2;have dv:∀{x w:Int},0<w->w<1000000000000000->G3 (.int x) (.int w)=.ok (.int (x.fdiv w)):=λw0 w1=>T6 w0 w1;have mc:∀x:Int,N4 (.int x) (.int (L.length:Int))=.ok (.int (x.fmod L.length)):=λx=>K6 l0;clear R1 R2 CZ wE zE l1 l2 l3 l4;simp only[j2,aAu,aDk,aAV,aCx,aAw,aBo,aDV,aDW,aCy,aCz];refine C0 (ρ:=[.v (.lst xs),.v (.lst (L.map vd)),.no,.no]) ?_ ?_
   ·simp-implicitDefEqProofs [LL,BO,cl,f6];rw[IH vd vd (G.p6 12) cs ?h,hL]
    case h=>
     intro q hq;have z:=cz q hq;have m12:∀{x:Int},bits x<=300->J9 (.int 12) (.int x)=.ok (.int (12*x)):=λh=>f7 (k5.of (show bits 12<=80 by decide) h);have s3:3<=sizeLine:=by decide
     exact⟨[.v (.int q.x),.v (.int q.y),.v (.int q.z)],rfl,by simp[m12 z.1,m12 z.2.1,m12 z.2.2,bR,s3,G.p6]⟩
    rfl
   refine C0 (ρ:=[.v (.lst xs),.v (.lst (L.map vd)),.v (.int c),.no]) ?_ ?_
   ·simp-implicitDefEqProofs;rw[ek,ck];rfl
   refine C0 (by simp[n1,n2,dv,BT];rfl) ?_;refine C0 (by simp[S1,S2,bj,PC,ik];rfl) ?_;refine C0 (by simp[pG,dv,mc,iC,WC];rfl) ?_;simp[pG,MI,WM]
  ·exact absurd h (by simp)
end
end
end K25
section
namespace K25
open PySem L2 DL M
def truth (ns:List Int)(h1:ns.length<=63)(h2:∀x∈ns,aAR x<=1048576):gR [.lst (ns.map D.int)]=.ok (.bl true):=by unfold gR;exact if_pos ⟨by simpa using h1,OP h2⟩
end K25
namespace K25
open PySem L2 DL M
variable [Tabs]
def all_mk {l:PySem.W.OpenLaw}{w:World}{K:PySem.W.Frag}{h:Heap}{mg:bX}{fa f35 Pt:Addr}(X:K.In h)(G:h.Ns mainGlobals mg)(hfa:mg "law"=some (.ref fa))
  (g0:Got K "way_between" X4)
  (g1:Got K "cross_of" gD)
  (g2:Got K "product_of" aH)
  (g3:Got K "common_divisor" N0)
  (g4:Got K "plane_through" Q8)
  (g5:Got K "side_of" jR)
  (g6:Got K "first_real_way" N1)
  (g7:Got K "dimension_of" A5)
  (g8:Got K "refuse_flat" Y5)
  (g9:Got K "points_on" W6)
  (g10:Got K "plane_about" X6)
  (g11:Got K "first_pair" aM)
  (g12:Got K "turn_of" iY)
  (g13:Got K "left_chain" aU)
  (g14:Got K "ring_of" jA)
  (g15:Got K "pairs_round" Y3)
  (g16:Got K "faces_from" aK)
  (g17:OS K "faces_of" J0 Pt)
  (g18:Got K "corners_in" aG)
  (g19:Got K "body_of" jP)
  (g20:Got K "where_in" aZ)
  (g21:Got K "_law_cell" cD)
  (g22:Got K "_law_way" fY)
  (g23:Got K "_law_cross" bH)
  (g24:Got K "_law_product" V3)
  (g25:Got K "_law_point" aJ)
  (g26:Got K "_law_points" F9)
  (g27:Got K "_law_solid" M1)
  (g28:Got K "_law_slants" O5)
  (g29:Got K "_law_slanted" U4)
  (g30:Got K "_law_land" W9)
  (g31:Got K "_law_between" L7)
  (g32:Got K "_law_near" W7)
  (g33:Got K "_law_stretch" L0)
  (g34:Got K "_law_middle" P4)
  {od35 an35:Option Addr} {sl35:Array (Option Value)} {oc35 kV35 dc35 pm35 cd35 ct35:Value}
  (a35:PySem.W.nsIn K mainGlobals "law"=some (some (.ref f35))) (l35:K.lookup f35=some ⟨oc35,od35,.func (PySem.W.fnOf "law" "law" (C8 eM) (t5 eM) (c6 eM) .none kV35 dc35 pm35 an35 cd35 ct35),sl35⟩) (e35:PySem.W.codeIn K cd35 "law"=true) (k35:PySem.W.keepIn K (.ref f35)=true)
  (z_abs:PySem.W.nsIn K mainGlobals "abs"=some none)
  (z_len:PySem.W.nsIn K mainGlobals "len"=some none)
  (z_any:PySem.W.nsIn K mainGlobals "any"=some none)
  (z_min:PySem.W.nsIn K mainGlobals "min"=some none)
  (z_list:PySem.W.nsIn K mainGlobals "list"=some none)
  (z_reversed:PySem.W.nsIn K mainGlobals "reversed"=some none)
  (z_zip:PySem.W.nsIn K mainGlobals "zip"=some none)
  (z_sorted:PySem.W.nsIn K mainGlobals "sorted"=some none)
  (z_set:PySem.W.nsIn K mainGlobals "set"=some none)
  (z_max:PySem.W.nsIn K mainGlobals "max"=some none)
  (z_range:PySem.W.nsIn K mainGlobals "range"=some none)
  (z_tuple:PySem.W.nsIn K mainGlobals "tuple"=some none)
  (z_enumerate:PySem.W.nsIn K mainGlobals "enumerate"=some none)
  (z_sum:PySem.W.nsIn K mainGlobals "sum"=some none)
  {kn:Addr} {dd_NO_WAY:Option Addr} {tk0_NO_WAY tk1_NO_WAY tk2_NO_WAY:Tok} {nn_NO_WAY:Nat} {ss_NO_WAY:Array (Option Value)}
  (ca_NO_WAY:PySem.W.nsIn K mainGlobals "NO_WAY"=some (some (.ref kn))) (cl_NO_WAY:K.lookup kn=some ⟨.type "tuple",dd_NO_WAY,.seq #[.int 0 tk0_NO_WAY,.int 0 tk1_NO_WAY,.int 0 tk2_NO_WAY] nn_NO_WAY,ss_NO_WAY⟩)
  (nt:(Pt,tbK)∈Tabs.tbs)
  (truth:∀ns:List Int,ns.length<=63->(∀x∈ns,aAR x<=1048576)->gR [.lst (ns.map D.int)]=.ok (.bl true)):
  ∃fd:FuncData,(∀(s:Shared) (v:Value),BindsTo s fd ⟨[v],[]⟩ [("script",v)])/\∀base:Heap,K.In base->base.Ns mainGlobals mg->iP mg base->FnOk l.prog w K mg base uI 12 fa fd ["script"] (uW K):=by
 have e:=hfa.symm.trans (PySem.W.mg_of X G a35);cases e;have b_abs:=PySem.W.mg_none_of X G z_abs;have cg:=PySem.W.mg_none_of X G z_len;have b_any:=PySem.W.mg_none_of X G z_any;have qi:=PySem.W.mg_none_of X G z_min;have fu:=PySem.W.mg_none_of X G z_list;have jl:=PySem.W.mg_none_of X G z_reversed;have b_zip:=PySem.W.mg_none_of X G z_zip;have cv:=PySem.W.mg_none_of X G z_sorted;have qm:=PySem.W.mg_none_of X G z_set;have qo:=PySem.W.mg_none_of X G z_max;have ba:=PySem.W.mg_none_of X G z_range;have cp:=PySem.W.mg_none_of X G z_tuple;have ip:=PySem.W.mg_none_of X G z_enumerate;have b_sum:=PySem.W.mg_none_of X G z_sum;have br:JZ K mg "NO_WAY" [0,0,0]:=VB (PySem.W.mg_of X G ca_NO_WAY) cl_NO_WAY;refine⟨PySem.W.fnOf "law" "law" (C8 eM) (t5 eM) (c6 eM) .none kV35 dc35 pm35 an35 cd35 ct35,λs v=>.of_eq rfl,λbase _ _ hB=>?_⟩;have bo:u3 l.prog w K mg base 1 "way_between" 2 m6:=n9 (g0.def X G);have dg:u3 l.prog w K mg base 1 "cross_of" 2 u9:=B6 (g1.def X G);have bp:u3 l.prog w K mg base 1 "product_of" 2 k8:=x6 (g2.def X G);have r_common_divisor:u3 l.prog w K mg base 1 "common_divisor" 1 A7:=N7 b_abs (g3.def X G);have r_plane_through:=R0 dg bo r_common_divisor bp (g4.def X G);have ko:u3 l.prog w K mg base 1 "side_of" 2 F7:=Y8 (g5.def X G);have r_first_real_way:u3 l.prog w K mg base 1 "first_real_way" 1 y8:=F4 br (g6.def X G);have gc:=D6 bo r_first_real_way dg bp cg b_any (g7.def X G);have r_refuse_flat:=X3 gc (g8.def X G);have ir:=D9 ko (g9.def X G);have gm:=G4 bo bp dg r_plane_through br (g10.def X G);have r_first_pair:=aW ir gm gc qi (g11.def X G);have r_turn_of:=jI bp dg bo (g12.def X G);have r_left_chain:=R8 r_turn_of cg (g13.def X G);have r_ring_of:=iW r_left_chain fu jl (g14.def X G);have r_pairs_round:u3 l.prog w K mg base 1 "pairs_round" 1 x8:=Y1 fu b_zip (g15.def X G);have r_faces_from:=aQ gm r_ring_of r_pairs_round cg cv (g16.def X G);have jm:=V2 ir r_refuse_flat r_first_pair r_faces_from cv qm hB nt (g17.def X G);have r_corners_in:u3 l.prog w K mg base 8 "corners_in" 1 F5:=aR cv qm (g18.def X G);have r_body_of:=jV r_corners_in jm (g19.def X G);have jn:=N8 jm ko qo (g20.def X G);have gg:u3 l.prog w K mg base 1 "_law_cell" 2 W4:=B4 cg (g21.def X G);have jo:u3 l.prog w K mg base 1 "_law_way" 2 m6:=J2 (g22.def X G);have ie:u3 l.prog w K mg base 1 "_law_cross" 2 u9:=L9 (g23.def X G);have gh:u3 l.prog w K mg base 1 "_law_product" 2 k8:=D7 (g24.def X G);have r__law_point:u3 l.prog w K mg base 1 "_law_point" 2 Z7:=aO ba cp (g25.def X G);have r__law_points:=X9 gg r__law_point ba ip (g26.def X G);have r__law_solid:=aV jo ie gh (g27.def X G);have r__law_slants:u3 l.prog w K mg base 1 "_law_slants" 1 T8:=X7 (g28.def X G);have r__law_slanted:u3 l.prog w K mg base 1 "_law_slanted" 2 J1:=U3 (g29.def X G);have r__law_land:=cG r__law_solid r__law_points gg r__law_slanted r__law_slants (g30.def X G);have r__law_between:=V1 jn ba cp fu (g31.def X G);have r__law_near:u3 l.prog w K mg base 1 "_law_near" 2 dG:=W5 cg cp ba (g32.def X G);have r__law_stretch:u3 l.prog w K mg base 1 "_law_stretch" 1 M4:=L3 qi ba cg (g33.def X G);have r__law_middle:=X1 ie jo gh cp ba b_sum (g34.def X G);exact RK (o_law r_body_of r__law_land gg r__law_between r__law_near r__law_stretch jn r__law_middle qo cg fu<|KQ (st:=eM) l35 e35 k35) truth
end K25
namespace PySem.W.Fast
def tw5032034115818962158:=0
def tw15297760207222184489:=0
def tw1422679317323731857:=0
def tw14967022331676099241:=0
def tw5225694731762763140:=0
def tw6055145808136839792:=0
def tw3167925112554880182:=0
def tw14326243372319366542:=0
def tw7350706220793894695:=0
def tw15192107568992260911:=0
def tw6760005881491967599:=0
def tw10989506027160199619:=0
def tw4727323047708735160:=0
def tw7204800439832166370:=0
def tw11470309460330019022:=0
def tw6250955453850992466:=0
def tw14399120430891279781:=0
def tw15423961855827526719:=0
def tw17764964544176427209:=0
def tw3439044802397025910:=0
def tw1698461161579427628:=0
def tw6185788944247566757:=0
def tw1115480793037726669:=0
def tw15140757198218919653:=0
def tw10931354870917316736:=0
def tw13905058760696876020:=0
def tw973636033466643837:=0
def tw4204859057542238774:=0
def tw4075849533230266383:=0
def tw17486642102827358521:=0
def tw14750933858454459674:=0
def tw3188535214665385216:=0
def tw5935036473643643358:=0
def tw5830947387112988724:=0
def tw12991030032409336004:=0
def tw2286456844888283602:=0
def tw2785705338713830581:=0
def tw953615579346118235:=0
def tw16707063983794945402:=0
def tw16702167885446082550:=0
def tw11189584174555677558:=0
def tw9049896818090457856:=0
def tw13106002503553215251:=0
def tw416224595670179840:=0
def tw8560327512080704764:=0
def tw12170361655771022958:=0
def tw3734033433982553934:=0
def tw16476107566497276644:=0
def tw14085095621361869690:=0
def tw6225750616523234352:=0
def tw14319521557421218465:=0
def tw11295533200613808709:=0
def tw6865287569801621993:=0
def tw17193568288897023507:=0
def tw5494824882624920510:=0
def tw14479458872937621824:=0
def tw16955309852093413661:=0
def tw16375788960570104656:=0
def tw6905221605708727973:=0
def tw6364823130644297204:=0
def tw827170304350120270:=0
def tw10965465726666731757:=0
def tw9764811600484763041:=0
def tw2186079984600543632:=0
def tw10551790364436524479:=0
def tw5561324999012802057:=0
def tw5388736506595922417:=0
def tw11862532631924624258:=0
def tw9274597799501164903:=0
def tw14544625699467274494:=0
def tw7452858357903744762:=0
def tw5011473775930975534:=0
def tw15180290304940854580:=0
def tw11619634843195041395:=0
def tw10357596133001732362:=0
def tw11688505333739370204:=0
def tw11728941132871549588:=0
def tw11905240842583020697:=0
def tw14308852104322051871:=0
def tw1059564759409513925:=0
def tw13113614061514944349:=0
def tw1821421153909422325:=0
def tw5014777464384652013:=0
def tw1910223138273597206:=0
def tw15716866347767323112:=0
def tw11270372766186992767:=0
def tw14149900976339246015:=0
def tw5904273195902022821:=0
def tw6481865980861227289:=0
def tw11154080993831549429:=0
def tw15328134334725349674:=0
def tw4054474513499734586:=0
def tw5782597808210413670:=0
def tw2817610707815915167:=0
def tw13044511554187344447:=0
def tw12432402660777622584:=0
def tw4928354487082351392:=0
def tw300247121243564551:=0
def tw11202499257178640195:=0
def tw12856666205844404157:=0
def tw11833797857841195261:=0
def tw16493330376506971004:=0
def tw16910379318663475232:=0
def tw14401970594433957102:=0
def tw15576262358037324533:=0
def tw11016617189126740533:=0
def tw9137349825290125073:=0
def tw7491427748917042320:=0
def tw18024239875939775252:=0
def tw10945094976488270930:=0
def tw11523840665045328884:=0
def tw18020514946391660428:=0
def tw8294930425628677815:=0
def tw10964300925278740309:=0
def tw3328588875102205986:=0
def tw7860821345578483834:=0
def tw14706036086641032839:=0
def tw6086750829067199186:=0
def tw7668944830517311972:=0
def tw17657090733858316280:=0
def tw1574342804557339069:=0
def tw17257411882444924151:=0
def tw15509020143542447115:=0
def tw3451558081446881911:=0
def tw10000126775303003539:=0
def tw6863553458629224478:=0
def tw11299462618359767766:=0
def tw14893731797281497965:=0
def tw3713261272442194746:=0
def tw8546703735097531691:=0
def tw2308029202123088091:=0
def tw8216538700995835997:=0
def tw8244312507292598631:=0
def tw13376223858184093921:=0
def tw13760881615448750227:=0
def tw6071123821605526458:=0
def tw9260772613334439075:=0
def tw167578360362890201:=0
def tw12698931040156759008:=0
def tw18395306043804763658:=0
def tw3604112217605364391:=0
def tw3742455846107008764:=0
def tw13971412310184240854:=0
def tw5814567954868427806:=0
def tw14173126791575613033:=0
def tw10150785859517934181:=0
def tw9416859952814094505:=0
def tw9369661115463178709:=0
def tw11587268602916166905:=0
def tw15384595937255600300:=0
def tw16691309004620871238:=0
def tw487467910815001498:=0
def tw5691125197253171967:=0
def tw5709430273028966164:=0
def tw7768824610769455546:=0
def tw9574989786769455341:=0
def tw2569946136056304807:=0
def tw9810926550657675584:=0
def tw18058372258804099379:=0
def tw16746497445236921078:=0
def tw11067532717358175744:=0
def tw10442356599691232490:=0
def tw11525276488142766177:=0
def tw13003997479446829390:=0
def tw7091823089267796724:=0
def tw12127071042091165340:=0
def tw13470776907975227993:=0
def tw690628717675028877:=0
def tw2973681446494844381:=0
def tw10964445617588663822:=0
def tw5556017329865416745:=0
def tw12153859164099864202:=0
def tw1431342683483388182:=0
def tw3889359602077913388:=0
def tw5435488709119372477:=0
def tw92098651787409365:=0
def tw17995601273305265252:=0
def tw11118107845265157517:=0
def tw14122900314499939699:=0
def tw5296460920539774578:=0
def tw5835431856765221703:=0
def tw9628365514961391235:=0
def tw11548726190146878824:=0
def tw823420995158291610:=0
def tw9868799182340709730:=0
def tw4901267515735069273:=0
def tw5203667615824302164:=0
def tw8333637244541716411:=0
def tw12425730922395520018:=0
def tw17338821167267043811:=0
def tw4110172127085581109:=0
def tw13271217192395234667:=0
def tw6435049688262961305:=0
def tw11822249524485555488:=0
def tw3967388003966664361:=0
def tw5635431262031206602:=0
def tw11854868275242701772:=0
def tw9215322028302033788:=0
def tw3834550411371344753:=0
def tw8022187588283945951:=0
def tw9623556457219737435:=0
def tw10447565826178994735:=0
def tw9484495563064466698:=0
def tw16589750766364630879:=0
def tw12133753812127149901:=0
def tw12039682316475798597:=0
def tw12156473658923797941:=0
def tw12850807524347316681:=0
def tw13921375500071292916:=0
def tw15597138061735253589:=0
def tw3854253990562155499:=0
def tw4602963373325104564:=0
def tw538393865833673022:=0
def tw6062023784411605486:=0
def tw6514776544410590690:=0
def tw7304257343537266176:=0
def tw829111220342295110:=0
def tw871129031479520451:=0
def tw9979079612336008391:=0
def tw12380376305290281615:=0
def tw12388304881500258969:=0
def tw13560766865020084041:=0
def tw14919143507474490854:=0
def tw15866124422408625029:=0
def tw15963300509252141867:=0
def tw17371357362534238443:=0
def tw5560336048870795974:=0
def tw6066668961953995204:=0
def tw6133957978707196707:=0
def tw6818543413340742332:=0
def tw7300345023803149755:=0
def tw7772949098790867825:=0
def tw799020686575374178:=0
def tw9188820339146954482:=0
def tw10842376813896367977:=0
def tw1098451304576480253:=0
def tw12464054336812377241:=0
def tw12698420150188085911:=0
def tw12830486479214445541:=0
def tw12838201639342684084:=0
def tw13004960828919094810:=0
def tw13422357610769923938:=0
def tw13718886016640735636:=0
def tw13992049279051810106:=0
def tw14442004715043861869:=0
def tw14739810107697316492:=0
def tw1486985568779492509:=0
def tw1609329111516342337:=0
def tw16487134878650394143:=0
def tw16678964902345925996:=0
def tw16751178225719017771:=0
def tw16885202357750557516:=0
def tw17165459289992419519:=0
def tw17360884046678017274:=0
def tw17813663150598300128:=0
def tw18140339641442224528:=0
def tw18312170422730994601:=0
def tw18347198071609595628:=0
def tw2051329487895881361:=0
def tw2104541293188431715:=0
def tw2635247843107506011:=0
def tw2710534592258715324:=0
def tw2772487329177041873:=0
def tw2868046945375622006:=0
def tw3649208310150645863:=0
def tw390626079089130799:=0
def tw3924329327365850805:=0
def tw4188901944761354791:=0
def tw4465433678056017247:=0
def tw4535770323526451151:=0
def tw5016706733504443761:=0
def tw5113075175620551168:=0
def tw5659349857730388226:=0
def tw6956224184562063040:=0
def tw7639516717386968811:=0
def tw8280743665534624132:=0
end PySem.W.Fast
open PySem PySem.W PyProof.Rows
set_option maxRecDepth 100000 in
theorem PySem.Challenge.cw_stakebodies_k25_whole_between_two_holds : PySem.Challenge.rw_stakebodies_k25_whole_between_two.Holds := by
 w_on;o_law;k_head;(case hw=>w_witness2)
 k_fill
 letI tabs9:DL.Tabs:=⟨[(169,K25.tbK)]⟩
 refine DL.SH (l:=PySem.Challenge.rw_stakebodies_k25_whole_between_two) (k:=12) rfl rfl ⟨rfl,by decide,by decide⟩ (λw h Y=>⟨PySem.W.km_in_of Y,PySem.W.km_tabs_of Y⟩) (DL.QQ (c:=173) (by k_mem) (λw=>by kernel_rfl)) (aAJ.mpr ⟨aAz,aCL⟩) (λw=>by kernel_rfl) ?F
 case F=>
  intro w mg fa h KX G hmg;refine' K25.all_mk KX G hmg ?_ ?_ ?_ ?_ ?_ ?_ ?_ ?_ ?_ ?_ ?_ ?_ ?_ ?_ ?_ ?_ ?_ ?_ ?_ ?_ ?_ ?_ ?_ ?_ ?_ ?_ ?_ ?_ ?_ ?_ ?_ ?_ ?_ ?_ ?_ ?a35 ?l35 ?e35 ?k35 ?z_abs ?z_len ?z_any ?z_min ?z_list ?z_reversed ?z_zip ?z_sorted ?z_set ?z_max ?z_range ?z_tuple ?z_enumerate ?z_sum ?ca_NO_WAY ?cl_NO_WAY (aBl.mpr rfl) K25.truth
  all_goals first|(refine' DL.US ?a ?l ?c ?k;(case a=>k_is);(case l=>k_is);(case c=>k_is);(case k=>k_is))|(refine' DL.QI ?a ?l ?c ?k rfl ?n;(case a=>k_is);(case l=>k_is);(case c=>k_is);(case k=>k_is);(case n=>kernel_rfl))|k_is|skip
end
