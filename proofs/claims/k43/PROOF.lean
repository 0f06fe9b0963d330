import PyProof.Rows.All
import Wide.All
import OpenK.AllK
import Wide.FinOn
import Lean
import PyProof.EqAt
import PyProof.EqKinds
import PyProof.TupleCall
import PyProof.NeKinds
import KE.RegKIsAll
import PyProof.ExcClass3
import PySem.SetTable
import PySem.Value
import PyProof.CollectIter
import PyProof.SetKind
import PyProof.Walks
import PyProof.ForAny
import PyProof.FactsAll.set_1
import PyProof.FactsAll.set_2
import PyProof.Rows.SortShellK
import PyProof.ZipIter
import KE.KRevIter
import PyProof.ListNew
import OpenK.KOwn
import PyProof.ConsumeS
import KE.KNestM
import KE.KIsAll
import PyProof.Rows.StrWeight2
import KE.KRevSl
import PyProof.DictWalks
import KE.KDictList
import PySem.Challenge.RW_stakebodies_k43_shadows_round
set_option Elab.async false
set_option linter.all false
set_option backward.eqns.nonrecursive false
set_option maxRecDepth 100000
set_option maxHeartbeats 4000000
open PySem renaming wpAny_bind → aAa, wpAny_pure → aAb, wpAny_holding → aAP, wpAny_Call_Name_kw → aAZ, wpAny_truthy_bool → aBj, wpAny_call_entry → aBp, wpAny_specialOf → aBq, wpAny_newObj_type → aBs, wpAny_seqItems → aBL, codeAny_builtin → aBM, plainId_quiet → aBZ, wpAny_setField_rec → aCa, wpAny_updateSeq → aCc, wpAny_setState_of → aCg, builtinLookup_eq_fast → aCq, wpAny_mono → aCs, wpAny_forIn_list → aCu, wpAny_callSpecial?_slot → aCw, wpAny_field → aCP, wpAny_passesOwn → aCS, wpAny_comprehension_free → aCW, wpAny_nextOf_list_item → aDf, wpAny_callSpecialIfBoundUnlessNone?_slot → aDk, typeLookup_type → aDo, wpAny_rule → aDq, wpAny_pyIter_list → aDr, wpAny_isInstance → aDG, codeAny_mono → aDJ, wpAny_typeOf → aDK, wpAny_standAt → aDL, wpAny_Assign_Name → aDV, wpAny_letGo → aDW, wpAny_execs_cons → aEf, wpAny_attempt → aEp, wpAny_execs_nil → aEr, wpAny_loadPart' → aEs, pushCells_keeps → aEt, wpAny_setEntries_of → aEv, slot_dict_contains → aEP, isSubtype_type → aER, wpAny_tryCatch → aET, wpAny_assign_Name → aEV, wpAny_pyIter_slot → aFf, sizeLine_eq → aFh, noFill_tuple_add → aFo, beq_builtin_none → aFs, wpAny_askSetting → aFt, concat_meets → aFC, wpAny_newTuple → aFT
open PySem.Heap renaming get?_push_of_some → aAc, lt_size → aAg, get?_push_size → aAr, get?_update_other → aAB, get?_update_self → aBm, size_push → aBt, get?_none_of_le → aEk
open List renaming mem_cons → aAd, mem_cons_of_mem → aAe, getElem?_eq_getElem → aAf, length_map → aAh, mem_map → aAm, size_toArray → aAo, map_cons → aAp, getD_eq_getElem?_getD → aAq, length_cons → aAs, mem_of_getElem? → aAv, pairwise_cons → aAw, getElem?_append_right → aAx, length_append → aAy, getElem?_eq_some_iff → aAA, mem_append_right → aAC, cons_append → aAF, mem_append → aAI, nodup_cons → aAJ, getElem?_map → aAK, not_mem_nil → aAM, getElem?_append_left → aAN, reverse_cons → aAQ, length_nil → aAR, mem_singleton → aAU, mem_cons_self → aAY, lookup_cons → aBa, range → aBc, getLast?_cons_cons → aBd, mem_append_left → aBg, length_take → aBi, mem_range → aBl, getElem?_replicate → aBn, map_append → aBr, getElem?_zip_eq_some → aBv, getElem?_set_self → aBy, lookup_cons_self → aBz, getElem_of_mem → aBA, map_map → aBB, nil_append → aBC, replicate_succ → aBD, replicate_zero → aBE, all_eq_true → aBF, pairwise_map → aBG, dropLast_concat → aBH, set_cons_succ → aBI, set_cons_zero → aBJ, getElem_mem → aBO, mem_flatMap → aBP, length_reverse → aBR, zipWith → aBT, mem_filterMap → aBU, append_nil → aBV, zip_cons_cons → aBW, mem_reverse → aCd, nodup_iff_pairwise_ne → aCe, getElem?_eq_none_iff → aCi, pairwise_iff_getElem → aCj, length_replicate → aCm, map_nil → aCn, getElem?_set_ne → aCv, filterMap_cons → aCB, mem_map_of_mem → aCE, take_of_length_le → aCG, getElem?_toArray → aCK, replicate → aCN, drop_eq_getElem_cons → aCQ, mem_filter → aCR, forIn_cons → aCV, nodup_append → aCX, getElem?_cons_zero → aDa, sum_cons → aDc, nodup_nil → aDd, filterMap_map → aDg, map → aDi, set → aDj, mem_iff_getElem? → aDn, length_range → aDs, perm_ext_iff_of_nodup → aDu, mem_of_mem_take → aDw, mem_of_mem_drop → aDx, length_drop → aDE, getElem_map → aDH, take_succ_cons → aDI, of_mem_zip → aDM, getElem?_cons_succ → aDP, pairwise_singleton → aDQ, length_pos_of_mem → aDU, forIn_nil → aDX, dropLast_eq_take → aDY, pairwise_reverse → aEa, any_eq_true → aEi, zipIdx_cons → aEj, length_dropLast → aEm, mem_of_getLast? → aEn, zipIdx_nil → aEy, map_congr_left → aEB, exists_cons_of_ne_nil → aED, head?_reverse → aEK, getLast?_cons → aEL, drop_zero → aEQ, exists_mem_of_ne_nil → aEU, append_assoc → aEZ, length_erase_of_mem → aFd, ext_getElem? → aFe, eraseIdx_cons_succ → aFi, filter_cons_of_neg → aFl, filter_cons_of_pos → aFm, getElem_inj → aFn, drop_length → aFp, getElem_zip → aFq, map_reverse → aFv, length_tail → aFx, range_succ_eq_map → aFz, length_zip → aFE, take_append_drop → aFF, foldl_cons → aFG, dropLast_sublist → aFJ, mem_erase_of_ne → aFO, mem_iff_getElem → aFR, all_cons → aGc
open False renaming elim → aAi
open Nat renaming le_refl → aAj, ne_of_lt → aAk, lt_of_lt_of_le → aAt, le_trans → aAu, zero_le → aAV, lt_irrefl → aBf, lt_succ_of_lt → aBu, lt_of_le_of_lt → aBY, le_of_succ_le → aCA, reduceAdd → aCL, reduceSub → aCM, ne_of_gt → aCZ, lt_or_eq_of_le → aDh, le_of_lt → aDl, lt_succ_self → aDF, le_of_eq → aDZ, zero_add → aEb, le_of_not_lt → aEg, le_add_right → aEh, not_lt_zero → aEx, mod_lt → aFc, le_of_lt_succ → aFg, gcd_dvd_left → aFr, min_eq_right → aFw, min_eq_left → aFI, mul_le_mul → aFU, lt_trans → aGm, succ_pos → aGo
open Option.some renaming inj → aAl, injEq → aGh
open Bool renaming false_eq_true → aAn, false_ne_true → aAH, and_eq_true → aAL, not_true → aCy, eq_iff_iff → aDN, and_eq_true_iff → aFQ, and_false → aFS
open Array renaming getElem?_toList → aAz, getElem?_eq_getElem → aAE, length_toList → aBb, getElem?_eq_some_iff → aCf, forIn_toList → aCt, getElem?_eq_none → aCH, replicate → aEu, perm_iff_toList_perm → aEE, getD → aFb, toList → aFB, getElem_toList → aFP, toList_append → aFY
open Int renaming mul_eq_zero → aAD, mul_le_mul_of_nonneg_left → aAG, le_of_lt → aAS, mul_le_mul_of_nonneg_right → aAT, mul_pos → aAX, mul_neg_of_pos_of_neg → aBw, toNat_natCast → aBS, le_refl → aCC, mul_lt_mul_of_pos_left → aDv, mul_nonneg → aDA, eq_of_mul_eq_mul_left → aDB, mul_zero → aEe, mul_ediv_cancel' → aEo, toNat → aEw, le_of_mul_le_mul_right → aEF, natAbs_eq_zero → aEM, ofNat_dvd_left → aEN, neg_nonneg_of_nonpos → aFa, neg_mul_neg → aFD, gcd → aGk, mul_comm → aGp
open PySem.Builtin.Tuple renaming tupleHashOf → aAO, tupleExact → aCT, tupleItemsOf → aDt
open PySem.Builtin.Int renaming intBits → aAW
open PySem.PassesOwn renaming never → aBe
open PySem.Around renaming under_plainId → aBh, frames_deeper → aFK
open PyProof.Rows renaming callWith_type1 → aBk, wpS_bind → aBo, wpS_pure → aCk, callWith_builtin1 → aCo, slot_tuple_getitem → aCz, envOfC → aCF, wpS_forRange → aEc, listItems_at → aEd, assignInOrder_cons → aEG, pairsOf_size → aEO, KK_mirror_equal → aFH, mirror_perm → aFW, wpS_reverse → aFX
open Or renaming inr → aBx, inl → aCh
open PySem.Obj renaming mapSeq → aBK, putSet → aEq
open PySem.Builtin.SmallTypes renaming nextOf → aBN, ownedTupleIsFree → aBQ, ownedTupleHandOut → aDD
open PySem.NameKind renaming cell → aBX
open PySem.Builtin.List renaming listExtendWith → aCb, listLengthHint → aCD, listItems → aCI, listTooLong → aCU, listSameRef → aCY, listTouch → aFA
open Ne renaming symm → aCl
open ForInStep renaming yield → aCp
open PySem.Value renaming type → aCr, bool → aDp, ref → aDy, builtin → aGd, int → aGr
open PySem.Builtin.Range renaming rangeSize → aCx, small → aFV
open PySem.F renaming plain_min_loop → aCJ, plain_extend_loop → aDb, slot_zip_next → aDT, entry_min_loop → aFu
open PySem.Builtin.Slice renaming slicePlaces → aCO, sliceAdjust → aDz, sliceApplied → aEC
open Option renaming map_eq_some_iff → aDe, isSome_iff_exists → aEX
open PySem.Str renaming ofString → aDm
open PySem.SetTable renaming below → aDC, bits → aDR, fits → aGe, insertAt → aGl, tooFull → aGq
open PySem.SeqAt.EqAt renaming same → aDO, int_int → aEI, of_refs → aEJ, int_tuple → aFL, tuple_int → aFM, int_str → aFZ, str_int → aGa
open Classical renaming propDecidable → aDS, byContradiction → aES
open PySem.Builtin.Builtins renaming bindParams → aEz
open List.cons renaming injEq → aEA
open PySem.Calls renaming spliced_cons → aEH, spliced_nil → aEW, callWith_builtin → aFy
open PySem.Heap.SameBut renaming refl → aEY
open PySem.Moved renaming trans → aFj
open PySem.Builtin.Frozenset renaming slot0 → aFk
open List.Pairwise renaming filter → aFN, nil → aGj
open Prod renaming ext → aGb
open Sum renaming inl → aGf, inr → aGg
open True renaming intro → aGi
open PySem.pickOrder renaming go → aGn
open Array.Perm renaming refl → aGs
abbrev D2:=PySem.Value->PySem.Shared->Prop
abbrev M3:=List (PySem.Addr×PySem.Obj)
abbrev bK:=PySem.Str->Option PySem.Value
abbrev vK:=Bool->PySem.Shared->Prop
noncomputable section
namespace L2
open PySem PySem.Spec PyProof.Rows
abbrev yN:=Sum Int Str
def JJ:yN->Value->Bool
 |.inl k,v=>Value.isInt k v
 |.inr x,v=>Value.isStrOf x v
def tx (w:World):yN->Int
 |.inl k=>hashInt k
 |.inr x=>hashStr w x
theorem y9:∀{k:yN} {v:Value},JJ k v=true->(∃i t,k=aGf i/\v=aGr i t)\/(∃x t,k=aGg x/\v=Value.str x t)
 |.inl i,v,h=>by obtain⟨t,e⟩:=Value.isInt_shape (k:=i) (v:=v) h;exact .inl ⟨i,t,rfl,e⟩
 |.inr x,v,h=>by obtain⟨t,e⟩:=Value.isStrOf_shape (x:=x) (v:=v) h;exact .inr ⟨x,t,rfl,e⟩
def WE (a b:Int):decide ((aGf a:yN)=aGf b)=(a==b):=by
 by_cases e:a=b
 ·subst e;simp
 ·have h:¬(aGf a:yN)=aGf b:=λq=>e (Sum.inl.inj q);rw[decide_eq_false h];exact(beq_eq_false_iff_ne.mpr e).symm
def XT (a b:Str):decide ((aGg a:yN)=aGg b)=decide (a=b):=by
 by_cases e:a=b
 ·subst e;simp
 ·have h:¬(aGg a:yN)=aGg b:=λq=>e (Sum.inr.inj q);rw[decide_eq_false h,decide_eq_false e]
def UT (a:Int)(b:Str):decide ((aGf a:yN)=aGg b)=false:=decide_eq_false (λq=>nomatch q)
def UV (a:Str)(b:Int):decide ((aGg a:yN)=aGf b)=false:=decide_eq_false (λq=>nomatch q)
def sV (prog:Program)(w:World):PySem.KeyKind prog w yN where
 is:=JJ
 hash:=tx w
 inj:=λv a b ha hb=>by
  rcases y9 ha with⟨i,t,rfl,rfl⟩|⟨x,t,rfl,rfl⟩
  ·rcases y9 hb with⟨j,u,rfl,e⟩|⟨y,u,rfl,e⟩
   ·injection e with e1 _;rw[e1]
   ·exact nomatch e
  ·rcases y9 hb with⟨j,u,rfl,e⟩|⟨y,u,rfl,e⟩
   ·exact nomatch e
   ·injection e with e1 _;rw[e1]
 byValue:=λk v h=>by rcases y9 h with⟨i,t,rfl,rfl⟩|⟨x,t,rfl,rfl⟩<;>rfl
 pyHash:=λhv h=>by
  rcases y9 hv with⟨i,t,rfl,rfl⟩|⟨x,t,rfl,rfl⟩
  ·exact wpAny_pyHash_int h
  ·exact wpAny_pyHash_str h
 eqBool:=λhu hv h=>by
  rcases y9 hu with⟨i,t,rfl,rfl⟩|⟨x,t,rfl,rfl⟩
  ·rcases y9 hv with⟨j,u,rfl,rfl⟩|⟨y,u,rfl,rfl⟩
   ·rw[WE]at h;exact wpAny_eqBool_int h
   ·rw[UT]at h;exact aFZ i t y u _ _ _ _ h
  ·rcases y9 hv with⟨j,u,rfl,rfl⟩|⟨y,u,rfl,rfl⟩
   ·rw[UV]at h;exact aGa x t j u _ _ _ _ h
   ·rw[XT]at h;exact wpAny_eqBool_str h
 «strs»:=λk x t v h=>by
  rcases y9 h with⟨i,u,rfl,e⟩|⟨y,u,rfl,e⟩
  ·exact nomatch e
  ·injection e with e1 _;subst e1;cases v<;>rfl
def WX (prog:Program)(w:World)(k:yN)(v:Value):(sV prog w).is k v=JJ k v:=rfl
end L2
namespace L2
open PySem PySem.Spec PyProof.Rows
inductive V where
 |non|bl (b:Bool)|int (i:Int)|str (x:Str)|byt (b:Array UInt8)|flt (b:UInt64)|ref (a:Addr)|ty (n:String)
 deriving DecidableEq
def RelV:V->Value->Prop
 |.non,u=>u=Value.none
 |.bl b,u=>u=aDp b
 |.int i,u=>∃t,u=aGr i t
 |.str x,u=>∃t,u=Value.str x t
 |.byt b,u=>∃t,u=Value.bytes b t
 |.flt b,u=>∃t,u=Value.float b t
 |.ref a,u=>u=aDy a
 |.ty n,u=>u=aCr n
abbrev l8:List V->List Value->Prop:=Paired RelV
def l8.length {xs:List V}{us:List Value}(r:l8 xs us):xs.length=us.length:=Paired.length r
theorem l8.get:∀{xs:List V} {us:List Value} {i:Nat} {x:V},l8 xs us->xs[i]?=some x->∃u,us[i]?=some u/\RelV x u
 |_,_,_,_,.nil,e=>by simp at e
 |_,_,0,_,.cons r _,e=>by simp at e;subst e;exact⟨_,rfl,r⟩
 |_,_,i+1,x,.cons _ t,e=>by obtain⟨u,h1,h2⟩:=l8.get (i:=i) (x:=x) t (by simpa using e);exact⟨u,by simpa using h1,h2⟩
theorem l8.append:∀{xs ys:List V} {us ws:List Value},l8 xs us->l8 ys ws->l8 (xs++ys) (us++ws)
 |_,_,_,_,.nil,s=>s
 |_,_,_,_,.cons r t,s=>.cons r (l8.append t s)
theorem l8.take:∀{xs:List V} {us:List Value} (n:Nat),l8 xs us->l8 (xs.take n) (us.take n)
 |_,_,0,_=>.nil
 |_,_,_+1,.nil=>.nil
 |_,_,n+1,.cons r t=>.cons r (l8.take n t)
theorem l8.drop:∀{xs:List V} {us:List Value} (n:Nat),l8 xs us->l8 (xs.drop n) (us.drop n)
 |_,_,0,r=>r
 |_,_,_+1,.nil=>.nil
 |_,_,n+1,.cons _ t=>l8.drop n t
def YL:Option V->Option Value->Prop
 |some v,some u=>RelV v u
 |none,none=>True
 |_,_=>False
def KV {κ:Type}:List (κ×V)->List (κ×Value)->Prop:=Paired λ(p:κ×V) (q:κ×Value)=>p.1=q.1/\RelV p.2 q.2
def kV:yN->V
 |.inl i=>.int i
 |.inr x=>.str x
inductive HO where
 |lst (xs:List V)
 |tup (xs:List V)
 |dK (kvs:List (yN×V))|dT (kvs:List (List yN×V))
 |set (S:Int->Bool) (n:Nat)
 |ins (C dx:Addr) (fs:List (Str×V))
 |own (x:Addr)
 |xd (fs:List (Str×V))
 |met (f x:Addr)
 |rng (lo hi:Int)
 |frz (o:Obj) (u:HO)
 |tbl (tb:List (Pos×Str))
 |ext (φ:Heap->Prop)
abbrev Hp:=Addr->Option HO
def upd (H:Hp)(a:Addr)(o:HO):Hp:=λb=>if b=a then some o else H b
def i9:upd H a o a=some o:=by unfold upd;rw[if_pos rfl]
def j5 (h:b≠a):upd H a o b=H b:=by unfold upd;rw[if_neg h]
def j9 {H:Hp}{a b:Addr}{o:HO}(h:H a=some o)(h':H b=none):a≠b:=by intro e;subst e;rw[h]at h';cases h'
section
variable(P:Program) (w:World)
def ObjOk (H:Hp)(h:Heap)(a:Addr):HO->Prop
 |.lst xs=>xs.length<=sizeLine/\∃(its:List Value) (n:Nat),l8 xs its/\h.get? a=some {cls:=.type "list",data:=.seq its.toArray n}
 |.tup xs=>xs.length<=sizeLine/\∃its:List Value,l8 xs its/\IsTup h a its.toArray
 |.dK kvs=>kvs.length<=sizeLine/\(a==sysModules)=false/\∃vs,KV kvs vs/\h.DictOf (sV P w) a vs
 |.dT kvs=>kvs.length<=sizeLine/\(a==sysModules)=false/\∃xs:List (List yN×Addr×Value),
  Paired (λ(p:List yN×V) (q:List yN×Addr×Value)=>p.1=q.1/\H q.2.1=some (.tup (p.1.map kV))/\RelV p.2 q.2.2) kvs xs/\
  ∃o es ep,h.get? a=some o/\o.ExactDict/\o.data=.dict es ep/\es.toList=xs.map (entryOfKey<|tupleKind<|sV P w)/\(xs.map (·.1)).Nodup
 |.set S n=>h.SetOf (intKind P w) a S n
 |.ins C dx fs=>H dx=some (.own a)/\fs.length<=1000/\dx≠a/\h.get? a=some (PySem.W.instObj C dx)/\
  ∃mA,h.Ns1 dx mA/\(∀f,YL (fs.lookup f) (mA f))/\PySem.Within mA (fs.map (·.1))
 |.own _=>∃o,h.get? a=some o
 |.xd fs=>∃mA,h.Ns1 a mA/\∀f,YL (fs.lookup f) (mA f)
 |.rng lo hi=>∃t u v,h.get? a=some {cls:=.type "range",data:=.fields #[.int lo t,.int hi u,.int 1 v]}
 |.frz o u=>h.get? a=some o/\ObjOk H h a u
 |.tbl tb=>∃ps:Array Value,h.get? a=some {cls:=.none,data:=.fields ps}/\TriplesOk ps.toList/\∀p∈tb,codeAmong p.1 ps.toList=none\/∃c oc vs t,codeAmong p.1 ps.toList=some (.ref c)/\H c=some (.frz oc (.own c))/\oc.data=.fields vs/\vs[1]?=some (.str p.2 t)
 |.met f x=>h.get? a=some (PySem.W.methodObj (.ref f)<|.ref x)
 |.ext φ=>φ h/\(∃o,h.get? a=some o)/\∀h1 h2:Heap,φ h1->(∀o,h1.get? a=some o->h2.get? a=some o)->φ h2
def TU:HO->Prop
 |.tup _=>True
 |.frz o _=>∃vs,o.data=.fields vs
 |_=>False
def eY (H:Hp)(h:Heap):Prop:=∀a o,H a=some o->ObjOk P w H h a o
end
section
variable{P:Program} {w:World} {H H':Hp} {h h':Heap} {a:Addr} {o:HO}
def ObjOk.lt (x:ObjOk P w H h a o):a<h.objs.size:=by
 cases o with
 |lst xs=>obtain⟨_,_,_,_,e⟩:=x;exact aAg e
 |tup xs=>obtain⟨_,_,_,p⟩:=x;exact p.lt
 |dK kvs=>obtain⟨_,_,_,_,o,_,_,e,_⟩:=x;exact aAg e
 |dT kvs=>obtain⟨_,_,_,_,o,_,_,e,_⟩:=x;exact aAg e
 |set S n=>obtain⟨o,_,_,_,e,_⟩:=x;exact aAg e
 |ins C dx fs=>obtain⟨_,_,_,e,_⟩:=x;exact aAg e
 |own y=>obtain⟨_,e⟩:=x;exact aAg e
 |xd fs=>obtain⟨_,⟨_,_,_,e,_⟩,_⟩:=x;exact aAg e
 |rng lo hi=>obtain⟨_,_,_,e⟩:=x;exact aAg e
 |frz ob u=>obtain⟨e,_⟩:=x;exact aAg e
 |tbl tb=>obtain⟨_,e,_⟩:=x;exact aAg e
 |met f y=>exact aAg (show h.get? a=some _ from x)
 |ext φ=>obtain⟨_,⟨_,e⟩,_⟩:=x;exact aAg e
theorem Paired.af0 {α β:Type}{F G:α->β->Prop}:∀{l₁:List α} {l₂:List β},Paired F l₁ l₂->(∀a b,F a b->G a b)->Paired G l₁ l₂
 |_,_,.nil,_=>.nil
 |_,_,.cons r t,f=>.cons (f _ _ r) (Paired.af0 t f)
def ObjOk.ac0 (x:ObjOk P w H h a o)(k:∀b u,(b=a\/H b=some (.own a))->h.get? b=some u->h'.get? b=some u)
  (ho:∀b,H b=some (.own a)->H' b=some (.own a)) (ht:∀b u,TU u->H b=some u->H' b=some u):ObjOk P w H' h' a o:=by
 induction o with
 |lst xs=>obtain⟨z,its,n,r,e⟩:=x;exact⟨z,its,n,r,k _ _ (.inl rfl) e⟩
 |tup xs=>obtain⟨z,its,r,ob,e,c⟩:=x;exact⟨z,its,r,ob,k _ _ (.inl rfl) e,c⟩
 |dK kvs=>obtain⟨z,y,vs,r,ob,es,ep,e,c⟩:=x;exact⟨z,y,vs,r,ob,es,ep,k _ _ (.inl rfl) e,c⟩
 |dT kvs=>obtain⟨z,y,xs,r,ob,es,ep,e,c⟩:=x;exact⟨z,y,xs,Paired.af0 r λp q z=>⟨z.1,ht _ _ trivial z.2.1,z.2.2⟩,ob,es,ep,k _ _ (.inl rfl) e,c⟩
 |set S n=>obtain⟨ob,es,ep,t,e,c⟩:=x;exact⟨ob,es,ep,t,k _ _ (.inl rfl) e,c⟩
 |ins C dx fs=>obtain⟨d,z,ne,e,mA,⟨od,es,ep,e2,c⟩,r⟩:=x;exact⟨ho _ d,z,ne,k _ _ (.inl rfl) e,mA,⟨od,es,ep,k _ _ (.inr d) e2,c⟩,r⟩
 |own y=>obtain⟨ob,e⟩:=x;exact⟨ob,k _ _ (.inl rfl) e⟩
 |xd fs=>obtain⟨mA,⟨od,es,ep,e,c⟩,r⟩:=x;exact⟨mA,⟨od,es,ep,k _ _ (.inl rfl) e,c⟩,r⟩
 |rng lo hi=>obtain⟨t,u,v,e⟩:=x;exact⟨t,u,v,k _ _ (.inl rfl) e⟩
 |frz ob u ih=>obtain⟨e,q⟩:=x;exact⟨k _ _ (.inl rfl) e,ih q⟩
 |tbl tb=>obtain⟨ps,e,t,f⟩:=x;exact⟨ps,k a _ (.inl rfl) e,t,λp hp=>(f p hp).imp id λ⟨c,oc,vs,t,e1,e2,e3⟩=>⟨c,oc,vs,t,e1,ht _ _ ⟨vs,e3.1⟩ e2,e3⟩⟩
 |met f y=>have e:h.get? a=some (PySem.W.methodObj (.ref f)<|.ref y):=x;show h'.get? a=some (PySem.W.methodObj (.ref f)<|.ref y);exact k a _ (.inl rfl) e
 |ext φ=>obtain⟨p,⟨o,e⟩,st⟩:=x;exact⟨st _ _ p λo q=>k _ _ (.inl rfl) q,⟨o,k _ _ (.inl rfl) e⟩,st⟩
def eY.lt (x:eY P w H h)(e:H a=some o):a<h.objs.size:=(x a o e).lt
def eY.fresh (x:eY P w H h)(e:h.objs.size<=a):H a=none:=by
 cases q:H a with
 |none=>rfl
 |some u=>exact absurd (aAt (x.lt q) e) (aBf _)
def eY.kept (x:eY P w H h)(k:∀b u,h.get? b=some u->h'.get? b=some u):eY P w H h':=λa o e=>(x a o e).ac0 (λb u _ q=>k b u q) (λ_ q=>q) λ_ _ _ q=>q
def eY.laid (x:eY P w H h)(k:∀b u,h.get? b=some u->h'.get? b=some u)(hp:h.objs.size<=a)(new:ObjOk P w (upd H a o) h' a o):eY P w (upd H a o) h':=λb u e=>by
 have hn:=x.fresh hp;by_cases hb:b=a
 ·subst hb;rw[i9]at e;cases e;exact new
 ·rw[j5 hb]at e;exact(x b u e).ac0 (λc v _ q=>k c v q) (λc q=>by rw[j5 (j9 q hn)];exact q) λc xs _ q=>by rw[j5 (j9 q hn)];exact q
end
def Rd (H:Hp)(a:Addr)(u:HO):Prop:=H a=some u\/∃o,H a=some (.frz o u)
def Rd.ok (r:Rd H a u)(x:eY P w H h):ObjOk P w H h a u:=by
 rcases r with r|⟨o,r⟩
 ·exact x a u r
 ·obtain⟨_,q⟩:=x a _ r;exact q
def jq:Option HO->Prop
 |some (.lst _)=>True
 |some (.dK _)=>True
 |some (.dT _)=>True
 |some (.set _ _)=>True
 |some (.ins _ _ _)=>True
 |some (.ext _)=>True
 |_=>False
section
variable{P:Program} {w:World} {H:Hp} {h h':Heap} {x e:Addr} {o':HO}
def eY.write (ok:eY P w H h)(mu:jq (H x))(he:e=x\/H e=some (.own x))(k:∀b u,b≠e->h.get? b=some u->h'.get? b=some u)(heo:∃u,h'.get? e=some u)
  (new:ObjOk P w (upd H x o') h' x o'):eY P w (upd H x o') h':=λb u q=>by
 have nown:∀c y,H c=some (.own y)->c≠x:=λc y r z=>by subst z;rw[r]at mu;exact mu
 have ntup:∀c u,TU u->H c=some u->c≠x:=λc u f r z=>by subst z;rw[r]at mu;cases u<;>first|exact mu|exact f
 by_cases hb:b=x
 ·subst hb;rw[i9]at q;cases q;exact new
 ·rw[j5 hb]at q;by_cases xu:b=e
  ·have q':H b=some (.own x):=by
    rcases he with z|z
    ·exact absurd (xu.trans z) hb
    ·rw[xu];exact z
   rw[q]at q';cases q';obtain⟨v,hv⟩:=heo;exact⟨v,by rw[xu];exact hv⟩
  ·refine(ok b u q).ac0 (λc v hc r=>k c v ?_ r) (λc r=>by rw[j5 (nown c b r)];exact r) λc xs f r=>by rw[j5 (ntup c xs f r)];exact r
   rcases hc with rfl|hc
   ·exact xu
   ·rintro rfl;rcases he with z|z
    ·exact nown c b hc z
    ·rw[hc]at z;cases z;exact hb rfl
end
structure Un (fs ex:List Addr)(H H':Hp)(h h':Heap):Prop where
 keep:∀b o,h.get? b=some o->H b=none->b∉fs->b∉ex->h'.get? b=some o
 slot:∀b o,h.get? b=some o->H b=none->b∈fs->b∉ex->∃sl,h'.get? b=some {o with slots:=sl}
 free:∀b o,h.get? b=some o->H b=none->b∉ex->H' b=none
 there:∀b o,h.get? b=some o->b∉ex->∃o',h'.get? b=some o'
 tups:∀b xs,H b=some (.tup xs)->H' b=some (.tup xs)
 frzs:∀b o u,H b=some (.frz o u)->H' b=some (.frz o u)
 tbls:∀b tb,H b=some (.tbl tb)->H' b=some (.tbl tb)
section
variable{fs xc ex ex':List Addr} {H H1 H2:Hp} {h h1 h2 h':Heap} {a x e:Addr} {o:HO}
def Un.any (u:Un fs ex H H1 h h1)(q:h.get? b=some ob)(n:H b=none)(hx:b∉ex):∃sl,h1.get? b=some {ob with slots:=sl}:=by
 by_cases hb:b∈fs
 ·exact u.slot b ob q n hb hx
 ·exact⟨ob.slots,u.keep b ob q n hb hx⟩
def Un.kept (k:∀b u,h.get? b=some u->h'.get? b=some u):Un fs ex H H h h':=
 ⟨λb ob q _ _ _=>k b ob q,λb ob q _ _ _=>⟨ob.slots,k b ob q⟩,λ_ _ _ n _=>n,λb ob q _=>⟨ob,k b ob q⟩,λ_ _ q=>q,λ_ _ _ q=>q,λ_ _ q=>q⟩
def Un.refl:Un fs ex H H h h:=Un.kept λ_ _ q=>q
def Un.laid (k:∀b u,h.get? b=some u->h'.get? b=some u)(hp:h.objs.size<=a)(hn:H a=none):Un fs ex H (upd H a o) h h' where
 keep:=λb u q _ _ _=>k b u q
 slot:=λb u q _ _ _=>⟨u.slots,k b u q⟩
 free:=λb u q n _=>by rw[j5 (aAk<|aAt (aAg q) hp)];exact n
 there:=λb u q _=>⟨u,k b u q⟩
 tups:=λb xs q=>by rw[j5 (j9 q hn)];exact q
 frzs:=λb u xs q=>by rw[j5 (j9 q hn)];exact q
 tbls:=λb ps q=>by rw[j5 (j9 q hn)];exact q
def Un.write (mu:jq (H x))(he:e=x\/H e=some (.own x))(k:∀b u,b≠e->h.get? b=some u->h'.get? b=some u)(heo:∃u,h'.get? e=some u):Un fs ex H (upd H x o) h h':=by
 have hx:∀b,H b=none->b≠x:=λb n z=>by subst z;rw[n]at mu;exact mu
 have hb:∀b,H b=none->b≠e:=λb n z=>by
  subst z;rcases he with r|r
  ·exact hx b n r
  ·rw[n]at r;cases r
 have hm:∀b u,H b=some u->¬jq (some u)->b≠x:=λb u q nm z=>by subst z;rw[q]at mu;exact nm mu
 refine⟨λb u q n _ _=>k b u (hb b n) q,λb u q n _ _=>⟨u.slots,k b u (hb b n) q⟩,λb u q n _=>by rw[j5 (hx b n)];exact n,λb u q _=>?_,
  λb xs q=>by rw[j5 (hm b _ q λz=>z)];exact q,λb u xs q=>by rw[j5 (hm b _ q λz=>z)];exact q,λb ps q=>by rw[j5 (hm b _ q λz=>z)];exact q⟩
 by_cases xu:b=e
 ·subst xu;exact heo
 ·exact⟨u,k b u xu q⟩
end
def trk (h:Heap)(H:Hp):List Addr:=(aBc h.objs.size).filter λa=>(H a).isSome
def pZ (h:Heap)(H:Hp):Heap:=PySem.W.hideAll h (trk h H)
def GQ (h:Heap)(H:Hp):(pZ h H).objs.size=h.objs.size:=PySem.W.hideAll_size _ _
def JB (e:h.get? b=some o)(n:H b=none):(pZ h H).get? b=some o:=
 PySem.W.hideAll_get _ e λhm=>by have q:(H b).isSome=true:=(aCR.mp hm).2;rw[n]at q;simp at q
def QY (e:(pZ h H).get? b=some o):h.get? b=some o/\H b=none:=by
 have e':h.get? b=some o:=PySem.W.of_hideAll (trk h H) e;refine⟨e',?_⟩;cases q:H b with
 |none=>rfl
 |some x=>have hm:b∈trk h H:=aCR.mpr ⟨aBl.mpr (aAg e'),by simp[q]⟩;have z:(pZ h H).get? b=none:=PySem.W.hideAll_none (trk h H) hm;rw[z]at e;cases e
def PQ (g h:Heap)(L:Addr):List (Addr×Obj):=(aBc h.objs.size).filterMap λa=>if a=L\/(g.get? a).isSome=true then none else(h.get? a).map λo=>(a,o)
def rest (g h:Heap)(L d:Addr):List (Addr×Obj):=(PQ g h L).filter λp=>decide (p.1≠d)
end L2
namespace L2
open PySem PySem.Spec PyProof.Rows
structure Mod (K:PySem.W.Frag)(mg:bK)(base:Heap):Prop where
 kin:K.In base
 glob:base.Ns mainGlobals mg
 blt:∃mb,base.Ns builtinsNs mb/\∀x:Str,x≠ "__name__"->mb x=bootBuiltins x
 nolimit:base.NoLimit
structure Cx where
 prog:Program
 w:World
 K:PySem.W.Frag
 mg:Str->Option Value
 base:Heap
 A:Around
 N:List Str
 s9:Shared
 H9:Hp
 env:Env
 outer:List Env
 stack:List Env
 ex:List Addr
 fn:Str->Bool
 calm:Bool
 pn:List (Addr×Obj)
 xe:Value->Shared->Prop
def vU (l:List Env):List Addr:=l.filterMap (·.frame)
abbrev Cx.fs (X:Cx):List Addr:=vU X.outer
def vJ (sc:Scope)(x:Str):Prop:=sc.names.lookup x=some .local\/sc.names.lookup x=some .cell\/sc.names.lookup x=some .free
def Loc (sc:Scope)(x:Str):Prop:=sc.names.lookup x=some .local\/sc.names.lookup x=some .cell
def Look (env:Env)(h:Heap)(m:bK)(x:Str)(u:Value):Prop:=
 (env.kindOf x=some .local/\m x=some u)\/((env.kindOf x=some .cell\/env.kindOf x=some .free)/\∃c,env.cells.lookup x=some c/\h.IsCell c (some u))
structure Cx.Ok (X:Cx):Prop where
 mod:Mod X.K X.mg X.base
 kind:X.env.scope.kind=.function
 glob:X.env.globals=mainGlobals
 blt:X.env.builtins=builtinsNs
 above:X.s9.heap.objs.size<=X.env.locals
 inj:∀x y c,X.env.cells.lookup x=some c->X.env.cells.lookup y=some c->x=y
 has:∀x,(X.env.kindOf x=some .cell\/X.env.kindOf x=some .free)->∃c,X.env.cells.lookup x=some c
 cab:∀x c,X.fn x=true->X.env.cells.lookup x=some c->X.s9.heap.objs.size<=c
 hd:X.calm=true->X.A.handled=none
 frames:X.A.frames=some X.stack
 stk:X.stack=X.outer\/(X.stack=X.env::X.outer/\X.env.frame=some X.env.locals)
 exf:∀b∈X.ex,b≠X.env.locals/\∀x c,X.env.cells.lookup x=some c->c≠b
 bs:∀b o,X.base.get? b=some o->X.s9.heap.get? b=some o/\X.H9 b=none
 bsz:X.base.objs.size<=X.s9.heap.objs.size
 noex:∀b o,X.base.get? b=some o->b∉X.ex
 exfs:∀b∈X.ex,b∉X.fs
 funs:X.s9.heap.FunFrames X.base X.outer
 frf:∀b∈X.fs,X.H9 b=none
structure Inv (X:Cx)(pins:M3)(σ:List (Option V))(H:Hp)(s:Shared):Prop where
 ok:X.Ok
 os:s.os=X.s9.os
 bare:AllBare s.gens
 base:Un X.fs X.ex X.H9 H X.s9.heap s.heap
 loc:∃m,s.heap.Ns X.env.locals m/\∀(i:Nat) (x:Str) (v:V),X.N[i]?=some x->σ[i]?=some (some v)->vJ X.env.scope x->∃u,RelV v u/\Look X.env s.heap m x u
 cell:∀x c,X.env.cells.lookup x=some c->∃v,s.heap.IsCell c v
 free:H X.env.locals=none
 freeC:∀x c,X.env.cells.lookup x=some c->H c=none
 pin:∀p∈X.pn++pins,s.heap.get? p.1=some p.2/\H p.1=none/\p.1≠X.env.locals/\p.1∉X.fs/\∀v,p.2.data≠.cell v
 hok:eY X.prog X.w H s.heap
 len:σ.length=X.N.length
section
variable{X:Cx} {pins:M3} {σ:List (Option V)} {H H':Hp} {s:Shared} {h':Heap}
def Cx.Ok.nofr (ok:X.Ok)(e:X.base.get? b=some o):b∉X.fs:=λhb=>by have:=(ok.funs.mem hb).1;rw[e]at this;cases this
def Inv.bs (I:Inv X pins σ H s):∀b o,X.base.get? b=some o->s.heap.get? b=some o/\H b=none:=λb o e=>⟨I.base.keep b o (I.ok.bs b o e).1 (I.ok.bs b o e).2 (I.ok.nofr e) (I.ok.noex b o e),I.base.free b o (I.ok.bs b o e).1 (I.ok.bs b o e).2 (I.ok.noex b o e)⟩
def Inv.bk (I:Inv X pins σ H s):∀b o,X.base.get? b=some o->s.heap.get? b=some o:=λb o e=>(I.bs b o e).1
def Inv.mod (I:Inv X pins σ H s):Mod X.K X.mg X.base:=I.ok.mod
def Inv.kIn (I:Inv X pins σ H s):X.K.In s.heap:=I.ok.mod.kin.keeps I.bk
def Inv.lt (I:Inv X pins σ H s):X.env.locals<s.heap.objs.size:=let⟨_,hn,_⟩:=I.loc;hn.lt
def Inv.sz (I:Inv X pins σ H s):X.s9.heap.objs.size<=s.heap.objs.size:=aAu I.ok.above (aDl I.lt)
def Inv.af8 (I:Inv X pins σ H s)(h:s.heap.objs.size<=a):a∉X.fs:=λhb=>by obtain⟨_,o,ho,_⟩:=I.ok.funs.mem hb;exact absurd (aAt (aAg ho)<|aAu I.sz h) (aBf _)
def Inv.cne (I:Inv X pins σ H s):∀x c,X.env.cells.lookup x=some c->c≠X.env.locals:=λx c e z=>by obtain⟨v,o,ho,hd⟩:=I.cell x c e;obtain⟨m,⟨o',es,ep,ur,oi,_⟩,_⟩:=I.loc;rw[z,ur]at ho;cases ho;rw[oi]at hd;cases hd
def Inv.funs (I:Inv X pins σ H s):s.heap.FunFrames X.base X.outer:=by
 have all:∀(l:List Env),(∀b∈vU l,b∈X.fs)->X.s9.heap.FunFrames X.base l->s.heap.FunFrames X.base l:=by
  intro l;induction l with
  |nil=>intro _ _;trivial
  |cons env r ih=>intro hs hl;obtain⟨hk,⟨L,o,hf,hn,ho,hd⟩,hr⟩:=hl;have hL:L∈X.fs:=hs L (by unfold vU;rw[aCB,hf];exact aAY);obtain⟨sl,e⟩:=I.base.slot L o ho (I.ok.frf L hL) hL λz=>I.ok.exfs L z hL;exact⟨hk,⟨L,_,hf,hn,e,hd⟩,ih (λb hb=>hs b (by unfold vU;rw[aCB,hf];exact aAe _ hb)) hr⟩
 exact all X.outer (λ_ hb=>hb) I.ok.funs
def Inv.stack (I:Inv X pins σ H s):s.heap.FunFrames X.base X.stack:=by
 rcases I.ok.stk with e|⟨e,hf⟩
 ·rw[e];exact I.funs
 ·rw[e];obtain⟨m,hn,_⟩:=I.loc;refine .cons (by rw[I.ok.kind];decide) hf hn ?_ I.funs;exact aEk (aAu I.ok.bsz I.ok.above)
def Inv.ab2 (I:Inv X pins σ H s):∀b∈vU X.stack,b∈X.env.locals::X.fs:=λb hb=>by
 rcases I.ok.stk with e|⟨e,hf⟩
 ·rw[e]at hb;exact aAe _ hb
 ·rw[e]at hb;unfold vU at hb;rw[aCB,hf]at hb;exact hb
def Inv.ad5 (I:Inv X pins σ H s):∀b∈vU X.stack,H b=none:=λb hb=>by
 rcases aAd.mp (I.ab2 b hb)with e|hb
 ·rw[e];exact I.free
 ·obtain⟨_,o,ho,_⟩:=I.ok.funs.mem hb;exact I.base.free b o ho (I.ok.frf b hb) λz=>I.ok.exfs b z hb
def Inv.step {g':Array GenState}{t':Nat}{d':Drawn}{ch:List Addr}(I:Inv X pins σ H s)
  (xf:∀b∈ch,(b∈X.ex\/X.s9.heap.objs.size<=b)/\b≠X.env.locals/\(∀x c,X.env.cells.lookup x=some c->c≠b)/\∀p∈X.pn++pins,p.1≠b)
  (keep:∀b o,b≠X.env.locals->b∉X.fs->b∉ch->s.heap.get? b=some o->H b=none->h'.get? b=some o)
  (slot:∀b o,b≠X.env.locals->b∈X.fs->b∉ch->s.heap.get? b=some o->H b=none->∃sl,h'.get? b=some {o with slots:=sl}) (free:∀b o,b∉ch->s.heap.get? b=some o->H b=none->H' b=none)
  (there:∀b o,b∉ch->s.heap.get? b=some o->∃o',h'.get? b=some o')
  (tups:∀b xs,H b=some (.tup xs)->H' b=some (.tup xs)) (frzs:∀b o u,H b=some (.frz o u)->H' b=some (.frz o u)) (tbls:∀b tb,H b=some (.tbl tb)->H' b=some (.tbl tb))
  (ns:∀m,s.heap.Ns X.env.locals m->h'.Ns X.env.locals m) (hok:eY X.prog X.w H' h') (hg:AllBare g'):
  Inv X pins σ H' {s with heap:=h',gens:=g',drawn:=d',toks:=t'}:=by
 have neL:∀b o,X.s9.heap.get? b=some o->b≠X.env.locals:=λb o e=>aAk (aAt (aAg e) I.ok.above);have neC:∀b o,X.s9.heap.get? b=some o->b∉X.ex->b∉ch:=λb o e hx hb=>by
  rcases(xf b hb).1 with z|z
  ·exact hx z
  ·exact absurd (aAt (aAg e) z) (aBf _)
 have cellK:∀x c,X.env.cells.lookup x=some c->∀v,s.heap.IsCell c v->h'.IsCell c v:=λx c e v ⟨o,ho,hd⟩=>by
  have nch:c∉ch:=λz=>(xf c z).2.2.1 x c e rfl;by_cases hc:c∈X.fs
  ·obtain⟨sl,q⟩:=slot c o (I.cne x c e) hc nch ho (I.freeC x c e);exact⟨_,q,hd⟩
  ·exact⟨o,keep c o (I.cne x c e) hc nch ho (I.freeC x c e),hd⟩
 refine⟨I.ok,I.os,hg,⟨λb o e n hb hx=>?_,λb o e n hb hx=>?_,λb o e n hx=>?_,λb o e hx=>?_,λb xs e=>tups b xs (I.base.tups b xs e),λb o xs e=>frzs b o xs (I.base.frzs b o xs e),λb ps e=>?_⟩,?_,λx c e=>?_,?_,λx c e=>?_,λp hp=>?_,hok,I.len⟩
 ·exact keep b o (neL b o e) hb (neC b o e hx) (I.base.keep b o e n hb hx) (I.base.free b o e n hx)
 ·obtain⟨sl,e1⟩:=I.base.slot b o e n hb hx;obtain⟨sl',e2⟩:=slot b _ (neL b o e) hb (neC b o e hx) e1 (I.base.free b o e n hx);exact⟨sl',e2⟩
 ·obtain⟨o',e1⟩:=I.base.there b o e hx;exact free b o' (neC b o e hx) e1 (I.base.free b o e n hx)
 ·obtain⟨o',e1⟩:=I.base.there b o e hx;exact there b o' (neC b o e hx) e1
 ·exact tbls b ps (I.base.tbls b ps e)
 ·obtain⟨m,hn,hl⟩:=I.loc;refine⟨m,ns m hn,λi x v e1 e2 e3=>?_⟩;obtain⟨u,r,l⟩:=hl i x v e1 e2 e3;refine⟨u,r,?_⟩;rcases l with l|⟨k,c,e,z⟩
  ·exact .inl l
  ·exact .inr ⟨k,c,e,cellK x c e _ z⟩
 ·obtain⟨v,z⟩:=I.cell x c e;exact⟨v,cellK x c e v z⟩
 ·obtain⟨m,⟨o,_,_,ho,_⟩,_⟩:=I.loc;exact free _ o (λz=>(xf _ z).2.1 rfl) ho I.free
 ·obtain⟨v,o,ho,hd⟩:=I.cell x c e;exact free c o (λz=>(xf c z).2.2.1 x c e rfl) ho (I.freeC x c e)
 ·obtain⟨e,n,ne,nf,d⟩:=I.pin p hp;have nch:p.1∉ch:=λz=>(xf p.1 z).2.2.2 p hp rfl;exact⟨keep p.1 p.2 ne nf nch e n,free p.1 p.2 nch e n,ne,nf,d⟩
def Inv.un {t':Nat}(I:Inv X pins σ H s)(u:Un X.fs [] H H' s.heap h')(hok:eY X.prog X.w H' h'):Inv X pins σ H' {s with heap:=h',toks:=t'}:=by
 obtain⟨m,⟨o,es,ep,ho,r⟩,_⟩:=id I.loc;obtain⟨sl,hL⟩:=u.any ho I.free (by simp);exact I.step (g':=s.gens) (d':=s.drawn) (ch:=[]) (λ_ z=>nomatch z) (λb o _ hb _ e n=>u.keep b o e n hb (by simp)) (λb o _ hb _ e n=>u.slot b o e n hb (by simp)) (λb o _ e n=>u.free b o e n (by simp)) (λb o _ e=>u.there b o e (by simp)) u.tups u.frzs u.tbls (λm' hm=>by obtain⟨o',es',ep',ur,r'⟩:=hm;rw[ho]at ur;cases ur;exact⟨_,es',ep',hL,r'⟩) hok I.bare
def Inv.call {g':Array GenState}{t':Nat}{d':Drawn}{ch:List Addr}(I:Inv X pins σ H s)(u:Un (vU X.stack) ch H H' s.heap h')(hok:eY X.prog X.w H' h')(hg:AllBare g')
  (xf:∀b∈ch,(b∈X.ex\/X.s9.heap.objs.size<=b)/\b≠X.env.locals/\(∀x c,X.env.cells.lookup x=some c->c≠b)/\∀p∈X.pn++pins,p.1≠b):
  Inv X pins σ H' {s with heap:=h',gens:=g',drawn:=d',toks:=t'}:=by
 obtain⟨m,⟨o,es,ep,ho,r⟩,_⟩:=id I.loc;obtain⟨sl,hL⟩:=u.any ho I.free λz=>(xf _ z).2.1 rfl;exact I.step (ch:=ch) xf (λb o hL hb hc e n=>u.keep b o e n (λz=>(aAd.mp<|I.ab2 b z).elim hL hb) hc) (λb o _ _ hc e n=>u.any e n hc) (λb o hc e n=>u.free b o e n hc) (λb o hc e=>u.there b o e hc) u.tups u.frzs u.tbls (λm' hm=>by obtain⟨o',es',ep',ur,r'⟩:=hm;rw[ho]at ur;cases ur;exact⟨_,es',ep',hL,r'⟩) hok hg
def Inv.turned {t':Nat}{it:Addr}(I:Inv X pins σ H s)(k:∀b o,b≠it->s.heap.get? b=some o->h'.get? b=some o)(hn:H it=none)(hL:it≠X.env.locals)
  (h1:it∈X.ex\/X.s9.heap.objs.size<=it) (h2:∀x c,X.env.cells.lookup x=some c->c≠it) (h3:∀p∈X.pn++pins,p.1≠it):Inv X pins σ H {s with heap:=h',toks:=t'}:=by
 have nit:∀b u,H b=some u->b≠it:=λb u e z=>by rw[z,hn]at e;cases e
 refine I.step (g':=s.gens) (d':=s.drawn) (ch:=[it]) (λb hb=>?_) (λb o _ _ hc e _=>k b o (λz=>hc (by simp[z])) e) (λb o _ _ hc e _=>⟨o.slots,k b o (λz=>hc (by simp[z])) e⟩) (λ_ _ _ _ n=>n)
  (λb o hc e=>⟨o,k b o (λz=>hc (by simp[z])) e⟩) (λ_ _ e=>e) (λ_ _ _ e=>e) (λ_ _ e=>e) (λm hm=>?_) (λb u e=>?_) I.bare
 ·have e:b=it:=by simpa using hb
  subst e;exact⟨h1,hL,h2,h3⟩
 ·obtain⟨o,es,ep,ho,r⟩:=hm;exact⟨o,es,ep,k _ o (aCl hL) ho,r⟩
 ·refine(I.hok b u e).ac0 (λc v hc q=>k c v ?_ q) (λ_ q=>q) λ_ _ _ q=>q;rcases hc with z|z
  ·rw[z];exact nit b u e
  ·exact nit c _ z
def Inv.tok (I:Inv X pins σ H s)(t:Nat):Inv X pins σ H {s with toks:=t}:=I.un (h':=s.heap) (t':=t) Un.refl I.hok
def Inv.kept (I:Inv X pins σ H s)(k:∀b u,s.heap.get? b=some u->h'.get? b=some u):Inv X pins σ H {s with heap:=h',toks:=t'}:=I.un (Un.kept k) (I.hok.kept k)
def Inv.laid (I:Inv X pins σ H s)(k:∀b u,s.heap.get? b=some u->h'.get? b=some u)(hp:s.heap.objs.size<=a)(new:ObjOk X.prog X.w (upd H a o) h' a o):
 Inv X pins σ (upd H a o) {s with heap:=h',toks:=t'}:=I.un (Un.laid k hp<|I.hok.fresh hp) (I.hok.laid k hp new)
def Inv.write (I:Inv X pins σ H s)(mu:jq (H x))(he:e=x\/H e=some (.own x))(k:∀b u,b≠e->s.heap.get? b=some u->h'.get? b=some u)(heo:∃u,h'.get? e=some u)(new:ObjOk X.prog X.w (upd H x o) h' x o):Inv X pins σ (upd H x o) {s with heap:=h',toks:=t'}:=I.un (Un.write mu he k heo) (I.hok.write mu he k heo new)
def Inv.ad3 (I:Inv X pins σ H s)(h:∀p∈pins',s.heap.get? p.1=some p.2/\H p.1=none/\p.1≠X.env.locals/\p.1∉X.fs/\∀v,p.2.data≠.cell v):Inv X pins' σ H s:=
 ⟨I.ok,I.os,I.bare,I.base,I.loc,I.cell,I.free,I.freeC,λp hp=>(aAI.mp hp).elim (λz=>I.pin p (aBg _ z)) (h p),I.hok,I.len⟩
def yU {N:List Str}(hN:N.Nodup){i j:Nat}{x:Str}(a:N[i]?=some x)(b:N[j]?=some x):i=j:=by obtain⟨h1,e1⟩:=aAA.mp a;obtain⟨h2,e2⟩:=aAA.mp b;exact(aFn hN).mp (e1.trans e2.symm)
def kL {M:Model}{A:Around}{E:D2}{i:Nat}{x:Str}{v:V}{u:Value}{Q:Unit->Shared->Prop}(I:Inv X pins σ H s)(hN:X.N.Nodup)(hi:X.N[i]?=some x)(hx:Loc X.env.scope x)(r:RelV v u)
  (h:∀s',Inv X pins (σ.set i (some v)) H s'->(∃a,Heap.SameBut a s.heap s'.heap/\(a=X.env.locals\/X.env.cells.lookup x=some a))->Q () s') (hf:X.fn x=true\/X.env.scope.names.lookup x=some .local:=by first|exact .inl rfl|exact .inr rfl|assumption):wpAny M A (storeName X.env x u) Q E s:=by
 obtain⟨m,hn,hl⟩:=id I.loc;have hcls:(X.env.scope.kind==.class||(X.env.scope.kind==.module&&X.env.locals !=X.env.globals))=false:=by rw[I.ok.kind];rfl
 have hiσ:i<σ.length:=by rw[I.len];exact(aAA.mp hi).1
 have cne:=I.cne;have tracked:∀{a:Addr} {h':Heap},(∃o,s.heap.get? a=some o/\H a=none)->Heap.SameBut a s.heap h'->eY X.prog X.w H h':=λ{a h'} ha hs b ob e=>by
  obtain⟨_,_,jo⟩:=ha;refine(I.hok b ob e).ac0 (λc w' hc q=>(hs.2 c ?_).trans q) (λ_ q=>q) λ_ _ _ q=>q;rintro rfl;rcases hc with rfl|hc
  ·rw[jo]at e;cases e
  ·rw[jo]at hc;cases hc
 rcases hx with hk|hk
 ·refine wpAny_storeName_local hk hn (λh' hn' hs=>?_) hcls;obtain⟨oL,_,_,hoL,_⟩:=id hn;refine h _ ⟨I.ok,I.os,I.bare,⟨λb o e n hb hx=>?_,λb o e n hb hx=>?_,I.base.free,λb o e hx=>?_,I.base.tups,I.base.frzs,I.base.tbls⟩,⟨_,hn',λj y v' e1 e2 e3=>?_⟩,λy c e=>?_,I.free,I.freeC,λp hp=>?_,tracked ⟨oL,hoL,I.free⟩ hs,by simpa using I.len⟩ ⟨_,hs,.inl rfl⟩
  ·exact(hs.2 b (aAk<|aAt (aAg e) I.ok.above)).trans (I.base.keep b o e n hb hx)
  ·obtain⟨sl,e1⟩:=I.base.slot b o e n hb hx;exact⟨sl,(hs.2 b (aAk<|aAt (aAg e) I.ok.above)).trans e1⟩
  ·obtain⟨o',e1⟩:=I.base.there b o e hx;exact⟨o',(hs.2 b (aAk<|aAt (aAg e) I.ok.above)).trans e1⟩
  ·by_cases hj:j=i
   ·subst hj;rw[hi]at e1;cases e1;rw[aBy hiσ]at e2;cases e2;exact⟨u,r,.inl ⟨hk,by simp⟩⟩
   ·rw[aCv (aCl hj)]at e2;obtain⟨u',r',q⟩:=hl j y v' e1 e2 e3;refine⟨u',r',?_⟩;rcases q with⟨k,e⟩|⟨k,c,e,z⟩
    ·refine .inl ⟨k,?_⟩;have:y≠x:=λe=>hj (yU hN e1<|e▸hi);simp[this,e]
    ·exact .inr ⟨k,c,e,z.sameBut hs (cne y c e)⟩
  ·obtain⟨w',z⟩:=I.cell y c e;exact⟨w',z.sameBut hs (cne y c e)⟩
  ·obtain⟨e,n,ne,nf,d⟩:=I.pin p hp;exact⟨(hs.2 p.1 ne).trans e,n,ne,nf,d⟩
 ·have xg:X.fn x=true:=by
   rcases hf with z|z
   ·exact z
   ·rw[z]at hk;cases hk
  obtain⟨c,hc⟩:=I.ok.has x (.inl hk);obtain⟨w',z⟩:=I.cell x c hc;refine wpAny_storeName_cell I.ok.kind hk hc z (λh' hc' hs=>?_);obtain⟨oc,cb,hocd⟩:=id z;refine h {s with heap:=h'} ⟨I.ok,I.os,I.bare,⟨λb o e n hb hx=>?_,λb o e n hb hx=>?_,I.base.free,λb o e hx=>?_,I.base.tups,I.base.frzs,I.base.tbls⟩,⟨m,hn.sameBut hs (aCl<|cne x c hc),λj y v' e1 e2 e3=>?_⟩,λy c' e=>?_,I.free,I.freeC,λp hp=>?_,tracked ⟨oc,cb,I.freeC x c hc⟩ hs,by simpa using I.len⟩ ⟨c,hs,.inr hc⟩
  ·exact(hs.2 b (aAk<|aAt (aAg e)<|I.ok.cab x c xg hc)).trans (I.base.keep b o e n hb hx)
  ·obtain⟨sl,e1⟩:=I.base.slot b o e n hb hx;exact⟨sl,(hs.2 b (aAk<|aAt (aAg e)<|I.ok.cab x c xg hc)).trans e1⟩
  ·obtain⟨o',e1⟩:=I.base.there b o e hx;exact⟨o',(hs.2 b (aAk<|aAt (aAg e)<|I.ok.cab x c xg hc)).trans e1⟩
  ·by_cases hj:j=i
   ·subst hj;rw[hi]at e1;cases e1;rw[aBy hiσ]at e2;cases e2;exact⟨u,r,.inr ⟨.inl hk,c,hc,hc'⟩⟩
   ·rw[aCv (aCl hj)]at e2;obtain⟨u',r',q⟩:=hl j y v' e1 e2 e3;refine⟨u',r',?_⟩;rcases q with q|⟨k,c',e,z'⟩
    ·exact .inl q
    ·refine .inr ⟨k,c',e,z'.sameBut hs ?_⟩;rintro rfl;exact hj (yU hN e1<|I.ok.inj _ _ _ e hc▸hi)
  ·by_cases hcc:c'=c
   ·subst hcc;exact⟨_,hc'⟩
   ·obtain⟨w2,z2⟩:=I.cell y c' e;exact⟨w2,z2.sameBut hs hcc⟩
  ·obtain⟨e,n,ne,nf,d⟩:=I.pin p hp;refine⟨(hs.2 p.1 ?_).trans e,n,ne,nf,d⟩;intro q;rw[q,cb]at e;have q':oc=p.2:=aAl e;exact d w' (by rw[<-q'];exact hocd)
def L0 {E:D2}{Q:Unit->Shared->Prop}(I:Inv X pins σ H s)(hN:X.N.Nodup)(hi:X.N[i]?=some x)(hx:Loc X.env.scope x)(r:RelV v u)(h:∀s',Inv X pins (σ.set i (some v)) H s'->Q () s')(hf:X.fn x=true\/X.env.scope.names.lookup x=some .local:=by first|exact .inl rfl|exact .inr rfl|assumption):wpAny M A (storeName X.env x u) Q E s:=
 kL I hN hi hx r (λs' I' _=>h s' I') hf
def Inv.af5 (I:Inv X pins σ H s)(ho:s'.os=s.os)(u:Un (vU X.stack) ch H H' s.heap s'.heap)(hok:eY X.prog X.w H' s'.heap)(hg:AllBare s'.gens)(xf:∀b∈ch,(b∈X.ex\/X.s9.heap.objs.size<=b)/\b≠X.env.locals/\(∀x c,X.env.cells.lookup x=some c->c≠b)/\∀p∈X.pn++pins,p.1≠b):Inv X pins σ H' s':=by obtain⟨h',g',d',t',o'⟩:=s';have e:o'=s.os:=ho;subst e;exact I.call (g':=g') (t':=t') (d':=d') u hok hg xf
end
abbrev XK:=Value->Option Addr->Hp->Prop
abbrev St:=List (Option V)
abbrev VK:=V->Hp->Prop
abbrev TE:=St->Hp->VK->Prop
abbrev TT:=St->Hp->(Bool->Hp->Prop)->Prop
abbrev TA:=St->Hp->(List V->Hp->Prop)->Prop
structure Ends where
 nx:St->Hp->Prop
 rt:VK
 bk:St->Hp->Prop:=λ_ _=>False
 ct:St->Hp->Prop:=λ_ _=>False
abbrev TS:=Ends->St->Hp->Prop
def EP (X:Cx)(pins:M3)(σ:St)(Q:VK)(u:Value)(s':Shared):Prop:=∃v H',Inv X pins σ H' s'/\RelV v u/\Q v H'
def TP (X:Cx)(pins:M3)(σ:St)(Q:Bool->Hp->Prop)(b:Bool)(s':Shared):Prop:=∃H',Inv X pins σ H' s'/\Q b H'
def AP (X:Cx)(pins:M3)(σ:St)(Q:List V->Hp->Prop)(us:List Value)(s':Shared):Prop:=∃vs H',Inv X pins σ H' s'/\l8 vs us/\Q vs H'
def SP (X:Cx)(pins:M3)(D:Ends)(f:Flow)(s':Shared):Prop:=
 match f with
 |.next=>∃ae H',Inv X pins ae H' s'/\D.nx ae H'
 |.brk=>∃ae H',Inv X pins ae H' s'/\D.bk ae H'
 |.cont=>∃ae H',Inv X pins ae H' s'/\D.ct ae H'
 |.ret u=>∃v ae H',Inv X pins ae H' s'/\RelV v u/\D.rt v H'
def PE (X:Cx)(e:Expr)(t:TE):Prop:=
 ∀(pins:M3) (s:Shared) (σ:St) (H:Hp) (Q:VK),Inv X pins σ H s->t σ H Q->wpAny (model X.prog X.w) X.A (eval e X.env) (EP X pins σ Q) X.xe s
def PT (X:Cx)(e:Expr)(t:TT):Prop:=
 ∀(pins:M3) (s:Shared) (σ:St) (H:Hp) (Q:Bool->Hp->Prop),Inv X pins σ H s->t σ H Q->wpAny (model X.prog X.w) X.A (isTrue e X.env<|eval e X.env) (TP X pins σ Q) X.xe s
def PW (X:Cx)(e:Expr)(t:TT):Prop:=
 ∀(whole:Sem Value) (pins:M3) (s:Shared) (σ:St) (H:Hp) (Q:Bool->Hp->Prop),Inv X pins σ H s->t σ H Q->wpAny (model X.prog X.w) X.A (isTrue e X.env whole) (TP X pins σ Q) X.xe s
def PW.pt (h:PW X e t):PT X e t:=h _
def PA (X:Cx)(es:List Expr)(t:TA):Prop:=
 ∀(pos:Pos) (pins:M3) (s:Shared) (σ:St) (H:Hp) (Q:List V->Hp->Prop),Inv X pins σ H s->t σ H Q->wpAny (model X.prog X.w) X.A (spliced<|backTo pos<|starEach es X.env) (AP X pins σ Q) X.xe s
def PS (X:Cx)(st:Stmt)(t:TS):Prop:=
 ∀(pins:M3) (s:Shared) (σ:St) (H:Hp) (D:Ends),Inv X pins σ H s->t D σ H->wpAny (model X.prog X.w) X.A (exec st X.env) (SP X pins D) X.xe s
def rC (X:Cx)(st:List Stmt)(t:TS):Prop:=
 ∀(pins:M3) (s:Shared) (σ:St) (H:Hp) (D:Ends),Inv X pins σ H s->t D σ H->wpAny (model X.prog X.w) X.A (execs st X.env) (SP X pins D) X.xe s
def B4 {α:Type}{t:Sem α}{Q Q':α->Shared->Prop}{M:Model}{A:Around}{E:D2}{s:Shared}(h:wpAny M A t Q E s)(hQ:∀a s,Q a s->Q' a s):wpAny M A t Q' E s:=aCs h hQ λ_ _ x=>x
end L2
namespace L2
open PySem PySem.Spec PyProof.Rows
section
variable{X:Cx}
def ZZ (i:Nat):TE:=λσ H Q=>∃v,σ[i]?=some (some v)/\Q v H
def tC (v:V):TE:=λ_ H Q=>Q v H
def J2 (hN:X.N[i]?=some x)(hv:vJ X.env.scope x)(hd:(x==("__debug__":Str))=false:=by decide)(cg:(x==("__classdict__":Str))=false:=by decide):PE X (.Name x pos) (ZZ i):=by
 intro pins s σ H Q I h;obtain⟨v,e,h⟩:=h;obtain⟨m,hn,hl⟩:=I.loc;obtain⟨u,r,l⟩:=hl i x v hN e hv;have fin:EP X pins σ Q u s:=⟨v,H,I,r,h⟩;rcases l with⟨hk,hm⟩|⟨hk,c,hc,df⟩
 ·exact wpAny_Name (wpAny_loadName_local I.ok.kind hk hn hm fin) hd
 ·rcases hk with hk|hk
  ·exact wpAny_Name (wpAny_loadName_cell I.ok.kind hk hc df fin) hd
  ·exact wpAny_Name (wpAny_loadName_free I.ok.kind hk hc df fin cg) hd
def CF {i j pos}:PE X (.Constant (.int i) j pos) (tC (.int i)):=λ_ _ _ H _ I h=>wpAny_Constant_int ⟨.int i,H,I.tok _,⟨_,rfl⟩,h⟩
def ZQ {b j pos}:PE X (.Constant (.bool b) j pos) (tC (.bl b)):=λ_ _ _ H _ I h=>Constant_bool ⟨.bl b,H,I,rfl,h⟩
def VG {j pos}:PE X (.Constant .none j pos) (tC .non):=λ_ _ _ H _ I h=>Constant_none ⟨.non,H,I,rfl,h⟩
def Gl (X:Cx)(x:Str):Prop:=X.env.kindOf x=some .globalImplicit
def tR {E:D2}{Q:D2}(I:Inv X pins σ H s)(hg:Gl X x)(hm:X.mg x=some u)(h:Q u s)(hd:(x==("__debug__":Str))=false:=by decide):wpAny (model X.prog X.w) X.A (eval (.Name x pos) X.env) Q E s:=
 Calls.Name_function_global I.ok.kind hg (Calls.loadGlobal_global (by rw[I.ok.glob];exact I.mod.glob.keeps I.bk) hm h) hd
def Q5 {E:D2}{Q:D2}(I:Inv X pins σ H s)(hg:Gl X x)(hm:X.mg x=none)(hv:bootBuiltins x=some u)(h:Q u s)(hn:x≠ "__name__":=by decide)(hd:(x==("__debug__":Str))=false:=by decide):wpAny (model X.prog X.w) X.A (eval (.Name x pos) X.env) Q E s:=by obtain⟨mb,h1,h2⟩:=I.mod.blt;exact Calls.Name_function_global I.ok.kind hg (Calls.loadGlobal_builtin (by rw[I.ok.glob];exact I.mod.glob.keeps I.bk) hm (by rw[I.ok.blt];exact h1.keeps I.bk) ((h2 x hn).trans hv) h) hd
def SR (hg:Gl X x)(hm:X.mg x=some u)(r:RelV v u)(hd:(x==("__debug__":Str))=false:=by decide):PE X (.Name x pos) (tC v):=
 λ_ _ _ H _ I h=>tR I hg hm ⟨v,H,I,r,h⟩ hd
def PV (hg:Gl X x)(hm:X.mg x=none)(hv:bootBuiltins x=some u)(r:RelV v u)(hn:x≠ "__name__":=by decide)(hd:(x==("__debug__":Str))=false:=by decide):PE X (.Name x pos) (tC v):=
 λ_ _ _ H _ I h=>Q5 I hg hm hv ⟨v,H,I,r,h⟩ hn hd
variable{a b:Expr} {ta tb:TE} {pos:Pos}
def tB (t:TE):TT:=λσ H Q=>t σ H λx H1=>∃c,x=.bl c/\Q c H1
def WA {e:Expr}{t:TE}(h:PE X e t)(he:∀whole,isTrue e X.env whole=(do let v<-whole;standAt e.pos;holding [v] (truthy v)):=by intro _;rfl):PT X e (tB t):=by intro pins s σ H Q I hw;refine isTrue_plain (B4 (h pins s σ H _ I hw) λv s1 ⟨x,H1,I1,r1,q1⟩=>?_) (he _);obtain⟨d,rfl,q⟩:=q1;cases r1;exact aBj ⟨H1,I1,q⟩
variable{tA tB':TT} {rest:List Expr}
def tw (t u:TT):TT:=λσ H Q=>t σ H λc H1=>if c=true then u σ H1 Q else Q false H1
def tOr (t u:TT):TT:=λσ H Q=>t σ H λc H1=>if c=true then Q true H1 else u σ H1 Q
def qj (t:TT):TT:=λσ H Q=>t σ H λc H1=>Q (!c) H1
def SQ (ha:PT X a tA):PW X (.BoolOp .And [a] pos) tA:=by
 intro wh pins s σ H Q I h;refine isTrue_and (B4 (ha pins s σ H Q I h) λc s1 e=>?_);cases c with
 |true=>exact isTrue_and_nil e
 |false=>exact e
def VA (ha:PT X a tA):PW X (.BoolOp .Or [a] pos) tA:=by
 intro wh pins s σ H Q I h;refine isTrue_or (B4 (ha pins s σ H Q I h) λc s1 e=>?_);cases c with
 |false=>exact isTrue_or_nil e
 |true=>exact e
def XZ (ha:PT X a tA)(hb:PW X (.BoolOp .And (b::rest) pos) tB'):PW X (.BoolOp .And (a::b::rest) pos) (tw tA tB'):=by
 intro wh pins s σ H Q I h;refine isTrue_and (B4 (ha pins s σ H _ I h) λc s1 ⟨H1,I1,q1⟩=>?_);cases c with
 |true=>exact hb wh pins s1 σ H1 Q I1 q1
 |false=>exact⟨H1,I1,q1⟩
def YY (ha:PT X a tA)(hb:PW X (.BoolOp .Or (b::rest) pos) tB'):PW X (.BoolOp .Or (a::b::rest) pos) (tOr tA tB'):=by
 intro wh pins s σ H Q I h;refine isTrue_or (B4 (ha pins s σ H _ I h) λc s1 ⟨H1,I1,q1⟩=>?_);cases c with
 |true=>exact⟨H1,I1,q1⟩
 |false=>exact hb wh pins s1 σ H1 Q I1 q1
def VB (ha:PT X a tA):PT X (.UnaryOp .Not a pos) (qj tA):=by intro pins s σ H Q I h;exact isTrue_not (ha pins s σ H (λc H1=>Q (!c) H1) I h)
def ay (ta tb:TE):TE:=λσ H Q=>ta σ H λx H1=>∃c,x=.bl c/\if c=true then tb σ H1 Q else Q (.bl false) H1
def ZH (ta:TE):TE:=λσ H Q=>ta σ H λx H1=>∃c,x=.bl c/\Q (.bl (!c)) H1
def UY {op}(h:PE X a t):PE X (.BoolOp op [a] pos) t:=λpins s σ H Q I hw=>BoolOp_one (h pins s σ H Q I hw)
def XE (ha:PE X a ta)(hb:PE X (.BoolOp .And (b::rest) pos) tb):PE X (.BoolOp .And (a::b::rest) pos) (ay ta tb):=by
 intro pins s σ H Q I h;refine BoolOp_and (B4 (ha pins s σ H _ I h) λv s1 ⟨x,H1,I1,r1,q1⟩=>?_);obtain⟨c,rfl,q1⟩:=q1;cases r1;refine aBj ?_;cases c with
 |true=>exact hb pins s1 σ H1 Q I1 q1
 |false=>exact⟨.bl false,H1,I1,rfl,q1⟩
def XU (ha:PE X a ta):PE X (.UnaryOp .Not a pos) (ZH ta):=by intro pins s σ H Q I h;refine UnaryOp_ (B4 (ha pins s σ H _ I h) λv s1 ⟨x,H1,I1,r1,q1⟩=>?_);obtain⟨c,rfl,q1⟩:=q1;cases r1;exact not_of (aBj ⟨.bl (!c),H1,I1,rfl,q1⟩)
end
end L2
namespace L2
open PySem PySem.Spec PyProof.Rows
def K4 (K:PySem.W.Frag)(H:Hp)(a:Addr)(xs:List V):Prop:=
 Rd H a (.lst xs)\/
  ∃(o:Obj) (its:Array Value) (n:Nat),K.lookup a=some o/\o.cls=.type "list"/\o.dict=none/\o.data=.seq its n/\its.size<=sizeLine/\l8 xs its.toList
def W2 (K:PySem.W.Frag)(H:Hp)(a:Addr)(xs:List V):Prop:=
 Rd H a (.tup xs)\/
  ∃(o:Obj) (its:Array Value) (n:Nat),K.lookup a=some o/\o.cls=.type "tuple"/\o.data=.seq its n/\its.size<=sizeLine/\l8 xs its.toList
def rz:Value->Option V
 |.none=>some .non
 |.bool b=>some (.bl b)
 |.int i _=>some (.int i)
 |.str x _=>some (.str x)
 |.bytes b _=>some (.byt b)
 |.float b _=>some (.flt b)
 |.ref a=>some (.ref a)
 |.type n=>some (.ty n)
 |_=>none
def RelV.abs (r:RelV x u):rz u=some x:=by
 cases x with
 |non=>cases r;rfl
 |bl _=>cases r;rfl
 |int _=>obtain⟨t,rfl⟩:=r;rfl
 |str _=>obtain⟨t,rfl⟩:=r;rfl
 |byt _=>obtain⟨t,rfl⟩:=r;rfl
 |flt _=>obtain⟨t,rfl⟩:=r;rfl
 |ref _=>cases r;rfl
 |ty _=>cases r;rfl
def RelV.inj {x y:V}{u:Value}(r:RelV x u)(q:RelV y u):x=y:=aAl (r.abs.symm.trans q.abs)
theorem l8.inj:∀{xs ys:List V} {us:List Value},l8 xs us->l8 ys us->xs=ys
 |_,_,_,.nil,.nil=>rfl
 |_,_,_,.cons r t,.cons r' t'=>by rw[r.inj r',l8.inj t t']
section
variable{X:Cx} {pins:M3} {σ:St} {H:Hp} {s:Shared} {a:Addr} {xs ys:List V}
def K4.of {K:PySem.W.Frag}(h:H a=some (.lst xs)):K4 K H a xs:=.inl (.inl h)
def W2.of {K:PySem.W.Frag}(h:H a=some (.tup xs)):W2 K H a xs:=.inl (.inl h)
def Inv.list (I:Inv X pins σ H s)(h:K4 X.K H a xs):∃its:List Value,l8 xs its/\PlainL s.heap a its.toArray/\xs.length<=sizeLine:=by
 rcases h with h|⟨o,its,n,hk,hc,hd,hs,hz,r⟩
 ·obtain⟨z,its,n,r,e⟩:=h.ok I.hok;exact⟨its,r,⟨_,n,e,rfl,rfl,rfl⟩,z⟩
 ·refine⟨its.toList,r,⟨o,n,I.kIn a o hk,hc,hd,by simpa using hs⟩,?_⟩;have e:=r.length;simp only[aBb]at e
  lia
def Inv.tuple (I:Inv X pins σ H s)(h:W2 X.K H a xs):∃its:List Value,l8 xs its/\IsTup s.heap a its.toArray/\xs.length<=sizeLine:=by
 rcases h with h|⟨o,its,n,hk,hc,hs,hz,r⟩
 ·obtain⟨z,its,r,p⟩:=h.ok I.hok;exact⟨its,r,p,z⟩
 ·refine⟨its.toList,r,⟨o,I.kIn a o hk,hc,n,by simpa using hs⟩,?_⟩;have e:=r.length;simp only[aBb]at e
  lia
def Inv.ab8 (I:Inv X pins σ H s)(h:K4 X.K H a xs)(h':K4 X.K H a ys):xs=ys:=by
 obtain⟨its,r,⟨o,n,e,_,_,d⟩,_⟩:=I.list h;obtain⟨its',r',⟨o',n',e',_,_,d'⟩,_⟩:=I.list h';rw[e]at e';cases e';rw[d]at d';injection d' with d1 _;have:its=its':=by simpa using congrArg aFB d1
 subst this;exact r.inj r'
def Inv.ab4 (I:Inv X pins σ H s)(h:W2 X.K H a xs)(h':W2 X.K H a ys):xs=ys:=by
 obtain⟨its,r,⟨o,e,_,n,d⟩,_⟩:=I.tuple h;obtain⟨its',r',⟨o',e',_,n',d'⟩,_⟩:=I.tuple h';rw[e]at e';cases e';rw[d]at d';injection d' with d1 _;have:its=its':=by simpa using congrArg aFB d1
 subst this;exact r.inj r'
end
abbrev Cx.ac1 (X:Cx)(E:D2):Cx:={X with xe:=E}
abbrev Cx.nox (X:Cx):Cx:=X.ac1 λ_ _=>False
def Cx.Ok.ac1 {X:Cx}(ok:X.Ok)(E:D2):(X.ac1 E).Ok:=
 ⟨ok.mod,ok.kind,ok.glob,ok.blt,ok.above,ok.inj,ok.has,ok.cab,ok.hd,ok.frames,ok.stk,ok.exf,ok.bs,ok.bsz,ok.noex,ok.exfs,ok.funs,ok.frf⟩
def Cx.Ok.ab0 {X:Cx}{E:D2}(ok:(X.ac1 E).Ok):X.Ok:=
 ⟨ok.mod,ok.kind,ok.glob,ok.blt,ok.above,ok.inj,ok.has,ok.cab,ok.hd,ok.frames,ok.stk,ok.exf,ok.bs,ok.bsz,ok.noex,ok.exfs,ok.funs,ok.frf⟩
section
variable{X:Cx} {pins:M3} {σ:St} {H:Hp} {s:Shared} {E:D2}
def Inv.ac1 (I:Inv X pins σ H s)(E:D2):Inv (X.ac1 E) pins σ H s:=⟨I.ok.ac1 E,I.os,I.bare,I.base,I.loc,I.cell,I.free,I.freeC,I.pin,I.hok,I.len⟩
def Inv.ab0 (I:Inv (X.ac1 E) pins σ H s):Inv X pins σ H s:=⟨I.ok.ab0,I.os,I.bare,I.base,I.loc,I.cell,I.free,I.freeC,I.pin,I.hok,I.len⟩
def SP.ab0 (h:SP (X.ac1 E) pins D f s'):SP X pins D f s':=by
 cases f with
 |next=>obtain⟨ae,H',I,q⟩:=h;exact⟨ae,H',I.ab0,q⟩
 |brk=>obtain⟨ae,H',I,q⟩:=h;exact⟨ae,H',I.ab0,q⟩
 |cont=>obtain⟨ae,H',I,q⟩:=h;exact⟨ae,H',I.ab0,q⟩
 |ret u=>obtain⟨v,ae,H',I,r,q⟩:=h;exact⟨v,ae,H',I.ab0,r,q⟩
def rC.nox {st:List Stmt}{t:TS}(h:rC X.nox st t):rC X st t:=λpins s σ H D I hw=>aCs (h pins s σ H D (I.ac1 _) hw) (λ_ _ q=>q.ab0) λ_ _ z=>aAi z
end
section
variable{X:Cx} {st:Stmt} {rest:List Stmt} {t u:TS} {e:Expr} {te:TE} {pos:Pos}
def aj:TS:=λD σ H=>D.nx σ H
def qk (t u:TS):TS:=λD σ H=>t {D with nx:=u D} σ H
def uU:rC X [] aj:=λ_ _ σ H _ I h=>aEr ⟨σ,H,I,h⟩
def pI (h1:PS X st t)(h2:rC X rest u):rC X (st::rest) (qk t u):=by
 intro pins s σ H D I h;refine aEf (B4 (h1 pins s σ H {D with nx:=u D} I h) λf s1 q=>?_);cases f with
 |next=>obtain⟨ae,H',I',q⟩:=q;exact h2 pins s1 ae H' D I' q
 |ret v=>exact q
 |brk=>exact q
 |cont=>exact q
def dJ (h1:PS X st t):rC X [st] t:=by
 intro pins s σ H D I h;refine aEf (B4 (h1 pins s σ H D I h) λf s1 q=>?_);cases f with
 |next=>exact aEr q
 |ret v=>exact q
 |brk=>exact q
 |cont=>exact q
def Inv.quiet (I:Inv X pins σ H s):interactive X.env=false:=by simp[interactive,I.ok.kind]
def cx (te:TE):TS:=λD σ H=>te σ H λ_ H1=>D.nx σ H1
def gH (he:PE X e te)(hs:swapsWith e none pos.line X.env=pure false:=by rfl):PS X (.Expr e pos) (cx te):=by intro pins s σ H D I h;exact wpAny_Expr_any (B4 (he pins s σ H _ I h) λv s1 ⟨x,H1,I1,r1,q1⟩=>⟨σ,H1,I1,q1⟩) I.quiet hs
def ww (te:TE):TS:=λD σ H=>te σ H D.rt
def oN (he:PE X e te):PS X (.Return (some e) pos) (ww te):=by intro pins s σ H D I h;exact wpAny_Return_some (B4 (he pins s σ H _ I h) λv s1 ⟨x,H1,I1,r1,q1⟩=>⟨x,σ,H1,I1,r1,q1⟩)
def sk (c:TT)(t u:TS):TS:=λD σ H=>c σ H λb H1=>if b=true then t D σ H1 else u D σ H1
def KR {c:Expr}{a b:List Stmt}{tc:TT}(hc:PT X c tc)(ha:rC X a t)(hb:rC X b u):PS X (.If c a b pos) (sk tc t u):=by
 intro pins s σ H D I h;refine wpAny_If (B4 (hc pins s σ H _ I h) λd s1 ⟨H1,I1,q1⟩=>?_);cases d with
 |true=>exact ha pins s1 σ H1 D I1 q1
 |false=>exact hb pins s1 σ H1 D I1 q1
def WZ:TS:=λ_ _ _=>False
def KD:PS X st WZ:=λ_ _ _ _ _ _ h=>h.elim
end
abbrev TG:=V->St->Hp->(St->Hp->Prop)->Prop
abbrev XH:=List V->St->Hp->(St->Hp->Prop)->Prop
def PG (X:Cx)(target:Expr)(t:TG):Prop:=
 ∀(pins:M3) (s:Shared) (σ:St) (H:Hp) (v:V) (u:Value) (Q:St->Hp->Prop),Inv X pins σ H s->RelV v u->t v σ H Q->
  wpAny (model X.prog X.w) X.A (assign target X.env u) (λ_ s'=>∃ae H',Inv X pins ae H' s'/\Q ae H') X.xe s
def YF (X:Cx)(ts:List Expr)(t:XH):Prop:=
 ∀(pins:M3) (s:Shared) (σ:St) (H:Hp) (vs:List V) (us:List Value) (Q:St->Hp->Prop),Inv X pins σ H s->l8 vs us->t vs σ H Q->
  wpAny (model X.prog X.w) X.A (assignInOrder ((assignEach ts X.env).map (·.2)) us) (λ_ s'=>∃ae H',Inv X pins ae H' s'/\Q ae H') X.xe s
abbrev QE:=V->V->V->Hp->(Hp->Prop)->Prop
def gq (X:Cx)(t:QE):Prop:=
 ∀(pins:M3) (s:Shared) (σ:St) (H:Hp) (o i v:V) (ov iv u:Value) (Q:Hp->Prop),Inv X pins σ H s->RelV o ov->RelV i iv->RelV v u->t o i v H Q->
  wpAny (model X.prog X.w) X.A (setItem ov iv u) (λ_ s'=>∃H',Inv X pins σ H' s'/\Q H') X.xe s
section
variable{X:Cx} {pos:Pos}
def UD (i:Nat):TG:=λv σ H Q=>Q (σ.set i<|some v) H
def CH (hN:X.N.Nodup)(hi:X.N[i]?=some x)(hx:Loc X.env.scope x)(hf:X.fn x=true\/X.env.scope.names.lookup x=some .local:=by first|exact .inl rfl|exact .inr rfl|assumption):PG X (.Name x pos) (UD i):=by intro pins s σ H v u Q I r h;exact aEV (L0 I hN hi hx r (λs' I'=>⟨_,H,I',h⟩) hf)
def nk:XH:=λvs σ H Q=>vs=[]/\Q σ H
def YM (t:TG)(u:XH):XH:=λvs σ H Q=>∃v r,vs=v::r/\t v σ H λae H'=>u r ae H' Q
def QP:YF X [] nk:=by intro pins s σ H vs us Q I r h;obtain⟨e,h⟩:=h;subst e;cases r;exact assignInOrder_nil ⟨σ,H,I,h⟩
def NB {e:Expr}{es:List Expr}{t:TG}{u:XH}(h1:PG X e t)(h2:YF X es u)
  (hs:(assignEach (e::es) X.env).map (·.2)=assign e X.env::(assignEach es X.env).map (·.2):=by rfl):YF X (e::es) (YM t u):=by
 intro pins s σ H vs us Q I r h;obtain⟨v,vr,e1,h⟩:=h;subst e1;cases r with
 |cons r rr=>rw[hs];refine aEG (B4 (h1 pins s σ H _ _ _ I r h) λ_ s1 ⟨σ1,H1,I1,q1⟩=>?_);exact h2 pins s1 σ1 H1 _ _ Q I1 rr q1
def mw (to ti:TE)(t:QE):TG:=λv σ H Q=>to σ H λo H1=>ti σ H1 λi H2=>t o i v H2 λH3=>Q σ H3
def VN {o i:Expr}{to ti:TE}{t:QE}(ho:PE X o to)(hi:PE X i ti)(hs:gq X t)
  (ha:∀v,assign (.Subscript o i pos) X.env v=(do
   let ov<-holding [v] (eval o X.env)
   let iv<-holding [v,ov] (eval i X.env)
   standAt pos
   holding [v,ov,iv] (setItem ov iv v)
   release [v,ov,iv] []):=by intro _;rfl):PG X (.Subscript o i pos) (mw to ti t):=by
 intro pins s σ H v u Q I r h;rw[ha];refine aAa (aAP<|B4 (ho pins s σ H _ I h) λov s1 ⟨x,H1,I1,r1,q1⟩=>?_);refine aAa (aAP<|B4 (hi pins s1 σ H1 _ I1 q1) λiv s2 ⟨y,H2,I2,r2,q2⟩=>?_);refine aAa (aDL<|aAa<|aAP<|B4 (hs pins s2 σ H2 x y v ov iv u _ I2 r1 r2 r q2) λ_ s3 ⟨H3,I3,q3⟩=>?_);exact wpAny_release ⟨σ,H3,I3,q3⟩
def ZP (te:TE)(g:TG):TS:=λD σ H=>te σ H λx H1=>g x σ H1 D.nx
def KW {tg e:Expr}{te:TE}{g:TG}(he:PE X e te)(hg:PG X tg g)(hs:swapsWithSole [tg] e pos.line X.env=pure false:=by rfl)(hw:swappedStores [tg] e X.env=pure none:=by rfl)
  (h1:(assignEach [tg] X.env).map (·.2)=[assign tg X.env]:=by rfl):PS X (.Assign [tg] e pos) (ZP te g):=by
 intro pins s σ H D I h;refine wpAny_Assign_stores (B4 (he pins s σ H _ I h) λv s1 ⟨x,H1,I1,r1,q1⟩=>?_) hs hw;rw[h1];exact B4 (hg pins s1 σ H1 x v _ I1 r1 q1) λ_ s2 q=>q
def KS {i:Nat}{x:Str}{e:Expr}{te:TE}{pos':Pos}(hN:X.N.Nodup)(hi:X.N[i]?=some x)(hx:Loc X.env.scope x)(he:PE X e te)(hs:swapsWith e (some (.Name x pos')) pos.line X.env=pure false:=by rfl)(hf:X.fn x=true\/X.env.scope.names.lookup x=some .local:=by first|exact .inl rfl|exact .inr rfl|assumption):
  PS X (.Assign [.Name x pos'] e pos) (ZP te (UD i)):=by
 intro pins s σ H D I h;refine aDV (B4 (he pins s σ H _ I h) λv s1 ⟨y,H1,I1,r1,q1⟩=>?_) hs;exact L0 I1 hN hi hx r1 (λs2 I2=>⟨_,H1,I2,q1⟩) hf
def qz (i j:Nat)(ta:TA):TS:=λD σ H=>ta σ H λvs H1=>∃v w,vs=[v,w]/\D.nx ((σ.set i<|some v).set j (some w)) H1
def VS {i j:Nat}{x y:Str}{a b:Expr}{ta:TA}{px py pt:Pos}{kt k2 vF}(hc:X.calm=true)(hN:X.N.Nodup)(hi:X.N[i]?=some x)(hj:X.N[j]?=some y)(jf:i≠j)
  (hx:X.env.scope.names.lookup x=some .local) (hy:X.env.scope.names.lookup y=some .local) (ha:PA X [a,b] ta)
  (hw:swappedStores [.Tuple [.Name x px,.Name y py] kt pt] (.Tuple [a,b] k2 vF) X.env=pure (some [x,y]))
  (hs:swapsWithSole [.Tuple [.Name x px,.Name y py] kt pt] (.Tuple [a,b] k2 vF) pos.line X.env=pure false:=by rfl):
  PS X (.Assign [.Tuple [.Name x px,.Name y py] kt pt] (.Tuple [a,b] k2 vF) pos) (qz i j ta):=by
 intro pins s σ H D I h;rw[exec_Assign_arm];refine aAa (aDL ?_);rw[hs];refine aAa (aAb ?_);rw[if_neg (by decide)];refine aAa (Tuple_<|B4 (ha _ pins s σ H _ I h) λus s1 ⟨vs,H1,I1,r1,q1⟩=>?_);obtain⟨v,w,e1,q1⟩:=q1;subst e1;obtain⟨u1,u2,rfl,rv,rw'⟩:∃u1 u2,us=[u1,u2]/\RelV v u1/\RelV w u2:=by
  cases r1 with
  |cons p q=>
   cases q with
   |cons p' q'=>cases q';exact⟨_,_,rfl,p,p'⟩
 refine aBs ?_ (by show 2<=sizeLine;decide);have I2:Inv X pins σ H1 {s1 with heap:=s1.heap.push {cls:=.type "tuple",data:=.seq [u1,u2].toArray}}:=I1.kept (t':=s1.toks) λb o e=>aAc _ e;rw[hw];refine aAa (aAb ?_);show wpAny (model X.prog X.w) X.A (do rule "assign.swapped-stores";let items<-unpackItems (.ref s1.heap.objs.size) 2 none;assignInOrder [λv=>bindName X.env y v,λv=>bindName X.env x v] items.reverse;pure Flow.next) _ _ _;refine aAa (aDq<|aAa<|unpackItems_tuple (items:=#[u1,u2]) (I.ok.hd hc) (IsTup.new s1.heap _) λh' hx'=>?_);have I3:=I2.kept (h':=h') (t':=s1.toks) λb o e=>hx' b o (aAk<|aAg e) e;show wpAny _ _ (assignInOrder [λv=>bindName X.env y v,λv=>bindName X.env x v] [u2,u1]>>=λ_=>pure Flow.next) _ _ _;refine aAa (aEG<|wpAny_bindName<|L0 I3 hN hj (.inl hy) rw' (λs2 I4=>?_)<|.inr hy);refine aEG (wpAny_bindName<|L0 I4 hN hi (.inl hx) rv (λs3 I5=>assignInOrder_nil (aAb ?_))<|.inr hx);rw[List.set_comm _ _ (aCl jf)]at I5;exact⟨_,H1,I5,q1⟩
end
section
variable{X:Cx} {pos:Pos}
def WD (c:TT)(tb:TS):TS:=λD σ H=>∃W:Nat->St->Hp->Prop,(∃m,W m σ H)/\∀m σ H,W m σ H->
 c σ H λb H1=>if b=true then∃N:St->Hp->Prop,(∀ae H',N ae H'->∃m',m'<m/\W m' ae H')/\tb {D with nx:=N,ct:=N,bk:=D.nx} σ H1 else D.nx σ H1
def OT {c:Expr}{body:List Stmt}{tc:TT}{tb:TS}(hp:PassesOwn (model X.prog X.w) X.A X.env X.xe)(hc:PT X c tc)(hb:rC X body tb):PS X (.While c body [] pos) (WD tc tb):=by
 intro pins s σ H D I h;obtain⟨W,⟨m0,w0⟩,turn⟩:=h;refine wpAny_While (codeAny_whileLoop (λn s'=>∃ae H',Inv X pins ae H' s'/\W n ae H') ?_ m0 ⟨σ,H,I,w0⟩);rintro n s1 ⟨σ1,H1,I1,w1⟩;refine aCS hp (B4 (hc pins s1 σ1 H1 _ I1<|turn n σ1 H1 w1) λb s2 ⟨H2,I2,q2⟩=>?_);cases b with
 |true=>
  obtain⟨N,hN,q2⟩:=q2;rw[if_pos rfl];refine aCS hp (B4 (hb pins s2 σ1 H2 _ I2 q2) λf s3 q3=>?_);cases f with
  |next=>obtain⟨om,H3,I3,n3⟩:=q3;obtain⟨m',hm,w3⟩:=hN om H3 n3;exact⟨m',hm,om,H3,I3,w3⟩
  |cont=>obtain⟨om,H3,I3,n3⟩:=q3;obtain⟨m',hm,w3⟩:=hN om H3 n3;exact⟨m',hm,om,H3,I3,w3⟩
  |brk=>exact q3
  |ret v=>exact q3
 |false=>rw[if_neg aAH];exact aEr ⟨σ1,H2,I2,q2⟩
end
structure It where
 go:Nat->Hp->Prop
 yld:Nat->Hp->V->Hp->Prop
 stop:Nat->Hp->Prop
def pR (X:Cx)(pins:M3)(H:Hp)(b:Addr):Prop:=
 H b=none/\b≠X.env.locals/\b∉X.fs/\(b∈X.ex\/X.s9.heap.objs.size<=b)/\(∀x c,X.env.cells.lookup x=some c->c≠b)/\∀p∈X.pn++pins,p.1≠b
def Inv.af2 (I:Inv X pins σ H s)(hb:s.heap.objs.size<=b)(hn:H' b=none):pR X pins H' b:=by
 refine⟨hn,aCZ (aAt I.lt hb),I.af8 hb,.inr (aAu I.sz hb),λx c e z=>?_,λp hp z=>?_⟩
 ·obtain⟨v,q⟩:=I.cell x c e;exact absurd (aAt q.lt (by rw[z];exact hb)) (aBf _)
 ·exact absurd (aAt (aAg (I.pin p hp).1) (by rw[z];exact hb)) (aBf _)
structure Turn (P:Program)(w:World)(K:PySem.W.Frag)(tg:Expr)(J:It)(fp:List Addr)(it:Addr)(tn:Nat->Heap->Prop):Prop where
 mem:it∈fp
 obj:∀i h,tn i h->∀b∈fp,∃o,h.get? b=some o/\∀v,o.data≠.cell v
 keep:∀i h h',tn i h->(∀b∈fp,∀o,h.get? b=some o->h'.get? b=some o)->tn i h'
 item:∀(X:Cx),X.prog=P->X.w=w->X.K=K->X.calm=true->∀(i:Nat) (pins:M3) (s:Shared) (σ:St) (H:Hp) (E:D2),Inv X pins σ H s->(∀b∈fp,pR X pins H b)->tn i s.heap->J.go i H->
  wpAny (model P w) X.A (pyNext (.ref it)) (λr s1=>∃u,r=some u/\
   wpAny (model P w) X.A (letOwnedTupleGo tg (.ref it) u) (λ_ s2=>∃x H',Inv X pins σ H' s2/\RelV x u/\J.yld i H x H'/\tn (i+1) s2.heap/\∀b∈fp,H' b=none) E s1) E s
 done:∀(X:Cx),X.prog=P->X.w=w->X.K=K->X.calm=true->∀(i:Nat) (pins:M3) (s:Shared) (σ:St) (H:Hp) (E:D2),Inv X pins σ H s->(∀b∈fp,pR X pins H b)->tn i s.heap->J.stop i H->
  wpAny (model P w) X.A (pyNext (.ref it)) (λr s1=>r=none/\Inv X pins σ H s1) E s
 self:∀(A:Around) (i:Nat) (s:Shared) (Q:D2) (E:D2),tn i s.heap->Q (.ref it) s->wpAny (model P w) A (pyIter (.ref it)) Q E s
abbrev TI:=St->Hp->(It->Hp->Prop)->Prop
def uq (X:Cx)(pins:M3)(σ:St)(tg:Expr)(R:It->Hp->Prop)(itv:Value)(s2:Shared):Prop:=
 ∃(it:Addr) (fp:List Addr) (tn:Nat->Heap->Prop) (J:It) (H':Hp),itv=.ref it/\Inv X pins σ H' s2/\Turn X.prog X.w X.K tg J fp it tn/\tn 0 s2.heap/\(∀b∈fp,pR X pins H' b)/\R J H'
def PI (X:Cx)(tg v5:Expr)(wi:TI):Prop:=
 ∀(pins:M3) (s:Shared) (σ:St) (H:Hp) (R:It->Hp->Prop),Inv X pins σ H s->wi σ H R->
  wpAny (model X.prog X.w) X.A (eval v5 X.env) (λv s1=>wpAny (model X.prog X.w) X.A (pyIter v) (uq X pins σ tg R) X.xe s1) X.xe s
def LN {E : Value → Shared → Prop} {Q : Unit → Shared → Prop} (ho : s.heap.get? it = some o) (hc : o.cls = .type n) (hd : o.data = .fields vs) (hn : ["enumerate", "zip", "dict_itemiterator", "dict_reverseitemiterator", "odict_iterator", "itertools.zip_longest", "itertools.pairwise"].contains n = false) (hQ : Q () s) : wpAny M A (letOwnedTupleGo tg (.ref it) u) Q E s := by
  unfold letOwnedTupleGo;cases tg <;> first
    | exact aAb hQ
    | (cases u <;> first
        | exact aAb hQ
        | (refine aAa (wpAny_load ho ?_)
           rw [hc, hd];show wpAny M A (if (["enumerate", "zip", "dict_itemiterator", "dict_reverseitemiterator", "odict_iterator", "itertools.zip_longest", "itertools.pairwise"].contains n && vs[0]? == some (rawInt _)) = true then _ else _) Q E s;rw [if_neg (by intro h; rw [hn, Bool.false_and] at h; cases h)];exact aAb hQ))
def qw (K:PySem.W.Frag)(a:Addr):It:=
 ⟨λi H=>∃xs x,K4 K H a xs/\xs[i]?=some x,λi H x H'=>H'=H/\∀xs,K4 K H a xs->xs[i]?=some x,λi H=>∃xs,K4 K H a xs/\xs.length<=i⟩
def vz (K:PySem.W.Frag)(a:Addr):It:=
 ⟨λi H=>∃xs x,W2 K H a xs/\xs[i]?=some x,λi H x H'=>H'=H/\∀xs,W2 K H a xs->xs[i]?=some x,λi H=>∃xs,W2 K H a xs/\xs.length<=i⟩
def FS {P:Program}{w:World}{K:PySem.W.Frag}{tg:Expr}(a it:Addr):Turn P w K tg (qw K a) [it] it (λi h=>h.IsListIter it a i)where
 mem:=by simp
 obj:=λi h st b hb=>by
  have e:b=it:=by simpa using hb
  subst e;obtain⟨o,e,c,d⟩:=st;exact⟨o,e,λv z=>by rw[d]at z;cases z⟩
 keep:=λi h h' st k=>st.at λo e=>k it (by simp) o e
 item:=by intro X hP hw hK hc i pins s σ H E I hf st hg;subst hP hw hK;obtain⟨xs,x,hq,hx⟩:=hg;obtain⟨its,rv,p,hz⟩:=I.list hq;obtain⟨u,hu,ru⟩:=rv.get hx;obtain⟨f0,f1,f2,f3,f4,f5⟩:=hf it (by simp);refine wpAny_pyNext_list_item st p.isList (x:=u) (by simpa using hu) λh' st' sb=>?_;have I1:Inv X pins σ H {s with heap:=h'}:=I.turned (t':=s.toks) (λb o hb e=>(sb.2 b hb).trans e) f0 f1 f3 f4 f5;obtain⟨o,e,c,d⟩:=id st';exact⟨u,rfl,LN (s:={s with heap:=h'}) e c d (by decide) ⟨x,H,I1,ru,⟨rfl,λys hy=>by rw[I.ab8 hy hq];exact hx⟩,st',λb hb=>(hf b hb).1⟩⟩
 done:=by intro X hP hw hK hc i pins s σ H E I hf st hg;subst hP hw hK;obtain⟨xs,hq,hx⟩:=hg;obtain⟨its,rv,p,hz⟩:=I.list hq;obtain⟨f0,f1,f2,f3,f4,f5⟩:=hf it (by simp);have hl:=rv.length;exact wpAny_pyNext_list_end (I.ok.hd hc) st p.isList (by simp;lia) λh' eb=>⟨rfl,I.turned (t':=s.toks) (λb o hb e=>eb b o hb e) f0 f1 f3 f4 f5⟩
 self:=λ_ _ _ _ _ st h=>wpAny_pyIter_listiter st h
def zH {P:Program}{w:World}{K:PySem.W.Frag}{tg:Expr}(a it:Addr):Turn P w K tg (vz K a) [it] it (λi h=>h.IsTupleIter it a i)where
 mem:=by simp
 obj:=λi h st b hb=>by
  have e:b=it:=by simpa using hb
  subst e;obtain⟨o,e,c,d⟩:=st;exact⟨o,e,λv z=>by rw[d]at z;cases z⟩
 keep:=λi h h' st k=>st.at λo e=>k it (by simp) o e
 item:=by intro X hP hw hK hc i pins s σ H E I hf st hg;subst hP hw hK;obtain⟨xs,x,hq,hx⟩:=hg;obtain⟨its,rv,p,hz⟩:=I.tuple hq;obtain⟨u,hu,ru⟩:=rv.get hx;obtain⟨f0,f1,f2,f3,f4,f5⟩:=hf it (by simp);refine wpAny_pyNext_tuple_item st (show s.heap.IsTuple a its.toArray from p) (x:=u) (by simpa using hu) λh' st' sb=>?_;have I1:Inv X pins σ H {s with heap:=h'}:=I.turned (t':=s.toks) (λb o hb e=>(sb.2 b hb).trans e) f0 f1 f3 f4 f5;obtain⟨o,e,c,d⟩:=id st';exact⟨u,rfl,LN (s:={s with heap:=h'}) e c d (by decide) ⟨x,H,I1,ru,⟨rfl,λys hy=>by rw[I.ab4 hy hq];exact hx⟩,st',λb hb=>(hf b hb).1⟩⟩
 done:=by intro X hP hw hK hc i pins s σ H E I hf st hg;subst hP hw hK;obtain⟨xs,hq,hx⟩:=hg;obtain⟨its,rv,p,hz⟩:=I.tuple hq;obtain⟨f0,f1,f2,f3,f4,f5⟩:=hf it (by simp);have hl:=rv.length;exact wpAny_pyNext_tuple_end (I.ok.hd hc) st (show s.heap.IsTuple a its.toArray from p) (by simp;lia) λh' eb=>⟨rfl,I.turned (t':=s.toks) (λb o hb e=>eb b o hb e) f0 f1 f3 f4 f5⟩
 self:=λ_ _ _ _ _ st h=>wpAny_pyIter_tupleiter st h
end L2
namespace L2
open PySem PySem.Spec PyProof.Rows
section
variable{X:Cx} {tg:Expr}
def ZC (K:PySem.W.Frag)(tl:TE):TI:=λσ H R=>tl σ H λx H1=>∃a,x=.ref a/\(∃xs,K4 K H1 a xs)/\R (qw K a) H1
def kq (K:PySem.W.Frag)(tl:TE):TI:=λσ H R=>tl σ H λx H1=>∃a,x=.ref a/\(∃xs,W2 K H1 a xs)/\R (vz K a) H1
def ES (hl:PE X l tl):PI X tg l (ZC X.K tl):=by
 intro pins s σ H R I h;refine B4 (hl pins s σ H _ I h) λv s1 ⟨x,H1,I1,r1,q1⟩=>?_;obtain⟨a,e,⟨xs,hq⟩,q⟩:=q1;subst e;cases r1;obtain⟨its,rv,p,hz⟩:=I1.list hq;refine aDr p.isList ?_;refine⟨s1.heap.objs.size,[s1.heap.objs.size],_,_,H1,rfl,I1.kept (t':=s1.toks) λb o e=>aAc _ e,FS a _,⟨_,aAr _ rfl,rfl,rfl⟩,λb hb=>?_,q⟩;have e:b=s1.heap.objs.size:=by simpa using hb
 subst e;exact I1.af2 (aAj _) (I1.hok.fresh<|aAj _)
def VD {l:Expr}{tl:TE}(hl:PE X l tl):PI X tg l (kq X.K tl):=by
 intro pins s σ H R I h;refine B4 (hl pins s σ H _ I h) λv s1 ⟨x,H1,I1,r1,q1⟩=>?_;obtain⟨a,e,⟨xs,hq⟩,q⟩:=q1;subst e;cases r1;obtain⟨its,rv,p,hz⟩:=I1.tuple hq;refine wpAny_pyIter_tuple (show s1.heap.IsTuple a its.toArray from p) ?_;refine⟨s1.heap.objs.size,[s1.heap.objs.size],_,_,H1,rfl,I1.kept (t':=s1.toks) λb o e=>aAc _ e,zH a _,⟨_,aAr _ rfl,rfl,rfl⟩,λb hb=>?_,q⟩;have e:b=s1.heap.objs.size:=by simpa using hb
 subst e;exact I1.af2 (aAj _) (I1.hok.fresh<|aAj _)
def rq (wi:TI)(g:TG)(tb:TS):TS:=λD σ H=>wi σ H λJ H1=>∃W:Nat->Nat->St->Hp->Prop,(∃m,W 0 m σ H1)/\∀i m σ H,W i m σ H->
 (J.stop i H/\D.nx σ H)\/(J.go i H/\∃N:St->Hp->Prop,(∀ae H',N ae H'->∃m',m'<m/\W (i+1) m' ae H')/\∀x H',J.yld i H x H'->g x σ H' λqe H2=>tb {D with nx:=N,ct:=N,bk:=D.nx} qe H2)
def nS (fp:List Addr)(h:Heap):List (Addr×Obj):=fp.filterMap λb=>(h.get? b).map λo=>(b,o)
def aQ (hb:b∈fp)(e:h.get? b=some o):(b,o)∈nS fp h:=aBU.mpr ⟨b,hb,by rw[e];rfl⟩
def FJ (hp:p∈nS fp h):p.1∈fp/\h.get? p.1=some p.2:=by
 obtain⟨b,hb,e⟩:=aBU.mp hp;cases q:h.get? b with
 |none=>rw[q]at e;cases e
 |some o=>rw[q]at e;have e':(b,o)=p:=aAl e;subst e';exact⟨hb,q⟩
def Inv.pinned (I:Inv X pins σ H s)(hf:∀b∈fp,pR X pins H b)(ho:∀b∈fp,∃o,s.heap.get? b=some o/\∀v,o.data≠.cell v):Inv X (pins++nS fp s.heap) σ H s:=
 I.ad3 λp hp=>(aAI.mp hp).elim (λz=>I.pin p (aAC _ z)) λz=>by obtain⟨hb,e⟩:=FJ z;obtain⟨f0,f1,f2,_⟩:=hf p.1 hb;obtain⟨o,e',d⟩:=ho p.1 hb;rw[e]at e';cases e';exact⟨e,f0,f1,f2,d⟩
def Inv.ab1 (I:Inv X (pins++pl) σ H s):Inv X pins σ H s:=I.ad3 λp hp=>I.pin p (aAC _<|aBg _ hp)
def OM (hp:PassesOwn (model X.prog X.w) X.A X.env X.xe)(hc:X.calm=true)(hi:PI X tg v5 wi)(hg:PG X tg g)(hb:rC X body tb)(hs:∀x,foldedSetIterable v5 X.env x=pure x:=by intro _;rfl):PS X (.For tg v5 body [] pos) (rq wi g tb):=by
 intro pins s σ H D I h;refine wpAny_For (B4 (hi pins s σ H _ I h) λv s1 h1=>B4 h1 λitv s2 h2=>?_) hs;obtain⟨it,fp,tn,J,H2,e,I2,T,jm,f2,W,⟨m0,w0⟩,turn⟩:=h2;subst e;have stat:∀{H':Hp},(∀b∈fp,H' b=none)->∀b∈fp,pR X pins H' b:=λhn b hb=>⟨hn b hb,(f2 b hb).2⟩;refine codeAny_forLoop_any (λn s'=>∃i ae H',Inv X pins ae H' s'/\tn i s'.heap/\(∀b∈fp,H' b=none)/\W i n ae H') ?_ m0 ⟨0,σ,H2,I2,jm,λb hb=>(f2 b hb).1,w0⟩;rintro n s3 ⟨i,om,H3,I3,st3,fr3,w3⟩;rcases turn i n om H3 w3 with⟨stop,qn⟩|⟨go,N,hN,step⟩
 ·refine aCS hp (B4 (T.done X rfl rfl rfl hc i pins s3 om H3 X.xe I3 (stat fr3) st3 stop) λr s4 ⟨hr,I4⟩=>?_);subst hr;exact aEr ⟨om,H3,I4,qn⟩
 ·refine aCS hp (B4 (T.item X rfl rfl rfl hc i pins s3 om H3 X.xe I3 (stat fr3) st3 go) λr s4 ⟨u,hr,h4⟩=>?_);subst hr;refine aCS hp (B4 h4 λ_ s5 ⟨x,H5,I5,r5,y5,st5,fr5⟩=>?_);have I5':=I5.pinned (stat fr5) (T.obj _ _ st5);refine aCS hp (B4 (hg _ s5 om H5 x u _ I5' r5<|step x H5 y5) λ_ s6 ⟨σ6,H6,I6,q6⟩=>?_);refine aCS hp (B4 (hb _ s6 σ6 H6 _ I6 q6) λf s7 q7=>?_);have again:∀{oa:St} {H7:Hp},Inv X (pins++nS fp s5.heap) oa H7 s7->N oa H7->∃m,m<n/\∃i ae H',Inv X pins ae H' s7/\tn i s7.heap/\(∀b∈fp,H' b=none)/\W i m ae H':=λ{oa H7} I7 n7=>by obtain⟨m',hm,w7⟩:=hN oa H7 n7;refine⟨m',hm,i+1,oa,H7,I7.ab1,T.keep _ _ _ st5 λb hb o e=>(I7.pin (b,o)<|aAC _<|aAC _<|aQ hb e).1,λb hb=>?_,w7⟩;obtain⟨o,e,d⟩:=T.obj _ _ st5 b hb;exact(I7.pin (b,o)<|aAC _<|aAC _<|aQ hb e).2.1
  cases f with
  |next=>obtain⟨oa,H7,I7,n7⟩:=q7;exact again I7 n7
  |cont=>obtain⟨oa,H7,I7,n7⟩:=q7;exact again I7 n7
  |brk=>obtain⟨oa,H7,I7,q7⟩:=q7;exact⟨oa,H7,I7.ab1,q7⟩
  |ret v=>obtain⟨x7,oa,H7,I7,r7,q7⟩:=q7;exact⟨x7,oa,H7,I7.ab1,r7,q7⟩
end
end L2
namespace L2
open PySem PySem.Spec PyProof.Rows
abbrev R2:=V->V->Hp->VK->Prop
def gC (X:Cx)(f:Value->Value->Sem Value)(r:R2):Prop:=
 ∀(pins:M3) (s:Shared) (σ:St) (H:Hp) (x y:V) (v u:Value) (Q:VK),Inv X pins σ H s->RelV x v->RelV y u->r x y H Q->
  wpAny (model X.prog X.w) X.A (f v u) (EP X pins σ Q) X.xe s
def mq (X:Cx)(f:Value->Sem Value)(r:V->Hp->VK->Prop):Prop:=
 ∀(pins:M3) (s:Shared) (σ:St) (H:Hp) (x:V) (v:Value) (Q:VK),Inv X pins σ H s->RelV x v->r x H Q->
  wpAny (model X.prog X.w) X.A (f v) (EP X pins σ Q) X.xe s
def yI (X:Cx)(f:Value)(r:List V->Hp->VK->Prop):Prop:=
 ∀(pins:M3) (s:Shared) (σ:St) (H:Hp) (xs:List V) (us:List Value) (Q:VK),Inv X pins σ H s->l8 xs us->r xs H Q->
  wpAny (model X.prog X.w) X.A (call f us) (EP X pins σ Q) X.xe s
def tUn (r:V->Hp->VK->Prop)(ta:TE):TE:=λσ H Q=>ta σ H λx H1=>r x H1 Q
def rI (C:Int->Int->Prop)(g:Int->Int->V):R2:=λx y H Q=>∃i j,x=.int i/\y=.int j/\C i j/\Q (g i j) H
def UM (g:Int->Int->V):R2:=λx y H Q=>∃i j,x=.int i/\y=.int j/\Q (g i j) H
def rU (g:Int->V):V->Hp->VK->Prop:=λx H Q=>∃i,x=.int i/\Q (g i) H
section
variable{X:Cx} {a b c:Expr} {ta tb tc:TE} {pos:Pos}
def FA (ha:PE X a ta)(hb:PE X b tb){pins:M3}{s:Shared}{σ:St}{H:Hp}{R:V->V->Hp->Prop}(I:Inv X pins σ H s)
  (h:ta σ H λx H1=>tb σ H1 λy H2=>R x y H2) {Q:D2} {f:Value->Value->Sem Value}
  (hf:∀v u s2 x y H2,Inv X pins σ H2 s2->RelV x v->RelV y u->R x y H2->wpAny (model X.prog X.w) X.A (f v u) Q X.xe s2):
  wpAny (model X.prog X.w) X.A (eval a X.env) (λv aa=>wpAny (model X.prog X.w) X.A (eval b X.env) (λu eh=>wpAny (model X.prog X.w) X.A (f v u) Q X.xe eh) X.xe aa) X.xe s:=by
 refine B4 (ha pins s σ H _ I h) λv s1 ⟨x,H1,I1,r1,q1⟩=>?_;refine B4 (hb pins s1 σ H1 _ I1 q1) λu s2 ⟨y,H2,I2,r2,q2⟩=>?_;exact hf v u s2 x y H2 I2 r1 r2 q2
def gx {r:V->Hp->VK->Prop}(ho:mq X (unaryOp op) r)(ha:PE X a ta):PE X (.UnaryOp op a pos) (tUn r ta):=by intro pins s σ H Q I h;exact UnaryOp_ (B4 (ha pins s σ H _ I h) λv s1 ⟨x,H1,I1,r1,q1⟩=>ho pins s1 σ H1 x v Q I1 r1 q1)
def ak {f:Value->Value->Sem Value}{C:Int->Int->Prop}{g:Int->Int->Int}
  (rule:∀(i j:Int) (t u:Tok) (s:Shared) (Q:D2) (E:D2),C i j->Q (.int (g i j) s.toks) {s with toks:=s.toks+1}->wpAny (model X.prog X.w) X.A (f (.int i t) (.int j u)) Q E s):
  gC X f (rI C λi j=>.int (g i j)):=by
 intro pins s σ H x y v u Q I rx ry h;obtain⟨i,j,rfl,rfl,hc,q⟩:=h;obtain⟨t,rfl⟩:=rx;obtain⟨t',rfl⟩:=ry;exact rule i j t t' s _ _ hc ⟨.int (g i j),H,I.tok _,⟨_,rfl⟩,q⟩
def YN {f:Value->Value->Sem Value}{g:Int->Int->Int}
  (rule:∀(i j:Int) (t u:Tok) (s:Shared) (Q:D2) (E:D2),Q (.int (g i j) s.toks) {s with toks:=s.toks+1}->wpAny (model X.prog X.w) X.A (f (.int i t) (.int j u)) Q E s):
  gC X f (UM λi j=>.int (g i j)):=by
 intro pins s σ H x y v u Q I rx ry h;obtain⟨i,j,rfl,rfl,q⟩:=h;obtain⟨t,rfl⟩:=rx;obtain⟨t',rfl⟩:=ry;exact rule i j t t' s _ _ ⟨.int (g i j),H,I.tok _,⟨_,rfl⟩,q⟩
def XI {f:Value->Value->Sem Value}{g:Int->Int->Bool}
  (rule:∀(i j:Int) (t u:Tok) (s:Shared) (Q:D2) (E:D2),Q (.bool (g i j)) s->wpAny (model X.prog X.w) X.A (f (.int i t) (.int j u)) Q E s):
  gC X f (UM λi j=>.bl (g i j)):=by
 intro pins s σ H x y v u Q I rx ry h;obtain⟨i,j,rfl,rfl,q⟩:=h;obtain⟨t,rfl⟩:=rx;obtain⟨t',rfl⟩:=ry;exact rule i j t t' s _ _ ⟨.bl (g i j),H,I,rfl,q⟩
def my (i j:Int):Prop:=0<=j/\j<=1000000/\i.natAbs<2^64
def XJ:gC X (binaryOp .Add) (UM λi j=>.int (i+j)):=YN λ_ _ _ _ _ _ _ q=>add_int q
def WW:gC X (binaryOp .Sub) (UM λi j=>.int (i-j)):=YN λ_ _ _ _ _ _ _ q=>sub_int q
def SU:gC X (binaryOp .Mod) (rI (λ_ j=>j≠0) λi j=>.int (i.fmod j)):=ak λ_ _ _ _ _ _ _ hc q=>mod_int' hc q
def XX:gC X (binaryOp .Pow) (rI my λi j=>.int (i^j.toNat)):=ak λ_ _ _ _ _ _ _ hc q=>pow_int_small hc.1 hc.2.1 hc.2.2 q
def unI {f:Value->Sem Value}{g:Int->Int}
  (rule:∀(i:Int) (t:Tok) (s:Shared) (Q:D2) (E:D2),Q (.int (g i) s.toks) {s with toks:=s.toks+1}->wpAny (model X.prog X.w) X.A (f (.int i t)) Q E s):
  mq X f (rU λi=>.int (g i)):=by
 intro pins s σ H x v Q I rx h;obtain⟨i,rfl,q⟩:=h;obtain⟨t,rfl⟩:=rx;exact rule i t s _ _ ⟨.int (g i),H,I.tok _,⟨_,rfl⟩,q⟩
def UR:mq X (unaryOp .USub) (rU λi=>.int (-i)):=unI λ_ _ _ _ _ q=>neg_int q
end
section
variable{X:Cx} {a b c:Expr} {ta tb tc:TE} {pos:Pos}
def XB (I:Inv X pins σ H s)(q:Q (.bl k) H)(e:k=k'):EP X pins σ Q (.bool k') s:=by subst e;exact⟨.bl k,H,I,rfl,q⟩
def ZX:gC X (compareOp .Lt) (UM λi j=>.bl (decide (i<j))):=XI λ_ _ _ _ _ _ _ q=>lt_int q
def JK:gC X (compareOp .LtE) (UM λi j=>.bl (decide (i<=j))):=XI λ_ _ _ _ _ _ _ q=>le_int q
def YJ:gC X (compareOp .Gt) (UM λi j=>.bl (decide (j<i))):=XI λ_ _ _ _ _ _ _ q=>gt_int q
def WO:gC X (compareOp .Is) (λx y H Q=>y=.non/\Q (.bl (decide (x=.non))) H):=by
 intro pins s σ H x y v u Q I rx ry h;obtain⟨rfl,q⟩:=h;cases ry;refine is_none_gen (XB I q ?_);cases x<;>first
  |(cases rx;rfl)
  |(obtain⟨t,rfl⟩:=rx;rfl)
def MY (b:Expr)(h:op≠.In:=by decide)(h2:op≠.NotIn:=by decide):behindInMarks op b=false:=by
 have e1:(op==CmpOp.In)=false:=by cases op<;>first|rfl|exact absurd rfl h
 have e2:(op==CmpOp.NotIn)=false:=by cases op<;>first|rfl|exact absurd rfl h2
 cases b<;>simp[behindInMarks,e1,e2]
def WP (r r':R2)(ta tb tc:TE):TE:=λσ H Q=>ta σ H λx H1=>tb σ H1 λy H2=>r x y H2 λz H3=>∃k,z=.bl k/\
 (if k=true then tc σ H3 λw' H4=>r' y w' H4 Q else Q (.bl false) H3)
def LD (ho:gC X (compareOp op) r)(ur:gC X (compareOp op') r')(ha:PE X a ta)(hb:PE X b tb)(hc:PE X c tc)(hm:lastMarks [op,op'] [b,c]=false:=by with_unfolding_all rfl):PE X (.Compare a [op,op'] [b,c] pos) (WP r r' ta tb tc):=by
 intro pins s σ H Q I h;refine Compare_chain (B4 (ha pins s σ H _ I h) λv s1 ⟨x,H1,I1,r1,q1⟩=>chain_link (B4 (hb pins s1 σ H1 _ I1 q1) λu s2 ⟨y,H2,I2,r2,q2⟩=>B4 (ho pins s2 σ H2 x y v u _ I2 r1 r2 q2) λd s3 ⟨z,H3,I3,r3,k,e,q3⟩=>?_)) hm
 subst e;cases r3;refine aBj ?_;cases k with
 |false=>exact ite_ff ⟨.bl false,H3,I3,rfl,q3⟩
 |true=>exact ite_tt (chain_last<|B4 (hc pins s3 σ H3 _ I3 q3) λw' s4 ⟨z',H4,I4,r4,q4⟩=>ur pins s4 σ H4 y z' u w' Q I4 r2 r4 q4)
def AT:(sizeLine:Nat)<2^63:=by rw[aFh];decide
def vals1 (r:l8 [x] us):∃u,us=[u]/\RelV x u:=by
 cases r with
 |cons r1 r2=>cases r2;exact⟨_,rfl,r1⟩
def vals2 (r:l8 [x,y] us):∃u w',us=[u,w']/\RelV x u/\RelV y w':=by
 cases r with
 |cons r1 r2=>
  cases r2 with
  |cons r3 r4=>cases r4;exact⟨_,_,rfl,r1,r3⟩
def MN:yI X (.builtin "abs") (λxs H Q=>∃i,xs=[.int i]/\Q (.int (if i<0 then-i else i)) H):=by intro pins s σ H xs us Q I r h;obtain⟨i,rfl,q⟩:=h;obtain⟨u,rfl,t,rfl⟩:=vals1 r;exact call_abs_int λu tk=>⟨.int (if i<0 then-i else i),H,I.tok _,⟨_,rfl⟩,q⟩
end
end L2
namespace L2
open PySem PySem.Spec PyProof.Rows
section
variable{prog:Program} {w:World} {A:Around} {E:D2} {s:Shared} {K:PySem.W.Frag} {x dx C f:Addr} {mA:bK} {name:Str} {v:Value}
end
section
variable{P:Program} {w:World} {H H':Hp} {h h':Heap} {a C dx:Addr} {fs xc:List (Str×V)}
end
section
variable{X:Cx} {pins:M3} {σ:St} {H:Hp} {s:Shared} {a C dx:Addr} {fs:List (Str×V)} {f:Str} {v:V} {A:Around} {E:D2}
end
section
variable{X:Cx} {o e value:Expr} {f:Str} {pos pos' tpos:Pos} {ta tv:TE}
end
section
variable{X:Cx} {pins:M3} {σ:St} {H:Hp} {s:Shared} {A:Around} {E:D2} {Q:D2} {c:Value} {b:Bool}
end
end L2
namespace L2
open PySem PySem.Spec PyProof.Rows
structure Room (k:Nat)(A:Around):Prop where
 hd:A.handled=none
 dp:A.depth+3*k+5<recursionLimit
 un:A.units+16*k+200<cLine
def Room.mono (r:Room k A)(h:j<=k):Room j A:=⟨r.hd,by have:=r.dp;lia,by have:=r.un;lia⟩
def Room.deeper (r:Room (k+1) A)(env:Env):Room k (A.deeper env):=
 ⟨r.hd,by have:=r.dp;show A.depth+1+3*k+5<_;lia,by have:=r.un;show A.units+3+16*k+200<_;lia⟩
def Room.depth (r:Room k A):A.depth<recursionLimit:=by have:=r.dp;lia
def Room.units (r:Room k A):A.units+64<cLine:=by have:=r.un;lia
def wq:TA:=λ_ H Q=>Q [] H
def gk (ta:TE)(tr:TA):TA:=λσ H Q=>ta σ H λx H1=>tr σ H1 λxs H2=>Q (x::xs) H2
section
variable{X:Cx} {e:Expr} {es:List Expr} {te:TE} {t:TA} {pos:Pos}
def bR:PA X [] wq:=λ_ _ _ _ H Q I h=>aEW ⟨[],H,I,.nil,h⟩
def L5 (ha:PE X e te)(hr:PA X es t)(hs:starEach (e::es) X.env=(false,eval e X.env)::starEach es X.env:=by rfl):PA X (e::es) (gk te t):=by intro pos pins s σ H Q I h;rw[hs];show wpAny _ _ (spliced ((false,eval e X.env)::backTo pos (starEach es X.env))) _ _ s;refine aEH (B4 (ha pins s σ H _ I h) λu s1 ⟨x,H1,I1,r1,q1⟩=>?_);exact B4 (hr pos pins s1 σ H1 _ I1 q1) λus s2 ⟨xs,H2,I2,r2,q2⟩=>⟨x::xs,H2,I2,.cons r1 r2,q2⟩
def tj (t:TA):TE:=λσ H Q=>t σ H λxs H1=>xs.length<=sizeLine/\∀p,H1 p=none->Q (.ref p) (upd H1 p<|.tup xs)
def oq (t:TA):TE:=λσ H Q=>t σ H λxs H1=>xs.length<=sizeLine/\∀p,H1 p=none->Q (.ref p) (upd H1 p<|.lst xs)
def VQ {x1}(h:PA X es t):PE X (.Tuple es x1 pos) (tj t):=by intro pins s σ H Q I hq;refine wpAny_Tuple_spliced (B4 (h pos pins s σ H _ I hq) λus s1 ⟨xs,H1,I1,r,z,q⟩=>⟨by rw[<-r.length];exact z,?_⟩);have hf:H1 s1.heap.objs.size=none:=I1.hok.fresh (aAj _);refine⟨.ref s1.heap.objs.size,upd H1 s1.heap.objs.size (.tup xs),I1.laid (t':=s1.toks) (λb u e=>aAc _ e) (aAj _) ?_,rfl,q _ hf⟩;exact⟨z,us,r,⟨_,aAr _ rfl,rfl,_,rfl⟩⟩
def JM (h:PA X es t):PE X (.List es pos) (oq t):=by intro pins s σ H Q I hq;refine wpAny_List_spliced (B4 (h pos pins s σ H _ I hq) λus s1 ⟨xs,H1,I1,r,z,q⟩=>⟨by rw[<-r.length];exact z,?_⟩);have hf:H1 s1.heap.objs.size=none:=I1.hok.fresh (aAj _);refine⟨.ref s1.heap.objs.size,upd H1 s1.heap.objs.size (.lst xs),I1.laid (t':=s1.toks) (λb u e=>aAc _ e) (aAj _) ?_,rfl,q _ hf⟩;exact⟨z,us,0,r,aAr _ rfl⟩
end
abbrev Sp:=List V->Hp->VK->XK->Prop
abbrev PM:=List Env->Hp->Shared->XK->Value->Shared->Prop
structure Env0 (P:Program)(w:World)(K:PySem.W.Frag)(mg:bK)(base:Heap)(A:Around)(outer:List Env)(s:Shared)(H:Hp):Prop where
 frames:A.frames=some outer
 mod:Mod K mg base
 bs:∀b o,base.get? b=some o->s.heap.get? b=some o/\H b=none
 bsz:base.objs.size<=s.heap.objs.size
 funs:s.heap.FunFrames base outer
 frf:∀b∈vU outer,H b=none
 hok:eY P w H s.heap
 bare:AllBare s.gens
def CE (outer:List Env)(P:Program)(w:World)(H:Hp)(s:Shared)(Q:VK)(u:Value)(s':Shared):Prop:=
 ∃v H',s'.os=s.os/\AllBare s'.gens/\Un (vU outer) [] H H' s.heap s'.heap/\eY P w H' s'.heap/\RelV v u/\Q v H'
def CR (CX:PM)(outer:List Env)(P:Program)(w:World)(H:Hp)(s:Shared)(Q:VK)(E:XK)(r:Result)(s':Shared):Prop:=
 match r with
 |.ok (.ret u)=>CE outer P w H s Q u s'
 |.ok _=>False
 |.error e=>CX outer H s E e s'
structure FnOk (P:Program)(w:World)(K:PySem.W.Frag)(mg:bK)(base:Heap)(CX:PM)(k:Nat)(f:Addr)(fd:FuncData)(ps:List Str)(sp:Sp):Prop where
 len:∀vs H Q E,sp vs H Q E->vs.length=ps.length
 run:∀(A:Around) (outer:List Env) (s:Shared) (H:Hp) (args:Args) (us:List Value) (vs:List V) (Q:VK) (E:XK),Room k A->Env0 P w K mg base A outer s H->BindsTo s fd args (ps.zip us)->l8 vs us->sp vs H Q E->
  codeAny (model P w) A (.call (.ref f) args) (CR CX outer P w H s Q E) s
def FnOk.imp {P:Program}{w:World}{K:PySem.W.Frag}{mg:bK}{base:Heap}{CX:PM}{k:Nat}{f:Addr}{fd:FuncData}{ps:List Str}{sp sp':Sp}(F:FnOk P w K mg base CX k f fd ps sp)
  (h:∀vs H Q E,sp' vs H Q E->sp vs H Q E):FnOk P w K mg base CX k f fd ps sp':=
 ⟨λvs H Q E q=>F.len vs H Q E (h _ _ _ _ q),λA outer s H args us vs Q E hr he hb hv hs=>F.run A outer s H args us vs Q E hr he hb hv (h _ _ _ _ hs)⟩
section
variable{X:Cx} {pins:M3} {σ:St} {H:Hp} {s s':Shared}
def Inv.ae9 (I:Inv X pins σ H s):Env0 X.prog X.w X.K X.mg X.base X.A X.stack s H:=
 ⟨I.ok.frames,I.ok.mod,I.bs,aAu I.ok.bsz I.sz,I.stack,I.ad5,I.hok,I.bare⟩
def Inv.after (I:Inv X pins σ H s)(h:CE X.stack X.prog X.w H s Q u s'):EP X pins σ Q u s':=by obtain⟨v,H',os,bare,un,hok,r,q⟩:=h;obtain⟨hh,g,d,t,os'⟩:=s';obtain rfl:os'=s.os:=os;exact⟨v,H',I.call (h':=hh) (g':=g) (d':=d) (t':=t) (ch:=[]) un hok bare (λb z=>absurd z (by simp)),r,q⟩
end
def ZD (sp:Sp)(zo:List V)(E:XK)(t:TA):TE:=λσ H Q=>t σ H λvs H1=>sp (vs++zo) H1 Q E
def Binds (K:PySem.W.Frag)(fd:FuncData)(ps:List Str)(ds:List Value):Prop:=
 ∀(s:Shared) (us:List Value),K.In s.heap->(us++ds).length=ps.length->BindsTo s fd ⟨us,[]⟩ (ps.zip<|us++ds)
def Binds.all {K:PySem.W.Frag}{fd:FuncData}{ps:List Str}(h:∀us:List Value,us.length=ps.length->bindArgs fd ⟨us,[]⟩=pure (ps.zip us)):Binds K fd ps []:=λs us _ hl=>by rw[aBV]at hl⊢;exact .of_eq (h us hl)
def BA (CX:PM)(X:Cx)(E:XK):Prop:=∀(pins:M3) (σ:St) (H:Hp) (s:Shared) (e:Value) (s':Shared),Inv X pins σ H s->CX X.stack H s E e s'->X.xe e s'
section
variable{X:Cx} {CX:PM} {k:Nat} {f C:Addr} {fd:FuncData} {ps:List Str} {sp:Sp} {zo:List V} {ds:List Value} {E:XK} {x m:Str} {p pos apos:Pos} {e o:Expr} {es:List Expr} {ta:TE} {t:TA}
def WK (F:FnOk X.prog X.w X.K X.mg X.base CX k f fd ps sp)(hr:Room k X.A)(hb:Binds X.K fd ps ds)(hd:l8 zo ds)(hx:BA CX X E)(I:Inv X pins σ H s)(r:l8 vs us)(h:sp (vs++zo) H Q E):wpAny (model X.prog X.w) X.A (call (.ref f) us) (EP X pins σ Q) X.xe s:=by
 have r2:l8 (vs++zo) (us++ds):=r.append hd;have hl:(us++ds).length=ps.length:=by rw[<-r2.length];exact F.len _ _ _ _ h
 refine wpAny_call (aDJ (F.run X.A X.stack s H ⟨us,[]⟩ (us++ds) (vs++zo) Q E hr I.ae9 (hb s us I.kIn hl) r2 h) λr s' hq=>?_);cases r with
 |error e=>exact hx pins σ H s e s' I hq
 |ok fl=>
  cases fl with
  |ret u=>exact I.after hq
  |next=>exact aAi hq
  |brk=>exact aAi hq
  |cont=>exact aAi hq
def EQ (F:FnOk X.prog X.w X.K X.mg X.base CX k f fd ps sp)(hr:Room k X.A)(hg:Gl X x)(hm:X.mg x=some (.ref f))(hk:PySem.W.keepIn X.K (.ref f)=true)(hb:Binds X.K fd ps ds)(hd:l8 zo ds)(hx:BA CX X E)
  (ha:PA X (e::es) t) (gc:(x==("__debug__":Str))=false:=by decide) (he:starEach (e::es) X.env=(false,eval e X.env)::starEach es X.env:=by rfl) (bg:(backTo pos (starEach es X.env)).any (·.1)=false:=by rfl):
  PE X (.Call (.Name x p) (e::es) [] pos) (ZD sp zo E t):=by
 intro pins s σ H Q I h;refine aAZ (tR I hg hm ?_ gc);refine PySem.W.callWith_K (h₀:=X.base) I.ok.mod.kin hk (B4 (ha pos pins s σ H _ I h) λus s1 ⟨vs,H1,I1,r,q⟩=>⟨I1.kIn,?_⟩) he bg;exact WK F hr hb hd hx I1 r q
structure Mk (K:PySem.W.Frag)(C f:Addr):Prop where
 makes:PySem.W.makesIn K C=true
 init:PySem.W.findIn K (.ref C) "__init__"=some (some (.ref f))
 fn:PySem.W.isFn K (.ref f)=true
 kp:PySem.W.keepIn K (.ref C)=true
end
section
variable{X:Cx} {CX:PM} {k:Nat} {f C:Addr} {fd:FuncData} {ps ks:List Str} {sp:Sp} {E:XK} {x m:Str} {p pos apos kpos:Pos} {e o:Expr} {es:List Expr} {kws:List Keyword} {te ta:TE} {t tk:TA} {nm:Option Str}
variable{g:List Value->List Value->List Value} {gV:List V->List V->List V}
end
structure FnScope (N P:List Str)(sc:Scope):Prop where
 kind:sc.kind=.function
 co:sc.isCoroutine=false
 gen:sc.isGenerator=false
 nd:N.Nodup
 pre:N.take P.length=P
 par:∀x∈P,sc.names.lookup x=some .local\/sc.names.lookup x=some .cell
 nofree:∀y∈sc.names,y.2≠.free
theorem qS {kindOf:Str->Option NameKind}{x:Str}:∀{binds:List (Str×Value)} {m:bK},(∀v,(x,v)∉binds)->bindL kindOf binds m x=m x
 |[],_,_=>rfl
 |(n,v)::r,m,h=>by
  unfold bindL;rw[qS λw hw=>h w (aAe _ hw)];split
  ·have:x≠n:=by rintro rfl;exact h v aAY
   simp[this]
  ·rfl
theorem qV {kindOf:Str->Option NameKind}{x:Str}:∀{binds:List (Str×Value)} {m:bK},(∀v,(x,v)∉binds)->bindC kindOf binds m x=m x
 |[],_,_=>rfl
 |(n,v)::r,m,h=>by
  unfold bindC;rw[qV λw hw=>h w (aAe _ hw)];split
  ·rfl
  ·have:x≠n:=by rintro rfl;exact h v aAY
   simp[this]
theorem qU {kindOf:Str->Option NameKind}{x:Str}{v:Value}:∀{P:List Str} {vs:List Value} {i:Nat} {m:bK},P.Nodup->P[i]?=some x->vs[i]?=some v->kindOf x=some .local->
  bindL kindOf (P.zip vs) m x=some v
 |[],_,_,_,_,h,_,_=>by simp at h
 |_::_,[],_,_,_,_,h,_=>by simp at h
 |p::P,w::vs,0,m,nd,h1,h2,hk=>by simp at h1 h2;subst h1;subst h2;show bindL kindOf ((p,w)::P.zip vs) m p=_;unfold bindL;rw[qS λv hv=>(aAJ.mp nd).1 (aDM hv).1,if_pos hk];simp
 |p::P,w::vs,i+1,m,nd,h1,h2,hk=>by show bindL kindOf ((p,w)::P.zip vs) m x=_;unfold bindL;exact qU (i:=i) (aAJ.mp nd).2 (by simpa using h1) (by simpa using h2) hk
theorem qY {kindOf:Str->Option NameKind}{x:Str}{v:Value}:∀{P:List Str} {vs:List Value} {i:Nat} {m:bK},P.Nodup->P[i]?=some x->vs[i]?=some v->kindOf x≠some .local->
  bindC kindOf (P.zip vs) m x=some v
 |[],_,_,_,_,h,_,_=>by simp at h
 |_::_,[],_,_,_,_,h,_=>by simp at h
 |p::P,w::vs,0,m,nd,h1,h2,hk=>by simp at h1 h2;subst h1;subst h2;show bindC kindOf ((p,w)::P.zip vs) m p=_;unfold bindC;rw[qV λv hv=>(aAJ.mp nd).1 (aDM hv).1,if_neg hk];simp
 |p::P,w::vs,i+1,m,nd,h1,h2,hk=>by show bindC kindOf ((p,w)::P.zip vs) m x=_;unfold bindC;exact qY (i:=i) (aAJ.mp nd).2 (by simpa using h1) (by simpa using h2) hk
def start (N:List Str)(vs:List V):St:=vs.map some++aCN (N.length-vs.length) none
def AM (CX:PM)(P:Program)(w:World)(K:PySem.W.Frag)(mg:bK)(base:Heap)(N:List Str)(qual:Str)(scope:Scope)(f:Addr)(cd:Value)(A:Around)(outer:List Env)(s:Shared)(H:Hp)(E:XK):Cx where
 prog:=P
 w:=w
 K:=K
 mg:=mg
 base:=base
 A:=A.deeper (envOfC qual scope s.heap.objs.size f cd)
 N:=N
 s9:=s
 H9:=H
 env:=envOfC qual scope s.heap.objs.size f cd
 outer:=outer
 stack:=envOfC qual scope s.heap.objs.size f cd::outer
 ex:=[]
 calm:=true
 fn:=λ_=>true
 pn:=[]
 xe:=λe s'=>wpAny (model P w) (A.deeper<|envOfC qual scope s.heap.objs.size f cd) (leaving (envOfC qual scope s.heap.objs.size f cd) e) (λ_ s''=>CX outer H s E e s'') (λe' s''=>CX outer H s E e' s'') s'
def vL {sc:Scope}{n:Nat}{x:Str}(h:sc.names.lookup x=some .cell):∃c,(cellsFrom n sc.names []).lookup x=some c:=by have q:=PySem.W.cellsFrom_some sc.names n [] (.inl h);exact aEX.mp q
def HY {CX:PM}{P:Program}{w:World}{K:PySem.W.Frag}{mg:bK}{base:Heap}{N ps:List Str}{qual:Str}{scope:Scope}{f:Addr}{cd:Value}{A:Around}{outer:List Env}{s s1:Shared}{H:Hp}{E:XK}{us:List Value}{vs:List V}
  (S:FnScope N ps scope) (hd:A.handled=none) (e0:Env0 P w K mg base A outer s H) (hl:vs.length=ps.length) (r:l8 vs us)
  (x:InCallC s s.heap.objs.size (bindL (envOfC qual scope s.heap.objs.size f cd).kindOf (ps.zip us) λ_=>none) (cellsFrom (s.heap.objs.size+1) scope.names []) (bindC (envOfC qual scope s.heap.objs.size f cd).kindOf (ps.zip us) λ_=>none) s1):
  Inv (AM CX P w K mg base N qual scope f cd A outer s H E) [] (start N vs) H s1:=by
 have bg:ps.length<=N.length:=by have:=congrArg List.length S.pre;rw[aBi]at this;lia
 obtain⟨h1,tk,rfl,hk⟩:=x.done;have noA:∀b:Addr,b∉(AM CX P w K mg base N qual scope f cd A outer s H E).ex:=λb z=>absurd (show b∈([]:List Addr)from z) (by simp);refine⟨⟨e0.mod,S.kind,rfl,rfl,aAj _,λy z c h1 h2=>?_,λy hy=>?_,λy c _ h=>?_,λ_=>hd,aFK e0.frames,.inr ⟨rfl,rfl⟩,λb z=>absurd z (noA b),e0.bs,e0.bsz,λb _ _=>noA b,λb z=>absurd z (noA b),e0.funs,e0.frf⟩,
  rfl,e0.bare,Un.kept hk,⟨_,x.toInCall.ns,λi y v h1 h2 h3=>?_⟩,λy c h=>⟨_,x.cell y c h⟩,e0.hok.fresh (aAj _),λy c h=>?_,λp hp=>absurd (show p∈([]:M3)from hp) (by simp),e0.hok.kept hk,?_⟩
 ·exact name_of_addr x.apart (PySem.mem_of_lookup h1) (PySem.mem_of_lookup h2)
 ·have hy:scope.names.lookup y=some .cell\/scope.names.lookup y=some .free:=hy;rcases hy with hy|hy
  ·exact vL hy
  ·exact absurd rfl (S.nofree _<|PySem.mem_of_lookup hy)
 ·exact aDl (x.above y c<|PySem.mem_of_lookup h)
 ·have hi:i<vs.length:=by
   unfold start at h2;by_cases hi:i<vs.length
   ·exact hi
   ·rw[aAx (by simpa using hi)]at h2;rw[aBn]at h2;split at h2<;>cases h2
  have ha:vs[i]?=some v:=by
   unfold start at h2;rw[aAN (by simpa using hi),aAK]at h2;cases e:vs[i]? with
   |none=>rw[e]at h2;cases h2
   |some a=>rw[e]at h2;cases h2;rfl
  obtain⟨u,hu,rv⟩:=r.get ha;have hp:ps[i]?=some y:=by rw[<-S.pre,List.getElem?_take_of_lt (by lia)];exact h1
  have ndP:ps.Nodup:=by rw[<-S.pre];exact S.nd.sublist (List.take_sublist _ _)
  refine⟨u,rv,?_⟩;rcases S.par y (aAv hp)with k|k
  ·exact .inl ⟨k,qU ndP hp hu k⟩
  ·obtain⟨c,e⟩:=vL (n:=s.heap.objs.size+1) k;refine .inr ⟨.inl k,c,e,?_⟩;have q:=x.cell y c e;rw[qY ndP hp hu (by show scope.names.lookup y≠_;rw[k];decide)]at q;exact q
 ·exact e0.hok.fresh (aDl<|x.above y c<|PySem.mem_of_lookup h)
 ·unfold start;show _=N.length;rw[aAy,aAh,aCm]
  lia
def TZ {CX:PM}{P:Program}{w:World}{K:PySem.W.Frag}{mg:bK}{base:Heap}{k:Nat}{f:Addr}{name qual:Str}{params:Arguments}{body:List Stmt}{scope:Scope}{dV kV doc pm cdv ct oc:Value}{an od:Option Addr}
  {osl:Array (Option Value)} {N ps:List Str} {sp:Sp} (lk:K.lookup f=some ⟨oc,od,.func (PySem.W.fnOf name qual params body scope dV kV doc pm an cdv ct),osl⟩) (cg:PySem.W.codeIn K cdv qual=true) (S:FnScope N ps scope)
  (len:∀vs H Q E,sp vs H Q E->vs.length=ps.length)
  (uu:∀(A:Around) (outer:List Env) (s:Shared) (H:Hp) (vs:List V) (Q:VK) (E:XK),Room k (A.deeper (envOfC qual scope s.heap.objs.size f cdv))->sp vs H Q E->
   ∃t,rC (AM CX P w K mg base N qual scope f cdv A outer s H E) body t/\t {nx:=λ_ H'=>Q .non H',rt:=Q} (start N vs) H):
  FnOk P w K mg base CX (k+1) f (PySem.W.fnOf name qual params body scope dV kV doc pm an cdv ct) ps sp:=by
 refine⟨len,λA outer s H args us vs Q E hr e0 hb r hsp=>?_⟩;have hl:=len _ _ _ _ hsp;have KX:K.In s.heap:=e0.mod.kin.keeps λb o e=>(e0.bs b o e).1;have lim:s.heap.NoLimit:=e0.mod.nolimit.keeps λb o e=>(e0.bs b o e).1;have mv:∀y∈ps.zip us,scope.names.lookup y.1=some .local\/(scope.names.lookup y.1=some .cell/\((cellsFrom (s.heap.objs.size+1) scope.names []).lookup y.1).isSome=true):=λ⟨n,v⟩ hy=>by
  rcases S.par n (aDM hy).1 with q|q
  ·exact .inl q
  ·exact .inr ⟨q,PySem.W.cellsFrom_some _ _ _ (.inl q)⟩
 refine codeAny_call_function hr.depth (KX _ _ lk) rfl S.co S.gen rfl (PySem.W.codeRec_of KX cg) (hb _ _ _ _ ?_);refine wpAny_newFunctionEnv_cells S.kind mv λenv he s1 x=>?_;subst he;refine⟨lim.keeps x.toInCall.keep,codeAny_func ?_⟩;obtain⟨t,ht,hq⟩:=uu A outer s H vs Q E (hr.deeper _) hsp;have I:Inv (AM CX P w K mg base N qual scope f cdv A outer s H E) [] (start N vs) H s1:=HY S hr.hd e0 hl r x;refine aCs (ht [] s1 (start N vs) H _ I hq) (λfl s' hs=>?_) λe s' hs=>hs;have fin:∀{ae:St} {H':Hp} {v:V} {u:Value},Inv (AM CX P w K mg base N qual scope f cdv A outer s H E) [] ae H' s'->RelV v u->Q v H'->CE outer P w H s Q u s':=
  λ{ae H' v u} J rv q=>⟨v,H',J.os,J.bare,J.base,J.hok,rv,q⟩
 cases fl with
 |ret u=>obtain⟨v,ae,H',J,rv,q⟩:=hs;exact fin J rv q
 |next=>obtain⟨ae,H',J,q⟩:=hs;exact fin (v:=V.non) (u:=Value.none) J rfl q
 |brk=>obtain⟨_,_,_,q⟩:=hs;exact aAi q
 |cont=>obtain⟨_,_,_,q⟩:=hs;exact aAi q
end L2
namespace L2
open PySem PySem.Spec PyProof.Rows
section
variable{X:Cx} {x:Str} {p pos:Pos} {e:Expr} {es:List Expr} {t:TA} {id T:String} {r:List V->Hp->VK->Prop}
end
end L2
namespace HT
open PySem PyProof.Rows
def lexLt:List Int->List Int->Bool
 |[],[]=>false
 |[],_::_=>true
 |_::_,[]=>false
 |x::xs,y::ys=>if x=y then lexLt xs ys else decide (x<y)
def F1 (x y:Int)(xs ys:List Int):lexLt (x::xs) (y::ys)=if x=y then lexLt xs ys else decide (x<y):=rfl
def X7:lexLt [] []=false:=rfl
def L3 (y:Int)(ys:List Int):lexLt [] (y::ys)=true:=rfl
def B0 (x:Int)(xs:List Int):lexLt (x::xs) []=false:=rfl
def xA (A:Around)(s:Shared)(a:Int)(t:Tok)(c:Int)(u:Tok):∃e,SeqAt.EqAt A s (.int a t) (.int c u) e/\(e=true↔a=c):=
 ⟨(a==c),aEI a t c u,by simp⟩
def xJ (A:Around)(s:Shared)(a:Int)(t:Tok)(c:Int)(u:Tok)(prog:Program)(w:World)(E:D2)(Q:D2)(h:Q (.bool (decide (a<c))) s):
  wpAny (model prog w) A (richCompare .Lt (.int a t) (.int c u)) Q E s:=
 (PyProof.Rows.lt_int h:wpAny (model prog w) A (compareOp .Lt (.int a t) (.int c u)) Q E s)
section
open PySem.SeqAt
open PySem.AutoSeq1 (wpAny_loadPart')
open PySem.MeetsSeq PySem.MeetsSeq2 PySem.MeetsSeq3
def qA (l b:Addr)(items ao:Array Value)(n n2:Nat)(dd va:Option Addr)(sl uc:Array (Option Value))(ns ms:List Int)(hi:IntsAre items.toList ns)(hj:IntsAre ao.toList ms):
  Meets (Builtin.«tuple.__lt__» ⟨[.ref l,.ref b],[]⟩)
   (λ_ R s=>s.heap.get? l=some {cls:=.type "tuple",dict:=dd,data:=.seq items n,slots:=sl}/\s.heap.get? b=some {cls:=.type "tuple",dict:=va,data:=.seq ao n2,slots:=uc}/\
    R (.ok (.ret (.bool (lexLt ns ms)))) s):=
 .of_wp λprog w A R s h=>by
  obtain⟨hp,g,d,tk,os⟩:=s;obtain⟨hl,hb,h⟩:=h;have f2:=AutoSeq1.sub_tuple_tuple;have z1:items.size=ns.length:=by rw[<-hi.length];simp
  have z2:ao.size=ms.length:=by rw[<-hj.length];simp
  wp_walk using aEs hl,aEs hb,aCu _ (λrest b s'=>b.1=none/\s'=⟨hp,g,d,tk,os⟩/\∃(vs ws:List Value) (ud ue:List Int),rest=vs.zip ws/\
   IntsAre vs ud/\IntsAre ws ue/\ud.length+ao.size=ue.length+items.size/\R (.ok (.ret (.bool (lexLt ud ue)))) ⟨hp,g,d,tk,os⟩) _
  case turn=>
   rintro⟨y,x⟩ rest b s' ⟨km,rfl,vs,ws,ud,ue,hz,uf,xv,hlen,hR⟩;cases uf with
   |nil=>rw[List.zip_nil_left]at hz;cases hz
   |cons a t hvi'=>
    cases xv with
    |nil=>rw[List.zip_nil_right]at hz;cases hz
    |cons c u hwi'=>
     rw[aBW]at hz;injection hz with zr af;injection zr with hy hx;subst hy hx;rw[F1]at hR;simp only[aAs]at hlen;obtain⟨e,he,vc⟩:=xA A.in1 ⟨hp,g,d,tk,os⟩ a t c u;refine aAa (he prog w _ _ ?_);cases e with
     |true=>
      rw[if_pos (vc.mp rfl)]at hR
      wp_walk
      exact⟨rfl,rfl,_,_,_,_,af,hvi',hwi',by lia,hR⟩
     |false=>
      rw[if_neg (λq=>absurd (vc.mpr q) aAH)]at hR;have hri:=xJ A.in1 ⟨hp,g,d,tk,os⟩ a t c u prog w
      wp_walk using hri
      exact⟨_,rfl,by simpa using hR⟩
  case fin=>
   rintro⟨b1,b2⟩ s' ⟨km,rfl,vs,ws,ud,ue,hz,uf,xv,hlen,hR⟩;simp only at km;subst km;have hv:lexLt ud ue=decide (items.size<ao.size):=by
    cases uf with
    |nil=>
     cases xv with
     |nil=>simp only[aAR]at hlen;rw[X7];exact(decide_eq_false (by lia)).symm
     |cons c u hw=>simp only[aAR,aAs]at hlen;rw[L3];exact(decide_eq_true (by lia)).symm
    |cons a t hv=>
     cases xv with
     |nil=>simp only[aAR,aAs]at hlen;rw[B0];exact(decide_eq_false (by lia)).symm
     |cons c u hw=>rw[aBW]at hz;cases hz
   rw[hv]at hR
   wp_walk
   exact⟨_,rfl,by simpa[Builtin.Tuple.tupleCompareSizes]using hR⟩
  case h=>exact⟨rfl,rfl,items.toList,ao.toList,ns,ms,rfl,hi,hj,by lia,h⟩
end
section
variable{prog:Program} {w:World} {A:Around} {E:D2} {s:Shared}
def lt_tupInts {Q:D2}(hl:IsTup s.heap l items)(hb:IsTup s.heap b ao)(hi:IntsAre items.toList ns)(hj:IntsAre ao.toList ms)(hu:A.units<cLine)(h:Q (.bool (lexLt ns ms)) s):wpAny (model prog w) A (compareOp .Lt (.ref l) (.ref b)) Q E s:=by
 obtain⟨⟨cls,dd,data,sl⟩,ho,hc,n,hd⟩:=id hl;obtain⟨⟨cls2,va,data2,uc⟩,kl,jr,n2,hd2⟩:=id hb;simp only at hc hd jr hd2;subst hc hd jr hd2;exact richCompare_meets_room (op:=.Lt) ⟨_,ho,rfl⟩ ⟨_,kl,rfl⟩ PySem.F.slot_tuple_lt PySem.F.entry_tuple_lt (PySem.F.args_tuple_lt_2 _ _) (qA l b items ao n n2 dd va sl uc ns ms hi hj)
  ⟨ho,kl,show aDp (lexLt ns ms)≠Value.notImplemented/\Q (.bool (lexLt ns ms)) s from⟨(λx=>nomatch x),h⟩⟩ hu
def cat_tup {Q:D2}(ht:IsTup s.heap t vs.toArray)(hb:IsTup s.heap b ws.toArray)(hv:vs≠[])(h1:ws=[]->Q (.ref t) s)(h2:ws≠[]->Q (.ref s.heap.objs.size) {s with heap:=s.heap.push {cls:=.type "tuple",data:=.seq (vs++ws).toArray}})(gg:vs.length+ws.length<=sizeLine):wpAny (model prog w) A (binaryOp .Add (.ref t) (.ref b)) Q E s:=by
 obtain⟨⟨cls,dd,data,sl⟩,ho,hc,n,hd⟩:=id ht;obtain⟨⟨cls2,va,data2,uc⟩,kl,jr,n2,hd2⟩:=id hb;simp only at hc hd jr hd2;subst hc hd jr hd2;have e:vs.toArray++ws.toArray=(vs++ws).toArray:=by simp
 by_cases hw:ws=[]
 ·exact aFC ⟨_,ho,rfl⟩ ⟨_,kl,rfl⟩ aFo seq_tuple_add PySem.F.slot_tuple_add PySem.F.entry_tuple_add (PySem.F.args_tuple_add_2 _ _)
   (tuple_addW1 t b vs.toArray ws.toArray n n2 dd va sl uc (by simpa using hv) (by simp[hw])) ⟨ho,kl,h1 hw⟩
 ·refine aFC ⟨_,ho,rfl⟩ ⟨_,kl,rfl⟩ aFo seq_tuple_add PySem.F.slot_tuple_add PySem.F.entry_tuple_add (PySem.F.args_tuple_add_2 _ _)
   (tuple_addW2 t b vs.toArray ws.toArray n n2 dd va sl uc (by simpa using hv) (by simpa using hw) (by rw[aAo,aAo];exact gg)) ⟨ho,kl,?_⟩
  rw[e];exact h2 hw
def sIx (n d:Nat):Option Int->Nat
 |none=>d
 |some v=>if v<0 then(v+(n:Int)).toNat else min v.toNat n
def ZJ (n d:Nat):sIx n d none=d:=rfl
def sIx_nat (n d k:Nat):sIx n d (some (k:Int))=min k n:=by show(if(k:Int)<0 then((k:Int)+(n:Int)).toNat else min (k:Int).toNat n)=min k n;rw[if_neg (by lia),aBS]
def XF (n d:Nat)(hd:d<=n)(o:Option Int):sIx n d o<=n:=by
 cases o with
 |none=>exact hd
 |some v=>
  show(if v<0 then(v+(n:Int)).toNat else min v.toNat n)<=n;by_cases hv:v<0
  ·rw[if_pos hv];lia
  ·rw[if_neg hv];exact Nat.min_le_right _ _
def CP (v:Int)(n d:Nat):(if v<0 then max (v+(n:Int)) 0 else min v (n:Int))=((sIx n d (some v):Nat):Int):=by
 show(if v<0 then max (v+(n:Int)) 0 else min v (n:Int))=(((if v<0 then(v+(n:Int)).toNat else min v.toNat n):Nat):Int);by_cases hv:v<0
 ·simp only[if_pos hv];lia
 ·simp only[if_neg hv];lia
def BR (lo hi:Option Int)(n:Nat):aDz lo hi 1 (n:Int)=(((sIx n 0 lo:Nat):Int),((sIx n n hi:Nat):Int)):=by
 have h1:¬((1:Int)<0):=by lia
 unfold aDz;simp only[h1,if_false];refine aGb ?_ ?_
 ·cases lo with
  |none=>rfl
  |some v=>exact CP v n 0
 ·cases hi with
  |none=>rfl
  |some v=>exact CP v n n
def zG (i j:Nat):aCO (i:Int) (j:Int) 1=j-i:=by
 unfold aCO;have h1:(1:Int)>0:=by lia
 simp only[h1,if_true,Int.ediv_one];split<;>lia
def oG {Q:Option Int->Shared->Prop}(p:IsPart v o)(h:Q o s):wpAny (model prog w) A (Builtin.Slice.slicePartIndex v) Q E s:=by
 cases p with
 |none=>exact slicePart_none h
 |int i t=>exact slicePart_int h
def jK {sl:Addr}{vl vu:Value}{lo hi:Option Int}{n:Nat}{Q:Int×Int×Nat->Shared->Prop}(hs:s.heap.IsSliceOf sl vl vu .none)(pl:IsPart vl lo)(pu:IsPart vu hi)
  (h:Q (((sIx n 0 lo:Nat):Int),1,sIx n n hi-sIx n 0 lo) s):wpAny (model prog w) A (aEC (.ref sl) (pure (n:Int))) Q E s:=by
 obtain⟨os,hos,ve,xh⟩:=id hs;unfold aEC Builtin.Slice.sliceFields;refine aAa (aAa<|aCP hos xh (x:=vl) rfl<|aAa<|aCP hos xh (x:=vu) rfl<|aAa<|aCP hos xh (x:=.none) rfl<|aAb ?_);refine aAa (slicePart_none ?_);show wpAny _ _ (if((1:Int)==0)=true then _ else _) _ _ s;rw[if_neg (by decide)];refine aAa (oG pl<|aAa<|oG pu<|aAa<|aAb ?_);show wpAny _ _ (match aDz lo hi 1 (n:Int)with|(lo,hi)=>pure (lo,(1:Int),aCO lo hi 1)) _ _ s;rw[BR lo hi n];show wpAny _ _ (pure (((sIx n 0 lo:Nat):Int),(1:Int),aCO ((sIx n 0 lo:Nat):Int) ((sIx n n hi:Nat):Int) 1)) _ _ s;rw[zG];exact aAb h
def OG (xs:Array Value)(i k:Nat):((aBc k).filterMap λ(m:Nat)=>xs[((i:Int)+(m:Int)*1).toNat]?).toArray=((xs.toList.drop i).take k).toArray:=by
 have e:(λ(m:Nat)=>xs[((i:Int)+(m:Int)*1).toNat]?)=λm=>xs[i+m]?:=by
  funext m
  have:((i:Int)+(m:Int)*1).toNat=i+m:=by lia
  rw[this]
 rw[e];have:=pick_run xs i k;rw[aDg]at this;have e2:((λx=>xs[x]?)∘λx=>i+x)=λm=>xs[i+m]?:=rfl;rw[e2]at this;rw[this]
def getItem_tuple_cut {t sl:Addr}{items:Array Value}{vl vu:Value}{lo hi:Option Int}{Q:D2}(ht:IsTup s.heap t items)(hs:s.heap.IsSliceOf sl vl vu .none)(pl:IsPart vl lo)(pu:IsPart vu hi)
  (hw:¬(sIx items.size 0 lo=0/\sIx items.size items.size hi=items.size))
  (h:Q (.ref s.heap.objs.size) {s with heap:=s.heap.push {cls:=.type "tuple",data:=.seq ((items.toList.drop (sIx items.size 0 lo)).take (sIx items.size items.size hi-sIx items.size 0 lo)).toArray}})
  (gg:items.size<=sizeLine):wpAny (model prog w) A (getItem (.ref t) (.ref sl)) Q E s:=by
 have qf:sizeOk (.seq ((items.toList.drop<|sIx items.size 0 lo).take (sIx items.size items.size hi-sIx items.size 0 lo)).toArray):=by
  show((items.toList.drop<|sIx items.size 0 lo).take (sIx items.size items.size hi-sIx items.size 0 lo)).toArray.size<=sizeLine;rw[aAo,aBi,aDE,aBb]
  lia
 have hj:sIx items.size items.size hi<=items.size:=XF _ _ (aAj _) hi;obtain⟨os,hos,ve,xh⟩:=id hs;have hTs:s.TypeIs (.ref sl) "slice":=⟨os,hos,ve⟩;unfold getItem;try with_reducible refine aAP ?_
 first|refine aAa (aAb ?_)|skip
 refine aAa (wpAny_sequenceKey ht.typeIs (by decide) ?_);refine aAa (aCw (name:=aDm "__getitem__") ht.typeIs aCz
  (aBp aCz ht.typeIs entry_tuple_getitem ?_ (args_tuple_getitem _ _)))
 show wpAny _ _ (aDt (.ref t)>>=_) _ _ s;refine aAa (tupleItemsOf_ ht ?_);refine aAa (aDK hTs ?_);rw[if_pos (by decide)];refine aAa (jK hs pl pu ?_);have hno:¬((((sIx items.size 0 lo:Nat):Int)==0&&(1:Int)==1&&(sIx items.size items.size hi-sIx items.size 0 lo)==items.size)=true):=by intro q;rw[aAL,aAL]at q;have q1:((sIx items.size 0 lo:Nat):Int)=0:=eq_of_beq q.1.1;have q2:sIx items.size items.size hi-sIx items.size 0 lo=items.size:=eq_of_beq q.2;exact hw ⟨by lia,by lia⟩
 show wpAny _ _ (if(((sIx items.size 0 lo:Nat):Int)==0&&(1:Int)==1&&(sIx items.size items.size hi-sIx items.size 0 lo)==items.size)=true then _ else _) _ _ s;rw[if_neg hno,OG];first
  |exact aAa (m:=aCT _) (aBs (aAb ⟨_,rfl,aAb h⟩) qf)
  |exact aAa (m:=aCT _) (aBs (aAa<|aAb<|aAb ⟨_,rfl,aAb h⟩) qf)
  |exact aAa (aAa (m:=aCT _)<|aBs (aAb<|aAb ⟨_,rfl,aAb h⟩) qf)
  |exact aAa (aAa (m:=aCT _)<|aBs (aAb ⟨_,rfl,aAb h⟩) qf)
end
end HT
namespace L2
open PySem PySem.Spec PyProof.Rows
abbrev TO:=St->Hp->(Option Int->Hp->Prop)->Prop
def PO (X:Cx)(e:Option Expr)(t:TO):Prop:=
 ∀(pins:M3) (s:Shared) (σ:St) (H:Hp) (Q:Option Int->Hp->Prop),Inv X pins σ H s->t σ H Q->
  wpAny (model X.prog X.w) X.A (evalPart e X.env) (λu s'=>∃o H',Inv X pins σ H' s'/\IsPart u o/\Q o H') X.xe s
def PN:TO:=λ_ H Q=>Q none H
def fj (t:TE):TO:=λσ H Q=>t σ H λx H1=>∃i,x=.int i/\Q (some i) H1
section
variable{X:Cx} {e:Expr} {te:TE} {lo hi:Option Expr} {tl th:TO} {pos p2:Pos}
def RB:PO X none PN:=by intro pins s σ H Q I h;rw[evalPart_none];exact aAb ⟨none,H,I,.none,h⟩
def QW (h:PE X e te):PO X (some e) (fj te):=by intro pins s σ H Q I hw;rw[evalPart_some];refine B4 (h pins s σ H _ I hw) λu s1 ⟨x,H1,I1,r1,q1⟩=>?_;obtain⟨i,rfl,q⟩:=q1;obtain⟨t,rfl⟩:=r1;exact⟨some i,H1,I1,.int i t,q⟩
def US (X:Cx)(r:V->Option Int->Option Int->Hp->VK->Prop):Prop:=
 ∀(pins:M3) (s:Shared) (σ:St) (H:Hp) (x:V) (v vl vu:Value) (lo hi:Option Int) (sl:Addr) (Q:VK),Inv X pins σ H s->RelV x v->s.heap.IsSliceOf sl vl vu .none->IsPart vl lo->IsPart vu hi->r x lo hi H Q->
  ∃T id,typeLookup (.type T) "__getitem__"=pure (some<|.builtin id)/\s.TypeIs v T/\wpAny (model X.prog X.w) X.A (getItem v<|.ref sl) (EP X pins σ Q) X.xe s
def US.or {r r':V->Option Int->Option Int->Hp->VK->Prop}(h:US X r)(h':US X r'):US X (λx lo hi H Q=>r x lo hi H Q\/r' x lo hi H Q):=by
 intro pins s σ H x v vl vu lo hi sl Q I rx hs pl pu q;rcases q with q|q
 ·exact h pins s σ H x v vl vu lo hi sl Q I rx hs pl pu q
 ·exact h' pins s σ H x v vl vu lo hi sl Q I rx hs pl pu q
def tSl (r:V->Option Int->Option Int->Hp->VK->Prop)(te:TE)(tl th:TO):TE:=λσ H Q=>te σ H λx H1=>tl σ H1 λl H2=>th σ H2 λu H3=>r x l u H3 Q
def IQ {r:V->Option Int->Option Int->Hp->VK->Prop}(hr:US X r)(he:PE X e te)(hl:PO X lo tl)(hu:PO X hi th):PE X (.Subscript e (.Slice lo hi none p2) pos) (tSl r te tl th):=by intro pins s σ H Q I h;refine Subscript_ (B4 (he pins s σ H _ I h) λv s1 ⟨x,H1,I1,r1,q1⟩=>?_);refine wpAny_Slice (B4 (hl pins s1 σ H1 _ I1 q1) λvl s2 ⟨l,H2,I2,pl,q2⟩=>B4 (hu pins s2 σ H2 _ I2 q2) λvu s3 ⟨u,H3,I3,pu,q3⟩=>?_);rw[evalPart_none];refine aAb ?_;have I4:Inv X pins σ H3 {s3 with heap:=s3.heap.push {cls:=.type "slice",data:=.fields #[vl,vu,.none]}}:=I3.kept (t':=s3.toks) λb ob q=>aAc _ q;obtain⟨T,id,hT,ht,hg⟩:=hr pins {s3 with heap:=s3.heap.push {cls:=.type "slice",data:=.fields #[vl,vu,.none]}} σ H3 x v vl vu l u s3.heap.objs.size Q I4 r1 (Heap.IsSliceOf.new ..) pl pu q3;show wpAny (model X.prog X.w) X.A (subscriptTail e (.Slice lo hi none p2) v<|.ref s3.heap.objs.size) (EP X pins σ Q) X.xe {s3 with heap:=s3.heap.push {cls:=.type "slice",data:=.fields #[vl,vu,.none]}};exact tail_any (ops:=[.ref s3.heap.objs.size,v]) ht hT hg (by with_unfolding_all rfl)
def xO (xs:List V)(lo hi:Option Int):List V:=(xs.drop<|HT.sIx xs.length 0 lo).take (HT.sIx xs.length xs.length hi-HT.sIx xs.length 0 lo)
def lA (xs:List V)(lo hi:Option Int):(xO xs lo hi).length<=xs.length:=by
 unfold xO;rw[aBi,aDE]
 lia
def ZT (K:PySem.W.Frag):V->Option Int->Option Int->Hp->VK->Prop:=λx lo hi H Q=>∃a xs,x=.ref a/\W2 K H a xs/\
 ¬(HT.sIx xs.length 0 lo=0/\HT.sIx xs.length xs.length hi=xs.length)/\∀p,H p=none->Q (.ref p) (upd H p<|.tup (xO xs lo hi))
def VP:US X (ZT X.K):=by
 intro pins s σ H x v vl vu lo hi sl Q I rx hs pl pu h;obtain⟨a,xs,rfl,hx,hw,q⟩:=h;cases rx;obtain⟨its,r,ht,hz⟩:=I.tuple hx;have hlen:its.toArray.size=xs.length:=by rw[aAo];exact r.length.symm
 refine⟨"tuple",_,aCz.lookup,ht.typeIs,?_⟩;refine HT.getItem_tuple_cut ht hs pl pu (by rw[hlen];exact hw) ?_ (by rw[hlen];exact hz);rw[hlen];refine⟨.ref s.heap.objs.size,_,I.laid (t':=s.toks) (o:=.tup (xO xs lo hi)) (λb ob q=>aAc _ q) (aAj _) ?_,rfl,q _ (I.hok.fresh<|aAj _)⟩;exact⟨aAu (lA xs lo hi) hz,_,(r.drop<|HT.sIx xs.length 0 lo).take (HT.sIx xs.length xs.length hi-HT.sIx xs.length 0 lo),IsTup.new _ _⟩
def ZW (K:PySem.W.Frag):R2:=λx y H Q=>∃a b xs ys,x=.ref a/\y=.ref b/\W2 K H a xs/\W2 K H b ys/\xs≠[]/\xs.length+ys.length<=sizeLine/\
 (ys=[]->Q (.ref a) H)/\(ys≠[]->∀p,H p=none->Q (.ref p) (upd H p<|.tup (xs++ys)))
def l8.ac5 (r:l8 xs us):us=[]↔xs=[]:=by
 cases r with
 |nil=>simp
 |cons _ _=>simp
def DB:gC X (binaryOp .Add) (ZW X.K):=by intro pins s σ H x y v u Q I rx ry h;obtain⟨a,b,xs,ys,rfl,rfl,ha,hb,hx,hz,q1,q2⟩:=h;cases rx;cases ry;obtain⟨its,r1,p1,_⟩:=I.tuple ha;obtain⟨kn,r2,p2,_⟩:=I.tuple hb;refine HT.cat_tup p1 p2 (λz=>hx (r1.ac5.mp z)) (λz=>⟨.ref a,H,I,rfl,q1 (r2.ac5.mp z)⟩) (λz=>?_) (by rw[<-r1.length,<-r2.length];exact hz);refine⟨.ref s.heap.objs.size,_,I.laid (t':=s.toks) (o:=.tup (xs++ys)) (λb ob q=>aAc _ q) (aAj _) ?_,rfl,q2 (λw=>z (r2.ac5.mpr w)) _ (I.hok.fresh<|aAj _)⟩;exact⟨by rw[aAy];exact hz,_,r1.append r2,IsTup.new _ _⟩
end
end L2
namespace L2
open PySem PySem.Spec PyProof.Rows
def OI (n:Nat)(i:Int):Option Nat:=if 0<=i then(if i<n then some i.toNat else none)else if-(n:Int)<=i then some (i+n).toNat else none
def lX {α:Type}(xs:List α)(i:Int):Option α:=(OI xs.length i).bind λj=>xs[j]?
def QO (h:OI n i=some j):seqIndex? i n=some j/\j<n/\-(n:Int)<=i/\i<n:=by
 unfold OI at h;by_cases h0:0<=i
 ·rw[if_pos h0]at h;by_cases h1:i<n
  ·rw[if_pos h1]at h;have e:i.toNat=j:=aAl h;exact⟨by rw[seqIndex_of h0 h1,e],by lia,by lia,h1⟩
  ·rw[if_neg h1]at h;cases h
 ·rw[if_neg h0]at h;by_cases h1:-(n:Int)<=i
  ·rw[if_pos h1]at h;have e:(i+n).toNat=j:=aAl h;exact⟨by rw[seqIndex_neg (by lia) h1,e],by lia,h1,by lia⟩
  ·rw[if_neg h1]at h;cases h
def DE {α:Type}{xs:List α}{i:Int}{v:α}(h:lX xs i=some v):∃j,seqIndex? i xs.length=some j/\xs[j]?=some v/\j<xs.length/\-(xs.length:Int)<=i/\i<xs.length:=by
 unfold lX at h;cases e:OI xs.length i with
 |none=>rw[e]at h;cases h
 |some j=>rw[e]at h;obtain⟨h1,h2,h3,h4⟩:=QO e;exact⟨j,h1,h,h2,h3,h4⟩
def TL (b:Expr):Prop:=∀o i,subscripted b false o i=operate [o,i] (getItem o i)
def yx (X:Cx)(r:R2):Prop:=
 ∀(value slice:Expr) (pins:M3) (s:Shared) (σ:St) (H:Hp) (x y:V) (v u:Value) (Q:VK),Inv X pins σ H s->RelV x v->RelV y u->r x y H Q->
  subscripted slice false v u=operate [v,u] (getItem v u)->wpAny (model X.prog X.w) X.A (subscriptTail value slice v u) (EP X pins σ Q) X.xe s
def MtR (X:Cx)(id:String)(r:V->List V->Hp->VK->Prop):Prop:=
 ∀(pins:M3) (s:Shared) (σ:St) (H:Hp) (x:V) (xs:List V) (v:Value) (us:List Value) (Q:VK),Inv X pins σ H s->RelV x v->l8 xs us->r x xs H Q->
  wpAny (model X.prog X.w) X.A (call (.builtin id) (v::us)) (EP X pins σ Q) X.xe s
section
variable{X:Cx} {a b:Expr} {ta tb:TE} {pos:Pos}
def lq (K:PySem.W.Frag):R2:=λx y H Q=>∃p xs i v,x=.ref p/\y=.int i/\K4 K H p xs/\lX xs i=some v/\Q v H
def mj (K:PySem.W.Frag):R2:=λx y H Q=>∃p xs i v,x=.ref p/\y=.int i/\W2 K H p xs/\lX xs i=some v/\Q v H
def RQ:yx X (lq X.K):=by
 intro value slice pins s σ H x y v u Q I rx ry h hs;obtain⟨p,xs,i,z,rfl,rfl,hq,he,q⟩:=h;cases rx;obtain⟨t,rfl⟩:=ry;obtain⟨its,r,pl,hz⟩:=I.list hq;obtain⟨j,h1,h2,h3,h4,h5⟩:=DE he;obtain⟨w,ew,rw'⟩:=r.get h2;have hl:=r.length;have hn:=AT;have fin:EP X pins σ Q w s:=⟨z,H,I,rw',q⟩;by_cases h0:0<=i
 ·have hj:i.toNat=j:=by rw[seqIndex_of h0 h5]at h1;exact aAl h1
  exact item_listR pl.isList h0 (by lia) (by rw[hj];simpa using ew) fin hs
 ·have hj:(i+(its.toArray.size:Int)).toNat=j:=by rw[seqIndex_neg (by lia) h4]at h1;rw[aAo,<-hl];exact aAl h1
  exact subscriptTail_builtinR (x:=w) pl.isList.typeIs slot_list_getitem.lookup
   (wpAny_getItem_list_neg (Q:=λr s'=>r=w/\EP X pins σ Q r s') pl.isList (by lia) (by rw[aAo]<;>lia) (by lia) (by rw[hj];simpa using ew) ⟨rfl,fin⟩) hs
def VE:yx X (mj X.K):=by
 intro value slice pins s σ H x y v u Q I rx ry h hs;obtain⟨p,xs,i,z,rfl,rfl,hq,he,q⟩:=h;cases rx;obtain⟨t,rfl⟩:=ry;obtain⟨its,r,pl,hz⟩:=I.tuple hq;obtain⟨j,h1,h2,h3,h4,h5⟩:=DE he;obtain⟨w,ew,rw'⟩:=r.get h2;have hl:=r.length;have hn:=AT;have fin:EP X pins σ Q w s:=⟨z,H,I,rw',q⟩;exact subscriptTail_builtinR (x:=w) pl.typeIs aCz.lookup
  (getItem_tuple (j:=j) (Q:=λr s'=>r=w/\EP X pins σ Q r s') pl (by lia) (by lia) (by rw[aAo,<-hl];exact h1) (by simpa using ew) ⟨rfl,fin⟩) hs
def uW (lo hi:Option Int)(n:Nat):(sliceBounds lo hi none n).1=((HT.sIx n 0 lo:Nat):Int)/\(sliceBounds lo hi none n).2.1=((HT.sIx n n hi:Nat):Int)/\(sliceBounds lo hi none n).2.2=1:=by
 refine⟨?_,?_,rfl⟩
 ·cases lo with
  |none=>simp[sliceBounds,HT.sIx]
  |some i=>
   simp only[sliceBounds,HT.sIx,Option.getD_none,show(1:Int)>0 by decide,if_true];by_cases h:i<0
   ·simp only[h,if_true]<;>lia
   ·simp only[h,if_false]<;>lia
 ·cases hi with
  |none=>simp[sliceBounds,HT.sIx]
  |some i=>
   simp only[sliceBounds,HT.sIx,Option.getD_none,show(1:Int)>0 by decide,if_true];by_cases h:i<0
   ·simp only[h,if_true]<;>lia
   ·simp only[h,if_false]<;>lia
def pT (its:List Value)(lo hi:Option Int):slicePick its.toArray lo hi none=((its.drop (HT.sIx its.length 0 lo)).take (HT.sIx its.length its.length hi-HT.sIx its.length 0 lo)).toArray:=by obtain⟨h1,h2,h3⟩:=uW lo hi its.toArray.size;unfold slicePick;rw[h1,h2,h3];simp only[sliceRange_one,pick_run,aAo]<;>rfl
def bj (K:PySem.W.Frag):V->Option Int->Option Int->Hp->VK->Prop:=λx lo hi H Q=>∃a xs,x=.ref a/\K4 K H a xs/\∀p,H p=none->Q (.ref p) (upd H p<|.lst (xO xs lo hi))
def RT:US X (bj X.K):=by intro pins s σ H x v vl vu lo hi sl Q I rx hs pl pu h;obtain⟨a,xs,rfl,hx,q⟩:=h;cases rx;obtain⟨its,r,ht,hz⟩:=I.list hx;have hlen:=r.length;refine⟨"list",_,slot_list_getitem.lookup,ht.isList.typeIs,?_⟩;refine wpAny_getItem_list_slice ht.isList hs pl pu .none (by simp) ?_ (by rw[aAo]<;>lia);rw[pT,<-hlen];refine⟨.ref s.heap.objs.size,_,I.laid (t':=s.toks) (o:=.lst (xO xs lo hi)) (λb ob q=>aAc _ q) (aAj _) ?_,rfl,q _ (I.hok.fresh<|aAj _)⟩;exact⟨aAu (lA xs lo hi) hz,_,0,(r.drop<|HT.sIx xs.length 0 lo).take (HT.sIx xs.length xs.length hi-HT.sIx xs.length 0 lo),aAr _ rfl⟩
def ZN:V->Bool
 |.non=>true
 |.bl _=>true
 |.int _=>true
 |.str _=>true
 |_=>false
def gT:yI X (.builtin "len") (λxs H Q=>∃p ys,xs=[.ref p]/\(K4 X.K H p ys\/W2 X.K H p ys)/\Q (.int ys.length) H):=by
 intro pins s σ H xs us Q I r h;obtain⟨p,ys,rfl,hq,q⟩:=h;obtain⟨u,rfl,rx⟩:=vals1 r;cases rx;have hn:=AT;rcases hq with hq|hq
 ·obtain⟨its,r',pl,hz⟩:=I.list hq;have hlen:=r'.length;exact Calls.call_len_list pl.isList (by simp only[aAo]<;>lia) ⟨.int ys.length,H,I.tok _,⟨s.toks+1,by rw[aAo,hlen]⟩,q⟩
 ·obtain⟨its,r',pl,hz⟩:=I.tuple hq;have hlen:=r'.length;exact len_tuple pl (by simp only[aAo]<;>lia) ⟨.int ys.length,H,I.tok _,⟨s.toks+1,by rw[aAo,hlen]⟩,q⟩
def gF:yI X (.type "list") (λxs H Q=>∃p ys,xs=[.ref p]/\(K4 X.K H p ys\/W2 X.K H p ys)/\∀l,H l=none->Q (.ref l) (upd H l (.lst ys))):=by
 intro pins s σ H xs us Q I r h;obtain⟨p,ys,rfl,hq,q⟩:=h;obtain⟨u,rfl,rx⟩:=vals1 r;cases rx;have fin:∀(its:List Value),l8 ys its->ys.length<=sizeLine->∀(h':Heap) (c':Nat),(∀b o',s.heap.get? b=some o'->h'.get? b=some o')->
   h'.get? s.heap.objs.size=some {cls:=.type "list",dict:=none,data:=.seq its.toArray c',slots:=#[]}->EP X pins σ Q (.ref s.heap.objs.size) {s with heap:=h'}:=λits r' hz h' c' kp e=>
  ⟨.ref s.heap.objs.size,_,I.laid (t':=s.toks) kp (aAj _) (show ObjOk X.prog X.w _ h' _ (.lst ys)from⟨hz,its,c',r',e⟩),rfl,q _ (I.hok.fresh<|aAj _)⟩
 rcases hq with hq|hq
 ·obtain⟨its,r',pl,hz⟩:=I.list hq;have hlen:=r'.length;obtain⟨o,ho,hc,n,hd⟩:=pl.isList;exact call_list_seq p (.inl rfl) ho hc hd (λh' c' kp e=>fin its r' hz h' c' kp e) (by simp only[aAo]<;>lia)
 ·obtain⟨its,r',pl,hz⟩:=I.tuple hq;have hlen:=r'.length;obtain⟨o,ho,hc,n,hd⟩:=pl;exact call_list_seq p (.inr rfl) ho hc hd (λh' c' kp e=>fin its r' hz h' c' kp e) (by simp only[aAo]<;>lia)
def pj (K : PySem.W.Frag) (T : String) (x : V) (H : Hp) : Prop := match x with
  | .str _ => T = "str"
  | .int _ => T = "int"
  | .ref p => (T = "list" ∧ ∃ xs, K4 K H p xs) ∨ (T = "tuple" ∧ ∃ o, K.lookup p = some o ∧ o.cls = .type "tuple" ∧ o.dict = none) ∨
      (T = "dict" ∧ ((∃ kvs, H p = some (.dK kvs)) ∨ ∃ kvs, H p = some (.dT kvs))) ∨ (T = "set" ∧ ∃ S n, H p = some (.set S n))
  | _ => False
def JE (I:Inv X pins σ H s)(r:RelV x v)(ty:pj X.K T x H):
  s.TypeIs v T/\∀a,v=.ref a->∃ob,s.heap.get? a=some ob/\ob.dict=none:=by
 cases x with
 |str z=>obtain⟨t,rfl⟩:=r;cases(show T= "str"from ty);exact⟨typeIs_str s z t,λ_ e=>nomatch e⟩
 |int i=>obtain⟨t,rfl⟩:=r;cases(show T= "int"from ty);exact⟨typeIs_int s i t,λ_ e=>nomatch e⟩
 |ref p=>
  cases r;rcases ty with⟨rfl,xs,hq⟩|⟨rfl,o,hk,hc,hd⟩|⟨rfl,hk⟩|⟨rfl,S,n,hk⟩
  ·obtain⟨its,_,pl,_⟩:=I.list hq;refine⟨pl.isList.typeIs,λa e=>?_⟩;cases e;obtain⟨o,n,e,c,hd,_⟩:=pl;exact⟨o,e,hd⟩
  ·refine⟨⟨o,I.kIn p o hk,hc⟩,λa e=>?_⟩;cases e;exact⟨o,I.kIn _ o hk,hd⟩
  ·have z:∃o,s.heap.get? p=some o/\o.ExactDict:=by
    rcases hk with⟨kvs,hk⟩|⟨kvs,hk⟩
    ·obtain⟨_,_,_,_,o,_,_,e,ex,_⟩:=I.hok p _ hk;exact⟨o,e,ex⟩
    ·obtain⟨_,_,_,_,o,_,_,e,ex,_⟩:=I.hok p _ hk;exact⟨o,e,ex⟩
   obtain⟨o,e,ex⟩:=z;refine⟨⟨o,e,ex.1⟩,λa e2=>?_⟩;cases e2;exact⟨o,e,ex.2.1⟩
  ·obtain⟨o,_,_,_,e,ex,_⟩:=I.hok p _ hk;refine⟨⟨o,e,ex.1⟩,λa e2=>?_⟩;cases e2;exact⟨o,e,ex.2.1⟩
 |_=>exact aAi ty
def wj (K:PySem.W.Frag)(T:String)(r:V->List V->Hp->VK->Prop)(to:TE):TE:=λσ H Q=>to σ H λx H1=>pj K T x H1/\r x [] H1 Q
def tBM (K:PySem.W.Frag)(T:String)(r:V->List V->Hp->VK->Prop)(to:TE)(t:TA):TE:=λσ H Q=>to σ H λx H1=>pj K T x H1/\t σ H1 λxs H2=>r x xs H2 Q
variable{o e:Expr} {es:List Expr} {to:TE} {t:TA} {name:Str} {apos av:Pos} {T id:String} {r:V->List V->Hp->VK->Prop}
def BM (pa:PlainAttrs T)(slot:Slot T name id)(hty:typeOf (.builtin id)=pure (.type "method_descriptor"))(hm:MtR X id r)(ho:PE X o to)
  (cp:attributeBase o name X.env (eval o X.env)=eval o X.env:=by rfl) (bo:(apos.endLine==av.line)=true:=by rfl):PE X (.Call (.Attribute o name apos) [] [] av) (wj X.K T r to):=by
 intro pins s σ H Q I h;refine wpAny_Call_method0_late cp bo (B4 (ho pins s σ H _ I h) λv s1 ⟨x,H1,I1,r1,ty,q1⟩=>?_);obtain⟨h1,h2⟩:=JE I1 r1 ty;exact⟨T,id,pa,slot,hty,h1,h2,aFy rfl (PySem.evalArgs_none<|hm pins s1 σ H1 x [] v [] Q I1 r1 .nil q1)⟩
def UK (pa:PlainAttrs T)(slot:Slot T name id)(hty:typeOf (.builtin id)=pure (.type "method_descriptor"))(hm:MtR X id r)(ho:PE X o to)(ha:PA X (e::es) t)
  (cp:attributeBase o name X.env (eval o X.env)=eval o X.env:=by rfl)
  (vf:((backTo av (starEach (e::es) X.env)).all (λx=>!x.1)&&(backToKw av (keywordEach [] X.env)).all (λx=>x.1.isSome)
   &&decide ((e::es).length+([]:List Keyword).length+(if([]:List Keyword).isEmpty then 0 else 1)<30))=true:=by rfl)
  (bo:(apos.endLine==av.line)=true:=by rfl) (hs:starEach (e::es) X.env=(false,eval e X.env)::starEach es X.env:=by rfl) (jt:(backTo av (starEach es X.env)).any (·.1)=false:=by rfl):
  PE X (.Call (.Attribute o name apos) (e::es) [] av) (tBM X.K T r to t):=by
 intro pins s σ H Q I h;refine wpAny_Call_method_late cp vf bo rfl (B4 (ho pins s σ H _ I h) λv s1 ⟨x,H1,I1,r1,ty,q1⟩=>?_);obtain⟨h1,h2⟩:=JE I1 r1 ty;refine⟨T,id,pa,slot,hty,h1,h2,?_⟩;have hA:=ha av pins s1 σ H1 _ I1 q1;rw[hs]at hA⊢;refine aFy (by show(false||(backTo av<|starEach es X.env).any (·.1))=false;rw[jt]<;>rfl) (Calls.evalArgs_plain ?_);exact B4 hA λus s2 ⟨vs,H2,I2,r2,q2⟩=>hm pins s2 σ H2 x vs v us Q I2 r1 r2 q2
end
end L2
namespace L2
open PySem PySem.Spec PyProof.Rows
def ij (X:Cx)(id:String)(r:V->List V->Hp->VK->Prop):Prop:=
 ∀(pins:M3) (s:Shared) (σ:St) (H:Hp) (x:V) (xs:List V) (v:Value) (us:List Value) (Q:VK),Inv X pins σ H s->RelV x v->l8 xs us->r x xs H Q->
  wpAny (model X.prog X.w) X.A (call (.builtin id) (v::us)) (EP X pins σ Q) X.xe s
theorem l8.one:∀{x:V} {us:List Value},l8 [x] us->∃u,us=[u]/\RelV x u
 |_,_,.cons r .nil=>⟨_,rfl,r⟩
theorem l8.zero:∀{us:List Value},l8 [] us->us=[]
 |_,.nil=>rfl
def l8.dropLast (h:l8 xs us):l8 xs.dropLast us.dropLast:=by
 induction h with
 |nil=>exact .nil
 |cons r t ih=>
  cases t with
  |nil=>exact .nil
  |cons q t'=>exact .cons r ih
def AV {α:Type}(l:List α):l.eraseIdx (l.length-1)=l.dropLast:=by
 induction l with
 |nil=>rfl
 |cons a r ih=>
  cases r with
  |nil=>rfl
  |cons b r=>
   have e:(a::b::r).length-1=((b::r).length-1)+1:=by
    have h1:(a::b::r).length=r.length+2:=rfl;have h2:(b::r).length=r.length+1:=rfl
    lia
   rw[e,aFi,ih]
   all_goals rfl
section
variable{X:Cx} {pins:M3} {σ:St} {H:Hp} {s:Shared} {l b:Addr} {xs ys zs:List V}
def Inv.ae3 {its its':List Value}{n:Nat}{f:Array Value->Array Value}{t':Nat}(I:Inv X pins σ H s)(hH:H l=some (.lst xs))
  (e:s.heap.get? l=some {cls:=.type "list",data:=.seq its.toArray n}) (hf:f its.toArray=its'.toArray) (hv:l8 ys its') (hz:ys.length<=sizeLine):
  Inv X pins σ (upd H l (.lst ys)) {s with heap:=s.heap.update l (aBK f),toks:=t'}:=by
 have q:=PySem.IsL.update e f;rw[hf]at q;refine I.write (x:=l) (e:=l) (by rw[hH];exact trivial) (.inl rfl) (λb' u hb hu=>(aAB s.heap (aBK f)<|aCl hb).trans hu) ⟨_,q⟩ ?_;exact⟨hz,its',_,hv,q⟩
def Inv.af9 (I:Inv X pins σ H s)(hv:l8 ys its)(hz:ys.length<=sizeLine):
  Inv X pins σ (upd H s.heap.objs.size (.lst ys)) {s with heap:=s.heap.push {cls:=.type "list",data:=.seq its.toArray},toks:=t'}:=
 I.laid (λ_ _ q=>aAc _ q) (aAj _) ⟨hz,its,0,hv,aAr _ rfl⟩
def Inv.fresh (I:Inv X pins σ H s):H s.heap.objs.size=none:=I.hok.fresh (aAj _)
def Inv.ae2 (I:Inv X pins σ H s)(hH:H l=some (.lst xs)):xs.length<=sizeLine/\∃(its:List Value) (n:Nat),l8 xs its/\xs.length=its.length/\s.heap.get? l=some {cls:=.type "list",data:=.seq its.toArray n}:=by obtain⟨z,its,n,r,e⟩:=I.hok l _ hH;exact⟨z,its,n,r,r.length,e⟩
def NZ (h:n<=sizeLine):aCU n=false:=by unfold aCU;exact decide_eq_false (by lia)
end
section
variable{X:Cx}
def RP:V->List V->Hp->VK->Prop:=λx vs H Q=>∃l xs y,x=.ref l/\vs=[y]/\H l=some (.lst xs)/\xs.length<sizeLine/\Q .non (upd H l<|.lst (xs++[y]))
def rM:ij X "list.append" RP:=by
 intro pins s σ H x vs v us Q I rx rv h;obtain⟨l,xs,y,rfl,rfl,hH,hz,q⟩:=h;cases rx;obtain⟨u,rfl,ru⟩:=rv.one;obtain⟨z,its,n,r,hl,e⟩:=I.ae2 hH;refine call_meets F.slot_list_append ⟨_,e,rfl⟩ F.entry_list_append (F.args_list_append_2 _ _) (PySem.list_append l its.toArray n u (by rw[aAo];lia)) ⟨e,?_⟩;refine⟨.non,_,I.ae3 (its':=its++[u]) hH e (by simp) (r.append<|.cons ru .nil) ?_,rfl,q⟩;rw[aAy,List.length_singleton]
 lia
def pk:V->List V->Hp->VK->Prop:=λx vs H Q=>∃l xs y,x=.ref l/\vs=[]/\H l=some (.lst xs)/\xs[xs.length-1]?=some y/\Q y (upd H l<|.lst xs.dropLast)
def NF:ij X "list.pop" pk:=by
 intro pins s σ H x vs v us Q I rx rv h;obtain⟨l,xs,y,rfl,rfl,hH,hy,q⟩:=h;cases rx;have hus:=rv.zero;subst hus;obtain⟨z,its,n,r,hl,e⟩:=I.ae2 hH;obtain⟨u,hu,ru⟩:=r.get hy;have hy':its.toArray[its.toArray.size-1]?=some u:=by show its.toArray[its.length-1]?=some u;rw[<-aAz,<-hl];exact hu
 refine call_meets F.slot_list_pop ⟨_,e,rfl⟩ F.entry_list_pop (F.args_list_pop_1 _) (MeetsSeq.list_pop_last l its.toArray n u hy' (by rw[aAo];lia)) ⟨e,?_⟩;refine⟨y,_,I.ae3 (its':=its.dropLast) hH e ?_ r.dropLast ?_,ru,q⟩
 ·show its.toArray.eraseIdxIfInBounds (its.toArray.size-1)=its.dropLast.toArray;rw[aAo,List.eraseIdxIfInBounds_toArray,AV]
 ·rw[aEm]
  lia
def VV:V->List V->Hp->VK->Prop:=λx vs H Q=>∃l xs,x=.ref l/\vs=[]/\H l=some (.lst xs)/\Q .non (upd H l<|.lst [])
def MG:ij X "list.clear" VV:=by intro pins s σ H x vs v us Q I rx rv h;obtain⟨l,xs,rfl,rfl,hH,q⟩:=h;cases rx;have hus:=rv.zero;subst hus;obtain⟨z,its,n,r,hl,e⟩:=I.ae2 hH;refine call_meets F.slot_list_clear ⟨_,e,rfl⟩ F.entry_list_clear (F.args_list_clear_1 _) (AutoSeq1.list_clear_list_0 l its.toArray n (by rw[aAo];lia)) ⟨e,?_⟩;exact⟨.non,_,I.ae3 (its':=[]) (ys:=[]) hH e rfl .nil (aAV _),rfl,q⟩
end
section
variable{prog:Program} {w:World} {A:Around} {E:D2} {s:Shared}
end
section
variable{X:Cx}
end
end L2
namespace Att
open PySem PySem.W PySem.Calls PyProof.Rows
def lS:∀(ns:List Int) (vs:List Value),WellAll P h vs (ns.map WData.int)->IntsAre vs ns:=by
 intro ns;induction ns with
 |nil=>intro vs w;rw[aCn]at w;cases w;exact .nil
 |cons n ns ih=>
  intro vs w;rw[aAp]at w;cases w with
  |cons a b=>cases a;exact .cons _ _ (ih _ b)
def script_of {l:OpenLaw}{n:Nat}(hn:l.most=some n){P:Params}{h:Heap}{args:List WData}{vals:List Value}
  (ya:l.row.toRowW.claim.pre args=true) (rf:WellAll P h vals args):
  ∃a vs ns,vals=[aDy a]/\args=[WData.list (ns.map WData.int)]/\h.get? a=some {cls:=.type "list",data:=.seq vs.toArray}/\IntsAre vs ns/\ns.length<=n:=by
 have hsh:WShape.hasAll [] args [.list .int]=true:=(pre_splitW ya).1;have hc:l.pre.holds [] {args:=args}=true:=(pre_splitW ya).2;obtain⟨d,r,rfl,h1,h2⟩:=hasAllW_cons hsh;obtain rfl:=hasAllW_nil h2;obtain⟨xs,rfl,h3⟩:=hasW_list h1;obtain⟨ns,rfl⟩:=items_int h3;have hlen:ns.length<=n:=by
  unfold OpenLaw.pre at hc;have h4:(WTm.not<|.lt (.lit (.int (n:Int))) (.len (.arg 0))).holds [] {args:=[.list (ns.map .int)]}=true:=by have h4:=(holds_andW hc).1;rw[hn]at h4;exact h4
  have h5:=condW_of h4 (w_not<|w_lt w_lit<|w_len_list<|w_arg rfl);rw[aAh]at h5;refine aEg λq=>?_;have q':(n:Int)<((ns.length:Nat):Int):=by lia
  first
   |(rw[decide_eq_true q']at h5;exact absurd h5 (by decide))
   |(simp at h5;lia)
 cases rf with
 |cons w1 w2=>
  cases w2;cases w1 with
  |list ho oo=>exact⟨_,_,ns,rfl,rfl,ho,lS ns _ oo,hlen⟩
def post_true (l:OpenLaw)(args:List WData):l.row.toRowW.claim.post args (.bool true) args=true:=
 postW_of (r:=l.row.toRowW) (X:=(true==true))
  (show WShape.has [] (.bool true) .bool=true by first|rfl|decide|simp[WShape.has,WShape.arms,WShape.armsAll])
  (show(WTm.eq .res (.lit (.bool true))).value [] {args:=args,res:=some (.bool true),after:=args}=some (.bool (true==true))from w_eq_bool (w_res rfl) w_lit) rfl
section
variable{prog:Program} {w:World} {A:Around} {E:D2} {s:Shared} {K:Frag}
def lw (h:Heap)(L d:Addr):List (Addr×Obj):=(aBc h.objs.size).filterMap λa=>if a=L\/a=d then none else(h.get? a).map λo=>(a,o)
end
end Att
namespace L2
open PySem PySem.Spec PyProof.Rows
theorem Y6:∀{vs:List Value} {ns:List Int},IntsAre vs ns->l8 (ns.map V.int) vs
 |_,_,.nil=>.nil
 |_,_,.cons n t h=>.cons ⟨t,rfl⟩ (Y6 h)
end L2
namespace L2
open PySem PySem.Spec PyProof.Rows
end L2
namespace L2
open PySem PySem.Spec PyProof.Rows
def B8 (s:Stmt):Arguments:=match s with
 |.FunctionDef _ a _ _ _ _ _ _ _ _=>a
 |_=>{posonlyargs:=[],args:=[],vararg:=none,kwonlyargs:=[],kw_defaults:=[],kwarg:=none,defaults:=[]}
def o6 (s:Stmt):List Stmt:=match s with
 |.FunctionDef _ _ b _ _ _ _ _ _ _=>b
 |_=>[]
def c5 (s:Stmt):Scope:=match s with
 |.FunctionDef _ _ _ _ _ _ sc _ _ _=>sc
 |_=>{kind:=.function,names:=[],isGenerator:=false,isCoroutine:=false}
abbrev rE:PM:=λ_ _ _ _ _ _=>False
abbrev E0:XK:=λ_ _ _=>False
def TY:BA rE X E0:=λ_ _ _ _ _ _ _ h=>h.elim
structure Fun (K:PySem.W.Frag)(x qual:Str)(st:Stmt)(f:Addr)(fd:FuncData):Prop where
 ex:∃(oc:Value) (od:Option Addr) (kV doc pm:Value) (an:Option Addr) (cdv ct:Value) (osl:Array (Option Value)),
  fd=PySem.W.fnOf x qual (B8 st) (o6 st) (c5 st) .none kV doc pm an cdv ct/\K.lookup f=some ⟨oc,od,.func fd,osl⟩/\PySem.W.codeIn K cdv qual=true
 kp:PySem.W.keepIn K (.ref f)=true
section
variable{P:Program} {w:World} {K:PySem.W.Frag} {mg:bK} {base:Heap}
def Fun.ok {x qual:Str}{st:Stmt}{f:Addr}{fd:FuncData}{N ps:List Str}{k:Nat}{sp:Sp}(F:Fun K x qual st f fd)(S:FnScope N ps (c5 st))(len:∀vs H Q E,sp vs H Q E->vs.length=ps.length)
  (uu:∀(cdv:Value) (A:Around) (outer:List Env) (s:Shared) (H:Hp) (vs:List V) (Q:VK) (E:XK),Room k (A.deeper (envOfC qual (c5 st) s.heap.objs.size f cdv))->sp vs H Q E->
   ∃t,rC (AM rE P w K mg base N qual (c5 st) f cdv A outer s H E).nox (o6 st) t/\t {nx:=λ_ H'=>Q .non H',rt:=Q} (start N vs) H):FnOk P w K mg base rE (k+1) f fd ps sp:=by
 obtain⟨oc,od,kV,doc,pm,an,cdv,ct,osl,rfl,lk,cg⟩:=F.ex;refine TZ lk cg S len λA outer s H vs Q E hr hsp=>?_;obtain⟨t,h,q⟩:=uu cdv A outer s H vs Q E hr hsp;exact⟨t,h.nox,q⟩
def Fun.binds {x qual:Str}{st:Stmt}{f:Addr}{fd:FuncData}{ps:List Str}(F:Fun K x qual st f fd)
  (h:∀(kV doc pm:Value) (an:Option Addr) (cdv ct:Value) (us:List Value),us.length=ps.length->bindArgs (PySem.W.fnOf x qual (B8 st) (o6 st) (c5 st) .none kV doc pm an cdv ct) ⟨us,[]⟩=pure (ps.zip us)):Binds K fd ps []:=by
 obtain⟨oc,od,kV,doc,pm,an,cdv,ct,osl,rfl,lk,cg⟩:=F.ex;exact .all (h kV doc pm an cdv ct)
def JQ {x qual:Str}{st:Stmt}{f:Addr}{oc:Value}{od an:Option Addr}{osl:Array (Option Value)}{kV doc pm cdv ct:Value}(l:K.lookup f=some ⟨oc,od,.func (PySem.W.fnOf x qual (B8 st) (o6 st) (c5 st) .none kV doc pm an cdv ct),osl⟩)
 (c:PySem.W.codeIn K cdv qual=true) (k:PySem.W.keepIn K (.ref f)=true):Fun K x qual st f (PySem.W.fnOf x qual (B8 st) (o6 st) (c5 st) .none kV doc pm an cdv ct):=⟨⟨oc,od,kV,doc,pm,an,cdv,ct,osl,rfl,l,c⟩,k⟩
end
section
variable{X:Cx}
end
def Same (H H':Hp):Prop:=∀b o,H b=some o->H' b=some o
def Same.refl (H:Hp):Same H H:=λ_ _ h=>h
def Same.trans (a:Same H H1)(b:Same H1 H2):Same H H2:=λc o h=>b c o (a c o h)
def Same.seq {K:PySem.W.Frag}{H H':Hp}{a:Addr}{xs:List V}(e:Same H H')(h:K4 K H a xs):K4 K H' a xs:=by
 rcases h with(h|⟨o,h⟩)|h
 ·exact .inl (.inl (e _ _ h))
 ·exact .inl (.inr ⟨o,e _ _ h⟩)
 ·exact .inr h
end L2
namespace DL
open PySem PySem.Spec L2
open PyProof.Rows hiding St
inductive D where
 |non|bl (b:Bool)|int (i:Int)|str (x:Str)|tup (xs:List D)|lst (xs:List D)|dct
mutual
def m4:D->Int
 |.int i=>hashInt i
 |.tup xs=>reduceHash (aAO (tK xs))
 |_=>0
def tK:List D->List Int
 |[]=>[]
 |x::xs=>m4 x::tK xs
end
def Q4:Nat->D->Bool
 |_,.int _=>true
 |n+1,.tup xs=>xs.all (Q4 n)
 |_,_=>false
inductive R (α:Type)where
 |ok (a:α)|ex (e:Str)|bad
def R.bind {α β:Type}:R α->(α->R β)->R β
 |.ok a,f=>f a
 |.ex e,_=>.ex e
 |.bad,_=>.bad
@[simp]def R.aa0 {α β:Type}(a:α)(f:α->R β):(R.ok a).bind f=f a:=rfl
section
variable(K:PySem.W.Frag) (H:Hp) (O:Addr->Prop)
mutual
inductive Rep:V->D->Prop
 |non:Rep .non .non
 |bl {b:Bool}:Rep (.bl b) (.bl b)
 |int {i:Int}:Rep (.int i) (.int i)
 |str {x:Str}:Rep (.str x) (.str x)
 |tup {a:Addr} {vs:List V} {ds:List D} (h:W2 K H a vs) (r:Reps vs ds):Rep (.ref a) (.tup ds)
 |lst {a:Addr} {vs:List V} {ds:List D} (h:K4 K H a vs) (n:¬O a) (r:Reps vs ds):Rep (.ref a) (.lst ds)
 |dct {a:Addr} {o:Obj} (h:H a=some (.ext λh=>h.get? a=some o)) (x:o.ExactDict) (n:¬O a):Rep (.ref a) .dct
inductive Reps:List V->List D->Prop
 |nil:Reps [] []
 |cons {v:V} {d:D} {vs:List V} {ds:List D} (h:Rep v d) (t:Reps vs ds):Reps (v::vs) (d::ds)
end
end
section
variable{K:PySem.W.Frag}
def _root_.L2.Same.tup {a:Addr}{xs:List V}(e:Same H H')(h:W2 K H a xs):W2 K H' a xs:=by
 rcases h with(h|⟨o,h⟩)|h
 ·exact .inl (.inl (e _ _ h))
 ·exact .inl (.inr ⟨o,e _ _ h⟩)
 ·exact .inr h
mutual
theorem Rep.mono (hT:∀a xs,W2 K H a xs->W2 K H' a xs)(hL:∀a xs,¬O a->K4 K H a xs->¬O' a/\K4 K H' a xs)(hD:∀a φ,¬O a->H a=some (.ext φ)->¬O' a/\H' a=some (.ext φ)):∀{v:V} {d:D},Rep K H O v d->Rep K H' O' v d
 |_,_,.non=>.non
 |_,_,.bl=>.bl
 |_,_,.int=>.int
 |_,_,.str=>.str
 |_,_,.tup h r=>.tup (hT _ _ h) (Reps.mono hT hL hD r)
 |_,_,.lst h n r=>.lst (hL _ _ n h).2 (hL _ _ n h).1 (Reps.mono hT hL hD r)
 |_,_,.dct h x n=>.dct (hD _ _ n h).2 x (hD _ _ n h).1
theorem Reps.mono (hT:∀a xs,W2 K H a xs->W2 K H' a xs)(hL:∀a xs,¬O a->K4 K H a xs->¬O' a/\K4 K H' a xs)(hD:∀a φ,¬O a->H a=some (.ext φ)->¬O' a/\H' a=some (.ext φ)):∀{vs:List V} {ds:List D},Reps K H O vs ds->Reps K H' O' vs ds
 |_,_,.nil=>.nil
 |_,_,.cons h t=>.cons (Rep.mono hT hL hD h) (Reps.mono hT hL hD t)
end
def Rep.same (e:Same H H')(r:Rep K H O v d):Rep K H' O v d:=r.mono (λ_ _ h=>e.tup h) (λ_ _ n h=>⟨n,e.seq h⟩) λ_ _ n h=>⟨n,e _ _ h⟩
def Reps.same (e:Same H H')(r:Reps K H O v d):Reps K H' O v d:=r.mono (λ_ _ h=>e.tup h) (λ_ _ n h=>⟨n,e.seq h⟩) λ_ _ n h=>⟨n,e _ _ h⟩
def Rep.sub (e:∀a,O' a->O a)(r:Rep K H O v d):Rep K H O' v d:=r.mono (λ_ _ h=>h) (λ_ _ n h=>⟨λz=>n (e _ z),h⟩) λ_ _ n h=>⟨λz=>n (e _ z),h⟩
def Reps.sub (e:∀a,O' a->O a)(r:Reps K H O v d):Reps K H O' v d:=r.mono (λ_ _ h=>h) (λ_ _ n h=>⟨λz=>n (e _ z),h⟩) λ_ _ n h=>⟨λz=>n (e _ z),h⟩
theorem Reps.length:∀{vs:List V} {ds:List D},Reps K H O vs ds->vs.length=ds.length
 |_,_,.nil=>rfl
 |_,_,.cons _ t=>by simp[Reps.length t]
theorem Reps.get:∀{vs:List V} {ds:List D} {i:Nat} {d:D},Reps K H O vs ds->ds[i]?=some d->∃v,vs[i]?=some v/\Rep K H O v d
 |_,_,_,_,.nil,e=>by simp at e
 |_,_,0,_,.cons r _,e=>by simp at e;subst e;exact⟨_,rfl,r⟩
 |_,_,i+1,d,.cons _ t,e=>by obtain⟨u,h1,h2⟩:=Reps.get (i:=i) (d:=d) t (by simpa using e);exact⟨u,by simpa using h1,h2⟩
theorem Reps.append:∀{vs ws:List V} {ds es:List D},Reps K H O vs ds->Reps K H O ws es->Reps K H O (vs++ws) (ds++es)
 |_,_,_,_,.nil,s=>s
 |_,_,_,_,.cons r t,s=>.cons r (Reps.append t s)
theorem Reps.take:∀{vs:List V} {ds:List D} (n:Nat),Reps K H O vs ds->Reps K H O (vs.take n) (ds.take n)
 |_,_,0,_=>.nil
 |_,_,_+1,.nil=>.nil
 |_,_,n+1,.cons r t=>.cons r (Reps.take n t)
theorem Reps.drop:∀{vs:List V} {ds:List D} (n:Nat),Reps K H O vs ds->Reps K H O (vs.drop n) (ds.drop n)
 |_,_,0,r=>r
 |_,_,_+1,.nil=>.nil
 |_,_,n+1,.cons _ t=>Reps.drop n t
def Reps.dropLast (r:Reps K H O vs ds):Reps K H O vs.dropLast ds.dropLast:=by rw[aDY,aDY,r.length];exact r.take _
def Reps.snoc (r:Reps K H O vs ds)(h:Rep K H O v d):Reps K H O (vs++[v]) (ds++[d]):=r.append (.cons h .nil)
theorem Reps.ints:∀(ns:List Int),Reps K H O (ns.map V.int) (ns.map D.int)
 |[]=>.nil
 |_::ns=>.cons .int (Reps.ints ns)
theorem Reps.reverse:∀{vs:List V} {ds:List D},Reps K H O vs ds->Reps K H O vs.reverse ds.reverse
 |_,_,.nil=>.nil
 |_,_,.cons r t=>by rw[aAQ,aAQ];exact(Reps.reverse t).snoc r
end
def Kp (H:Hp)(O:Addr->Prop)(H':Hp)(O':Addr->Prop):Prop:=∀b o,H b=some o->¬O b->H' b=some o/\¬O' b
section
def Kp.refl (H:Hp)(O:Addr->Prop):Kp H O H O:=λ_ _ h n=>⟨h,n⟩
def Kp.of (s:Same H H'):Kp H O H' O:=λb o h n=>⟨s b o h,n⟩
def Kp.trans (a:Kp H O H' O')(b:Kp H' O' H'' O''):Kp H O H'' O'':=λc o h n=>let⟨h1,n1⟩:=a c o h n;b c o h1 n1
end
class Tabs where
 tbs:List (Addr×List (Pos×Str))
inductive Sl where
 |no|v (d:D)|o (xs:List D)|x (C:Value)|c (m:List D->R D) (φ:Hp->(Addr->Prop)->Addr->Prop)|d (kvs:List (D×D))
abbrev Ev:=List Sl
def Mt:HO->Prop
 |.lst _=>True
 |.dK _=>True
 |.dT _=>True
 |.ext _=>True
 |_=>False
def nG (K:PySem.W.Frag)(H:Hp)(O:Addr->Prop)(es:List DictEntry)(kvs:List (D×D)):Prop:=
 Paired (λ(e:DictEntry) (p:D×D)=>(∃a,e.key=.ref a/\Rep K H O (.ref a) p.1)/\(∃v,RelV v e.val/\Rep K H O v p.2)/\e.hash=m4 p.1/\Q4 7 p.1=true) es kvs
def NY (a:Addr)(o:Obj)(es:List DictEntry):Prop:=(a==sysModules)=false/\o.ExactDict/\∃ea ep,o.data=.dict ea ep/\ea.toList=es
def FC:Sl->Prop
 |.o _=>True
 |.d _=>True
 |_=>False
section
variable(K:PySem.W.Frag) (H9 H:Hp) (O:Addr->Prop)
def fQ (x:Option (Option V)):Sl->Prop
 |.no=>True
 |.v d=>∃v,x=some (some v)/\Rep K H O v d
 |.o xs=>∃a vs,x=some (some (V.ref a))/\O a/\H9 a=none/\H a=some (.lst vs)/\Reps K H O vs xs
 |.x C=>∃a o,x=some (some (V.ref a))/\H a=some (.frz o (.own a))/\o.cls=C
 |.c m φ=>∃a,x=some (some (V.ref a))/\∀H2 O2,Kp H O H2 O2->φ H2 O2 a
 |.d kvs=>∃a o es,x=some (some (V.ref a))/\O a/\H9 a=none/\H a=some (.ext λh=>h.get? a=some o)/\NY a o es/\nG K H O es kvs/\(kvs.map (·.1)).Nodup
end
variable [Tabs]
def Tb (H:Hp):Prop:=∀p∈Tabs.tbs,H p.1=some (.tbl p.2)
structure EnvOk (K:PySem.W.Frag)(H9:Hp)(O0:Addr->Prop)(H:Hp)(O:Addr->Prop)(σ:St)(ρ:Ev):Prop where
 len:σ.length=ρ.length
 same:Same H9 H
 sub:∀a,O0 a->O a
 trk:∀a,O a->∃o,H a=some o/\Mt o
 trk0:∀a,O0 a->∃o,H9 a=some o
 tab:Tb H
 slot:∀(i:Nat) (sl:Sl),ρ[i]?=some sl->fQ K H9 H O σ[i]? sl
 inj:∀(i j:Nat) (x y:Sl) (a:Addr),ρ[i]?=some x->ρ[j]?=some y->FC x->FC y->σ[i]?=some (some (V.ref a))->σ[j]?=some (some (V.ref a))->i=j
section
variable{K:PySem.W.Frag} {O0 O O':Addr->Prop}
def Tb.same (h:Tb H)(s:Same H H'):Tb H':=λp hp=>s _ _ (h p hp)
def EnvOk.val (E:EnvOk K H9 O0 H O σ ρ)(i:Nat)(d:D)(h:ρ[i]?=some (Sl.v d)):∃v,σ[i]?=some (some v)/\Rep K H O v d:=E.slot i _ h
def EnvOk.own (E:EnvOk K H9 O0 H O σ ρ)(i:Nat)(xs:List D)(h:ρ[i]?=some (Sl.o xs)):∃a vs,σ[i]?=some (some (V.ref a))/\O a/\H9 a=none/\H a=some (.lst vs)/\Reps K H O vs xs:=E.slot i _ h
def nG.mono (f:∀{v:V} {d:D},Rep K H O v d->Rep K H' O' v d):∀{kvs:List (D×D)},nG K H O es kvs->nG K H' O' es kvs:=λ{_} r=>Paired.af0 r λ_ _ ⟨⟨v,h1,h2⟩,⟨w,h3,h4⟩,h5⟩=>⟨⟨v,h1,f h2⟩,⟨w,h3,f h4⟩,h5⟩
def fQ.move (h:fQ K H9 H O x sl)(hT:∀a xs,W2 K H a xs->W2 K H' a xs)(hL:∀a xs,¬O a->K4 K H a xs->¬O' a/\K4 K H' a xs)(hF:∀a o u,H a=some (.frz o u)->H' a=some (.frz o u))(hk:Kp H O H' O')(ho:FC sl->∀a o,x=some (some (V.ref a))->O a->H a=some o->O' a/\H' a=some o):fQ K H9 H' O' x sl:=by
 have hD:∀a φ,¬O a->H a=some (.ext φ)->¬O' a/\H' a=some (.ext φ):=λa φ n h=>⟨(hk a _ h n).2,(hk a _ h n).1⟩;cases sl with
 |no=>trivial
 |v d=>obtain⟨v,h1,h2⟩:=h;exact⟨v,h1,h2.mono hT hL hD⟩
 |o xs=>obtain⟨a,vs,h1,h2,h3,h4,h5⟩:=h;obtain⟨h6,h7⟩:=ho trivial a _ h1 h2 h4;exact⟨a,vs,h1,h6,h3,h7,h5.mono hT hL hD⟩
 |x C=>obtain⟨a,o,h1,h2,h3⟩:=h;exact⟨a,o,h1,hF _ _ _ h2,h3⟩
 |c m φ=>obtain⟨a,h1,h2⟩:=h;exact⟨a,h1,λH2 O2 k=>h2 H2 O2 (hk.trans k)⟩
 |d kvs=>obtain⟨a,o,es,h1,h2,h3,h4,h5,h6⟩:=h;obtain⟨h7,h8⟩:=ho trivial a _ h1 h2 h4;exact⟨a,o,es,h1,h7,h3,h8,h5,h6.1.mono λr=>r.mono hT hL hD,h6.2⟩
def fQ.grow (h:fQ K H9 H O x sl)(e:Same H H'):fQ K H9 H' O x sl:=
 h.move (λ_ _ q=>e.tup q) (λ_ _ n q=>⟨n,e.seq q⟩) (λ_ _ _ q=>e _ _ q) (Kp.of e) λ_ _ _ _ q1 q2=>⟨q1,e _ _ q2⟩
def EnvOk.grow (E:EnvOk K H9 O0 H O σ ρ)(e:Same H H'):EnvOk K H9 O0 H' O σ ρ where
 len:=E.len
 same:=E.same.trans e
 sub:=E.sub
 trk:=λa h=>let⟨o,q,m⟩:=E.trk a h;⟨o,e a o q,m⟩
 trk0:=E.trk0
 tab:=E.tab.same e
 slot:=λi sl h=>(E.slot i sl h).grow e
 inj:=E.inj
def EnvOk.fresh (E:EnvOk K H9 O0 H O σ ρ)(h:H p=none):¬O p:=λz=>by obtain⟨o,q,_⟩:=E.trk p z;rw[h]at q;cases q
def u0 {α:Type}{l:List α}{i j:Nat}{x:α}(h:i≠j):(l.set i x)[j]?=l[j]?:=aCv h
def y8 {α:Type}{l:List α}{i:Nat}{x y:α}(h:(l.set i x)[i]?=some y):y=x/\i<l.length:=by
 have hl:i<l.length:=by have:=(aAA.mp h).1;simpa using this
 rw[aBy hl]at h;exact⟨(aAl h).symm,hl⟩
def EnvOk.put (E:EnvOk K H9 O0 H O σ ρ){v:Option V}{sl:Sl}(i:Nat)(no:¬FC sl)(r:fQ K H9 H O (some v) sl):EnvOk K H9 O0 H O (σ.set i v) (ρ.set i sl)where
 len:=by simpa using E.len
 same:=E.same
 sub:=E.sub
 trk:=E.trk
 trk0:=E.trk0
 tab:=E.tab
 slot:=λj s h=>by
  by_cases hj:i=j
  ·subst hj;obtain⟨e,hl⟩:=y8 h;subst e;rw[aBy (by rw[E.len];exact hl)];exact r
  ·rw[u0 hj]at h⊢;exact E.slot j s h
 inj:=λj k x y a h1 h2 o1 o2 h3 h4=>by
  have ne:∀(l:Nat) (z:Sl),(ρ.set i sl)[l]?=some z->FC z->i≠l:=λl z q o e=>by subst e;obtain⟨e,_⟩:=y8 q;subst e;exact no o
  have n1:=ne j x h1 o1;have n2:=ne k y h2 o2;rw[u0 n1]at h1 h3;rw[u0 n2]at h2 h4;exact E.inj j k x y a h1 h2 o1 o2 h3 h4
def EnvOk.set (E:EnvOk K H9 O0 H O σ ρ)(i:Nat)(r:Rep K H O v d):EnvOk K H9 O0 H O (σ.set i (some v)) (ρ.set i (.v d)):=E.put i (λz=>z) ⟨v,rfl,r⟩
def fQ.at_ (h:fQ K H9 H O x sl)(o:FC sl):∃a u,x=some (some (V.ref a))/\O a/\H9 a=none/\H a=some u/\Mt u:=by
 cases sl with
 |o xs=>obtain⟨a,vs,h1,h2,h3,h4,_⟩:=h;exact⟨a,_,h1,h2,h3,h4,trivial⟩
 |d kvs=>obtain⟨a,u,es,h1,h2,h3,h4,_⟩:=h;exact⟨a,_,h1,h2,h3,h4,trivial⟩
 |_=>exact o.elim
def EnvOk.af1 (E:EnvOk K H9 O0 H O σ ρ){a:Addr}{sl:Sl}(i:Nat)(hn:∀(j:Nat) (y:Sl),i≠j->ρ[j]?=some y->FC y->σ[j]?≠some (some (V.ref a)))(r:fQ K H9 H O (some (some (V.ref a))) sl):
  EnvOk K H9 O0 H O (σ.set i (some (V.ref a))) (ρ.set i sl)where
 len:=by simpa using E.len
 same:=E.same
 sub:=E.sub
 trk:=E.trk
 trk0:=E.trk0
 tab:=E.tab
 slot:=λj s h=>by
  by_cases hj:i=j
  ·subst hj;obtain⟨e,hl⟩:=y8 h;subst e;rw[aBy (by rw[E.len];exact hl)];exact r
  ·rw[u0 hj]at h⊢;exact E.slot j s h
 inj:=λj k x y b h1 h2 o1 o2 h3 h4=>by
  have at_:∀(l:Nat),i=l->(σ.set i<|some<|V.ref a)[l]?=some (some<|V.ref b)->b=a:=λl e q=>by subst e;obtain⟨e,_⟩:=y8 q;injection e with e;injection e
  by_cases hj:i=j
  ·by_cases hk:i=k
   ·exact hj.symm.trans hk
   ·exfalso;have eb:=at_ j hj h3;subst eb;rw[u0 hk]at h2 h4;exact hn k y hk h2 o2 h4
  ·by_cases hk:i=k
   ·exfalso;have eb:=at_ k hk h4;subst eb;rw[u0 hj]at h1 h3;exact hn j x hj h1 o1 h3
   ·rw[u0 hj]at h1 h3;rw[u0 hk]at h2 h4;exact E.inj j k x y b h1 h2 o1 o2 h3 h4
def j3 (h:H p=none)(o:HO):Same H (upd H p o):=λb u q=>by rw[j5 (j9 q h)];exact q
def EnvOk.ab6 (E:EnvOk K H9 O0 H O σ ρ)(h:H a=none)(hk:K.lookup a=none)(m:Mt u):EnvOk K H9 O0 (upd H a u) (λb=>O b\/b=a) σ ρ:=by
 have s:=j3 h u;have ne:∀b xs,K4 K H b xs->b≠a:=λb xs q z=>by
  subst z;rcases q with(q|⟨o,q⟩)|⟨o,_,_,q,_⟩
  ·rw[h]at q;cases q
  ·rw[h]at q;cases q
  ·rw[hk]at q;cases q
 refine⟨E.len,E.same.trans s,λb z=>.inl (E.sub b z),λb z=>?_,E.trk0,E.tab.same s,λi sl e=>?_,E.inj⟩
 ·rcases z with z|z
  ·obtain⟨o,q,m⟩:=E.trk b z;exact⟨o,s b o q,m⟩
  ·subst z;exact⟨_,i9,m⟩
 ·exact(E.slot i sl e).move (λ_ _ q=>s.tup q) (λb xs n q=>⟨λz=>z.elim n (ne b xs q),s.seq q⟩) (λ_ _ _ q=>s _ _ q) (λb o hb n=>⟨s b o hb,λz=>z.elim n λe=>by subst e;rw[h]at hb;cases hb⟩) λ_ b o _ q1 q2=>⟨.inl q1,s _ _ q2⟩
def WV (h:H a=none)(hk:K.lookup a=none)(q:K4 K H b xs):b≠a:=λz=>by
 subst z;rcases q with(q|⟨o,q⟩)|⟨o,_,_,q,_⟩
 ·rw[h]at q;cases q
 ·rw[h]at q;cases q
 ·rw[hk]at q;cases q
def Reps.ab6 (h:H a=none)(hk:K.lookup a=none)(r:Reps K H O v d):Reps K (upd H a u) (λb=>O b\/b=a) v d:=
 r.mono (λ_ _ q=>(j3 h u).tup q) (λb xs n q=>⟨λz=>z.elim n (WV h hk q),(j3 h u).seq q⟩) λb φ n q=>⟨λz=>z.elim n (j9 q h),j3 h u _ _ q⟩
def EnvOk.ad9 (E:EnvOk K H9 O0 H O σ ρ)(i:Nat)(h:H a=none)(hk:K.lookup a=none)(m:Mt u)(r:H9 a=none->fQ K H9 (upd H a u) (λb=>O b\/b=a) (some (some (V.ref a))) sl):
  EnvOk K H9 O0 (upd H a u) (λb=>O b\/b=a) (σ.set i (some (.ref a))) (ρ.set i sl):=by
 have h0:H9 a=none:=by
  cases e:H9 a with
  |none=>rfl
  |some o=>have:=E.same a o e;rw[h]at this;cases this
 refine(E.ab6 h hk m).af1 i (λj y _ e o q=>?_) (r h0);obtain⟨b,w,p1,_,_,p4,_⟩:=(E.slot j y e).at_ o;rw[q]at p1;injection p1 with p1;injection p1 with p1;injection p1 with p1;subst p1;rw[h]at p4;cases p4
def uJ (h:H a=some u)(m:Mt u)(q:W2 K H b xs):W2 K (upd H a u') b xs:=by
 have ne:∀w,H b=some w->¬Mt w->b≠a:=λw e n z=>by subst z;rw[h]at e;cases e;exact n m
 rcases q with(q|⟨o,q⟩)|q
 ·exact .inl (.inl (by rw[j5 (ne _ q λz=>z)];exact q))
 ·exact .inl (.inr ⟨o,by rw[j5 (ne _ q λz=>z)];exact q⟩)
 ·exact .inr q
def uY (hO:O a)(n:¬O b)(q:K4 K H b xs):K4 K (upd H a u') b xs:=by
 have ne:b≠a:=λz=>by subst z;exact n hO
 rcases q with(q|⟨o,q⟩)|q
 ·exact .inl (.inl (by rw[j5 ne];exact q))
 ·exact .inl (.inr ⟨o,by rw[j5 ne];exact q⟩)
 ·exact .inr q
def Rep.upd (h:H a=some u)(m:Mt u)(hO:O a)(r:Rep K H O v d):Rep K (upd H a u') O v d:=r.mono (λ_ _ q=>uJ h m q) (λ_ _ n q=>⟨n,uY hO n q⟩) λb _ n q=>⟨n,by rw[j5 (λz=>n (by rw[z];exact hO))];exact q⟩
def Reps.upd (h:H a=some u)(m:Mt u)(hO:O a)(r:Reps K H O v d):Reps K (upd H a u') O v d:=r.mono (λ_ _ q=>uJ h m q) (λ_ _ n q=>⟨n,uY hO n q⟩) λb _ n q=>⟨n,by rw[j5 (λz=>n (by rw[z];exact hO))];exact q⟩
def EnvOk.ae1 {i:Nat}{sl sl':Sl}{a:Addr}{u u':HO}(E:EnvOk K H9 O0 H O σ ρ)(e:ρ[i]?=some sl)(ow:FC sl)(h1:σ[i]?=some (some (V.ref a)))(hu:H a=some u)(m':Mt u')(ow':FC sl')
  (r:O a->H9 a=none->Mt u->fQ K H9 (upd H a u') O (some (some (V.ref a))) sl'):EnvOk K H9 O0 (upd H a u') O σ (ρ.set i sl')/\Kp H O (upd H a u') O:=by
 obtain⟨b,w,p1,p2,p3,p4,m⟩:=(E.slot i sl e).at_ ow;rw[h1]at p1;injection p1 with p1;injection p1 with p1;injection p1 with p1;subst p1;rw[hu]at p4;cases p4;have kp:Kp H O (upd H a u') O:=λb o hb n=>⟨by rw[j5 (λz=>by subst z;exact n p2)];exact hb,n⟩;have nf:∀b w,H b=some w->¬Mt w->upd H a u' b=some w:=λb w q n=>by rw[j5 (λz=>by subst z;rw[hu]at q;cases q;exact n m)];exact q
 refine⟨⟨by simpa using E.len,λb o q=>?_,E.sub,λb z=>?_,E.trk0,λp hp=>nf _ _ (E.tab p hp) λz=>z,λj s h=>?_,λj k x y b q1 q2 o1 o2 q3 q4=>?_⟩,kp⟩
 ·rw[j5 (λz=>by subst z;rw[p3]at q;cases q)];exact E.same b o q
 ·by_cases hb:b=a
  ·subst hb;exact⟨_,i9,m'⟩
  ·obtain⟨o,q,m⟩:=E.trk b z;exact⟨o,by rw[j5 hb];exact q,m⟩
 ·by_cases hj:i=j
  ·subst hj;obtain⟨e',_⟩:=y8 h;subst e';rw[h1];exact r p2 p3 m
  ·rw[u0 hj]at h;refine(E.slot j s h).move (λ_ _ q=>uJ hu m q) (λ_ _ n q=>⟨n,uY p2 n q⟩) (λb o w q=>nf _ _ q λz=>z) kp λo b w q1 q2 q3=>⟨q2,?_⟩;rw[j5 (λz=>by subst z;exact hj (E.inj i j sl s b e h ow o h1 q1))];exact q3
 ·have fin:∀l z,(ρ.set i sl')[l]?=some z->FC z->∃z',ρ[l]?=some z'/\FC z':=λl z q o=>by
   by_cases hl:i=l
   ·subst hl;exact⟨sl,e,ow⟩
   ·rw[u0 hl]at q;exact⟨z,q,o⟩
  obtain⟨x',u1,o1'⟩:=fin j x q1 o1;obtain⟨y',u2,o2'⟩:=fin k y q2 o2;exact E.inj j k x' y' b u1 u2 o1' o2' q3 q4
def EnvOk.ae5 {i:Nat}{sl sl':Sl}{a:Addr}(E:EnvOk K H9 O0 H O σ ρ)(e:ρ[i]?=some sl)(ow:FC sl)(h1:σ[i]?=some (some (V.ref a)))(no:¬FC sl')(r:fQ K H9 H (λb=>O b/\b≠a) (some (some (V.ref a))) sl'):
  EnvOk K H9 O0 H (λb=>O b/\b≠a) σ (ρ.set i sl'):=by
 obtain⟨b,w,p1,p2,p3,p4,m⟩:=(E.slot i sl e).at_ ow;rw[h1]at p1;injection p1 with p1;injection p1 with p1;injection p1 with p1;subst p1;have sub:∀b,(O b/\b≠a)->O b:=λb z=>z.1;refine⟨by simpa using E.len,E.same,λb z=>⟨E.sub b z,λq=>?_⟩,λb z=>E.trk b z.1,E.trk0,E.tab,λj s h=>?_,λj k x y b q1 q2 o1 o2 q3 q4=>?_⟩
 ·subst q;obtain⟨o,q⟩:=E.trk0 b z;rw[p3]at q;cases q
 ·by_cases hj:i=j
  ·subst hj;obtain⟨e',_⟩:=y8 h;subst e';rw[h1];exact r
  ·rw[u0 hj]at h;refine(E.slot j s h).move (λ_ _ q=>q) (λ_ _ n q=>⟨λz=>n z.1,q⟩) (λ_ _ _ q=>q) (λb o hb n=>⟨hb,λz=>n z.1⟩) λo b w q1 q2 q3=>⟨⟨q2,λz=>?_⟩,q3⟩;subst z;exact hj (E.inj i j sl s b e h ow o h1 q1)
 ·have n1:i≠j:=λz=>by subst z;obtain⟨e',_⟩:=y8 q1;subst e';exact no o1
  have n2:i≠k:=λz=>by subst z;obtain⟨e',_⟩:=y8 q2;subst e';exact no o2
  rw[u0 n1]at q1;rw[u0 n2]at q2;exact E.inj j k x y b q1 q2 o1 o2 q3 q4
end
def XW (X:Cx)(e:Str)(H:Hp):Prop:=False
def RC (X:Cx)(H:Hp)(O:Addr->Prop)(r:R D)(Q:VK):Prop:=match r with
 |.ok d=>∀v H',Same H H'->Rep X.K H' O v d->Q v H'
 |.ex e=>∀H',Same H H'->XW X e H'
 |.bad=>False
def x9 (K:PySem.W.Frag)(H:Hp)(O:Addr->Prop)(v:V)(d:D):Prop:=Rep K H O v d\/∃a vs ds,v=.ref a/\d=.lst ds/\K4 K H a vs/\Reps K H O vs ds
def KN (X:Cx)(H:Hp)(O:Addr->Prop)(r:R D)(Q:VK):Prop:=match r with
 |.ok d=>∀v H',Same H H'->x9 X.K H' O v d->Q v H'
 |.ex e=>∀H',Same H H'->XW X e H'
 |.bad=>False
def rW (X:Cx)(H:Hp)(r:R Bool)(Q:Bool->Hp->Prop):Prop:=match r with
 |.ok b=>∀H',Same H H'->Q b H'
 |.ex e=>∀H',Same H H'->XW X e H'
 |.bad=>False
def GS (X:Cx)(H:Hp)(O:Addr->Prop)(r:R (List D))(Q:List V->Hp->Prop):Prop:=match r with
 |.ok ds=>∀vs H',Same H H'->Reps X.K H' O vs ds->Q vs H'
 |.ex e=>∀H',Same H H'->XW X e H'
 |.bad=>False
def KF (X:Cx)(H:Hp)(O:Addr->Prop)(r:R (List D))(Q:List V->Hp->Prop):Prop:=match r with
 |.ok ds=>∀vs H',Same H H'->Paired (x9 X.K H' O) vs ds->Q vs H'
 |.ex e=>∀H',Same H H'->XW X e H'
 |.bad=>False
def tD (X:Cx)(f:Ev->R D):TE:=λσ H Q=>∃H9 O0 O ρ,EnvOk X.K H9 O0 H O σ ρ/\RC X H O (f ρ) Q
def xk (X:Cx)(f:Ev->R D):TE:=λσ H Q=>∃H9 O0 O ρ,EnvOk X.K H9 O0 H O σ ρ/\KN X H O (f ρ) Q
def rj (X:Cx)(f:Ev->R Bool):TT:=λσ H Q=>∃H9 O0 O ρ,EnvOk X.K H9 O0 H O σ ρ/\rW X H (f ρ) Q
def tDs (X:Cx)(f:Ev->R (List D)):TA:=λσ H Q=>∃H9 O0 O ρ,EnvOk X.K H9 O0 H O σ ρ/\GS X H O (f ρ) Q
def oj (X:Cx)(f:Ev->R (List D)):TA:=λσ H Q=>∃H9 O0 O ρ,EnvOk X.K H9 O0 H O σ ρ/\KF X H O (f ρ) Q
def PD (X:Cx)(e:Expr)(f:Ev->R D):Prop:=PE X e (tD X f)
def PB (X:Cx)(e:Expr)(f:Ev->R D):Prop:=PE X e (xk X f)
def vE (X:Cx)(e:Expr)(f:Ev->R Bool):Prop:=PT X e (rj X f)
def IF (X:Cx)(es:List Expr)(f:Ev->R (List D)):Prop:=PA X es (tDs X f)
def XM (X:Cx)(es:List Expr)(f:Ev->R (List D)):Prop:=PA X es (oj X f)
def HZ {r:Hp->(Addr->Prop)->Ev->VK->Prop}(h:PE X e t)(i:∀σ H Q H9 O0 O ρ,EnvOk X.K H9 O0 H O σ ρ->r H O ρ Q->t σ H Q):PE X e λσ H Q=>∃H9 O0 O ρ,EnvOk X.K H9 O0 H O σ ρ/\r H O ρ Q:=λpins s σ H Q I q=>h pins s σ H Q I (let⟨H9,O0,O,ρ,E,q⟩:=q;i σ H Q H9 O0 O ρ E q)
def ny {r:Hp->(Addr->Prop)->Ev->(Bool->Hp->Prop)->Prop}(h:PT X e t)(i:∀σ H Q H9 O0 O ρ,EnvOk X.K H9 O0 H O σ ρ->r H O ρ Q->t σ H Q):PT X e λσ H Q=>∃H9 O0 O ρ,EnvOk X.K H9 O0 H O σ ρ/\r H O ρ Q:=λpins s σ H Q I q=>h pins s σ H Q I (let⟨H9,O0,O,ρ,E,q⟩:=q;i σ H Q H9 O0 O ρ E q)
def jy {r:Hp->(Addr->Prop)->Ev->(List V->Hp->Prop)->Prop}(h:PA X es t)(i:∀σ H Q H9 O0 O ρ,EnvOk X.K H9 O0 H O σ ρ->r H O ρ Q->t σ H Q):PA X es λσ H Q=>∃H9 O0 O ρ,EnvOk X.K H9 O0 H O σ ρ/\r H O ρ Q:=λpos pins s σ H Q I q=>h pos pins s σ H Q I (let⟨H9,O0,O,ρ,E,q⟩:=q;i σ H Q H9 O0 O ρ E q)
def rK {β:Type}{r:Hp->(Addr->Prop)->Ev->β->Prop}{G:List (Addr×Obj)->Shared->St->Hp->β->Prop}(h:∀pins s σ H Q,Inv X pins σ H s->∀H9 O0 O ρ,EnvOk X.K H9 O0 H O σ ρ->r H O ρ Q->G pins s σ H Q)(pins s σ H Q)(I:Inv X pins σ H s)(q:∃H9 O0 O ρ,EnvOk X.K H9 O0 H O σ ρ/\r H O ρ Q):G pins s σ H Q:=let⟨H9,O0,O,ρ,E,q⟩:=q;h pins s σ H Q I H9 O0 O ρ E q
def PD.pb (h:PD X e f):PB X e f:=HZ h λσ H Q H9 O0 O ρ E q=>⟨H9,O0,O,ρ,E,by
 unfold RC KN at*
 cases e:f ρ with
 |ok d=>rw[e]at q;exactλv H' s r=>q v H' s (.inl r)
 |ex x=>rw[e]at q;exact q
 |bad=>rw[e]at q;exact q⟩
def RC.seq {O:Addr->Prop}(h:RC X H O (r.bind g) Q):
  RC X H O r λv H1=>∃d,r=.ok d/\Same H H1/\Rep X.K H1 O v d/\RC X H1 O (g d) Q:=by
 cases r with
 |ok d=>
  intro v H1 s1 r1;refine⟨d,rfl,s1,r1,?_⟩;have h':RC X H O (g d) Q:=h;cases e:g d with
  |ok d'=>rw[e]at h';exactλw H2 s2 r2=>h' w H2 (s1.trans s2) r2
  |ex x=>rw[e]at h';exactλH2 s2=>h' H2 (s1.trans s2)
  |bad=>rw[e]at h';exact h'
 |ex x=>exact h
 |bad=>exact h
def KN.seq {O:Addr->Prop}(h:RC X H O (r.bind g) Q):
  KN X H O r λv H1=>∃d,r=.ok d/\Same H H1/\x9 X.K H1 O v d/\RC X H1 O (g d) Q:=by
 cases r with
 |ok d=>
  intro v H1 s1 r1;refine⟨d,rfl,s1,r1,?_⟩;have h':RC X H O (g d) Q:=h;cases e:g d with
  |ok d'=>rw[e]at h';exactλw H2 s2 r2=>h' w H2 (s1.trans s2) r2
  |ex x=>rw[e]at h';exactλH2 s2=>h' H2 (s1.trans s2)
  |bad=>rw[e]at h';exact h'
 |ex x=>exact h
 |bad=>exact h
def RC.grow {O:Addr->Prop}(h:RC X H O r Q)(s1:Same H H1):RC X H1 O r Q:=by
 cases r with
 |ok d=>exactλw H2 s2 r2=>h w H2 (s1.trans s2) r2
 |ex x=>exactλH2 s2=>h H2 (s1.trans s2)
 |bad=>exact h
section
variable{X:Cx}
def x9.same (e:Same H H')(r:x9 X.K H O v d):x9 X.K H' O v d:=by
 rcases r with r|⟨a,vs,ds,h1,h2,h3,h4⟩
 ·exact .inl (r.same e)
 ·exact .inr ⟨a,vs,ds,h1,h2,e.seq h3,h4.same e⟩
def x9.aa5 {K:PySem.W.Frag}{ds:List D}(r:x9 K H O v (.lst ds)):∃a vs,v=.ref a/\K4 K H a vs/\Reps K H O vs ds:=by
 rcases r with r|⟨a,vs,es,h1,h2,h3,h4⟩
 ·cases r with|lst h n r=>exact⟨_,_,rfl,h,r⟩
 ·injection h2 with h2;subst h2;exact⟨a,vs,h1,h3,h4⟩
def x9.af4 {K:PySem.W.Frag}(r:x9 K H O v .dct):∃a o,v=.ref a/\H a=some (.ext λh=>h.get? a=some o)/\o.ExactDict:=by
 rcases r with r|⟨a,vs,es,h1,h2,h3,h4⟩
 ·cases r with|dct h x n=>exact⟨_,_,rfl,h,x⟩
 ·cases h2
def x9.tupI {K:PySem.W.Frag}{ds:List D}(r:x9 K H O v (.tup ds)):∃a vs,v=.ref a/\W2 K H a vs/\Reps K H O vs ds:=by
 rcases r with r|⟨a,vs,es,h1,h2,h3,h4⟩
 ·cases r with|tup h r=>exact⟨_,_,rfl,h,r⟩
 ·cases h2
def x9.aa6 {K:PySem.W.Frag}{i:Int}(r:x9 K H O v (.int i)):v=.int i:=by
 rcases r with r|⟨a,vs,es,h1,h2,h3,h4⟩
 ·cases r;rfl
 ·cases h2
def x9.blI {K:PySem.W.Frag}{i:Bool}(r:x9 K H O v (.bl i)):v=.bl i:=by
 rcases r with r|⟨a,vs,es,h1,h2,h3,h4⟩
 ·cases r;rfl
 ·cases h2
def x9.ab9 {K:PySem.W.Frag}(r:x9 K H O v .non):v=.non:=by
 rcases r with r|⟨a,vs,es,h1,h2,h3,h4⟩
 ·cases r;rfl
 ·cases h2
def x9.ac4 {K:PySem.W.Frag}{i:Str}(r:x9 K H O v (.str i)):v=.str i:=by
 rcases r with r|⟨a,vs,es,h1,h2,h3,h4⟩
 ·cases r;rfl
 ·cases h2
end
def aD (i:Nat)(ρ:Ev):R D:=match ρ[i]? with
 |some (.v d)=>.ok d
 |_=>.bad
def vH (i:Nat)(ρ:Ev):R D:=match ρ[i]? with
 |some (.v d)=>.ok d
 |some (.o xs)=>.ok (.lst xs)
 |_=>.bad
section
def c8 (i:Nat)(hN:X.N[i]?=some x:=by rfl)(hv:vJ X.env.scope x:=by first|exact aCh rfl|exact aBx (aCh rfl)|exact aBx (aBx rfl))(hd:(x==("__debug__":Str))=false:=by decide)(cg:(x==("__classdict__":Str))=false:=by decide):PD X (.Name x pos) (aD i):=HZ (J2 hN hv hd cg) λσ H Q H9 O0 O ρ E q=>by
 unfold aD at q;cases e:ρ[i]? with
 |none=>rw[e]at q;exact q.elim
 |some sl=>
  rw[e]at q;cases sl with
  |no=>exact q.elim
  |x C=>exact q.elim
  |c m φ=>exact q.elim
  |d kvs=>exact q.elim
  |o xs=>exact q.elim
  |v d=>obtain⟨v,h1,h2⟩:=E.val i d e;exact⟨v,h1,q v H (Same.refl H) h2⟩
def b8 (i:Nat)(hN:X.N[i]?=some x:=by rfl)(hv:vJ X.env.scope x:=by first|exact aCh rfl|exact aBx (aCh rfl)|exact aBx (aBx rfl))(hd:(x==("__debug__":Str))=false:=by decide)(cg:(x==("__classdict__":Str))=false:=by decide):PB X (.Name x pos) (vH i):=HZ (J2 hN hv hd cg) λσ H Q H9 O0 O ρ E q=>by
 unfold vH at q;cases e:ρ[i]? with
 |none=>rw[e]at q;exact q.elim
 |some sl=>
  rw[e]at q;cases sl with
  |no=>exact q.elim
  |x C=>exact q.elim
  |c m φ=>exact q.elim
  |d kvs=>exact q.elim
  |o xs=>obtain⟨a,vs,h1,h2,h3,h4,h5⟩:=E.own i xs e;exact⟨_,h1,q _ H (Same.refl H) (.inr ⟨a,vs,xs,rfl,rfl,K4.of h4,h5⟩)⟩
  |v d=>obtain⟨v,h1,h2⟩:=E.val i d e;exact⟨v,h1,q v H (Same.refl H) (.inl h2)⟩
def SG (d:D)(_:Ev):R D:=.ok d
def sR (h:PE X e (tC v))(r:∀H O,Rep X.K H O v d):PD X e (SG d):=HZ h λσ H Q H9 O0 O ρ E q=>q v H (Same.refl H) (r H O)
def c7 {j pos}:PD X (.Constant (.int i) j pos) (SG (.int i)):=sR CF λ_ _=>.int
def gU {j pos}:PD X (.Constant (.bool i) j pos) (SG (.bl i)):=sR ZQ λ_ _=>.bl
def BG {j pos}:PD X (.Constant .none j pos) (SG .non):=sR VG λ_ _=>.non
def iU (X:Cx)(f:Value->Value->Sem Value)(g:D->D->R D):Prop:=
 ∀(H:Hp) (O:Addr->Prop) (x y:V) (dx dy:D) (Q:VK),(∀p,H p=none->¬O p)->x9 X.K H O x dx->x9 X.K H O y dy->RC X H O (g dx dy) Q->∃r,gC X f r/\r x y H Q
def tq (X:Cx)(O:Addr->Prop)(g:D->D->R D)(Q:VK):V->V->Hp->Prop:=λx y H=>∃dx dy,(∀p,H p=none->¬O p)/\x9 X.K H O x dx/\x9 X.K H O y dy/\RC X H O (g dx dy) Q
def mL {O0 O:Addr->Prop}(E:EnvOk X.K H9 O0 H O σ ρ)(q:RC X H O ((f1 ρ).bind λx=>(f2 ρ).bind λy=>g x y) Q):
  xk X f1 σ H λx H1=>xk X f2 σ H1 λy H2=>tq X O g Q x y H2:=by
 refine⟨H9,O0,O,ρ,E,?_⟩;have h1:=KN.seq q;revert h1;cases e1:f1 ρ with
 |ok d1=>
  intro h1 x H1 s1 r1;obtain⟨d,e,_,r,h2⟩:=h1 x H1 s1 r1;cases e;have E1:=E.grow s1;refine⟨H9,O0,O,ρ,E1,?_⟩;have h3:=KN.seq h2;revert h3;cases e2:f2 ρ with
  |ok d2=>intro h3 y H2 s2 r2;obtain⟨d',e,_,r',h4⟩:=h3 y H2 s2 r2;cases e;exact⟨d1,d2,λp hp=>(E1.grow s2).fresh hp,r.same s2,r',h4⟩
  |ex x=>intro h3;exact h3
  |bad=>intro h3;exact h3
 |ex x=>intro h1;exact h1
 |bad=>intro h1;exact h1
def b9 (ho:iU X (binaryOp op) g)(ha:PB X a f1)(hb:PB X b f2):PD X (.BinOp a op b pos) (λρ=>(f1 ρ).bind λx=>(f2 ρ).bind λy=>g x y):=by refine rK λpins s σ H Q I H9 O0 O ρ E q=>?_;refine wpAny_BinOp (FA ha hb I (mL E q) λv u s2 x y H2 I2 rx ry h=>?_);obtain⟨dx,dy,fr,r1,r2,q⟩:=h;obtain⟨r,hr,hq⟩:=ho H2 O x y dx dy Q fr r1 r2 q;exact hr pins s2 σ H2 x y v u Q I2 rx ry hq
def nE (ho:iU X (compareOp op) g)(ha:PB X a f1)(hb:PB X b f2)(hm:behindInMarks op b=false:=by first|exact MY _|with_unfolding_all rfl):
  PD X (.Compare a [op] [b] pos) (λρ=>(f1 ρ).bind λx=>(f2 ρ).bind λy=>g x y):=by
 refine rK λpins s σ H Q I H9 O0 O ρ E q=>?_;refine wpAny_Compare1 (FA ha hb I (mL E q) λv u s2 x y H2 I2 rx ry h=>?_) hm;obtain⟨dx,dy,fr,r1,r2,q⟩:=h;obtain⟨r,hr,hq⟩:=ho H2 O x y dx dy Q fr r1 r2 q;exact hr pins s2 σ H2 x y v u Q I2 rx ry hq
def pJ:D->R Bool
 |.bl b=>.ok b
 |_=>.bad
def mO {O:Addr->Prop}{Q:Bool->Hp->Prop}(h:rW X H (r.bind pJ) Q):RC X H O r λv H1=>∃c,v=.bl c/\Q c H1:=by
 cases r with
 |ok d=>
  cases d with
  |bl b=>intro v H1 s1 r1;cases r1;exact⟨b,rfl,h H1 s1⟩
  |_=>exact(show False from h).elim
 |ex x=>exact h
 |bad=>exact h
def j2 (ho:iU X (compareOp op) g)(ha:PB X a f1)(hb:PB X b f2)(hm:behindInMarks op b=false:=by first|exact MY _|with_unfolding_all rfl):
  vE X (.Compare a [op] [b] pos) (λρ=>((f1 ρ).bind λx=>(f2 ρ).bind λy=>g x y).bind pJ):=by
 refine rK λpins s σ H Q I H9 O0 O ρ E q=>?_;have q':=mO (O:=O) q;refine wpAny_isTrue_Compare1 (FA ha hb I (mL E q') λv u s2 x y H2 I2 rx ry h=>?_) hm;obtain⟨dx,dy,fr,r1,r2,q⟩:=h;obtain⟨r,hr,hq⟩:=ho H2 O x y dx dy _ fr r1 r2 q;refine B4 (hr pins s2 σ H2 x y v u _ I2 rx ry hq) λc s3 ⟨z,H3,I3,r3,k,e,q3⟩=>?_;subst e;cases r3;exact aBj ⟨H3,I3,q3⟩
def J0 (h:PD X e f)(he:∀whole,isTrue e X.env whole=(do let v<-whole;standAt e.pos;holding [v] (truthy v)):=by intro _;rfl):vE X e (λρ=>(f ρ).bind pJ):=by refine ny (WA h he) λσ H Q H9 O0 O ρ E q=>⟨H9,O0,O,ρ,E,mO q⟩
def rW.seq {Q:Bool->Hp->Prop}(h:rW X H (r.bind g) Q):rW X H r λb H1=>r=.ok b/\Same H H1/\rW X H1 (g b) Q:=by
 cases r with
 |ok d=>
  intro H1 s1;refine⟨rfl,s1,?_⟩;have h':rW X H (g d) Q:=h;cases e:g d with
  |ok d'=>rw[e]at h';exactλH2 s2=>h' H2 (s1.trans s2)
  |ex x=>rw[e]at h';exactλH2 s2=>h' H2 (s1.trans s2)
  |bad=>rw[e]at h';exact h'
 |ex x=>exact h
 |bad=>exact h
def rW.af6 {O:Addr->Prop}(h:RC X H O (r.bind g) Q):rW X H r λb H1=>r=.ok b/\Same H H1/\RC X H1 O (g b) Q:=by
 cases r with
 |ok d=>intro H1 s1;refine⟨rfl,s1,?_⟩;have h':RC X H O (g d) Q:=h;exact h'.grow s1
 |ex x=>exact h
 |bad=>exact h
def rW.mono {Q Q':Bool->Hp->Prop}(h:rW X H r Q)(i:∀b H1,Q b H1->Q' b H1):rW X H r Q':=by
 cases r with
 |ok d=>exactλH1 s1=>i _ _ (h H1 s1)
 |ex x=>exact h
 |bad=>exact h
def RC.mono {O:Addr->Prop}(h:RC X H O r Q)(i:∀b H1,Q b H1->Q' b H1):RC X H O r Q':=by
 cases r with
 |ok d=>exactλv H1 s1 r1=>i _ _ (h v H1 s1 r1)
 |ex x=>exact h
 |bad=>exact h
def uN (X:Cx)(e:Expr)(f:Ev->R Bool):Prop:=PW X e (rj X f)
def UU (f g:Ev->R Bool):Ev->R Bool:=λρ=>(f ρ).bind λb=>if b=true then g ρ else .ok false
def YE (f g:Ev->R Bool):Ev->R Bool:=λρ=>(f ρ).bind λb=>if b=true then .ok true else g ρ
def LC (f:Ev->R Bool):Ev->R Bool:=λρ=>(f ρ).bind λb=>.ok (!b)
variable{rest:List Expr}
def nF (ha:vE X a f):uN X (.BoolOp .And [a] pos) f:=SQ ha
def V8 (ha:vE X a f):uN X (.BoolOp .Or [a] pos) f:=VA ha
def JA (h:PW X e t)(i:∀σ H Q,t' σ H Q->t σ H Q):PW X e t':=λwh pins s σ H Q I q=>h wh pins s σ H Q I (i σ H Q q)
def sE (ha:vE X a f)(hb:uN X (.BoolOp .And (b::rest) pos) g):uN X (.BoolOp .And (a::b::rest) pos) (UU f g):=
 JA (XZ ha hb) λσ H Q ⟨H9,O0,O,ρ,E,q⟩=>⟨H9,O0,O,ρ,E,rW.mono (rW.seq q) λb H1 ⟨_,s1,h1⟩=>by
  cases b with
  |true=>rw[if_pos rfl];exact⟨H9,O0,O,ρ,E.grow s1,h1⟩
  |false=>rw[if_neg aAH];exact h1 H1 (Same.refl _)⟩
def U1 (ha:vE X a f)(hb:uN X (.BoolOp .Or (b::rest) pos) g):uN X (.BoolOp .Or (a::b::rest) pos) (YE f g):=
 JA (YY ha hb) λσ H Q ⟨H9,O0,O,ρ,E,q⟩=>⟨H9,O0,O,ρ,E,rW.mono (rW.seq q) λb H1 ⟨_,s1,h1⟩=>by
  cases b with
  |false=>rw[if_neg aAH];exact⟨H9,O0,O,ρ,E.grow s1,h1⟩
  |true=>rw[if_pos rfl];exact h1 H1 (Same.refl _)⟩
def uN.pt (h:uN X e f):vE X e f:=PW.pt h
def aG (ha:vE X a f):vE X (.UnaryOp .Not a pos) (LC f):=
 ny (VB ha) λσ H Q H9 O0 O ρ E q=>⟨H9,O0,O,ρ,E,rW.mono (rW.seq q) λb H1 ⟨_,s1,h1⟩=>h1 H1 (Same.refl _)⟩
def aq (f:Ev->R D)(g:Ev->R D):Ev->R D:=λρ=>((f ρ).bind pJ).bind λb=>if b=true then g ρ else .ok (.bl false)
def oz (f:Ev->R D):Ev->R D:=λρ=>((f ρ).bind pJ).bind λb=>.ok (.bl (!b))
def AN {op}{f:Ev->R D}(h:PD X a f):PD X (.BoolOp op [a] pos) f:=UY h
def zM {f g:Ev->R D}(ha:PD X a f)(hb:PD X (.BoolOp .And (b::rest) pos) g):PD X (.BoolOp .And (a::b::rest) pos) (aq f g):=
 HZ (XE ha hb) λσ H Q H9 O0 O ρ E q=>⟨H9,O0,O,ρ,E,RC.mono (mO<|rW.af6 q) λv H1 ⟨c,e,_,s1,h1⟩=>⟨c,e,by
  cases c with
  |true=>rw[if_pos rfl];exact⟨H9,O0,O,ρ,E.grow s1,h1⟩
  |false=>rw[if_neg aAH];exact h1 _ H1 (Same.refl _) .bl⟩⟩
def VW {f:Ev->R D}(ha:PD X a f):PD X (.UnaryOp .Not a pos) (oz f):=
 HZ (XU ha) λσ H Q H9 O0 O ρ E q=>⟨H9,O0,O,ρ,E,RC.mono (mO<|rW.af6 q) λv H1 ⟨c,e,_,s1,h1⟩=>⟨c,e,h1 _ H1 (Same.refl _) .bl⟩⟩
def RV:D->R D
 |.int i=>.ok (.int (-i))
 |_=>.bad
def jF {f:Ev->R D}(ha:PD X a f):PD X (.UnaryOp .USub a pos) (λρ=>(f ρ).bind RV):=
 HZ (gx UR ha) λσ H Q H9 O0 O ρ E q=>⟨H9,O0,O,ρ,E,by
  refine RC.mono (RC.seq q) λv H1 ⟨d,_,s1,r1,h1⟩=>?_;cases d with
  |int i=>cases r1;exact⟨i,rfl,h1 _ H1 (Same.refl _) .int⟩
  |_=>exact(show False from h1).elim⟩
def GS.seq {H:Hp}{O:Addr->Prop}{r:R (List D)}{g:List D->R D}{Q:VK}(h:RC X H O (r.bind g) Q):
  GS X H O r λv H1=>∃d,r=.ok d/\Same H H1/\Reps X.K H1 O v d/\RC X H1 O (g d) Q:=by
 cases r with
 |ok d=>exactλv H1 s1 r1=>⟨d,rfl,s1,r1,(show RC X H O (g d) Q from h).grow s1⟩
 |ex x=>exact h
 |bad=>exact h
def GS.mono {O:Addr->Prop}{Q Q':List V->Hp->Prop}(h:GS X H O r Q)(i:∀b H1,Q b H1->Q' b H1):GS X H O r Q':=by
 cases r with
 |ok d=>exactλv H1 s1 r1=>i _ _ (h v H1 s1 r1)
 |ex x=>exact h
 |bad=>exact h
def KF.seq {H:Hp}{O:Addr->Prop}{r:R (List D)}{g:List D->R D}{Q:VK}(h:RC X H O (r.bind g) Q):
  KF X H O r λv H1=>∃d,r=.ok d/\Same H H1/\Paired (x9 X.K H1 O) v d/\RC X H1 O (g d) Q:=by
 cases r with
 |ok d=>exactλv H1 s1 r1=>⟨d,rfl,s1,r1,(show RC X H O (g d) Q from h).grow s1⟩
 |ex x=>exact h
 |bad=>exact h
def KN.mono {O:Addr->Prop}(h:KN X H O r Q)(i:∀b H1,Q b H1->Q' b H1):KN X H O r Q':=by
 cases r with
 |ok d=>exactλv H1 s1 r1=>i _ _ (h v H1 s1 r1)
 |ex x=>exact h
 |bad=>exact h
def o7 (f:Ev->R D)(g:Ev->R (List D)):Ev->R (List D):=λρ=>(f ρ).bind λd=>(g ρ).bind λds=>.ok (d::ds)
def T4:Ev->R (List D):=λ_=>.ok []
def l3:IF X [] T4:=jy bR λσ H Q H9 O0 O ρ E q=>q [] H (Same.refl _) .nil
def d9 {f:Ev->R D}{g:Ev->R (List D)}(ha:PD X e f)(hr:IF X es g)(hs:starEach (e::es) X.env=(false,eval e X.env)::starEach es X.env:=by rfl):IF X (e::es) (o7 f g):=
 jy (L5 ha hr hs) λσ H Q H9 O0 O ρ E q=>⟨H9,O0,O,ρ,E,by
  unfold o7 at q;cases e1:f ρ with
  |ok d=>
   rw[e1]at q;intro v H1 s1 r1;refine⟨H9,O0,O,ρ,E.grow s1,?_⟩;cases e2:g ρ with
   |ok ds=>rw[e2]at q;exactλvs H2 s2 r2=>q (v::vs) H2 (s1.trans s2) (.cons (r1.same s2) r2)
   |ex x=>rw[e2]at q;exactλH2 s2=>q H2 (s1.trans s2)
   |bad=>rw[e2]at q;exact q
  |ex x=>rw[e1]at q;exact q
  |bad=>rw[e1]at q;exact q⟩
def S6:XM X [] T4:=jy bR λσ H Q H9 O0 O ρ E q=>q [] H (Same.refl _) .nil
def F5 {f:Ev->R D}{g:Ev->R (List D)}(ha:PB X e f)(hr:XM X es g)(hs:starEach (e::es) X.env=(false,eval e X.env)::starEach es X.env:=by rfl):XM X (e::es) (o7 f g):=
 jy (L5 ha hr hs) λσ H Q H9 O0 O ρ E q=>⟨H9,O0,O,ρ,E,by
  unfold o7 at q;cases e1:f ρ with
  |ok d=>
   rw[e1]at q;intro v H1 s1 r1;refine⟨H9,O0,O,ρ,E.grow s1,?_⟩;cases e2:g ρ with
   |ok ds=>rw[e2]at q;exactλvs H2 s2 r2=>q (v::vs) H2 (s1.trans s2) (.cons (r1.same s2) r2)
   |ex x=>rw[e2]at q;exactλH2 s2=>q H2 (s1.trans s2)
   |bad=>rw[e2]at q;exact q
  |ex x=>rw[e1]at q;exact q
  |bad=>rw[e1]at q;exact q⟩
def jC (ds:List D):R D:=if ds.length<=sizeLine then .ok (.tup ds)else .bad
def wK (ds:List D):R D:=if ds.length<=sizeLine then .ok (.lst ds)else .bad
def pH {f:Ev->R (List D)}{x1}(h:IF X es f):PD X (.Tuple es x1 pos) (λρ=>(f ρ).bind jC):=
 HZ (VQ h) λσ H Q H9 O0 O ρ E q=>⟨H9,O0,O,ρ,E,GS.mono (GS.seq q) λvs H1 ⟨ds,_,s1,r1,h1⟩=>by
  unfold jC at h1;split at h1
  ·rename_i hz;exact⟨by rw[r1.length];exact hz,λp hp=>h1 (.ref p) _ (j3 hp _) (.tup (W2.of i9) (r1.same<|j3 hp _))⟩
  ·exact h1.elim⟩
def mR {f:Ev->R (List D)}(h:IF X es f):PD X (.List es pos) (λρ=>(f ρ).bind wK):=
 HZ (JM h) λσ H Q H9 O0 O ρ E q=>⟨H9,O0,O,ρ,E,GS.mono (GS.seq q) λvs H1 ⟨ds,_,s1,r1,h1⟩=>by
  unfold wK at h1;split at h1
  ·rename_i hz;exact⟨by rw[r1.length];exact hz,λp hp=>h1 (.ref p) _ (j3 hp _) (.lst (K4.of i9) ((E.grow s1).fresh hp) (r1.same<|j3 hp _))⟩
  ·exact h1.elim⟩
def iB (X:Cx)(f:Value)(g:List D->R D):Prop:=
 ∀(H:Hp) (O:Addr->Prop) (vs:List V) (ds:List D) (Q:VK),(∀p,H p=none->¬O p)->Paired (x9 X.K H O) vs ds->RC X H O (g ds) Q->∃r,yI X f r/\r vs H Q
def nA {x:Str}{id:String}{p:Pos}{f:Ev->R (List D)}{g:List D->R D}(hc:iB X (.builtin id) g)(ha:XM X (e::es) f)(hg:Gl X x:=by rfl)(hm:X.mg x=none:=by assumption)(hv:bootBuiltins x=some (.builtin id):=by decide+kernel)(hn:x≠ "__name__":=by decide)
  (gc:(x==("__debug__":Str))=false:=by decide) (he:starEach (e::es) X.env=(false,eval e X.env)::starEach es X.env:=by rfl) (bg:(backTo pos (starEach es X.env)).any (·.1)=false:=by rfl):
  PD X (.Call (.Name x p) (e::es) [] pos) (λρ=>(f ρ).bind g):=by
 refine rK λpins s σ H Q I H9 O0 O ρ E q=>?_;refine aAZ (Q5 I hg hm hv ?_ hn gc);refine aCo (B4 (ha pos pins s σ H _ I ⟨H9,O0,O,ρ,E,KF.seq q⟩) λus s1 ⟨vs,H1,I1,r1,d,_,sm,r,h⟩=>?_) he bg;obtain⟨r',hr,hq⟩:=hc H1 O vs d Q (λp hp=>(E.grow sm).fresh hp) r h;exact hr pins s1 σ H1 vs us Q I1 r1 hq
def HN {x:Str}{T:String}{p:Pos}{f:Ev->R (List D)}{g:List D->R D}(hc:iB X (.type T) g)(ha:XM X (e::es) f)(hg:Gl X x:=by rfl)(hm:X.mg x=none:=by assumption)(hv:bootBuiltins x=some (.type T):=by decide+kernel)(hn:x≠ "__name__":=by decide)
  (gc:(x==("__debug__":Str))=false:=by decide) (he:starEach (e::es) X.env=(false,eval e X.env)::starEach es X.env:=by rfl) (bg:(backTo pos (starEach es X.env)).any (·.1)=false:=by rfl):
  PD X (.Call (.Name x p) (e::es) [] pos) (λρ=>(f ρ).bind g):=by
 refine rK λpins s σ H Q I H9 O0 O ρ E q=>?_;refine aAZ (Q5 I hg hm hv ?_ hn gc);refine aBk (B4 (ha pos pins s σ H _ I ⟨H9,O0,O,ρ,E,KF.seq q⟩) λus s1 ⟨vs,H1,I1,r1,d,_,sm,r,h⟩=>?_) he bg;obtain⟨r',hr,hq⟩:=hc H1 O vs d Q (λp hp=>(E.grow sm).fresh hp) r h;exact hr pins s1 σ H1 vs us Q I1 r1 hq
end
mutual
def u4:D->D->Bool
 |.non,.non=>true
 |.bl a,.bl b=>a==b
 |.bl a,.int b=>(if a then 1 else 0)==b
 |.int a,.bl b=>a==(if b then 1 else 0)
 |.int a,.int b=>a==b
 |.str a,.str b=>a==b
 |.tup xs,.tup ys=>X8 xs ys
 |.lst xs,.lst ys=>X8 xs ys
 |.dct,.dct=>true
 |_,_=>false
def X8:List D->List D->Bool
 |[],[]=>true
 |x::xs,y::ys=>u4 x y&&X8 xs ys
 |_,_=>false
end
mutual
def C1:D->Nat
 |.tup xs=>D8 xs+1
 |.lst xs=>D8 xs+1
 |.dct=>cLine
 |_=>0
def D8:List D->Nat
 |[]=>0
 |x::xs=>max (C1 x) (D8 xs)
end
mutual
theorem L9:∀d:D,u4 d d=true
 |.non=>by simp[u4]
 |.bl b=>by simp[u4]
 |.int i=>by simp[u4]
 |.str x=>by simp[u4]
 |.tup xs=>by rw[u4];exact jU xs
 |.lst xs=>by rw[u4];exact jU xs
 |.dct=>by simp[u4]
theorem jU:∀ds:List D,X8 ds ds=true
 |[]=>by simp[X8]
 |x::xs=>by rw[X8,L9 x,jU xs];rfl
end
def kU (xs ys:List D)(j:Nat):Bool:=match xs[j]?,ys[j]? with
 |some a,some b=>u4 a b
 |_,_=>false
theorem fF:∀(xs ys:List D),X8 xs ys=((aBc (min xs.length ys.length)).all (kU xs ys)&&(xs.length==ys.length))
 |[],[]=>by simp[X8]
 |[],_::_=>by simp[X8]
 |_::_,[]=>by simp[X8]
 |x::xs,y::ys=>by
  rw[X8,fF xs ys,aAs,aAs,Nat.succ_min_succ,aFz,aGc,List.all_map];have e1:kU (x::xs) (y::ys) 0=u4 x y:=rfl;have e2:(kU (x::xs) (y::ys)∘Nat.succ)=kU xs ys:=by
   funext j
   simp[kU]
  have e3:(xs.length+1==ys.length+1)=(xs.length==ys.length):=by rw[aDN];simp
  rw[e1,e2,e3,Bool.and_assoc]
theorem uK:∀{xs:List D} {d:D} {j:Nat},xs[j]?=some d->C1 d<=D8 xs
 |[],_,_,h=>by simp at h
 |x::xs,d,0,h=>by simp at h;subst h;rw[D8];exact Nat.le_max_left _ _
 |x::xs,d,j+1,h=>by rw[D8];exact aAu (uK (j:=j) (by simpa using h)) (Nat.le_max_right _ _)
section
def BE {K:PySem.W.Frag}{H:Hp}{O:Addr->Prop}{a:Addr}{d:D}(h:Rep K H O (.ref a) d):(∃vs ds,d=.tup ds/\W2 K H a vs/\Reps K H O vs ds)\/(∃vs ds,d=.lst ds/\K4 K H a vs/\Reps K H O vs ds)\/(d=.dct/\∃o:Obj,H a=some (.ext λh=>h.get? a=some o)/\o.ExactDict):=by
 cases h with
 |tup h r=>exact .inl ⟨_,_,rfl,h,r⟩
 |lst h n r=>exact .inr (.inl ⟨_,_,rfl,h,r⟩)
 |dct h x n=>exact .inr (.inr ⟨rfl,_,h,x⟩)
def UL (I:Inv X pins σ H s)(h:W2 X.K H a vs)(h':K4 X.K H a ws):False:=by obtain⟨its,_,p,_⟩:=I.tuple h;obtain⟨its',_,p',_⟩:=I.list h';exact absurd rfl (SeqAt.ne_of_list_tuple (s:=s) p'.isList p)
def UJ {o:Obj}(I:Inv X pins σ H s)(h':W2 X.K H a vs)(h:H a=some (.ext λh=>h.get? a=some o))(x:o.ExactDict):False:=by obtain⟨its,_,⟨o',g,c,_⟩,_⟩:=I.tuple h';have e:s.heap.get? _=some _:=(I.hok _ _ h).1;rw[g]at e;cases e;exact absurd (c.symm.trans x.1) (by decide)
def UE {o:Obj}(I:Inv X pins σ H s)(h':K4 X.K H a vs)(h:H a=some (.ext λh=>h.get? a=some o))(x:o.ExactDict):False:=by obtain⟨its,_,p,_⟩:=I.list h';obtain⟨o',g,c,_⟩:=p.isList;have e:s.heap.get? _=some _:=(I.hok _ _ h).1;rw[g]at e;cases e;exact absurd (c.symm.trans x.1) (by decide)
mutual
theorem Rep.inj (I:Inv X pins σ H s):∀{v:V} {d:D},Rep X.K H O v d->∀{d':D},Rep X.K H O' v d'->d=d'
 |_,_,.non=>λh=>by cases h;rfl
 |_,_,.bl=>λh=>by cases h;rfl
 |_,_,.int=>λh=>by cases h;rfl
 |_,_,.str=>λh=>by cases h;rfl
 |_,_,.tup h r=>λh'=>by
  rcases BE h' with⟨_,_,rfl,h2,r2⟩|⟨_,_,rfl,h2,_⟩|⟨rfl,_,h2,x⟩
  ·have e:=I.ab4 h h2;subst e;rw[Reps.inj I r r2]
  ·exact(UL I h h2).elim
  ·exact(UJ I h h2 x).elim
 |_,_,.lst h _ r=>λh'=>by
  rcases BE h' with⟨_,_,rfl,h2,_⟩|⟨_,_,rfl,h2,r2⟩|⟨rfl,_,h2,x⟩
  ·exact(UL I h2 h).elim
  ·have e:=I.ab8 h h2;subst e;rw[Reps.inj I r r2]
  ·exact(UE I h h2 x).elim
 |_,_,.dct h x _=>λh'=>by
  rcases BE h' with⟨_,_,rfl,h2,_⟩|⟨_,_,rfl,h2,_⟩|⟨rfl,_⟩
  ·exact(UJ I h2 h x).elim
  ·exact(UE I h2 h x).elim
  ·rfl
theorem Reps.inj (I:Inv X pins σ H s):∀{v:List V} {d:List D},Reps X.K H O v d->∀{d':List D},Reps X.K H O' v d'->d=d'
 |_,_,.nil=>λh=>by cases h;rfl
 |_,_,.cons h t=>λh2=>by
  cases h2 with
  |cons h' t'=>rw[Rep.inj I h h',Reps.inj I t t']
end
def mD (A:Around)(s:Shared)(us ws:List Value)(xs ys:List D):Prop:=∀(j:Nat) (u w:Value),us[j]?=some u->ws[j]?=some w->SeqAt.EqAt A.in1 s u w (kU xs ys j)
def vT (hl:s.heap.IsList l us.toArray)(hb:s.heap.IsList b ws.toArray)(e1:us.length=xs.length)(e2:ws.length=ys.length)(hu:A.units<cLine)(hp:mD A s us ws xs ys):SeqAt.RcAt A s (.ref l) (.ref b) (X8 xs ys)/\SeqAt.RcNeAt A s (.ref l) (.ref b) (!X8 xs ys):=by
 rw[fF];by_cases gg:xs.length=ys.length
 ·have hz:us.toArray.size=ws.toArray.size:=by simp[e1,e2,gg]
  have hm:min xs.length ys.length=us.toArray.size:=by simp[e1,gg]
  have hq:(xs.length==ys.length)=true:=by simp[gg]
  have he:∀j (h1:j<us.toArray.size) (h2:j<ws.toArray.size),SeqAt.EqAt A.in1 s us.toArray[j] ws.toArray[j] (kU xs ys j):=λj h1 h2=>hp j _ _ (by simp[aAf (show j<us.length by simpa using h1)]) (by simp[aAf (show j<ws.length by simpa using h2)]);rw[hq,Bool.and_true,hm];exact⟨SeqAt.RcAt.lists hl hb hz hu he,SeqAt.RcNeAt.lists hl hb hz hu he⟩
 ·have hz:(us.toArray.size !=ws.toArray.size)=true:=by simp[e1,e2,gg]
  have hq:(xs.length==ys.length)=false:=by simp[gg]
  rw[hq,aFS];exact⟨SeqAt.RcAt.lists_lengths hl hb hz hu,SeqAt.RcNeAt.lists_lengths hl hb hz hu⟩
def jZ (hl:IsTup s.heap l us.toArray)(hb:IsTup s.heap b ws.toArray)(e1:us.length=xs.length)(e2:ws.length=ys.length)(hu:A.units<cLine)(hp:mD A s us ws xs ys):SeqAt.RcAt A s (.ref l) (.ref b) (X8 xs ys)/\SeqAt.RcNeAt A s (.ref l) (.ref b) (!X8 xs ys):=by
 rw[fF];have hm:min xs.length ys.length=min us.toArray.size ws.toArray.size:=by simp[e1,e2]
 have hq:(xs.length==ys.length)=(us.toArray.size==ws.toArray.size):=by simp[e1,e2]
 have he:∀j (h1:j<us.toArray.size) (h2:j<ws.toArray.size),SeqAt.EqAt A.in1 s us.toArray[j] ws.toArray[j] (kU xs ys j):=λj h1 h2=>hp j _ _ (by simp[aAf (show j<us.length by simpa using h1)]) (by simp[aAf (show j<ws.length by simpa using h2)]);rw[hq,hm];exact⟨SeqAt.RcAt.tuples hl hb hu he,SeqAt.RcNeAt.tuples hl hb hu he⟩
def u3 (A:Around):A.in1.units=A.units+1:=rfl
mutual
theorem VU (I:Inv X pins σ H s):∀{x y:V} {dx dy:D} {v u:Value} {A:Around},Rep X.K H O x dx->Rep X.K H O' y dy->RelV x v->RelV y u->A.units+C1 dx<cLine->A.units+C1 dy<cLine->SeqAt.EqAt A s v u (u4 dx dy)
 |_,_,_,_,v,u,A,.non,ry,rv,ru,hu,hv=>by
  have ar:A.units<cLine:=by lia
  cases rv;cases ry with
  |dct=>exact absurd hv (by rw[C1];lia)
  |non=>cases ru;exact aDO _
  |bl=>cases ru;simp only[u4];exact SeqAt.EqAt.none_bool _
  |int=>obtain⟨t,rfl⟩:=ru;simp only[u4];exact SeqAt.EqAt.none_int _ _
  |str=>obtain⟨t,rfl⟩:=ru;simp only[u4];exact SeqAt.EqAt.none_str _ _
  |tup h r=>cases ru;obtain⟨_,_,p,_⟩:=I.tuple h;simp only[u4];exact SeqAt.EqAt.none_tuple p ar
  |lst h _ r=>cases ru;obtain⟨_,_,p,_⟩:=I.list h;simp only[u4];exact SeqAt.EqAt.none_list p.isList ar
 |_,_,_,_,v,u,A,.bl,ry,rv,ru,hu,hv=>by
  have ar:A.units<cLine:=by lia
  cases rv;cases ry with
  |dct=>exact absurd hv (by rw[C1];lia)
  |non=>cases ru;simp only[u4];exact SeqAt.EqAt.bool_none _
  |bl=>cases ru;simp only[u4];exact SeqAt.EqAt.bool_bool _ _
  |int=>obtain⟨t,rfl⟩:=ru;simp only[u4];exact SeqAt.EqAt.bool_int _ _ _
  |str=>obtain⟨t,rfl⟩:=ru;simp only[u4];exact SeqAt.EqAt.bool_str _ _ _
  |tup h r=>cases ru;obtain⟨_,_,p,_⟩:=I.tuple h;simp only[u4];exact SeqAt.EqAt.bool_tuple _ p ar
  |lst h _ r=>cases ru;obtain⟨_,_,p,_⟩:=I.list h;simp only[u4];exact SeqAt.EqAt.bool_list _ p.isList ar
 |_,_,_,_,v,u,A,.int,ry,rv,ru,hu,hv=>by
  have ar:A.units<cLine:=by lia
  obtain⟨t1,rfl⟩:=rv;cases ry with
  |dct=>exact absurd hv (by rw[C1];lia)
  |non=>cases ru;simp only[u4];exact SeqAt.EqAt.int_none _ _
  |bl=>cases ru;simp only[u4];exact SeqAt.EqAt.int_bool _ _ _
  |int=>obtain⟨t,rfl⟩:=ru;simp only[u4];exact aEI _ _ _ _
  |str=>obtain⟨t,rfl⟩:=ru;simp only[u4];exact aFZ _ _ _ _
  |tup h r=>cases ru;obtain⟨_,_,p,_⟩:=I.tuple h;simp only[u4];exact aFL _ _ p ar
  |lst h _ r=>cases ru;obtain⟨_,_,p,_⟩:=I.list h;simp only[u4];exact SeqAt.EqAt.int_list _ _ p.isList ar
 |_,_,_,_,v,u,A,.str,ry,rv,ru,hu,hv=>by
  have ar:A.units<cLine:=by lia
  obtain⟨t1,rfl⟩:=rv;cases ry with
  |dct=>exact absurd hv (by rw[C1];lia)
  |non=>cases ru;simp only[u4];exact SeqAt.EqAt.str_none _ _
  |bl=>cases ru;simp only[u4];exact SeqAt.EqAt.str_bool _ _ _
  |int=>obtain⟨t,rfl⟩:=ru;simp only[u4];exact aGa _ _ _ _
  |str=>obtain⟨t,rfl⟩:=ru;simp only[u4];exact SeqAt.EqAt.str_str _ _ _ _
  |tup h r=>cases ru;obtain⟨_,_,p,_⟩:=I.tuple h;simp only[u4];exact SeqAt.EqAt.str_tuple _ _ p ar
  |lst h _ r=>cases ru;obtain⟨_,_,p,_⟩:=I.list h;simp only[u4];exact SeqAt.EqAt.str_list _ _ p.isList ar
 |_,_,_,_,v,u,A,.tup (a:=a) (vs:=vs) (ds:=ds) h r,ry,rv,ru,hu,hv=>by
  have ar:A.units<cLine:=by lia
  cases rv;obtain⟨its,rr,p,_⟩:=I.tuple h;cases ry with
  |dct=>exact absurd hv (by rw[C1];lia)
  |non=>cases ru;simp only[u4];exact SeqAt.EqAt.tuple_none p ar
  |bl=>cases ru;simp only[u4];exact SeqAt.EqAt.tuple_bool _ p ar
  |int=>obtain⟨t,rfl⟩:=ru;simp only[u4];exact aFM _ _ p ar
  |str=>obtain⟨t,rfl⟩:=ru;simp only[u4];exact SeqAt.EqAt.tuple_str _ _ p ar
  |@tup a' gh bf h' r'=>
   cases ru;obtain⟨its',og,p',_⟩:=I.tuple h';by_cases e:a=a'
   ·subst e;have e2:=I.ab4 h h';subst e2;have e3:=Reps.inj I r r';subst e3;rw[L9];exact aDO _
   ·simp only[u4];refine aEJ e (jZ p p' (by rw[<-rr.length,r.length]) (by rw[<-og.length,r'.length]) ar<|gJ I r r' rr og ?_ ?_).1
    ·rw[C1]at hu;rw[u3];lia
    ·rw[C1]at hv;rw[u3];lia
  |lst h' _ r'=>cases ru;obtain⟨_,_,p',_⟩:=I.list h';simp only[u4];exact SeqAt.EqAt.tuple_list p p'.isList ar
 |_,_,_,_,v,u,A,.lst (a:=a) (vs:=vs) (ds:=ds) h nO r,ry,rv,ru,hu,hv=>by
  have ar:A.units<cLine:=by lia
  cases rv;obtain⟨its,rr,p,_⟩:=I.list h;cases ry with
  |dct=>exact absurd hv (by rw[C1];lia)
  |non=>cases ru;simp only[u4];exact SeqAt.EqAt.list_none p.isList ar
  |bl=>cases ru;simp only[u4];exact SeqAt.EqAt.list_bool _ p.isList ar
  |int=>obtain⟨t,rfl⟩:=ru;simp only[u4];exact SeqAt.EqAt.list_int _ _ p.isList ar
  |str=>obtain⟨t,rfl⟩:=ru;simp only[u4];exact SeqAt.EqAt.list_str _ _ p.isList ar
  |tup h' r'=>cases ru;obtain⟨_,_,p',_⟩:=I.tuple h';simp only[u4];exact SeqAt.EqAt.list_tuple p.isList p' ar
  |@lst a' gh bf h' nO' r'=>
   cases ru;obtain⟨its',og,p',_⟩:=I.list h';by_cases e:a=a'
   ·subst e;have e2:=I.ab8 h h';subst e2;have e3:=Reps.inj I r r';subst e3;rw[L9];exact aDO _
   ·simp only[u4];refine aEJ e (vT p.isList p'.isList (by rw[<-rr.length,r.length]) (by rw[<-og.length,r'.length]) ar<|gJ I r r' rr og ?_ ?_).1
    ·rw[C1]at hu;rw[u3];lia
    ·rw[C1]at hv;rw[u3];lia
 |_,_,_,_,v,u,A,.dct ..,ry,rv,ru,hu,hv=>absurd hu (by rw[C1];lia)
theorem gJ (I:Inv X pins σ H s):∀{vs ws:List V} {xs ys:List D} {us ts:List Value} {A:Around},Reps X.K H O vs xs->Reps X.K H O' ws ys->l8 vs us->l8 ws ts->A.in1.units+D8 xs<cLine->A.in1.units+D8 ys<cLine->mD A s us ts xs ys
 |_,_,_,_,us,ts,A,.nil,ry,rv,ru,hu,hv=>λj u w h1 h2=>by cases rv;simp at h1
 |_,_,_,_,us,ts,A,.cons h t,.nil,rv,ru,hu,hv=>λj u w h1 h2=>by cases ru;simp at h2
 |_,_,_,_,us,ts,A,.cons (d:=d) (ds:=ds) h t,.cons (d:=d') (ds:=bf) h' t',rv,ru,hu,hv=>λj u w h1 h2=>by
  cases rv with
  |cons r1 r2=>
   cases ru with
   |cons r1' r2'=>
    rw[D8]at hu hv;cases j with
    |zero=>simp only[aDa,aGh]at h1 h2;subst h1 h2;exact VU I h h' r1 r1' (by lia) (by lia)
    |succ j=>simp only[aDP]at h1 h2;have q:=gJ I (A:=A) t t' r2 r2' (by lia) (by lia) j u w h1 h2;exact q
end
def ZO (I:Inv X pins σ H s)(r1:x9 X.K H O x dx)(r2:x9 X.K H O' y dy)(rv:RelV x v)(ru:RelV y u)(hu:A.units+C1 dx<cLine)(hv:A.units+C1 dy<cLine):
  SeqAt.RcAt A s v u (u4 dx dy)/\SeqAt.RcNeAt A s v u (!u4 dx dy):=by
 have ar:A.units<cLine:=by lia
 cases dx with
 |dct=>exact absurd hu (by rw[C1];lia)
 |non=>
  cases r1.ab9;cases rv;cases dy with
  |dct=>exact absurd hv (by rw[C1];lia)
  |non=>cases r2.ab9;cases ru;simp only[u4];exact⟨SeqAt.RcAt.none_none,SeqAt.RcNeAt.none_none⟩
  |bl=>cases r2.blI;cases ru;simp only[u4];exact⟨SeqAt.RcAt.none_bool _,SeqAt.RcNeAt.none_bool _⟩
  |int=>cases r2.aa6;obtain⟨t,rfl⟩:=ru;simp only[u4];exact⟨SeqAt.RcAt.none_int _ _,SeqAt.RcNeAt.none_int _ _⟩
  |str=>cases r2.ac4;obtain⟨t,rfl⟩:=ru;simp only[u4];exact⟨SeqAt.RcAt.none_str _ _,SeqAt.RcNeAt.none_str _ _⟩
  |tup ys=>obtain⟨a,vs,rfl,h,r⟩:=r2.tupI;cases ru;obtain⟨_,_,p,_⟩:=I.tuple h;simp only[u4];exact⟨SeqAt.RcAt.none_tuple p ar,SeqAt.RcNeAt.none_tuple p ar⟩
  |lst ys=>obtain⟨a,vs,rfl,h,r⟩:=r2.aa5;cases ru;obtain⟨_,_,p,_⟩:=I.list h;simp only[u4];exact⟨SeqAt.RcAt.none_list p.isList ar,SeqAt.RcNeAt.none_list p.isList ar⟩
 |bl=>
  cases r1.blI;cases rv;cases dy with
  |dct=>exact absurd hv (by rw[C1];lia)
  |non=>cases r2.ab9;cases ru;simp only[u4];exact⟨SeqAt.RcAt.bool_none _,SeqAt.RcNeAt.bool_none _⟩
  |bl=>cases r2.blI;cases ru;simp only[u4];exact⟨SeqAt.RcAt.bool_bool _ _,SeqAt.RcNeAt.bool_bool _ _⟩
  |int=>cases r2.aa6;obtain⟨t,rfl⟩:=ru;simp only[u4];exact⟨SeqAt.RcAt.bool_int _ _ _,SeqAt.RcNeAt.bool_int _ _ _⟩
  |str=>cases r2.ac4;obtain⟨t,rfl⟩:=ru;simp only[u4];exact⟨SeqAt.RcAt.bool_str _ _ _,SeqAt.RcNeAt.bool_str _ _ _⟩
  |tup ys=>obtain⟨a,vs,rfl,h,r⟩:=r2.tupI;cases ru;obtain⟨_,_,p,_⟩:=I.tuple h;simp only[u4];exact⟨SeqAt.RcAt.bool_tuple _ p ar,SeqAt.RcNeAt.bool_tuple _ p ar⟩
  |lst ys=>obtain⟨a,vs,rfl,h,r⟩:=r2.aa5;cases ru;obtain⟨_,_,p,_⟩:=I.list h;simp only[u4];exact⟨SeqAt.RcAt.bool_list _ p.isList ar,SeqAt.RcNeAt.bool_list _ p.isList ar⟩
 |int=>
  cases r1.aa6;obtain⟨t1,rfl⟩:=rv;cases dy with
  |dct=>exact absurd hv (by rw[C1];lia)
  |non=>cases r2.ab9;cases ru;simp only[u4];exact⟨SeqAt.RcAt.int_none _ _,SeqAt.RcNeAt.int_none _ _⟩
  |bl=>cases r2.blI;cases ru;simp only[u4];exact⟨SeqAt.RcAt.int_bool _ _ _,SeqAt.RcNeAt.int_bool _ _ _⟩
  |int=>cases r2.aa6;obtain⟨t,rfl⟩:=ru;simp only[u4];exact⟨SeqAt.RcAt.int_int _ _ _ _,SeqAt.RcNeAt.int_int _ _ _ _⟩
  |str=>cases r2.ac4;obtain⟨t,rfl⟩:=ru;simp only[u4];exact⟨SeqAt.RcAt.int_str _ _ _ _,SeqAt.RcNeAt.int_str _ _ _ _⟩
  |tup ys=>obtain⟨a,vs,rfl,h,r⟩:=r2.tupI;cases ru;obtain⟨_,_,p,_⟩:=I.tuple h;simp only[u4];exact⟨SeqAt.RcAt.int_tuple _ _ p ar,SeqAt.RcNeAt.int_tuple _ _ p ar⟩
  |lst ys=>obtain⟨a,vs,rfl,h,r⟩:=r2.aa5;cases ru;obtain⟨_,_,p,_⟩:=I.list h;simp only[u4];exact⟨SeqAt.RcAt.int_list _ _ p.isList ar,SeqAt.RcNeAt.int_list _ _ p.isList ar⟩
 |str=>
  cases r1.ac4;obtain⟨t1,rfl⟩:=rv;cases dy with
  |dct=>exact absurd hv (by rw[C1];lia)
  |non=>cases r2.ab9;cases ru;simp only[u4];exact⟨SeqAt.RcAt.str_none _ _,SeqAt.RcNeAt.str_none _ _⟩
  |bl=>cases r2.blI;cases ru;simp only[u4];exact⟨SeqAt.RcAt.str_bool _ _ _,SeqAt.RcNeAt.str_bool _ _ _⟩
  |int=>cases r2.aa6;obtain⟨t,rfl⟩:=ru;simp only[u4];exact⟨SeqAt.RcAt.str_int _ _ _ _,SeqAt.RcNeAt.str_int _ _ _ _⟩
  |str=>cases r2.ac4;obtain⟨t,rfl⟩:=ru;simp only[u4];exact⟨SeqAt.RcAt.str_str _ _ _ _,SeqAt.RcNeAt.str_str _ _ _ _⟩
  |tup ys=>obtain⟨a,vs,rfl,h,r⟩:=r2.tupI;cases ru;obtain⟨_,_,p,_⟩:=I.tuple h;simp only[u4];exact⟨SeqAt.RcAt.str_tuple _ _ p ar,SeqAt.RcNeAt.str_tuple _ _ p ar⟩
  |lst ys=>obtain⟨a,vs,rfl,h,r⟩:=r2.aa5;cases ru;obtain⟨_,_,p,_⟩:=I.list h;simp only[u4];exact⟨SeqAt.RcAt.str_list _ _ p.isList ar,SeqAt.RcNeAt.str_list _ _ p.isList ar⟩
 |tup xs=>
  obtain⟨a,vs,rfl,h,r⟩:=r1.tupI;cases rv;obtain⟨its,rr,p,_⟩:=I.tuple h;cases dy with
  |dct=>exact absurd hv (by rw[C1];lia)
  |non=>cases r2.ab9;cases ru;simp only[u4];exact⟨SeqAt.RcAt.tuple_none p ar,SeqAt.RcNeAt.tuple_none p ar⟩
  |bl=>cases r2.blI;cases ru;simp only[u4];exact⟨SeqAt.RcAt.tuple_bool _ p ar,SeqAt.RcNeAt.tuple_bool _ p ar⟩
  |int=>cases r2.aa6;obtain⟨t,rfl⟩:=ru;simp only[u4];exact⟨SeqAt.RcAt.tuple_int _ _ p ar,SeqAt.RcNeAt.tuple_int _ _ p ar⟩
  |str=>cases r2.ac4;obtain⟨t,rfl⟩:=ru;simp only[u4];exact⟨SeqAt.RcAt.tuple_str _ _ p ar,SeqAt.RcNeAt.tuple_str _ _ p ar⟩
  |tup ys=>
   obtain⟨a',gh,rfl,h',r'⟩:=r2.tupI;cases ru;obtain⟨its',og,p',_⟩:=I.tuple h';simp only[u4];refine jZ p p' (by rw[<-rr.length,r.length]) (by rw[<-og.length,r'.length]) ar (gJ I r r' rr og ?_ ?_)
   ·rw[C1]at hu;rw[u3];lia
   ·rw[C1]at hv;rw[u3];lia
  |lst ys=>obtain⟨a',gh,rfl,h',r'⟩:=r2.aa5;cases ru;obtain⟨_,_,p',_⟩:=I.list h';simp only[u4];exact⟨SeqAt.RcAt.tuple_list p p'.isList ar,SeqAt.RcNeAt.tuple_list p p'.isList ar⟩
 |lst xs=>
  obtain⟨a,vs,rfl,h,r⟩:=r1.aa5;cases rv;obtain⟨its,rr,p,_⟩:=I.list h;cases dy with
  |dct=>exact absurd hv (by rw[C1];lia)
  |non=>cases r2.ab9;cases ru;simp only[u4];exact⟨SeqAt.RcAt.list_none p.isList ar,SeqAt.RcNeAt.list_none p.isList ar⟩
  |bl=>cases r2.blI;cases ru;simp only[u4];exact⟨SeqAt.RcAt.list_bool _ p.isList ar,SeqAt.RcNeAt.list_bool _ p.isList ar⟩
  |int=>cases r2.aa6;obtain⟨t,rfl⟩:=ru;simp only[u4];exact⟨SeqAt.RcAt.list_int _ _ p.isList ar,SeqAt.RcNeAt.list_int _ _ p.isList ar⟩
  |str=>cases r2.ac4;obtain⟨t,rfl⟩:=ru;simp only[u4];exact⟨SeqAt.RcAt.list_str _ _ p.isList ar,SeqAt.RcNeAt.list_str _ _ p.isList ar⟩
  |tup ys=>obtain⟨a',gh,rfl,h',r'⟩:=r2.tupI;cases ru;obtain⟨_,_,p',_⟩:=I.tuple h';simp only[u4];exact⟨SeqAt.RcAt.list_tuple p.isList p' ar,SeqAt.RcNeAt.list_tuple p.isList p' ar⟩
  |lst ys=>
   obtain⟨a',gh,rfl,h',r'⟩:=r2.aa5;cases ru;obtain⟨its',og,p',_⟩:=I.list h';simp only[u4];refine vT p.isList p'.isList (by rw[<-rr.length,r.length]) (by rw[<-og.length,r'.length]) ar (gJ I r r' rr og ?_ ?_)
   ·rw[C1]at hu;rw[u3];lia
   ·rw[C1]at hv;rw[u3];lia
end
def FE (x y:D):R D:=if C1 x<=40/\C1 y<=40 then .ok (.bl (u4 x y))else .bad
def vV (x y:D):R D:=if C1 x<=40/\C1 y<=40 then .ok (.bl (!u4 x y))else .bad
section
def O5 (hu:X.A.units+64<cLine):iU X (compareOp .Eq) FE:=by
 intro H O x y dx dy Q fr r1 r2 q;unfold FE at q;split at q
 ·rename_i hd;refine⟨λx' y' H' Q'=>x'=x/\y'=y/\H'=H/\Q' (.bl (u4 dx dy)) H,?_,rfl,rfl,rfl,q _ H (Same.refl _) .bl⟩;intro pins s σ H' x' y' v u Q' I rx ry ⟨e1,e2,e3,q'⟩;subst e1 e2 e3;exact(ZO I (A:=X.A) r1 r2 rx ry (by lia) (by lia)).1 _ _ _ _ ⟨.bl _,_,I,rfl,q'⟩
 ·exact q.elim
def cA (hu:X.A.units+64<cLine):iU X (compareOp .NotEq) vV:=by
 intro H O x y dx dy Q fr r1 r2 q;unfold vV at q;split at q
 ·rename_i hd;refine⟨λx' y' H' Q'=>x'=x/\y'=y/\H'=H/\Q' (.bl (!u4 dx dy)) H,?_,rfl,rfl,rfl,q _ H (Same.refl _) .bl⟩;intro pins s σ H' x' y' v u Q' I rx ry ⟨e1,e2,e3,q'⟩;subst e1 e2 e3;exact(ZO I (A:=X.A) r1 r2 rx ry (by lia) (by lia)).2 _ _ _ _ ⟨.bl _,_,I,rfl,q'⟩
 ·exact q.elim
end
def fL:D->D->R D
 |.int a,.int b=>.ok (.int (a+b))
 |.lst a,.lst b=>if a.length+b.length<=sizeLine then .ok (.lst (a++b))else .bad
 |.tup [],.tup b=>.ok (.tup b)
 |.tup (x::a),.tup []=>if(x::a).length<=sizeLine then .ok (.tup (x::a))else .bad
 |.tup (x::a),.tup (y::b)=>if(x::a).length+(y::b).length<=sizeLine then .ok (.tup ((x::a)++(y::b)))else .bad
 |_,_=>.bad
def AW:D->D->R D
 |.int a,.int b=>.ok (.int (a-b))
 |_,_=>.bad
def x6 (a b:Int):Prop:=aAW a<=60000000/\aAW b<=60000000
instance(a b:Int):Decidable (x6 a b):=inferInstanceAs (Decidable<|_/\_)
def JR:D->D->R D
 |.int a,.int b=>if x6 a b then .ok (.int (a*b))else .bad
 |_,_=>.bad
def wG (b:Int):Prop:=b≠0/\aAW b<=9000
instance(b:Int):Decidable (wG b):=inferInstanceAs (Decidable<|_/\_)
def U6:D->D->R D
 |.int a,.int b=>if wG b then .ok (.int (a.fdiv b))else .bad
 |_,_=>.bad
def oO:D->D->R D
 |.int a,.int b=>if b≠0 then .ok (.int (a.fmod b))else .bad
 |_,_=>.bad
def vD:D->D->R D
 |.int a,.int b=>if 0<=b/\b<=1000000/\a.natAbs<2^64 then .ok (.int (a^b.toNat))else .bad
 |_,_=>.bad
def iq:D->D->R D
 |.int a,.int b=>.ok (.bl (decide (a<b)))
 |_,_=>.bad
def ax:D->D->R D
 |.int a,.int b=>.ok (.bl (decide (a<=b)))
 |_,_=>.bad
def WJ:D->D->R D
 |.int a,.int b=>.ok (.bl (decide (b<a)))
 |_,_=>.bad
def FH (h0:b≠0)(h:aAW b<=n):b.natAbs.log2<n:=by
 unfold aAW at h;split at h
 ·rename_i z;exact absurd (by simpa using z) h0
 ·omega
def NS (h:x6 a b):IntMulOk a b:=mulOk_of_bits (m:=60000000) (n:=60000000) h.1 h.2 (by decide)
section
def iU.aa9 {f:Value->Value->Sem Value}{g:D->D->R D}{C:Int->Int->Prop}{w:Int->Int->V}{dw:Int->Int->D}(hr:gC X f (rI C w))(hg:∀dx dy d,g dx dy=.ok d->∃i j,dx=.int i/\dy=.int j/\C i j/\d=dw i j)
  (hb:∀dx dy e,g dx dy≠.ex e) (hw:∀K H O i j,Rep K H O (w i j) (dw i j)):iU X f g:=by
 intro H O x y dx dy Q fr r1 r2 q;cases e:g dx dy with
 |ok d=>rw[e]at q;obtain⟨i,j,rfl,rfl,hc,rfl⟩:=hg dx dy d e;cases r1.aa6;cases r2.aa6;exact⟨_,hr,i,j,rfl,rfl,hc,q _ H (Same.refl _) (hw _ _ _ _ _)⟩
 |ex x=>exact absurd e (hb _ _ _)
 |bad=>rw[e]at q;exact q.elim
def gC.c0 (h:gC X f (UM w)):gC X f (rI (λ_ _=>True) w):=λpins s σ H x y v u Q I rx ry ⟨i,j,e1,e2,_,q⟩=>h pins s σ H x y v u Q I rx ry ⟨i,j,e1,e2,q⟩
def l9:iU X (binaryOp .Sub) AW:=iU.aa9 (dw:=λi j=>.int (i-j)) (gC.c0 WW) (λdx dy d h=>by cases dx<;>cases dy<;>simp only[AW,R.ok.injEq,reduceCtorEq]at h;exact⟨_,_,rfl,rfl,trivial,h.symm⟩) (λdx dy e h=>by cases dx<;>cases dy<;>simp only[AW,reduceCtorEq]at h) λ_ _ _ _ _=>.int
def DP:iU X (compareOp .Lt) iq:=iU.aa9 (dw:=λi j=>.bl (decide (i<j))) (gC.c0 ZX) (λdx dy d h=>by cases dx<;>cases dy<;>simp only[iq,R.ok.injEq,reduceCtorEq]at h;exact⟨_,_,rfl,rfl,trivial,h.symm⟩) (λdx dy e h=>by cases dx<;>cases dy<;>simp only[iq,reduceCtorEq]at h) λ_ _ _ _ _=>.bl
def KT:iU X (compareOp .LtE) ax:=iU.aa9 (dw:=λi j=>.bl (decide (i<=j))) (gC.c0 JK) (λdx dy d h=>by cases dx<;>cases dy<;>simp only[ax,R.ok.injEq,reduceCtorEq]at h;exact⟨_,_,rfl,rfl,trivial,h.symm⟩) (λdx dy e h=>by cases dx<;>cases dy<;>simp only[ax,reduceCtorEq]at h) λ_ _ _ _ _=>.bl
def yA:iU X (compareOp .Gt) WJ:=iU.aa9 (dw:=λi j=>.bl (decide (j<i))) (gC.c0 YJ) (λdx dy d h=>by cases dx<;>cases dy<;>simp only[WJ,R.ok.injEq,reduceCtorEq]at h;exact⟨_,_,rfl,rfl,trivial,h.symm⟩) (λdx dy e h=>by cases dx<;>cases dy<;>simp only[WJ,reduceCtorEq]at h) λ_ _ _ _ _=>.bl
def LM:gC X (binaryOp .FloorDiv) (rI (λ_ j=>wG j) λi j=>.int (i.fdiv j)):=ak λ_ _ _ _ _ _ _ hc q=>floordiv_int hc.1 q (.inl (PyProof.noPylong_of_log2<|FH hc.1 hc.2))
def w8:iU X (binaryOp .FloorDiv) U6:=iU.aa9 (dw:=λi j=>.int (i.fdiv j)) LM (λdx dy d h=>by
 cases dx<;>cases dy<;>simp only[U6,reduceCtorEq]at h;split at h
 ·rename_i hc;cases h;exact⟨_,_,rfl,rfl,hc,rfl⟩
 ·cases h) (λdx dy e h=>by
  cases dx<;>cases dy<;>simp only[U6,reduceCtorEq]at h;split at h<;>cases h) λ_ _ _ _ _=>.int
def t8:iU X (binaryOp .Mod) oO:=iU.aa9 (dw:=λi j=>.int (i.fmod j)) SU (λdx dy d h=>by
 cases dx<;>cases dy<;>simp only[oO,reduceCtorEq]at h;split at h
 ·rename_i hc;cases h;exact⟨_,_,rfl,rfl,hc,rfl⟩
 ·cases h) (λdx dy e h=>by
  cases dx<;>cases dy<;>simp only[oO,reduceCtorEq]at h;split at h<;>cases h) λ_ _ _ _ _=>.int
def D3:iU X (binaryOp .Pow) vD:=iU.aa9 (dw:=λi j=>.int (i^j.toNat)) XX (λdx dy d h=>by
 cases dx<;>cases dy<;>simp only[vD,reduceCtorEq]at h;split at h
 ·rename_i hc;cases h;exact⟨_,_,rfl,rfl,hc,rfl⟩
 ·cases h) (λdx dy e h=>by
  cases dx<;>cases dy<;>simp only[vD,reduceCtorEq]at h;split at h<;>cases h) λ_ _ _ _ _=>.int
def QM:gC X (binaryOp .Mult) (rI x6 λi j=>.int (i*j)):=ak λ_ _ _ _ _ _ _ hc q=>mul_int q (NS hc)
def j6:iU X (binaryOp .Mult) JR:=iU.aa9 (dw:=λi j=>.int (i*j)) QM (λdx dy d h=>by
 cases dx<;>cases dy<;>simp only[JR,reduceCtorEq]at h;split at h
 ·rename_i hc;cases h;exact⟨_,_,rfl,rfl,hc,rfl⟩
 ·cases h) (λdx dy e h=>by
  cases dx<;>cases dy<;>simp only[JR,reduceCtorEq]at h;split at h<;>cases h) λ_ _ _ _ _=>.int
def DD:gC X (binaryOp .Add) (λx y H Q=>∃l b xs zs,x=.ref l/\y=.ref b/\K4 X.K H l xs/\K4 X.K H b zs/\xs.length+zs.length<=sizeLine/\∀p,H p=none->Q (.ref p) (upd H p (.lst (xs++zs)))):=by
 intro pins s σ H x y v u Q I rx ry h;obtain⟨l,b,xs,zs,rfl,rfl,hH,hB,hz,q⟩:=h;cases rx;cases ry;obtain⟨its,r,p,_⟩:=I.list hH;obtain⟨kn,r2,p2,_⟩:=I.list hB;obtain⟨⟨cls,dd,data,sl⟩,ho,hc,n,hd⟩:=p.isList;obtain⟨⟨cls2,va,data2,uc⟩,kl,jr,n2,hd2⟩:=p2.isList;simp only at hc hd jr hd2;subst hc hd jr hd2;have gg:its.toArray.size+kn.toArray.size<=sizeLine:=by rw[aAo,aAo,<-r.length,<-r2.length];exact hz
 have ea:its.toArray++kn.toArray=(its++kn).toArray:=by simp
 refine aFC ⟨_,ho,rfl⟩ ⟨_,kl,rfl⟩ noFill_list_add seq_list_add PySem.F.slot_list_add PySem.F.entry_list_add (PySem.F.args_list_add_2 _ _) (list_addW l b its.toArray kn.toArray n n2 dd va sl uc gg) ⟨ho,kl,?_⟩;rw[ea];exact⟨.ref _,_,I.af9 (t':=s.toks) (r.append r2) (by rw[aAy];omega),rfl,q _ I.fresh⟩
def JH:gC X (binaryOp .Add) (λx y H Q=>∃a b ys,x=.ref a/\y=.ref b/\W2 X.K H a []/\W2 X.K H b ys/\Q (.ref b) H):=by intro pins s σ H x y v u Q I rx ry h;obtain⟨t,b,ys,rfl,rfl,ha,hb,q⟩:=h;cases rx;cases ry;obtain⟨its,r1,p1,_⟩:=I.tuple ha;obtain⟨ws,r2,p2,_⟩:=I.tuple hb;cases r1;obtain⟨⟨cls,dd,data,sl⟩,ho,hc,n,hd⟩:=p1;obtain⟨⟨cls2,va,data2,uc⟩,kl,jr,n2,hd2⟩:=p2;simp only at hc hd jr hd2;subst hc hd jr hd2;exact aFC ⟨_,ho,rfl⟩ ⟨_,kl,rfl⟩ aFo seq_tuple_add PySem.F.slot_tuple_add PySem.F.entry_tuple_add (PySem.F.args_tuple_add_2 _ _) (tuple_addW0 t b _ _ n n2 dd va sl uc (by simp)) ⟨ho,kl,.ref b,H,I,rfl,q⟩
def l7:iU X (binaryOp .Add) fL:=by
 intro H O x y dx dy Q fr r1 r2 q;cases dx with
 |int i=>
  cases dy with
  |int j=>cases r1.aa6;cases r2.aa6;exact⟨_,XJ,i,j,rfl,rfl,q _ H (Same.refl _) .int⟩
  |_=>exact aAi q
 |lst a=>
  cases dy with
  |lst b=>
   simp only[fL]at q;split at q
   ·rename_i hz;obtain⟨l,vs,rfl,h1,h2⟩:=r1.aa5;obtain⟨l',gh,rfl,ug,rh⟩:=r2.aa5;exact⟨_,DD,l,l',vs,gh,rfl,rfl,h1,ug,by rw[h2.length,rh.length];exact hz,λp hp=>q _ _ (j3 hp _) (.lst (K4.of i9) (fr p hp) ((h2.append rh).same (j3 hp _)))⟩
   ·exact q.elim
  |_=>exact aAi q
 |tup a=>
  cases dy with
  |tup b=>
   cases a with
   |nil=>obtain⟨l,vs,rfl,h1,h2⟩:=r1.tupI;obtain⟨l',gh,rfl,ug,rh⟩:=r2.tupI;cases h2;exact⟨_,JH,l,l',gh,rfl,rfl,h1,ug,q _ H (Same.refl _) (.tup ug rh)⟩
   |cons x a=>
    cases b with
    |nil=>
     obtain⟨l,vs,rfl,h1,h2⟩:=r1.tupI;obtain⟨l',gh,rfl,ug,rh⟩:=r2.tupI;cases rh;have n1:vs≠[]:=λz=>by subst z;have:=h2.length;simp at this
     simp only[fL]at q;split at q
     ·rename_i hz;exact⟨_,DB,l,l',vs,[],rfl,rfl,h1,ug,n1,by rw[h2.length];exact hz,λ_=>q _ H (Same.refl _) (.tup h1 h2),λz=>absurd rfl z⟩
     ·exact q.elim
    |cons y b=>
     simp only[fL]at q;split at q
     ·rename_i hz;obtain⟨l,vs,rfl,h1,h2⟩:=r1.tupI;obtain⟨l',gh,rfl,ug,rh⟩:=r2.tupI;have n1:vs≠[]:=λz=>by subst z;have:=h2.length;simp at this
      have n2:gh≠[]:=λz=>by subst z;have:=rh.length;simp at this
      exact⟨_,DB,l,l',vs,gh,rfl,rfl,h1,ug,n1,by rw[h2.length,rh.length];exact hz,λz=>absurd z n2,λ_ p hp=>q _ _ (j3 hp _) (.tup (W2.of i9) ((h2.append rh).same (j3 hp _)))⟩
     ·exact q.elim
  |_=>cases a<;>exact aAi q
 |_=>exact aAi q
def R1 (x y:D):R D:=match x,y with
 |.lst xs,.int i=>match lX xs i with|some d=>.ok d|none=>.bad
 |.tup xs,.int i=>match lX xs i with|some d=>.ok d|none=>.bad
 |_,_=>.bad
def yC {K:PySem.W.Frag}{H:Hp}{O:Addr->Prop}{vs:List V}{ds:List D}{i:Int}{d:D}(r:Reps K H O vs ds)(h:lX ds i=some d):∃v,lX vs i=some v/\Rep K H O v d:=by
 unfold lX at h⊢;rw[r.length];cases e:OI ds.length i with
 |none=>rw[e]at h;cases h
 |some j=>rw[e]at h;exact r.get h
def f9 (ha:PB X a f)(hb:PD X b g)(hs:TL b:=by exactλ_ _=>rfl):PD X (.Subscript a b pos) (λρ=>(f ρ).bind λx=>(g ρ).bind λy=>R1 x y):=by
 refine rK λpins s σ H Q I H9 O0 O ρ E q=>?_;refine Subscript_ (FA ha hb.pb I (mL E q) λv u s2 x y H2 I2 rx ry h=>?_);obtain⟨dx,dy,fr,r1,r2,q⟩:=h;cases dy with
 |int i=>
  cases r2.aa6;cases dx with
  |lst xs=>
   simp only[R1]at q;cases e:lX xs i with
   |none=>rw[e]at q;exact q.elim
   |some d=>rw[e]at q;obtain⟨p,vs,rfl,h1,h2⟩:=r1.aa5;obtain⟨w,h3,h4⟩:=yC h2 e;exact RQ a b pins s2 σ H2 _ _ v u Q I2 rx ry ⟨p,vs,i,w,rfl,rfl,h1,h3,q w H2 (Same.refl _) h4⟩ (hs _ _)
  |tup xs=>
   simp only[R1]at q;cases e:lX xs i with
   |none=>rw[e]at q;exact q.elim
   |some d=>rw[e]at q;obtain⟨p,vs,rfl,h1,h2⟩:=r1.tupI;obtain⟨w,h3,h4⟩:=yC h2 e;exact VE a b pins s2 σ H2 _ _ v u Q I2 rx ry ⟨p,vs,i,w,rfl,rfl,h1,h3,q w H2 (Same.refl _) h4⟩ (hs _ _)
  |_=>exact aAi q
 |_=>cases dx<;>exact aAi q
def cutD (xs:List D)(lo hi:Option Int):List D:=(xs.drop<|HT.sIx xs.length 0 lo).take (HT.sIx xs.length xs.length hi-HT.sIx xs.length 0 lo)
def qJ {K:PySem.W.Frag}{H:Hp}{O:Addr->Prop}{vs:List V}{ds:List D}{lo hi:Option Int}(r:Reps K H O vs ds):Reps K H O (xO vs lo hi) (cutD ds lo hi):=by unfold xO cutD;rw[r.length];exact(r.drop _).take _
def jw (X:Cx)(e:Option Expr)(f:Ev->R (Option Int)):Prop:=PO X e λσ H Q=>∃H9 O0 O ρ,EnvOk X.K H9 O0 H O σ ρ/\match f ρ with
 |.ok o=>∀H',Same H H'->Q o H'
 |.ex e=>∀H',Same H H'->XW X e H'
 |.bad=>False
def yk:D->R (Option Int)
 |.int i=>.ok (some i)
 |_=>.bad
def O9:jw X none (λ_=>.ok none):=λpins s σ H Q I ⟨H9,O0,O,ρ,E,q⟩=>RB pins s σ H Q I (q H<|Same.refl _)
def C5 (h:PD X e f):jw X (some e) (λρ=>(f ρ).bind yk):=λpins s σ H Q I ⟨H9,O0,O,ρ,E,q⟩=>QW h pins s σ H Q I ⟨H9,O0,O,ρ,E,by
 dsimp only at q;cases e:f ρ with
 |ok d=>
  rw[e]at q;cases d with
  |int i=>exactλv H1 s1 r1=>by cases r1;exact⟨i,rfl,q H1 s1⟩
  |_=>exact aAi q
 |ex x=>rw[e]at q;exact q
 |bad=>rw[e]at q;exact q⟩
def tH (x:D)(lo hi:Option Int):R D:=match x with
 |.lst xs=>.ok (.lst (cutD xs lo hi))
 |.tup xs=>if HT.sIx xs.length 0 lo=0/\HT.sIx xs.length xs.length hi=xs.length then .bad else .ok (.tup (cutD xs lo hi))
 |_=>.bad
def eN {lo hi:Option Expr}{p2:Pos}{fl fh:Ev->R (Option Int)}(he:PB X a f)(hl:jw X lo fl)(hu:jw X hi fh):
  PD X (.Subscript a (.Slice lo hi none p2) pos) (λρ=>(f ρ).bind λx=>(fl ρ).bind λl=>(fh ρ).bind λh=>tH x l h):=by
 refine rK λpins s σ H Q I H9 O0 O ρ E q=>?_;have fin:∀x d l h H',x9 X.K H' O x d->(∀p,H' p=none->¬O p)->RC X H' O (tH d l h) Q->bj X.K x l h H' Q\/ZT X.K x l h H' Q:=λx d l h H' r fr q=>by
  cases d with
  |lst xs=>obtain⟨p,vs,rfl,h1,h2⟩:=r.aa5;exact .inl ⟨p,vs,rfl,h1,λp hp=>q _ _ (j3 hp _) (.lst (K4.of i9) (fr p hp) ((qJ h2).same (j3 hp _)))⟩
  |tup xs=>
   obtain⟨p,vs,rfl,h1,h2⟩:=r.tupI;simp only[tH]at q;split at q
   ·exact q.elim
   ·rename_i hn;exact .inr ⟨p,vs,rfl,h1,by rw[h2.length];exact hn,λp hp=>q _ _ (j3 hp _) (.tup (W2.of i9) ((qJ h2).same (j3 hp _)))⟩
  |_=>exact aAi q
 refine IQ (RT.or VP) he hl hu pins s σ H Q I ⟨H9,O0,O,ρ,E,?_⟩;dsimp only at q;cases e1:f ρ with
 |ok d=>
  rw[e1]at q;intro x H1 s1 r1;refine⟨H9,O0,O,ρ,E.grow s1,?_⟩;rw[R.aa0]at q;cases e2:fl ρ with
  |ok l=>
   rw[e2]at q;intro H2 s2;refine⟨H9,O0,O,ρ,(E.grow s1).grow s2,?_⟩;cases e3:fh ρ with
   |ok h=>rw[e3]at q;intro H3 s3;have q':RC X H O (tH d l h) Q:=q;exact fin x d l h H3 ((r1.same s2).same s3) (λp hp=>(((E.grow s1).grow s2).grow s3).fresh hp) (q'.grow<|s1.trans<|s2.trans s3)
   |ex x=>rw[e3]at q;exactλH3 s3=>q H3 (s1.trans<|s2.trans s3)
   |bad=>rw[e3]at q;exact q
  |ex x=>rw[e2]at q;exactλH3 s3=>q H3 (s1.trans s3)
  |bad=>rw[e2]at q;exact q
 |ex x=>rw[e1]at q;exact q
 |bad=>rw[e1]at q;exact q
def PJ {K:PySem.W.Frag}{H:Hp}{O:Addr->Prop}{vs:List V}{d:D}(r:Paired (x9 K H O) vs [d]):∃v,vs=[v]/\x9 K H O v d:=by
 cases r with
 |cons r1 r2=>cases r2;exact⟨_,rfl,r1⟩
def yw {K:PySem.W.Frag}{H:Hp}{O:Addr->Prop}{vs:List V}{d d':D}(r:Paired (x9 K H O) vs [d,d']):∃v v',vs=[v,v']/\x9 K H O v d/\x9 K H O v' d':=by
 cases r with
 |cons r1 r2=>obtain⟨v',e,r'⟩:=PJ r2;subst e;exact⟨_,_,rfl,r1,r'⟩
def QS:List D->R D
 |[.lst xs]=>.ok (.int xs.length)
 |[.tup xs]=>.ok (.int xs.length)
 |_=>.bad
def cG:iB X (.builtin "len") QS:=by
 intro H O vs ds Q fr r q;match ds,q with
 |[.lst xs],q=>obtain⟨v,rfl,z⟩:=PJ r;obtain⟨p,ys,rfl,h1,h2⟩:=z.aa5;exact⟨_,gT,p,ys,rfl,.inl h1,q _ H (Same.refl _) (by rw[h2.length];exact .int)⟩
 |[.tup xs],q=>obtain⟨v,rfl,z⟩:=PJ r;obtain⟨p,ys,rfl,h1,h2⟩:=z.tupI;exact⟨_,gT,p,ys,rfl,.inr h1,q _ H (Same.refl _) (by rw[h2.length];exact .int)⟩
def ZS:List D->R D
 |[.int i]=>.ok (.int (if i<0 then-i else i))
 |_=>.bad
def XQ:iB X (.builtin "abs") ZS:=by
 intro H O vs ds Q fr r q;match ds,q with
 |[.int i],q=>obtain⟨v,rfl,z⟩:=PJ r;cases z.aa6;exact⟨_,MN,i,rfl,q _ H (Same.refl _) .int⟩
def UB:List D->R D
 |[.lst xs]=>.ok (.lst xs)
 |[.tup xs]=>.ok (.lst xs)
 |_=>.bad
def TH:iB X (.type "list") UB:=by
 intro H O vs ds Q fr r q;match ds,q with
 |[.lst xs],q=>obtain⟨v,rfl,z⟩:=PJ r;obtain⟨p,ys,rfl,h1,h2⟩:=z.aa5;exact⟨_,gF,p,ys,rfl,.inl h1,λl hl=>q _ _ (j3 hl _) (.lst (K4.of i9) (fr l hl) (h2.same<|j3 hl _))⟩
 |[.tup xs],q=>obtain⟨v,rfl,z⟩:=PJ r;obtain⟨p,ys,rfl,h1,h2⟩:=z.tupI;exact⟨_,gF,p,ys,rfl,.inr h1,λl hl=>q _ _ (j3 hl _) (.lst (K4.of i9) (fr l hl) (h2.same<|j3 hl _))⟩
def mx:D->String
 |.non=> "NoneType"|.bl _=> "bool"|.int _=> "int"|.str _=> "str"|.tup _=> "tuple"|.lst _=> "list"|.dct=> "dict"
def xF (T:String)(d:D):Bool:=mx d==T||(T== "int"&&mx d== "bool")
def rA (T:String):Prop:=∀(K:PySem.W.Frag) (d:D),PySem.W.kitOne K (.type (mx d)) (.type T)=some (xF T d)
def tM:rA "int":=λK d=>by cases d<;>with_unfolding_all rfl
def oM:rA "bool":=λK d=>by cases d<;>with_unfolding_all rfl
def GG:rA "tuple":=λK d=>by cases d<;>with_unfolding_all rfl
def IT:rA "list":=λK d=>by cases d<;>with_unfolding_all rfl
def QV {O:Addr->Prop}(I:Inv X pins σ H s)(ht:rA T)(r:x9 X.K H O v d)(ru:RelV v u)(q:Q (.bl (xF T d)) H):
  wpAny (model X.prog X.w) X.A (call (.builtin "isinstance") [u,.type T]) (EP X pins σ Q) X.xe s:=by
 have e:=ht X.K d;have fin:∀tk,EP X pins σ Q (.bool (xF T d)) {s with toks:=tk}:=λtk=>⟨.bl _,H,I.tok _,rfl,q⟩;cases d with
 |non=>cases r.ab9;cases ru;exact PySem.W.kia_one PySem.W.kitx_none I.kIn aGi e (λz=>nomatch z) fin
 |bl=>cases r.blI;cases ru;exact PySem.W.kia_one PySem.W.kitx_bool I.kIn aGi e (λz=>nomatch z) fin
 |int=>cases r.aa6;obtain⟨t,rfl⟩:=ru;exact PySem.W.kia_one PySem.W.kitx_int I.kIn aGi e (λz=>nomatch z) fin
 |str=>cases r.ac4;obtain⟨t,rfl⟩:=ru;exact PySem.W.kia_one PySem.W.kitx_str I.kIn aGi e (λz=>nomatch z) fin
 |tup xs=>obtain⟨a,vs,rfl,h,_⟩:=r.tupI;cases ru;obtain⟨its,_,p,_⟩:=I.tuple h;obtain⟨o,h1,h2,_⟩:=p;exact PySem.W.kia_one PySem.W.kitx_tuple I.kIn ⟨o,h1,h2⟩ e (λz=>nomatch z) fin
 |lst xs=>obtain⟨a,vs,rfl,h,_⟩:=r.aa5;cases ru;obtain⟨its,_,p,_⟩:=I.list h;obtain⟨o,n,h1,h2,_⟩:=p;exact PySem.W.kia_one PySem.W.kitx_list I.kIn ⟨o,h1,h2⟩ e (λz=>nomatch z) fin
 |dct=>obtain⟨a,o,rfl,h,x⟩:=r.af4;cases ru;exact PySem.W.kia_one PySem.W.kitx_dict I.kIn ⟨o,(I.hok _ _ h).1,x.1⟩ e (λz=>nomatch z) fin
def cH (ht:rA T)(ha:PB X a f)(hT:bootBuiltins x=some (.type T):=by decide+kernel)(hm:X.mg "isinstance"=none:=by assumption)(hmT:X.mg x=none:=by assumption)(hg:Gl X "isinstance":=by rfl)(hgT:Gl X x:=by rfl)(gc:(x==("__debug__":Str))=false:=by decide)(hn:x≠ "__name__":=by decide)(he:starEach [a,.Name x pt] X.env=(false,eval a X.env)::starEach [.Name x pt] X.env:=by rfl)(ku:starEach [Expr.Name x pt] X.env=[(false,eval (.Name x pt) X.env)]:=by rfl)(bg:(backTo pos (starEach [Expr.Name x pt] X.env)).any (·.1)=false:=by rfl):
  PD X (.Call (.Name "isinstance" p) [a,.Name x pt] [] pos) (λρ=>(f ρ).bind λd=>.ok (.bl (xF T d))):=by
 refine rK λpins s σ H Q I H9 O0 O ρ E q=>?_;refine aAZ (Q5 (u:=.builtin "isinstance") I hg hm (by decide+kernel) ?_);have hb:PE X (.Name x pt) (tC<|.ty T):=PV hgT hmT hT rfl hn gc;have h:=L5 ha (L5 hb bR (by rw[ku];rfl)) he pos pins s σ H (λvs H1=>∃v d,vs=[v,.ty T]/\x9 X.K H1 O v d/\Q (.bl (xF T d)) H1) I ⟨H9,O0,O,ρ,E,by refine KN.mono (KN.seq q) λv H1 ⟨d,_,s1,r1,h1⟩=>?_;exact⟨v,d,rfl,r1,h1 _ H1 (Same.refl _) .bl⟩⟩
 refine aCo (B4 h λus s1 ⟨vs,H1,I1,r1,v,d,e,r,h⟩=>?_) he bg;subst e;obtain⟨u,w,rfl,ru,rw'⟩:=vals2 r1;cases rw';exact QV I1 ht r ru h
end
section
variable{K:PySem.W.Frag}
def Kp.lst (k:Kp H O H' O'){a:Addr}{xs:List V}(n:¬O a)(h:K4 K H a xs)(hK:∀o,K.lookup a=some o->¬O' a):¬O' a/\K4 K H' a xs:=by
 rcases h with(h|⟨o,h⟩)|h
 ·exact⟨(k _ _ h n).2,.inl (.inl (k _ _ h n).1)⟩
 ·exact⟨(k _ _ h n).2,.inl (.inr ⟨o,(k _ _ h n).1⟩)⟩
 ·obtain⟨o,its,m,h1,h2⟩:=h;exact⟨hK o h1,.inr ⟨o,its,m,h1,h2⟩⟩
def Kp.tup (k:Kp H O H' O')(hO:∀a,O a->∃o,H a=some o/\Mt o){a:Addr}{xs:List V}(h:W2 K H a xs):W2 K H' a xs:=by
 rcases h with(h|⟨o,h⟩)|h
 ·exact .inl (.inl (k _ _ h λz=>by obtain⟨o,q,m⟩:=hO a z;rw[h]at q;cases q;exact m).1)
 ·exact .inl (.inr ⟨o,(k _ _ h λz=>by obtain⟨o,q,m⟩:=hO a z;rw[h]at q;cases q;exact m).1⟩)
 ·exact .inr h
end
def Z2 (K:PySem.W.Frag)(O:Addr->Prop):Prop:=∀a o,K.lookup a=some o->¬O a
def Kp.rep {K:PySem.W.Frag}{H H':Hp}{O O':Addr->Prop}(k:Kp H O H' O')(hO:∀a,O a->∃o,H a=some o/\Mt o)(hK:Z2 K O'){v:V}{d:D}(r:Rep K H O v d):Rep K H' O' v d:=
 r.mono (λ_ _ h=>k.tup hO h) (λa _ n h=>k.lst n h λo q=>hK a o q) λa _ n h=>⟨(k a _ h n).2,(k a _ h n).1⟩
def Kp.ac9 {K:PySem.W.Frag}{H H':Hp}{O O':Addr->Prop}(k:Kp H O H' O')(hO:∀a,O a->∃o,H a=some o/\Mt o)(hK:Z2 K O'){v:List V}{d:List D}(r:Reps K H O v d):Reps K H' O' v d:=
 r.mono (λ_ _ h=>k.tup hO h) (λa _ n h=>k.lst n h λo q=>hK a o q) λa _ n h=>⟨(k a _ h n).2,(k a _ h n).1⟩
inductive Out where
 |nx (ρ:Ev)|rt (d:D)|bk (ρ:Ev)|ct (ρ:Ev)
def RS (X:Cx)(H9:Hp)(O0:Addr->Prop)(H:Hp)(O:Addr->Prop)(r:R Out)(D:Ends):Prop:=match r with
 |.ok (.nx ρ)=>∀ae H' O',EnvOk X.K H9 O0 H' O' ae ρ->Z2 X.K O'->Kp H O H' O'->D.nx ae H'
 |.ok (.bk ρ)=>∀ae H' O',EnvOk X.K H9 O0 H' O' ae ρ->Z2 X.K O'->Kp H O H' O'->D.bk ae H'
 |.ok (.ct ρ)=>∀ae H' O',EnvOk X.K H9 O0 H' O' ae ρ->Z2 X.K O'->Kp H O H' O'->D.ct ae H'
 |.ok (.rt d)=>∀v H',Same H9 H'->Rep X.K H' O0 v d->D.rt v H'
 |.ex e=>∀H',Same H9 H'->XW X e H'
 |.bad=>False
def tS (X:Cx)(H9:Hp)(O0:Addr->Prop)(F:Ev->R Out):TS:=λD σ H=>∃O ρ,EnvOk X.K H9 O0 H O σ ρ/\Z2 X.K O/\RS X H9 O0 H O (F ρ) D
def kR (X:Cx)(st:Stmt)(F:Ev->R Out):Prop:=∀H9 O0,PS X st (tS X H9 O0 F)
def bF (X:Cx)(st:List Stmt)(F:Ev->R Out):Prop:=∀H9 O0,rC X st (tS X H9 O0 F)
def VH {X:Cx}{st:Stmt}{t t':TS}(h:PS X st t)(i:∀D σ H,t' D σ H->t D σ H):PS X st t':=λpins s σ H D I q=>h pins s σ H D I (i D σ H q)
def dZ {X:Cx}{st:List Stmt}{t t':TS}(h:rC X st t)(i:∀D σ H,t' D σ H->t D σ H):rC X st t':=λpins s σ H D I q=>h pins s σ H D I (i D σ H q)
def vS {X:Cx}{st:Stmt}{t:TS}{F:Ev->R Out}{H9:Hp}{O0:Addr->Prop}(h:PS X st t)(i:∀D σ H O ρ,EnvOk X.K H9 O0 H O σ ρ->Z2 X.K O->RS X H9 O0 H O (F ρ) D->t D σ H):PS X st (tS X H9 O0 F):=VH h λD σ H ⟨O,ρ,E,f,q⟩=>i D σ H O ρ E f q
def gw {X:Cx}{st:List Stmt}{t:TS}{F:Ev->R Out}{H9:Hp}{O0:Addr->Prop}(h:rC X st t)(i:∀D σ H O ρ,EnvOk X.K H9 O0 H O σ ρ->Z2 X.K O->RS X H9 O0 H O (F ρ) D->t D σ H):rC X st (tS X H9 O0 F):=dZ h λD σ H ⟨O,ρ,E,f,q⟩=>i D σ H O ρ E f q
def RS.grow {X:Cx}{H9:Hp}{O0:Addr->Prop}{H H1:Hp}{O O1:Addr->Prop}{r:R Out}{D:Ends}(h:RS X H9 O0 H O r D)(k:Kp H O H1 O1):RS X H9 O0 H1 O1 r D:=by
 cases r with
 |ok o=>
  cases o with
  |nx ρ=>exactλae H' O' E f q=>h ae H' O' E f (k.trans q)
  |bk ρ=>exactλae H' O' E f q=>h ae H' O' E f (k.trans q)
  |ct ρ=>exactλae H' O' E f q=>h ae H' O' E f (k.trans q)
  |rt d=>exact h
 |ex e=>exact h
 |bad=>exact h
def z7 (r:R Out)(F:Ev->R Out):R Out:=match r with
 |.ok (.nx ρ)=>F ρ
 |r=>r
section
variable{st:Stmt} {rest:List Stmt}
def RS.seq {H9:Hp}{O0:Addr->Prop}{H:Hp}{O:Addr->Prop}{r:R Out}{D:Ends}(h:RS X H9 O0 H O (z7 r G) D):RS X H9 O0 H O r {D with nx:=tS X H9 O0 G D}:=by
 cases r with
 |ok o=>
  cases o with
  |nx ρ=>exactλae H' O' E f k=>⟨O',ρ,E,f,(show RS X H9 O0 H O (G ρ) D from h).grow k⟩
  |bk ρ=>exact h
  |ct ρ=>exact h
  |rt d=>exact h
 |ex e=>exact h
 |bad=>exact h
def m6:bF X [] (λρ=>.ok (.nx ρ)):=λH9 O0=>gw uU λD σ H O ρ E f q=>q σ H O E f (Kp.refl _ _)
def c6 (h1:kR X st F)(h2:bF X rest G):bF X (st::rest) (λρ=>z7 (F ρ) G):=λH9 O0=>gw (pI (h1 H9 O0)<|h2 H9 O0) λD σ H O ρ E f q=>⟨O,ρ,E,f,RS.seq q⟩
def c9 (h1:kR X st F):bF X [st] F:=λH9 O0=>dJ (h1 H9 O0)
def i7 {e:Expr}{f:Ev->R D}(he:PD X e f):kR X (.Return (some e) pos) (λρ=>(f ρ).bind λd=>.ok (.rt d)):=λH9 O0=>vS (oN he) λD σ H O ρ E fk q=>⟨H9,O0,O,ρ,E,by
 cases e1:f ρ with
 |ok d=>rw[e1]at q;exactλv H' s r=>q v H' (E.same.trans s) (r.sub E.sub)
 |ex x=>rw[e1]at q;exactλH' s=>q H' (E.same.trans s)
 |bad=>rw[e1]at q;exact q⟩
def i4 (i:Nat){x:Str}{e:Expr}{f:Ev->R D}{pos':Pos}(he:PD X e f)(hN:X.N.Nodup)(hi:X.N[i]?=some x:=by rfl)(hx:Loc X.env.scope x:=by first|exact aCh rfl|exact aBx rfl)
  (hs:swapsWith e (some (.Name x pos')) pos.line X.env=pure false:=by rfl) (hf:X.fn x=true\/X.env.scope.names.lookup x=some .local:=by first|exact .inl rfl|exact .inr rfl|assumption):
  kR X (.Assign [.Name x pos'] e pos) (λρ=>(f ρ).bind λd=>.ok (.nx (ρ.set i (.v d)))):=λH9 O0=>vS (KS hN hi hx he hs hf) λD σ H O ρ E fk q=>⟨H9,O0,O,ρ,E,by
 cases e1:f ρ with
 |ok d=>rw[e1]at q;exactλv H' s r=>q _ H' O ((E.grow s).set i r) fk (Kp.of s)
 |ex x=>rw[e1]at q;exactλH' s=>q H' (E.same.trans s)
 |bad=>rw[e1]at q;exact q⟩
def w6 {c:Expr}{a b:List Stmt}{fc:Ev->R Bool}(hc:vE X c fc)(ha:bF X a F)(hb:bF X b G):kR X (.If c a b pos) (λρ=>(fc ρ).bind λt=>if t=true then F ρ else G ρ):=λH9 O0=>vS (KR hc (ha H9 O0)<|hb H9 O0) λD σ H O ρ E fk q=>⟨H9,O0,O,ρ,E,by
 cases e1:fc ρ with
 |ok t=>
  rw[e1]at q;intro H' s;cases t with
  |true=>rw[if_pos rfl];exact⟨O,ρ,E.grow s,fk,RS.grow q (Kp.of s)⟩
  |false=>rw[if_neg aAH];exact⟨O,ρ,E.grow s,fk,RS.grow q (Kp.of s)⟩
 |ex x=>rw[e1]at q;exactλH' s=>q H' (E.same.trans s)
 |bad=>rw[e1]at q;exact q⟩
def QD (K:PySem.W.Frag)(J:It)(H:Hp)(O:Addr->Prop)(ds:List D):Prop:=∀H2 O2,Kp H O H2 O2->Z2 K O2->(∀a,O a->∃o,H a=some o/\Mt o)->(∀a,O2 a->∃o,H2 a=some o/\Mt o)->∀i:Nat,
 (∀d,ds[i]?=some d->J.go i H2/\∀x H',J.yld i H2 x H'->Same H2 H'/\Rep K H' O2 x d)/\(ds[i]?=none->J.stop i H2)
def tI (X:Cx)(f:Ev->R (List D)):TI:=λσ H R=>∃H9 O0 O ρ,EnvOk X.K H9 O0 H O σ ρ/\Z2 X.K O/\match f ρ with
 |.ok ds=>∀J H',Same H H'->QD X.K J H' O ds->R J H'
 |.ex e=>∀H',Same H H'->XW X e H'
 |.bad=>False
def QF (X:Cx)(tg v5:Expr)(f:Ev->R (List D)):Prop:=PI X tg v5 (tI X f)
def OX (h:PI X tg v5 t)(i:∀σ H R,t' σ H R->t σ H R):PI X tg v5 t':=λpins s σ H R I q=>h pins s σ H R I (i σ H R q)
def dC:D->R (List D)
 |.lst xs=>.ok xs
 |_=>.bad
def CM:D->R (List D)
 |.tup xs=>.ok xs
 |_=>.bad
def q9 (h:PD X v5 f):QF X tg v5 (λρ=>(f ρ).bind dC):=OX (ES h) λσ H R ⟨H9,O0,O,ρ,E,fk,q⟩=>⟨H9,O0,O,ρ,E,by
 dsimp only at q;cases e:f ρ with
 |ok d=>
  rw[e]at q;cases d with
  |lst xs=>
   intro v H' s r;cases r with
   |lst h n r=>
    rename_i a vs;refine⟨a,rfl,⟨vs,h⟩,q (qw X.K a) H' s ?_⟩;intro H2 O2 k hK hO hO2 i;obtain⟨n2,h2⟩:=k.lst n h λo q=>hK a o q;have r2:=k.ac9 hO hK r;refine⟨λd e=>?_,λe=>⟨vs,h2,by rw[r.length];exact aCi.mp e⟩⟩;obtain⟨v,h3,h4⟩:=r2.get e;exact⟨⟨vs,v,h2,h3⟩,λx H3 ⟨e1,e2⟩=>by subst e1;have:=e2 vs h2;rw[h3]at this;cases this;exact⟨Same.refl _,h4⟩⟩
  |_=>exact aAi q
 |ex x=>rw[e]at q;exact q
 |bad=>rw[e]at q;exact q⟩
def DV (h:PD X v5 f):QF X tg v5 (λρ=>(f ρ).bind CM):=OX (VD h) λσ H R ⟨H9,O0,O,ρ,E,fk,q⟩=>⟨H9,O0,O,ρ,E,by
 dsimp only at q;cases e:f ρ with
 |ok d=>
  rw[e]at q;cases d with
  |tup xs=>
   intro v H' s r;cases r with
   |tup h r=>
    rename_i a vs;refine⟨a,rfl,⟨vs,h⟩,q (vz X.K a) H' s ?_⟩;intro H2 O2 k hK hO hO2 i;have h2:=k.tup hO h;have r2:=k.ac9 hO hK r;refine⟨λd e=>?_,λe=>⟨vs,h2,by rw[r.length];exact aCi.mp e⟩⟩;obtain⟨v,h3,h4⟩:=r2.get e;exact⟨⟨vs,v,h2,h3⟩,λx H3 ⟨e1,e2⟩=>by subst e1;have:=e2 vs h2;rw[h3]at this;cases this;exact⟨Same.refl _,h4⟩⟩
  |_=>exact aAi q
 |ex x=>rw[e]at q;exact q
 |bad=>rw[e]at q;exact q⟩
def WG (lo c:Int)(n:Nat):It:=⟨λi _=>i<n,λi H x H'=>H'=H/\x=.int (lo+i*c),λi _=>n<=i⟩
def xZ {P:Program}{w:World}{K:PySem.W.Frag}{tg:Expr}(it:Addr)(lo c:Int)(n:Nat):Turn P w K tg (WG lo c n) [it] it (λi h=>IsRangeIter h it (lo+(i:Nat)*c) ((n:Int)-(i:Nat)) c)where
 mem:=by simp
 obj:=λi h st b hb=>by
  have e:b=it:=by simpa using hb
  subst e;exact⟨_,st,λv z=>by have z':Data.fields _=Data.cell v:=z;cases z'⟩
 keep:=λi h h' st k=>k it (by simp) _ st
 item:=by intro X hP hw hK hc i pins s σ H E I hf st hg;subst hP hw hK;obtain⟨f0,f1,f2,f3,f4,f5⟩:=hf it (by simp);have W:=Walks.range (prog:=X.prog) (w:=X.w) (I.ok.hd hc) it lo c n;refine W.item i s _ _ hg st λv h' tk hv st' kk=>?_;obtain⟨t,rfl⟩:=hv;have I1:Inv X pins σ H {s with heap:=h',toks:=tk}:=I.turned (λb o hb e=>kk b o (by simpa using hb) e) f0 f1 f3 f4 f5;exact⟨_,rfl,LN (s:={s with heap:=h',toks:=tk}) (n:= "range_iterator") st' rfl rfl (by decide) ⟨.int (lo+i*c),H,I1,⟨t,rfl⟩,⟨rfl,rfl⟩,st',λb hb=>(hf b hb).1⟩⟩
 done:=by intro X hP hw hK hc i pins s σ H E I hf st hg;subst hP hw hK;obtain⟨f0,f1,f2,f3,f4,f5⟩:=hf it (by simp);exact wpAny_pyNext_range_end (I.ok.hd hc) st (by have:n<=i:=hg;lia) λh' eb=>⟨rfl,I.turned (t':=s.toks) (λb o hb e=>eb b o hb e) f0 f1 f3 f4 f5⟩
 self:=λ_ _ _ _ _ st h=>wpAny_pyIter_rangeiter st h
def tN (lo c:Int)(n:Nat):List D:=(aBc n).map λ(k:Nat)=>D.int (lo+(k:Int)*c)
def kK (K:PySem.W.Frag)(H:Hp)(O:Addr->Prop)(lo c:Int)(n:Nat):QD K (WG lo c n) H O (tN lo c n):=by
 intro H2 O2 k hK hO hO2 i;unfold tN;rw[aAK];by_cases hi:i<n
 ·rw[List.getElem?_range hi];refine⟨λd e=>?_,λe=>(by cases e)⟩;cases e;exact⟨hi,λx H' ⟨e1,e2⟩=>by subst e1 e2;exact⟨Same.refl _,.int⟩⟩
 ·rw[aCi.mpr (by simpa using hi)];exact⟨λd e=>(by cases e),λ_=>aEg hi⟩
def fG (a b c:Int):Nat:=if a<b then((b-a-1)/c+1).toNat else 0
def GD (hc:0<c):aCx a b c=(fG a b c:Int):=by
 unfold aCx fG;rw[if_pos (by lia)];split
 ·have:0<=(b-a-1)/c:=Int.ediv_nonneg (by lia) (by lia)
  lia
 ·rfl
def FR (hc:0<c)(jr:c<2^30)(ha:-(2^60)<=a)(ha':a<2^60)(hb:-(2^60)<=b)(km:b<2^60):aFV a b c=true:=by
 unfold aFV;have e:aCx a b c=if a<b then(b-a-1)/c+1 else 0:=by unfold aCx;rw[if_pos (by lia)]
 rw[e];have h1:a<b->(b-a-1)/c<=b-a-1:=λh=>Int.ediv_le_self _ (by lia);have h2:a<b->0<=(b-a-1)/c:=λh=>Int.ediv_nonneg (by lia) (by lia);have h3:a<b->(b-a-1)/c*c<=b-a-1:=λh=>Int.ediv_mul_le _ (by lia);simp only[Builtin.Range.rangeFitsLong,aAL,Bool.or_eq_true,decide_eq_true_eq,beq_iff_eq,show c>0 by lia,if_true];split
 ·rename_i h;have h1:=h1 h;have h2:=h2 h;have h3:=h3 h;generalize(b-a-1)/c=q at*
  lia
 ·lia
def oZ (a b c:Int):Prop:=0<c/\c<2^30/\-(2^60)<=a/\a<2^60/\-(2^60)<=b/\b<2^60
instance(a b c:Int):Decidable (oZ a b c):=inferInstanceAs (Decidable<|_/\_)
def gM:List D->R (List D)
 |[.int b]=>if oZ 0 b 1 then .ok (tN 0 1 (fG 0 b 1))else .bad
 |[.int a,.int b]=>if oZ a b 1 then .ok (tN a 1 (fG a b 1))else .bad
 |[.int a,.int b,.int c]=>if oZ a b c then .ok (tN a c (fG a b c))else .bad
 |_=>.bad
def jA {R:It->Hp->Prop}{E:D2}(I:Inv X pins σ H s)(h:oZ a b c)(q:R (WG a c (fG a b c)) H):wpAny (model X.prog X.w) X.A (pyIter (.ref s.heap.objs.size)) (uq X pins σ tg R) E {s with heap:=s.heap.push {cls:=.type "range",data:=.fields #[.int a t,.int b u,.int c v]},toks:=tk}:=by
 obtain⟨h1,h2,h3,h4,h5,h6⟩:=h;refine wpAny_pyIter_range (IsRange.new ..) (FR h1 h2 h3 h4 h5 h6) ?_;have I1:Inv X pins σ H {s with heap:=s.heap.push {cls:=.type "range",data:=.fields #[.int a t,.int b u,.int c v]},toks:=tk}:=I.kept λb o e=>aAc _ e;refine⟨(s.heap.push {cls:=.type "range",data:=.fields #[.int a t,.int b u,.int c v]}).objs.size,[(s.heap.push {cls:=.type "range",data:=.fields #[.int a t,.int b u,.int c v]}).objs.size],_,_,H,rfl,
  I1.kept (t':=tk) λb o e=>aAc _ e,xZ _ a c (fG a b c),?_,λbb hb=>?_,q⟩
 ·have e1:a+((0:Nat):Int)*c=a:=by simp
  have e2:((fG a b c:Nat):Int)-((0:Nat):Int)=aCx a b c:=by rw[GD h1];simp
  show IsRangeIter _ _ (a+((0:Nat):Int)*c) (((fG a b c:Nat):Int)-((0:Nat):Int)) c;rw[e1,e2];exact aAr _ rfl
 ·have e:bb=(s.heap.push {cls:=.type "range",data:=.fields #[.int a t,.int b u,.int c v]}).objs.size:=by simpa using hb
  subst e;exact I1.af2 (aAj _) (I1.hok.fresh<|aAj _)
def MO {R:It->Hp->Prop}{O:Addr->Prop}(I:Inv X pins σ H s)(r:Paired (x9 X.K H O) vs ds)(ru:l8 vs us)(h:gM ds=.ok bf)(q:∀J,QD X.K J H O bf->R J H):wpAny (model X.prog X.w) X.A (call (.type "range") us) (λv s1=>wpAny (model X.prog X.w) X.A (pyIter v) (uq X pins σ tg R) X.xe s1) X.xe s:=by
 match ds,h with
 |[.int b],h=>
  obtain⟨v,rfl,z⟩:=PJ r;cases z.aa6;obtain⟨u,rfl,t,rfl⟩:=vals1 ru;simp only[gM]at h;split at h
  ·rename_i hk;cases h;exact call_range_1 (jA I hk<|q _<|kK _ _ _ _ _ _)
  ·cases h
 |[.int a,.int b],h=>
  obtain⟨v,v',rfl,z,z'⟩:=yw r;cases z.aa6;cases z'.aa6;obtain⟨u,u',rfl,⟨t,rfl⟩,⟨t',rfl⟩⟩:=vals2 ru;simp only[gM]at h;split at h
  ·rename_i hk;cases h;exact call_range_2 (jA I hk<|q _<|kK _ _ _ _ _ _)
  ·cases h
 |[.int a,.int b,.int c],h=>
  cases r with
  |cons z1 r=>
   obtain⟨v,v',rfl,z,z'⟩:=yw r;cases z1.aa6;cases z.aa6;cases z'.aa6;cases ru with
   |cons w1 ru=>
    obtain⟨u,u',rfl,⟨t,rfl⟩,⟨t',rfl⟩⟩:=vals2 ru;obtain⟨t1,rfl⟩:=w1;simp only[gM]at h;split at h
    ·rename_i hk;cases h;have jg:=hk;obtain⟨h1,h2,_⟩:=jg;exact call_range_3 (by lia) (jA (tk:=s.toks) I hk<|q _<|kK _ _ _ _ _ _) (.inl (PyProof.noPylong_small (by lia)))
    ·cases h
def dQ {tg e:Expr}{es:List Expr}{p:Pos}{f:Ev->R (List D)}(ha:XM X (e::es) f)(hg:Gl X "range":=by rfl)(hm:X.mg "range"=none:=by assumption)
  (he:starEach (e::es) X.env=(false,eval e X.env)::starEach es X.env:=by rfl) (bg:(backTo pos (starEach es X.env)).any (·.1)=false:=by rfl):
  QF X tg (.Call (.Name "range" p) (e::es) [] pos) (λρ=>(f ρ).bind gM):=by
 intro pins s σ H Q I ⟨H9,O0,O,ρ,E,fk,q⟩;dsimp only at q;refine Call_ (Q5 I hg hm boot_range<|aBk (B4 (ha pos pins s σ H (λvs H1=>∃ds bf,Same H H1/\Paired (x9 X.K H1 O) vs ds/\gM ds=.ok bf/\∀J,QD X.K J H1 O bf->Q J H1) I ⟨H9,O0,O,ρ,E,?_⟩) λus s1 ⟨vs,H1,I1,r1,ds,bf,sm,r,h1,h2⟩=>?_) he bg)
 ·cases e1:f ρ with
  |ok ds=>
   rw[e1]at q;intro vs H1 s1 r1;rw[R.aa0]at q;cases e2:gM ds with
   |ok bf=>rw[e2]at q;exact⟨ds,bf,s1,r1,e2,λJ hJ=>q J H1 s1 hJ⟩
   |ex x=>
    rw[e2]at q;match ds,e2 with
    |[.int b],e2=>simp only[gM]at e2;split at e2<;>cases e2
    |[.int a,.int b],e2=>simp only[gM]at e2;split at e2<;>cases e2
    |[.int a,.int b,.int c],e2=>simp only[gM]at e2;split at e2<;>cases e2
   |bad=>rw[e2]at q;exact q.elim
  |ex x=>rw[e1]at q;exact q
  |bad=>rw[e1]at q;exact q
 ·exact MO I1 r r1 h1 h2
def tG (X:Cx)(G:D->Ev->R Ev):TG:=λv σ H Q=>∃H9 O0 O ρ d ag,EnvOk X.K H9 O0 H O σ ρ/\Rep X.K H O v d/\G d ρ=.ok ag/\∀ae H',Same H H'->EnvOk X.K H9 O0 H' O ae ag->Q ae H'
def GI (X:Cx)(tg:Expr)(G:D->Ev->R Ev):Prop:=PG X tg (tG X G)
def WB (h:PG X tg t)(i:∀v σ H Q,t' v σ H Q->t v σ H Q):PG X tg t':=λpins s σ H v u Q I r q=>h pins s σ H v u Q I r (i v σ H Q q)
def o9 (i:Nat)(hN:X.N.Nodup)(hi:X.N[i]?=some x:=by rfl)(hx:Loc X.env.scope x:=by first|exact aCh rfl|exact aBx rfl)(hf:X.fn x=true\/X.env.scope.names.lookup x=some .local:=by first|exact .inl rfl|exact .inr rfl|assumption):
  GI X (.Name x pos) (λd ρ=>.ok (ρ.set i (.v d))):=WB (CH hN hi hx hf) λv σ H Q ⟨H9,O0,O,ρ,d,ag,E,r,e,q⟩=>by
 cases e;exact q _ H (Same.refl _) (E.set i r)
def tGs (X:Cx)(G:List D->Ev->R Ev):XH:=λvs σ H Q=>∃H9 O0 O ρ ds ag,EnvOk X.K H9 O0 H O σ ρ/\Reps X.K H O vs ds/\G ds ρ=.ok ag/\∀ae H',Same H H'->EnvOk X.K H9 O0 H' O ae ag->Q ae H'
def SJ (X:Cx)(tgs:List Expr)(G:List D->Ev->R Ev):Prop:=YF X tgs (tGs X G)
def DG {tg:List Expr}{t t':XH}(h:YF X tg t)(i:∀v σ H Q,t' v σ H Q->t v σ H Q):YF X tg t':=λpins s σ H v u Q I r q=>h pins s σ H v u Q I r (i v σ H Q q)
def pF:List D->Ev->R Ev
 |[],ρ=>.ok ρ
 |_,_=>.bad
def U8 (G:D->Ev->R Ev)(Gs:List D->Ev->R Ev):List D->Ev->R Ev
 |d::ds,ρ=>(G d ρ).bind λag=>Gs ds ag
 |_,_=>.bad
def iG:SJ X [] pF:=DG QP λvs σ H Q ⟨H9,O0,O,ρ,ds,ag,E,r,e,q⟩=>by
 cases r with
 |nil=>cases e;exact⟨rfl,q σ H (Same.refl _) E⟩
 |cons _ _=>cases e
def C9 {e:Expr}{es:List Expr}{G:D->Ev->R Ev}{Gs:List D->Ev->R Ev}(h1:GI X e G)(h2:SJ X es Gs)
  (hs:(assignEach (e::es) X.env).map (·.2)=assign e X.env::(assignEach es X.env).map (·.2):=by rfl):SJ X (e::es) (U8 G Gs):=DG (NB h1 h2 hs) λvs σ H Q ⟨H9,O0,O,ρ,ds,ag,E,r,e,q⟩=>by
 cases r with
 |nil=>cases e
 |@cons v d vs ds r rr=>
  simp only[U8]at e;cases e1:G d ρ with
  |ok ρ1=>rw[e1]at e;exact⟨v,vs,rfl,H9,O0,O,ρ,d,ρ1,E,r,e1,λσ1 H1 s1 E1=>⟨H9,O0,O,ρ1,ds,ag,E1,rr.same s1,e,λqe H2 s2 E2=>q qe H2 (s1.trans s2) E2⟩⟩
  |ex x=>rw[e1]at e;cases e
  |bad=>rw[e1]at e;cases e
def gE (n:Nat)(Gs:List D->Ev->R Ev):D->Ev->R Ev
 |.tup ds,ρ=>if ds.length=n then Gs ds ρ else .bad
 |.lst ds,ρ=>if ds.length=n then Gs ds ρ else .bad
 |_,_=>.bad
end
section
theorem qT (ai:t≠it):∀(n i:Nat) (s:Shared) (Q:List Value->Shared->Prop),s.heap.IsListIter it t i->s.heap.IsList t items->i+n<=items.size->
  (∀h',h'.IsListIter it t (i+n)->Heap.SameBut it s.heap h'->Q ((items.toList.drop i).take n) {s with heap:=h'})->wpAny (model prog w) A (draw (.ref it) n) Q E s
 |0,i,s,Q,hit,_,_,hQ=>by show wpAny _ _ (pure []) Q E s;exact aAb (by simpa using hQ s.heap hit (aEY ..))
 |n+1,i,s,Q,hit,ht,hle,hQ=>by
  have ah:i<items.size:=by omega
  show wpAny _ _ (pyNext (.ref it)>>=_) Q E s;refine aAa (wpAny_pyNext_list_item hit ht (x:=items[i]) (by simp[ah]) λh₁ hit0 gv=>?_);refine aAa (aAP (qT ai n (i+1) _ _ hit0 (ht.extBut gv.extBut ai) (by omega) λib hit1 la=>aAb ?_));have hd:items.toList.drop i=items[i]::items.toList.drop (i+1):=by simp[aCQ,ah]
  have:=hQ ib (by rw[show i+(n+1)=i+1+n by omega];exact hit1) (gv.trans la);rw[hd,aDI]at this;exact this
def jN {Q:List Value->Shared->Prop}(hh:A.handled=none)(ht:s.heap.IsList t items)(hQ:∀h',Heap.ExtBut s.heap.objs.size s.heap h'->Q items.toList {s with heap:=h'}):wpAny (model prog w) A (unpackItems (.ref t) items.size none) Q E s:=by
 have ah:t≠s.heap.objs.size:=by obtain⟨o,ho,_⟩:=ht;exact aAk (aAg ho)
 unfold unpackItems;refine aAa ?_
 ·unfold notIterableAtAll;refine aAa (aBq ht.typeIs slot_list_iter.lookup ?_);refine aAb ?_;simp only[aAn,if_false];refine aAa (aAP<|aDr ht ?_);have ht0:(s.heap.push {cls:=.type "list_iterator",data:=.fields #[.ref t,.int 0 0]}).IsList t items:=by obtain⟨o,ho,r⟩:=ht;exact⟨o,aAc _ ho,r⟩
  refine aAa (aAP (qT ah items.size 0 _ _ ⟨_,aAr _ rfl,rfl,rfl⟩ ht0 (by omega) λh₁ hit0 gv=>?_));have oo:List.take items.size (List.drop 0 items.toList)=items.toList:=by rw[aEQ];exact aCG (by simp)
  rw[oo];rw[if_neg (by simp)];have ht3:h₁.IsList t items:=ht0.extBut gv.extBut ah;refine aAa (aAP (wpAny_pyNext_list_end hh hit0 ht3 (by simp) λib he3=>?_));simp only[Option.isSome_none,aAn,if_false];refine aAb (hQ ib λb o hb e=>he3 b o hb (gv.extBut b o hb<|aAc _ e))
def iH {x1}{Q:Unit->Shared->Prop}(hh:A.handled=none)(ht:s.heap.IsList t items)(hn:(assignEach elts env).length=items.size)(hstar:(assignEach elts env).findIdx? (·.1)=none)(h:∀h',Heap.ExtBut s.heap.objs.size s.heap h'->wpAny (model prog w) A (assignInOrder ((assignEach elts env).map (·.2)) items.toList) Q E {s with heap:=h'}):
  wpAny (model prog w) A (assign (.Tuple elts x1 pos) env (.ref t)) Q E s:=by
 rw[assign_Tuple];refine aAa (aDL ?_);unfold unpack;rw[hn,hstar];exact aAa (aAP<|jN hh ht h)
end
section
def mJ (hc:X.calm=true)(h:SJ X es Gs)(hn:(assignEach es X.env).length=n:=by rfl)(jh:(assignEach es X.env).findIdx? (·.1)=none:=by rfl):GI X (.Tuple es k pos) (gE n Gs):=by
 intro pins s σ H v u Q I r ⟨H9,O0,O,ρ,d,ag,E,rd,e,q⟩;cases rd with
 |@tup a vs ds hq rs=>
  cases r;simp only[gE]at e;split at e
  ·rename_i hl;obtain⟨its,rv,ht,hz⟩:=I.tuple hq;refine assign_Tuple_tuple (I.ok.hd hc) ht (by simp[hn,<-hl,<-rs.length,rv.length]) jh λh' hx=>?_;have I1:Inv X pins σ H {s with heap:=h'}:=I.kept (t':=s.toks) λb o e=>hx b o (aAk<|aAg e) e;exact h pins _ σ H vs _ Q I1 (by simpa using rv) ⟨H9,O0,O,ρ,ds,ag,E,rs,e,q⟩
  ·cases e
 |@lst a vs ds hq _ rs=>
  cases r;simp only[gE]at e;split at e
  ·rename_i hl;obtain⟨its,rv,ht,hz⟩:=I.list hq;refine iH (I.ok.hd hc) ht.isList (by simp[hn,<-hl,<-rs.length,rv.length]) jh λh' hx=>?_;have I1:Inv X pins σ H {s with heap:=h'}:=I.kept (t':=s.toks) λb o e=>hx b o (aAk<|aAg e) e;exact h pins _ σ H vs _ Q I1 (by simpa using rv) ⟨H9,O0,O,ρ,ds,ag,E,rs,e,q⟩
  ·cases e
 |_=>cases e
def JW (f:Ev->R D)(G:D->Ev->R Ev):Ev->R Out:=λρ=>(f ρ).bind λd=>match G d ρ with
 |.ok ag=>.ok (.nx ag)
 |_=>.bad
def CV (he:PD X e f)(hg:GI X tg G)(hs:swapsWithSole [tg] e pos.line X.env=pure false:=by rfl)(hw:swappedStores [tg] e X.env=pure none:=by rfl)(h1:(assignEach [tg] X.env).map (·.2)=[assign tg X.env]:=by rfl):kR X (.Assign [tg] e pos) (JW f G):=λH9 O0=>vS (KW he hg hs hw h1) λD σ H O ρ E fk q=>⟨H9,O0,O,ρ,E,by
 unfold JW at q;cases e1:f ρ with
 |ok d=>
  rw[e1,R.aa0]at q;intro v H' s r;cases e2:G d ρ with
  |ok ag=>rw[e2]at q;exact⟨H9,O0,O,ρ,d,ag,E.grow s,r,e2,λae H2 s2 E2=>q ae H2 O E2 fk (Kp.of<|s.trans s2)⟩
  |ex x=>rw[e2]at q;exact aAi q
  |bad=>rw[e2]at q;exact aAi q
 |ex x=>rw[e1]at q;exactλH' s=>q H' (E.same.trans s)
 |bad=>rw[e1]at q;exact q⟩
def KP (i j:Nat){kt k2 vF}(hc:X.calm=true)(hN:X.N.Nodup)(ha:IF X [a,b] f)(hi:X.N[i]?=some x:=by rfl)(hj:X.N[j]?=some y:=by rfl)(jf:i≠j:=by decide)(hx:X.env.scope.names.lookup x=some .local:=by rfl)(hy:X.env.scope.names.lookup y=some .local:=by rfl)(hw:swappedStores [.Tuple [.Name x px,.Name y py] kt pt] (.Tuple [a,b] k2 vF) X.env=pure (some [x,y]):=by rfl)(hs:swapsWithSole [.Tuple [.Name x px,.Name y py] kt pt] (.Tuple [a,b] k2 vF) pos.line X.env=pure false:=by rfl):
  kR X (.Assign [.Tuple [.Name x px,.Name y py] kt pt] (.Tuple [a,b] k2 vF) pos) (λρ=>(f ρ).bind λds=>match ds with
   |[d,d']=>.ok (.nx ((ρ.set i (.v d)).set j (.v d')))
   |_=>.bad):=λH9 O0=>vS (VS hc hN hi hj jf hx hy ha hw hs) λD σ H O ρ E fk q=>⟨H9,O0,O,ρ,E,by
 cases e1:f ρ with
 |ok ds=>
  rw[e1,R.aa0]at q;intro vs H' s r;cases r with
  |nil=>exact aAi q
  |cons r1 r=>
   cases r with
   |nil=>exact aAi q
   |cons r2 r=>
    cases r with
    |nil=>exact⟨_,_,rfl,q _ H' O (((E.grow s).set i r1).set j r2) fk (Kp.of s)⟩
    |cons _ _=>exact aAi q
 |ex x=>rw[e1]at q;exactλH' s=>q H' (E.same.trans s)
 |bad=>rw[e1]at q;exact q⟩
def G6 (G:D->Ev->R Ev)(F:Ev->R Out):List D->Ev->R Out
 |[],ρ=>.ok (.nx ρ)
 |d::ds,ρ=>match G d ρ with
  |.ok ρ1=>match F ρ1 with
   |.ok (.nx ρ2)=>G6 G F ds ρ2
   |.ok (.ct ρ2)=>G6 G F ds ρ2
   |.ok (.bk ρ2)=>.ok (.nx ρ2)
   |r=>r
  |_=>.bad
def N3 (hp:PassesOwn (model X.prog X.w) X.A X.env X.xe)(hc:X.calm=true)(hi:QF X tg v5 f)(hg:GI X tg G)(hb:bF X body F)(hs:∀x,foldedSetIterable v5 X.env x=pure x:=by intro _;rfl):kR X (.For tg v5 body [] pos) (λρ=>(f ρ).bind λds=>G6 G F ds ρ):=λH9 O0=>vS (OM hp hc hi hg (hb H9 O0) hs) λD σ H O ρ E fk q=>⟨H9,O0,O,ρ,E,fk,by
 cases e1:f ρ with
 |ex x=>rw[e1]at q;exactλH' s=>q H' (E.same.trans s)
 |bad=>rw[e1]at q;exact q
 |ok ds=>
  rw[e1,R.aa0]at q;intro J H1 s1 hJ;refine⟨λi m ae H'=>m=ds.length-i/\i<=ds.length/\∃O' ag,EnvOk X.K H9 O0 H' O' ae ag/\Z2 X.K O'/\Kp H1 O H' O'/\RS X H9 O0 H' O' (G6 G F (ds.drop i) ag) D,⟨ds.length,by simp,aAV _,O,ρ,E.grow s1,fk,Kp.refl _ _,?_⟩,?_⟩
  ·rw[aEQ];exact q.grow (Kp.of s1)
  ·rintro i m ae H' ⟨rfl,hi,O',ag,E',fk',k',q'⟩;have hit:=hJ H' O' k' fk' (E.grow s1).trk E'.trk i;by_cases ah:i<ds.length
   ·obtain⟨go,yl⟩:=hit.1 ds[i] (aAf ah);refine .inr ⟨go,λqe H2=>∃O2 ρ2,EnvOk X.K H9 O0 H2 O2 qe ρ2/\Z2 X.K O2/\Kp H1 O H2 O2/\RS X H9 O0 H2 O2 (G6 G F (ds.drop<|i+1) ρ2) D,λqe H2 p=>⟨ds.length-(i+1),by omega,rfl,ah,p⟩,λx H2 y=>?_⟩;obtain⟨s2,r2⟩:=yl x H2 y;rw[aCQ ah,G6]at q';cases e2:G ds[i] ag with
    |ex x=>rw[e2]at q';exact(show False from q').elim
    |bad=>rw[e2]at q';exact(show False from q').elim
    |ok ρ1=>
     rw[e2]at q';dsimp only at q';refine⟨H9,O0,O',ag,ds[i],ρ1,E'.grow s2,r2,e2,λom H3 s3 E3=>⟨O',ρ1,E3,fk',?_⟩⟩;have kk:Kp H' O' H3 O':=Kp.of (s2.trans s3);cases e3:F ρ1 with
     |ex x=>rw[e3]at q';exact q'
     |bad=>rw[e3]at q';exact q'
     |ok o=>
      rw[e3]at q';cases o with
      |nx ρ2=>exactλσ4 H4 O4 E4 f4 k4=>⟨O4,ρ2,E4,f4,k'.trans (kk.trans k4),RS.grow q' (kk.trans k4)⟩
      |ct ρ2=>exactλσ4 H4 O4 E4 f4 k4=>⟨O4,ρ2,E4,f4,k'.trans (kk.trans k4),RS.grow q' (kk.trans k4)⟩
      |bk ρ2=>exactλσ4 H4 O4 E4 f4 k4=>q' σ4 H4 O4 E4 f4 (kk.trans k4)
      |rt d=>exact q'
   ·have e:i=ds.length:=by omega
    subst e;rw[aFp,G6]at q';exact .inl ⟨hit.2 (by simp),q' ae H' O' E' fk' (Kp.refl _ _)⟩⟩
def L7 (c:Ev->R Bool)(F:Ev->R Out):Nat->Ev->R Out
 |0,_=>.bad
 |n+1,ρ=>(c ρ).bind λb=>if b=true then(match F ρ with
  |.ok (.nx ρ2)=>L7 c F n ρ2
  |.ok (.ct ρ2)=>L7 c F n ρ2
  |.ok (.bk ρ2)=>.ok (.nx ρ2)
  |r=>r)else .ok (.nx ρ)
def cS (n:Ev->Nat)(hp:PassesOwn (model X.prog X.w) X.A X.env X.xe)(hc:vE X c fc)(hb:bF X body F):kR X (.While c body [] pos) (λρ=>L7 fc F (n ρ) ρ):=λH9 O0=>vS (OT hp hc<|hb H9 O0) λD σ H O ρ E fk q=>by
 refine⟨λm ae H'=>∃O' ag,EnvOk X.K H9 O0 H' O' ae ag/\Z2 X.K O'/\RS X H9 O0 H' O' (L7 fc F m ag) D,⟨n ρ,O,ρ,E,fk,q⟩,?_⟩;rintro m ae H' ⟨O',ag,E',fk',q'⟩;cases m with
 |zero=>exact(show False from q').elim
 |succ m=>
  rw[L7]at q';refine⟨H9,O0,O',ag,E',?_⟩;cases e1:fc ag with
  |ex x=>rw[e1]at q';exactλH2 s2=>q' H2 (E'.same.trans s2)
  |bad=>rw[e1]at q';exact q'
  |ok b=>
   rw[e1,R.aa0]at q';intro H2 s2;cases b with
   |false=>rw[if_neg aAH]at q'⊢;exact q' ae H2 O' (E'.grow s2) fk' (Kp.of s2)
   |true=>
    rw[if_pos rfl]at q'⊢;refine⟨λom H3=>∃O3 ρ3,EnvOk X.K H9 O0 H3 O3 om ρ3/\Z2 X.K O3/\RS X H9 O0 H3 O3 (L7 fc F m ρ3) D,λom H3 p=>⟨m,aDF m,p⟩,O',ag,E'.grow s2,fk',?_⟩;have kk:Kp H' O' H2 O':=Kp.of s2;cases e3:F ag with
    |ex x=>rw[e3]at q';exact q'
    |bad=>rw[e3]at q';exact q'
    |ok o=>
     rw[e3]at q';cases o with
     |nx ρ2=>exactλσ4 H4 O4 E4 f4 k4=>⟨O4,ρ2,E4,f4,RS.grow q' (kk.trans k4)⟩
     |ct ρ2=>exactλσ4 H4 O4 E4 f4 k4=>⟨O4,ρ2,E4,f4,RS.grow q' (kk.trans k4)⟩
     |bk ρ2=>exactλσ4 H4 O4 E4 f4 k4=>q' σ4 H4 O4 E4 f4 (kk.trans k4)
     |rt d=>exact q'
end
def YB (K:PySem.W.Frag)(n:Nat)(m:List D->R D):Sp:=λvs H Q _=>∃O ds d,Reps K H O vs ds/\ds.length=n/\(∀a,O a->∃o,H a=some o/\Mt o)/\Tb H/\Z2 K O/\m ds=.ok d/\∀v H',Same H H'->Rep K H' O v d->Q v H'
def j1 (N:List Str)(ds:List D):Ev:=ds.map Sl.v++aCN (N.length-ds.length) Sl.no
def K3:R Out->R D
 |.ok (.rt d)=>.ok d
 |.ok (.nx _)=>.ok .non
 |.ex e=>.ex e
 |_=>.bad
def iW {K:PySem.W.Frag}{H:Hp}{O:Addr->Prop}{N:List Str}{vs:List V}{ds:List D}(r:Reps K H O vs ds)(t:∀a,O a->∃o,H a=some o/\Mt o)(tb:Tb H):EnvOk K H O H O (start N vs) (j1 N ds)where
 len:=by simp[L2.start,j1,r.length]
 same:=Same.refl H
 sub:=λ_ h=>h
 trk:=t
 trk0:=λa h=>let⟨o,q,_⟩:=t a h;⟨o,q⟩
 tab:=tb
 slot:=λi sl h=>by
  unfold j1 at h;unfold L2.start;by_cases hi:i<ds.length
  ·rw[aAN (by simpa using hi),aAK]at h;cases e:ds[i]? with
   |none=>rw[e]at h;cases h
   |some d'=>rw[e]at h;have h':Sl.v d'=sl:=aAl h;subst h';obtain⟨v,h1,h2⟩:=r.get e;exact⟨v,by rw[aAN (by rw[aAh,r.length];exact hi),aAK,h1];rfl,h2⟩
  ·rw[aAx (by simpa using hi),aBn]at h;split at h
   ·cases h;trivial
   ·cases h
 inj:=λi j x y a h _ o=>by
  unfold j1 at h;by_cases hi:i<ds.length
  ·rw[aAN (by simpa using hi),aAK]at h;cases e:ds[i]? with
   |none=>rw[e]at h;cases h
   |some d'=>rw[e]at h;have h':Sl.v d'=x:=aAl h;subst h';exact o.elim
  ·rw[aAx (by simpa using hi),aBn]at h;split at h
   ·cases h;exact o.elim
   ·cases h
section
variable{K:PySem.W.Frag}
abbrev OY (P:Program)(w:World)(K:PySem.W.Frag)(mg:bK)(base:Heap)(N:List Str)(qual:Str)(sc:Scope)(f:Addr)(cdv:Value)(A:Around)(outer:List Env)(s:Shared)(H:Hp)(E:XK):Cx:=(AM rE P w K mg base N qual sc f cdv A outer s H E).nox
def zw {x qual:Str}{st:Stmt}{f:Addr}{fd:FuncData}{N ps:List Str}{k:Nat}{m:List D->R D}{F:Ev->R Out}(F0:Fun K x qual st f fd)(S:FnScope N ps (c5 st))
  (hb:∀(cdv:Value) (A:Around) (outer:List Env) (s:Shared) (H:Hp) (E:XK),Room k (A.deeper (envOfC qual (c5 st) s.heap.objs.size f cdv))->bF (OY P w K mg base N qual (c5 st) f cdv A outer s H E) (o6 st) F)
  (hm:∀ds d,ds.length=ps.length->m ds=.ok d->K3 (F (j1 N ds))=.ok d):FnOk P w K mg base rE (k+1) f fd ps (YB K ps.length m):=by
 refine F0.ok S (λvs H Q E ⟨O,ds,d,r,hl,_⟩=>by rw[r.length];exact hl) (λcdv A outer s H vs Q E hr ⟨O,ds,d,r,hl,ht,tb,fk,e,q⟩=>?_);refine⟨_,hb cdv A outer s H E hr H O,O,_,iW r ht tb,fk,?_⟩;have h:=hm ds d hl e;cases e1:F (j1 N ds)with
 |ok o=>
  rw[e1]at h;cases o with
  |rt d'=>have h':R.ok d'=R.ok d:=h;injection h' with h';subst h';exact q
  |nx ρ=>have h':R.ok D.non=R.ok d:=h;injection h' with h';subst h';exactλae H' O' E' _ _=>q .non H' E'.same .non
  |bk ρ=>cases h
  |ct ρ=>cases h
 |ex x=>rw[e1]at h;cases h
 |bad=>rw[e1]at h;cases h
end
section
def gW (I:Inv X pins σ H s)(O:Addr->Prop)(t:∀a,O a->∃o,H a=some o/\Mt o):Z2 X.K O:=λa o hk z=>by obtain⟨u,h,_⟩:=t a z;have:=(I.bs a o<|I.ok.mod.kin a o hk).2;rw[h]at this;cases this
def PR (F:FnOk X.prog X.w X.K X.mg X.base rE k g gd ps (YB X.K n m))(hr:Room k X.A)(hm:X.mg x=some (.ref g))(hk:PySem.W.keepIn X.K (.ref g)=true)(hb:Binds X.K gd ps [])(ha:IF X (e::es) f)(hl:∀ρ ds,f ρ=.ok ds->ds.length=n)(hg:Gl X x:=by rfl)(gc:(x==("__debug__":Str))=false:=by decide)(he:starEach (e::es) X.env=(false,eval e X.env)::starEach es X.env:=by rfl)(bg:(backTo pos (starEach es X.env)).any (·.1)=false:=by rfl):
  PD X (.Call (.Name x p) (e::es) [] pos) (λρ=>(f ρ).bind m):=by
 refine rK λpins s σ H Q I H9 O0 O ρ E q=>?_;refine EQ F hr hg hm hk hb .nil TY ha gc he bg pins s σ H Q I ⟨H9,O0,O,ρ,E,?_⟩;dsimp only at q;cases e1:f ρ with
 |ex z=>rw[e1]at q;exact q
 |bad=>rw[e1]at q;exact q
 |ok ds=>
  rw[e1,R.aa0]at q;intro vs H1 s1 r1;rw[aBV];have E1:=E.grow s1;cases e2:m ds with
  |ex z=>rw[e2]at q;exact(q H<|Same.refl _).elim
  |bad=>rw[e2]at q;exact q.elim
  |ok d=>rw[e2]at q;refine⟨O,ds,d,r1,hl ρ ds e1,E1.trk,E1.tab,?_,e2,λv H' s2 r2=>q v H' (s1.trans s2) r2⟩;exact gW I O E.trk
end
def ID (env:Env):List (Str×NameKind)->List (Str×Addr)->List (Str×Addr)
 |[],acc=>acc
 |(n,k)::r,acc=>ID env r (if k=.free then(n,(env.cells.lookup n).getD 0)::acc else acc)
def N4 (h:∀y∈scope.names,y.2=.free->∃c,env.cells.lookup y.1=some c):closureFor scope env=pure (ID env scope.names []):=by
 have go:∀(names:List (Str×NameKind)) (acc:List (Str×Addr)),(∀y∈names,y.2=.free->∃c,env.cells.lookup y.1=some c)->
   (forIn names acc λ(x:Str×NameKind) (r:List (Str×Addr))=>(match x with
    |(name,kind)=>if(kind==NameKind.free)=true then(do let a<-cellOf env name;pure (aCp ((name,a)::r)))else pure (aCp r):Sem (ForInStep<|List<|Str×Addr)))=pure (ID env names acc):=by
  intro names;induction names with
  |nil=>intro acc _;rfl
  |cons y r ih=>
   intro acc hy;obtain⟨n,k⟩:=y;rw[aCV];by_cases hk:k=.free
   ·subst hk;obtain⟨c,hc⟩:=hy (n,.free) aAY rfl;have e:cellOf env n=pure c:=by unfold cellOf;rw[hc]
    simp only[beq_self_eq_true,if_true,e,pure_bind];rw[ih _ λz hz=>hy z (aAe _ hz)];simp[ID,hc]
   ·have hb:(k==NameKind.free)=false:=by simpa using hk
    simp only[hb,aAn,if_false,pure_bind];rw[ih _ λz hz=>hy z (aAe _ hz)];simp[ID,hk]
 have e:=go scope.names [] h;show((forIn scope.names ([]:List (Str×Addr)) λ(x:Str×NameKind) (r:List (Str×Addr))=>(match x with
    |(name,kind)=>if(kind==NameKind.free)=true then(do let a<-cellOf env name;pure (aCp ((name,a)::r)))else pure (aCp r):Sem (ForInStep<|List<|Str×Addr)))>>=λs=>pure s)=_
 rw[e];rfl
theorem wF:∀(names:List (Str×NameKind)) (acc:List (Str×Addr)) {x:Str} {c:Addr},(∀y∈names,y.2=.free->∃c,env.cells.lookup y.1=some c)->(∀x c,acc.lookup x=some c->env.cells.lookup x=some c)->
  (ID env names acc).lookup x=some c->env.cells.lookup x=some c
 |[],acc,x,c,_,ha,h=>ha x c h
 |(n,k)::r,acc,x,c,hy,ha,h=>by
  refine wF r _ (λy hm=>hy y (aAe _ hm)) (λx' c' h'=>?_) h;by_cases hk:k=.free
  ·rw[if_pos hk]at h';obtain⟨c0,hc⟩:=hy (n,k) aAY hk;by_cases hx:x'=n
   ·subst hx;rw[aBz]at h';rw[hc]at h';rw[hc];exact h'
   ·rw[aBa,beq_eq_false_iff_ne.mpr hx]at h';exact ha x' c' h'
  ·rw[if_neg hk]at h';exact ha x' c' h'
theorem tU:∀(names:List (Str×NameKind)) (acc:List (Str×Addr)) {x:Str},((x,NameKind.free)∈names\/∃c,acc.lookup x=some c)->∃c,(ID env names acc).lookup x=some c
 |[],acc,x,h=>by
  rcases h with h|h
  ·cases h
  ·exact h
 |(n,k)::r,acc,x,h=>by
  refine tU r _ ?_;rcases h with h|⟨c,h⟩
  ·rcases aAd.mp h with e|h
   ·cases e;right;rw[if_pos rfl,aBz];exact⟨_,rfl⟩
   ·exact .inl h
  ·right;by_cases hk:k=.free
   ·rw[if_pos hk,aBa];cases(x==n)with
    |true=>exact⟨_,rfl⟩
    |false=>exact⟨c,h⟩
   ·rw[if_neg hk];exact⟨c,h⟩
theorem iJ {env:Env}:∀{names:List (Str×NameKind)} {x:Str},
  ((names.map λ(n,k)=>if(k==NameKind.free&&env.scope.kind==.function&&env.kindOf n==some .cell)then(n,aBX)else(n,k)).lookup x=some .cell\/
   (names.map λ(n,k)=>if(k==NameKind.free&&env.scope.kind==.function&&env.kindOf n==some .cell)then(n,aBX)else(n,k)).lookup x=some .free)->(x,NameKind.free)∈names\/names.lookup x=some .cell
 |[],_,h=>by rcases h with h|h<;>cases h
 |(n,k)::r,x,h=>by
  have ih:=@iJ env r x;rw[aAp]at h;dsimp only at h;by_cases hx:x=n
  ·subst hx;by_cases hk:(k==NameKind.free&&env.scope.kind==.function&&env.kindOf x==some .cell)=true
   ·have kf:k=.free:=by rw[aAL,aAL]at hk;simpa using hk.1.1
    subst kf;exact .inl aAY
   ·rw[if_neg hk,aBz]at h;rcases h with h|h
    ·right;rw[aBz];exact h
    ·have:k=.free:=aAl h;subst this;exact .inl aAY
  ·have h':(r.map λ(n,k)=>if(k==NameKind.free&&env.scope.kind==.function&&env.kindOf n==some .cell)then(n,aBX)else(n,k)).lookup x=some .cell\/
     (r.map λ(n,k)=>if(k==NameKind.free&&env.scope.kind==.function&&env.kindOf n==some .cell)then(n,aBX)else(n,k)).lookup x=some .free:=by
    by_cases hk:(k==NameKind.free&&env.scope.kind==.function&&env.kindOf n==some .cell)=true
    ·rw[if_pos hk,aBa,beq_eq_false_iff_ne.mpr hx]at h;exact h
    ·rw[if_neg hk,aBa,beq_eq_false_iff_ne.mpr hx]at h;exact h
   rcases ih h' with h|h
   ·exact .inl (aAe _ h)
   ·right;rw[aBa,beq_eq_false_iff_ne.mpr hx];exact h
theorem oK:∀(names:List (Str×NameKind)) (h:Heap) (acc:List (Str×Addr)) {x:Str} {c:Addr},(cellsFrom h.objs.size names acc).lookup x=some c->acc.lookup x=some c\/((pushCells h names).IsCell c none/\h.objs.size<=c)
 |[],h,acc,x,c,e=>.inl e
 |(n,k)::r,h,acc,x,c,e=>by
  unfold cellsFrom at e;unfold pushCells;split at e
  ·rename_i hk;rw[if_pos hk];rcases oK r (h.push {cls:=.type "cell",data:=.cell none}) ((n,h.objs.size)::acc) (x:=x) (c:=c) (by rw[aBt];exact e)with h1|⟨h1,h2⟩
   ·rw[aBa]at h1;cases hx:(x==n)with
    |true=>rw[hx]at h1;have e':h.objs.size=c:=aAl h1;subst e';exact .inr ⟨⟨_,aEt _ _ _ _ (aAr _ rfl),rfl⟩,aAj _⟩
    |false=>rw[hx]at h1;exact .inl h1
   ·exact .inr ⟨h1,by rw[aBt]at h2;exact aCA h2⟩
  ·rename_i hk;rw[if_neg hk];exact oK r h acc e
theorem jT:∀(names:List (Str×NameKind)) (n:Nat) (acc:List (Str×Addr)) {x:Str} {c:Addr},(cellsFrom n names acc).lookup x=some c->acc.lookup x=some c\/n<=c
 |[],n,acc,x,c,e=>.inl e
 |(m,k)::r,n,acc,x,c,e=>by
  unfold cellsFrom at e;split at e
  ·rcases jT r (n+1) _ e with h1|h1
   ·rw[aBa]at h1;cases hx:(x==m)with
    |true=>rw[hx]at h1;exact .inr (aDZ (aAl h1))
    |false=>rw[hx]at h1;exact .inl h1
   ·exact .inr (aCA h1)
  ·exact jT r n acc e
theorem mZ:∀(names:List (Str×NameKind)) (n:Nat) (acc:List (Str×Addr)) {x:Str} {c:Addr},(x,aBX)∈names->(cellsFrom n names acc).lookup x=some c->n<=c
 |[],n,acc,x,c,hm,e=>nomatch hm
 |(m,k)::r,n,acc,x,c,hm,e=>by
  unfold cellsFrom at e;rcases aAd.mp hm with hm|hm
  ·cases hm;rw[if_pos (show(aBX==aBX)=true from rfl)]at e;rcases jT r (n+1) _ e with h1|h1
   ·rw[aBz]at h1;exact aDZ (aAl h1)
   ·exact aCA h1
  ·split at e
   ·exact aCA (mZ r (n+1) _ hm e)
   ·exact mZ r n acc hm e
theorem nQ:∀(names:List (Str×NameKind)) (n:Nat) (acc:List (Str×Addr)) {x:Str},(x,aBX)∉names->(cellsFrom n names acc).lookup x=acc.lookup x
 |[],n,acc,x,_=>rfl
 |(m,k)::r,n,acc,x,hm=>by
  unfold cellsFrom;split
  ·rename_i hk;rw[nQ r (n+1) _ λz=>hm (aAe _ z),aBa];cases hx:(x==m)with
   |true=>
    have e1:x=m:=by simpa using hx
    have e2:k=.cell:=by simpa using hk
    exact absurd (by rw[e1,e2];exact aAY) hm
   |false=>rfl
  ·exact nQ r n acc λz=>hm (aAe _ z)
theorem jM:∀(names:List (Str×NameKind)) (n:Nat) (acc:List (Str×Addr)),(∀x c,acc.lookup x=some c->c<n)->(∀x y c,acc.lookup x=some c->acc.lookup y=some c->x=y)->
  ∀x y c,(cellsFrom n names acc).lookup x=some c->(cellsFrom n names acc).lookup y=some c->x=y
 |[],n,acc,_,h=>h
 |(m,k)::r,n,acc,hl,h=>by
  unfold cellsFrom;split
  ·refine jM r (n+1) _ (λx c e=>?_) λx y c e1 e2=>?_
   ·rw[aBa]at e;cases hx:(x==m)with
    |true=>rw[hx]at e;rw[<-aAl e];exact aDF _
    |false=>rw[hx]at e;exact aBu (hl x c e)
   ·rw[aBa]at e1 e2;cases hx:(x==m)with
    |true=>
     rw[hx]at e1;cases hy:(y==m)with
     |true=>rw[show x=m by simpa using hx,show y=m by simpa using hy]
     |false=>rw[hy]at e2;rw[<-aAl e1]at e2;exact absurd (hl y _ e2) (aBf _)
    |false=>
     rw[hx]at e1;cases hy:(y==m)with
     |true=>rw[hy]at e2;rw[<-aAl e2]at e1;exact absurd (hl x _ e1) (aBf _)
     |false=>rw[hy]at e2;exact h x y c e1 e2
  ·exact jM r n acc hl h
abbrev aR (X:Cx)(scope:Scope)(C:Addr):List (Str×Addr):=cellsFrom (C+1) scope.names (ID X.env scope.names [])
def HG {E:D2}{Q:Env->Shared->Prop}(hQ:Q (newEnv scope s.heap.objs.size g (cellsFrom (s.heap.objs.size+1) scope.names cl) q none .none (some env) builtinsNs) {s with heap:=pushCells (s.heap.push {cls:=.type "dict",data:=.dict #[]}) scope.names}):
  wpAny M A (newFunctionEnv scope g cl [] q none .none (some env)) Q E s:=by
 simp only[newFunctionEnv,Option.isSome_some,if_true];refine aAa (wpAny_alloc ?_);refine aAa (wpAny_layCells _ (λname kind cells=>by cases hkc:kind==aBX<;>simp[hkc]) _ _ _ _ ?_);rw[show({s with heap:=s.heap.push {cls:=.type "dict",data:=.dict #[]}}:Shared).heap.objs.size=s.heap.objs.size+1 from aBt ..];exact aAa (aAb<|aAb hQ)
def HF {R:Result->Shared->Prop}(I:Nat->Shared->Prop)(turn:∀n s,I n s->wpAny (model prog w) A (pyNext it) (λr aa=>match r with
   |none=>R (.ok .next) aa
   |some v=>wpAny (model prog w) A (letOwnedTupleGo target it v) (λ_ s'0=>wpAny (model prog w) A (assign target env v) (λ_ eh=>
    wpAny (model prog w) A (forIn ifs true λc r=>if r=true then do let ok<-isTrue c env (eval c env);pure (aCp ok)else pure (aCp r)) (λok sa=>
     if ok=true then wpAny (model prog w) A (eval elt env) (λx se=>wpAny (model prog w) A (call (.builtin "list.append") [acc,x]) (λ_ si=>∃m,m<n/\I m si) (λ_ _=>False) se) (λ_ _=>False) sa
     else∃m,m<n/\I m sa) (λ_ _=>False) eh) (λ_ _=>False) s'0) (λ_ _=>False) aa) (λ_ _=>False) s) (n:Nat) (h:I n s):codeAny (model prog w) A (.compLoop (.ListComp elt [⟨target,v5,ifs,0⟩] scope pos) 0 it acc env) R s:=by
 refine codeAny_loop rfl I (λn s hI=>?_) n h;show wpAny _ A ((compTurn (.ListComp elt [⟨target,v5,ifs,0⟩] scope pos) 0 it acc env).onRaise (λx=>do noteFrame x env;theTreesLotGoes x)) _ _ s;refine wpAny_noted ?_;rw[compTurn_list];refine aAa (aDL<|aAa<|aCs (turn n s hI) (λr aa h₁=>?_) λ_ _ h'=>h'.elim);cases r with
 |none=>exact aAb h₁
 |some v=>
  refine aAa (aCs h₁ (λ_ s'0 h'0=>?_) λ_ _ h'=>h'.elim);refine aAa (aCs h'0 (λ_ eh ib=>aAa (aCs ib (λok sa aA=>?_) λ_ _ h'=>h'.elim)) λ_ _ h'=>h'.elim);cases ok with
  |false=>exact aAb ⟨rfl,aA⟩
  |true=>exact aAa (aAa<|aCs aA (λx se hV=>aAa (aCs hV (λ_ si h9=>aAb (aAb ⟨rfl,h9⟩)) λ_ _ h'=>h'.elim)) λ_ _ h'=>h'.elim)
def BS (X:Cx)(pins:M3)(s9:Shared)(H9:Hp)(N':List Str)(scope:Scope)(cl:List (Str×Addr))(C:Addr)(fp:List Addr):Cx where
 prog:=X.prog
 w:=X.w
 K:=X.K
 mg:=X.mg
 base:=X.base
 A:=X.A
 N:=N'
 s9:=s9
 H9:=H9
 env:=compEnvC scope cl C X.env
 outer:=X.stack
 stack:=X.stack
 ex:=fp
 fn:=λx=>scope.names.lookup x==some .cell
 calm:=X.calm
 pn:=X.pn++pins
 xe:=λ_ _=>False
structure CompSc (X:Cx)(scope:Scope)(own fr:List Str)(js:List Nat):Prop where
 kind:scope.kind=.function
 apart:∀y∈scope.names,y.2=.free->(y.1,aBX)∉scope.names
 names:∀y∈scope.names,y.2=.local->scope.names.lookup y.1=some .local
 free:∀y∈scope.names,y.2=.free->X.env.kindOf y.1=some .cell\/X.env.kindOf y.1=some .free
 len:js.length=fr.length
 at_:∀(i j:Nat) (x:Str),js[i]?=some j->fr[i]?=some x->X.N[j]?=some x/\(x,NameKind.free)∈scope.names
 nd:js.Nodup
 dis:∀y∈scope.names,y.2=.free->scope.names.lookup y.1=some .free
def seen:Sl->Sl
 |.v d=>.v d
 |_=>.no
def f6 (own:List Str)(js:List Nat)(ρ:Ev):Ev:=aCN own.length Sl.no++js.map λj=>seen (ρ.getD j Sl.no)
def W0 (own:List Str)(js:List Nat)(σ:St):St:=aCN own.length none++js.map λj=>σ.getD j none
def Inv.aa7 (I:L2.Inv X pins σ H s)(S:CompSc X scope own fr js):∀y∈scope.names,y.2=.free->∃c,X.env.cells.lookup y.1=some c:=
 λy hy hf=>I.ok.has y.1 (S.free y hy hf)
def bE (h:(f6 own js ρ)[i]?=some sl):sl=.no\/∃d j,sl=.v d/\own.length<=i/\js[i-own.length]?=some j/\ρ[j]?=some (.v d):=by
 unfold f6 at h;by_cases hi:i<own.length
 ·rw[aAN (by simpa using hi),aBn,if_pos hi]at h;cases h;exact .inl rfl
 ·have dn:own.length<=i:=aEg hi;rw[aAx (by simpa using dn),aCm,aAK]at h;cases e:js[i-own.length]? with
  |none=>rw[e]at h;cases h
  |some j=>
   rw[e]at h;have h':seen (ρ.getD j Sl.no)=sl:=aAl h;rw[aAq]at h';cases e2:ρ[j]? with
   |none=>rw[e2]at h';subst h';exact .inl rfl
   |some z=>
    rw[e2]at h';cases z with
    |v d=>subst h';exact .inr ⟨d,j,rfl,dn,rfl,e2⟩
    |_=>subst h';exact .inl rfl
def GC {K:PySem.W.Frag}{H9 H:Hp}{O0 O:Addr->Prop}{σ:St}{ρ:Ev}{own:List Str}{js:List Nat}(E:EnvOk K H9 O0 H O σ ρ):EnvOk K H9 O0 H O (W0 own js σ) (f6 own js ρ):=by
 refine⟨by simp[W0,f6],E.same,E.sub,E.trk,E.trk0,E.tab,λi sl h=>?_,λi j x y a h1 h2 o=>?_⟩
 ·rcases bE h with rfl|⟨d,j,rfl,dn,e,h1⟩
  ·trivial
  ·obtain⟨v,h3,h4⟩:=E.val j d h1;refine⟨v,?_,h4⟩;unfold W0;rw[aAx (by simpa using dn),aCm,aAK,e];show some (σ.getD j none)=some (some v);rw[aAq,h3];rfl
 ·rcases bE h1 with rfl|⟨d,j,rfl,_⟩
  ·exact o.elim
  ·exact o.elim
def HJ (I:L2.Inv X pins σ H s)(S:CompSc X scope own fr js)(vg:∀b∈fp,pR X pins H b)(ah:∀b∈fp,b<s.heap.objs.size)(e8:h₁=pushCells (s.heap.push {cls:=.type "dict",data:=.dict #[]}) scope.names):
  L2.Inv (BS X pins s H (own++fr) scope (aR X scope s.heap.objs.size) s.heap.objs.size fp) [] (W0 own js σ) H {s with heap:=h₁,toks:=tk}:=by
 have hcells:=Inv.aa7 I S;have keep:∀b o,s.heap.get? b=some o->h₁.get? b=some o:=λb o e=>by rw[e8];exact aEt _ _ _ _ (aAc _ e)
 have yb:h₁.Ns s.heap.objs.size (λ_=>none):=by rw[e8];exact(Heap.Ns.new s.heap<|.type "dict").keeps (aEt _ _)
 have cc:∀x c,(aR X scope s.heap.objs.size).lookup x=some c->(ID X.env scope.names []).lookup x=some c\/(h₁.IsCell c none/\s.heap.objs.size+1<=c):=λx c h=>by have:=oK scope.names (s.heap.push {cls:=.type "dict",data:=.dict #[]}) (ID X.env scope.names []) (x:=x) (c:=c) (by rw[aBt];exact h);rw[aBt,<-e8]at this;exact this
 have cv:∀x c,(ID X.env scope.names []).lookup x=some c->X.env.cells.lookup x=some c:=λx c h=>wF scope.names [] hcells (λ_ _ z=>(by cases z)) h;have base_lt:∀b o,X.base.get? b=some o->b∉fp:=λb o e hb=>by
  rcases(vg b hb).2.2.2.1 with z|z
  ·exact I.ok.noex b o e z
  ·exact absurd (aAt (aAg e)<|aAu I.ok.bsz z) (aBf _)
 have nfs:∀b∈fp,b∉vU X.stack:=λb hb z=>by
  rcases aAd.mp (I.ab2 b z)with e|z
  ·exact(vg b hb).2.1 e
  ·exact(vg b hb).2.2.1 z
 have old_lt:∀x c,X.env.cells.lookup x=some c->c<s.heap.objs.size+1:=λx c h=>by obtain⟨v,o,ho,_⟩:=I.cell x c h;exact aBu (aAg ho)
 have has:∀x,((relabel scope X.env).names.lookup x=some .cell\/(relabel scope X.env).names.lookup x=some .free)->∃c,(aR X scope s.heap.objs.size).lookup x=some c:=λx hx=>by
  have:((aR X scope s.heap.objs.size).lookup x).isSome=true:=PySem.W.cellsFrom_some _ _ _ (by
   rcases iJ hx with h|h
   ·obtain⟨c,hc⟩:=tU (env:=X.env) scope.names [] (x:=x) (.inl h);exact .inr (by rw[hc];rfl)
   ·exact .inl h)
  exact aEX.mp this
 refine⟨⟨I.ok.mod,S.kind,I.ok.glob,I.ok.blt,aAj _,jM scope.names _ _ (λx c h=>old_lt x c (cv x c h)) (λx y c h1 h2=>I.ok.inj x y c (cv x c h1) (cv y c h2)),has,λx c hf h=>aCA (mZ scope.names _ _ (PySem.mem_of_lookup<|eq_of_beq hf) h),I.ok.hd,I.ok.frames,.inl rfl,
  λb hb=>⟨aAk (ah b hb),λx c h=>(cc x c h).elim (λh=>(vg b hb).2.2.2.2.1 x c (cv x c h)) λ⟨_,h2⟩ z=>absurd (aAt (ah b hb)<|aCA h2) (by rw[z];exact aBf _)⟩,I.bs,aAu I.ok.bsz I.sz,λb o e=>base_lt b o e,nfs,I.stack,I.ad5⟩,rfl,I.bare,Un.kept keep,⟨_,yb,λi x v e1 e2 e3=>?_⟩,λx c h=>?_,I.hok.fresh (aAj _),λx c h=>(cc x c h).elim (λh=>I.freeC x c (cv x c h)) λ⟨_,h2⟩=>I.hok.fresh (aCA h2),λp hp=>?_,I.hok.kept keep,?_⟩
 ·
  have hlen:(own++fr).length=(W0 own js σ).length:=by simp[W0,S.len]
  unfold W0 at e2;by_cases hi:i<own.length
  ·rw[aAN (by simpa using hi),aBn,if_pos hi]at e2;cases e2
  ·have dn:own.length<=i:=aEg hi;rw[aAx (by simpa using dn),aCm,aAK]at e2;have e1':(own++fr)[i]?=some x:=e1;rw[aAx dn]at e1';cases e:js[i-own.length]? with
   |none=>rw[e]at e2;cases e2
   |some j=>
    rw[e]at e2;have e2':σ.getD j none=some v:=aAl e2;obtain⟨hN,jo⟩:=S.at_ (i-own.length) j x e e1';have hσ:σ[j]?=some (some v):=by
     rw[aAq]at e2';cases e4:σ[j]? with
     |none=>rw[e4]at e2';cases e2'
     |some z=>rw[e4]at e2';exact congrArg some e2'
    have hk:=S.free (x,.free) jo rfl;have hvis:vJ X.env.scope x:=.inr hk;obtain⟨m,hn,hl⟩:=I.loc;obtain⟨u,r,lk⟩:=hl j x v hN hσ hvis;refine⟨u,r,?_⟩;rcases lk with⟨jg,_⟩|⟨_,c,hc,df⟩
    ·rcases hk with hk|hk<;>(rw[jg]at hk;cases hk)
    ·right;obtain⟨c',hc'⟩:=tU (env:=X.env) scope.names [] (x:=x) (.inl jo);have:=cv x c' hc';rw[hc]at this;cases this;refine⟨?_,c,(nQ scope.names _ _<|S.apart (x,.free) jo rfl).trans hc',?_⟩
     ·rcases e3 with e3|e3|e3
      ·
       have hq:(relabel scope X.env).names.lookup x=some .local:=e3;exfalso;have:∀names:List (Str×NameKind),(names.map λ(n,k)=>if(k==NameKind.free&&X.env.scope.kind==.function&&X.env.kindOf n==some .cell)then(n,aBX)else(n,k)).lookup x=some .local->names.lookup x=some .local:=by
        intro names;induction names with
        |nil=>intro h;cases h
        |cons y r ih=>
         obtain⟨n,k⟩:=y;intro h;rw[aAp]at h;dsimp only at h;by_cases hx:x=n
         ·subst hx;by_cases hkk:(k==NameKind.free&&X.env.scope.kind==.function&&X.env.kindOf x==some .cell)=true
          ·rw[if_pos hkk,aBz]at h;cases h
          ·rw[if_neg hkk,aBz]at h;rw[aBz];exact h
         ·rw[aBa,beq_eq_false_iff_ne.mpr hx];by_cases hkk:(k==NameKind.free&&X.env.scope.kind==.function&&X.env.kindOf n==some .cell)=true
          ·rw[if_pos hkk,aBa,beq_eq_false_iff_ne.mpr hx]at h;exact ih h
          ·rw[if_neg hkk,aBa,beq_eq_false_iff_ne.mpr hx]at h;exact ih h
       have h2:=this scope.names hq;rw[S.dis (x,.free) jo rfl]at h2;cases h2
      ·exact .inl e3
      ·exact .inr e3
     ·obtain⟨o,ho,hd⟩:=df;exact⟨o,keep c o ho,hd⟩
 ·rcases cc x c h with h|⟨h,_⟩
  ·obtain⟨v,o,ho,hd⟩:=I.cell x c (cv x c h);exact⟨v,o,keep c o ho,hd⟩
  ·exact⟨_,h⟩
 ·have zu:p∈X.pn++pins:=by simpa[BS]using hp
  obtain⟨e,n,ne,nf,d⟩:=I.pin p zu;refine⟨keep _ _ e,n,aAk (aAg e),λz=>?_,d⟩;rcases aAd.mp (I.ab2 p.1 z)with e'|z'
  ·exact ne e'
  ·exact nf z'
 ·simp[W0,BS,S.len]
def n6 (G:D->Ev->R Ev)(ft:Ev->R Bool)(fe:Ev->R D)(ρ:Ev):List D->R (List D)
 |[]=>.ok []
 |d::ds=>match G d ρ with
  |.ok ρ1=>(ft ρ1).bind λb=>if b=true then(fe ρ1).bind λr=>(n6 G ft fe ρ ds).bind λrs=>.ok (r::rs)else n6 G ft fe ρ ds
  |_=>.bad
def lV (ρ1 ρ:Ev):Prop:=ρ1.length=ρ.length/\∀(i:Nat) (sl:Sl),ρ[i]?=some sl->sl≠.no->ρ1[i]?=some sl
def EnvOk.weak {K:PySem.W.Frag}{H9 H:Hp}{O0 O:Addr->Prop}{σ:St}{ρ1 ρ:Ev}(E:EnvOk K H9 O0 H O σ ρ1)(h:lV ρ1 ρ):EnvOk K H9 O0 H O σ ρ where
 len:=E.len.trans h.1
 same:=E.same
 sub:=E.sub
 trk:=E.trk
 trk0:=E.trk0
 tab:=E.tab
 slot:=λi sl e=>by
  by_cases n:sl=.no
  ·subst n;trivial
  ·exact E.slot i sl (h.2 i _ e n)
 inj:=λi j x y a h1 h2 o1 o2=>E.inj i j x y a (h.2 i _ h1 (by rintro rfl;exact o1)) (h.2 j _ h2 (by rintro rfl;exact o2)) o1 o2
def Q8 (H:Hp)(a:Addr):Hp:=λb=>if b=a then none else H b
def zV (H:Hp)(a:Addr):Q8 H a a=none:=if_pos rfl
def V4 (h:b≠a):Q8 H a b=H b:=if_neg h
def GV (h:H a=some o):upd (Q8 H a) a o=H:=by
 funext b
 unfold upd Q8;by_cases hb:b=a
 ·subst hb;rw[if_pos rfl,h]
 ·rw[if_neg hb,if_neg hb]
def EnvOk.ad7 {K:PySem.W.Frag}{H9 H:Hp}{O0 O:Addr->Prop}{σ:St}{ρ:Ev}{a:Addr}{vs:List V}(E:EnvOk K H9 O0 H O σ ρ)(h:H a=none)(hk:K.lookup a=none):EnvOk K H9 O0 (upd H a (.lst vs)) (λb=>O b\/b=a) σ ρ:=E.ab6 h hk trivial
def Rep.hidden {K:PySem.W.Frag}{H:Hp}{O:Addr->Prop}{a:Addr}{vs:List V}{v:V}{d:D}(h:H a=some (.lst vs))(r:Rep K H (λb=>O b\/b=a) v d):Rep K (Q8 H a) O v d:=by
 refine r.mono (λb xs q=>?_) (λb xs n q=>⟨λz=>n (.inl z),?_⟩) λb φ n q=>⟨λz=>n (.inl z),by rw[V4 λz=>n (.inr z)];exact q⟩
 ·rcases q with(q|⟨o,q⟩)|q
  ·exact .inl (.inl (by rw[V4 (by rintro rfl;rw[h]at q;cases q)];exact q))
  ·exact .inl (.inr ⟨o,by rw[V4 (by rintro rfl;rw[h]at q;cases q)];exact q⟩)
  ·exact .inr q
 ·have hb:b≠a:=λz=>n (.inr z);rcases q with(q|⟨o,q⟩)|q
  ·exact .inl (.inl (by rw[V4 hb];exact q))
  ·exact .inl (.inr ⟨o,by rw[V4 hb];exact q⟩)
  ·exact .inr q
def V1 (h:H a=none)(s:Same (upd H a (.lst vs)) H'):Same H (Q8 H' a):=λb o q=>by
 have hb:b≠a:=by rintro rfl;rw[h]at q;cases q
 rw[V4 hb];exact s b o (by rw[j5 hb];exact q)
section
def PK (X:Cx)(ifs:List Expr)(ft:Ev->R Bool):Prop:=
 ∀(pins:M3) (s:Shared) (σ:St) (H:Hp) (Q:Bool->Hp->Prop),Inv X pins σ H s->rj X ft σ H Q->
  wpAny (model X.prog X.w) X.A (forIn ifs true λc r=>if r=true then do let ok<-isTrue c X.env (eval c X.env);pure (aCp ok)else pure (aCp r)) (TP X pins σ Q) X.xe s
def ED:PK X [] (λ_=>.ok true):=λpins s σ H Q I ⟨H9,O0,O,ρ,E,q⟩=>wpAny_tests_nil ⟨H,I,q H (Same.refl _)⟩
def PU (h:vE X c ft):PK X [c] ft:=λpins s σ H Q I q=>wpAny_tests_one (h pins s σ H Q I q)
def iR {tg elt v5:Expr}{ifs:List Expr}{scope:Scope}{own fr:List Str}{js:List Nat}{G:D->Ev->R Ev}{ft:Ev->R Bool}{fe:Ev->R D}{pins:M3}{σ:St}{H:Hp}{s:Shared}{H9:Hp}{O0 O:Addr->Prop}{ρ:Ev}
  {it:Addr} {fp:List Addr} {tn:Nat->Heap->Prop} {J:It} {ds rs:List D} {RR:Value->Addr->Result->Shared->Prop} {EE:D2} (hc:X.calm=true) (S:CompSc X scope own fr js)
  (hX:∀X':Cx,(∃s9 Ha C,X'=BS X pins s9 Ha (own++fr) scope (aR X scope C) C fp)->GI X' tg G/\PK X' ifs ft/\PD X' elt fe)
  (hG:∀d ρ1,G d (f6 own js ρ)=.ok ρ1->lV ρ1 (f6 own js ρ))
  (I:Inv X pins σ H s) (T:Turn X.prog X.w X.K tg J fp it tn) (st:tn 0 s.heap) (vg:∀b∈fp,pR X pins H b) (E:EnvOk X.K H9 O0 H O σ ρ) (hJ:QD X.K J H O ds) (yc:n6 G ft fe (f6 own js ρ) ds=.ok rs) (hlen:ds.length<=sizeLine)
  (fin:∀acc C s' H' m,s'.heap.Ns C m->C≠acc->s.heap.objs.size<=C->s.heap.objs.size<=acc->Same H H'->Rep X.K H' O (.ref acc) (.lst rs)->(∃H1 vs,Same H H1/\H1 acc=none/\H'=upd H1 acc (.lst vs)/\Reps X.K H1 O vs rs)->H' C=none->(∀h',Heap.SameBut C s'.heap h'->Inv X pins σ H' {s' with heap:=h'})->RR (.ref acc) C (.ok .next) s'):
  wpAny (model X.prog X.w) X.A (newList []) (λacc sa=>wpAny (model X.prog X.w) X.A (newFunctionEnv scope X.env.globals (ID X.env scope.names []) [] X.env.qual none .none (some X.env)) (λcenv se=>codeAny (model X.prog X.w) X.A (.compStart (.ListComp elt [⟨tg,v5,ifs,0⟩] scope pos) 0 (.ref it) acc {cenv with scope:=relabel scope X.env}) (RR acc cenv.locals) se) EE sa) EE s:=by
 have hO:=gW I O E.trk;refine aBs ?_;have hfr:H s.heap.objs.size=none:=I.hok.fresh (aAj _);have hkl:X.K.lookup s.heap.objs.size=none:=by
  cases e:X.K.lookup s.heap.objs.size with
  |none=>rfl
  |some o=>exact absurd (aAg<|I.kIn _ o e) (aBf _)
 have I1:Inv X pins σ (upd H s.heap.objs.size<|.lst []) {s with heap:=s.heap.push {cls:=.type "list",dict:=none,data:=.seq ([]:List Value).toArray}}:=
  I.laid (t':=s.toks) (λb u e=>aAc _ e) (aAj _) ⟨aAV _,[],0,.nil,aAr _ rfl⟩
 generalize dc:s.heap.objs.size=acc at*
 generalize yd:({s with heap:=s.heap.push {cls:=.type "list",dict:=none,data:=.seq ([]:List Value).toArray}}:Shared)=s1 at I1⊢;have sz1:s1.heap.objs.size=acc+1:=by rw[<-yd,<-dc];exact aBt _ _
 have keep1:∀b o,s.heap.get? b=some o->s1.heap.get? b=some o:=λb o e=>by rw[<-yd];exact aAc _ e
 have vh:∀b∈fp,b<acc:=λb hb=>by obtain⟨o,e,_⟩:=T.obj 0 _ st b hb;rw[<-dc];exact aAg e
 have hfp1:∀b∈fp,pR X pins (upd H acc<|.lst []) b:=λb hb=>by obtain⟨f0,f⟩:=vg b hb;exact⟨by rw[j5 (aAk<|vh b hb)];exact f0,f⟩
 refine HG ?_;obtain⟨h₁,e8⟩:∃h₁,pushCells (s1.heap.push {cls:=.type "dict",data:=.dict #[]}) scope.names=h₁:=⟨_,rfl⟩;rw[e8];have keep2:∀b o,s1.heap.get? b=some o->h₁.get? b=some o:=λb o e=>by rw[<-e8];exact aEt _ _ _ _ (aAc _ e)
 have IB:=HJ (tk:=s1.toks) I1 S hfp1 (λb hb=>by rw[sz1];exact aBu (vh b hb)) e8.symm;generalize hC:s1.heap.objs.size=C at*
 obtain⟨hG',hT',hE'⟩:=hX _ ⟨s1,upd H acc (.lst []),C,rfl⟩;generalize uh:BS X pins s1 (upd H acc<|.lst []) (own++fr) scope (aR X scope C) C fp=X' at IB hG' hT' hE';have eP:X'.prog=X.prog:=by rw[<-uh];rfl
 have eW:X'.w=X.w:=by rw[<-uh];rfl
 have eK:X'.K=X.K:=by rw[<-uh];rfl
 have eA:X'.A=X.A:=by rw[<-uh];rfl
 have eC:X'.calm=true:=by rw[<-uh];exact hc
 have eX:X'.xe=λ_ _=>False:=by rw[<-uh];rfl
 have eE:X'.env=compEnvC scope (aR X scope C) C X.env:=by rw[<-uh];rfl
 have eX0:X'.ex=fp:=by rw[<-uh];rfl
 have ePn:X'.pn=X.pn++pins:=by rw[<-uh];rfl
 have eFs:X'.fs=vU X.stack:=by rw[<-uh];rfl
 have eS0:X'.s9=s1:=by rw[<-uh];rfl
 have eH0:X'.H9=upd H acc (.lst []):=by rw[<-uh];rfl
 have eL:X'.env.locals=C:=by rw[eE];rfl
 have eCe:X'.env.cells=aR X scope C:=by rw[eE];rfl
 have I2of:=IB;have cell_ne:∀b∈fp,∀x c,X'.env.cells.lookup x=some c->c≠b:=λb hb x c h=>(I2of.ok.exf b (by rw[eX0];exact hb)).2 x c h;have accC:acc≠C:=by rw[sz1];exact aAk (aDF _)
 have fpC:∀b∈fp,b≠C:=λb hb=>by have h1:=vh b hb;rw[sz1];exact aAk (aBu h1)
 have fpB:∀{H':Hp},(∀b∈fp,H' b=none)->∀b∈fp,pR X' [] H' b:=λ{H'} hn b hb=>by
  obtain⟨f0,f1,f2,f3,f4,f5⟩:=vg b hb;refine⟨hn b hb,by rw[eL];exact fpC b hb,?_,.inl (by rw[eX0];exact hb),λx c h=>cell_ne b hb x c h,λp hp=>f5 p (by rw[ePn,aBV]at hp;exact hp)⟩;rw[eFs];intro z;rcases aAd.mp (I.ab2 b z)with e|z
  ·exact f1 e
  ·exact f2 z
 have UH:tn 0 h₁:=T.keep 0 s.heap h₁ st λb hb o e=>keep2 b o (keep1 b o e)
 let Iv:Nat->Shared->Prop:=λn s'=>∃i ae Hx vs rd,n=ds.length-i/\i<=ds.length/\Inv X' [] ae (upd Hx acc<|.lst vs) s'/\Hx acc=none/\tn i s'.heap/\(∀b∈fp,Hx b=none)/\EnvOk X.K H9 O0 Hx O ae (f6 own js ρ)/\Same H Hx/\
  Reps X.K Hx O vs rd/\(∃rest,n6 G ft fe (f6 own js ρ) (ds.drop i)=.ok rest/\rs=rd++rest)/\vs.length<=i
 have loop:codeAny (model X.prog X.w) X.A (.compLoop (.ListComp elt [⟨tg,v5,ifs,0⟩] scope pos) 0 (.ref it) (.ref acc) (compEnvC scope (aR X scope C) C X.env)) (RR (.ref acc) C) {s1 with heap:=h₁}:=by
  refine HF Iv ?_ ds.length ⟨0,_,H,[],[],by simp,aAV _,IB,hfr,UH,λb hb=>(vg b hb).1,GC E,Same.refl H,.nil,⟨rs,by rw[aEQ];exact yc,rfl⟩,aAV _⟩;rintro n s2 ⟨i,qe,Hx,vs,rd,rfl,hi,I2,xi,jm,fx2,E2,ye,r2,⟨rest,af,vm⟩,hvl⟩;have fr2:∀b∈fp,(upd Hx acc<|.lst vs) b=none:=λb hb=>by rw[j5 (aAk<|vh b hb)];exact fx2 b hb
  have sU:=j3 xi (.lst vs);have hit:=hJ (upd Hx acc<|.lst vs) (λb=>O b\/b=acc) (λb o q n=>⟨sU b o (ye b o q),λz=>z.elim n λz=>by subst z;rw[hfr]at q;cases q⟩) (λa o q z=>z.elim (hO a o q) λz=>by subst z;rw[hkl]at q;cases q) E.trk
   (λa z=>(E2.ad7 (vs:=vs) xi hkl).trk a z) i
  by_cases ah:i<ds.length
  ·obtain⟨go,yl⟩:=hit.1 ds[i] (aAf ah);rw[aCQ ah,n6]at af;have nc:=T.item X' eP eW eK eC i [] s2 qe _ (λ_ _=>False) I2 (fpB fr2) jm go;rw[eA]at nc;refine B4 nc λr s3 ⟨u,hr,h3⟩=>?_;subst hr;refine B4 h3 λ_ s4 ⟨x,H4,I4,ru,y4,st4,fr4⟩=>?_;obtain⟨sm4,rep4⟩:=yl x H4 y4;cases e1:G ds[i] (f6 own js ρ)with
   |ex z=>rw[e1]at af;cases af
   |bad=>rw[e1]at af;cases af
   |ok ρ1=>
    rw[e1]at af;dsimp only at af;have EB:EnvOk X.K H9 O0 H4 (λb=>O b\/b=acc) qe (f6 own js ρ):=(E2.ad7 xi hkl).grow sm4;have I4':=I4.pinned (fpB fr4) (T.obj _ _ st4);have again:∀{s7:Shared} {oa:St} {H7:Hp} {vs7:List V} {rd7:List D} {rest7:List D},Inv X' ([]++nS fp s4.heap) oa H7 s7->H7 acc=some (.lst vs7)->EnvOk X.K H9 O0 (Q8 H7 acc) O oa (f6 own js ρ)->Same H (Q8 H7 acc)->Reps X.K (Q8 H7 acc) O vs7 rd7->
      n6 G ft fe (f6 own js ρ) (ds.drop<|i+1)=.ok rest7->rs=rd7++rest7->vs7.length<=i+1->∃m,m<ds.length-i/\Iv m s7:=λ{s7 oa H7 vs7 rd7 rest7} I7 h7 E7 sm7 r7 hr7 hrs7 hv7=>by
     refine⟨ds.length-(i+1),by omega,i+1,oa,Q8 H7 acc,vs7,rd7,rfl,ah,?_,zV _ _,T.keep _ _ _ st4 λb hb o e=>(I7.pin (b,o)<|aAC _<|aAC _<|aQ hb e).1,λb hb=>?_,E7,sm7,r7,⟨rest7,hr7,hrs7⟩,hv7⟩
     ·rw[GV h7];exact I7.ab1
     ·rw[V4 (aAk<|vh b hb)];obtain⟨o,e,d⟩:=T.obj _ _ st4 b hb;exact(I7.pin (b,o)<|aAC _<|aAC _<|aQ hb e).2.1
    have hasg:=hG' _ s4 qe H4 x u (λσ5 H5=>Same H4 H5/\EnvOk X.K H9 O0 H5 (λb=>O b\/b=acc) σ5 ρ1) I4' ru ⟨H9,O0,_,_,ds[i],ρ1,by rw[eK];exact EB,by rw[eK];exact rep4,e1,λσ5 H5 s5 E5=>⟨s5,by rw[eK]at E5;exact E5⟩⟩;rw[eP,eW,eA,eE,eX]at hasg;refine B4 hasg λ_ s5 ⟨σ5,H5,I5,sm5,E5⟩=>?_;have zv:H5 acc=some (.lst vs):=sm5 acc _ (sm4 acc _ i9);cases e2:ft ρ1 with
    |ex z=>rw[e2]at af;cases af
    |bad=>rw[e2]at af;cases af
    |ok b=>
     rw[e2,R.aa0]at af;have htst:=hT' _ s5 σ5 H5 (λc H6=>c=b/\Same H5 H6) I5 ⟨H9,O0,_,ρ1,by rw[eK];exact E5,by rw[e2];exactλH6 s6=>⟨rfl,s6⟩⟩;rw[eP,eW,eA,eE,eX]at htst;refine B4 htst λok s6 ⟨H6,I6,hb,sm6⟩=>?_;subst hb;have sm46:Same (upd Hx acc<|.lst vs) H6:=sm4.trans (sm5.trans sm6);have hacc6:H6 acc=some (.lst vs):=sm6 acc _ zv;have smx6:Same Hx (Q8 H6 acc):=V1 xi sm46;have W1:lV ρ1 (f6 own js ρ):=hG _ _ e1;have Eb:∀{H7:Hp},Same H5 H7->EnvOk X.K H9 O0 (Q8 H7 acc) O σ5 (f6 own js ρ):=λ{H7} s7=>by
      have E7:=(E5.grow s7).weak W1;have h7:H7 acc=some (.lst vs):=s7 acc _ zv;refine⟨E7.len,E2.same.trans (V1 xi<|sm4.trans<|sm5.trans s7),E2.sub,λa z=>?_,E2.trk0,E2.tab.same (V1 xi<|sm4.trans<|sm5.trans s7),λj sl e=>?_,E7.inj⟩
      ·obtain⟨o,q,mt⟩:=E2.trk a z;exact⟨o,V1 xi (sm4.trans<|sm5.trans s7) a o q,mt⟩
      ·rcases bE e with rfl|⟨d,_,rfl,_⟩
       ·trivial
       ·obtain⟨v,h1,h2⟩:=E7.val j d e;exact⟨v,h1,Rep.hidden h7 h2⟩
     cases ok with
     |false=>rw[if_neg aAH]at af⊢;exact again I6 hacc6 (Eb sm6) (ye.trans smx6) (r2.same smx6) af vm (Nat.le_succ_of_le hvl)
     |true=>
      rw[if_pos rfl]at af⊢;cases e3:fe ρ1 with
      |ex z=>rw[e3]at af;cases af
      |bad=>rw[e3]at af;cases af
      |ok dv=>
       rw[e3,R.aa0]at af;cases e4:n6 G ft fe (f6 own js ρ) (ds.drop<|i+1)with
       |ex z=>rw[e4]at af;cases af
       |bad=>rw[e4]at af;cases af
       |ok rest'=>
        rw[e4,R.aa0]at af;have ou:dv::rest'=rest:=R.ok.inj af;have helt:=hE' _ s6 σ5 H6 (λv H7=>Same H6 H7/\Rep X.K H7 (λb=>O b\/b=acc) v dv) I6 ⟨H9,O0,_,ρ1,by rw[eK];exact E5.grow sm6,by rw[e3,RC];exactλv H7 s7 r7=>⟨s7,by rw[eK]at r7;exact r7⟩⟩;rw[eP,eW,eA,eE,eX]at helt;refine B4 helt λuv s7 ⟨v,H7,I7,ruv,sm7,r7⟩=>?_;have hacc7:H7 acc=some (.lst vs):=sm7 acc _ hacc6;have happ:=rM (X:=X') _ s7 σ5 H7 (.ref acc) [v] (.ref acc) [uv] (λ_ H8=>H8=upd H7 acc (.lst (vs++[v]))) I7 rfl (.cons ruv .nil) ⟨acc,vs,v,rfl,rfl,hacc7,by omega,rfl⟩;rw[eP,eW,eA,eX]at happ;refine B4 happ λ_ s8 ⟨_,H8,I8,_,h8⟩=>?_;subst h8;have hh:Q8 (upd H7 acc<|.lst (vs++[v])) acc=Q8 H7 acc:=by
         funext b
         unfold Q8 upd;by_cases hb:b=acc
         ·rw[if_pos hb,if_pos hb]
         ·rw[if_neg hb,if_neg hb,if_neg hb]
        have smx7:Same Hx (Q8 H7 acc):=V1 xi (sm46.trans sm7);refine again (vs7:=vs++[v]) (rd7:=rd++[dv]) (rest7:=rest') I8 i9 (by rw[hh];exact Eb (sm6.trans sm7)) (by rw[hh];exact ye.trans smx7) ?_ e4 (by rw[vm,<-ou,aEZ];rfl) (by rw[aAy];exact Nat.succ_le_succ hvl);rw[hh];exact(r2.same smx7).snoc (Rep.hidden hacc7 r7)
  ·have dn:i=ds.length:=by omega
   subst dn;have hstop:=hit.2 (by simp);have nc:=T.done X' eP eW eK eC ds.length [] s2 qe _ (λ_ _=>False) I2 (fpB fr2) jm hstop;rw[eA]at nc;refine B4 nc λr s3 ⟨hr,I3⟩=>?_;subst hr;rw[aFp,n6]at af;have ou:([]:List D)=rest:=R.ok.inj af;rw[<-ou,aBV]at vm;obtain⟨m,hm,_⟩:=id I3.loc;rw[eL]at hm;have hfin:Same H (upd Hx acc<|.lst vs):=ye.trans sU;refine fin acc C s3 (upd Hx acc<|.lst vs) m hm (aCl accC) (by omega) (aAj _) hfin ?_ ⟨Hx,vs,ye,xi,rfl,by rw[vm];exact r2⟩ (by rw[<-eL];exact I3.free) (λh' jn=>?_)
   ·rw[vm];exact .lst (K4.of i9) (E2.fresh xi) (r2.same sU)
   ·have hU:Un (vU X.stack) fp (upd H acc<|.lst []) (upd Hx acc<|.lst vs) s1.heap s3.heap:=by have:=I3.base;rw[eFs,eX0,eH0,eS0]at this;exact this
    have hCn:∀b o,s1.heap.get? b=some o->b≠C:=λb o e=>by have:=aAg e;rw[hC]at this;exact aAk this
    have hU':Un (vU X.stack) fp (upd H acc<|.lst []) (upd Hx acc<|.lst vs) s1.heap h':=⟨λb o e n hb hx=>(jn.2 b (hCn b o e)).trans (hU.keep b o e n hb hx),λb o e n hb hx=>by
      obtain⟨sl,q⟩:=hU.slot b o e n hb hx;exact⟨sl,(jn.2 b (hCn b o e)).trans q⟩,hU.free,λb o e hx=>by
      obtain⟨o',q⟩:=hU.there b o e hx;exact⟨o',(jn.2 b (hCn b o e)).trans q⟩,hU.tups,hU.frzs,hU.tbls⟩
    have hCf:upd Hx acc (.lst vs) C=none:=by rw[<-eL];exact I3.free
    have yf:eY X.prog X.w (upd Hx acc<|.lst vs) h':=λb u e=>by
     have hb:b≠C:=by rintro rfl;rw[hCf]at e;cases e
     have:=I3.hok b u e;rw[eP,eW]at this;refine this.ac0 (λc v hc q=>(jn.2 c ?_).trans q) (λ_ q=>q) λ_ _ _ q=>q;rcases hc with z|z
     ·rw[z];exact hb
     ·rintro rfl;rw[hCf]at z;cases z
    have hos:s3.os=s1.os:=by have:=I3.os;rw[eS0]at this;exact this
    exact I1.af5 (s':={s3 with heap:=h'}) (ch:=fp) hos hU' yf I3.bare λb hb=>by obtain⟨f0,f1,f2,f3,f4,f5⟩:=vg b hb;exact⟨f3,f1,f4,f5⟩
 exact codeAny_compStart_list loop (T.self _ 0 _ _ _ UH loop)
def K5 (own fr:List Str)(js:List Nat)(hc:X.calm=true)(S:CompSc X scope own fr js)(hi:QF X tg v5 fi)(hX:∀(pins:M3) (fp:List Addr) (X':Cx),(∃s9 Ha C,X'=BS X pins s9 Ha (own++fr) scope (aR X scope C) C fp)->GI X' tg G/\PK X' ifs ft/\PD X' elt fe)(hG:∀ρ d ρ1,G d (f6 own js ρ)=.ok ρ1->lV ρ1 (f6 own js ρ))(hs:∀x,foldedSetIterable v5 X.env x=pure x:=by intro _;rfl):
  PD X (.ListComp elt [⟨tg,v5,ifs,0⟩] scope pos) (λρ=>(fi ρ).bind λds=>if ds.length<=sizeLine then(n6 G ft fe (f6 own js ρ) ds).bind λrs=>.ok (.lst rs)else .bad):=by
 refine rK λpins s σ H Q I H9 O0 O ρ E q=>?_;dsimp only at q;rw[eval_ListComp];refine aCW (use:=none) rfl hs (N4<|Inv.aa7 I S) S.kind S.names ?_;refine B4 (hi pins s σ H (λJ H1=>∃ds rs,Same H H1/\QD X.K J H1 O ds/\ds.length<=sizeLine/\n6 G ft fe (f6 own js ρ) ds=.ok rs/\∀v H',Same H H'->Rep X.K H' O v (.lst rs)->Q v H') I ⟨H9,O0,O,ρ,E,gW I O E.trk,?_⟩) λv s1 h1=>B4 h1 λitv s2 h2=>?_
 ·cases e1:fi ρ with
  |ex x=>rw[e1]at q;exact q
  |bad=>rw[e1]at q;exact q
  |ok ds=>
   rw[e1,R.aa0]at q;intro J H1 s1 hJ;split at q
   ·rename_i hl;cases e2:n6 G ft fe (f6 own js ρ) ds with
    |ex x=>rw[e2]at q;exact(q H<|Same.refl _).elim
    |bad=>rw[e2]at q;exact q.elim
    |ok rs=>rw[e2]at q;exact⟨ds,rs,s1,hJ,hl,e2,q⟩
   ·exact q.elim
 ·obtain⟨it,fp,tn,J,H2,e,I2,T,jm,f2,ds,rs,sm,hJ,hl,yc,q⟩:=h2;subst e;refine iR (RR:=λacc C=>compPost (model X.prog X.w) X.A X.xe none (EP X pins σ Q) acc C) hc S (hX pins fp) (hG ρ) I2 T jm f2 (E.grow sm) hJ yc hl ?_;intro acc C s' H' m hn _ _ _ sm' r _ _ hI;exact⟨m,hn,λh' jn=>⟨.ref acc,H',hI h' jn,rfl,q _ H' (sm.trans sm') r⟩⟩
end
omit [Tabs]in
def wW {ns:List Int}(h:PySem.W.WData.layableAll [PySem.W.WData.list (ns.map PySem.W.WData.int)]=true):∀x∈ns,aAW x<=1048576:=λx hx=>by
 have h1:=(PySem.W.layW_cons h).1;have h2:=PySem.W.layableW_item h1 (.int x) (aAm.mpr ⟨x,hx,rfl⟩);have h3:=PySem.W.lay0_int h2;have h4:PyData.layable0 (.int x)=true:=by simpa[PyData.layableAll0]using h3
 exact PyData.bits_of_layable h4
def v6 (P:Program)(w:World)(K:PySem.W.Frag)(mg:bK)(base:Heap)(k:Nat)(x:Str)(n:Nat)(m:List D->R D):Prop:=
 ∃g gd ps,FnOk P w K mg base rE k g gd ps (YB K n m)/\Binds K gd ps []/\PySem.W.keepIn K (.ref g)=true/\mg x=some (.ref g)
def BF (f:Ev->R (List D))(n:Nat):Prop:=∀ρ ds,f ρ=.ok ds->ds.length=n
def G8:BF T4 0:=λρ ds h=>by cases h;rfl
def t0 (h:BF g n):BF (o7 f g) (n+1):=λρ ds e=>by
 unfold o7 at e;cases e1:f ρ with
 |ok d=>
  rw[e1,R.aa0]at e;cases e2:g ρ with
  |ok bf=>rw[e2]at e;cases e;rw[aAs,h ρ bf e2]
  |ex x=>rw[e2]at e;cases e
  |bad=>rw[e2]at e;cases e
 |ex x=>rw[e1]at e;cases e
 |bad=>rw[e1]at e;cases e
section
def sJ (c:v6 X.prog X.w X.K X.mg X.base k x n m)(hr:Room k X.A)(ha:IF X (e::es) f)(hl:BF f n)(hg:Gl X x:=by rfl)(gc:(x==("__debug__":Str))=false:=by decide)(he:starEach (e::es) X.env=(false,eval e X.env)::starEach es X.env:=by rfl)(bg:(backTo pos (starEach es X.env)).any (·.1)=false:=by rfl):
  PD X (.Call (.Name x p) (e::es) [] pos) (λρ=>(f ρ).bind m):=by
 obtain⟨g,gd,ps,F,b,kp,em⟩:=c;exact PR F hr em kp b ha hl hg gc he bg
end
def WS {P:Program}{w:World}{K:PySem.W.Frag}{mg:bK}{base:Heap}{x qual:Str}{st:Stmt}{f:Addr}{fd:FuncData}{N ps:List Str}{k:Nat}{m:List D->R D}{F:Ev->R Out}(F0:Fun K x qual st f fd)(S:FnScope N ps (c5 st))(yg:Binds K fd ps [])(md:mg x=some (.ref f))
  (hb:∀(cdv:Value) (A:Around) (outer:List Env) (s:Shared) (H:Hp) (E:XK),Room k (A.deeper (envOfC qual (c5 st) s.heap.objs.size f cdv))->bF (OY P w K mg base N qual (c5 st) f cdv A outer s H E) (o6 st) F)
  (hm:∀ds d,ds.length=ps.length->m ds=.ok d->K3 (F (j1 N ds))=.ok d):v6 P w K mg base (k+1) x ps.length m:=
 ⟨f,fd,ps,zw F0 S hb hm,yg,F0.kp,md⟩
def p9:∀d ρ1,(R.ok ((f6 [x] js ρ).set 0 (Sl.v d)):R Ev)=.ok ρ1->lV ρ1 (f6 [x] js ρ):=λd ρ1 h=>by
 cases h;refine⟨by simp,λi sl h hn=>?_⟩;cases i with
 |zero=>exact absurd (by simpa[f6]using h.symm) hn
 |succ i=>rw[aCv (by lia)];exact h
def JP (sc:Scope)(N:List Str)(scope:Scope)(fr:List Str)(js:List Nat):Bool:=
 decide (scope.kind=.function)&&scope.names.all (λy=>decide (y.2=.free->(y.1,aBX)∉scope.names))&&scope.names.all (λy=>decide (y.2=.local->scope.names.lookup y.1=some .local))&&
 scope.names.all (λy=>decide (y.2=.free->sc.names.lookup y.1=some .cell\/sc.names.lookup y.1=some .free))&&decide (js.length=fr.length)&&(js.zip fr).all (λp=>decide (N[p.1]?=some p.2/\(p.2,NameKind.free)∈scope.names))&&decide js.Nodup&&
 scope.names.all (λy=>decide (y.2=.free->scope.names.lookup y.1=some .free))
def G2 (hs:X.env.scope=sc:=by rfl)(hN:X.N=N:=by rfl)(h:JP sc N scope fr js=true:=by decide+kernel):CompSc X scope own fr js:=by simp only[JP,aAL,aBF,decide_eq_true_eq]at h;obtain⟨⟨⟨⟨⟨⟨⟨h1,h2⟩,h3⟩,h4⟩,h5⟩,h6⟩,h7⟩,h8⟩:=h;subst hs hN;refine⟨h1,h2,h3,h4,h5,λi j x e1 e2=>?_,h7,h8⟩;refine h6 (j,x) (aAv (i:=i) ?_);rw[aBv];exact⟨e1,e2⟩
def BZ (σ:List (Nat×D))(h:∀p∈σ,p.1<xs.length):lV (σ.foldl (λr p=>r.set p.1 (Sl.v p.2)) (f6 xs js ρ)) (f6 xs js ρ):=by
 have key:∀(σ:List (Nat×D)) (r:Ev),(∀p∈σ,p.1<xs.length)->r.length=(f6 xs js ρ).length->(∀i,xs.length<=i->r[i]?=(f6 xs js ρ)[i]?)->
   (σ.foldl (λr p=>r.set p.1 (Sl.v p.2)) r).length=(f6 xs js ρ).length/\∀i,xs.length<=i->(σ.foldl (λr p=>r.set p.1 (Sl.v p.2)) r)[i]?=(f6 xs js ρ)[i]?:=by
  intro σ;induction σ with
  |nil=>intro r _ h1 h2;exact⟨h1,h2⟩
  |cons p σ ih=>intro r hp h1 h2;refine ih _ (λq hq=>hp q (aAe _ hq)) (by rw[List.length_set];exact h1) λi hi=>?_;have:=hp p aAY;rw[aCv (by lia)];exact h2 i hi
 obtain⟨h1,h2⟩:=key σ _ h rfl λ_ _=>rfl;refine⟨h1,λi sl e hn=>?_⟩;by_cases hi:i<xs.length
 ·have:sl=.no:=by
   rcases bE e with z|⟨d,j,_,hle,_⟩
   ·exact z
   ·lia
  exact absurd this hn
 ·rw[h2 i (by lia)];exact e
def OR:∀d ρ1,gE 2 (U8 (λd ρ=>.ok (ρ.set 0 (.v d))) (U8 (λd ρ=>.ok (ρ.set 1 (.v d))) pF)) d (f6 [x,y] js ρ)=.ok ρ1->lV ρ1 (f6 [x,y] js ρ):=λd ρ1 h=>by
 have go:∀ds:List D,ds.length=2->U8 (λd ρ=>.ok (ρ.set 0<|.v d)) (U8 (λd ρ=>.ok (ρ.set 1<|.v d)) pF) ds (f6 [x,y] js ρ)=.ok ρ1->lV ρ1 (f6 [x,y] js ρ)
  |[a,b],_,h=>by cases h;exact BZ (xs:=[x,y]) [(0,a),(1,b)] (by simp)
 unfold gE at h;split at h
 ·split at h
  ·exact go _ ‹_› h
  ·cases h
 ·split at h
  ·exact go _ ‹_› h
  ·cases h
 ·cases h
end DL
namespace DL.Att2
open PySem PySem.W PySem.Calls PyProof.Rows
def attach_bits {l:OpenLaw}{n:Nat}{q:Program}{loose:List Str}{XP:(Str->Option Value)->Heap->Prop}{YP:World->Heap->Prop}{d:DefRec}
  (hn:l.most=some n) (hdf:d.params.defaults=[])
  (call:∀(w:World) (s9 aa:Shared) (mg mb:bK) (fa:Addr) (o:Obj) (pm cd doc:Value) (a:Addr) (vs:List Value) (ns:List Int),
   Ground q loose [] XP w s9 mg mb aa.heap->YP w aa.heap->
   aa.heap.get? fa=some o->o.data=.func (docDef d.name d.params d.body d.scope pm cd doc)->aa.heap.CodeRec cd d.name->mg d.name=some (.ref fa)->
   aa.heap.get? a=some {cls:=.type "list",data:=.seq vs.toArray}->IntsAre vs ns->ns.length<=n->(∀x∈ns,aAW x<=1048576)->aa.gens=#[]->
   codeAny (model l.prog w) callerA (.call (.ref fa) ⟨[.ref a],[]⟩) (λr s'=>r=.ok (.ret (.bool true))/\OldK aa.heap s'.heap/\s'.os=aa.os/\AllBare s'.gens) aa):
  WalkO q loose XP YP l.row.toRowW d [] (λf vs=>PySem.call f vs):=by
 intro w s9 aa mg mb G Y fa o pm cd doc dV kV ho hd cg hD md hg args vals as ya hlay hrd rf hlo;obtain rfl:dV=.none:=Dflts.none hD hdf;obtain rfl:kV=.none:=Dflts.noKw hD;obtain⟨a,vs,ns,rfl,rfl,hobj,hints,hlen⟩:=Att.script_of hn ya rf;have hb:=DL.wW (ns:=ns) (by first|exact hlay|exact hlay.1|(simpa using hlay));refine enter_call (aDJ (call w s9 aa mg mb fa o pm cd doc a vs ns G Y ho (fd_plain hd) cg md hobj hints hlen hb hg) λr s' hq=>?_);obtain⟨rfl,h2,h3,h4⟩:=hq;exact⟨.inl ⟨.bool true,.bool true,[],rfl,λ_=>rfl,.bool true,Att.post_true l _,λ_=>⟨aGj,λ_ hm=>(nomatch hm)⟩⟩,h2,h3,h4⟩
end DL.Att2
namespace DL
open PySem PySem.Spec L2
open PyProof.Rows hiding St
variable [Tabs]
end DL
namespace DL
open PySem L2
abbrev bits (a:Int):Nat:=aAW a
def l5 (h:x6 a b):JR (.int a) (.int b)=.ok (.int (a*b)):=if_pos h
def qX (h:wG b):U6 (.int a) (.int b)=.ok (.int (a.fdiv b)):=if_pos h
def yG (h:b≠0):oO (.int a) (.int b)=.ok (.int (a.fmod b)):=if_pos h
def x6.of (h1:bits a<=m)(h2:bits b<=n)(hm:m<=60000000:=by decide)(hn:n<=60000000:=by decide):x6 a b:=⟨aAu h1 hm,aAu h2 hn⟩
def bits_add (h1:bits a<=n)(h2:bits b<=n):bits (a+b)<=n+1:=by have:=PyProof.Rows.bits_add h1 h2;rw[Nat.max_self]at this;exact this
def bits_sub (h1:bits a<=n)(h2:bits b<=n):bits (a-b)<=n+1:=by have:=PyProof.Rows.bits_sub h1 h2;rw[Nat.max_self]at this;exact this
def bits_mul (h1:bits a<=m)(h2:bits b<=n):bits (a*b)<=m+n:=PyProof.Rows.bits_mul h1 h2
def bits_neg (h1:bits a<=m):bits (-a)<=m:=PyProof.Rows.bits_neg h1
def EC (h:a.natAbs<2^n):bits a<=n:=PyProof.Rows.intBits_le h
def CK (h:bits a<=n):a.natAbs<2^n:=PyProof.Rows.lt_pow_of_bits h (aAj n)
@[simp]def D6 (d:D)(ρ:Ev):aD 0 (Sl.v d::ρ)=.ok d:=rfl
@[simp]def G7 (i:Nat)(x:Sl)(ρ:Ev):aD (i+1) (x::ρ)=aD i ρ:=rfl
@[simp]def Q9 (d:D)(ρ:Ev):vH 0 (Sl.v d::ρ)=.ok d:=rfl
@[simp]def fS (d:List D)(ρ:Ev):vH 0 (Sl.o d::ρ)=.ok (.lst d):=rfl
@[simp]def L6 (i:Nat)(x:Sl)(ρ:Ev):vH (i+1) (x::ρ)=vH i ρ:=rfl
@[simp]def N1 (d:D)(ρ:Ev):SG d ρ=.ok d:=rfl
@[simp]def B1 (ρ:Ev)(F:Ev->R Out):z7 (.ok (.nx ρ)) F=F ρ:=rfl
@[simp]def gy (d:D)(F:Ev->R Out):z7 (.ok (.rt d)) F=.ok (.rt d):=rfl
@[simp]def jk (d:D):K3 (.ok (.rt d))=.ok d:=rfl
@[simp]def jj (ρ:Ev):K3 (.ok (.nx ρ))=.ok .non:=rfl
@[simp]def t7 (f:Ev->R D)(g:Ev->R (List D))(ρ:Ev):o7 f g ρ=(f ρ).bind λd=>(g ρ).bind λds=>.ok (d::ds):=rfl
@[simp]def w5 (ρ:Ev):T4 ρ=.ok []:=rfl
@[simp]def a0d (a:D):jC [a]=.ok (.tup [a]):=rfl
@[simp]def zx (a b:D):jC [a,b]=.ok (.tup [a,b]):=rfl
@[simp]def ZB (a b c:D):jC [a,b,c]=.ok (.tup [a,b,c]):=rfl
@[simp]def xw (a b c d:D):jC [a,b,c,d]=.ok (.tup [a,b,c,d]):=rfl
@[simp]def aw (a:D):wK [a]=.ok (.lst [a]):=rfl
@[simp]def xx (a b:D):wK [a,b]=.ok (.lst [a,b]):=rfl
@[simp]def a0f (x y z:D):R1 (.tup [x,y,z]) (.int 0)=.ok x:=rfl
@[simp]def zq (x y z:D):R1 (.tup [x,y,z]) (.int 1)=.ok y:=rfl
@[simp]def xy (x y z:D):R1 (.tup [x,y,z]) (.int 2)=.ok z:=rfl
@[simp]def xz (x y z t:D):R1 (.tup [x,y,z,t]) (.int 0)=.ok x:=rfl
@[simp]def yj (x y z t:D):R1 (.tup [x,y,z,t]) (.int 1)=.ok y:=rfl
@[simp]def a0j (x y z t:D):R1 (.tup [x,y,z,t]) (.int 2)=.ok z:=rfl
@[simp]def a0k (x y z t:D):R1 (.tup [x,y,z,t]) (.int 3)=.ok t:=rfl
@[simp]def a0g (x y:D):R1 (.tup [x,y]) (.int 0)=.ok x:=rfl
@[simp]def zy (x y:D):R1 (.tup [x,y]) (.int 1)=.ok y:=rfl
def bU (h:lX xs i=some d):R1 (.lst xs) (.int i)=.ok d:=by simp only[R1,h]
def JX {xs:List D}{i:Int}{d:D}(h:lX xs i=some d):R1 (.tup xs) (.int i)=.ok d:=by simp only[R1,h]
@[simp]def DK (a b:Int):fL (.int a) (.int b)=.ok (.int (a+b)):=rfl
@[simp]def sK (a b:Int):AW (.int a) (.int b)=.ok (.int (a-b)):=rfl
@[simp]def vk (a b:Int):iq (.int a) (.int b)=.ok (.bl (decide (a<b))):=rfl
@[simp]def BY (a b:Int):ax (.int a) (.int b)=.ok (.bl (decide (a<=b))):=rfl
@[simp]def uI (a b:Int):WJ (.int a) (.int b)=.ok (.bl (decide (b<a))):=rfl
@[simp]def vq (a:Int):RV (.int a)=.ok (.int (-a)):=rfl
@[simp]def rL (b:Bool):pJ (.bl b)=.ok b:=rfl
@[simp]def YR (b:Int):yk (.int b)=.ok (some b):=rfl
@[simp]def iZ (xs:List D):QS [.lst xs]=.ok (.int xs.length):=rfl
@[simp]def XR (a:Int):ZS [.int a]=.ok (.int (if a<0 then-a else a)):=rfl
@[simp]def sI (f g:Ev->R Bool)(ρ:Ev):UU f g ρ=(f ρ).bind λb=>if b=true then g ρ else .ok false:=rfl
@[simp]def kw (f g:Ev->R Bool)(ρ:Ev):YE f g ρ=(f ρ).bind λb=>if b=true then .ok true else g ρ:=rfl
@[simp]def jx (f:Ev->R Bool)(ρ:Ev):LC f ρ=(f ρ).bind λb=>.ok (!b):=rfl
@[simp]def iy (f g:Ev->R D)(ρ:Ev):aq f g ρ=((f ρ).bind pJ).bind λb=>if b=true then g ρ else .ok (.bl false):=rfl
@[simp]def IU (a b:Int):FE (.int a) (.int b)=.ok (.bl (a==b)):=by simp only[FE,C1,u4];rfl
@[simp]def WL (a b:Int):vV (.int a) (.int b)=.ok (.bl (!(a==b))):=by simp only[vV,C1,u4];rfl
@[simp]def WM (a b c d e f:Int):FE (.tup [.int a,.int b,.int c]) (.tup [.int d,.int e,.int f])=.ok (.bl (a==d&&(b==e&&c==f))):=by simp[FE,C1,D8,u4,X8]
@[simp]def zP (a b c d e f:Int):vV (.tup [.int a,.int b,.int c]) (.tup [.int d,.int e,.int f])=.ok (.bl (!(a==d&&(b==e&&c==f)))):=by simp[vV,C1,D8,u4,X8]
def aT {α:Type}{xs:List α}{k:Int}(h0:0<=k):lX xs k=xs[k.toNat]?:=by
 unfold lX OI;rw[if_pos h0];by_cases h:k<xs.length
 ·rw[if_pos h];rfl
 ·rw[if_neg h,aCi.mpr (by omega)];rfl
def jG (n:Nat)(xs:List D):Prop:=∀x∈xs,∃i,x=.int i/\bits i<=n
def RO {n:Nat}{ns:List Int}(h:∀x∈ns,bits x<=n):jG n (ns.map D.int):=λx hx=>by obtain⟨i,hi,rfl⟩:=aAm.mp hx;exact⟨i,rfl,h i hi⟩
def wE (g:Int->Int)(xs:List D)(k:Int):D:=match xs[k.toNat]? with
 |some d=>d
 |none=>.int (g k)
def NM:D->Bool
 |.int _=>true
 |_=>false
def o8 (h1:-((2:Int)^n)<a)(h2:a<(2:Int)^n):bits a<=n:=EC (by
 have e:((2^n:Nat):Int)=(2:Int)^n:=by simp
 omega)
def bits_fmod {a b:Int}{n:Nat}(h0:b≠0)(hb:bits b<=n):bits (a.fmod b)<=n:=PyProof.Rows.bits_fmod_by h0 hb
def bits_fdiv (ha:bits a<=n):bits (a.fdiv b)<=n:=PyProof.Rows.bits_fdiv ha
def f7 (h:bits a<=m)(hm:m<=n:=by decide):bits a<=n:=aAu h hm
@[simp]def S9 (xs:List D):dC (.lst xs)=.ok xs:=rfl
@[simp]def HD (xs:List D):CM (.tup xs)=.ok xs:=rfl
@[simp]def XS (G:D->Ev->R Ev)(ft:Ev->R Bool)(fe:Ev->R D)(ρ:Ev):n6 G ft fe ρ []=.ok []:=rfl
@[simp]def XG (i:Nat)(ft:Ev->R Bool)(fe:Ev->R D)(ρ:Ev)(d:D)(ds:List D):n6 (λd ρ=>.ok (ρ.set i (Sl.v d))) ft fe ρ (d::ds)=(ft (ρ.set i (Sl.v d))).bind λb=>if b=true then(fe (ρ.set i (Sl.v d))).bind λr=>(n6 (λd ρ=>.ok (ρ.set i (Sl.v d))) ft fe ρ ds).bind λrs=>.ok (r::rs)else n6 (λd ρ=>.ok (ρ.set i (Sl.v d))) ft fe ρ ds:=rfl
@[simp]def ik (d:D):seen (.v d)=.v d:=rfl
end DL
namespace DL
open PySem L2
def ZE (x:D)(r:List D):R1 (.tup (x::r)) (.int 0)=.ok x:=JX (by rw[aT (by decide)];rfl)
def bq (x y:D)(r:List D):R1 (.tup (x::y::r)) (.int 1)=.ok y:=JX (by rw[aT (by decide)];rfl)
def cy (x y z:D)(r:List D):R1 (.tup (x::y::z::r)) (.int 2)=.ok z:=JX (by rw[aT (by decide)];rfl)
theorem fZ (Iv:Nat->Ev->Prop)(ht:∀n ρ,Iv (n+1) ρ->c ρ=.ok false\/(c ρ=.ok true/\∃ρ2,F ρ=.ok (.nx ρ2)/\Iv n ρ2))(h00:∀ρ,¬Iv 0 ρ):∀n ρ,Iv n ρ->∃m ag,L7 c F n ρ=.ok (.nx ag)/\Iv m ag/\c ag=.ok false
 |0,ρ,h=>absurd h (h00 ρ)
 |n+1,ρ,h=>by
  rcases ht n ρ h with e|⟨e,ρ2,e2,h2⟩
  ·exact⟨n+1,ρ,by rw[L7,e];rfl,h,e⟩
  ·obtain⟨m,ag,e3,h3,h4⟩:=fZ Iv ht h00 n ρ2 h2;exact⟨m,ag,by rw[L7,e];simp only[R.aa0,if_true,e2];exact e3,h3,h4⟩
def FY {Iv:Nat->Ev->Prop}(ht:∀n ρ,Iv (n+1) ρ->c ρ=.ok false\/(c ρ=.ok true/\∃ρ2,F ρ=.ok (.nx ρ2)/\Iv n ρ2))(h0:Iv n ρ)(h2:∀n ag,Iv n ag->c ag=.ok false->K3 (F2 ag)=.ok d)(h00:∀ρ,¬Iv 0 ρ:=by(intro ρ;rintro⟨x,y,_,z,_⟩;omega)):
  K3 (z7 (L7 c F n ρ) F2)=.ok d:=by
 obtain⟨m,ag,e,h,hc⟩:=fZ Iv ht h00 n ρ h0;rw[e];exact h2 m ag h hc
end DL
namespace DL
open PySem PySem.Spec L2
open PyProof.Rows hiding St
variable [Tabs]
section
variable{K:PySem.W.Frag}
def EnvOk.ac2 (E:EnvOk K H9 O0 H O σ ρ)(i:Nat)(h:H a=none)(hk:K.lookup a=none)(r:Reps K H O vs xs):
  EnvOk K H9 O0 (upd H a (.lst vs)) (λb=>O b\/b=a) (σ.set i (some (.ref a))) (ρ.set i (.o xs)):=
 E.ad9 i h hk trivial λh0=>⟨a,vs,rfl,.inr rfl,h0,i9,r.ab6 h hk⟩
def EnvOk.disown (E:EnvOk K H9 O0 H O σ ρ)(e:ρ[i]?=some (.o xs)):∃O',EnvOk K H9 O0 H O' σ (ρ.set i (.v (.lst xs)))/\(∀b,O' b->O b):=by obtain⟨a,vs,h1,h2,h3,h4,h5⟩:=E.own i xs e;exact⟨λb=>O b/\b≠a,E.ae5 e trivial h1 (λz=>z) ⟨.ref a,rfl,.lst (K4.of h4) (λz=>z.2 rfl) (h5.sub λ_ z=>z.1)⟩,λb z=>z.1⟩
def EnvOk.write (E:EnvOk K H9 O0 H O σ ρ)(e:ρ[i]?=some (.o xs))(h1:σ[i]?=some (some (V.ref a)))(r:Reps K H O gh ri):
  EnvOk K H9 O0 (upd H a (.lst gh)) O σ (ρ.set i (.o ri))/\Kp H O (upd H a (.lst gh)) O:=by
 obtain⟨a',vs,p1,h2,h3,h4,h5⟩:=E.own i xs e;have ea:a'=a:=by rw[p1]at h1;cases h1;rfl
 subst ea;exact E.ae1 e trivial h1 h4 trivial trivial λ_ _ _=>⟨a',gh,rfl,h2,h3,i9,r.upd h4 trivial h2⟩
end
section
def tF (X:Cx)(f:Ev->R (List D)):TE:=λσ H Q=>∃H9 O0 O ρ,EnvOk X.K H9 O0 H O σ ρ/\match f ρ with
 |.ok ds=>∀vs H1 a,Same H H1->H1 a=none->Reps X.K H1 O vs ds->Q (.ref a) (upd H1 a<|.lst vs)
 |.ex e=>∀H',Same H H'->XW X e H'
 |.bad=>False
def PF (X:Cx)(e:Expr)(f:Ev->R (List D)):Prop:=PE X e (tF X f)
def wN (I:Inv X pins σ H s)(h:H a=some o):X.K.lookup a=none:=by
 cases e:X.K.lookup a with
 |none=>rfl
 |some ob=>have:=(I.bs a ob<|I.ok.mod.kin a ob e).2;rw[h]at this;cases this
def PF.pd (h:PF X e f):PD X e (λρ=>(f ρ).bind λds=>.ok (.lst ds)):=HZ h λσ H Q H9 O0 O ρ E q=>⟨H9,O0,O,ρ,E,by
 dsimp only at q;cases e1:f ρ with
 |ok ds=>rw[e1]at q;intro vs H1 a s1 ha r;exact q _ _ (s1.trans<|j3 ha _) (.lst (K4.of i9) ((E.grow s1).fresh ha) (r.same<|j3 ha _))
 |ex x=>rw[e1]at q;exact q
 |bad=>rw[e1]at q;exact q⟩
def cE (h:IF X es f):PF X (.List es pos) (λρ=>(f ρ).bind λds=>if ds.length<=sizeLine then .ok ds else .bad):=
 HZ (JM h) λσ H Q H9 O0 O ρ E q=>⟨H9,O0,O,ρ,E,by
  dsimp only at q;cases e1:f ρ with
  |ok ds=>
   rw[e1,R.aa0]at q;intro vs H1 s1 r1;by_cases hz:ds.length<=sizeLine
   ·rw[if_pos hz]at q;exact⟨by rw[r1.length];exact hz,λp hp=>q vs H1 p s1 hp r1⟩
   ·rw[if_neg hz]at q;exact aAi q
  |ex x=>rw[e1]at q;exact q
  |bad=>rw[e1]at q;exact q⟩
def S7 (i:Nat)(he:PF X e f)(hN:X.N.Nodup)(hi:X.N[i]?=some x:=by rfl)(hx:Loc X.env.scope x:=by first|exact aCh rfl|exact aBx rfl)(hs:swapsWith e (some (.Name x pos')) pos.line X.env=pure false:=by rfl)(hf:X.fn x=true\/X.env.scope.names.lookup x=some .local:=by first|exact .inl rfl|exact .inr rfl|assumption):
  kR X (.Assign [.Name x pos'] e pos) (λρ=>(f ρ).bind λds=>.ok (.nx (ρ.set i (.o ds)))):=by
 intro H9 O0 pins s σ H D I ⟨O,ρ,E,fk,q⟩;dsimp only at q;refine aDV (B4 (he pins s σ H (λv H2=>∃vs H1 a ds,v=.ref a/\H2=upd H1 a (.lst vs)/\Same H H1/\H1 a=none/\Reps X.K H1 O vs ds/\RS X H9 O0 H O (.ok (.nx (ρ.set i<|.o ds))) D) I ⟨H9,O0,O,ρ,E,?_⟩) λv s1 ⟨y,H2,I2,r2,vs,H1,a,ds,e1,e2,ko,ha,r,q'⟩=>?_) hs
 ·cases e1:f ρ with
  |ok ds=>rw[e1,R.aa0]at q;exactλvs H1 a s1 ha r=>⟨vs,H1,a,ds,rfl,rfl,s1,ha,r,q⟩
  |ex x=>rw[e1]at q;exactλH' s=>q H' (E.same.trans s)
  |bad=>rw[e1]at q;exact q
 ·subst e1 e2;refine L0 I2 hN hi hx r2 (λs3 I3=>⟨_,_,I3,?_⟩) hf;have hk:=wN I2 (i9 (H:=H1) (a:=a) (o:=.lst vs));have E2:=(E.grow ko).ac2 i ha hk r;refine q' _ _ _ E2 (gW I2 _ E2.trk) ?_;exactλb o hb n=>⟨by rw[j5 (j9 (ko b o hb) ha)];exact ko b o hb,λz=>z.elim n (j9 (ko b o hb) ha)⟩
def M1 (i:Nat)(ρ:Ev):Ev:=match ρ[i]? with
 |some (.o xs)=>ρ.set i (.v (.lst xs))
 |_=>ρ
def DS (i:Nat){st:Stmt}(h:kR X st F):kR X st (λρ=>F (M1 i ρ)):=by
 intro H9 O0 pins s σ H D I ⟨O,ρ,E,fk,q⟩;dsimp only at q;unfold M1 at q;cases e:ρ[i]? with
 |none=>rw[e]at q;exact h H9 O0 pins s σ H D I ⟨O,ρ,E,fk,q⟩
 |some sl=>
  rw[e]at q;cases sl with
  |x C=>exact h H9 O0 pins s σ H D I ⟨O,ρ,E,fk,q⟩
  |c m φ=>exact h H9 O0 pins s σ H D I ⟨O,ρ,E,fk,q⟩
  |d kvs=>exact h H9 O0 pins s σ H D I ⟨O,ρ,E,fk,q⟩
  |no=>exact h H9 O0 pins s σ H D I ⟨O,ρ,E,fk,q⟩
  |v d=>exact h H9 O0 pins s σ H D I ⟨O,ρ,E,fk,q⟩
  |o xs=>obtain⟨O',E',sub⟩:=E.disown e;exact h H9 O0 pins s σ H D I ⟨O',_,E',λa o hk z=>fk a o hk (sub a z),RS.grow q λb o hb n=>⟨hb,λz=>n (sub b z)⟩⟩
def yO (i:Nat)(ρ:Ev)(d:D):R Out:=match ρ[i]? with
 |some (.o xs)=>if xs.length<sizeLine then .ok (.nx (ρ.set i<|.o (xs++[d])))else .bad
 |_=>.bad
def J4 (i:Nat)(he:PD X e f)(hN:X.N[i]?=some x:=by rfl)(hv:vJ X.env.scope x:=by first|exact aCh rfl|exact aBx (aCh rfl)|exact aBx (aBx rfl))(hd:(x==("__debug__":Str))=false:=by decide)(cg:(x==("__classdict__":Str))=false:=by decide)(cp:attributeBase (.Name x p) "append" X.env (eval (.Name x p) X.env)=eval (.Name x p) X.env:=by rfl)(vf:((backTo av (starEach [e] X.env)).all (λx=>!x.1)&&(backToKw av (keywordEach [] X.env)).all (λx=>x.1.isSome)
   &&decide ([e].length+([]:List Keyword).length+(if([]:List Keyword).isEmpty then 0 else 1)<30))=true:=by rfl) (bo:(apos.endLine==av.line)=true:=by rfl) (hs:starEach [e] X.env=(false,eval e X.env)::starEach [] X.env:=by rfl) (jt:(backTo av (starEach [] X.env)).any (·.1)=false:=by rfl) (pf:swapsWith (.Call (.Attribute (.Name x p) "append" apos) [e] [] av) none pos.line X.env=pure false:=by rfl):
  kR X (.Expr (.Call (.Attribute (.Name x p) "append" apos) [e] [] av) pos) (λρ=>(f ρ).bind (yO i ρ)):=λH9 O0=>
 vS (gH (UK PySem.F.plainAttrs_list PySem.F.slot_list_append PySem.F.type_list_append rM (J2 hN hv hd cg) (d9 he l3 hs) cp vf bo hs jt) pf) λD σ H O ρ E fk q=>by
 cases e1:f ρ with
 |ok d=>
  rw[e1,R.aa0]at q;unfold yO at q;cases e2:ρ[i]? with
  |none=>rw[e2]at q;exact aAi q
  |some sl=>
   rw[e2]at q;cases sl with
   |x C=>exact aAi q
   |c m φ=>exact aAi q
   |d kvs=>exact aAi q
   |no=>exact aAi q
   |v d=>exact aAi q
   |o xs=>
    dsimp only at q;split at q
    ·rename_i hz;obtain⟨a,vs,h1,h2,h3,h4,h5⟩:=E.own i xs e2;refine⟨_,h1,.inl ⟨rfl,vs,K4.of h4⟩,H9,O0,O,ρ,E,?_⟩;show GS X H O ((f ρ).bind λd=>(R.ok []).bind λds=>.ok (d::ds)) _;rw[e1];intro us H1 s1 r1;cases r1 with
     |cons r1 rn=>cases rn;have E1:=E.grow s1;refine⟨a,vs,_,rfl,rfl,s1 _ _ h4,by rw[h5.length];exact hz,?_⟩;obtain⟨E2,k2⟩:=E1.write e2 h1 ((h5.same s1).snoc r1);exact q σ _ O E2 fk ((Kp.of s1).trans k2)
    ·exact aAi q
 |ex x=>
  rw[e1]at q;cases e2:ρ[i]? with
  |none=>exact(q H E.same).elim
  |some sl=>exact(q H E.same).elim
 |bad=>rw[e1]at q;exact aAi q
def XN (i:Nat)(ρ:Ev)(d:D):R Out:=match ρ[i]?,d with
 |some (.o xs),.lst ys=>if xs.length+ys.length<=sizeLine then .ok (.nx (ρ.set i<|.o (xs++ys)))else .bad
 |_,_=>.bad
def BU (i:Nat)(ρ:Ev):R (D×Ev):=match ρ[i]? with
 |some (.o xs)=>match xs[xs.length-1]? with
  |some d=>.ok (d,ρ.set i (.o xs.dropLast))
  |none=>.bad
 |_=>.bad
def RA (i:Nat)(hN:X.N[i]?=some x:=by rfl)(hv:vJ X.env.scope x:=by first|exact aCh rfl|exact aBx (aCh rfl)|exact aBx (aBx rfl))(hd:(x==("__debug__":Str))=false:=by decide)(cg:(x==("__classdict__":Str))=false:=by decide)(cp:attributeBase (.Name x p) "pop" X.env (eval (.Name x p) X.env)=eval (.Name x p) X.env:=by rfl)(bo:(apos.endLine==av.line)=true:=by rfl)(pf:swapsWith (.Call (.Attribute (.Name x p) "pop" apos) [] [] av) none pos.line X.env=pure false:=by rfl):
  kR X (.Expr (.Call (.Attribute (.Name x p) "pop" apos) [] [] av) pos) (λρ=>(BU i ρ).bind λz=>.ok (.nx z.2)):=λH9 O0=>
 vS (gH (BM PySem.F.plainAttrs_list PySem.F.slot_list_pop PySem.F.type_list_pop NF (J2 hN hv hd cg) cp bo) pf) λD σ H O ρ E fk q=>by
 unfold BU at q;cases e2:ρ[i]? with
 |none=>rw[e2]at q;exact aAi q
 |some sl=>
  rw[e2]at q;cases sl with
  |x C=>exact aAi q
  |c m φ=>exact aAi q
  |d kvs=>exact aAi q
  |no=>exact aAi q
  |v d=>exact aAi q
  |o xs=>
   dsimp only at q;cases e3:xs[xs.length-1]? with
   |none=>rw[e3]at q;exact aAi q
   |some d=>rw[e3]at q;obtain⟨a,vs,h1,h2,h3,h4,h5⟩:=E.own i xs e2;obtain⟨v,g1,g2⟩:=h5.get e3;refine⟨_,h1,.inl ⟨rfl,vs,K4.of h4⟩,a,vs,v,rfl,rfl,h4,by rw[h5.length];exact g1,?_⟩;obtain⟨E2,k2⟩:=E.write e2 h1 h5.dropLast;exact q σ _ O E2 fk k2
def BN (j i:Nat)(hND:X.N.Nodup)(jf:i≠j:=by decide)(hN:X.N[i]?=some x:=by rfl)(hy:X.N[j]?=some y:=by rfl)(hv:vJ X.env.scope x:=by first|exact aCh rfl|exact aBx (aCh rfl)|exact aBx (aBx rfl))(hd:(x==("__debug__":Str))=false:=by decide)(cg:(x==("__classdict__":Str))=false:=by decide)(cp:attributeBase (.Name x p) "pop" X.env (eval (.Name x p) X.env)=eval (.Name x p) X.env:=by rfl)(bo:(apos.endLine==av.line)=true:=by rfl)(hly:Loc X.env.scope y:=by first|exact aCh rfl|exact aBx rfl)(pf:swapsWith (.Call (.Attribute (.Name x p) "pop" apos) [] [] av) (some (.Name y py)) pos.line X.env=pure false:=by rfl)(hf:X.fn y=true\/X.env.scope.names.lookup y=some .local:=by first|exact .inl rfl|exact .inr rfl|assumption):
  kR X (.Assign [.Name y py] (.Call (.Attribute (.Name x p) "pop" apos) [] [] av) pos) (λρ=>(BU i ρ).bind λz=>.ok (.nx (z.2.set j (.v z.1)))):=λH9 O0=>
 vS (KS hND hy hly (BM PySem.F.plainAttrs_list PySem.F.slot_list_pop PySem.F.type_list_pop NF (J2 hN hv hd cg) cp bo) pf hf) λD σ H O ρ E fk q=>by
 unfold BU at q;cases e2:ρ[i]? with
 |none=>rw[e2]at q;exact aAi q
 |some sl=>
  rw[e2]at q;cases sl with
  |x C=>exact aAi q
  |c m φ=>exact aAi q
  |d kvs=>exact aAi q
  |no=>exact aAi q
  |v d=>exact aAi q
  |o xs=>
   dsimp only at q;cases e3:xs[xs.length-1]? with
   |none=>rw[e3]at q;exact aAi q
   |some d=>rw[e3]at q;obtain⟨a,vs,h1,h2,h3,h4,h5⟩:=E.own i xs e2;obtain⟨v,g1,g2⟩:=h5.get e3;refine⟨_,h1,.inl ⟨rfl,vs,K4.of h4⟩,a,vs,v,rfl,rfl,h4,by rw[h5.length];exact g1,?_⟩;obtain⟨E2,k2⟩:=E.write e2 h1 h5.dropLast;exact q _ _ O (E2.set j<|k2.rep E.trk fk g2) fk k2
def HW (i:Nat)(own fr:List Str)(js:List Nat)(hN:X.N.Nodup)(hc:X.calm=true)(S:CompSc X scope own fr js)(hi:QF X tg v5 fi)(hX:∀(pins:M3) (fp:List Addr) (X':Cx),(∃s9 Ha C,X'=BS X pins s9 Ha (own++fr) scope (aR X scope C) C fp)->GI X' tg G/\PK X' ifs ft/\PD X' elt fe)(hG:∀ρ d ρ1,G d (f6 own js ρ)=.ok ρ1->lV ρ1 (f6 own js ρ))(hy:X.N[i]?=some y:=by rfl)(hyl:X.env.scope.names.lookup y=some .local:=by rfl)(pf:swapsWith (.ListComp elt [⟨tg,v5,ifs,0⟩] scope pos) (some (.Name y py)) spos.line X.env=pure true:=by rfl)(hs:∀x,foldedSetIterable v5 X.env x=pure x:=by intro _;rfl):
  kR X (.Assign [.Name y py] (.ListComp elt [⟨tg,v5,ifs,0⟩] scope pos) spos) (λρ=>((fi ρ).bind λds=>if ds.length<=sizeLine then(n6 G ft fe (f6 own js ρ) ds).bind λrs=>R.ok rs else .bad).bind λrs=>.ok (.nx (ρ.set i (.o rs)))):=by
 intro H9 O0 pins s σ H D I ⟨O,ρ,E,fk,q⟩;dsimp only at q;rw[exec_Assign_Name_used _ _ _ _ pf];refine aAa (aDL<|aAa ?_);show wpAny _ X.A (do let _<-comprehension (.ListComp elt [⟨tg,v5,ifs,0⟩] scope pos) scope X.env _ (newList []) false (eval v5 X.env) (some<|assign (.Name y py) X.env)) _ _ s;refine aAa (aCs (aCW (use:=some (assign (.Name y py) X.env)) (Q:=λ_ s'=>SP X pins D .next s') rfl hs (N4<|Inv.aa7 I S) S.kind S.names ?_) (λ_ s' hq=>aAb (aAb hq)) λ_ _ e=>e);refine B4 (hi pins s σ H (λJ H1=>∃ds rs,Same H H1/\QD X.K J H1 O ds/\ds.length<=sizeLine/\n6 G ft fe (f6 own js ρ) ds=.ok rs/\RS X H9 O0 H O (.ok (.nx (ρ.set i<|.o rs))) D) I ⟨H9,O0,O,ρ,E,gW I O E.trk,?_⟩) λv s1 h1=>B4 h1 λitv s2 h2=>?_
 ·cases e1:fi ρ with
  |ex x=>rw[e1]at q;exactλH' s=>q H' (E.same.trans s)
  |bad=>rw[e1]at q;exact q
  |ok ds=>
   rw[e1,R.aa0]at q;intro J H1 s1 hJ;split at q
   ·rename_i hl;cases e2:n6 G ft fe (f6 own js ρ) ds with
    |ex x=>rw[e2]at q;exact(q H E.same).elim
    |bad=>rw[e2]at q;exact q.elim
    |ok rs=>rw[e2]at q;exact⟨ds,rs,s1,hJ,hl,e2,q⟩
   ·exact q.elim
 ·obtain⟨it,fp,tn,J,H2,e,I2,T,jm,f2,ds,rs,sm,hJ,hl,yc,q⟩:=h2;subst e;refine iR (RR:=λacc C=>compPost (model X.prog X.w) X.A X.xe (some<|assign (.Name y py) X.env) (λ_ s'=>SP X pins D .next s') acc C) hc S (hX pins fp) (hG ρ) I2 T jm f2 (E.grow sm) hJ yc hl ?_;intro acc C s' H' m hn hCa yh has sm' r nw hC hI;have I3:=hI s'.heap (aEY ..);show wpAny _ X.A (assign (.Name y py) X.env<|.ref acc) _ _ s';refine aEV (kL (i:=i) (v:=.ref acc) I3 hN hy (.inl hyl) rfl (λs4 I4 ⟨a,hsb,ha⟩=>?_)<|.inr hyl);have df:∀x c,X.env.cells.lookup x=some c->c≠C:=λx c hc=>by obtain⟨v,hv⟩:=I2.cell x c hc;exact aAk (aAt hv.lt yh)
  have hCL:C≠X.env.locals:=aCZ (aAt I2.lt yh);have hCa2:C≠a:=by
   rcases ha with ha|ha
   ·rw[ha];exact hCL
   ·exact aCl (df y a ha)
  refine⟨m,hn.sameBut hsb hCa2,λh' jn=>?_⟩;obtain⟨H1,vs,ko,vo,eH,rr⟩:=nw;subst eH;have E2:=((E.grow sm).grow ko).ac2 i vo (wN I3<|i9 (H:=H1) (a:=acc) (o:=.lst vs)) rr;refine⟨_,_,?_,q _ _ _ E2 (gW I3 _ E2.trk) λb o hb n=>⟨by rw[j5 (j9 ((sm.trans ko) b o hb) vo)];exact(sm.trans ko) b o hb,λz=>z.elim n (j9 ((sm.trans ko) b o hb) vo)⟩⟩;exact I4.turned (t':=s4.toks) (it:=C) (λb o hb e=>(jn.2 b hb).trans e) hC hCL (.inr (aAu I2.sz yh)) df λp hp=>aAk (aAt (aAg (I2.pin p hp).1) yh)
def xX (i:Nat)(own fr:List Str)(js:List Nat)(hN:X.N.Nodup)(hc:X.calm=true)(S:CompSc X scope own fr js)(hi:QF X tg v5 fi)(hX:∀(pins:M3) (fp:List Addr) (X':Cx),(∃s9 Ha C,X'=BS X pins s9 Ha (own++fr) scope (aR X scope C) C fp)->GI X' tg G/\PK X' ifs ft/\PD X' elt fe)(hG:∀ρ d ρ1,G d (f6 own js ρ)=.ok ρ1->lV ρ1 (f6 own js ρ))(hy:X.N[i]?=some y:=by rfl)(hyl:X.env.scope.names.lookup y=some .local:=by rfl)(pf:swapsWith (.ListComp elt [⟨tg,v5,ifs,0⟩] scope pos) (some (.Name y py)) spos.line X.env=pure true:=by rfl)(hs:∀x,foldedSetIterable v5 X.env x=pure x:=by intro _;rfl):
  kR X (.Assign [.Name y py] (.ListComp elt [⟨tg,v5,ifs,0⟩] scope pos) spos) (λρ=>((fi ρ).bind λds=>if ds.length<=sizeLine then(n6 G ft fe (f6 own js ρ) ds).bind λrs=>.ok (D.lst rs)else .bad).bind λd=>.ok (.nx (ρ.set i (.v d)))):=λH9 O0=>vS (HW i own fr js hN hc S hi hX hG hy hyl pf hs H9 O0) λD σ H O ρ E fk q=>⟨O,ρ,E,fk,by
 dsimp only at q⊢;cases e1:fi ρ with
 |ex x=>rw[e1]at q;exact q
 |bad=>rw[e1]at q;exact q
 |ok ds=>
  rw[e1,R.aa0]at q;rw[R.aa0];by_cases hl:ds.length<=sizeLine
  ·rw[if_pos hl]at q⊢;cases e2:n6 G ft fe (f6 own js ρ) ds with
   |ex x=>rw[e2]at q;exact q
   |bad=>rw[e2]at q;exact q
   |ok rs=>
    rw[e2]at q;intro ae H' O' E' f' k';by_cases hi:i<ρ.length
    ·obtain⟨O2,E2,sub⟩:=E'.disown (i:=i) (xs:=rs) (by rw[aBy hi]);rw[List.set_set]at E2;exact q ae H' O2 E2 (λa o k z=>f' a o k (sub a z)) λb o hb n=>⟨(k' b o hb n).1,λz=>(k' b o hb n).2 (sub b z)⟩
    ·have e:∀x,ρ.set i x=ρ:=λx=>List.set_eq_of_length_le (by lia);have q:RS X H9 O0 H O (.ok (.nx (ρ.set i<|.v (.lst rs)))) D:=q;rw[e]at E' q;exact q ae H' O' E' f' k'
  ·rw[if_neg hl]at q;exact aAi q⟩
def dE {st:Stmt}:kR X st (λ_=>.bad):=λH9 O0=>vS KD λD σ H O ρ E fk q=>q
end
end DL
namespace G
structure V where
 x:Int
 y:Int
 z:Int
deriving DecidableEq
instance:Add V:=⟨λu v=>⟨u.x+v.x,u.y+v.y,u.z+v.z⟩⟩
instance:Sub V:=⟨λu v=>⟨u.x-v.x,u.y-v.y,u.z-v.z⟩⟩
instance:Neg V:=⟨λu=>⟨-u.x,-u.y,-u.z⟩⟩
instance:HMul Int V V:=⟨λk u=>⟨k*u.x,k*u.y,k*u.z⟩⟩
instance:OfNat V 0:=⟨⟨0,0,0⟩⟩
@[simp]def xq (u v:V):(u+v).x=u.x+v.x:=rfl
@[simp]def a0e (u v:V):(u+v).y=u.y+v.y:=rfl
@[simp]def a0a (u v:V):(u+v).z=u.z+v.z:=rfl
@[simp]def JY (u v:V):(u-v).x=u.x-v.x:=rfl
@[simp]def ME (u v:V):(u-v).y=u.y-v.y:=rfl
@[simp]def MT (u v:V):(u-v).z=u.z-v.z:=rfl
@[simp]def dj (u:V):(-u).x=-u.x:=rfl
@[simp]def gj (u:V):(-u).y=-u.y:=rfl
@[simp]def ZK (u:V):(-u).z=-u.z:=rfl
@[simp]def MP (k:Int)(u:V):(k*u).x=k*u.x:=rfl
@[simp]def NW (k:Int)(u:V):(k*u).y=k*u.y:=rfl
@[simp]def NO (k:Int)(u:V):(k*u).z=k*u.z:=rfl
@[simp]def aJ:(0:V).x=0:=rfl
@[simp]def Z8:(0:V).y=0:=rfl
@[simp]def bC:(0:V).z=0:=rfl
def ext {u v:V}(h1:u.x=v.x)(h2:u.y=v.y)(h3:u.z=v.z):u=v:=by cases u;cases v;simp_all
def oQ {u v:V}:u=v↔u.x=v.x/\u.y=v.y/\u.z=v.z:=⟨λh=>by subst h;exact⟨rfl,rfl,rfl⟩,λ⟨a,b,c⟩=>ext a b c⟩
def e9 (u v:V):Int:=u.x*v.x+u.y*v.y+u.z*v.z
def cr (u v:V):V:=⟨u.y*v.z-u.z*v.y,u.z*v.x-u.x*v.z,u.x*v.y-u.y*v.x⟩
def i6 (a u v:V):Int:=e9 a (cr u v)
@[simp]def PP (u v:V):(cr u v).x=u.y*v.z-u.z*v.y:=rfl
@[simp]def TC (u v:V):(cr u v).y=u.z*v.x-u.x*v.z:=rfl
@[simp]def QA (u v:V):(cr u v).z=u.x*v.y-u.y*v.x:=rfl
def HI (a u v w:V):i6 a u v*w+i6 a v w*u+i6 a w u*v=i6 u v w*a:=by apply ext<;>simp[i6,e9]<;>grind
def TX (f a u v w:V):i6 a u v*e9 f w+i6 a v w*e9 f u+i6 a w u*e9 f v=i6 u v w*e9 f a:=by simp[i6,e9];grind
def j4 (a u v:V):i6 a v u=-i6 a u v:=by simp[i6,e9];grind
def A8 (a u:V):i6 a u u=0:=by simp[i6,e9];grind
def Y3 (a u v w:V):i6 a (u+v) w=i6 a u w+i6 a v w:=by simp[i6,e9];grind
def Z3 (a u v w:V):i6 a u (v+w)=i6 a u v+i6 a u w:=by simp[i6,e9];grind
def KE (a u v w:V):i6 a u (v-w)=i6 a u v-i6 a u w:=by simp[i6,e9];grind
def wX (a:V)(k:Int)(u v:V):i6 a u (k*v)=k*i6 a u v:=by simp[i6,e9];grind
def cC (u v:V):e9 u v=e9 v u:=by simp[e9];grind
def Z5 (f u v:V):e9 f (u+v)=e9 f u+e9 f v:=by simp[e9];grind
def i3 (f u v:V):e9 f (u-v)=e9 f u-e9 f v:=by simp[e9];grind
def t5 (f:V)(k:Int)(v:V):e9 f (k*v)=k*e9 f v:=by simp[e9];grind
def V9 (f:V)(k:Int)(v:V):e9 (k*f) v=k*e9 f v:=by simp[e9];grind
def O8 (f:V):e9 f 0=0:=by simp[e9]
def R9 (a u v:V):e9 (cr a u) v=i6 a u v:=by simp[i6,e9];grind
def y7 {u:V}(h:u≠0):0<e9 u u:=by
 have h1:u.x≠0\/u.y≠0\/u.z≠0:=by
  by_cases a:u.x=0
  ·by_cases b:u.y=0
   ·by_cases c:u.z=0
    ·exact absurd (ext a b c) h
    ·exact .inr (.inr c)
   ·exact .inr (.inl b)
  ·exact .inl a
 have sq:∀t:Int,0<=t*t:=λt=>by
  rcases Int.le_total 0 t with q|q
  ·exact aDA q q
  ·have:=aDA (aFa q) (aFa q);rwa [aFD]at this
 have sqp:∀t:Int,t≠0->0<t*t:=λt ht=>by
  have:=sq t;have:t*t≠0:=λz=>by rcases aAD.mp z with q|q<;>exact ht q
  omega
 have a:=sq u.x;have b:=sq u.y;have c:=sq u.z;unfold e9;rcases h1 with q|q|q
 ·have:=sqp _ q;omega
 ·have:=sqp _ q;omega
 ·have:=sqp _ q;omega
def C3 (h:n≠0)(hu:e9 n u=0)(hv:e9 n v=0)(hw:e9 n w=0):i6 u v w=0:=by
 have e:i6 u v w*e9 n n=0:=by have:=TX n n u v w;rw[hu,hv,hw]at this;simp at this;omega
 rcases aAD.mp e with q|q
 ·exact q
 ·have:=y7 h;omega
end G
namespace G
def t9 (v:V):(0:Int)*v=0:=ext (by simp) (by simp) (by simp)
def oD (v:V):v+0=v:=ext (by simp) (by simp) (by simp)
def fV (v:V):0+v=v:=ext (by simp) (by simp) (by simp)
structure Cone (Pos:V->Prop):Prop where
 add:∀{u v},Pos u->Pos v->Pos (u+v)
 mul:∀{k:Int} {u},0<k->Pos u->Pos (k*u)
 irr:¬Pos 0
section
variable{Pos:V->Prop} (C:Cone Pos)
include C
theorem Cone.comb {p q:Int}{u w:V}(hp:0<p)(hq:0<=q)(hw:Pos w)(hu:Pos u):Pos (p*w+q*u):=by
 by_cases h:q=0
 ·subst h;rw[t9,oD];exact C.mul hp hw
 ·exact C.add (C.mul hp hw) (C.mul (by lia) hu)
theorem Cone.sgn {k:Int}{v:V}(hv:Pos v)(h:Pos (k*v)):0<k:=by
 by_cases hk:0<k
 ·exact hk
 ·exfalso;by_cases h0:k=0
  ·subst h0;rw[t9]at h;exact C.irr h
  ·have h1:=C.add h (C.mul (k:=-k) (by lia) hv);have e:k*v+-k*v=0:=ext (by simp;grind) (by simp;grind) (by simp;grind);rw[e]at h1;exact C.irr h1
theorem Cone.tr {a u v w:V}(hu:Pos u)(hv:Pos v)(hw:Pos w)(hf:i6 u v w=0)(h1:0<i6 a u v)(h2:0<=i6 a v w):0<i6 a u w:=by
 refine C.sgn hv (k:=i6 a u w) ?_;have e:i6 a u w*v=i6 a u v*w+i6 a v w*u:=by have h:=HI a u v w;rw[hf,t9,j4 a u w]at h;have hx:=congrArg V.x h;have hy:=congrArg V.y h;have hz:=congrArg V.z h;simp at hx hy hz;exact ext (by simp;grind) (by simp;grind) (by simp;grind)
 rw[e];exact C.comb h1 h2 hw hu
theorem Cone.tr' {a u v w:V}(hu:Pos u)(hv:Pos v)(hw:Pos w)(hf:i6 u v w=0)(h1:0<=i6 a u v)(h2:0<i6 a v w):0<i6 a u w:=by
 refine C.sgn hv (k:=i6 a u w) ?_;have e:i6 a u w*v=i6 a v w*u+i6 a u v*w:=by have h:=HI a u v w;rw[hf,t9,j4 a u w]at h;have hx:=congrArg V.x h;have hy:=congrArg V.y h;have hz:=congrArg V.z h;simp at hx hy hz;exact ext (by simp;grind) (by simp;grind) (by simp;grind)
 rw[e];exact C.comb h2 h1 hu hw
end
structure ConeM (a:V)(Pos:V->Prop):Prop extends Cone Pos where
 inv:∀{u} (k:Int),Pos u->Pos (u+k*a)
def ConeM.tr {a:V}{Pos:V->Prop}(C:ConeM a Pos){u v w:V}(hu:Pos u)(hv:Pos v)(hw:Pos w)(h1:0<i6 a u v)(h2:0<=i6 a v w):0<i6 a u w:=by
 refine C.sgn hv (k:=i6 a u w) ?_;have e:i6 a u w*v=(i6 a u v*w+i6 a v w*u)+(-i6 u v w)*a:=by have h:=HI a u v w;rw[j4 a u w]at h;have hx:=congrArg V.x h;have hy:=congrArg V.y h;have hz:=congrArg V.z h;simp at hx hy hz;exact ext (by simp;grind) (by simp;grind) (by simp;grind)
 rw[e];exact C.inv _ (C.comb h1 h2 hw hu)
def d6 (w:V):Prop:=0<w.x\/(w.x=0/\(0<w.y\/(w.y=0/\0<w.z)))
instance(w:V):Decidable (d6 w):=inferInstanceAs (Decidable<|_\/_)
def z8:Cone d6 where
 add:=λ{u v} h1 h2=>by unfold d6 at*;simp;lia
 mul:=λ{k u} hk h=>by
  unfold d6 at*
  simp;rcases h with h|⟨h,h'|⟨h',h''⟩⟩
  ·exact .inl (aAX hk h)
  ·exact .inr ⟨by rw[h];simp,.inl (aAX hk h')⟩
  ·exact .inr ⟨by rw[h];simp,.inr ⟨by rw[h'];simp,aAX hk h''⟩⟩
 irr:=by unfold d6;simp
def Q3 (w:V):Prop:=d6 (-w)
def AX:-(0:V)=0:=rfl
def iA:Cone Q3 where
 add:=λ{u v} h1 h2=>by have e:-(u+v)=-u+-v:=ext (by simp;lia) (by simp;lia) (by simp;lia);unfold Q3 at*;rw[e];exact z8.add h1 h2
 mul:=λ{k u} hk h=>by have e:-(k*u)=k*(-u):=ext (by simp;grind) (by simp;grind) (by simp;grind);unfold Q3 at*;rw[e];exact z8.mul hk h
 irr:=by unfold Q3;rw[AX];exact z8.irr
def TM (w:V):d6 w\/w=0\/Q3 w:=by
 unfold Q3 d6;rw[oQ];simp
 lia
end G
namespace DL
open PySem L2
def T9 (G:D->Ev->R Ev)(F:Ev->R Out)(d:D)(ρ:Ev):R Out:=match G d ρ with
 |.ok ρ1=>F ρ1
 |_=>.bad
@[simp]def T5 (i:Nat)(F:Ev->R Out)(d:D)(ρ:Ev):T9 (λd ρ=>.ok (ρ.set i (Sl.v d))) F d ρ=F (ρ.set i (.v d)):=rfl
theorem jB (Iv:Ev->Prop):∀{ds:List D} {ρ:Ev},(∀d∈ds,∀ρ,Iv ρ->∃ρ2,T9 G F d ρ=.ok (.nx ρ2)/\Iv ρ2)->Iv ρ->∃ag,G6 G F ds ρ=.ok (.nx ag)/\Iv ag
 |[],ρ,_,h=>⟨ρ,rfl,h⟩
 |d::ds,ρ,ht,h=>by
  obtain⟨ρ2,e,h2⟩:=ht d aAY ρ h;obtain⟨ag,e',h'⟩:=jB Iv (ds:=ds) (ρ:=ρ2) (λd hd=>ht d (aAe _ hd)) h2;unfold T9 at e;cases e1:G d ρ with
  |ok ρ1=>rw[e1]at e;exact⟨ag,by rw[G6,e1];dsimp only at e⊢;rw[e];exact e',h'⟩
  |ex x=>rw[e1]at e;cases e
  |bad=>rw[e1]at e;cases e
def MQ (Iv:Ev->Prop)(ht:∀d∈ds,∀ρ,Iv ρ->∃ρ2,T9 G F d ρ=.ok (.nx ρ2)/\Iv ρ2)(h0:Iv ρ)(h2:∀ag,Iv ag->K3 (F2 ag)=.ok d):
  K3 (z7 (G6 G F ds ρ) F2)=.ok d:=by
 obtain⟨ag,e,h⟩:=jB Iv ht h0;rw[e];exact h2 ag h
@[simp]def ZI (G:D->Ev->R Ev)(F:Ev->R Out)(ρ:Ev):G6 G F [] ρ=.ok (.nx ρ):=rfl
def MS {α:Type}{a b:α}:(R.ok a=R.ok b)=(a=b):=by simp
end DL
namespace DL
open PySem L2
class Bd (a:Int)(n:outParam Nat):Prop where
 h:bits a<=n
def J3 (h:bits a<=m)(hm:m<=n):bits a<=n:=aAu h hm
section
instance Bd.add [p:Bd a m][q:Bd b n]:Bd (a+b) (m+n+1):=⟨bits_add (J3 p.h<|aEh m n) (J3 q.h<|Nat.le_add_left n m)⟩
instance Bd.mul [p:Bd a m][q:Bd b n]:Bd (a*b) (m+n):=⟨bits_mul p.h q.h⟩
def M0 [p:Bd a m][q:Bd b n](h1:m<=60000000)(h2:n<=60000000):JR (.int a) (.int b)=.ok (.int (a*b)):=l5 ⟨aAu p.h h1,aAu q.h h2⟩
end
instance Bd.l2:Bd 2 2:=⟨by decide⟩
abbrev vd (v:G.V):D:=.tup [.int v.x,.int v.y,.int v.z]
def Sz (n:Nat)(v:G.V):Prop:=bits v.x<=n/\bits v.y<=n/\bits v.z<=n
def Sz.mono (h:Sz m v)(hm:m<=n:=by decide):Sz n v:=⟨J3 h.1 hm,J3 h.2.1 hm,J3 h.2.2 hm⟩
def Sz.sub (h:Sz n u)(h':Sz n v):Sz (n+1) (u-v):=⟨bits_sub h.1 h'.1,bits_sub h.2.1 h'.2.1,bits_sub h.2.2 h'.2.2⟩
def Sz.add (h:Sz n u)(h':Sz n v):Sz (n+1) (u+v):=⟨bits_add h.1 h'.1,bits_add h.2.1 h'.2.1,bits_add h.2.2 h'.2.2⟩
def Sz.cr (h:Sz m u)(h':Sz n v):Sz (m+n+1) (G.cr u v):=⟨bits_sub (bits_mul h.2.1 h'.2.2) (bits_mul h.2.2 h'.2.1),bits_sub (bits_mul h.2.2 h'.1) (bits_mul h.1 h'.2.2),bits_sub (bits_mul h.1 h'.2.1) (bits_mul h.2.1 h'.1)⟩
end DL
namespace M
open PySem L2 DL
abbrev pt (a b c:Int):D:=.tup [.int a,.int b,.int c]
abbrev UO (n:Nat)(a b c:Int):Prop:=bits a<=n/\bits b<=n/\bits c<=n
def v1 (k:Int->Int->Int->List D->R D):List D->R D
 |.tup [.int a,.int b,.int c]::ds=>k a b c ds
 |_=>.bad
def v4 (k:Int->Int->Int->Int->List D->R D):List D->R D
 |.tup [.int a,.int b,.int c,.int d]::ds=>k a b c d ds
 |_=>.bad
def PL (k:List D->List D->R D):List D->R D
 |.lst xs::ds=>k xs ds
 |_=>.bad
def iw (k:List D->List D->R D):List D->R D
 |.tup xs::ds=>k xs ds
 |_=>.bad
def vI (q:R D):List D->R D
 |[]=>q
 |_=>.bad
def O7 (h:v1 k ds=.ok r):∃a b c e,ds=.tup [.int a,.int b,.int c]::e/\k a b c e=.ok r:=by
 unfold v1 at h;split at h
 ·exact⟨_,_,_,_,rfl,h⟩
 ·cases h
def TW (h:v4 k ds=.ok r):∃a b c d e,ds=.tup [.int a,.int b,.int c,.int d]::e/\k a b c d e=.ok r:=by
 unfold v4 at h;split at h
 ·exact⟨_,_,_,_,_,rfl,h⟩
 ·cases h
def uQ (h:PL k ds=.ok r):∃xs e,ds=.lst xs::e/\k xs e=.ok r:=by
 unfold PL at h;split at h
 ·exact⟨_,_,rfl,h⟩
 ·cases h
def WF (h:iw k ds=.ok r):∃xs e,ds=.tup xs::e/\k xs e=.ok r:=by
 unfold iw at h;split at h
 ·exact⟨_,_,rfl,h⟩
 ·cases h
def T6 (h:vI q ds=.ok r):ds=[]/\q=.ok r:=by
 unfold vI at h;split at h
 ·exact⟨rfl,h⟩
 ·cases h
def v3 (k:Int->Int->Int->List D->R D):List D->R D
 |.tup (.int a::.int b::.int c::_)::ds=>k a b c ds
 |_=>.bad
def YW (h:v3 k ds=.ok r):∃a b c t e,ds=.tup (.int a::.int b::.int c::t)::e/\k a b c e=.ok r:=by
 unfold v3 at h;split at h
 ·exact⟨_,_,_,_,_,rfl,h⟩
 ·cases h
def u6:List D->R D:=v1 λa b c=>v1 λa' b' c'=>vI (.ok (pt (a'-a) (b'-b)<|c'-c))
def B6:List D->R D:=v1 λa b c=>v1 λd e f=>vI (if UO 20000000 a b c/\UO 20000000 d e f then .ok (pt (b*f-c*e) (c*d-a*f)<|a*e-b*d)else .bad)
def u5:List D->R D:=v3 λa b c=>v1 λd e f=>vI (if UO 50000000 a b c/\UO 50000000 d e f then .ok (.int (a*d+b*e+c*f))else .bad)
@[simp]def WY (P Q:G.V):u6 [vd P,vd Q]=.ok (vd (Q-P)):=rfl
def gZ (h1:Sz 20000000 u)(h2:Sz 20000000 v):B6 [vd u,vd v]=.ok (vd (G.cr u v)):=if_pos ⟨h1,h2⟩
def mK (h1:Sz 50000000 u)(h2:Sz 50000000 v):u5 [vd u,vd v]=.ok (.int (G.e9 u v)):=if_pos ⟨h1,h2⟩
def rule (k:Int):Int:=7*k*k+10*k+3
def W5:List D->R D
 |[d]=>.ok (.bl (NM d))
 |_=>.bad
def P64:Int:=10^64
def P34:Int:=10^34
def a0b:Int:=P64*P34
def sgn (x:Int):Int:=if 0<x then 1 else if x<0 then-1 else 0
def Z0:List D->R D:=v4 λa b c d=>v1 λx y z=>vI (if UO 50000000 a b c/\UO 50000000 x y z then .ok (.int (sgn<|a*x+b*y+c*z-d))else .bad)
def PX (h1:UO 50000000 a b c)(h2:UO 50000000 x y z):Z0 [.tup [.int a,.int b,.int c,.int d],pt x y z]=.ok (.int (sgn (a*x+b*y+c*z-d))):=if_pos ⟨h1,h2⟩
def fx (i:Nat)(ρ:Ev):Nat:=match ρ[i]? with
 |some (.v (.int b))=>b.natAbs+2
 |_=>0
def wV (ha:bits a<=n)(hb:bits b<=n):bits (aGk a b)<=n:=by
 refine EC ?_;have h1:=CK ha;have h2:=CK hb;have e:((aGk a b:Nat):Int).natAbs=aGk a b:=by simp
 rw[e];unfold aGk;rcases Nat.eq_zero_or_pos a.natAbs with z|z
 ·rw[z,Nat.gcd_zero_left];exact h2
 ·exact aBY (Nat.gcd_le_left _ z) h1
end M
namespace G
def u8 (v:V):v-v=0:=ext (by simp) (by simp) (by simp)
def dD (a u:V):i6 a u 0=0:=by simp[i6,e9]
def G5 (a u v:V):i6 a u (-v)=-i6 a u v:=by simp[i6,e9];grind
def Y7 (a u v:V):i6 a (-u) v=-i6 a u v:=by simp[i6,e9];grind
structure Row (n:V)(Pos:V->Prop)(T:V->Prop):Prop where
 cone:Cone Pos
 nz:n≠0
 pl:∀X Y,T X->T Y->e9 n (X-Y)=0
 tot:∀X Y,T X->T Y->X=Y\/Pos (X-Y)\/Pos (Y-X)
def Lft (n:V)(Pos:V->Prop)(a b X:V):Prop:=0<=i6 n (b-a) (X-a)/\(i6 n (b-a) (X-a)=0->(X=a\/Pos (X-a))/\(X=b\/Pos (b-X)))
def turn (n P Q R:V):Int:=i6 n (Q-P) (R-Q)
def M2 (n P:V):List V->List V
 |b::a::r=>if turn n a b P<=0 then M2 n P (a::r)else b::a::r
 |r=>r
def x8 (n:V)(ps:List V):List V:=ps.foldl (λc P=>P::M2 n P c) []
def C4:List V->List (V×V)
 |b::a::r=>(a,b)::C4 (a::r)
 |_=>[]
def rX (n:V):List V->Prop
 |b::a::a'::r=>0<i6 n (a-a') (b-a)/\rX n (a::a'::r)
 |_=>True
def rX.tail (h:rX n (b::r)):rX n r:=by
 match r,h with
 |[],_=>trivial
 |[_],_=>trivial
 |_::_::_,h=>exact h.2
def M4 (h:e∈C4 r):e∈C4 (b::r):=by
 match r,h with
 |a::r,h=>exact aAe _ h
section
variable{n:V} {Pos:V->Prop} {T:V->Prop} (F:Row n Pos T)
include F
structure ChOk (n:V)(Pos:V->Prop)(done:V->Prop)(c:List V):Prop where
 mem:∀X∈c,done X
 ed:∀e∈C4 c,Pos (e.2-e.1)/\∀X,done X->Lft n Pos e.1 e.2 X
 bend:rX n c
 last:∀X,done X->∀z,c.getLast?=some z->X=z\/Pos (X-z)
theorem Row.ac7 {done:V->Prop}(hd:∀X,done X->T X)(hx:Pos x)(hn:e9 n x=0):∀(c:List V),(∀X∈c,done X)->(∀e∈C4 c,Pos (e.2-e.1))->rX n c->(∀b a r,c=b::a::r->0<i6 n (b-a) x)->∀e∈C4 c,0<i6 n (e.2-e.1) x
 |[],_,_,_,_,e,he=>by cases he
 |[_],_,_,_,_,e,he=>by cases he
 |[b,a],_,_,_,h,e,he=>by simp[C4]at he;subst he;exact h b a [] rfl
 |b::a::a'::r,hm,hp,hb,h,e,he=>by
  have hba:=h b a _ rfl;rcases aAd.mp he with q|q
  ·subst q;exact hba
  ·refine Row.ac7 hd hx hn (a::a'::r) (λX hX=>hm X (aAe _ hX)) (λe he=>hp e (M4 he)) hb.tail ?_ e q;intro b1 a1 r1 e1;injection e1 with e1 e2;injection e2 with e2 e3;subst e1 e2;have p1:=hp (a',a) (M4 (by simp[C4]));have p2:=hp (a,b) (by simp[C4]);exact F.cone.tr p1 p2 hx (C3 F.nz (F.pl _ _ (hd _ (hm _ (by simp))) (hd _ (hm _ (by simp)))) (F.pl _ _ (hd _ (hm _ (by simp))) (hd _ (hm _ (by simp)))) hn) hb.1 (aAS hba)
theorem Row.weak (hu:Pos u)(hv:Pos v)(hw:Pos w)(pu:e9 n u=0)(pv:e9 n v=0)(pw:e9 n w=0)(h1:0<=i6 n u v)(h2:0<=i6 n v w):0<=i6 n u w:=by
 have hf:=C3 F.nz pu pv pw;by_cases z1:0<i6 n u v
 ·exact aAS (F.cone.tr hu hv hw hf z1 h2)
 ·by_cases z2:0<i6 n v w
  ·exact aAS (F.cone.tr' hu hv hw hf h1 z2)
  ·have e1:i6 n u v=0:=by lia
   have e2:i6 n v w=0:=by lia
   have h:=HI n u v w;rw[e1,e2,hf,t9,t9,t9,fV,fV]at h;by_cases z:i6 n w u=0
   ·rw[j4];lia
   ·exfalso;have e:v=0:=by have hx:=congrArg V.x h;have hy:=congrArg V.y h;have hz:=congrArg V.z h;simp at hx hy hz;exact ext ((aAD.mp hx).resolve_left z) ((aAD.mp hy).resolve_left z) ((aAD.mp hz).resolve_left z)
    rw[e]at hv;exact F.cone.irr hv
theorem Row.ad4 {done:V->Prop}(hd:∀X,done X->T X)(hP:T P)(ah:∀X,done X->Pos (P-X)):∀(c:List V),ChOk n Pos done c->c≠[]->
  (∀X q,c.head?=some q->done X->(X=q\/Pos (X-q))->0<=i6 n (P-q) (X-q))->
  ∃q r,M2 n P c=q::r/\ChOk n Pos done (q::r)/\(∀X,done X->(X=q\/Pos (X-q))->0<=i6 n (P-q) (X-q))/\∀a r',r=a::r'->0<turn n a q P
 |[],_,h,_=>absurd rfl h
 |[b],ok,_,hh=>⟨b,[],rfl,ok,λX hX h=>hh X b rfl hX h,λa r' e=>by cases e⟩
 |b::a::r,ok,_,hh=>by
  by_cases ht:turn n a b P<=0
  ·have e:M2 n P (b::a::r)=M2 n P (a::r):=by rw[M2,if_pos ht]
   rw[e];have db:=ok.mem b (by simp);have da:=ok.mem a (by simp);have eb:=ok.ed (a,b) (by simp[C4]);refine Row.ad4 hd hP ah (a::r) ⟨λX hX=>ok.mem X (aAe _ hX),λe he=>ok.ed e (M4 he),ok.bend.tail,λX hX z hz=>ok.last X hX z (by rw[aBd];exact hz)⟩ (by simp) ?_;intro X q hq hX hXq;have hq':a=q:=aAl hq;subst hq';have hu:Pos (b-a):=eb.1;have hp:Pos (P-b):=ah b db;have qg:Pos (P-a):=ah a da;have pu:e9 n (b-a)=0:=F.pl _ _ (hd _ db) (hd _ da);have pp:e9 n (P-b)=0:=F.pl _ _ hP (hd _ db);have ppa:e9 n (P-a)=0:=F.pl _ _ hP (hd _ da);unfold turn at ht;have hpu:0<=i6 n (P-b) (b-a):=by rw[j4];lia
   rcases F.tot X b (hd X hX) (hd b db)with z|z|z
   ·
    subst z;have e1:P-a=(P-X)+(X-a):=ext (by simp;lia) (by simp;lia) (by simp;lia);rw[e1,Y3,A8];lia
   ·
    have hx:=hh X b rfl hX (.inr z);have px:e9 n (X-b)=0:=F.pl _ _ (hd _ hX) (hd _ db);have hPX:Pos (P-X):=ah X hX;have key:i6 n (P-a) (X-a)*(P-b)=i6 n (P-b) (X-b)*(P-a)+i6 n (P-b) (b-a)*(P-X):=by
     have hr:=HI n (b-a) (X-b) (P-b);rw[C3 F.nz pu px pp,t9]at hr;have e1:P-a=(b-a)+(P-b):=ext (by simp;lia) (by simp;lia) (by simp;lia);have e2:X-a=(b-a)+(X-b):=ext (by simp;lia) (by simp;lia) (by simp;lia);have e3:P-X=(P-b)-(X-b):=ext (by simp;lia) (by simp;lia) (by simp;lia);rw[e1,e2,e3];generalize b-a=u at*
     generalize X-b=x at*
     generalize P-b=p at*
     rw[Y3,Z3,Z3,A8];have hx:=congrArg V.x hr;have hy:=congrArg V.y hr;have hz:=congrArg V.z hr;rw[j4 n p x]at hr hx hy hz;simp at hx hy hz;have s1:=j4 n p x;have s2:=j4 n p u;have s3:=j4 n u x;apply ext<;>simp<;>grind
    by_cases zz:0<=i6 n (P-a) (X-a)
    ·exact zz
    ·exfalso;have h1:Pos ((-i6 n (P-a) (X-a))*(P-b)):=F.cone.mul (by lia) hp;have h2:Pos (-i6 n (P-a) (X-a)*(P-b)+(i6 n (P-b) (X-b)*(P-a)+i6 n (P-b) (b-a)*(P-X))):=by
      by_cases y1:i6 n (P-b) (X-b)=0
      ·rw[y1,t9,fV];by_cases y2:i6 n (P-b) (b-a)=0
       ·rw[y2,t9,oD];exact h1
       ·exact F.cone.add h1 (F.cone.mul (by lia) hPX)
      ·exact F.cone.add h1 (F.cone.comb (by lia) hpu qg hPX)
     rw[<-key]at h2;have e0:-i6 n (P-a) (X-a)*(P-b)+i6 n (P-a) (X-a)*(P-b)=0:=by apply ext<;>simp<;>grind
     rw[e0]at h2;exact F.cone.irr h2
   ·
    rcases hXq with hXa|hXa
    ·subst hXa;rw[u8,dD];exact aCC _
    ·have hl:=(eb.2 X hX).1;have hpu':0<=i6 n (P-a) (b-a):=by have e1:P-a=(P-b)+(b-a):=ext (by simp;lia) (by simp;lia) (by simp;lia);rw[e1,Y3,A8];lia
     exact F.weak qg hu hXa ppa pu (F.pl _ _ (hd _ hX)<|hd _ da) hpu' hl
  ·have e:M2 n P (b::a::r)=b::a::r:=by rw[M2,if_neg ht]
   refine⟨b,a::r,e,ok,λX hX h=>hh X b rfl hX h,λa' r' e'=>?_⟩;injection e' with e1 _;subst e1
   lia
theorem Row.push {done:V->Prop}(hd:∀X,done X->T X)(hP:T P)(ah:∀X,done X->Pos (P-X))(ok:ChOk n Pos done c)(hc:c≠[])(hh:∀X q,c.head?=some q->done X->X=q\/Pos (q-X)):
  ChOk n Pos (λX=>done X\/X=P) (P::M2 n P c):=by
 obtain⟨q,r,e,me,hq,ht⟩:=F.ad4 hd hP ah c ok hc (λX q hq hX h=>by
  rcases h with h|h
  ·subst h;rw[u8,dD];exact aCC _
  ·exfalso;rcases hh X q hq hX with z|z
   ·subst z;rw[u8]at h;exact F.cone.irr h
   ·have:=F.cone.add h z;have e0:X-q+(q-X)=0:=ext (by simp;lia) (by simp;lia) (by simp;lia);rw[e0]at this;exact F.cone.irr this)
 rw[e];have dq:=me.mem q (by simp);have hpq:Pos (P-q):=ah q dq;have ppq:e9 n (P-q)=0:=F.pl _ _ hP (hd _ dq);refine⟨λX hX=>?_,λg he=>?_,?_,λX hX z hz=>?_⟩
 ·rcases aAd.mp hX with h|h
  ·exact .inr h
  ·exact .inl (me.mem X h)
 ·rcases aAd.mp he with h|h
  ·subst h;refine⟨hpq,λX hX=>?_⟩;rcases hX with hX|hX
   ·rcases F.tot X q (hd _ hX) (hd _ dq)with z|z|z
    ·subst z;exact⟨by rw[u8,dD];exact aCC _,λ_=>⟨.inl rfl,.inr hpq⟩⟩
    ·exact⟨hq X hX (.inr z),λ_=>⟨.inr z,.inr (ah X hX)⟩⟩
    ·
     have:0<i6 n (P-q) (X-q):=by
      match r,ht,me with
      |[],_,me=>
       rcases me.last X hX q rfl with y|y
       ·subst y;rw[u8]at z;exact absurd z F.cone.irr
       ·exfalso;have:=F.cone.add y z;have e0:X-q+(q-X)=0:=ext (by simp;lia) (by simp;lia) (by simp;lia);rw[e0]at this;exact F.cone.irr this
      |a::r',ht,me=>
       have h1:=ht a r' rfl;unfold turn at h1;have da:=me.mem a (by simp);have ea:=me.ed (a,q) (by simp[C4]);have hl:=(ea.2 X hX).1;have e1:X-a=(q-a)-(q-X):=ext (by simp;lia) (by simp;lia) (by simp;lia);dsimp only at hl;rw[e1,KE,A8]at hl;have ip:0<=i6 n (q-X) (q-a):=by rw[j4];lia
       have:=F.cone.tr' (a:=n) z ea.1 hpq (C3 F.nz (F.pl _ _ (hd _ dq)<|hd _ hX) (F.pl _ _ (hd _ dq)<|hd _ da) ppq) ip h1;have e2:X-q=-(q-X):=ext (by simp;lia) (by simp;lia) (by simp;lia);rw[e2,G5,j4];lia
     exact⟨aAS this,λz=>by dsimp only at z;lia⟩
   ·subst hX;exact⟨by rw[A8];exact aCC _,λ_=>⟨.inr hpq,.inl rfl⟩⟩
  ·
   have hed:=me.ed g h;refine⟨hed.1,λX hX=>?_⟩;rcases hX with hX|hX
   ·exact hed.2 X hX
   ·subst hX;have h1:=F.ac7 hd hpq ppq (q::r) me.mem (λe he=>(me.ed e he).1) me.bend (λb a r' e'=>by injection e' with e1 e2;subst e1;exact ht a r' e2) g h
    have h2:=(hed.2 q dq).1;have:0<i6 n (g.2-g.1) (X-g.1):=by have e1:X-g.1=(q-g.1)+(X-q):=ext (by simp;lia) (by simp;lia) (by simp;lia);rw[e1,Z3];lia
    exact⟨aAS this,λz=>by lia⟩
 ·match r,ht,me with
  |[],_,_=>trivial
  |a::r',ht,me=>exact⟨ht a r' rfl,me.bend⟩
 ·rcases hX with hX|hX
  ·exact me.last X hX z (by rw[aBd]at hz;exact hz)
  ·subst hX;have hz':(q::r).getLast?=some z:=by rw[aBd]at hz;exact hz
   exact .inr (ah z<|me.mem z<|aEn hz')
end
end G
namespace G
section
variable{n:V} {Pos:V->Prop} {T:V->Prop} (F:Row n Pos T)
include F
theorem ChOk.congr {done done':V->Prop}(ok:ChOk n Pos done c)(h:∀X,done X↔done' X):ChOk n Pos done' c:=
 ⟨λX hX=>(h X).mp (ok.mem X hX),λe he=>⟨(ok.ed e he).1,λX hX=>(ok.ed e he).2 X ((h X).mpr hX)⟩,ok.bend,λX hX=>ok.last X ((h X).mpr hX)⟩
theorem Row.fold:∀(rest:List V) (done:V->Prop) (c:List V),ChOk n Pos done c->c≠[]->(∀X q,c.head?=some q->done X->X=q\/Pos (q-X))->(∀X,done X->T X)->(∀X∈rest,T X)->
  (∀X Y,done X->Y∈rest->Pos (Y-X))->rest.Pairwise (λa b=>Pos (b-a))->
  ChOk n Pos (λX=>done X\/X∈rest) (rest.foldl (λc P=>P::M2 n P c) c)/\rest.foldl (λc P=>P::M2 n P c) c≠[]/\(∀X q,(rest.foldl (λc P=>P::M2 n P c) c).head?=some q->(done X\/X∈rest)->X=q\/Pos (q-X))
 |[],done,c,ok,hc,hh,hd,ht,ah,hs=>⟨ChOk.congr F ok λX=>by simp,hc,λX q hq hX=>by
   rcases hX with hX|hX
   ·exact hh X q hq hX
   ·cases hX⟩
 |P::rest,done,c,ok,hc,hh,hd,ht,ah,hs=>by
  have hP:=ht P (by simp);have me:=F.push hd hP (λX hX=>ah X P hX (by simp)) ok hc hh;have jn:=aAw.mp hs;obtain⟨h1,h2,h3⟩:=Row.fold rest (λX=>done X\/X=P) (P::M2 n P c) me (by simp) (λX q hq hX=>by
    have hq':P=q:=aAl hq;subst hq';rcases hX with hX|hX
    ·exact .inr (ah X P hX (by simp))
    ·exact .inl hX) (λX hX=>by
    rcases hX with hX|hX
    ·exact hd X hX
    ·subst hX;exact hP) (λX hX=>ht X (aAe _ hX)) (λX Y hX hY=>by
    rcases hX with hX|hX
    ·exact ah X Y hX (aAe _ hY)
    ·subst hX;exact jn.1 Y hY) jn.2
  have e:∀X,((done X\/X=P)\/X∈rest)↔(done X\/X∈P::rest):=λX=>by simp[or_assoc]
  exact⟨ChOk.congr F h1 e,h2,λX q hq hX=>h3 X q hq ((e X).mpr hX)⟩
theorem Row.ad0 (ai:ps≠[])(ht:∀X∈ps,T X)(hs:ps.Pairwise (λa b=>Pos (b-a))):
  ChOk n Pos (λX=>X∈ps) (x8 n ps)/\x8 n ps≠[]/\(∀X q,(x8 n ps).head?=some q->X∈ps->X=q\/Pos (q-X)):=by
 match ps,ai with
 |p::rest,_=>
  have jn:=aAw.mp hs;have ok:ChOk n Pos (λX=>X=p) [p]:=⟨λX hX=>by simpa using hX,λe he=>by simp[C4]at he,trivial,λX hX z hz=>by simp at hz;subst hz;exact .inl hX⟩
  obtain⟨h1,h2,h3⟩:=F.fold rest (λX=>X=p) [p] ok (by simp) (λX q hq hX=>by have hq':p=q:=aAl hq;subst hq';exact .inl hX) (λX hX=>by subst hX;exact ht _ (by simp)) (λX hX=>ht X (aAe _ hX)) (λX Y hX hY=>by subst hX;exact jn.1 Y hY) jn.2
  have e:∀X,(X=p\/X∈rest)↔X∈p::rest:=λX=>by simp
  refine⟨ChOk.congr F h1 e,h2,λX q hq hX=>h3 X q hq ((e X).mpr hX)⟩
end
def i8 (n:V)(ts:List V):List V:=(x8 n ts).reverse.dropLast++(x8 n ts.reverse).reverse.dropLast
def q8:List V->List (V×V)
 |a::b::r=>(a,b)::q8 (b::r)
 |_=>[]
theorem lC:∀(l:List V) (a b:V),q8 (l++[a]++[b])=q8 (l++[a])++[(a,b)]
 |[],a,b=>rfl
 |[x],a,b=>rfl
 |x::y::l,a,b=>by have:=lC (y::l) a b;simp only[aAF,q8]at this⊢;rw[this]
theorem fD:∀c:List V,q8 c.reverse=(C4 c).reverse
 |[]=>rfl
 |[_]=>rfl
 |b::a::r=>by
  have ih:=fD (a::r);rw[aAQ,aAQ]at*
  rw[lC,ih,C4,aAQ]
theorem lJ:∀(l:List V) (a:V) (m:List V),q8 (l++a::m)=q8 (l++[a])++q8 (a::m)
 |[],a,m=>by cases m<;>rfl
 |[x],a,m=>rfl
 |x::y::l,a,m=>by have:=lJ (y::l) a m;simp only[aAF,q8]at this⊢;rw[this]
def T2 (l:List V):List (V×V):=l.zip (l.tail++l.take 1)
theorem oR:∀(l:List V) (z:V),l.zip (l.tail++[z])=q8 (l++[z])
 |[],z=>rfl
 |[a],z=>rfl
 |a::b::r,z=>by have:=oR (b::r) z;simp only[List.tail_cons,aAF,q8,aBW]at this⊢;rw[this]
def V2:T2 (a::l)=q8 (a::l++[a]):=oR (a::l) a
def IX (h1:x8 n ts=M::c)(h2:x8 n ts.reverse=m::d)(h3:(M::c).getLast?=some m)(h4:(m::d).getLast?=some M)(hc:c≠[]):
  T2 (i8 n ts)=(C4 (x8 n ts)).reverse++(C4 (x8 n ts.reverse)).reverse:=by
 rw[<-fD,<-fD];unfold i8;rw[h1,h2,aAQ,aAQ,aBH,aBH];have e1:∃c',c.reverse=m::c':=by
  have:c.getLast?=some m:=by
   match c,hc with
   |x::c,_=>rw[aBd]at h3;exact h3
  rw[<-aEK]at this;match hh:c.reverse,this with
  |x::r,this=>exact⟨r,by rw[show x=m from aAl this]⟩
 obtain⟨c',e1⟩:=e1;have e2:∃d',d.reverse++[m]=M::d':=by
  have:(m::d).reverse.head?=some M:=by rw[aEK];exact h4
  rw[aAQ]at this;match hh:d.reverse++[m],this with
  |x::r,this=>exact⟨r,by rw[show x=M from aAl this]⟩
 obtain⟨d',e2⟩:=e2;have e3:c.reverse++d.reverse=m::(c'++d.reverse):=by rw[e1];rfl
 rw[e3,V2];have e4:m::(c'++d.reverse)++[m]=c.reverse++(d.reverse++[m]):=by rw[e1];simp
 rw[e4,e2,lJ]
end G
namespace G
def n9 (a b:V):-(a-b)=b-a:=ext (by simp;lia) (by simp;lia) (by simp;lia)
def u9:Q3 (a-b)↔d6 (b-a):=by unfold Q3;rw[n9]
def N7 (h:d6 (a-a)):False:=by rw[u8]at h;exact z8.irr h
def v8 (h:d6 (a-b))(h':d6 (b-a)):False:=by have:=z8.add h h';have e0:a-b+(b-a)=0:=ext (by simp;lia) (by simp;lia) (by simp;lia);rw[e0]at this;exact z8.irr this
def V7 (a b:V):a=b\/d6 (a-b)\/d6 (b-a):=by
 rcases TM (a-b)with h|h|h
 ·exact .inr (.inl h)
 ·refine .inl (ext ?_ ?_ ?_)
  ·have:=congrArg V.x h;simp at this;lia
  ·have:=congrArg V.y h;simp at this;lia
  ·have:=congrArg V.z h;simp at this;lia
 ·exact .inr (.inr (u9.mp h))
def UX (P Q X:V):Prop:=(d6 (Q-P)->(X=P\/d6 (X-P))/\(X=Q\/d6 (Q-X)))/\(d6 (P-Q)->(X=P\/d6 (P-X))/\(X=Q\/d6 (X-Q)))
structure EdgeOf (n:V)(T:V->Prop)(P Q:V):Prop where
 p:T P
 q:T Q
 ne:P≠Q
 left:∀X,T X->0<=i6 n (Q-P) (X-P)
 btw:∀X,T X->i6 n (Q-P) (X-P)=0->UX P Q X
section
variable{n:V} {T:V->Prop}
def EdgeOf.next (h:EdgeOf n T P Q)(h':EdgeOf n T P R):Q=R:=by
 have h1:=h.left R h'.q;have h2:=h'.left Q h.q;rw[j4]at h2;have z1:i6 n (Q-P) (R-P)=0:=by lia
 have z2:i6 n (R-P) (Q-P)=0:=by rw[j4];lia
 have b1:=h.btw R h'.q z1;have b2:=h'.btw Q h.q z2;rcases V7 Q P with e|e|e
 ·exact absurd e.symm h.ne
 ·have c1:=b1.1 e;have c2:d6 (R-P):=c1.1.resolve_left (aCl h'.ne);rcases c1.2 with q|q
  ·exact q.symm
  ·rcases(b2.1 c2).2 with q'|q'
   ·exact q'
   ·exact(v8 q q').elim
 ·have c1:=b1.2 e;have c2:d6 (P-R):=c1.1.resolve_left (aCl h'.ne);rcases c1.2 with q|q
  ·exact q.symm
  ·rcases(b2.2 c2).2 with q'|q'
   ·exact q'
   ·exact(v8 q q').elim
def oV (n P Q X:V):i6 n (Q-P) (X-P)=i6 n (Q-P) (X-Q):=by have e:X-P=(X-Q)+(Q-P):=ext (by simp;lia) (by simp;lia) (by simp;lia);rw[e,Z3,A8];lia
end
theorem AE {Pos:V->Prop}(X:V):∀(c:List V),(∀Y∈c,X=Y\/Pos (X-Y)\/Pos (Y-X))->(∀q,c.head?=some q->X=q\/Pos (q-X))->(∀z,c.getLast?=some z->X=z\/Pos (X-z))->c≠[]->
  (∀u,Pos u->Pos (-u)->False)->X∈c\/∃a b,(a,b)∈C4 c/\Pos (X-a)/\Pos (b-X)
 |[],_,_,_,h,_=>absurd rfl h
 |[q],_,h1,h2,_,as=>by
  rcases h1 q rfl with e|e
  ·exact .inl (by simp[e])
  ·rcases h2 q rfl with e'|e'
   ·exact .inl (by simp[e'])
   ·exact(as _ e (by rw[n9];exact e')).elim
 |b::a::r,ht,h1,h2,_,as=>by
  rcases h1 b rfl with e|e
  ·exact .inl (by simp[e])
  ·rcases ht a (by simp)with y|y|y
   ·exact .inl (by simp[y])
   ·exact .inr ⟨a,b,by simp[C4],y,e⟩
   ·rcases AE X (a::r) (λY hY=>ht Y (aAe _ hY)) (λq hq=>by have:a=q:=aAl hq;subst this;exact .inr y) (λz hz=>h2 z (by rw[aBd];exact hz)) (by simp) as with h|⟨a',b',h,h'⟩
    ·exact .inl (aAe _ h)
    ·exact .inr ⟨a',b',M4 h,h'⟩
def Row.ad6 {Pos:V->Prop}{T:V->Prop}(F:Row n Pos T)(ha:T a)(hb:T b)(hP:T P)(hQ:T Q)(h1:Pos (P-a))(h2:Pos (b-P))(h3:Pos (Q-P))(h4:0<=i6 n (b-a) (P-a))(h5:0<i6 n (Q-P) (a-P))(h6:0<=i6 n (Q-P) (b-P)):False:=by
 have e1:i6 n (Q-P) (a-P)=i6 n (P-a) (Q-P):=by have e:a-P=-(P-a):=(n9 _ _).symm;rw[e,G5,j4];lia
 rw[e1]at h5;have:=F.cone.tr h1 h3 h2 (C3 F.nz (F.pl _ _ hP ha) (F.pl _ _ hQ hP)<|F.pl _ _ hb hP) h5 h6;have e2:b-a=(b-P)+(P-a):=ext (by simp;lia) (by simp;lia) (by simp;lia);rw[e2,Y3,A8,j4]at h4
 lia
structure Sheet (n:V)(ts:List V):Prop where
 nz:n≠0
 pl:∀X∈ts,∀Y∈ts,e9 n (X-Y)=0
 ord:ts.Pairwise (λa b=>d6 (b-a))
 two:∃X∈ts,∃Y∈ts,X≠Y
section
variable{n:V} {ts:List V} (S:Sheet n ts)
include S
theorem Sheet.row:Row n d6 (λX=>X∈ts):=⟨z8,S.nz,λX Y hX hY=>S.pl X hX Y hY,λX Y _ _=>V7 X Y⟩
theorem Sheet.ae6:Row n Q3 (λX=>X∈ts):=⟨iA,S.nz,λX Y hX hY=>S.pl X hX Y hY,λX Y _ _=>by
 rcases V7 X Y with h|h|h
 ·exact .inl h
 ·exact .inr (.inr (u9.mpr h))
 ·exact .inr (.inl (u9.mpr h))⟩
theorem Sheet.ne:ts≠[]:=by obtain⟨X,hX,_⟩:=S.two;intro e;rw[e]at hX;cases hX
theorem Sheet.ab3:ChOk n d6 (λX=>X∈ts) (x8 n ts)/\x8 n ts≠[]/\(∀X q,(x8 n ts).head?=some q->X∈ts->X=q\/d6 (q-X)):=
 S.row.ad0 S.ne (λ_ h=>h) S.ord
theorem Sheet.ab5:ChOk n Q3 (λX=>X∈ts) (x8 n ts.reverse)/\x8 n ts.reverse≠[]/\(∀X q,(x8 n ts.reverse).head?=some q->X∈ts->X=q\/Q3 (q-X)):=by
 have h:=S.ae6.ad0 (ps:=ts.reverse) (by simpa using S.ne) (λX h=>by simpa using h) (by rw[aEa];exact S.ord.imp λh=>u9.mpr h)
 obtain⟨h1,h2,h3⟩:=h;exact⟨ChOk.congr S.ae6 h1 λX=>by simp,h2,λX q hq hX=>h3 X q hq (by simpa using hX)⟩
theorem Sheet.ae7 (h:(a,b)∈C4 (x8 n ts))(ha:a∈ts)(hb:b∈ts):EdgeOf n (λX=>X∈ts) a b/\d6 (b-a):=by obtain⟨e1,e2⟩:=S.ab3.1.ed _ h;dsimp only at e1 e2;refine⟨⟨ha,hb,λe=>by subst e;exact N7 e1,λX hX=>(e2 X hX).1,λX hX z=>⟨λ_=>(e2 X hX).2 z,λy=>(v8 e1 y).elim⟩⟩,e1⟩
theorem Sheet.ae8 (h:(a,b)∈C4 (x8 n ts.reverse))(ha:a∈ts)(hb:b∈ts):EdgeOf n (λX=>X∈ts) a b/\d6 (a-b):=by obtain⟨e1,e2⟩:=S.ab5.1.ed _ h;dsimp only at e1 e2;have e1':=u9.mp e1;refine⟨⟨ha,hb,λe=>by subst e;exact N7 e1',λX hX=>(e2 X hX).1,λX hX z=>⟨λy=>(v8 e1' y).elim,λ_=>?_⟩⟩,e1'⟩;obtain⟨q1,q2⟩:=(e2 X hX).2 z;exact⟨q1.imp id u9.mp,q2.imp id u9.mp⟩
theorem T1 (h:(a,b)∈C4 c):a∈c/\b∈c:=by
 induction c with
 |nil=>cases h
 |cons x c ih=>
  match c,h,ih with
  |[],h,_=>cases h
  |y::r,h,ih=>
   rcases aAd.mp h with e|e
   ·cases e;simp
   ·have:=ih e;exact⟨aAe _ this.1,aAe _ this.2⟩
theorem Sheet.ends:∃m M c d,m∈ts/\M∈ts/\d6 (M-m)/\(∀X∈ts,X=m\/d6 (X-m))/\(∀X∈ts,X=M\/d6 (M-X))/\x8 n ts=M::c/\x8 n ts.reverse=m::d/\(M::c).getLast?=some m/\(m::d).getLast?=some M/\c≠[]/\d≠[]:=by
 obtain⟨o1,n1,h1⟩:=S.ab3;obtain⟨o2,n2,h2⟩:=S.ab5;obtain⟨M,c,e1⟩:=aED n1;obtain⟨m,d,e2⟩:=aED n2;have hM:M∈ts:=o1.mem M (by rw[e1];simp);have hm:m∈ts:=o2.mem m (by rw[e2];simp);have lM:∀X∈ts,X=M\/d6 (M-X):=λX hX=>h1 X M (by rw[e1];rfl) hX;have lm:∀X∈ts,X=m\/d6 (X-m):=λX hX=>(h2 X m (by rw[e2];rfl) hX).imp id u9.mp;obtain⟨z,hz⟩:∃z,(M::c).getLast?=some z:=by simp[aEL]
 obtain⟨y,hy⟩:∃z,(m::d).getLast?=some z:=by simp[aEL]
 have zm:z=m:=by
  have zt:z∈ts:=o1.mem z (by rw[e1];exact aEn hz);rcases o1.last m hm z (by rw[e1];exact hz)with e|e
  ·exact e.symm
  ·rcases lm z zt with e'|e'
   ·exact e'
   ·exact(v8 e e').elim
 have yM:y=M:=by
  have yt:y∈ts:=o2.mem y (by rw[e2];exact aEn hy);rcases o2.last M hM y (by rw[e2];exact hy)with e|e
  ·exact e.symm
  ·rcases lM y yt with e'|e'
   ·exact e'
   ·exact(v8 (u9.mp e) e').elim
 subst zm yM;have mM:d6 (y-z):=by
  obtain⟨X,hX,Y,hY,ne⟩:=S.two;rcases lm y hM with e|e
  ·exfalso;subst e;have k:∀W∈ts,W=y:=λW hW=>by
    rcases lm W hW with e|e
    ·exact e
    ·rcases lM W hW with e'|e'
     ·exact e'
     ·exact(v8 e e').elim
   exact ne ((k X hX).trans (k Y hY).symm)
  ·exact e
 refine⟨z,y,c,d,hm,hM,mM,lm,lM,e1,e2,hz,hy,λe=>?_,λe=>?_⟩
 ·subst e;have:y=z:=by simpa using hz
  subst this;exact N7 mM
 ·subst e;have:z=y:=by simpa using hy
  subst this;exact N7 mM
theorem Sheet.pair (h:(P,Q)∈T2 (i8 n ts)):EdgeOf n (λX=>X∈ts) P Q:=by
 obtain⟨m,M,c,d,hm,hM,mM,lm,lM,e1,e2,h3,h4,hc,hd⟩:=S.ends;rw[IX e1 e2 h3 h4 hc,aAI,aCd,aCd]at h;rcases h with h|h
 ·have:=T1 S h;exact(S.ae7 h (S.ab3.1.mem _ this.1)<|S.ab3.1.mem _ this.2).1
 ·have:=T1 S h;exact(S.ae8 h (S.ab5.1.mem _ this.1)<|S.ab5.1.mem _ this.2).1
theorem dG (h:P∈l):∃Q,(P,Q)∈T2 l:=by
 obtain⟨i,hi,e⟩:=aBA h;have hl:l.length=(l.tail++l.take 1).length:=by
  match l,hi with
  |a::l,_=>simp
 refine⟨(l.tail++l.take 1)[i]'(by lia),?_⟩;unfold T2;refine List.mem_of_getElem (i:=i) (h:=by rw[aFE];lia) ?_;rw[aFq,e]
theorem Sheet.ac3 (h:EdgeOf n (λX=>X∈ts) P Q):P∈i8 n ts:=by
 obtain⟨m,M,c,d,hm,hM,mM,lm,lM,e1,e2,h3,h4,hc,hd⟩:=S.ends;obtain⟨o1,n1,t1⟩:=S.ab3;obtain⟨o2,n2,t2⟩:=S.ab5;unfold i8;rw[aAI,e1,e2,aAQ,aAQ,aBH,aBH,aCd,aCd];rcases V7 Q P with e|e|e
 ·exact absurd e.symm h.ne
 ·
  left;rcases AE (Pos:=d6) P (x8 n ts) (λY _=>V7 P Y) (λq hq=>t1 P q hq h.p) (λz hz=>o1.last P h.p z hz) n1 (λu a b=>by have:=z8.add a b;have e0:u+-u=0:=ext (by simp;lia) (by simp;lia) (by simp;lia);rw[e0]at this;exact z8.irr this)with r|⟨a,b,r,r1,r2⟩
  ·rw[e1]at r;rcases aAd.mp r with q|q
   ·subst q;rcases lM Q h.q with y|y
    ·exact absurd y.symm h.ne
    ·exact(v8 e y).elim
   ·exact q
  ·exfalso;have mm:=T1 S r;have ta:=o1.mem _ mm.1;have tb:=o1.mem _ mm.2;have z5:=h.left a ta;have z5':i6 n (Q-P) (a-P)≠0:=λz=>by
    rcases((h.btw a ta z).1 e).1 with y|y
    ·subst y;exact N7 r1
    ·exact v8 r1 y
   exact S.row.ad6 ta tb h.p h.q r1 r2 e ((o1.ed _ r).2 P h.p).1 (by lia) (h.left b tb)
 ·right;rcases AE (Pos:=Q3) P (x8 n ts.reverse) (λY _=>S.ae6.tot P Y h.p (by rename_i hY;exact o2.mem Y hY)) (λq hq=>t2 P q hq h.p) (λz hz=>o2.last P h.p z hz) n2 (λu a b=>by have:=iA.add a b;have e0:u+-u=0:=ext (by simp;lia) (by simp;lia) (by simp;lia);rw[e0]at this;exact iA.irr this)with r|⟨a,b,r,r1,r2⟩
  ·rw[e2]at r;rcases aAd.mp r with q|q
   ·subst q;rcases lm Q h.q with y|y
    ·exact absurd y.symm h.ne
    ·exact(v8 e y).elim
   ·exact q
  ·exfalso;have mm:=T1 S r;have ta:=o2.mem _ mm.1;have tb:=o2.mem _ mm.2;have z5:=h.left a ta;have r1':=u9.mp r1;have z5':i6 n (Q-P) (a-P)≠0:=λz=>by
    rcases((h.btw a ta z).2 e).1 with y|y
    ·subst y;exact N7 r1'
    ·exact v8 r1' y
   exact S.ae6.ad6 ta tb h.p h.q r1 r2 (u9.mpr e) ((o2.ed _ r).2 P h.p).1 (by lia) (h.left b tb)
theorem Sheet.aa1:(P,Q)∈T2 (i8 n ts)↔EdgeOf n (λX=>X∈ts) P Q:=by
 refine⟨S.pair,λh=>?_⟩;obtain⟨R,hR⟩:=dG S (S.ac3 h);have:=(S.pair hR).next h
 subst this;exact hR
end
end G
namespace G
theorem L4 {Pos:V->Prop}(C:Cone Pos):∀(c:List V),(∀e∈C4 c,Pos (e.2-e.1))->c.Pairwise (λb a=>Pos (b-a))
 |[],_=>aGj
 |[x],_=>aDQ _ _
 |b::a::r,h=>by
  have ih:=L4 C (a::r) (λe he=>h e (M4 he));have h0:=h (a,b) (by simp[C4]);refine aAw.mpr ⟨λy hy=>?_,ih⟩;rcases aAd.mp hy with e|e
  ·subst e;exact h0
  ·have:=(aAw.mp ih).1 y e;have s:=C.add h0 this;have e0:b-a+(a-y)=b-y:=ext (by simp;lia) (by simp;lia) (by simp;lia);dsimp only at s
   rwa [e0]at s
theorem jH:∀{h:V} {c:List V} {X:V},X∈c->∃b,(X,b)∈C4 (h::c)
 |h,[],X,hX=>by cases hX
 |h,a::r,X,hX=>by
  rcases aAd.mp hX with e|e
  ·subst e;exact⟨h,by simp[C4]⟩
  ·obtain⟨b,hb⟩:=jH (h:=a) e;exact⟨b,M4 hb⟩
section
variable{n:V} {ts:List V} (S:Sheet n ts)
include S
theorem Sheet.aa4 (h:X∈i8 n ts):X∈ts:=by obtain⟨Q,hQ⟩:=dG S h;exact(S.pair hQ).p
theorem Sheet.aa3:(i8 n ts).Nodup:=by
 obtain⟨m,M,c,d,hm,hM,mM,lm,lM,e1,e2,h3,h4,hc,hd⟩:=S.ends;obtain⟨o1,n1,t1⟩:=S.ab3;obtain⟨o2,n2,t2⟩:=S.ab5;unfold i8;rw[e1,e2,aAQ,aAQ,aBH,aBH];have p1:=L4 z8 (x8 n ts) λe he=>(o1.ed e he).1;have p2:=L4 iA (x8 n ts.reverse) λe he=>(o2.ed e he).1;rw[e1]at p1;rw[e2]at p2;have q1:=(aAw.mp p1).2;have q2:=(aAw.mp p2).2;rw[aCX];refine⟨?_,?_,?_⟩
 ·rw[aCe,aEa];exact q1.imp λ{a b} h e=>by subst e;exact N7 h
 ·rw[aCe,aEa];exact q2.imp λ{a b} h e=>by subst e;exact N7 (u9.mp h)
 ·intro x hx y hy e;subst e;rw[aCd]at hx hy;obtain⟨b,hb⟩:=jH (h:=M) hx;obtain⟨b',km⟩:=jH (h:=m) hy;rw[<-e1]at hb;rw[<-e2]at km;have m1:=T1 S hb;have m2:=T1 S km;obtain⟨g1,l1⟩:=S.ae7 hb (o1.mem _ m1.1) (o1.mem _ m1.2);obtain⟨g2,l2⟩:=S.ae8 km (o2.mem _ m2.1) (o2.mem _ m2.2);have:=g1.next g2;subst this;exact v8 l1 l2
theorem Sheet.aa8:∃m r,i8 n ts=m::r/\m∈ts/\∀X∈ts,X=m\/d6 (X-m):=by
 obtain⟨m,M,c,d,hm,hM,mM,lm,lM,e1,e2,h3,h4,hc,hd⟩:=S.ends;have e3:∃c',c.reverse=m::c':=by
  have:c.getLast?=some m:=by
   match c,hc with
   |x::c,_=>rw[aBd]at h3;exact h3
  rw[<-aEK]at this;match hh:c.reverse,this with
  |x::r,this=>exact⟨r,by rw[show x=m from aAl this]⟩
 obtain⟨c',e3⟩:=e3;refine⟨m,c'++d.reverse,?_,hm,lm⟩;unfold i8;rw[e1,e2,aAQ,aAQ,aBH,aBH,e3];rfl
theorem DU (h:(P,Q)∈T2 l):P∈l/\Q∈l:=by
 have h':=aDM h;refine⟨h'.1,?_⟩;match l,h'.2 with
 |a::r,z=>simpa[or_comm]using z
theorem Sheet.strict (h:EdgeOf n (λX=>X∈ts) P Q)(hX:X∈i8 n ts)(h1:X≠P)(h2:X≠Q):0<i6 n (Q-P) (X-P):=by
 have tX:=S.aa4 hX;have h0:=h.left X tX;by_cases z:i6 n (Q-P) (X-P)=0
 ·exfalso;have b:=h.btw X tX z;obtain⟨Y,hY⟩:=dG S hX;have g:=S.pair hY;have l1:=g.left P h.p;have l2:=g.left Q h.q;rcases V7 Q P with e|e|e
  ·exact h.ne e.symm
  ·have b1:=b.1 e;have c1:=b1.1.resolve_left h1;have c2:=b1.2.resolve_left h2;have zz:i6 n (X-P) (Q-X)=0:=by have e1:Q-P=(Q-X)+(X-P):=ext (by simp;lia) (by simp;lia) (by simp;lia);rw[e1,Y3,A8,j4]at z;lia
   have l1':0<=i6 n (X-P) (Y-X):=by have e1:P-X=-(X-P):=(n9 _ _).symm;rw[e1,G5]at l1;rw[j4];lia
   rcases V7 Y X with y|y|y
   ·exact g.ne y.symm
   ·have w1:=S.row.weak c1 y c2 (S.pl _ tX _ h.p) (S.pl _ g.q _ tX) (S.pl _ h.q _ tX) l1' l2;by_cases p1:0<i6 n (X-P) (Y-X)
    ·have:=z8.tr c1 y c2 (C3 S.nz (S.pl _ tX _ h.p) (S.pl _ g.q _ tX)<|S.pl _ h.q _ tX) p1 l2
     lia
    ·have z1:i6 n (Y-X) (P-X)=0:=by have e1:P-X=-(X-P):=(n9 _ _).symm;rw[e1,G5,j4];lia
     rcases((g.btw P h.p z1).1 y).1 with k|k
     ·exact h1 k.symm
     ·exact v8 k c1
   ·have y':d6 (X-Y):=y;have m1:0<=i6 n (X-Y) (X-P):=by have e1:Y-X=-(X-Y):=(n9 _ _).symm;rw[e1,G5,j4]at l1';lia
    have m2:0<=i6 n (Q-X) (X-Y):=by have e1:Y-X=-(X-Y):=(n9 _ _).symm;rw[e1,Y7,j4]at l2;lia
    by_cases p1:0<i6 n (Q-X) (X-Y)
    ·have:=z8.tr c2 y' c1 (C3 S.nz (S.pl _ h.q _ tX) (S.pl _ tX _ g.q)<|S.pl _ tX _ h.p) p1 m1;rw[j4]at this;lia
    ·have z1:i6 n (Y-X) (Q-X)=0:=by have e1:Y-X=-(X-Y):=(n9 _ _).symm;rw[e1,Y7,j4];lia
     rcases((g.btw Q h.q z1).2 y').1 with k|k
     ·exact h2 k.symm
     ·exact v8 k c2
  ·have b1:=b.2 e;have c1:=b1.1.resolve_left h1;have c2:=b1.2.resolve_left h2;have zz:i6 n (P-X) (X-Q)=0:=by have e1:Q-P=-((P-X)+(X-Q)):=ext (by simp;lia) (by simp;lia) (by simp;lia);have e2:X-P=-(P-X):=(n9 _ _).symm;rw[e1,e2,Y7,G5,Y3,A8,j4]at z;lia
   rcases V7 Y X with y|y|y
   ·exact g.ne y.symm
   ·
    have m2:0<=i6 n (X-Q) (Y-X):=by have e1:Q-X=-(X-Q):=(n9 _ _).symm;rw[e1,G5,j4]at l2;lia
    by_cases p1:0<i6 n (X-Q) (Y-X)
    ·have:=z8.tr c2 y c1 (C3 S.nz (S.pl _ tX _ h.q) (S.pl _ g.q _ tX)<|S.pl _ h.p _ tX) p1 l1;rw[j4]at this;lia
    ·have z1:i6 n (Y-X) (Q-X)=0:=by have e1:Q-X=-(X-Q):=(n9 _ _).symm;rw[e1,G5,j4];lia
     rcases((g.btw Q h.q z1).1 y).1 with k|k
     ·exact h2 k.symm
     ·exact v8 k c2
   ·have y':d6 (X-Y):=y;have m1:0<=i6 n (P-X) (X-Y):=by have e1:Y-X=-(X-Y):=(n9 _ _).symm;rw[e1,Y7,j4]at l1;lia
    have m2:0<=i6 n (X-Y) (X-Q):=by have e1:Y-X=-(X-Y):=(n9 _ _).symm;have e2:Q-X=-(X-Q):=(n9 _ _).symm;rw[e1,e2,Y7,G5]at l2;lia
    by_cases p1:0<i6 n (P-X) (X-Y)
    ·have:=z8.tr c1 y' c2 (C3 S.nz (S.pl _ h.p _ tX) (S.pl _ tX _ g.q)<|S.pl _ tX _ h.q) p1 m2
     lia
    ·have z1:i6 n (Y-X) (P-X)=0:=by have e1:Y-X=-(X-Y):=(n9 _ _).symm;rw[e1,Y7,j4];lia
     rcases((g.btw P h.p z1).2 y').1 with k|k
     ·exact h1 k.symm
     ·exact v8 k c1
 ·lia
end
end G
namespace G
def iD {a:V}(h:a≠0):a.x≠0\/a.y≠0\/a.z≠0:=by
 by_cases p:a.x=0
 ·by_cases q:a.y=0
  ·by_cases r:a.z=0
   ·exact absurd (ext p q r) h
   ·exact .inr (.inr r)
  ·exact .inr (.inl q)
 ·exact .inl p
def A9 {a w:V}(ha:a≠0)(h:cr a w=0):∃k m:Int,0<k/\k*w=m*a:=by
 have h1:=congrArg V.x h;have h2:=congrArg V.y h;have h3:=congrArg V.z h;simp at h1 h2 h3;have key:∀k m:Int,k≠0->k*w=m*a->∃k m:Int,0<k/\k*w=m*a:=λk m hk e=>by
  by_cases p:0<k
  ·exact⟨k,m,p,e⟩
  ·refine⟨-k,-m,by lia,?_⟩;have q1:=congrArg V.x e;have q2:=congrArg V.y e;have q3:=congrArg V.z e;simp at q1 q2 q3;apply ext<;>simp<;>grind
 rcases iD ha with p|p|p
 ·exact key a.x w.x p (by apply ext<;>simp<;>grind)
 ·exact key a.y w.y p (by apply ext<;>simp<;>grind)
 ·exact key a.z w.z p (by apply ext<;>simp<;>grind)
def ConeM.ad2 {Pos:V->Prop}(C:ConeM a Pos)(ha:a≠0)(hw:Pos w):cr a w≠0:=λh=>by
 obtain⟨k,m,hk,e⟩:=A9 ha h;have h1:=C.inv (-m) (C.mul hk hw);rw[e]at h1;have e0:m*a+-m*a=0:=by apply ext<;>simp<;>grind
 rw[e0]at h1;exact C.irr h1
def D5 (a A:V):List V->V->V->V×V
 |[],up,out=>(up,out)
 |P::Ps,up,out=>if up=0\/0<e9 up (P-A)then D5 a A Ps (cr a (P-A)) P else D5 a A Ps up out
def QQ (a A:V)(Pos:V->Prop)(seen:V->Prop)(up out:V):Prop:=
 (up=0/\∀P,seen P->cr a (P-A)=0)\/(seen out/\Pos (out-A)/\up=cr a (out-A)/\∀P,seen P->i6 a (out-A) (P-A)<=0)
def gP (h:cr a w=0)(u:V):i6 a u w=0:=by
 have e:i6 a u w=-e9 (cr a w) u:=by simp[i6,e9];grind
 rw[e,h];simp[e9]
theorem rN {Pos:V->Prop}(C:ConeM a Pos)(ha:a≠0):∀(pts:List V) (seen:V->Prop) (up out:V),QQ a A Pos seen up out->(∀P,seen P->Pos (P-A)\/cr a (P-A)=0)->(∀P∈pts,Pos (P-A)\/cr a (P-A)=0)->
  QQ a A Pos (λP=>seen P\/P∈pts) (D5 a A pts up out).1 (D5 a A pts up out).2
 |[],seen,up,out,h,_,_=>by
  show QQ a A Pos _ up out;rcases h with⟨h1,h2⟩|⟨h1,h2,h3,h4⟩
  ·exact .inl ⟨h1,λP hP=>h2 P (by simpa using hP)⟩
  ·exact .inr ⟨.inl h1,h2,h3,λP hP=>h4 P (by simpa using hP)⟩
 |Q::pts,seen,up,out,h,hs,hp=>by
  have hQ:=hp Q (by simp);have stp:QQ a A Pos (λP=>seen P\/P=Q) (if up=0\/0<e9 up (Q-A)then(cr a<|Q-A)else up) (if up=0\/0<e9 up (Q-A)then Q else out):=by
   rcases h with⟨h1,h2⟩|⟨h1,h2,h3,h4⟩
   ·rw[if_pos (.inl h1),if_pos (.inl h1)];by_cases z:cr a (Q-A)=0
    ·exact .inl ⟨z,λP hP=>by
      rcases hP with hP|hP
      ·exact h2 P hP
      ·subst hP;exact z⟩
    ·refine .inr ⟨.inr rfl,hQ.resolve_right z,rfl,λP hP=>?_⟩;rcases hP with hP|hP
     ·rw[gP (h2 P hP)];exact aCC _
     ·subst hP;rw[A8];exact aCC _
   ·have ai:up≠0:=by rw[h3];exact C.ad2 ha h2
    have ed:e9 up (Q-A)=i6 a (out-A) (Q-A):=by rw[h3,R9]
    by_cases z:0<e9 up (Q-A)
    ·rw[if_pos (.inr z),if_pos (.inr z)];have hq:Pos (Q-A):=by
      rcases hQ with q|q
      ·exact q
      ·rw[ed,gP q]at z;lia
     refine .inr ⟨.inr rfl,hq,rfl,λP hP=>?_⟩;rcases hP with hP|hP
     ·by_cases zz:i6 a (Q-A) (P-A)<=0
      ·exact zz
      ·exfalso;have hP':Pos (P-A):=by
        rcases hs P hP with q|q
        ·exact q
        ·rw[gP q]at zz;lia
       have:=C.tr h2 hq hP' (by rw[<-ed];exact z) (by lia);have:=h4 P hP
       lia
     ·subst hP;rw[A8];exact aCC _
    ·rw[if_neg (by rintro(q|q);exact ai q;exact z q),if_neg (by rintro(q|q);exact ai q;exact z q)];refine .inr ⟨.inl h1,h2,h3,λP hP=>?_⟩;rcases hP with hP|hP
     ·exact h4 P hP
     ·subst hP;rw[<-ed];lia
  have r:=rN C ha pts (λP=>seen P\/P=Q) _ _ stp (λP hP=>by
   rcases hP with hP|hP
   ·exact hs P hP
   ·subst hP;exact hQ) (λP hP=>hp P (aAe _ hP))
  have e:D5 a A (Q::pts) up out=D5 a A pts (if up=0\/0<e9 up (Q-A)then(cr a<|Q-A)else up) (if up=0\/0<e9 up (Q-A)then Q else out):=by rw[D5];split<;>rfl
  rw[e];have ee:(λP=>(seen P\/P=Q)\/P∈pts)=(λP=>seen P\/P∈Q::pts):=by funext P;simp[or_assoc]
  rw[<-ee];exact r
def IK {Pos:V->Prop}(C:ConeM a Pos)(ha:a≠0)(hp:∀P∈pts,Pos (P-A)\/cr a (P-A)=0)(hx:∃P∈pts,Pos (P-A)):
  (D5 a A pts 0 A).2∈pts/\Pos ((D5 a A pts 0 A).2-A)/\∀P∈pts,i6 a ((D5 a A pts 0 A).2-A) (P-A)<=0:=by
 have h:=rN C ha pts (λ_=>False) 0 A (.inl ⟨rfl,λ_ h=>h.elim⟩) (λ_ h=>h.elim) hp;rcases h with⟨h1,h2⟩|⟨h1,h2,h3,h4⟩
 ·obtain⟨P,hP,hq⟩:=hx;exact absurd (h2 P<|.inr hP) (C.ad2 ha hq)
 ·exact⟨by simpa using h1,h2,λP hP=>h4 P (.inr hP)⟩
def v7 (v:V):Nat:=Nat.gcd (Nat.gcd v.x.natAbs v.y.natAbs) v.z.natAbs
def kF (v:V)(g:Int):V:=⟨v.x/g,v.y/g,v.z/g⟩
def cJ (n:V):Prop:=v7 n=1
def oA (k:Int)(v:V):v7 (k*v)=k.natAbs*v7 v:=by unfold v7;simp[Int.natAbs_mul,Nat.gcd_mul_left]
def GK (h:v7 v=0):v=0:=by unfold v7 at h;have h1:=Nat.gcd_eq_zero_iff.mp h;have h2:=Nat.gcd_eq_zero_iff.mp h1.1;exact ext (aEM.mp h2.1) (aEM.mp h2.2) (aEM.mp h1.2)
def NJ (v:V):(v7 v:Int)∣v.x/\(v7 v:Int)∣v.y/\(v7 v:Int)∣v.z:=by
 unfold v7;refine⟨?_,?_,?_⟩
 ·exact aEN.mpr (Nat.dvd_trans (aFr _ _)<|aFr _ _)
 ·exact aEN.mpr (Nat.dvd_trans (aFr _ _)<|Nat.gcd_dvd_right _ _)
 ·exact aEN.mpr (Nat.gcd_dvd_right _ _)
def iY (h:c≠0):0<(v7 c:Int)/\c=(v7 c:Int)*kF c (v7 c)/\cJ (kF c (v7 c)):=by
 have hg:v7 c≠0:=λz=>h (GK z);have hp:0<(v7 c:Int):=by lia
 obtain⟨d1,d2,d3⟩:=NJ c;have e:c=(v7 c:Int)*kF c (v7 c):=by
  apply ext
  ·show _=_*(c.x/_);rw[aEo d1]
  ·show _=_*(c.y/_);rw[aEo d2]
  ·show _=_*(c.z/_);rw[aEo d3]
 refine⟨hp,e,?_⟩;have:=congrArg v7 e;rw[oA]at this;simp only[Int.natAbs_natCast]at this;unfold cJ;have h2:v7 c*1=v7 c*v7 (kF c<|v7 c):=by lia
 exact(Nat.eq_of_mul_eq_mul_left (by lia) h2).symm
def cJ.ne (h:cJ n):n≠0:=λe=>by subst e;unfold cJ at h;exact absurd h (by decide)
def EJ {n m:V}{k l:Int}(hn:cJ n)(hm:cJ m)(hk:0<k)(hl:0<l)(e:k*n=l*m):n=m:=by
 have:=congrArg v7 e;rw[oA,oA,hn,hm]at this;have ekl:k=l:=by lia
 subst ekl;have h1:=congrArg V.x e;have h2:=congrArg V.y e;have h3:=congrArg V.z e;simp at h1 h2 h3;exact ext (aDB (by lia) h1) (aDB (by lia) h2) (aDB (by lia) h3)
def j0 (P Q R:V):V×Int:=let n:=kF (cr (Q-P)<|R-P) (v7<|cr (Q-P)<|R-P);(n,e9 n P)
structure IsFace (pts:List V)(n:V)(d:Int):Prop where
 prim:cJ n
 sup:∀X∈pts,e9 n X<=d
 three:∃A∈pts,∃B∈pts,∃C∈pts,e9 n A=d/\e9 n B=d/\e9 n C=d/\cr (B-A) (C-A)≠0
def S5 (hu:e9 n u=0)(hv:e9 n v=0):cr n (cr u v)=0:=by simp[e9]at hu hv;apply ext<;>simp<;>grind
def sZ (hc:c≠0)(h1:cr n c=0)(h2:cr m c=0):cr n m=0:=by
 have s1:cr c n=0:=by have:=congrArg V.x h1;have:=congrArg V.y h1;have:=congrArg V.z h1;simp at*;apply ext<;>simp<;>grind
 have s2:cr c m=0:=by have:=congrArg V.x h2;have:=congrArg V.y h2;have:=congrArg V.z h2;simp at*;apply ext<;>simp<;>grind
 obtain⟨k,p,hk,e1⟩:=A9 hc s1;obtain⟨l,q,hl,e2⟩:=A9 hc s2;have e:(k*l)*cr n m=0:=by
  have:(k*l)*cr n m=cr (k*n) (l*m):=by apply ext<;>simp<;>grind
  rw[this,e1,e2];apply ext<;>simp<;>grind
 have hkl:k*l≠0:=λz=>by rcases aAD.mp z with q|q<;>lia
 have h1:=congrArg V.x e;have h2:=congrArg V.y e;have h3:=congrArg V.z e;simp only[MP,NW,NO,aJ,Z8,bC]at h1 h2 h3;exact ext ((aAD.mp h1).resolve_left hkl) ((aAD.mp h2).resolve_left hkl) ((aAD.mp h3).resolve_left hkl)
def mI {pts:List V}{n m:V}{d e:Int}(hn:cJ n)(hm:cJ m)(sn:∀X∈pts,e9 n X<=d)(sm:∀X∈pts,e9 m X<=e){A B C Z:V}(hA:e9 n A=d)(hB:e9 n B=d)(hC:e9 n C=d)(hA':e9 m A=e)(hB':e9 m B=e)(hC':e9 m C=e)
  (hc:cr (B-A) (C-A)≠0) (hZ:Z∈pts) (hz:e9 n Z<d):n=m/\d=e:=by
 have n1:cr n (cr (B-A)<|C-A)=0:=S5 (by rw[i3];lia) (by rw[i3];lia);have m1:cr m (cr (B-A)<|C-A)=0:=S5 (by rw[i3];lia) (by rw[i3];lia);have p:=sZ hc m1 n1;obtain⟨k,l,hk,e1⟩:=A9 hm.ne p;have hl:0<l:=by
  have q:=congrArg (λv=>e9 v (Z-A)) e1;rw[V9,V9]at q;have q1:e9 n (Z-A)<0:=by rw[i3];lia
  have q2:e9 m (Z-A)<=0:=by rw[i3];have:=sm Z hZ;lia
  have q3:k*e9 n (Z-A)<0:=aBw hk q1;by_cases z:0<l
  ·exact z
  ·exfalso;have:0<=l*e9 m (Z-A):=by
    have:=aDA (show 0<=-l by lia) (show 0<=-e9 m (Z-A)by lia)
    rwa [aFD]at this
   lia
 have e2:=EJ hn hm hk hl e1;subst e2;exact⟨rfl,by lia⟩
end G
namespace G
def b7 (A B:V)(pts:List V):V×Int:=j0 A B (D5 (B-A) A pts 0 A).2
def v9 (n:V)(d:Int)(pts:List V):List V:=pts.filter λX=>decide (e9 n X=d)
def d5:X∈v9 n d pts↔X∈pts/\e9 n X=d:=by simp[v9]
def mW (h:cr (Q-P) (R-P)≠0):∃g:Int,0<g/\cr (Q-P) (R-P)=g*(j0 P Q R).1/\cJ (j0 P Q R).1/\(j0 P Q R).2=e9 (j0 P Q R).1 P:=by obtain⟨h1,h2,h3⟩:=iY h;exact⟨_,h1,h2,h3,rfl⟩
def T7 {Pos:V->Prop}(C:ConeM (B-A) Pos)(hAB:B-A≠0)(hp:∀P∈pts,Pos (P-A)\/cr (B-A) (P-A)=0)(hx:∃P∈pts,Pos (P-A)):
  ∃(out:V) (g:Int),out∈pts/\Pos (out-A)/\0<g/\cr (B-A) (out-A)=g*(b7 A B pts).1/\cJ (b7 A B pts).1/\(b7 A B pts).2=e9 (b7 A B pts).1 A/\
   (∀P∈pts,e9 (b7 A B pts).1 P<=(b7 A B pts).2)/\e9 (b7 A B pts).1 B=(b7 A B pts).2/\e9 (b7 A B pts).1 out=(b7 A B pts).2/\
   (∀P∈pts,e9 (b7 A B pts).1 P=(b7 A B pts).2->i6 (B-A) (out-A) (P-A)=0):=by
 obtain⟨h1,h2,h3⟩:=IK C hAB hp hx;have hc:=C.ad2 hAB h2;obtain⟨g,g0,ge,gp,gd⟩:=mW hc;have key:∀w:V,g*e9 (b7 A B pts).1 w=i6 (B-A) ((D5 (B-A) A pts 0 A).2-A) w:=λw=>by have:e9 (cr (B-A)<|(D5 (B-A) A pts 0 A).2-A) w=i6 (B-A) ((D5 (B-A) A pts 0 A).2-A) w:=R9 _ _ _;rw[<-this,ge,V9];rfl
 have eA:(b7 A B pts).2=e9 (b7 A B pts).1 A:=gd;have z0:∀w:V,i6 (B-A) ((D5 (B-A) A pts 0 A).2-A) w=0->e9 (b7 A B pts).1 w=0:=λw hw=>by have:=key w;rw[hw]at this;exact(aAD.mp this).resolve_left (by lia)
 refine⟨_,g,h1,h2,g0,ge,gp,gd,λP hP=>?_,?_,?_,λP hP e=>?_⟩
 ·have h:=h3 P hP;rw[<-key]at h;have:e9 (b7 A B pts).1 (P-A)<=0:=by
   by_cases z:e9 (b7 A B pts).1 (P-A)<=0
   ·exact z
   ·have:=aAX g0 (show 0<e9 (b7 A B pts).1 (P-A)by lia)
    lia
  rw[i3]at this
  lia
 ·have:=z0 (B-A) (by simp[i6,e9];grind);rw[i3]at this;lia
 ·have:=z0 ((D5 (B-A) A pts 0 A).2-A) (A8 _ _);rw[i3]at this;lia
 ·rw[<-key,i3];have:e9 (b7 A B pts).1 P-e9 (b7 A B pts).1 A=0:=by lia
  rw[this];simp
def xQ {Pos:V->Prop}(C:ConeM a Pos)(ha:a≠0)(ho:Pos o)(hw:Pos w)(h:i6 a o w=0):0<e9 (cr a o) (cr a w):=by
 by_cases z:0<e9 (cr a o) (cr a w)
 ·exact z
 ·exfalso;have ai:=C.ad2 ha ho;have yi:=y7 ai;have h1:Pos (e9 (cr a o) (cr a o)*w+(-e9 (cr a o) (cr a w))*o):=C.comb yi (by lia) hw ho;refine C.ad2 ha h1 ?_;have hx:cr (cr a o) (cr a w)=i6 a o w*a:=by simp[i6,e9];apply ext<;>simp<;>grind
  rw[h,t9]at hx;have e1:cr a (e9 (cr a o) (cr a o)*w+(-e9 (cr a o) (cr a w))*o)=e9 (cr a o) (cr a o)*cr a w+(-e9 (cr a o) (cr a w))*cr a o:=by apply ext<;>simp<;>grind
  rw[e1];have e2:∀p q:V,e9 p p*q+(-e9 p q)*p=cr p (cr q p):=λp q=>by simp[e9];apply ext<;>simp<;>grind
  rw[e2];have e3:cr (cr a w) (cr a o)=0:=by have q1:=congrArg V.x hx;have q2:=congrArg V.y hx;have q3:=congrArg V.z hx;simp only[PP,TC,QA,aJ,Z8,bC]at q1 q2 q3;apply ext<;>simp only[PP,TC,QA,aJ,Z8,bC]<;>grind
  rw[e3];apply ext<;>simp
def UX.symm (h:UX P Q X):UX Q P X:=⟨λa=>⟨(h.2 a).2,(h.2 a).1⟩,λa=>⟨(h.1 a).2,(h.1 a).1⟩⟩
def qQ (hn:n≠0)(hab:e9 n (a-b)=0):ConeM (a-b) (λw=>e9 n w<0\/(e9 n w=0/\0<i6 n (b-a) w))where
 add:=λ{u v} h1 h2=>by
  rw[Z5,Z3]
  lia
 mul:=λ{k u} hk h=>by
  rw[t5,wX];rcases h with h|⟨h,h'⟩
  ·exact .inl (aBw hk h)
  ·exact .inr ⟨by rw[h];simp,aAX hk h'⟩
 irr:=by rw[O8,dD];lia
 inv:=λ{u} k h=>by
  have e:i6 n (b-a) (a-b)=0:=by have:a-b=-(b-a):=(n9 _ _).symm;rw[this,G5,A8];rfl
  rw[Z5,Z3,t5,wX,hab,e];simpa using h
def fC (hn:n≠0)(hu:e9 n u=0)(hw:e9 n w=0)(h:i6 n u w=0):cr u w=0:=by
 have h1:cr n (cr u w)=0:=S5 hu hw;obtain⟨k,m,hk,e⟩:=A9 hn h1;have q:=congrArg (e9 n) e;rw[t5,t5]at q;have:e9 n (cr u w)=0:=h;rw[this]at q;have hm:m=0:=by
  have:=y7 hn;have q':m*e9 n n=0:=by lia
  rcases aAD.mp q' with z|z
  ·exact z
  ·lia
 rw[hm,t9]at e;have q1:=congrArg V.x e;have q2:=congrArg V.y e;have q3:=congrArg V.z e;simp only[MP,NW,NO,aJ,Z8,bC]at q1 q2 q3;exact ext ((aAD.mp q1).resolve_left (by lia)) ((aAD.mp q2).resolve_left (by lia)) ((aAD.mp q3).resolve_left (by lia))
def xM (h:cr u w=0):cr (-u) w=0:=by have q1:=congrArg V.x h;have q2:=congrArg V.y h;have q3:=congrArg V.z h;simp only[PP,TC,QA,aJ,Z8,bC]at q1 q2 q3;apply ext<;>simp<;>grind
def rD (hn:n≠0)(hs:∀X∈pts,e9 n X<=d)(hz:∃Z∈pts,e9 n Z<d)(h:EdgeOf n (λX=>X∈v9 n d pts) a b):
  IsFace pts (b7 b a pts).1 (b7 b a pts).2/\EdgeOf (b7 b a pts).1 (λX=>X∈v9 (b7 b a pts).1 (b7 b a pts).2 pts) b a:=by
 obtain⟨pa,da⟩:=d5.mp h.p;obtain⟨pb,db⟩:=d5.mp h.q;have hab:e9 n (a-b)=0:=by rw[i3];lia
 have hba:e9 n (b-a)=0:=by rw[i3];lia
 have C:=qQ (n:=n) hn hab;have ai:a-b≠0:=λe=>h.ne (by have q1:=congrArg V.x e;have q2:=congrArg V.y e;have q3:=congrArg V.z e;simp at q1 q2 q3;exact ext (by lia) (by lia) (by lia))
 have hp:∀P∈pts,(e9 n (P-b)<0\/(e9 n (P-b)=0/\0<i6 n (b-a) (P-b)))\/cr (a-b) (P-b)=0:=λP hP=>by
  have h1:=hs P hP;by_cases z:e9 n P<d
  ·exact .inl (.inl (by rw[i3];lia))
  ·have e:e9 n P=d:=by lia
   have tP:P∈v9 n d pts:=d5.mpr ⟨hP,e⟩;have l:=h.left P tP;rw[oV]at l;have e0:e9 n (P-b)=0:=by rw[i3];lia
   by_cases y:0<i6 n (b-a) (P-b)
   ·exact .inl (.inr ⟨e0,y⟩)
   ·have y0:i6 n (b-a) (P-b)=0:=by lia
    have:=xM (fC hn hba e0 y0);rw[n9]at this;exact .inr this
 obtain⟨Z,hZ,hz⟩:=hz;obtain⟨out,g,o1,o2,g0,ge,gp,gd,sup,sB,sO,sP⟩:=T7 C ai hp ⟨Z,hZ,.inl (by rw[i3];lia)⟩;refine⟨⟨gp,sup,b,pb,a,pa,out,o1,gd.symm,sB,sO,C.ad2 ai o2⟩,⟨d5.mpr ⟨pb,gd.symm⟩,d5.mpr ⟨pa,sB⟩,λe=>h.ne e.symm,λX hX=>?_,λX hX e=>?_⟩⟩
 ·obtain⟨pX,eX⟩:=d5.mp hX;have z:=sP X pX eX;have e1:g*i6 (b7 b a pts).1 (a-b) (X-b)=e9 (cr (a-b)<|out-b) (cr (a-b)<|X-b):=by rw[ge];unfold i6;rw[V9]
  have:0<=e9 (cr (a-b)<|out-b) (cr (a-b)<|X-b):=by
   rcases hp X pX with q|q
   ·exact aAS (xQ C ai o2 q z)
   ·rw[q,O8];exact aCC _
  rw[<-e1]at this;by_cases zz:0<=i6 (b7 b a pts).1 (a-b) (X-b)
  ·exact zz
  ·have:=aBw g0 (show i6 (b7 b a pts).1 (a-b) (X-b)<0 by lia)
   lia
 ·obtain⟨pX,eX⟩:=d5.mp hX;have z:=sP X pX eX;have e1:g*i6 (b7 b a pts).1 (a-b) (X-b)=e9 (cr (a-b)<|out-b) (cr (a-b)<|X-b):=by rw[ge];unfold i6;rw[V9]
  rw[e]at e1;rcases hp X pX with q|q
  ·have:=xQ C ai o2 q z;rw[<-e1]at this;simp at this
  ·
   have dX:e9 n X=d:=by obtain⟨k,m,hk,e⟩:=A9 ai q;have q:=congrArg (e9 n) e;rw[t5,t5,hab]at q;have:e9 n (X-b)=0:=(aAD.mp (show k*e9 n (X-b)=0 by lia)).resolve_left (by lia);rw[i3]at this;lia
   refine(h.btw X (d5.mpr ⟨pX,dX⟩) ?_).symm;rw[oV];have:cr (b-a) (X-b)=0:=by
    have:=xM q
    rwa [n9]at this
   unfold i6;rw[this,O8]
end G
namespace G
def y6:List V->Option V
 |[]=>none
 |w::ws=>if w≠0 then some w else y6 ws
def t6 (h:y6 ws=some w):w∈ws/\w≠0:=by
 induction ws with
 |nil=>cases h
 |cons v ws ih=>
  unfold y6 at h;split at h
  ·rename_i hv;cases h;exact⟨by simp,hv⟩
  ·have:=ih h;exact⟨aAe _ this.1,this.2⟩
def K8 (h:y6 ws=none):∀w∈ws,w=0:=by
 induction ws with
 |nil=>intro w hw;cases hw
 |cons v ws ih=>
  unfold y6 at h;split at h
  ·cases h
  ·rename_i hv;intro w hw;rcases aAd.mp hw with e|e
   ·subst e;exact Decidable.not_not.mp hv
   ·exact ih h w e
def S4:List V->Nat
 |[]=>0
 |p::ps=>
  let ways:=(p::ps).map (· -p)
  match y6 ways with
  |none=>0
  |some along=>match y6 (ways.map<|cr along)with
   |none=>1
   |some up=>if ways.any (λw=>decide (e9 up w≠0))then 3 else 2
def l6 (pts:List V):Prop:=∃A∈pts,∃B∈pts,∃C∈pts,∃D∈pts,i6 (B-A) (C-A) (D-A)≠0
def GJ (h:S4 pts=3):l6 pts:=by
 match pts,h with
 |p::ps,h=>
  unfold S4 at h;dsimp only at h;split at h
  ·cases h
  ·rename_i along h1;split at h
   ·cases h
   ·rename_i up h2;split at h
    ·rename_i h3;obtain⟨m1,n1⟩:=t6 h1;obtain⟨m2,n2⟩:=t6 h2;obtain⟨w2,m2,e2⟩:=aAm.mp m2;rw[aEi]at h3;obtain⟨w3,m3,e3⟩:=h3;obtain⟨B,hB,eB⟩:=aAm.mp m1;obtain⟨C,hC,eC⟩:=aAm.mp m2;obtain⟨D,hD,eD⟩:=aAm.mp m3;refine⟨p,by simp,B,hB,C,hC,D,hD,?_⟩;rw[eB,eC,eD];have e3':e9 up w3≠0:=by simpa using e3
     rw[<-e2,R9]at e3';exact e3'
    ·cases h
def KA (h:S4 pts≠3):¬l6 pts:=by
 rintro⟨A,hA,B,hB,C,hC,D,hD,hd⟩;match pts,h,hA,hB,hC,hD with
 |p::ps,h,hA,hB,hC,hD=>
  unfold S4 at h;dsimp only at h;have mm:∀X∈p::ps,X-p∈(p::ps).map (· -p):=λX hX=>aAm.mpr ⟨X,hX,rfl⟩;have fin:∀n:V,n≠0->(∀X∈p::ps,e9 n (X-p)=0)->False:=λn hn hz=>by
   have q:∀X∈p::ps,e9 n (X-A)=0:=λX hX=>by have h1:=hz X hX;have h2:=hz A hA;rw[i3]at*;lia
   exact hd (C3 hn (q B hB) (q C hC)<|q D hD)
  split at h
  ·rename_i h1;have z:=K8 h1;refine fin ⟨1,0,0⟩ (λe=>by have:=congrArg V.x e;simp at this) λX hX=>?_;rw[z _ (mm X hX)];exact O8 _
  ·rename_i along h1;obtain⟨m1,n1⟩:=t6 h1;split at h
   ·rename_i h2;have z:=K8 h2;have z':∀X∈p::ps,cr along (X-p)=0:=λX hX=>z _ (aAm.mpr ⟨_,mm X hX,rfl⟩);obtain⟨u,hu,ar⟩:∃u:V,cr along u≠0/\True:=by
     rcases iD n1 with q|q|q
     ·exact⟨⟨0,1,0⟩,λe=>q (by have:=congrArg V.z e;simpa using this),trivial⟩
     ·exact⟨⟨1,0,0⟩,λe=>q (by have:=congrArg V.z e;simpa using this),trivial⟩
     ·exact⟨⟨0,1,0⟩,λe=>q (by have:=congrArg V.x e;simpa using this),trivial⟩
    refine fin (cr along u) hu λX hX=>?_;rw[R9,gP (z' X hX)]
   ·rename_i up h2;obtain⟨m2,n2⟩:=t6 h2;split at h
    ·exact h rfl
    ·rename_i h3;refine fin up n2 λX hX=>?_;by_cases z:e9 up (X-p)=0
     ·exact z
     ·exact absurd (aEi.mpr ⟨X-p,mm X hX,by simpa using z⟩) h3
def NG (h:S4 pts<2):∀X∈pts,∀Y∈pts,∀Z∈pts,cr (Y-X) (Z-X)=0:=by
 match pts,h with
 |[],_=>intro X hX;cases hX
 |p::ps,h=>
  unfold S4 at h;dsimp only at h;have mm:∀X∈p::ps,X-p∈(p::ps).map (· -p):=λX hX=>aAm.mpr ⟨X,hX,rfl⟩;intro X hX Y hY Z hZ;split at h
  ·rename_i h1;have z:=K8 h1;have e:∀W∈p::ps,W=p:=λW hW=>by have:=z _ (mm W hW);have q1:=congrArg V.x this;have q2:=congrArg V.y this;have q3:=congrArg V.z this;simp at q1 q2 q3;exact ext (by lia) (by lia) (by lia)
   rw[e X hX,e Y hY,u8];apply ext<;>simp
  ·rename_i along h1;obtain⟨m1,n1⟩:=t6 h1;split at h
   ·rename_i h2;have z:=K8 h2;have z':∀X∈p::ps,cr along (X-p)=0:=λX hX=>z _ (aAm.mpr ⟨_,mm X hX,rfl⟩);have k:∀U∈p::ps,∀W∈p::ps,cr (U-W) along=0:=λU hU W hW=>by have q1:=z' U hU;have q2:=z' W hW;have a1:=congrArg V.x q1;have a2:=congrArg V.y q1;have a3:=congrArg V.z q1;have b1:=congrArg V.x q2;have b2:=congrArg V.y q2;have b3:=congrArg V.z q2;simp at a1 a2 a3 b1 b2 b3;apply ext<;>simp<;>grind
    exact sZ n1 (k Y hY X hX) (k Z hZ X hX)
   ·split at h<;>lia
def GT (h:2<=S4 pts):∃X∈pts,∃Y∈pts,∃Z∈pts,cr (Y-X) (Z-X)≠0:=by
 match pts,h with
 |[],h=>exact absurd h (by simp[S4])
 |p::ps,h=>
  unfold S4 at h;dsimp only at h;split at h
  ·lia
  ·rename_i along h1;obtain⟨m1,n1⟩:=t6 h1;split at h
   ·lia
   ·rename_i up h2;obtain⟨m2,n2⟩:=t6 h2;obtain⟨w2,m2,e2⟩:=aAm.mp m2;obtain⟨B,hB,eB⟩:=aAm.mp m1;obtain⟨C,hC,eC⟩:=aAm.mp m2;exact⟨p,by simp,B,hB,C,hC,by rw[eB,eC,e2];exact n2⟩
def l6.off (h:l6 pts)(hn:n≠0):∃Z∈pts,e9 n Z≠d:=by
 obtain⟨A,hA,B,hB,C,hC,D,hD,hd⟩:=h;by_cases a:e9 n A=d
 ·by_cases b:e9 n B=d
  ·by_cases c:e9 n C=d
   ·by_cases e:e9 n D=d
    ·exact absurd (C3 hn (by rw[i3];lia) (by rw[i3];lia) (by rw[i3];lia)) hd
    ·exact⟨D,hD,e⟩
   ·exact⟨C,hC,c⟩
  ·exact⟨B,hB,b⟩
 ·exact⟨A,hA,a⟩
def l6.below (h:l6 pts)(hn:n≠0)(hs:∀X∈pts,e9 n X<=d):∃Z∈pts,e9 n Z<d:=by obtain⟨Z,hZ,e⟩:=h.off (d:=d) hn;exact⟨Z,hZ,by have:=hs Z hZ;lia⟩
def kk:V:=⟨0,0,1⟩
def d8 (m:V)(pts:List V):V×V:=
 let u:=b7 m (m+kk) pts
 let touched:=v9 u.1 u.2 pts
 if S4 touched=2 then(m,m+kk)else(touched.getD 0 0,touched.getD 1 0)
def EX:ConeM kk (λw=>0<w.x\/(w.x=0/\0<w.y))where
 add:=λ{u v} h1 h2=>by simp;lia
 mul:=λ{k u} hk h=>by
  simp;rcases h with h|⟨h,h'⟩
  ·exact .inl (aAX hk h)
  ·exact .inr ⟨by rw[h];simp,aAX hk h'⟩
 irr:=by simp
 inv:=λ{u} k h=>by simpa[kk]using h
def zR (h:e9 n a=0):ConeM a (λw=>e9 n w<0)where
 add:=λ{u v} h1 h2=>by rw[Z5];lia
 mul:=λ{k u} hk h=>by rw[t5];exact aBw hk h
 irr:=by rw[O8];lia
 inv:=λ{u} k h'=>by rw[Z5,t5,h];simpa using h'
def J7 (m k:V):m+k-m=k:=ext (by simp;lia) (by simp;lia) (by simp;lia)
def nZ (hs:l6 pts)(ho:pts.Pairwise (λa b=>d6 (b-a)))(hm:m∈pts)(hl:∀X∈pts,X=m\/d6 (X-m)):
  IsFace pts (b7 (d8 m pts).1 (d8 m pts).2 pts).1 (b7 (d8 m pts).1 (d8 m pts).2 pts).2:=by
 have C:ConeM (m+kk-m) (λw=>0<w.x\/(w.x=0/\0<w.y)):=by rw[J7];exact EX
 have ai:m+kk-m≠0:=by rw[J7];intro e;have:=congrArg V.z e;simp[kk]at this
 have hp:∀P∈pts,(0<(P-m).x\/((P-m).x=0/\0<(P-m).y))\/cr (m+kk-m) (P-m)=0:=λP hP=>by
  rw[J7];rcases hl P hP with e|e
  ·right;subst e;rw[u8];apply ext<;>simp
  ·unfold d6 at e;rcases e with e|⟨e1,e|⟨e2,e3⟩⟩
   ·exact .inl (.inl e)
   ·exact .inl (.inr ⟨e1,e⟩)
   ·right;apply ext
    ·simp[kk];simp at e2;lia
    ·simp[kk];simp at e1;lia
    ·simp[kk]
 have hx:∃P∈pts,0<(P-m).x\/((P-m).x=0/\0<(P-m).y):=by
  by_cases z:∃P∈pts,0<(P-m).x\/((P-m).x=0/\0<(P-m).y)
  ·exact z
  ·exfalso;obtain⟨Z,hZ,e⟩:=hs.off (n:=⟨1,0,0⟩) (d:=m.x) (λe=>by have:=congrArg V.x e;simp at this);have w:=(hp Z hZ).resolve_left λq=>z ⟨Z,hZ,q⟩;rw[J7]at w;have:=congrArg V.y w;simp[kk]at this;simp[e9]at e
   lia
 obtain⟨out,g,o1,o2,g0,ge,gp,gd,sup,sB,sO,sP⟩:=T7 C ai hp hx;have tm:m∈v9 (b7 m (m+kk) pts).1 (b7 m (m+kk) pts).2 pts:=d5.mpr ⟨hm,gd.symm⟩;have to:out∈v9 (b7 m (m+kk) pts).1 (b7 m (m+kk) pts).2 pts:=d5.mpr ⟨o1,sO⟩;have hmo:m≠out:=λe=>by subst e;rw[u8]at o2;simp at o2
 by_cases h2:S4 (v9 (b7 m (m+kk) pts).1 (b7 m (m+kk) pts).2 pts)=2
 ·have e:d8 m pts=(m,m+kk):=by unfold d8;simp only[h2,if_true]
  rw[e];obtain⟨X,hX,Y,hY,Z,hZ,hc⟩:=GT (pts:=v9 (b7 m (m+kk) pts).1 (b7 m (m+kk) pts).2 pts) (by lia);have hX:=d5.mp hX;have hY:=d5.mp hY;have hZ:=d5.mp hZ;exact⟨gp,sup,X,hX.1,Y,hY.1,Z,hZ.1,hX.2,hY.2,hZ.2,hc⟩
 ·
  have h1:S4 (v9 (b7 m (m+kk) pts).1 (b7 m (m+kk) pts).2 pts)≠3:=λz=>by obtain⟨A,hA,B,hB,C,hC,D,hD,hd⟩:=GJ z;have hA:=d5.mp hA;have hB:=d5.mp hB;have hC:=d5.mp hC;have hD:=d5.mp hD;exact hd (C3 gp.ne (by rw[i3];lia) (by rw[i3];lia) (by rw[i3];lia))
  have ah:S4 (v9 (b7 m (m+kk) pts).1 (b7 m (m+kk) pts).2 pts)<2:=by
   have:S4 (v9 (b7 m (m+kk) pts).1 (b7 m (m+kk) pts).2 pts)<=3:=by
    generalize v9 (b7 m (m+kk) pts).1 (b7 m (m+kk) pts).2 pts=t;unfold S4;split
    ·lia
    ·dsimp only;split
     ·lia
     ·split
      ·lia
      ·split<;>lia
   lia
  have line:=NG ah;have e:d8 m pts=((v9 (b7 m (m+kk) pts).1 (b7 m (m+kk) pts).2 pts).getD 0 0,(v9 (b7 m (m+kk) pts).1 (b7 m (m+kk) pts).2 pts).getD 1 0):=by unfold d8;simp only[h2,if_false]
  rw[e];have ord:(v9 (b7 m (m+kk) pts).1 (b7 m (m+kk) pts).2 pts).Pairwise (λa b=>d6 (b-a)):=aFN _ ho;have onm:∀X,X∈v9 (b7 m (m+kk) pts).1 (b7 m (m+kk) pts).2 pts↔X∈pts/\e9 (b7 m (m+kk) pts).1 X=(b7 m (m+kk) pts).2:=λX=>d5;generalize v9 (b7 m (m+kk) pts).1 (b7 m (m+kk) pts).2 pts=t at*
  match t,tm,to with
  |[],tm,_=>cases tm
  |[x],tm,to=>simp at tm to;exact absurd (tm.trans to.symm) hmo
  |x::y::r,tm,to=>
   dsimp only[List.getD_cons_zero,List.getD_cons_succ];have hxy:d6 (y-x):=(aAw.mp ord).1 y (by simp);have ox:=(onm x).mp (by simp);have oy:=(onm y).mp (by simp);have zr:y-x≠0:=λz=>by rw[z]at hxy;exact z8.irr hxy
   have na:e9 (b7 m (m+kk) pts).1 (y-x)=0:=by rw[i3];lia
   have C2:=zR na;obtain⟨Z,hZ,hz⟩:=hs.below gp.ne sup;obtain⟨out2,g2,p1,p2,p0,pe,pp,pd,sup2,sB2,sO2,sP2⟩:=T7 C2 zr (pts:=pts) (λP hP=>by
    have:=sup P hP;by_cases q:e9 (b7 m (m+kk) pts).1 P<(b7 m (m+kk) pts).2
    ·exact .inl (by rw[i3];lia)
    ·exact .inr (line x (by simp) y (by simp) P ((onm P).mpr ⟨hP,by lia⟩))) ⟨Z,hZ,by rw[i3];lia⟩
   exact⟨pp,sup2,x,ox.1,y,oy.1,out2,p1,pd.symm,sB2,sO2,C2.ad2 zr p2⟩
end G
namespace DL
open PySem PySem.Spec L2
open PyProof.Rows hiding St
theorem Y6:∀{ns:List Int} {us:List Value},l8 (ns.map V.int) us->IntsAre us ns
 |[],_,.nil=>.nil
 |n::ns,_,.cons r t=>by obtain⟨tk,rfl⟩:=r;exact .cons n tk (Y6 t)
section
def GP (hc:X.calm=true):yI X (.builtin "sum") (λxs H Q=>∃(p:Addr) (ns:List Int),xs=[.ref p]/\K4 X.K H p (ns.map V.int)/\Q (.int ns.sum) H):=by
 intro pins s σ H xs us Q I r h;obtain⟨p,ns,rfl,hq,q⟩:=h;obtain⟨u,rfl,rx⟩:=vals1 r;cases rx;obtain⟨its,r',pl,hz⟩:=I.list hq;have hi:=Y6 r';obtain⟨ys,e⟩:=hi.allInts.items;have hl:=pl.isList;rw[e]at hl;refine sum_intListG (I.ok.hd hc) hl λh' tk t' hk=>?_;have en:preSum (numAt ys) ys.size=ns.sum:=by have h1:=nums_intItems ys;rw[<-e]at h1;have h2:=hi.numsOf;rw[show its.toArray.toList=its from rfl,h2]at h1;rw[preSum_eq,aCG (by simp),h1]
 rw[en];exact⟨.int ns.sum,H,I.kept hk,⟨t',rfl⟩,q⟩
def kT:List D->Option (List Int)
 |[]=>some []
 |.int i::r=>(kT r).map (i::·)
 |_=>none
theorem Y2:∀{ds:List D} {ns:List Int},kT ds=some ns->ds=ns.map D.int
 |[],ns,h=>by cases h;rfl
 |.int i::r,ns,h=>by simp only[kT,aDe]at h;obtain⟨m,h1,rfl⟩:=h;rw[Y2 h1];rfl
 |.non::_,_,h=>by cases h
 |.bl _::_,_,h=>by cases h
 |.str _::_,_,h=>by cases h
 |.tup _::_,_,h=>by cases h
 |.lst _::_,_,h=>by cases h
 |.dct::_,_,h=>by cases h
theorem qI {K:PySem.W.Frag}{H:Hp}{O:Addr->Prop}:∀{vs:List V} {ns:List Int},Reps K H O vs (ns.map D.int)->vs=ns.map V.int
 |[],[],_=>rfl
 |v::vs,n::ns,.cons h t=>by cases h;rw[qI t];rfl
def QL:List D->R D
 |[.lst xs]=>match kT xs with
  |some ns=>.ok (.int ns.sum)
  |none=>.bad
 |_=>.bad
variable [Tabs]in
def II (hc:X.calm=true):iB X (.builtin "sum") QL:=by
 intro H O vs ds Q fr r q;match ds,q with
 |[.lst xs],q=>
  obtain⟨v,rfl,z⟩:=PJ r;obtain⟨p,ys,rfl,h1,h2⟩:=z.aa5;simp only[QL]at q;cases e:kT xs with
  |none=>rw[e]at q;exact q.elim
  |some ns=>rw[e]at q;rw[Y2 e]at h2;rw[qI h2]at h1;exact⟨_,GP hc,p,ns,rfl,h1,q _ H (Same.refl _) .int⟩
end
theorem iV (Iv:List D->Ev->Prop)(ht:∀d ds ρ,Iv (d::ds) ρ->∃ρ2,T9 G F d ρ=.ok (.nx ρ2)/\Iv ds ρ2):∀{ds:List D} {ρ:Ev},Iv ds ρ->∃ag,G6 G F ds ρ=.ok (.nx ag)/\Iv [] ag
 |[],ρ,h=>⟨ρ,rfl,h⟩
 |d::ds,ρ,h=>by
  obtain⟨ρ2,e,h2⟩:=ht d ds ρ h;obtain⟨ag,e',h'⟩:=iV Iv ht h2;unfold T9 at e;cases e1:G d ρ with
  |ok ρ1=>rw[e1]at e;exact⟨ag,by rw[G6,e1];dsimp only at e⊢;rw[e];exact e',h'⟩
  |ex x=>rw[e1]at e;cases e
  |bad=>rw[e1]at e;cases e
def gI (Iv:List D->Ev->Prop)(ht:∀d ds ρ,Iv (d::ds) ρ->∃ρ2,T9 G F d ρ=.ok (.nx ρ2)/\Iv ds ρ2)(h0:Iv ds ρ)(h2:∀ag,Iv [] ag->K3 (F2 ag)=.ok d):
  K3 (z7 (G6 G F ds ρ) F2)=.ok d:=by
 obtain⟨ag,e,h⟩:=iV Iv ht h0;rw[e];exact h2 ag h
def vN {Post:Ev->Prop}(Iv:Nat->Ev->Prop)(ht:∀n ρ,Iv (n+1) ρ->c ρ=.ok false\/(c ρ=.ok true/\∃ρ2,F ρ=.ok (.nx ρ2)/\Iv n ρ2))(h00:∀ρ,¬Iv 0 ρ)(h0:Iv n ρ)(hp:∀m ag,Iv m ag->c ag=.ok false->Post ag):∃ρ2,L7 c F n ρ=.ok (.nx ρ2)/\Post ρ2:=by obtain⟨m,ag,e,h,hc⟩:=fZ Iv ht h00 n ρ h0;exact⟨ag,e,hp m ag h hc⟩
end DL
namespace M
open PySem L2 DL
abbrev vG (n:G.V)(d:Int):D:=.tup [.int n.x,.int n.y,.int n.z,.int d]
def A2:List D->R D
 |[.tup [.int a,.int b,.int c]]=>.ok (.int (G.v7 ⟨a,b,c⟩))
 |_=>.bad
def BI (v:G.V):A2 [vd v]=.ok (.int (G.v7 v)):=rfl
def yz (P Q R:G.V):Prop:=Sz 1000 P/\Sz 1000 Q/\Sz 1000 R
open Classical in
def Q7:List D->R D:=v1 λa b c=>v1 λd e f=>v1 λg h i=>vI (
 if yz ⟨a,b,c⟩ ⟨d,e,f⟩ ⟨g,h,i⟩/\G.cr ((⟨d,e,f⟩:G.V)-⟨a,b,c⟩) ((⟨g,h,i⟩:G.V)-⟨a,b,c⟩)≠0 then .ok (vG (G.j0 ⟨a,b,c⟩ ⟨d,e,f⟩ ⟨g,h,i⟩).1 (G.j0 ⟨a,b,c⟩ ⟨d,e,f⟩ ⟨g,h,i⟩).2)else .bad)
def OS {P Q R:G.V}(h:yz P Q R)(hc:G.cr (Q-P) (R-P)≠0):Q7 [vd P,vd Q,vd R]=.ok (vG (G.j0 P Q R).1 (G.j0 P Q R).2):=if_pos ⟨h,hc⟩
def GR (h:Sz n v):bits (G.v7 v:Nat)<=n:=by
 have e:((G.v7 v:Nat):Int)=aGk (aGk v.x v.y:Nat) v.z:=by simp[G.v7,aGk]
 rw[e];exact wV (wV h.1 h.2.1) h.2.2
def oC {a g:Int}(h:0<g):a.fdiv g=a/g:=Int.fdiv_eq_ediv_of_nonneg a (aAS h)
end M
namespace ST
open PySem PySem.SetTable
def GF (xs:Array Nat):Prop:=∀(i k:Nat) (hi:i<xs.size) (hk:k<xs.size),i<k->xs[i]<xs[k]
theorem tT (xs:Array Nat)(j:Nat)(ha:GF xs):∀(fuel lo hi:Nat),lo<=hi->hi<=xs.size->hi-lo<=fuel->(∀i (h:i<xs.size),i<lo->xs[i]<j)->(∀i (h:i<xs.size),hi<=i->j<=xs[i])->
  below.go xs j fuel lo hi<=xs.size/\(∀i (h:i<xs.size),i<below.go xs j fuel lo hi->xs[i]<j)/\(∀i (h:i<xs.size),below.go xs j fuel lo hi<=i->j<=xs[i])
 |0,lo,hi,h1,h2,h3,h4,h5=>by
  have:lo=hi:=by lia
  subst this;unfold below.go;exact⟨h2,h4,h5⟩
 |fuel+1,lo,hi,h1,h2,h3,h4,h5=>by
  unfold below.go;by_cases ah:lo<hi
  ·rw[if_pos ah];have hm:(lo+hi)/2<xs.size:=by lia
   have e:xs.getD ((lo+hi)/2) j=xs[(lo+hi)/2]:=by simp[aFb,hm]
   dsimp only;rw[e];by_cases hc:xs[(lo+hi)/2]<j
   ·rw[if_pos hc];refine tT xs j ha fuel _ _ (by lia) h2 (by lia) (λi h dn=>?_) h5;by_cases q:i=(lo+hi)/2
    ·subst q;exact hc
    ·exact aGm (ha i _ h hm (by lia)) hc
   ·rw[if_neg hc];refine tT xs j ha fuel _ _ (by lia) (by lia) (by lia) h4 (λi h dn=>?_);by_cases q:i=(lo+hi)/2
    ·subst q;lia
    ·have:=ha _ i hm h (by lia);lia
  ·rw[if_neg ah];have:lo=hi:=by lia
   subst this;exact⟨h2,h4,h5⟩
def aL (ha:GF xs)(j:Nat):below xs j<=xs.size/\(∀i (h:i<xs.size),i<below xs j->xs[i]<j)/\(∀i (h:i<xs.size),below xs j<=i->j<=xs[i]):=
 tT xs j ha xs.size 0 xs.size (aAV _) (aAj _) (by lia) (λi h hi=>by lia) (λi h hi=>by lia)
def MJ (ha:GF xs)(h:xs[i]?=some j):below xs j=i:=by
 obtain⟨hi,e⟩:=aCf.mp h;obtain⟨b1,b2,b3⟩:=aL ha j;rcases Nat.lt_trichotomy (below xs j) i with q|q|q
 ·have hb:below xs j<xs.size:=by lia
  have h1:=b3 _ hb (aAj _);have h2:=ha _ _ hb hi q
  lia
 ·exact q
 ·have:=b2 i hi q;lia
structure Tab (t:SetTable):Prop where
 asc:GF t.place
 le:∀j∈t.place.toList,j<=t.mask
 nod:t.dummies=#[]
def K0 (T:Tab t)(h:t.place[i]?=some j):t.slot j=.live i:=by unfold slot;rw[MJ T.asc h];dsimp only;rw[h];simp
def zI (T:Tab t)(h:j∉t.place.toList):t.slot j=.empty:=by
 unfold slot;have h1:¬(t.place[below t.place j]?==some j)=true:=λz=>h (by have:=beq_iff_eq.mp z;obtain⟨hi,e⟩:=aCf.mp this;rw[<-e];simp)
 dsimp only;rw[if_neg h1,T.nod];rw[if_neg (by unfold has;simp)]
def yZ (T:Tab t)(j:Nat):(t.slot j=.empty/\j∉t.place.toList)\/∃i,t.slot j=.live i/\t.place[i]?=some j:=by
 by_cases h:j∈t.place.toList
 ·obtain⟨i,hi,e⟩:=aBA h;have:t.place[i]?=some j:=by rw[<-aAz,aAf hi,e]
  exact .inr ⟨i,K0 T this,this⟩
 ·exact .inl ⟨zI T h,h⟩
def OZ (mask:Nat)(p:Probe):Probe:=if p.more>0 then{p with j:=p.j+1,more:=p.more-1}else{p with j:=(leap mask p.i p.perturb).1,more:=runEnd mask (leap mask p.i p.perturb).1-(leap mask p.i p.perturb).1,i:=(leap mask p.i p.perturb).1,perturb:=(leap mask p.i p.perturb).2}
def nU (t:SetTable)(p:Probe):t.advance p=OZ t.mask p:=rfl
def start (mask:Nat)(h:Int):Probe:={j:=bits h%(mask+1),more:=runEnd mask (bits h%(mask+1))-bits h%(mask+1),i:=bits h%(mask+1),perturb:=bits h,dummy:=none}
def k9 (mask:Nat)(h:Int):Nat->Probe
 |0=>start mask h
 |n+1=>OZ mask (k9 mask h n)
theorem oF (mask:Nat)(h:Int):∀n,(k9 mask h n).dummy=none
 |0=>rfl
 |n+1=>by have:=oF mask h n;show(OZ mask _).dummy=none;unfold OZ;split<;>exact this
def B7 (mask:Nat)(h:Int):Nat->Nat×Nat
 |0=>(bits h%(mask+1),bits h)
 |k+1=>leap mask (B7 mask h k).1 (B7 mask h k).2
def len (mask i:Nat):Nat:=runEnd mask i-i
def VF (mask i:Nat):len mask i<=9:=by unfold len runEnd;split<;>lia
def off (mask:Nat)(h:Int):Nat->Nat
 |0=>0
 |k+1=>off mask h k+len mask (B7 mask h k).1+1
theorem IR (mask:Nat)(h:Int):∀k,off mask h k<=10*k
 |0=>aAj _
 |k+1=>by have:=IR mask h k;have:=VF mask (B7 mask h k).1;show off mask h k+_+1<=_;lia
theorem V6 (mask:Nat)(h:Int):∀k r,r<=len mask (B7 mask h k).1->
  k9 mask h (off mask h k+r)={j:=(B7 mask h k).1+r,more:=len mask (B7 mask h k).1-r,i:=(B7 mask h k).1,perturb:=(B7 mask h k).2,dummy:=none}
 |0,0,_=>rfl
 |0,r+1,hr=>by
  have ih:=V6 mask h 0 r (by lia);have e:off mask h 0+(r+1)=(off mask h 0+r)+1:=by lia
  rw[e,k9,ih];unfold OZ;rw[if_pos (show len mask (B7 mask h 0).1-r>0 by lia)];simp
  lia
 |k+1,0,_=>by have ih:=V6 mask h k (len mask (B7 mask h k).1) (aAj _);have e:off mask h (k+1)+0=(off mask h k+len mask (B7 mask h k).1)+1:=rfl;rw[e,k9,ih];unfold OZ;rw[if_neg (by simp)];simp[B7,len]
 |k+1,r+1,hr=>by
  have ih:=V6 mask h (k+1) r (by lia);have e:off mask h (k+1)+(r+1)=(off mask h (k+1)+r)+1:=by lia
  rw[e,k9,ih];unfold OZ;rw[if_pos (show len mask (B7 mask h<|k+1).1-r>0 by lia)];simp
  lia
def IG (mask:Nat)(h:Int)(k:Nat):(k9 mask h (off mask h k)).j=(B7 mask h k).1:=by have:=V6 mask h k 0 (aAV _);rw[Nat.add_zero]at this;rw[this];rfl
theorem iF (mask:Nat)(h:Int):∀k,(B7 mask h k).2<2^64/32^k+1
 |0=>by
  show bits h<_;unfold bits;have:=Int.emod_lt_of_pos h (show(0:Int)<2^64 by decide)
  lia
 |k+1=>by
  have ih:=iF mask h k;show(B7 mask h k).2/32<_;have e:∀N,N/32^(k+1)=N/32^k/32:=λN=>by rw[Nat.div_div_eq_div_mul];rfl
  rw[e]
  lia
theorem rP (mask:Nat)(h:Int):∀k,(B7 mask h (13+k)).2=0
 |0=>by have:=iF mask h 13;simp at this;exact this
 |k+1=>by have:=rP mask h k;show(B7 mask h<|13+k).2/32=0;rw[this]
def tz (m:Nat)(i:Nat):Nat:=(i*5+1)%m
def v5 (m:Nat):Nat->Nat->Nat
 |0,i=>i
 |n+1,i=>tz m (v5 m n i)
theorem oE (mask:Nat)(h:Int):∀k,(B7 mask h (13+k)).1=v5 (mask+1) k (B7 mask h 13).1
 |0=>rfl
 |k+1=>by have ih:=oE mask h k;show((B7 mask h<|13+k).1*5+1+(B7 mask h<|13+k).2/32)%(mask+1)=_;rw[rP,ih];rfl
theorem gR (m:Nat):∀a b i,v5 m (a+b) i=v5 m a (v5 m b i)
 |0,b,i=>by rw[aEb];rfl
 |a+1,b,i=>by rw[show a+1+b=(a+b)+1 by lia];show tz m _=tz m _;rw[gR m a b i]
def lW (m:Nat):Prop:=v5 m m 0=0/\∀j<m,∃n<m,v5 m n 0=j
def rQ (F:lW m)(hi:i<m)(hj:j<m):∃n<m,v5 m n i=j:=by
 obtain⟨a,ha,ea⟩:=F.2 i hi;obtain⟨b,hb,eb⟩:=F.2 j hj;by_cases h:a<=b
 ·exact⟨b-a,by lia,by rw[<-ea,<-gR,show b-a+a=b by lia,eb]⟩
 ·refine⟨b+(m-a),by lia,?_⟩;rw[<-ea,<-gR,show b+(m-a)+a=b+m by lia,gR,F.1,eb]
instance(m:Nat):Decidable (lW m):=inferInstanceAs (Decidable<|_/\_)
def ZM:lW 8:=by decide+kernel
def WC:lW 32:=by decide+kernel
def RH:lW 128:=by decide+kernel
theorem EF (mask:Nat)(h:Int):∀k,(B7 mask h k).1<mask+1
 |0=>aFc _ (by lia)
 |k+1=>aFc _ (by lia)
def BJ {mask:Nat}(F:lW (mask+1))(h:Int){j:Nat}(hj:j<=mask):∃n,n<=10*(mask+14)/\(k9 mask h n).j=j:=by
 obtain⟨k,hk,e⟩:=rQ F (EF mask h 13) (show j<mask+1 by lia);refine⟨off mask h (13+k),?_,?_⟩
 ·have:=IR mask h (13+k);lia
 ·rw[IG,oE,e]
end ST
namespace ST
open PySem PySem.SetTable
def tJ {α β:Type}{l:List α}{m:List β}{p:Nat}{a:α×β}(h:a∈(l.take p).zip (m.take p)):a∈l.zip m:=by
 obtain⟨i,hi⟩:=aDn.mp h;rw[aBv]at hi;refine aAv (i:=i) ?_;rw[aBv];have q:∀{γ:Type} {l:List γ} {c:γ},(l.take p)[i]?=some c->l[i]?=some c:=λ{γ l c} h=>by
  rw[List.getElem?_take]at h;split at h
  ·exact h
  ·cases h
 exact⟨q hi.1,q hi.2⟩
def sD {α β:Type}{l:List α}{m:List β}{p:Nat}{a:α×β}(h:a∈(l.drop p).zip (m.drop p)):a∈l.zip m:=by obtain⟨i,hi⟩:=aDn.mp h;rw[aBv,List.getElem?_drop,List.getElem?_drop]at hi;refine aAv (i:=p+i) ?_;rw[aBv];exact hi
theorem CJ (mask:Nat)(h:Int):∀n,(k9 mask h n).j+(k9 mask h n).more<=mask
 |0=>by have:=aFc (bits h) (show 0<mask+1 by lia);show bits h%(mask+1)+(runEnd mask (bits h%(mask+1))-bits h%(mask+1))<=mask;unfold runEnd;split<;>lia
 |n+1=>by
  have ih:=CJ mask h n;show(OZ mask<|k9 mask h n).j+(OZ mask<|k9 mask h n).more<=mask;unfold OZ;split
  ·dsimp only;lia
  ·dsimp only;have:(leap mask (k9 mask h n).i (k9 mask h n).perturb).1<mask+1:=aFc _ (by lia);unfold runEnd;split<;>lia
def tZ (mask:Nat)(h:Int)(n:Nat):(k9 mask h n).j<=mask:=by have:=CJ mask h n;lia
theorem N5 {α:Type}[DecidableEq α]:∀{l m:List α},l.Nodup->(∀x∈l,x∈m)->l.length<=m.length
 |[],_,_,_=>aAV _
 |x::l,m,h,hs=>by
  have hx:=hs x (by simp);have h':=aAJ.mp h;have:=N5 (l:=l) (m:=m.erase x) h'.2 (λy hy=>by
   have ne:y≠x:=λe=>by subst e;exact h'.1 hy
   exact(aFO ne).mpr (hs y<|aAe _ hy))
  rw[aFd hx]at this;have:0<m.length:=aDU hx;simp only[aAs]
  lia
def FQ {t:SetTable}(h:t.place.size<=t.mask):∃j≤t.mask,j∉t.place.toList:=by
 by_cases z:∃j≤t.mask,j∉t.place.toList
 ·exact z
 ·exfalso;have:=N5 (l:=aBc (t.mask+1)) (m:=t.place.toList) List.nodup_range (λj hj=>by
   by_cases q:j∈t.place.toList
   ·exact q
   ·exact absurd ⟨j,by have:=aBl.mp hj;lia,q⟩ z)
  simp at this
  lia
theorem least {P:Nat->Prop}[DecidablePred P]:∀n,P n->∃m≤n,P m/\∀k<m,¬P k
 |0,h=>⟨0,aAj _,h,λk hk=>by lia⟩
 |n+1,h=>by
  by_cases z:∃k≤n,P k
  ·obtain⟨k,hk,hp⟩:=z;obtain⟨m,h1,h2,h3⟩:=least k hp;exact⟨m,by lia,h2,h3⟩
  ·exact⟨n+1,aAj _,h,λk hk hp=>z ⟨k,by lia,hp⟩⟩
termination_by n=>n
def S8 (t:SetTable)(h:Int)(n0:Nat):Prop:=n0<=10*(t.mask+14)/\(k9 t.mask h n0).j∉t.place.toList/\∀m<n0,(k9 t.mask h m).j∈t.place.toList
def BK {t:SetTable}(F:lW (t.mask+1))(hs:t.place.size<=t.mask)(h:Int):∃n0,S8 t h n0:=by obtain⟨j,hj,hn⟩:=FQ hs;obtain⟨n,h1,h2⟩:=BJ F h hj;obtain⟨m,h3,h4,h5⟩:=least (P:=λn=>(k9 t.mask h n).j∉t.place.toList) n (by rw[h2];exact hn);exact⟨m,by lia,h4,λk hk=>by have:=h5 k hk;simpa using this⟩
theorem xI (T:Tab t)(hashAt:Nat->Int)(h:Int)(hf:S8 t h n0):∀(fuel n:Nat),n<=n0->n0-n<fuel->
  ∃n',n<=n'/\n'<=n0/\(∀m,n<=m->m<n'->∃i,t.place[i]?=some (k9 t.mask h m).j/\hashAt i≠h)/\
   ((n'=n0/\probe.go t hashAt h fuel (k9 t.mask h n)=some (.empty (k9 t.mask h n0).j none))\/
    (n'<n0/\∃i,t.place[i]?=some (k9 t.mask h n').j/\hashAt i=h/\probe.go t hashAt h fuel (k9 t.mask h n)=some (.candidate (k9 t.mask h n').j i (k9 t.mask h (n'+1)))))
 |0,n,_,h2=>by lia
 |fuel+1,n,h1,h2=>by
  unfold probe.go;rcases yZ T (k9 t.mask h n).j with⟨e,hn⟩|⟨i,e,hi⟩
  ·have:n=n0:=by
     by_cases q:n<n0
     ·exact absurd (hf.2.2 n q) hn
     ·lia
   subst this;refine⟨n,aAj _,aAj _,λm a b=>by lia,.inl ⟨rfl,?_⟩⟩;rw[e];dsimp only;rw[oF]
  ·have ai:n≠n0:=λq=>by subst q;refine hf.2.1 ?_;rw[<-aAz]at hi;exact aAv hi
   rw[e];dsimp only;by_cases hh:hashAt i=h
   · refine⟨n,aAj _,by lia,λm a b=>by lia,.inr ⟨by lia,i,hi,hh,?_⟩⟩
     rw[if_pos (by simpa using hh),nU];rfl
   · rw[if_neg (by simpa using hh),nU]
     obtain⟨n',a1,a2,a3,a4⟩:=xI T hashAt h hf fuel (n+1) (by lia) (by lia);refine⟨n',by lia,a2,λm b1 b2=>?_,a4⟩;by_cases q:m=n
     ·subst q;exact⟨i,hi,hh⟩
     ·exact a3 m (by lia) b2
def IZ (T:Tab t)(hashAt:Nat->Int)(h:Int)(hf:S8 t h n0)(n:Nat)(h1:n<=n0):
  ∃n',n<=n'/\n'<=n0/\(∀m,n<=m->m<n'->∃i,t.place[i]?=some (k9 t.mask h m).j/\hashAt i≠h)/\
   ((n'=n0/\t.probe hashAt h (k9 t.mask h n)=some (.empty (k9 t.mask h n0).j none))\/
    (n'<n0/\∃i,t.place[i]?=some (k9 t.mask h n').j/\hashAt i=h/\t.probe hashAt h (k9 t.mask h n)=some (.candidate (k9 t.mask h n').j i (k9 t.mask h (n'+1))))):=
 xI T hashAt h hf _ n h1 (by have:=hf.1;unfold turns;lia)
def Reach (mask:Nat)(occ:Nat->Prop)(h:Int)(j:Nat):Prop:=∃n,(k9 mask h n).j=j/\∀m<n,occ (k9 mask h m).j
def Reach.mono {mask:Nat}{o o':Nat->Prop}{h:Int}{j:Nat}(r:Reach mask o h j)(i:∀k,o k->o' k):Reach mask o' h j:=by obtain⟨n,e,q⟩:=r;exact⟨n,e,λm hm=>i _ (q m hm)⟩
def Reach.before (hf:S8 t h n0)(hj:j∈t.place.toList)(r:Reach t.mask (λk=>k∈t.place.toList) h j):∃n<n0,(k9 t.mask h n).j=j:=by
 obtain⟨n,e,q⟩:=r;refine⟨n,?_,e⟩;by_cases z:n<n0
 ·exact z
 ·exfalso;by_cases y:n=n0
  ·subst y;exact hf.2.1 (by rw[e];exact hj)
  ·exact hf.2.1 (q n0 (by lia))
def eS {α:Type}(xs:Array α)(p:Nat)(x:α):(insertAt xs p x).toList=xs.toList.take p++x::xs.toList.drop p:=by
 unfold insertAt;simp[Array.toList_extract,List.extract_eq_drop_take];have:xs.size-p=(xs.toList.drop p).length:=by simp
 rw[this,List.take_length]
def yD (t:SetTable)(es:List (Int×Value)):List (Nat×Int×Value):=t.place.toList.zip es
structure SOk (t:SetTable)(es:List (Int×Value)):Prop where
 tab:Tab t
 full:lW (t.mask+1)
 len:t.place.size=es.length
 room:t.place.size<=t.mask
 reach:∀e∈yD t es,Reach t.mask (λk=>k∈t.place.toList) e.2.1 e.1
def PZ {t:SetTable}{es:List (Int×Value)}(hl:t.place.size=es.length){i:Nat}{e:Int×Value}(h:es[i]?=some e):∃j,t.place[i]?=some j/\(j,e)∈yD t es:=by
 have hi:i<es.length:=(aAA.mp h).1;have dn:i<t.place.toList.length:=by simpa[hl]using hi
 refine⟨t.place.toList[i],by rw[<-aAz,aAf dn],?_⟩;unfold yD;refine aAv (i:=i) ?_;rw[aBv];exact⟨aAf dn,h⟩
def VR {t:SetTable}{es:List (Int×Value)}(S:SOk t es){h:Int}{x:Value}{n0:Nat}(hf:S8 t h n0)(hr:t.place.size+1<=t.mask):
  SOk (t.put (k9 t.mask h n0).j).1 (es.take (t.put (k9 t.mask h n0).j).2++(h,x)::es.drop (t.put (k9 t.mask h n0).j).2):=by
 have hj:=tZ t.mask h n0;obtain⟨b1,b2,b3⟩:=aL S.tab.asc (k9 t.mask h n0).j;generalize hJ:(k9 t.mask h n0).j=J at*
 have hf2:J∉t.place.toList:=by rw[<-hJ];exact hf.2.1
 have ep:(t.put J).2=below t.place J:=rfl;have em:(t.put J).1.mask=t.mask:=rfl;have epl:(t.put J).1.place=insertAt t.place (below t.place J) J:=rfl;have lpl:=eS t.place (below t.place J) J;have mem:∀k,k∈(t.put J).1.place.toList↔k∈t.place.toList\/k=J:=λk=>by
  rw[epl,lpl,aAI,aAd];constructor
  ·rintro(q|q|q)
   ·exact .inl (aDw q)
   ·exact .inr q
   ·exact .inl (aDx q)
  ·rintro(q|q)
   ·rw[<-aFF (below t.place J) t.place.toList,aAI]at q;rcases q with q|q
    ·exact .inl q
    ·exact .inr (.inr q)
   ·exact .inr (.inl q)
 have gg:(t.put J).1.place.size=t.place.size+1:=by
  rw[<-aBb,epl,lpl,aAy,aBi,aAs,aDE,aBb]
  lia
 refine⟨⟨?_,λj ui=>?_,?_⟩,S.full,?_,by rw[gg];exact hr,λe he=>?_⟩
 ·
  have asc:t.place.toList.Pairwise (· <·):=by rw[aCj];intro i j hi hj jf;simpa using S.tab.asc i j (by simpa using hi) (by simpa using hj) jf
  have lt1:∀a∈t.place.toList.take (below t.place J),a<J:=λa ha=>by
   obtain⟨i,hi,e⟩:=aBA ha;rw[aBi]at hi;rw[List.getElem_take]at e;have:=b2 i (by simp at hi;lia) (by lia);simp at e
   lia
  have gt1:∀a∈t.place.toList.drop (below t.place J),J<a:=λa ha=>by
   obtain⟨i,hi,e⟩:=aBA ha;rw[aDE]at hi;rw[List.getElem_drop]at e;have h1:=b3 (below t.place J+i) (by simp at hi;lia) (by lia);simp at e;have h2:J≠a:=λq=>hf2 (by rw[q];exact aDx ha)
   lia
  have pw:(t.put J).1.place.toList.Pairwise (· <·):=by
   rw[epl,lpl,List.pairwise_append];refine⟨asc.sublist (List.take_sublist _ _),aAw.mpr ⟨gt1,asc.sublist (List.drop_sublist _ _)⟩,λa ha b hb=>?_⟩;rcases aAd.mp hb with q|q
   ·subst q;exact lt1 a ha
   ·exact aGm (lt1 a ha) (gt1 b q)
  intro i k hi hk hik;have:=aCj.mp pw i k (by simpa using hi) (by simpa using hk) hik;simpa using this
 ·rcases(mem j).mp ui with q|q
  ·exact S.tab.le j q
  ·subst q;exact hj
 ·show(if has t.dummies J then _ else t.dummies)=#[];rw[S.tab.nod,if_neg (by unfold has;simp)]
 ·rw[gg,ep,aAy,aBi,aAs,aDE];have:=S.len
  lia
 ·have xl:e∈yD t es\/e=(J,h,x):=by
   unfold yD at he;rw[epl,lpl,ep]at he;rw[List.zip_append (by rw[aBi,aBi,aBb,S.len])]at he;rcases aAI.mp he with q|q
   ·left;unfold yD;exact tJ q
   ·rw[aBW]at q;rcases aAd.mp q with q|q
    ·exact .inr q
    ·left;unfold yD;exact sD q
  rcases xl with q|q
  ·exact(S.reach e q).mono λk hk=>(mem k).mpr (.inl hk)
  ·subst q;exact⟨n0,hJ,λm hm=>(mem _).mpr (.inl (hf.2.2 m hm))⟩
end ST
namespace ST
open PySem PySem.SetTable
def P1 (owner:Array (Option Nat))(j:Nat):Prop:=(owner.getD j<|some 0).isNone=false
theorem qM {mask:Nat}(h:Int)(owner:Array (Option Nat)):∀(fuel k:Nat),(∃kk,k<=kk/\kk<k+fuel/\¬P1 owner (B7 mask h kk).1)->
  ∃n,off mask h k<=n/\layClean.free mask owner fuel (B7 mask h k).1 (B7 mask h k).2=some (k9 mask h n).j/\¬P1 owner (k9 mask h n).j/\∀m,off mask h k<=m->m<n->P1 owner (k9 mask h m).j
 |0,k,⟨kk,h1,h2,_⟩=>by lia
 |fuel+1,k,⟨kk,h1,h2,h3⟩=>by
  have eL:runEnd mask (B7 mask h k).1+1-(B7 mask h k).1=len mask (B7 mask h k).1+1:=by unfold len runEnd;split<;>lia
  unfold layClean.free;rw[eL];cases e:(aBc<|len mask (B7 mask h k).1+1).find? λr=>(owner.getD ((B7 mask h k).1+r)<|some 0).isNone with
  |some r=>
   have q:=List.find?_some e;have hr:r<len mask (B7 mask h k).1+1:=aBl.mp (List.mem_of_find?_eq_some e);have ej:(k9 mask h<|off mask h k+r).j=(B7 mask h k).1+r:=by rw[V6 mask h k r (by lia)]
   refine⟨off mask h k+r,by lia,by rw[ej],by rw[ej];unfold P1;rw[q];simp,λm a b=>?_⟩;have em:(k9 mask h m).j=(B7 mask h k).1+(m-off mask h k):=by have:=V6 mask h k (m-off mask h k) (by lia);rw[show off mask h k+(m-off mask h k)=m by lia]at this;rw[this]
   rw[em];unfold P1;rw[List.find?_range_eq_some]at e;have:=e.2.2 (m-off mask h k) (by lia);simpa using this
  |none=>
   have all:∀r<len mask (B7 mask h k).1+1,P1 owner ((B7 mask h k).1+r):=λr hr=>by have:=List.find?_eq_none.mp e r (aBl.mpr hr);unfold P1;exact Bool.not_eq_true _▸this
   have hk:kk≠k:=λq=>by subst q;have:=all 0 (by lia);rw[Nat.add_zero]at this;exact h3 this
   obtain⟨n,a1,a2,a3,a4⟩:=qM h owner fuel (k+1) ⟨kk,by lia,by lia,h3⟩;have eo:off mask h (k+1)=off mask h k+len mask (B7 mask h k).1+1:=rfl;refine⟨n,by lia,a2,a3,λm b1 b2=>?_⟩;by_cases q:off mask h (k+1)<=m
   ·exact a4 m q b2
   ·have em:(k9 mask h m).j=(B7 mask h k).1+(m-off mask h k):=by have:=V6 mask h k (m-off mask h k) (by lia);rw[show off mask h k+(m-off mask h k)=m by lia]at this;rw[this]
    rw[em];exact all _ (by lia)
def mE {mask:Nat}(F:lW (mask+1))(h:Int)(owner:Array (Option Nat)){j:Nat}(hj:j<=mask)(hn:¬P1 owner j):
  ∃n,layClean.free mask owner (turns mask) (aDR h%(mask+1)) (aDR h)=some (k9 mask h n).j/\¬P1 owner (k9 mask h n).j/\∀m<n,P1 owner (k9 mask h m).j:=by
 obtain⟨k,hk,e⟩:=rQ F (EF mask h 13) (show j<mask+1 by lia);obtain⟨n,a1,a2,a3,a4⟩:=qM h owner (turns mask) 0 ⟨13+k,aAV _,by unfold turns;lia,by rw[oE,e];exact hn⟩;exact⟨n,a2,a3,λm hm=>a4 m (aAV _) hm⟩
structure Laid (mask:Nat)(hs:List Int)(owner:Array (Option Nat))(k:Nat):Prop where
 size:owner.size=mask+1
 lt:∀(j i:Nat),owner[j]?=some (some i)->i<k
 inj:∀(j j' i:Nat),owner[j]?=some (some i)->owner[j']?=some (some i)->j=j'
 sur:∀i<k,∃j:Nat,owner[j]?=some (some i)
 reach:∀(j i:Nat) (h:Int),owner[j]?=some (some i)->hs[i]?=some h->Reach mask (λl=>∃i,owner[l]?=some (some i)) h j
def iX {owner:Array (Option Nat)}{mask j:Nat}(hs:owner.size=mask+1)(hj:j<=mask):P1 owner j↔∃i,owner[j]?=some (some i):=by
 unfold P1;have ah:j<owner.size:=by lia
 have e:owner.getD j (some 0)=owner[j]:=by simp[aFb,ah]
 rw[e,aAE ah];cases owner[j]with
 |none=>simp
 |some i=>simp
def Laid.room {mask k:Nat}{hs:List Int}{owner:Array (Option Nat)}(L:Laid mask hs owner k)(hk:k<=mask):∃j≤mask,¬P1 owner j:=by
 by_cases z:∃j≤mask,¬P1 owner j
 ·exact z
 ·exfalso;have all:∀j≤mask,∃i,owner[j]?=some (some i):=λj hj=>by
   by_cases q:P1 owner j
   ·exact(iX L.size hj).mp q
   ·exact absurd ⟨j,hj,q⟩ z
  have key:∀n,n<=mask+1->∃l:List Nat,l.length=n/\l.Nodup/\(∀i∈l,i<k)/\∀i∈l,∃j<n,owner[j]?=some (some i):=λn=>by
   induction n with
   |zero=>exactλ_=>⟨[],rfl,aDd,by simp,by simp⟩
   |succ n ih=>
    intro hn;obtain⟨l,h1,h2,h3,h4⟩:=ih (by lia);obtain⟨i,hi⟩:=all n (by lia);refine⟨i::l,by simp[h1],aAJ.mpr ⟨λq=>?_,h2⟩,λx hx=>?_,λx hx=>?_⟩
    ·obtain⟨j,hj,e⟩:=h4 i q;have:=L.inj j n i e hi
     lia
    ·rcases aAd.mp hx with q|q
     ·subst q;exact L.lt _ _ hi
     ·exact h3 x q
    ·rcases aAd.mp hx with q|q
     ·subst q;exact⟨n,by lia,hi⟩
     ·obtain⟨j,hj,e⟩:=h4 x q;exact⟨j,by lia,e⟩
  obtain⟨l,h1,h2,h3,_⟩:=key (mask+1) (aAj _);have:=N5 (m:=aBc k) h2 (λx hx=>aBl.mpr (h3 x hx));simp at this
  lia
def zE (mask:Nat)(hs:List Int):Laid mask hs (aEu (mask+1) none) 0:=by
 have no:∀(j i:Nat),(aEu (mask+1) (none:Option Nat))[j]?=some (some i)->False:=λj i h=>by rw[Array.getElem?_replicate]at h;split at h<;>cases h
 exact⟨by simp,λj i h=>(no j i h).elim,λj j' i h=>(no j i h).elim,λi hi=>by lia,λj i _ h=>(no j i h).elim⟩
def Laid.step {mask k:Nat}{hs:List Int}{owner:Array (Option Nat)}(L:Laid mask hs owner k){h:Int}(hk:hs[k]?=some h){n:Nat}(h2:¬P1 owner (k9 mask h n).j)(h3:∀m<n,P1 owner (k9 mask h m).j):
  Laid mask hs (owner.setIfInBounds (k9 mask h n).j (some k)) (k+1):=by
 have hJ:=tZ mask h n;have hJ':(k9 mask h n).j<owner.size:=by rw[L.size];lia
 have get:∀(j i:Nat),(owner.setIfInBounds (k9 mask h n).j (some k))[j]?=some (some i)↔(j=(k9 mask h n).j/\i=k)\/(j≠(k9 mask h n).j/\owner[j]?=some (some i)):=λj i=>by
  rw[Array.getElem?_setIfInBounds];by_cases q:(k9 mask h n).j=j
  ·rw[if_pos q,if_pos hJ'];simp[q,eq_comm]
  ·rw[if_neg q];constructor
   ·intro z;exact .inr ⟨λy=>q y.symm,z⟩
   ·rintro(⟨z,_⟩|⟨_,z⟩)
    ·exact absurd z.symm q
    ·exact z
 have fr:∀i,owner[(k9 mask h n).j]?≠some (some i):=λi z=>h2 ((iX L.size hJ).mpr ⟨i,z⟩);have grow:∀l:Nat,(∃i:Nat,owner[l]?=some (some i))->∃i:Nat,(owner.setIfInBounds (k9 mask h n).j (some k))[l]?=some (some i):=λl hl=>by
  obtain⟨i,z⟩:=hl;by_cases q:l=(k9 mask h n).j
  ·exact⟨k,(get l k).mpr (.inl ⟨q,rfl⟩)⟩
  ·exact⟨i,(get l i).mpr (.inr ⟨q,z⟩)⟩
 refine⟨by simp[L.size],λj i z=>?_,λj j' i z z'=>?_,λi hi=>?_,λj i h' z e=>?_⟩
 ·rcases(get j i).mp z with⟨_,q⟩|⟨_,q⟩
  ·lia
  ·have:=L.lt j i q;lia
 ·rcases(get j i).mp z with⟨q1,q2⟩|⟨q1,q2⟩
  ·rcases(get j' i).mp z' with⟨r1,r2⟩|⟨r1,r2⟩
   ·rw[q1,r1]
   ·subst q2;have:=L.lt _ _ r2;lia
  ·rcases(get j' i).mp z' with⟨r1,r2⟩|⟨r1,r2⟩
   ·subst r2;have:=L.lt _ _ q2;lia
   ·exact L.inj j j' i q2 r2
 ·by_cases q:i=k
  ·subst q;exact⟨_,(get _ _).mpr (.inl ⟨rfl,rfl⟩)⟩
  ·obtain⟨j,z⟩:=L.sur i (by lia);exact⟨j,(get j i).mpr (.inr ⟨λy=>by subst y;exact fr i z,z⟩)⟩
 ·rcases(get j i).mp z with⟨q1,q2⟩|⟨q1,q2⟩
  ·subst q1 q2;have:h'=h:=aAl (e.symm.trans hk);subst this;exact⟨n,rfl,λm hm=>grow _ ((iX L.size<|tZ mask h' m).mp (h3 m hm))⟩
  ·exact(L.reach j i h' q2 e).mono grow
def wT {mask:Nat}(F:lW (mask+1))(hs:Array Int)(hl:hs.size<=mask):∃owner,layClean mask hs=some owner/\Laid mask hs.toList owner hs.size:=by
 have go:∀(post pre:List Int) (owner:Array (Option Nat)),hs.toList=pre++post->Laid mask hs.toList owner pre.length->
   ∃mf,post.foldl (λacc h=>do
    let(owner,k)<-acc
    let j<-layClean.free mask owner (turns mask) (aDR h%(mask+1)) (aDR h)
    pure (owner.setIfInBounds j (some k),k+1)) (some (owner,pre.length))=some (mf,hs.size)/\Laid mask hs.toList mf hs.size:=λpost=>by
  induction post with
  |nil=>
   intro pre owner e L;have:pre.length=hs.size:=by rw[<-aBb,e];simp
   exact⟨owner,by rw[List.foldl_nil,this],by rw[<-this];exact L⟩
  |cons h post ih=>
   intro pre owner e L;have hlen:pre.length<hs.size:=by rw[<-aBb,e];simp
   obtain⟨j,hj,hn⟩:=L.room (by lia);obtain⟨n,f1,f2,f3⟩:=mE F h owner hj hn;have hk:hs.toList[pre.length]?=some h:=by rw[e];simp
   have L':=L.step hk f2 f3;rw[aFG];have e2:hs.toList=(pre++[h])++post:=by rw[e];simp
   obtain⟨mf,g1,g2⟩:=ih (pre++[h]) _ e2 (by rw[aAy];exact L');refine⟨mf,?_,g2⟩;rw[<-g1];congr 1;simp[f1]
 obtain⟨owner,h1,h2⟩:=go hs.toList [] (aEu (mask+1) none) rfl (zE mask hs.toList);refine⟨owner,?_,h2⟩;unfold layClean;rw[<-Array.foldl_toList];have ug:List.foldl (λacc h=>do
    let(owner,k)<-acc
    let j<-layClean.free mask owner (turns mask) (aDR h%(mask+1)) (aDR h)
    pure (owner.setIfInBounds j (some k),k+1)) (some (aEu (mask+1) none,0)) hs.toList=some (owner,hs.size):=h1
 rw[ug];rfl
end ST
namespace ST
open PySem PySem.SetTable
def D4 (mask:Nat)(owner:Array (Option Nat)):List (Nat×Nat):=(aBc<|mask+1).filterMap λj=>(owner.getD j none).map (j,·)
def P3 {mask:Nat}{owner:Array (Option Nat)}(hs:owner.size=mask+1){j i:Nat}:(j,i)∈D4 mask owner↔owner[j]?=some (some i):=by
 unfold D4;rw[aBU];constructor
 ·rintro⟨l,hl,e⟩;have ip:l<owner.size:=by rw[hs];exact aBl.mp hl
  have eg:owner.getD l none=owner[l]:=by simp[aFb,ip]
  rw[eg,aDe]at e;obtain⟨i',e1,e2⟩:=e;cases e2;rw[aAE ip,e1]
 ·intro e;obtain⟨hl,e1⟩:=aCf.mp e;have eg:owner.getD j none=owner[j]:=by simp[aFb,hl]
  exact⟨j,aBl.mpr (by lia),by rw[eg,e1];rfl⟩
def yS (mask:Nat)(owner:Array (Option Nat)):((D4 mask owner).map (·.1)).Pairwise (· <·):=by unfold D4;rw[aBG];have:(aBc<|mask+1).Pairwise (· <·):=List.pairwise_lt_range;refine List.Pairwise.filterMap _ (R:=(· <·)) ?_ this;intro a a' ah b hb b' km;rw[aDe]at hb km;obtain⟨_,_,rfl⟩:=hb;obtain⟨_,_,rfl⟩:=km;exact ah
def KL {mask finger moves:Nat}{led plain:Bool}(F:lW (mask+1))(es:Array (Int×Value))(hl:es.size<=mask):
  ∃t' order,laid mask finger moves led plain (es.map (·.1))=some (t',order)/\(order.filterMap (es[·]?)).size=es.size/\(order.filterMap (es[·]?)).toList.Perm es.toList/\SOk t' (order.filterMap (es[·]?)).toList/\
   t'.mask=mask/\t'.dummies=#[]/\t'.led=led/\t'.plain=plain/\t'.moves=moves:=by
 obtain⟨owner,h1,L⟩:=wT F (es.map (·.1)) (by simpa using hl);have hk:(es.map (·.1)).size=es.size:=by simp
 rw[hk]at L;refine⟨{mask,place:=((D4 mask owner).map (·.1)).toArray,dummies:=#[],finger,led,moves,plain},((D4 mask owner).map (·.2)).toArray,?_,?_⟩
 ·unfold laid;rw[h1];rfl
 have nd1:(D4 mask owner).Nodup:=by have:=yS mask owner;rw[aBG]at this;exact aCe.mpr (this.imp λ{a b} h e=>by subst e;exact aBf _ h)
 have ndo:((D4 mask owner).map (·.2)).Nodup:=by rw[aCe,aBG];refine List.Pairwise.imp_of_mem (R:=(· ≠·)) ?_ (aCe.mp nd1);rintro⟨j,i⟩ ⟨j',i'⟩ ha hb ai e;dsimp only at e;subst e;have:=L.inj j j' i ((P3 L.size).mp ha) ((P3 L.size).mp hb);subst this;exact ai rfl
 have po:((D4 mask owner).map (·.2)).Perm (aBc es.size):=by
  rw[aDu ndo List.nodup_range];intro i;rw[aBl,aAm];constructor
  ·rintro⟨⟨j,i'⟩,h,rfl⟩;exact L.lt _ _ ((P3 L.size).mp h)
  ·intro hi;obtain⟨j,hj⟩:=L.sur i hi;exact⟨(j,i),(P3 L.size).mpr hj,rfl⟩
 have ee:(((D4 mask owner).map (·.2)).toArray.filterMap (es[·]?)).toList=(D4 mask owner).filterMap (λx=>es[x.2]?):=by rw[Array.toList_filterMap,aDg];rfl
 have pe:((D4 mask owner).filterMap (λx=>es[x.2]?)).Perm es.toList:=by
  have h2:(D4 mask owner).filterMap (λx=>es[x.2]?)=((D4 mask owner).map (·.2)).filterMap (λi=>es[i]?):=by rw[aDg];rfl
  rw[h2];refine(po.filterMap _).trans (List.Perm.of_eq ?_);apply aFe;intro i;have:(aBc es.size).filterMap (λi=>es[i]?)=es.toList:=by
   have q:∀l:List (Int×Value),(aBc l.length).filterMap (λi=>l[i]?)=l:=λl=>by
    induction l with
    |nil=>rfl
    |cons a l ih=>
     rw[aAs,aFz,aCB];simp only[aDa];rw[aDg];have:((λi=>(a::l)[i]?)∘Nat.succ)=λi=>l[i]?:=by funext i;simp
     rw[this,ih]
   have:=q es.toList;simpa using this
  rw[this]
 have zp:∀l:List (Nat×Nat),(∀x∈l,x.2<es.size)->(l.map (·.1)).zip (l.filterMap<|λx=>es[x.2]?)=l.filterMap (λx=>es[x.2]?.map (x.1,·))/\(l.filterMap<|λx=>es[x.2]?).length=l.length:=λl=>by
  induction l with
  |nil=>intro _;exact⟨rfl,rfl⟩
  |cons x l ih=>intro h;obtain⟨i1,i2⟩:=ih (λy hy=>h y (aAe _ hy));have hx:=h x (by simp);have e:es[x.2]?=some es[x.2]:=aAE hx;rw[aAp,aCB,e];dsimp only;rw[aCB,e];dsimp only[Option.map_some];rw[aBW,i1];exact⟨rfl,by simp[i2]⟩
 obtain⟨z1,z2⟩:=zp (D4 mask owner) (λx hx=>L.lt x.1 x.2 ((P3 L.size).mp hx));have gg:(D4 mask owner).length=es.size:=by have:=po.length_eq;simpa using this
 rw[ee];refine⟨by rw[<-aBb,ee,z2,gg],pe,⟨⟨?_,λj hj=>?_,rfl⟩,F,?_,?_,λe he=>?_⟩,rfl,rfl,rfl,rfl,rfl⟩
 ·intro i k hi hk hik;have:=aCj.mp (yS mask owner) i k (by simpa using hi) (by simpa using hk) hik;simpa using this
 ·have ui:j∈(D4 mask owner).map (·.1):=by simpa using hj
  obtain⟨⟨j',i⟩,h,rfl⟩:=aAm.mp ui;have:=(aCf.mp<|(P3 L.size).mp h).1;rw[L.size]at this;show j'<=mask
  lia
 ·rw[z2];simp
 ·simp only[aAo,aAh,gg];exact hl
 ·unfold yD at he;dsimp only at he;rw[z1,aBU]at he;obtain⟨⟨j,i⟩,h,e1⟩:=he;rw[aDe]at e1;obtain⟨⟨hh,v⟩,e2,rfl⟩:=e1;have ho:=(P3 L.size).mp h;have:=L.reach j i hh ho (by rw[aAz,Array.getElem?_map,e2];rfl);refine this.mono λl ⟨i',dn⟩=>?_;show l∈(D4 mask owner).map (·.1);exact aAm.mpr ⟨(l,i'),(P3 L.size).mpr dn,rfl⟩
end ST
namespace DL
open PySem PySem.Spec L2
open PyProof.Rows hiding St
variable [Tabs]
mutual
inductive HV (h:Heap):Value->D->Prop
 |int (i:Int) (t:Tok):HV h (.int i t) (.int i)
 |tup {a:Addr} {items:Array Value} {ds:List D} (p:IsTup h a items) (r:HVs h items.toList ds):HV h (.ref a) (.tup ds)
inductive HVs (h:Heap):List Value->List D->Prop
 |nil:HVs h [] []
 |cons {v:Value} {d:D} {vs:List Value} {ds:List D} (r:HV h v d) (t:HVs h vs ds):HVs h (v::vs) (d::ds)
end
mutual
def lY:D->Bool
 |.int _=>true
 |.tup xs=>P9 xs
 |_=>false
def P9:List D->Bool
 |[]=>true
 |x::xs=>lY x&&P9 xs
end
theorem fR:∀xs:List D,tK xs=xs.map m4
 |[]=>rfl
 |x::xs=>by rw[tK,fR xs];rfl
section
mutual
theorem HV.keeps (k:∀b o,h.get? b=some o->o.cls=.type "tuple"->h'.get? b=some o):∀{v:Value} {d:D},HV h v d->HV h' v d
 |_,_,.int i t=>.int i t
 |_,_,.tup p r=>.tup (by obtain⟨o,e,c,n,d⟩:=p;exact⟨o,k _ _ e c,c,n,d⟩) (HVs.keeps k r)
theorem HVs.keeps (k:∀b o,h.get? b=some o->o.cls=.type "tuple"->h'.get? b=some o):∀{v:List Value} {d:List D},HVs h v d->HVs h' v d
 |_,_,.nil=>.nil
 |_,_,.cons r t=>.cons (HV.keeps k r) (HVs.keeps k t)
end
mutual
theorem HV.inj:∀{v:Value} {d d':D},HV h v d->HV h v d'->d=d'
 |_,_,_,.int i t,.int _ _=>rfl
 |_,_,_,.tup p r,.tup p' r'=>by obtain⟨o,e,c,n,dd⟩:=p;obtain⟨o',e',c',n',ym⟩:=p';rw[e]at e';cases e';rw[dd]at ym;injection ym with q _;subst q;rw[HVs.inj r r']
theorem HVs.inj:∀{v:List Value} {d d':List D},HVs h v d->HVs h v d'->d=d'
 |_,_,_,.nil,.nil=>rfl
 |_,_,_,.cons r t,.cons r' t'=>by rw[HV.inj r r',HVs.inj t t']
end
theorem HVs.length:∀{v:List Value} {d:List D},HVs h v d->v.length=d.length
 |_,_,.nil=>rfl
 |_,_,.cons _ t=>by simp[HVs.length t]
end
section
variable{prog:Program} {w:World}
def PH (prog:Program)(w:World)(h:Heap)(v:Value)(d:D):Prop:=∀(A:Around) (E:D2) (s:Shared) (Q:Int->Shared->Prop),s.heap=h->A.units+8*C1 d<cLine->(∀tk,s.toks<=tk->Q (m4 d) {s with toks:=tk})->wpAny (model prog w) A (pyHash v) Q E s
mutual
theorem UC:∀{v:Value} {d:D},HV h v d->PH prog w h v d
 |_,_,.int i t=>λA E s Q hs hu q=>by exact(intKind prog w).pyHash (k:=i) (intKind_is _ _ _ _) (q _<|Nat.le_succ _)
 |_,_,.tup (a:=a) (items:=items) (ds:=ds) p r=>λA E s Q hs hu q=>by
  have fs:=LS r;subst hs;obtain⟨o,ho,hc,n,hd⟩:=p;have hT:s.TypeIs (.ref a) "tuple":=⟨o,ho,hc⟩;have hu0:A.units<cLine:=by lia
  rw[C1]at hu;unfold pyHash;first|unfold pyHashByItsType|skip
  first|refine aAa (wpAny_cRoomFor_or (.inr hu0) ?_)|skip
  refine aAa (aBq hT PySem.F.slot_tuple_hash.lookup ?_);show wpAny _ _ (if(some (aGd "tuple.__hash__")==some Value.none)=true then _ else _) Q E s;rw[if_neg (by rw[aFs];exact aAH)];refine aAa (aBq hT PySem.F.slot_tuple_hash.lookup ?_);show wpAny _ _ (callSpecialIfBoundUnlessNone? (.ref a) "__hash__" _>>=_) Q E s;refine aAa (aDk hT PySem.F.slot_tuple_hash<|aBp PySem.F.slot_tuple_hash hT PySem.F.entry_tuple_hash ?_ (PySem.F.args_tuple_hash_1 _));show wpAny _ _ (aDt (.ref a)>>=_) _ _ s;refine aAa (wpAny_tupleItemsOf ho hd ?_);refine aAa ?_;rw[<-aCt];refine aCu _
   (λrest (b:Array Int) s'=>∃done left tk,ds=done++left/\Paired (PH prog w s.heap) rest left/\b.toList=done.map m4/\s.toks<=tk/\s'={s with toks:=tk})
   _ ?_ ?_ _ _ ⟨[],ds,s.toks,rfl,fs,rfl,aAj _,rfl⟩
  ·rintro x rest b s' ⟨done,left,tk,e1,hl,hb,vp,rfl⟩;cases hl with
   |@cons _ d _ left' h1 ip=>
    refine aAa (h1 _ _ _ _ rfl ?_ λxm htk'=>?_)
    ·have:C1 d<=D8 ds:=by rw[e1];exact uK (j:=done.length) (by simp)
     rw[u3];lia
    first
     |exact aAb ⟨done++[d],left',xm,by simp[e1],ip,by simp[hb],by(have:tk<=xm:=htk');lia,rfl⟩
     |exact aAa (aAb (aAb ⟨done++[d],left',xm,by simp[e1],ip,by simp[hb],by(have:tk<=xm:=htk';lia),rfl⟩))
  ·rintro b s' ⟨done,left,tk,e1,hl,hb,vp,rfl⟩;cases hl;rw[aBV]at e1;subst e1;show wpAny _ _ (retInt<|aAO b.toList) _ _ _;rw[hb];refine wpAny_ret_mkInt ?_;show wpAny _ _ (if(decide (-(2:Int)^63<=aAO (ds.map m4))&&decide (aAO (ds.map m4)<2^63))=true then _ else _) Q E _;have q':=q (tk+1) (by lia);rw[m4,fR]at q';unfold reduceHash at q';by_cases hr:(decide (-(2:Int)^63<=aAO (ds.map m4))&&decide (aAO (ds.map m4)<2^63))=true
   ·rw[if_pos hr];rw[if_pos hr]at q';exact aAb q'
   ·rw[if_neg hr];rw[if_neg hr]at q';exact aAa (aDq<|aAb q')
theorem LS:∀{v:List Value} {d:List D},HVs h v d->Paired (PH prog w h) v d
 |_,_,.nil=>.nil
 |_,_,.cons r t=>.cons (UC r) (LS t)
end
mutual
theorem CI:∀{v u:Value} {d e:D} {A:Around},HV s.heap v d->HV s.heap u e->A.units+C1 d<cLine->SeqAt.EqAt A s v u (u4 d e)
 |_,_,_,_,A,.int i t,.int j t',_=>by simp only[u4];exact aEI _ _ _ _
 |_,_,_,_,A,.int i t,.tup p r,hu=>by simp only[u4];exact aFL _ _ p (by lia)
 |_,_,_,_,A,.tup p r,.int j t',hu=>by simp only[u4];exact aFM _ _ p (by lia)
 |_,_,_,_,A,.tup (a:=a) (ds:=ds) p r,.tup (a:=a') (ds:=bf) p' r',hu=>by
  by_cases e:a=a'
  ·subst e;have:=HV.inj (.tup p r) (.tup p' r');rw[this,L9];exact aDO _
  ·simp only[u4];rw[C1]at hu;exact aEJ e (jZ (by simpa using p) (by simpa using p') r.length r'.length (by lia) (NL r r' (by rw[u3];lia))).1
theorem NL:∀{vs us:List Value} {ds es:List D} {A:Around},HVs s.heap vs ds->HVs s.heap us es->A.in1.units+D8 ds<cLine->mD A s vs us ds es
 |_,_,_,_,A,.nil,_,_=>λj u w h1 h2=>by simp at h1
 |_,_,_,_,A,.cons r t,.nil,_=>λj u w h1 h2=>by simp at h2
 |_,_,_,_,A,.cons (d:=d) (ds:=ds) r t,.cons (d:=d') (ds:=bf) r' t',hu=>λj u w h1 h2=>by
  rw[D8]at hu;match j,h1,h2 with
  |0,h1,h2=>simp only[aDa,aGh]at h1 h2;subst h1 h2;exact CI r r' (by lia)
  |j+1,h1,h2=>simp only[aDP]at h1 h2;exact NL t t' (by lia) j u w h1 h2
end
mutual
theorem cU:∀{d e:D},lY d=true->lY e=true->u4 d e=true->d=e
 |.int i,.int j,_,_,h=>by simp[u4]at h;rw[h]
 |.tup xs,.tup ys,h1,h2,h=>by rw[lY]at h1 h2;rw[u4]at h;rw[xE h1 h2 h]
 |.int _,.tup _,_,_,h=>by simp[u4]at h
 |.tup _,.int _,_,_,h=>by simp[u4]at h
 |.non,_,h,_,_=>by simp[lY]at h
 |.bl _,_,h,_,_=>by simp[lY]at h
 |.str _,_,h,_,_=>by simp[lY]at h
 |.lst _,_,h,_,_=>by simp[lY]at h
 |_,.non,_,h,_=>by simp[lY]at h
 |_,.bl _,_,h,_=>by simp[lY]at h
 |_,.str _,_,h,_=>by simp[lY]at h
 |_,.lst _,_,h,_=>by simp[lY]at h
theorem xE:∀{d e:List D},P9 d=true->P9 e=true->X8 d e=true->d=e
 |[],[],_,_,_=>rfl
 |[],_::_,_,_,h=>by simp[X8]at h
 |_::_,[],_,_,h=>by simp[X8]at h
 |x::xs,y::ys,h1,h2,h=>by rw[P9,aAL]at h1 h2;rw[X8,aAL]at h;rw[cU h1.1 h2.1 h.1,xE h1.2 h2.2 h.2]
end
mutual
theorem HV.ok:∀{v:Value} {d:D},HV h v d->lY d=true
 |_,_,.int i t=>rfl
 |_,_,.tup p r=>by rw[lY];exact HVs.ok r
theorem HVs.ok:∀{v:List Value} {d:List D},HVs h v d->P9 d=true
 |_,_,.nil=>rfl
 |_,_,.cons r t=>by rw[P9,HV.ok r,HVs.ok t];rfl
end
mutual
theorem iL:∀{v:Value} {d:D} (k:Nat),HV h v d->C1 d<k->∀(M:Model) (A:Around) (E:D2) (s:Shared) (Q:vK),s.heap=h->Q true s->wpAny M A (eqIsQuiet k v) Q E s
 |_,_,k,.int i t,_=>λM A E s Q hs q=>by unfold eqIsQuiet;exact aAb q
 |_,_,k,.tup (a:=a) (items:=items) (ds:=ds) p r,hk=>λM A E s Q hs q=>by
  subst hs;obtain⟨o,ho,hc,n,hd⟩:=p;have hT:s.TypeIs (.ref a) "tuple":=⟨o,ho,hc⟩;match k,hk with
  |k+1,hk=>
   rw[C1]at hk;unfold eqIsQuiet;refine aAa (aBq hT PySem.F.slot_tuple_eq.lookup ?_);show wpAny _ _ (isInstance (.ref a) (.type "tuple")>>=_) _ _ s;refine aAa (aDG hT isSubtype_tuple_tuple ?_);simp only[aCy,aAn,if_false];refine aAa (aBL ho hd ?_);refine aAa ?_;show wpAny _ _ (forIn items _ _) _ _ s;rw[<-aCt];refine aCu _ (λrest r s'=>r.1=none/\s'=s/\∃bf,HVs s.heap rest bf/\D8 bf<k) _ ?_ ?_ _ _ ⟨rfl,rfl,ds,r,by lia⟩
   ·rintro v rest r s' ⟨hr,rfl,bf,hv,hdp⟩;cases hv with
    |@cons _ d _ qh hv ht=>rw[D8]at hdp;refine aAa (iL k hv (by lia) M A E s' _ rfl ?_);simp only[aCy,aAn,if_false];exact aAb ⟨rfl,rfl,qh,ht,by lia⟩
   ·rintro⟨r1,r2⟩ s' ⟨hr,rfl,_⟩;simp only at hr;subst hr;exact aAb q
end
mutual
theorem fI:∀{v:Value} {d:D} (k:Nat),HV h v d->C1 d<k->∀(M:Model) (A:Around) (E:D2) (s:Shared) (Q:vK),s.heap=h->Q false s->wpAny M A (ofAClassStatement k v) Q E s
 |_,_,k,.int i t,_=>λM A E s Q hs q=>by unfold ofAClassStatement;exact aAb q
 |_,_,k,.tup (a:=a) (items:=items) (ds:=ds) p r,hk=>λM A E s Q hs q=>by
  subst hs;obtain⟨o,ho,hc,n,hd⟩:=p;have hT:s.TypeIs (.ref a) "tuple":=⟨o,ho,hc⟩;match k,hk with
  |k+1,hk=>
   rw[C1]at hk;unfold ofAClassStatement;refine aAa (aDK hT ?_);dsimp only;rw[if_pos (by decide)];refine aAa (aAb ?_);simp only[aCy,aAn,if_false];refine aAa (aBL ho hd ?_);dsimp only;refine aAa ?_;show wpAny _ _ (forIn items _ _) _ _ s;rw[<-aCt];refine aCu _ (λrest r s'=>r.1=none/\s'=s/\∃bf,HVs s.heap rest bf/\D8 bf<k) _ ?_ ?_ _ _ ⟨rfl,rfl,ds,r,by lia⟩
   ·rintro v rest r s' ⟨hr,rfl,bf,hv,hdp⟩;cases hv with
    |@cons _ d _ qh hv ht=>rw[D8]at hdp;refine aAa (fI k hv (by lia) M A E s' _ rfl ?_);simp only[aAn,if_false];exact aAb ⟨rfl,rfl,qh,ht,by lia⟩
   ·rintro⟨r1,r2⟩ s' ⟨hr,rfl,_⟩;simp only at hr;subst hr;exact aAb q
end
mutual
theorem mY:∀{v:Value} {d:D} (k:Nat),HV h v d->C1 d<k->∀(M:Model) (A:Around) (E:D2) (s:Shared) (Q:vK),s.heap=h->Q true s->wpAny M A (hashByValue k v) Q E s
 |_,_,k,.int i t,_=>λM A E s Q hs q=>by unfold hashByValue;exact aAb q
 |_,_,k,.tup (a:=a) (items:=items) (ds:=ds) p r,hk=>λM A E s Q hs q=>by
  subst hs;obtain⟨o,ho,hc,n,hd⟩:=p;have hT:s.TypeIs (.ref a) "tuple":=⟨o,ho,hc⟩;match k,hk with
  |k+1,hk=>
   rw[C1]at hk;unfold hashByValue;refine aAa (aBq hT PySem.F.slot_tuple_hash.lookup ?_);dsimp only;refine aAa (aBL ho hd ?_);refine aAa ?_;show wpAny _ _ (forIn items _ _) _ _ s;rw[<-aCt];refine aCu _ (λrest r s'=>r.1=none/\s'=s/\∃bf,HVs s.heap rest bf/\D8 bf<k) _ ?_ ?_ _ _ ⟨rfl,rfl,ds,r,by lia⟩
   ·rintro v rest r s' ⟨hr,rfl,bf,hv,hdp⟩;cases hv with
    |@cons _ d _ qh hv ht=>rw[D8]at hdp;refine aAa (mY k hv (by lia) M A E s' _ rfl ?_);simp only[aCy,aAn,if_false];exact aAb ⟨rfl,rfl,qh,ht,by lia⟩
   ·rintro⟨r1,r2⟩ s' ⟨hr,rfl,_⟩;simp only at hr;subst hr;exact aAb q
end
def jW {α:Type}{M:Model}{A:Around}{E:D2}{s:Shared}{Q:α->Shared->Prop}{c:Prop}[Decidable c]{a b:Sem α}(h1:c->wpAny M A a Q E s)(h2:¬c->wpAny M A b Q E s):wpAny M A (if c then a else b) Q E s:=by
 by_cases h:c
 ·rw[if_pos h];exact h1 h
 ·rw[if_neg h];exact h2 h
def VJ {M:Model}{A:Around}{E:D2}{s:Shared}{Q:vK}{x:Value}{d:D}(hx:HV s.heap x d)(hd:C1 d<8)(ys:List Value)(hy:∀y∈ys,∃e,HV s.heap y e/\C1 e<8)(q:Q false s):wpAny M A (searchCouldBeSeen x ys) Q E s:=by
 unfold searchCouldBeSeen;refine aAa ?_;refine aCu _ (λrest r s'=>r.1=none/\s'=s/\∀y∈rest,y∈ys) _ ?_ ?_ _ _ ⟨rfl,rfl,λy h=>h⟩
 ·rintro y rest r s' ⟨hr,rfl,hm⟩;obtain⟨e,he,hde⟩:=hy y (hm y (by simp));dsimp only;refine jW (λ_=>?_) (λ_=>?_)
  ·exact aAb ⟨rfl,rfl,λz hz=>hm z (aAe _ hz)⟩
  ·refine aAa (iL 8 hx hd M A E s' _ rfl ?_);simp only[aCy,aAn,if_false];refine aAa (iL 8 he hde M A E s' _ rfl ?_);simp only[aCy,aAn,if_false];refine aAa (fI 8 hx hd M A E s' _ rfl ?_);simp only[aAn,if_false];refine aAa (fI 8 he hde M A E s' _ rfl ?_);simp only[aAn,if_false];exact aAb ⟨rfl,rfl,λz hz=>hm z (aAe _ hz)⟩
 ·rintro⟨r1,r2⟩ s' ⟨hr,rfl,_⟩;simp only at hr;subst hr;exact aAb q
end
end DL
namespace DL
open PySem PySem.Spec L2
open PyProof.Rows hiding St
variable [Tabs]
def EV (h:Heap)(e:Int×Value)(d:D):Prop:=HV h e.2 d/\e.1=m4 d
theorem F4 {α β:Type}{F:α->β->Prop}:∀{l:List α} {m:List β} {i:Nat} {a:α},Paired F l m->l[i]?=some a->∃b,m[i]?=some b/\F a b
 |_,_,_,_,.nil,h=>by simp at h
 |_,_,0,_,.cons r _,h=>by simp at h;subst h;exact⟨_,rfl,r⟩
 |_,_,i+1,a,.cons _ t,h=>by obtain⟨b,h1,h2⟩:=F4 (i:=i) t (by simpa using h);exact⟨b,by simpa using h1,h2⟩
theorem bX {α β:Type}{F:α->β->Prop}:∀{l:List α} {m:List β} {i:Nat} {b:β},Paired F l m->m[i]?=some b->∃a,l[i]?=some a/\F a b
 |_,_,_,_,.nil,h=>by simp at h
 |_,_,0,_,.cons r _,h=>by simp at h;subst h;exact⟨_,rfl,r⟩
 |_,_,i+1,a,.cons _ t,h=>by obtain⟨b,h1,h2⟩:=bX (i:=i) t (by simpa using h);exact⟨b,by simpa using h1,h2⟩
theorem fH {α β:Type}{F:α->β->Prop}:∀{l:List α} {m:List β},Paired F l m->l.length=m.length
 |_,_,.nil=>rfl
 |_,_,.cons _ t=>by simp[fH t]
section
variable{es:Array (Int×Value)}
def gQ (K:ST.SOk t es.toList):t.fits es.size=true:=by
 have h1:=K.len;have h2:=K.room;have h3:=K.tab.nod;unfold aGe SetTable.fill;rw[h3];simp at h1⊢
 lia
theorem kS (ho:s.heap.get? S=some o)(hd:o.data=.set es ep t)(K:ST.SOk t es.toList)(hodd:t.mask%2=1)(P:Paired (EV s.heap) es.toList ds)(hx:HV s.heap (.ref x) (.tup xs))(hdx:C1 (.tup xs)<8)(xh:∀e∈ds,C1 e<8)(hT:∀e∈ds,∃ys,e=.tup ys)
  (hu:A.units+16<cLine) (hf:ST.S8 t (m4 (.tup xs)) n0) {Q:SetFound->Shared->Prop} (q1:D.tup xs∈ds->Q (.there none) s) (q2:D.tup xs∉ds->Q (.free (ST.k9 t.mask (m4 (.tup xs)) n0).j false) s):
  ∀(fuel n:Nat) (qi:Option SetTable.Probe),qi.getD (t.probeStart (m4 (.tup xs)))=ST.k9 t.mask (m4 (.tup xs)) n->n<=n0->n0-n<fuel->
   (∀m<n,∀(i:Nat),t.place[i]?=some (ST.k9 t.mask (m4 (.tup xs)) m).j->ds[i]?≠some (.tup xs))->wpAny (model prog w) A (setSearchFrom S (.ref x) (m4 (.tup xs)) true fuel qi) Q E s
 |0,n,qi,_,_,h,_=>by lia
 |fuel+1,n,qi,jh,hn,hfu,hno=>by
  unfold setSearchFrom;refine aAa (aCg ho hd (gQ K) ?_);dsimp only;refine jW (λz=>?_) (λ_=>?_)
  ·unfold SetTable.gaveWay at z;simp at z;lia
  rw[jh];obtain⟨n',a1,a2,a3,a4⟩:=ST.IZ K.tab (λi=>(es[i]?.map (·.1)).getD 0) (m4<|.tup xs) hf n hn;generalize hg:t.probe _ (m4<|.tup xs) (ST.k9 t.mask (m4<|.tup xs) n)=pm;rcases a4 with⟨en,e⟩|⟨ah,i,hi,hh,e⟩
  ·have ep:pm=_:=hg.symm.trans e;rw[ep];dsimp only;refine aAb (q2 λhm=>?_);obtain⟨i,hi⟩:=aDn.mp hm;obtain⟨⟨hv,v⟩,he,h1,h2⟩:=bX P hi;obtain⟨j,hj,pg⟩:=ST.PZ K.len he;dsimp only at h2;have hr:=K.reach _ pg;dsimp only at hr;rw[h2]at hr;obtain⟨m,hm,em⟩:=ST.Reach.before hf (by rw[<-aAz]at hj;exact aAv hj) hr;by_cases z:m<n
   ·exact hno m z i (by rw[em];exact hj) hi
   ·obtain⟨i',dn,ai⟩:=a3 m (by lia) (by lia);have:i'=i:=by have q1:=ST.K0 K.tab dn;have q2:=ST.K0 K.tab hj;rw[em]at q1;rw[q1]at q2;injection q2
    subst this;refine ai ?_;show(es[i']?.map (·.1)).getD 0=_;rw[<-aAz,he];exact h2
  ·have ep:pm=_:=hg.symm.trans e;rw[ep];dsimp only;have hidx:i<es.size:=by
    have:=(aCf.mp hi).1;have h1:=K.len;simp at h1
    lia
   have hes:es[i]?=some es[i]:=aAE hidx;obtain⟨di,hdi,hv,hhash⟩:=F4 P (show es.toList[i]?=some es[i]by rw[aAz];exact hes);obtain⟨ys,rfl⟩:=hT di (aAv hdi);have go:wpAny (model prog w) A (do
     let some (_,y):=es[i]?|unsupported "internal:set-entry"
     let equal<-holding [y] (eqBool y<|.ref x)
     let(es',_,t')<-setState S
     if true&&equal then return .there none
     let some same:=t'.sameMemory t.moves t.mask|unsupported "set.changed-during-lookup:is-the-new-block-at-the-old-address"
     let TR<-match(if same then t'.slot (ST.k9 t.mask (m4<|.tup xs) n').j else .empty)with
      |.live i'=>match es'[i']? with
       |some (_,y')=>do pure (if<-isSame y' y then some i' else none)
       |none=>pure none
      |_=>pure none
     match TR with
     |none=>rule "set.search.anew";setSearchFrom S (.ref x) (m4<|.tup xs) true fuel none
     |some i'=>if equal then return .there (some i')else setSearchFrom S (.ref x) (m4<|.tup xs) true fuel (some<|ST.k9 t.mask (m4<|.tup xs)<|n'+1)) Q E s:=by
    rw[hes];generalize he:es[i]=en at*
    obtain⟨hn,y⟩:=en;dsimp only at hv hhash⊢;refine aAa (aAP (CI hv hx (by have:=xh _ (aAv hdi);lia) prog w E _ ?_));refine aAa (aCg ho hd (gQ K) ?_);dsimp only;cases hq:u4 (.tup ys) (.tup xs)with
    |true=>rw[if_pos (show(true&&true)=true from rfl)];have:D.tup ys=.tup xs:=cU hv.ok hx.ok hq;rw[this]at hdi;exact aAb (q1<|aAv hdi)
    |false=>
     rw[if_neg (by simp)];have hsm:t.sameMemory t.moves t.mask=some true:=by unfold SetTable.sameMemory;rw[if_pos (by simp)]
     rw[hsm];dsimp only;rw[if_pos rfl,ST.K0 K.tab hi];dsimp only;rw[hes];dsimp only;cases hv with
     |tup p r=>
      refine aAa (wpAny_isSame_ref_self ?_);refine aAa (aAb ?_);rw[if_pos rfl];dsimp only;rw[if_neg (by simp)];refine kS ho hd K hodd P hx hdx xh hT hu hf q1 q2 fuel (n'+1) _ rfl (by lia) (by lia) λm hm i2 yn hz=>?_;by_cases z:m<n
      ·exact hno m z i2 yn hz
      ·by_cases z2:m=n'
       ·subst z2;have:i2=i:=by have q1:=ST.K0 K.tab yn;have q2:=ST.K0 K.tab hi;rw[q1]at q2;injection q2
        subst this;rw[hdi]at hz;have:D.tup ys=.tup xs:=aAl hz;rw[this,L9]at hq;cases hq
       ·obtain⟨i',dn,ai⟩:=a3 m (by lia) (by lia);have:i'=i2:=by have q1:=ST.K0 K.tab dn;have q2:=ST.K0 K.tab yn;rw[q1]at q2;injection q2
        subst this;obtain⟨⟨h0,v0⟩,he0,hv0,hh0⟩:=bX P hz;refine ai ?_;show(es[i']?.map (·.1)).getD 0=_;rw[<-aAz,he0];exact hh0
   refine jW (λ_=>?_) (λ_=>go);refine aAa (VJ hx hdx _ (λy hy=>?_) ?_)
   ·obtain⟨e',xl,rfl⟩:=aAm.mp hy;rw[Array.toList_filter]at xl;have hm:=(aCR.mp xl).1;obtain⟨k,hk⟩:=aDn.mp hm;obtain⟨dk,hdk,hvk,_⟩:=F4 P hk;exact⟨dk,hvk,xh _ (aAv hdk)⟩
   ·rw[if_neg (by simp)];exact go
def uX (m n:Nat):Prop:=(m=7/\n<=4)\/(m=31/\n<=18)\/(m=127/\n<=76)
def uX.odd (h:uX m n):m%2=1:=by rcases h with⟨rfl,_⟩|⟨rfl,_⟩|⟨rfl,_⟩<;>rfl
def Keeps (h0 h:Heap):Prop:=∀b o,h0.get? b=some o->h.get? b=some o
structure SetAt (L:Bool)(h0 h:Heap)(S:Addr)(ds:List D):Prop where
 ex:∃(o:Obj) (es:Array (Int×Value)) (ep:Nat) (t:SetTable),h.get? S=some o/\o.cls=.type "set"/\o.dict=none/\o.slots=#[]/\o.data=.set es ep t/\ST.SOk t es.toList/\uX t.mask es.size/\Paired (EV h0) es.toList ds/\t.led=L/\t.plain=true
 nd:ds.Nodup
def bV {α β:Type}{F:α->β->Prop}:∀{l l':List α} {m:List β},l'.Perm l->Paired F l m->∃m',m'.Perm m/\Paired F l' m':=λ{l l' m} p=>by
 induction p generalizing m with
 |nil=>intro h;exact⟨m,.refl _,h⟩
 |cons x _ ih=>
  intro h;cases h with
  |cons r t=>obtain⟨m',p',q'⟩:=ih t;exact⟨_::m',p'.cons _,.cons r q'⟩
 |swap x y l=>
  intro h;cases h with
  |cons r t=>
   cases t with
   |cons r' t'=>exact⟨_,.swap _ _ _,.cons r' (.cons r t')⟩
 |trans _ _ ih1 ih2=>intro h;obtain⟨m1,p1,q1⟩:=ih2 h;obtain⟨m2,p2,q2⟩:=ih1 q1;exact⟨m2,p2.trans p1,q2⟩
theorem cQ {α β:Type}{F G:α->β->Prop}(i:∀a b,F a b->G a b):∀{l:List α} {m:List β},Paired F l m->Paired G l m
 |_,_,.nil=>.nil
 |_,_,.cons r t=>.cons (i _ _ r) (cQ i t)
theorem oT {α β:Type}{F:α->β->Prop}{a:α}{b:β}(r:F a b):∀{l:List α} {m:List β} (p:Nat),Paired F l m->Paired F (l.take p++a::l.drop p) (m.take p++b::m.drop p)
 |_,_,0,h=>.cons r h
 |_,_,p+1,.nil=>.cons r .nil
 |_,_,p+1,.cons r' t=>.cons r' (oT r p t)
def JF {α:Type}(a:α)(l:List α)(p:Nat):(l.take p++a::l.drop p).Perm (a::l):=by have h:=List.perm_middle (a:=a) (l₁:=l.take p) (l₂:=l.drop p);rw[aFF]at h;exact h
def yJ {α β:Type}{M:Model}{Q:α->Shared->Prop}{c:Prop}[Decidable c]{a:Sem β}{k:β->Sem α}(b:β)(h1:∀Q':β->Shared->Prop,Q' b s->wpAny M A a Q' E s)(h:wpAny M A (k b) Q E s):wpAny M A (if c then a>>=k else pure b>>=k) Q E s:=
 jW (λ_=>aAa (h1 _ h)) (λ_=>aAa (aAb h))
def kZ (h:Heap)(S:Addr)(f:Obj->Obj):Heap.SameBut S h (h.update S f):=⟨by simp[Heap.size_update],λb hb=>aAB _ _ (aCl hb)⟩
def qP {h:Heap}{S:Addr}{o:Obj}{es es':Array (Int×Value)}{ep:Nat}{t t':SetTable}(ho:h.get? S=some o)(hd:o.data=.set es ep t):(h.update S (aEq es' t')).get? S=some {o with data:=.set es' (ep+1) t'}:=by
 have e:aEq es' t' o={o with data:=.set es' (ep+1) t'}:=by obtain⟨c,d,dt,sl⟩:=o;cases dt<;>simp at hd;obtain⟨rfl,rfl,rfl⟩:=hd;rfl
 rw[aBm _ ho (by rw[e];rfl),e]
def XV {L:Bool}{h0:Heap}{Q:vK}(hS:SetAt L h0 s.heap S ds)(kp:Keeps h0 s.heap)(hx0:HV h0 (.ref x) (.tup xs))(hdx:C1 (.tup xs)<8)(xh:∀e∈ds,C1 e<8)(hT:∀e∈ds,∃ys,e=.tup ys)(hu:A.units+128<cLine)(hn:ds.length<76)
  (q1:D.tup xs∈ds->∀tk,s.toks<=tk->Q false {s with toks:=tk})
  (q2:D.tup xs∉ds->∀h' tk bf,s.toks<=tk->Heap.SameBut S s.heap h'->SetAt L h0 h' S bf->bf.Perm (.tup xs::ds)->Q true {s with heap:=h',toks:=tk}):wpAny (model prog w) A (setAdd S (.ref x)) Q E s:=by
 obtain⟨⟨o,es,ep,t,ho,hc,yo,hsl,hd,K,mk,P0,lp0⟩,nd⟩:=hS;have hx:HV s.heap (.ref x) (.tup xs):=hx0.keeps λb o e _=>kp b o e;have P:Paired (EV s.heap) es.toList ds:=cQ (λe d r=>⟨r.1.keeps λb o e _=>kp b o e,r.2⟩) P0;have gg:es.size=ds.length:=by have:=fH P;simpa using this
 unfold setAdd;refine aAP (aAa (UC hx A E s _ rfl (by lia) λtk vp=>?_));unfold setAddHashed setAddHashedIn;refine aAP (aAa<|aCg (s:={s with toks:=tk}) ho hd (gQ K) ?_);dsimp only;rw[show byScan (.ref x) es=false from rfl];simp only[aAn,if_false];obtain⟨n0,hf⟩:=ST.BK K.full K.room (m4<|.tup xs);refine aAa (kS (s:={s with toks:=tk}) (n0:=n0) ho hd K mk.odd P hx hdx xh hT (by lia) hf (λhm=>?_) (λhm=>?_) 100000 0 none rfl (aAV _) ?_ (λm hm=>by lia))
 ·dsimp only;exact aAb (q1 hm tk vp)
 ·dsimp only;refine aAa (aCg (s:={s with toks:=tk}) ho hd (gQ K) ?_);dsimp only;refine yJ true (λQ' q=>mY 8 hx hdx _ _ _ _ _ rfl q) ?_;rw[if_pos rfl];have nh:t.place.size+1<=t.mask:=by have:=K.len;simp at this;rcases mk with⟨m1,m2⟩|⟨m1,m2⟩|⟨m1,m2⟩<;>lia
  have K2:=ST.VR K (x:=.ref x) hf nh;have el:=ST.eS es (t.put (ST.k9 t.mask (m4<|.tup xs) n0).j).2 (m4 (.tup xs),aDy x);have lp:(t.put (ST.k9 t.mask (m4<|.tup xs) n0).j).1.led=L/\(t.put (ST.k9 t.mask (m4<|.tup xs) n0).j).1.plain=true:=lp0;have em:(t.put (ST.k9 t.mask (m4<|.tup xs) n0).j).1.mask=t.mask:=rfl;rw[<-el]at K2;have P2:Paired (EV h0) (aGl es (t.put (ST.k9 t.mask (m4<|.tup xs) n0).j).2 (m4 (.tup xs),aDy x)).toList (ds.take (t.put (ST.k9 t.mask (m4<|.tup xs) n0).j).2++.tup xs::ds.drop (t.put (ST.k9 t.mask (m4<|.tup xs) n0).j).2):=by rw[el];exact oT ⟨hx0,rfl⟩ _ P0
  have pm:=JF (D.tup xs) ds (t.put (ST.k9 t.mask (m4<|.tup xs) n0).j).2;generalize hds2:ds.take (t.put (ST.k9 t.mask (m4<|.tup xs) n0).j).2++.tup xs::ds.drop (t.put (ST.k9 t.mask (m4<|.tup xs) n0).j).2=qh at P2 pm;generalize hes2:aGl es (t.put (ST.k9 t.mask (m4<|.tup xs) n0).j).2 (m4 (.tup xs),aDy x)=lb at K2 P2⊢;generalize ht2:(t.put (ST.k9 t.mask (m4<|.tup xs) n0).j).1=t2 at K2 em lp⊢;have sr:qh.Nodup:=pm.nodup_iff.mpr (aAJ.mpr ⟨hm,nd⟩);have sz2:lb.size=es.size+1:=by
   have h1:=fH P2;have h2:=pm.length_eq;simp at h1 h2
   lia
  have bo:lb.size<=sizeLine:=by rw[sz2,aFh];lia
  refine aAa (wpAny_storeSet_of (s:={s with toks:=tk}) ho hd ?_ bo);have kl:=qP (es':=lb) (t':=t2) ho hd;have sb2:=kZ s.heap S (aEq lb t2);have hfill:t2.fill=lb.size:=by have h1:=K2.len;have h2:=K2.tab.nod;unfold SetTable.fill;rw[h2];simp at h1⊢;lia
  refine jW (λvt=>?_) (λvt=>?_)
  ·
   have ph:t2.fill*5>=t2.mask*3:=by
    have:t2.tooFull=true:=by simpa using vt
    simpa[aGq]using this
   rw[hfill,em,sz2]at ph;obtain⟨M,hM,hM1,hM2⟩:∃M,SetTable.sizeAbove (SetTable.grown<|es.size+1)=M+1/\ST.lW (M+1)/\uX M (es.size+1):=by
    rcases mk with⟨m1,m2⟩|⟨m1,m2⟩|⟨m1,m2⟩
    ·have:es.size=4:=by lia
     rw[this];exact⟨31,by decide,ST.WC,.inr (.inl ⟨rfl,by lia⟩)⟩
    ·have:es.size=18:=by lia
     rw[this];exact⟨127,by decide,ST.RH,.inr (.inr ⟨rfl,by lia⟩)⟩
    ·lia
   unfold setRelay;refine aAa (aAa<|aCg (s:={s with heap:=s.heap.update S (aEq lb t2),toks:=tk}) kl rfl (gQ K2) ?_);dsimp only;rw[hM];refine jW (λz=>?_) (λ_=>?_)
   ·exfalso;rcases hM2 with⟨m1,_⟩|⟨m1,_⟩|⟨m1,_⟩<;>(subst m1;exact absurd z (by rw[aFh];decide))
   obtain⟨t3,order,r1,r2,r3,r4,r5,r6,r7,r8,r9⟩:=ST.KL (finger:=t2.finger) (moves:=t2.movedTo M) (led:=t2.led) (plain:=t2.plain) hM1 lb (by rw[sz2];rcases hM2 with⟨m1,m2⟩|⟨m1,m2⟩|⟨m1,m2⟩<;>lia);have er:t2.relaid (lb.map (·.1)) (SetTable.grown<|es.size+1)=some (t3,order):=by unfold SetTable.relaid;rw[hM];exact r1
   rw[er];have hre:∀{Q':Array (Int×Value)×SetTable->Shared->Prop} {s':Shared},Q' (order.filterMap (lb[·]?),t3) s'->wpAny (model prog w) A (do
     let es':=order.filterMap (lb[·]?)
     if es'.size !=lb.size then unsupported "internal:set-table-lost-an-element"
     pure (es',t3)) Q' E s':=λ{Q' s'} qq=>by
    dsimp only;rw[if_neg (by simp[r2])];exact aAb qq
   refine aAa (hre ?_);dsimp only;generalize hes3:order.filterMap (lb[·]?)=es3 at r2 r3 r4⊢;refine wpAny_storeSet_of (s:={s with heap:=s.heap.update S (aEq lb t2),toks:=tk}) kl rfl ?_ (by rw[r2];exact bo);refine aAb ?_;have ho3:=qP (es':=es3) (t':=t3) kl rfl;have sb3:=kZ (s.heap.update S<|aEq lb t2) S (aEq es3 t3);obtain⟨ds3,p3,P5⟩:=bV r3 P2;exact q2 hm _ tk ds3 vp (sb2.trans sb3) ⟨⟨_,es3,_,t3,ho3,hc,yo,hsl,rfl,r4,by rw[r5,r2,sz2];exact hM2,P5,by rw[r7];exact lp.1,by rw[r8];exact lp.2⟩,p3.nodup_iff.mpr sr⟩ (p3.trans pm)
  ·refine aAb ?_;refine q2 hm _ tk qh vp sb2 ⟨⟨_,lb,_,t2,kl,hc,yo,hsl,rfl,K2,?_,P2,lp⟩,sr⟩ pm;have ph:¬t2.fill*5>=t2.mask*3:=λz=>vt (by simp[aGq,z]);rw[hfill,em,sz2]at ph;rw[em,sz2];rcases mk with⟨m1,m2⟩|⟨m1,m2⟩|⟨m1,m2⟩
   ·exact .inl ⟨m1,by lia⟩
   ·exact .inr (.inl ⟨m1,by lia⟩)
   ·exact .inr (.inr ⟨m1,by lia⟩)
 ·have:=hf.1;have hm:t.mask<=127:=by rcases mk with⟨m1,_⟩|⟨m1,_⟩|⟨m1,_⟩<;>lia
  lia
end
section
variable{prog:Program} {w:World} {A:Around} {R:Result->Shared->Prop} {I:Addr} {fp wr:List Addr} {G:Array GenState->Array GenState->Prop} {n:Nat} {P:Nat->Value->Prop} {St:Nat->Shared->Prop} {h0:Heap}
def xL (h0:Heap)(v:Value)(d:D):Prop:=∃a xs,v=.ref a/\d=.tup xs/\C1 d<8/\HV h0 v d
def IW {L:Bool}(W:WalksS prog w A.in1 I fp wr G n P St)(S:Addr)(oh:S∉fp)(hS0:h0.get? S=none)(hw0:∀b∈wr,h0.get? b=none)
  (val:Nat->D) (hval:∀i v,P i v->xL h0 v (val i)) (hvd:∀i<n,C1 (val i)<8/\∃ys,val i=.tup ys) {U:List D} (hU:∀i<n,val i∈U) (hb:U.length<=75) (hu:A.units+200<cLine):
  ∀(k i:Nat) (s:Shared),n-i=k->i<=n->St i s->Keeps h0 s.heap->(∃ds,SetAt L h0 s.heap S ds/\∀d,d∈ds↔∃j<i,val j=d)->
   (∀s',Moved (S::wr) G s s'->(∃ds,SetAt L h0 s'.heap S ds/\∀d,d∈ds↔∃j<n,val j=d)->R (.ok (.ret .none)) s')->
   codeAny (model prog w) A (.builtin "set.update.loop" ⟨[.ref S,.ref I],[]⟩) R s:=by
 have hSw:S∉wr:=λh=>oh (W.sub _ h);have ju:∀b∈wr,b∈S::wr:=λb hb=>aAe _ hb;intro k;induction k with
 |zero=>
  intro i s hk hi jh hkp hS hR;have mo:i=n:=by omega
  subst mo;refine aBM F.entry_set_update_loop ?_;rw[aBh F.plain_set_update_loop _];show wpAny _ A.in1 (pyNext (.ref I)>>=_) _ _ s;refine aAa (W.done s _ _ jh λs' hm=>?_);show wpAny _ A.in1 (ret Value.none) _ _ s';refine aAb (hR s' (hm.mono ju) ?_);obtain⟨ds,⟨⟨o,es,ep,t,ho,r⟩,nd⟩,ji⟩:=hS;exact⟨ds,⟨⟨o,es,ep,t,hm.heap S _ hSw ho,r⟩,nd⟩,ji⟩
 |succ k ih=>
  intro i s hk hi jh hkp hS hR;have ah:i<n:=by omega
  refine aBM F.entry_set_update_loop ?_;rw[aBh F.plain_set_update_loop _];show wpAny _ A.in1 (pyNext (.ref I)>>=_) _ _ s;refine aAa (W.item i s _ _ ah jh λv s' hP kr hm=>?_);obtain⟨ds,⟨⟨o,es,ep,t,ho,r⟩,nd⟩,ji⟩:=hS;have iu:SetAt L h0 s'.heap S ds:=⟨⟨o,es,ep,t,hm.heap S _ hSw ho,r⟩,nd⟩;have kp':Keeps h0 s'.heap:=λb ob e=>hm.heap b ob (λz=>by rw[hw0 b z]at e;cases e) (hkp b ob e);obtain⟨a,xs,rfl,uf,hdp,hv⟩:=hval i v hP;rw[uf]at hdp hv;show wpAny _ A.in1 (holding [aDy a] (setAdd S<|.ref a)>>=_) _ _ s';have tups:∀e∈ds,C1 e<8/\∃ys,e=.tup ys:=λe he=>by obtain⟨j,hj,ej⟩:=(ji e).mp he;rw[<-ej];exact hvd j (by omega)
  refine aAa (aAP (XV iu kp' hv hdp (λe he=>(tups e he).1) (λe he=>(tups e he).2) (by rw[u3];omega) (by letI:DecidableEq D:=λa b=>aDS _;have:=ST.N5 (m:=U) nd (λd hd=>by obtain⟨j,hj,e⟩:=(ji d).mp hd;rw[<-e];exact hU j (by omega));omega) (λmo tk vp=>?_)<|λhni h' tk bf vp hsb hS2 pm=>?_))
  ·
   refine aAb ⟨aBZ F.plain_set_update_loop _,ih (i+1) _ (by omega) ah (W.frame _ s' _ _ kr vp λb hb o e=>e) kp' ⟨ds,iu,λd=>?_⟩ λs'' mh vv=>?_⟩
   ·rw[ji];constructor
    ·rintro⟨j,hj,e⟩;exact⟨j,by omega,e⟩
    ·rintro⟨j,hj,e⟩;by_cases z:j=i
     ·subst z;rw[uf]at e;rw[e]at mo;exact(ji d).mp mo
     ·exact⟨j,by omega,e⟩
   ·exact hR s'' (aFj W.gtrans ((hm.mono ju).then_heap vp λb o hb e=>e) mh) vv
  ·have hbS:∀b,b≠S->h'.get? b=s'.heap.get? b:=λb hb=>hsb.2 b hb;refine aAb ⟨aBZ F.plain_set_update_loop _,ih (i+1) _ (by omega) ah (W.frame _ s' _ _ kr vp λb hb o e=>?_) (λb o e=>?_) ⟨bf,hS2,λd=>?_⟩ λs'' mh vv=>?_⟩
   ·rw[hbS b (λz:b=S=>oh (by rw[<-z];exact hb))];exact e
   ·show h'.get? b=some o;rw[hbS b (λz=>by subst z;rw[hS0]at e;cases e)];exact kp' b o e
   ·rw[pm.mem_iff,aAd,ji];constructor
    ·rintro(rfl|⟨j,hj,e⟩)
     ·exact⟨i,by omega,uf⟩
     ·exact⟨j,by omega,e⟩
    ·rintro⟨j,hj,e⟩;by_cases z:j=i
     ·subst z;rw[uf]at e;exact .inl e.symm
     ·exact .inr ⟨j,by omega,e⟩
   ·refine hR s'' (aFj W.gtrans ((hm.mono ju).then_heap vp λb o hb e=>?_) mh) vv;rw[hbS b (λz:b=S=>hb (by rw[z];exact aAY))];exact e
end
section
variable{prog:Program} {w:World} {A:Around} {E:D2} {s:Shared}
abbrev lO (led:Bool):Obj:={cls:=.type "set",dict:=none,data:=.set #[] 0 (.fresh 0 0 led)}
def FM (h0 h:Heap)(S:Addr)(led:Bool)(e:h.get? S=some (lO led)):SetAt led h0 h S []:=by
 refine⟨⟨_,#[],0,.fresh 0 0 led,e,rfl,rfl,rfl,rfl,⟨⟨λi k hi=>?_,λj hj=>?_,rfl⟩,ST.ZM,rfl,?_,λe he=>?_⟩,.inl ⟨rfl,aAV _⟩,.nil,rfl,rfl⟩,aDd⟩
 ·exact absurd hi (by show¬i<0;omega)
 ·exact absurd hj (by show¬j∈[];simp)
 ·show 0<=7;omega
 ·exact absurd he (by show¬e∈[];simp)
def wQ (a:Value){Q₁:D2}(h:Q₁ (.ref s.heap.objs.size) {s with heap:=s.heap.push (lO (!w.params.followText "set-order"))}):
  codeAny (model prog w) A (.call (.builtin "set.__new__") ⟨[.type "set",a],[]⟩) (wants Q₁ E) s:=by
 refine codeAny_of_tree ?_;show wpAny _ A.in1 (do checkBuiltinCall "set.__new__" ⟨[.type "set",a],[]⟩;again (.builtin "set.__new__" ⟨[.type "set",a],[]⟩)) _ _ s;refine aAa (wpAny_of_eq (F.newCall_set_1 a)<|aAb ⟨aBZ F.plain_set_new _,aBM F.entry_set_new ?_⟩);rw[aBh F.plain_set_new _];unfold Builtin.«set.__new__» Builtin.Frozenset.newClass;have ju:=sub_set_self;obtain⟨hp,g,d,tk,os⟩:=s;dsimp only
 wp_walk
 refine aFt (aAb ?_);dsimp only;simp only[newObj];exact aAa (wpAny_alloc<|aAb<|aAb h)
def xN {h0:Heap}(kp0:Keeps h0 s.heap){l:Addr}{its:Array Value}{val:Nat->D}{Q:D2}(hh:A.handled=none)(hl:s.heap.IsList l its)
  (hval:∀(i:Nat) (v:Value),its[i]?=some v->xL h0 v (val i)) (hvd:∀i<its.size,C1 (val i)<8/\∃ys,val i=.tup ys) {U:List D} (hU:∀i<its.size,val i∈U) (hb:U.length<=75) (hu:A.units+300<cLine)
  (h:∀(h':Heap) (tk:Nat) (ds:List D),SetAt (!w.params.followText "set-order") h0 h' s.heap.objs.size ds->(∀d,d∈ds↔∃j<its.size,val j=d)->Keeps s.heap h'->Q (.ref s.heap.objs.size) {s with heap:=h',toks:=tk}):
  wpAny (model prog w) A (call (.type "set") [.ref l]) Q E s:=by
 obtain⟨c,tl,hmro⟩:=PySem.F.called_set.mro;have hmade:=PySem.F.called_set.made;have ju:=PySem.F.called_set.sub;refine wpAny_call (codeAny_of_tree ?_);show wpAny _ _ (callAny (.type "set") _) _ _ _;refine aAb ⟨Code.quiet_builtin _ (by decide+kernel),aBM PySem.F.entry_type_call ?_⟩;rw[Around.under_plain (weight_type_call_type "set" [.ref l] []) rfl];have h1:=PySem.F.called_set.notType;have h2:=PySem.F.called_set.canCreate;have hct:=PySem.F.typeCall_set_1 (.ref l);repeat(any_goals(first|assumption|wp_step))
 refine aDJ (wQ (.ref l) (E:=E) (Q₁:=λob aa=>∃led:Bool,led=!w.params.followText "set-order"/\ob=.ref s.heap.objs.size/\aa={s with heap:=s.heap.push (lO led)}) ⟨_,rfl,rfl,rfl⟩) λr aa hr=>?_;cases r with
 |error e=>exact hr
 |ok fl=>
  cases fl with
  |next=>exact hr.elim
  |brk=>exact hr.elim
  |cont=>exact hr.elim
  |ret ob=>
   obtain⟨led,eL,rfl,rfl⟩:=hr;have hS:(s.heap.push<|lO led).get? s.heap.objs.size=some (lO led):=aAr _ rfl;have hT:Shared.TypeIs {s with heap:=s.heap.push (lO led)} (.ref s.heap.objs.size) "set":=⟨_,hS,rfl⟩;have hli:=PySem.F.called_set.init.lookup;have hbi:=PySem.F.called_set.init.bind (.ref s.heap.objs.size);repeat(any_goals(first|assumption|wp_step))
   refine aDJ (codeAny_call_builtin (R:=wants (λr eh=>r=.none/\∃h' tk ds,eh={s with heap:=h',toks:=tk}/\SetAt (!w.params.followText "set-order") h0 h' s.heap.objs.size ds/\(∀d,d∈ds↔∃j<its.size,val j=d)/\Keeps s.heap h') E) PySem.F.called_set.init.plain PySem.F.entry_set_init<|check_set_init_1 hT ?_) λr0 eh hr0=>?_
   ·obtain⟨ol,hol,xn,nl,hdl⟩:=hl;obtain⟨ocls,odict,odata,oslots⟩:=ol;simp only at xn hdl;subst xn;subst hdl;have hol':(s.heap.push<|lO led).get? l=some {cls:=.type "list",dict:=odict,data:=.seq its nl,slots:=oslots}:=aAc _ hol;have hsls:=PySem.F.sub_list_set;have hslf:=PySem.F.sub_list_frozenset;have ai:(aCr "list"==aCr "dict")=false:=by decide
    have qa:(s.heap.push<|lO led).IsList l its:=⟨_,hol',rfl,nl,rfl⟩;unfold Builtin.«set.__init__» noKeywords Builtin.Frozenset.updateFrom;generalize hPI:pyIter=PI
    wp_walk
    subst hPI;refine aDr qa (aAa<|wpAny_runValue ?_);have hlS:l<s.heap.objs.size:=aAg hol;have hh3:A.in1.in1.in1.handled=none:=by simp[hh]
    have hneI:l≠(s.heap.push<|lO led).objs.size:=by rw[aBt];exact aAk (aBu hlS)
    have oh:s.heap.objs.size∉[(s.heap.push<|lO led).objs.size,l]:=by rw[aBt];simp only[aAd,aAM,or_false,not_or];exact⟨aAk (aDF _),aCZ hlS⟩
    have ni:∀b,s.heap.objs.size<=b->h0.get? b=none:=λb hb=>by
     cases e:h0.get? b with
     |none=>rfl
     |some o=>have:=kp0 b o e;rw[aEk hb]at this;cases this
    refine IW (h0:=h0) ((Walks.list hh3 _ l hneI its).toS) s.heap.objs.size oh (ni _<|aAj _) (λb hb=>?hw) val hval hvd hU hb (by show A.units+1+1+200<cLine;omega) (its.size-0) 0 _ (by omega) (aAV _) ⟨⟨_,aAr _ rfl,rfl,rfl⟩,(qa.push _)⟩ (λb o e=>aAc _ (aAc _<|kp0 b o e)) ⟨[],FM _ _ _ led (aAc _ hS),λd=>?he⟩ ?hR
    case he=>exact⟨λz=>(by cases z),λ⟨j,hj,_⟩=>(by omega)⟩
    case hw=>
     have km:b=(s.heap.push<|lO led).objs.size:=by simpa using hb
     subst km;rw[aBt];exact ni _ (Nat.le_succ _)
    case hR=>
     rintro⟨h',g',d',xm,os'⟩ hm ⟨ds,iu,pg⟩;have eg:g'=s.gens:=hm.gens;have ed:d'=s.drawn:=hm.drawn;have eo:os'=s.os:=hm.os;subst eg;subst ed;subst eo;refine aAb ?_;show wpAny _ _ (ret Value.none) _ _ _;refine aAb ⟨rfl,h',xm,ds,rfl,(eL▸iu),pg,λb o e=>?_⟩;have hb:=aAg e;have hb2:b≠(s.heap.push<|lO led).objs.size:=by rw[aBt];exact aAk (aBu hb)
     exact hm.heap b o (by simp only[aAd,aAM,or_false,not_or];exact⟨aAk hb,hb2⟩) (aAc _<|aAc _ e)
   ·cases r0 with
    |error e=>exact hr0
    |ok fl0=>
     cases fl0 with
     |next=>exact hr0.elim
     |brk=>exact hr0.elim
     |cont=>exact hr0.elim
     |ret r=>
      obtain⟨rfl,h',tk,ds,rfl,iu,pg,jg⟩:=hr0;repeat(any_goals(first|assumption|wp_step))
      exact h _ _ _ iu pg jg
end
end DL
namespace SI
open PySem
theorem DR {α:Type}(next:Nat->Nat):∀(fuel k:Nat) (left:List α) (out:Array α),left.length=fuel->(aGn next fuel k left out).toList.Perm (out.toList++left)
 |0,k,left,out,h=>by have:left=[]:=List.eq_nil_of_length_eq_zero h;subst this;simp[aGn]
 |fuel+1,k,left,out,h=>by
  unfold aGn;have hp:0<left.length:=by lia
  have hi:next k%left.length<left.length:=aFc _ hp
  rw[aAf hi];dsimp only;refine(DR next fuel (k+1) _ _ (by rw[List.length_eraseIdx_of_lt hi];lia)).trans ?_;rw[Array.toList_push,aEZ];refine List.Perm.append_left _ ?_;have:∀(l:List α) (i:Nat) (h:i<l.length),(l[i]::l.eraseIdx i).Perm l:=by
   intro l;induction l with
   |nil=>intro i h;simp at h
   |cons x l ih=>
    intro i h;cases i with
    |zero=>simp
    |succ i=>
     have h':i<l.length:=by simpa using h
     rw[aFi,List.getElem_cons_succ];exact(List.Perm.swap _ _ _).trans ((ih i h').cons _)
  exact this left _ hi
def rV {α:Type}(next:Nat->Nat)(xs:Array α):(pickOrder next xs).toList.Perm xs.toList:=by unfold pickOrder;simpa using DR next xs.size 0 xs.toList #[] (by simp)
def walkL (w:World)(S:Addr)(es:Array (Int×Value))(ep:Nat):List (Int×Value):=if w.params.followText "set-order"=true then(pickOrder (w.params.setOrder S ep) es).toList else es.toList
def walkL_perm (w:World)(S:Addr)(es:Array (Int×Value))(ep:Nat):(walkL w S es ep).Perm es.toList:=by
 unfold walkL;split
 ·exact rV _ _
 ·exact List.Perm.refl _
def slotAt (w:World)(t:SetTable):Nat->Nat
 |0=>0
 |i+1=>if w.params.followText "set-order"=true then 0 else t.place.getD i 0+1
def M9 (h:Heap)(w:World)(it S:Addr)(t:SetTable)(i n ep:Nat):Prop:=
 h.get? it=some {cls:=.type "set_iterator",dict:=none,data:=.fields #[rawInt (slotAt w t i),rawInt i,.ref S,rawInt n,rawInt ep],slots:=#[]}
def IsSet (h:Heap)(S:Addr)(es:Array (Int×Value))(ep:Nat)(t:SetTable):Prop:=∃o,h.get? S=some o/\o.cls=.type "set"/\o.data=.set es ep t
namespace F
def entry_set_iter:entryFor table "set.__iter__"=some Builtin.«frozenset.__iter__»:=entryFor_alias (id':= "frozenset.__iter__") (by kernel_rfl) rfl (by decide+kernel) (by kernel_rfl)
def slot_seti_next:Slot "set_iterator" "__next__" "set_iterator.__next__":=
 .of (owner:= "set_iterator") (n:= "__next__") (by rw[aDo,aCq];kernel_rfl) (by decide+kernel) (by decide+kernel) (by decide+kernel)
  (by first|exact .inl (by decide+kernel)|exact .inr (by decide+kernel)) (by rw[aER];kernel_rfl)
def entry_seti_next:entryFor table "set_iterator.__next__"=some Builtin.«set_iterator.__next__»:=entryFor_of_tree (by kernel_rfl)
def args_seti_next (a:Value):argsOk "set_iterator.__next__" ⟨[a],[]⟩:=by unfold argsOk;kernel_rfl
def slot_seti_iter:Slot "set_iterator" "__iter__" "set_iterator.__iter__":=
 .of (owner:= "set_iterator") (n:= "__iter__") (by rw[aDo,aCq];kernel_rfl) (by decide+kernel) (by decide+kernel) (by decide+kernel)
  (by first|exact .inl (by decide+kernel)|exact .inr (by decide+kernel)) (by rw[aER];kernel_rfl)
def entry_seti_iter:entryFor table "set_iterator.__iter__"=some Builtin.«dict_keyiterator.__iter__»:=entryFor_alias (id':= "dict_keyiterator.__iter__") (by kernel_rfl) rfl (by decide+kernel) (by kernel_rfl)
def args_seti_iter (a:Value):argsOk "set_iterator.__iter__" ⟨[a],[]⟩:=by unfold argsOk;kernel_rfl
end F
section
variable{s:Shared} {t:SetTable}
def HP {α:Type}{M:Model}{Q:α->Shared->Prop}{c:Prop}[Decidable c]{a b:Sem α}(h:c)(k:wpAny M A a Q E s):wpAny M A (if c then a else b) Q E s:=by rw[if_pos h];exact k
def yL (es:Array (Int×Value))(hp:t.plain=true):(!t.plain&&decide (es.size>1))=false:=by rw[hp];rfl
def BX {Q:vK}(h:Q (w.params.followText "set-order") s):wpAny (model prog w) A setsByText Q E s:=by unfold setsByText;exact aAa (aFt<|aAb h)
def MH {Q:D2}(hS:IsSet s.heap S es ep t)(hf:t.fits es.size=true)(hp:t.plain=true)
  (h:Q (.ref s.heap.objs.size) {s with heap:=s.heap.push {cls:=.type "set_iterator",dict:=none,data:=.fields #[rawInt (slotAt w t 0),rawInt (0:Nat),.ref S,rawInt es.size,rawInt ep],slots:=#[]}}):
  wpAny (model prog w) A (pyIter (.ref S)) Q E s:=by
 obtain⟨o,ho,hc,hd⟩:=hS;have hT:s.TypeIs (.ref S) "set":=⟨o,ho,hc⟩;refine aFf hT PySem.F.slot_set_iter (aBp PySem.F.slot_set_iter hT F.entry_set_iter ?_ (PySem.F.args_set_iter_1 _));unfold Builtin.«frozenset.__iter__»;show wpAny _ _ (aFk "__iter__" ⟨[.ref S],[]⟩>>=_) _ _ s;have e0:aFk "__iter__" ⟨[.ref S],[]⟩=pure S:=rfl;rw[e0];refine aAa (aAb ?_);unfold Builtin.Frozenset.sizeOf;refine aAa (aAa<|aEv ho hd hf<|aAb ?_);refine aAa ?_;unfold setDrawn;refine aAa (aCg ho hd hf<|aAa<|BX<|aAb ?_);show wpAny _ _ (if(!w.params.followText "set-order"&&(!t.plain&&decide (es.size>1)))=true then _ else _) _ _ s;rw[yL es hp,aFS];simp only[aAn,if_false];refine aAa (aAb<|aAa<|wpAny_setEpoch_of ho hd hf ?_);refine aAa (aBs<|aAb ⟨_,rfl, "set_iterator",_,⟨_,aAr _ rfl,rfl⟩,F.slot_seti_next.lookup,?_⟩);simpa[slotAt]using h
def CA (ha:ST.GF xs):aDC xs 0=0:=by
 obtain⟨b1,b2,b3⟩:=ST.aL ha 0;by_cases h:aDC xs 0=0
 ·exact h
 ·exact absurd (b2 0 (by lia) (by lia)) (by lia)
def AD (ha:ST.GF xs)(hi:i<xs.size):aDC xs (xs.getD i 0+1)=i+1:=by
 have e:xs.getD i 0=xs[i]:=by simp[aFb,hi]
 rw[e];obtain⟨b1,b2,b3⟩:=ST.aL ha (xs[i]+1);rcases Nat.lt_trichotomy (aDC xs<|xs[i]+1) (i+1)with q|q|q
 ·have:=b3 i hi (by lia);lia
 ·exact q
 ·have h1:i+1<xs.size:=by lia
  have:=b2 (i+1) h1 q;have:=ha i (i+1) hi h1 (by lia)
  lia
def zK (t:SetTable)(ha:ST.GF t.place)(hb:¬w.params.followText "set-order"=true)(hi:i<=t.place.size):aDC t.place (slotAt w t i)=i:=by
 cases i with
 |zero=>exact CA ha
 |succ i=>show aDC t.place (if w.params.followText "set-order"=true then 0 else t.place.getD i 0+1)=i+1;rw[if_neg hb];exact AD ha (by lia)
def wM {Q:Option (Value×Nat)->Shared->Prop}(hS:IsSet s.heap S es ep t)(hf:t.fits es.size=true)(hp:t.plain=true)(hl:¬w.params.followText "set-order"=true->t.led=true)(ha:ST.GF t.place)(hi:i<=es.size)(h1:∀e,(walkL w S es ep)[i]?=some e->Q (some (e.2,slotAt w t (i+1))) s)(h2:i=es.size->Q none s):wpAny (model prog w) A (setNext S (slotAt w t i) i ep) Q E s:=by
 obtain⟨o,ho,hc,hd⟩:=hS;have gg:t.place.size=es.size:=by simp only[aGe,aAL,beq_iff_eq,decide_eq_true_eq]at hf;exact hf.1
 unfold setNext;refine aAa (aCg ho hd hf ?_);refine aAa (BX ?_);by_cases hb:w.params.followText "set-order"=true
 ·rw[if_pos hb,if_neg (by simp)];unfold setWalk;refine aAa (aAa<|aCg ho hd hf<|aAa<|BX ?_);rw[if_pos hb];refine aAa (aFt<|aAb ?_);refine aAb ?_;have ew:(walkL w S es ep)=(pickOrder (w.params.setOrder S ep) es).toList:=by unfold walkL;rw[if_pos hb]
  have es0:slotAt w t i=slotAt w t (i+1):=by
   cases i with
   |zero=>show 0=if w.params.followText "set-order"=true then 0 else _;rw[if_pos hb]
   |succ i=>show(if w.params.followText "set-order"=true then 0 else _)=if w.params.followText "set-order"=true then 0 else _;rw[if_pos hb,if_pos hb]
  rw[ew,aAz]at h1;show Q (((pickOrder (w.params.setOrder S ep) es)[i]?).map λe=>(e.2,slotAt w t i)) s;cases e:(pickOrder (w.params.setOrder S ep) es)[i]? with
  |some x=>rw[es0];exact h1 x e
  |none=>
   have hsz2:(pickOrder (w.params.setOrder S ep) es).size=es.size:=by have:=(rV (w.params.setOrder S ep) es).length_eq;simpa using this
   have:=Array.getElem?_eq_none_iff.mp e;exact h2 (by lia)
 ·rw[if_neg hb];have d0:¬(!t.plain&&decide (es.size>1))=true:=by rw[hp];simp
  show wpAny _ _ (if(!t.plain&&decide (es.size>1))=true then _ else _) _ _ s;rw[if_neg d0];show wpAny _ _ ((if(!t.led&&!es.isEmpty)=true then _ else _)>>=_) _ _ s;rw[if_neg (by rw[hl hb];simp)];refine aAa (aAb<|aAb ?_);rw[zK t ha hb (by lia)];have ew:(walkL w S es ep)=es.toList:=by unfold walkL;rw[if_neg hb]
  rw[ew,aAz]at h1;by_cases ah:i<es.size
  ·have e1:es[i]?=some es[i]:=aAE ah;have hlt':i<t.place.size:=by lia
   have e2:t.place[i]?=some t.place[i]:=aAE hlt';have:=h1 _ e1;rw[e1,e2];have e3:slotAt w t (i+1)=t.place[i]+1:=by show(if w.params.followText "set-order"=true then 0 else t.place.getD i 0+1)=_;rw[if_neg hb];simp[aFb,hlt']
   rw[e3]at this;exact this
  ·have e1:es[i]?=none:=aCH (by lia);rw[e1];exact h2 (by lia)
def O6 (h:M9 s.heap w it S t i n ep):s.TypeIs (.ref it) "set_iterator":=⟨_,h,rfl⟩
def JS {Q:Option Value->Shared->Prop}(hit:M9 s.heap w it S t i es.size ep)(hS:IsSet s.heap S es ep t)(hf:t.fits es.size=true)(hp:t.plain=true)(hl:¬w.params.followText "set-order"=true->t.led=true)(ha:ST.GF t.place)(hi:i<es.size)(h:∀e h',(walkL w S es ep)[i]?=some e->M9 h' w it S t (i+1) es.size ep->Heap.SameBut it s.heap h'->Q (some e.2) {s with heap:=h'}):wpAny (model prog w) A (pyNext (.ref it)) Q E s:=by
 have hT:=O6 hit;obtain⟨o,ho,hc,hd⟩:=id hS;unfold pyNext;refine aAa (aEp (aCw (name:=aDm "__next__") hT F.slot_seti_next
  (aBp F.slot_seti_next hT F.entry_seti_next ?_ (F.args_seti_next _))))
 refine aAa (aAb ?_);refine aAa (wpAny_fieldsOf hit rfl ?_);show wpAny _ _ (setEntries S>>=_) _ _ s;refine aAa (aEv ho hd hf ?_);rw[if_neg (by simp)];show wpAny _ _ (setNext S (aEw (slotAt w t i:Int)) (aEw (i:Int)) (aEw (ep:Int))>>=_) _ _ s;rw[aBS,aBS,aBS];refine aAa (wM hS hf hp hl ha (aDl hi) (λe he=>?_) λe=>by lia);show wpAny _ _ (setField (.ref it) 0 (rawInt<|slotAt w t<|i+1)>>=_) _ _ s;refine aAa (aCa hit (by simp) λh1 e1 s1=>?_);show wpAny _ _ (setField (.ref it) 1 (rawInt<|(i:Int)+1)>>=_) _ _ _;refine aAa (aCa (s:={s with heap:=h1}) e1 (by simp) λh2 e2 s2=>?_);refine aAb ⟨_,rfl,aAb (h e h2 he ?_ (s1.trans s2))⟩;have:h2.get? it=some _:=e2;unfold M9;rw[this];simp
def RK {Q:Option Value->Shared->Prop}(hh:A.handled=none)(hit:M9 s.heap w it S t es.size es.size ep)(hS:IsSet s.heap S es ep t)(hf:t.fits es.size=true)(hp:t.plain=true)(hl:¬w.params.followText "set-order"=true->t.led=true)(ha:ST.GF t.place)(h:∀h',Heap.ExtBut it s.heap h'->Q none {s with heap:=h'}):wpAny (model prog w) A (pyNext (.ref it)) Q E s:=by
 have hT:=O6 hit;obtain⟨o,ho,hc,hd⟩:=id hS;unfold pyNext;refine aAa (aEp (aCw (name:=aDm "__next__") hT F.slot_seti_next
  (aBp F.slot_seti_next hT F.entry_seti_next ?_ (F.args_seti_next _))))
 refine aAa (aAb ?_);refine aAa (wpAny_fieldsOf hit rfl ?_);show wpAny _ _ (setEntries S>>=_) _ _ s;refine aAa (aEv ho hd hf ?_);rw[if_neg (by simp)];show wpAny _ _ (setNext S (aEw (slotAt w t es.size:Int)) (aEw (es.size:Int)) (aEw (ep:Int))>>=_) _ _ s;rw[aBS,aBS,aBS];refine aAa (wM hS hf hp hl ha (aAj _) (λe he=>?_) λ_=>?_)
 ·have h1:=(walkL_perm w S es ep).length_eq;have h2:=(aAA.mp he).1;rw[h1]at h2;simp at h2
 ·show wpAny _ _ (setField (.ref it) 2 .none>>=_) _ _ s;refine aAa (wpAny_setField hit rfl (by simp) ?_);show wpAny _ _ (newExc (.type "StopIteration") []>>=_) _ _ _;refine aAa ?_;simp only[newExc,newTuple];refine aAa (aBs ?_ (by size_fits));refine aAa (m:=firstArgMember _ _) (wpAny_of_eq (a:=Value.none) (by first|rfl|(simp only[firstArgMember];rfl)) ?_);refine aBs ?_ (by size_fits);simp only[raiseNew];refine aAa (wpAny_handled ?_);rw[show A.in1.handled=none from hh];refine aAa (aAb<|wpAny_throw ?_);refine aAa (aDG (T:= "StopIteration") (b:=true) ⟨_,aAr _ rfl,rfl⟩ isSubtype_stop ?_);exact aAb (h _<|((Heap.SameBut.update ..).extBut.push _).push _)
def cK (x:IsSet h S es ep t)(e:∀o,h.get? S=some o->h'.get? S=some o):IsSet h' S es ep t:=let⟨o,a,r⟩:=x;⟨o,e o a,r⟩
end
section
def HE (hh:A.handled=none)(I S:Addr)(ai:S≠I)(hf:t.fits es.size=true)(hp:t.plain=true)(hl:¬w.params.followText "set-order"=true->t.led=true)(ha:ST.GF t.place):
  Walks prog w A I [I,S] [I] es.size (λi v=>∃e,(walkL w S es ep)[i]?=some e/\v=e.2) (λi h=>M9 h w I S t i es.size ep/\IsSet h S es ep t)where
 sub:=λb hb=>by simp at hb;simp[hb]
 frame:=λ_ _ _ st hk=>⟨hk I (by simp) _ st.1,cK st.2 λo e=>hk S (by simp) o e⟩
 item:=λi s Q E hi st hQ=>JS st.1 st.2 hf hp hl ha hi λe h' he dn hs=>hQ e.2 h' s.toks ⟨e,he,rfl⟩ ⟨dn,cK st.2 λo q=>(hs.2 S ai).trans q⟩ λb o hb q=>(hs.2 b (λz=>hb (by simp[z]))).trans q
 done:=λs Q E st hQ=>RK hh st.1 st.2 hf hp hl ha λh' hx=>hQ h' s.toks λb o hb q=>hx b o (λz=>hb (by simp[z])) q
 self:=λi s Q E st hQ=>by refine aFf (O6 st.1) F.slot_seti_iter (aBp F.slot_seti_iter (O6 st.1) F.entry_seti_iter ?_ (F.args_seti_iter _));refine aAa (aAb<|aAb ⟨_,rfl, "set_iterator",_,O6 st.1,F.slot_seti_next.lookup,hQ⟩)
def collect_set {Q:List Value->Shared->Prop}(hh:A.handled=none)(hS:IsSet s.heap S es ep t)(hf:t.fits es.size=true)(hp:t.plain=true)(hl:¬w.params.followText "set-order"=true->t.led=true)(ha:ST.GF t.place)(hn:es.size<=sizeLine)
  (hQ:∀h' tk,(∀b o,s.heap.get? b=some o->h'.get? b=some o)->Q ((walkL w S es ep).map (·.2)) {s with heap:=h',toks:=tk}):wpAny (model prog w) A (collect (.ref S)) Q E s:=by
 obtain⟨oS,hoS,hcS,hdS⟩:=id hS;have hT:s.TypeIs (.ref S) "set":=⟨oS,hoS,hcS⟩;have ah:S<s.heap.objs.size:=aAg hoS;unfold collect;refine aAa (wpAny_runValue<|aBM PySem.F.entry_proto_collect ?_);rw[aBh PySem.F.plain_proto_collect _];show wpAny _ A.in1 (newList []>>=λl=>again (.builtin "list.__iadd__" ⟨[l,.ref S],[]⟩)) _ _ s;refine aAa (aBs ?_);refine aAb ⟨aBZ PySem.F.plain_list_iadd _,aBM PySem.F.entry_list_iadd ?_⟩;rw[aBh PySem.F.plain_list_iadd _];generalize hh1:s.heap.push {cls:=.type "list",data:=.seq ([]:List Value).toArray}=h1;have hk1:∀b o,s.heap.get? b=some o->h1.get? b=some o:=λb o e=>by rw[<-hh1];exact aAc _ e
 have hsz1:h1.objs.size=s.heap.objs.size+1:=by rw[<-hh1,aBt]
 have hL1:h1.get? s.heap.objs.size=some {cls:=.type "list",data:=.seq ([]:List Value).toArray}:=by rw[<-hh1];exact aAr _ rfl
 have hS1:IsSet h1 S es ep t:=cK hS λo e=>hk1 S o e;have hT1:Shared.TypeIs {s with heap:=h1} (.ref S) "set":=⟨oS,hk1 _ _ hoS,hcS⟩;have hne1:aCY (.ref s.heap.objs.size) (.ref S)=false:=by simp[aCY,aCZ ah]
 show wpAny _ A.in1 (aCb (.ref s.heap.objs.size) (.ref S)<|.ref s.heap.objs.size) _ _ _;unfold aCb;refine aAa (aDK hT1 ?_);rw[if_neg (by rw[hne1];decide)];refine aAa (MH (s:={s with heap:=h1}) hS1 hf hp ?_);refine aAa (aAP ?_);generalize hh2:h1.push {cls:=.type "set_iterator",dict:=none,data:=.fields #[rawInt (slotAt w t 0),rawInt (0:Nat),.ref S,rawInt es.size,rawInt ep],slots:=#[]}=h2;have hk2:∀b o,h1.get? b=some o->h2.get? b=some o:=λb o e=>by rw[<-hh2];exact aAc _ e
 have hI2:M9 h2 w h1.objs.size S t 0 es.size ep:=by rw[<-hh2];exact aAr _ rfl
 have hS2:IsSet h2 S es ep t:=cK hS1 λo e=>hk2 S o e;have hT2:Shared.TypeIs {s with heap:=h2} (.ref S) "set":=⟨oS,hk2 _ _ (hk1 _ _ hoS),hcS⟩;have hL2:=hk2 _ _ hL1;unfold aCD;refine aAa (aBq hT2 PySem.F.slot_set_len.lookup ?_)
 (generalize hid:("set.__len__":String)=id0;(fail_if_success (clear hid id0));wp_delta;rw[show splitId id0=some ("set", "__len__")from by subst hid;decide+kernel];subst hid)
 refine aAa (aDG (b:=true) hT2 (by rw[aER];kernel_rfl) ?_);rw[if_neg (by decide)];refine HP (by decide+kernel) ?_
 ·refine aAa (aDK hT2<|aAb ?_);rw[if_pos (by decide)];show wpAny _ A.in1 (rule "list.extend.makes-room">>=λ_=>aFA (.ref s.heap.objs.size)>>=λ_=>again (.builtin "list.extend.loop" ⟨[.ref s.heap.objs.size,.ref h1.objs.size,.ref s.heap.objs.size],[]⟩)) _ _ _
  refine aAa (aDq ?_);refine aAa ?_;show wpAny _ A.in1 (updateSeq s.heap.objs.size (·.push .none)>>=λ_=>updateSeq s.heap.objs.size (·.pop)) _ _ _;refine aAa (aCc hL2 rfl ?_);have hL3:=aBm (aBK (·.push Value.none)) hL2 rfl;refine aCc hL3 rfl ?_;have hL4:=aBm (aBK (·.pop)) hL3 rfl;have um:∀b o,b≠s.heap.objs.size->h2.get? b=some o->((h2.update s.heap.objs.size (aBK (·.push Value.none))).update s.heap.objs.size (aBK (·.pop))).get? b=some o:=
   λb o hb e=>(aAB _ _<|aCl hb).trans ((aAB _ _<|aCl hb).trans e)
  have neI:h1.objs.size≠s.heap.objs.size:=by rw[hsz1];lia
  have W:=(HE (prog:=prog) (w:=w) (A:=A.in1) (by simp[hh]) h1.objs.size S (by rw[hsz1];exact aAk (aBu ah)) (es:=es) (ep:=ep) (t:=t) hf hp hl ha).toS;refine aAb ⟨aBZ PySem.F.plain_extend_loop _,codeAny_extend_loopS W hn _ (by simp only[aAd,aAM,or_false,not_or];exact⟨aCl neI,aCZ ah⟩) _ es.size 0 _ _ _ rfl (aAV _) ⟨um _ _ neI hI2,cK hS2 λo e=>um S o (aAk ah) e⟩ hL4 (ItemsOf.nil _) λs' jl c' hm iu dc=>?_⟩;show wpAny _ A (load s.heap.objs.size>>=_) _ _ s';refine aAa (wpAny_load iu ?_);refine aAb ?_;have g0:s'.gens=s.gens:=hm.gens;have d0:s'.drawn=s.drawn:=hm.drawn;have o0:s'.os=s.os:=hm.os;have ea:jl.toList=(walkL w S es ep).map (·.2):=by
   have mr:=(walkL_perm w S es ep).length_eq;apply aFe;intro i;rw[aAK,aAz];by_cases hi:i<es.size
   ·have yn:i<jl.size:=by rw[dc.1];exact hi
    obtain⟨e,he,hv⟩:=dc.2 i _ (aAE yn);rw[he,aAE yn,hv];rfl
   ·rw[aCH (by rw[dc.1];lia),List.getElem?_eq_none (by rw[mr];simp;lia)];rfl
  obtain⟨h',g',d',xm,os'⟩:=s';subst g0 d0 o0;rw[ea];refine hQ h' xm λb o e=>?_;have hb:b≠s.heap.objs.size:=aAk (aAg e);have hb2:b≠h1.objs.size:=by rw[hsz1];exact aAk (aBu<|aAg e)
  exact hm.heap b o (by simp only[aAd,aAM,or_false,not_or];exact⟨hb,hb2⟩) (um b o hb<|hk2 _ _<|hk1 _ _ e)
end
end SI
namespace TS
open PySem PyProof.Rows
abbrev tupK:Bool->SortKind:=sortPriv%PySem.Builtin.KeyKind.tuples
structure TB (f:Bool)(a5:Array Keyed)(st:SortSt):Prop where
 perm:(arrOf st).Perm a5
 kind:kindOf st=tupK f
 failed:failedOf st=none
 pend:pendingOf st=#[]
def TB.size {f:Bool}{a5:Array Keyed}{st:SortSt}(h:TB f a5 st):(arrOf st).size=a5.size:=h.perm.size_eq
def TB.setArr {f:Bool}{a5:Array Keyed}{st:SortSt}(h:TB f a5 st){xs:Array Keyed}(hp:xs.Perm (arrOf st)):TB f a5 (PyProof.Rows.setArr st xs):=
 ⟨hp.trans h.perm,h.kind,h.failed,h.pend⟩
def SC (f:Bool)(A:Around)(s:Shared)(κ:KeyKind):Prop:=
 ∀(prog:Program) (w:World) (E:D2) (x y:Value) (a b:κ.α) {Q:vK},
  κ.keyOf x=some a->κ.keyOf y=some b->Q (κ.blt a b) s->wpAny (model prog w) A (keyLt' (tupK f) x y) Q E s
def TB.atK {f:Bool}{κ:KeyKind}{a5:Array Keyed}{st:SortSt}(h:TB f a5 st)(h0:KeysOf κ a5){i:Nat}(hi:i<a5.size):∃x p a,(arrOf st)[i]?=some (x,p)/\κ.keyOf x=some a/\KK κ (arrOf st) i=a:=by
 have dn:i<(arrOf st).size:=by rw[h.size];exact hi
 obtain⟨a,ha⟩:=h0 _ ((aEE.mp h.perm).mem_iff.mp (show(arrOf st)[i]∈(arrOf st).toList by simp));have e:(arrOf st)[i]?=some (arrOf st)[i]:=getElem?_pos _ i dn;exact⟨(arrOf st)[i].1,(arrOf st)[i].2,a,by rw[e],ha,by unfold KK;rw[e];simp[ha]⟩
section
def bz (f:Bool){prog:Program}{w:World}{A:Around}{E:D2}{s:Shared}{a5:Array Keyed}{κ:KeyKind}{st:SortSt}{i j:Nat}{Q:Option Bool->SortSt->Prop}(hO:SC f A s κ)(hB:TB f a5 st)(h0:KeysOf κ a5)(hi:i<a5.size)(hj:j<a5.size)
  (h:Q (some (κ.blt (KK κ (arrOf st) i) (KK κ (arrOf st) j))) st):wpS (model prog w) A E s (ltAt' i j) Q st:=by
 obtain⟨x,p,a,e1,ha,ka⟩:=hB.atK h0 hi;obtain⟨y,q,b,e2,hb,kb⟩:=hB.atK h0 hj;rw[ka,kb]at h;rw[ltAt'_eq];refine aBo (wpS_get ?_);show wpS _ _ _ _ (do let x<-elem' (arrOf st) i;let y<-elem' (arrOf st) j;lt' x y) Q st;rw[elem'_eq,elem'_eq,e1,e2];refine aBo (aCk<|aBo<|aCk ?_);rw[lt'_eq];refine aBo (wpS_get ?_);rw[hB.kind];refine aBo (wpS_lift<|aEp<|hO prog w _ x y a b ha hb ⟨rfl,?_⟩);exact aCk h
def up1 (S:SortedToK κ xs x)(h:1<=x->κ.kle (KK κ xs (x-1)) (KK κ xs x)):SortedToK κ xs (x+1):=λi j jf hj=>by
 rcases aDh (aFg hj)with ah|rfl
 ·exact S i j jf ah
 ·rcases aDh jf with hi|rfl
  ·exact KeyOrd.kle_trans (S i (j-1) (by lia) (by lia)) (h (by lia))
  ·exact KeyOrd.kle_refl _
def ZL (S:NonIncK κ xs x)(h:1<=x->κ.kle (KK κ xs x) (KK κ xs (x-1))):NonIncK κ xs (x+1):=λi j jf hj=>by
 rcases aDh (aFg hj)with ah|rfl
 ·exact S i j jf ah
 ·rcases aDh jf with hi|rfl
  ·exact KeyOrd.kle_trans (h (by lia)) (S i (j-1) (by lia) (by lia))
  ·exact KeyOrd.kle_refl _
def ML (S:NonIncK κ xs x)(e:∀k,KK κ ys k=KK κ xs k):NonIncK κ ys x:=λi j jf hj=>by rw[e,e];exact S i j jf hj
def zJ (κ:KeyKind)(xs:Array Keyed)(x c:Nat):Prop:=c+1<=x/\∀k,x-(c+1)<=k->k<x->KK κ xs k=KK κ xs (x-1)
def zJ.one (h:1<=x):zJ κ xs x 0:=⟨h,λk h1 h2=>by rw[show k=x-1 by lia]⟩
variable{st:SortSt}
def IP (hO:SC f A s κ)(h0:KeysOf κ a5)(hm:m<=a5.size)(B:TB f a5 st)(ha:1<=a)(ham:a<=m)(S:SortedToK κ (arrOf st) a){Q:AscSt->SortSt->Prop}(q:∀n,a<=n->n<=m->SortedToK κ (arrOf st) n->(n<m->κ.klt (KK κ (arrOf st) n) (KK κ (arrOf st) (n-1)))->Q (none,n) st):wpS (model prog w) A E s (ascLoop a m) Q st:=by
 refine aEc (I:=λn r t=>t=st/\r=(none,n)/\SortedToK κ (arrOf st) n) (λn r t l1 l2 ⟨e1,e2,S'⟩=>?_) (λr t ⟨e1,e2,S'⟩=>?_) ⟨rfl,rfl,S⟩
 ·subst e1 e2;refine aBo (bz f hO B h0 (by lia) (by lia) ?_);cases z:κ.blt (KK κ (arrOf t) n) (KK κ (arrOf t)<|n-1)with
  |true=>exact aCk (q n l1 (by lia) S' λ_=>z)
  |false=>exact aCk ⟨rfl,rfl,up1 S' λ_=>z⟩
 ·subst e1 e2;have e:max a m=m:=Nat.max_eq_right ham;rw[e]at S'⊢;exact q m ham (aAj _) S' λz=>absurd z (aBf _)
abbrev Told (f:Bool)(κ:KeyKind)(a5:Array Keyed)(m:Nat)(Q:Option Nat->SortSt->Prop):Prop:=∀n t,TB f a5 t->1<=n->n<=m->SortedToK κ (arrOf t) n->Q (some n) t
def yT (hO:SC f A s κ)(h0:KeysOf κ a5)(hm:m<=a5.size)(B:TB f a5 st)(h1:1<=n)(hn:n<=m)(S:NonIncK κ (arrOf st) n){Q:Option Nat->SortSt->Prop}(q:Told f κ a5 m Q):
  wpS (model prog w) A E s (tail3 n m) Q st:=by
 have B2:=B.setArr (aFW (arrOf st) 0 n<|(n-0)/2);have hz:n<=(arrOf st).size:=by rw[B.size];exact aAu hn hm
 refine aBo (aFX<|aBo<|IP hO h0 hm B2 h1 hn (λi j jf hj=>?_) λk k1 k2 S' _=>aCk (q k _ B2 (aAu h1 k1) k2 S'));have e:∀k,k<n->KK κ (arrOf<|setArr st<|mirror (arrOf st) 0 n<|(n-0)/2) k=KK κ (arrOf st) (0+n-1-k):=λk hk=>(KK_mirror hz k).trans (if_pos ⟨aAV _,hk⟩);rw[e i (by lia),e j hj];exact S _ _ (by lia) (by lia)
def OK (hO:SC f A s κ)(h0:KeysOf κ a5)(hm:m<=a5.size)(B:TB f a5 st)(h1:1<=n)(hn:n<=m)(S:NonIncK κ (arrOf st) n){Q:DescSt->SortSt->Prop}(q:∀k c t,TB f a5 t->1<=k->k<=m->NonIncK κ (arrOf t) k->zJ κ (arrOf t) k c->Q (none,k,c) t):wpS (model prog w) A E s (descLoop n m) Q st:=by
 refine aEc (I:=λk r t=>∃c,r=(none,k,c)/\TB f a5 t/\NonIncK κ (arrOf t) k/\zJ κ (arrOf t) k c) (λk r t l1 l2 ⟨c,e,B',S',F'⟩=>?_) (λr t ⟨c,e,B',S',F'⟩=>?_) ⟨0,rfl,B,S,zJ.one h1⟩
 ·subst e;have hz:k<=(arrOf t).size:=by rw[B'.size];lia
  dsimp only;refine aBo (bz f hO B' h0 (by lia) (by lia) ?_);cases z:κ.blt (KK κ (arrOf t) k) (KK κ (arrOf t)<|k-1)with
  |true=>
   have S2:NonIncK κ (arrOf t) (k+1):=ZL S' λ_=>KeyOrd.kle_of_klt z;show wpS _ _ _ _ (if c>0 then _ else _) _ t;by_cases hc:c>0
   ·rw[if_pos hc];exact aBo (aFX (aCk ⟨0,rfl,B'.setArr (aFW _ _ _ _),ML S2 (aFH hz F'.2),zJ.one (by lia)⟩))
   ·rw[if_neg hc];exact aCk ⟨0,rfl,B',S2,zJ.one (by lia)⟩
  |false=>
   dsimp only;simp only[aAn,if_false];refine aBo (bz f hO B' h0 (by lia) (by lia) ?_);cases z2:κ.blt (KK κ (arrOf t)<|k-1) (KK κ (arrOf t) k)with
   |true=>exact aCk (q k c t B' (by lia) (by lia) S' F')
   |false=>
    have e:KK κ (arrOf t) k=KK κ (arrOf t) (k-1):=KeyOrd.kle_antisymm z2 z;refine aCk ⟨c+1,rfl,B',ZL S' λ_=>by rw[e];exact KeyOrd.kle_refl _,by have:=F'.1;lia,λi i1 i2=>?_⟩;show KK κ (arrOf t) i=KK κ (arrOf t) k;rcases aDh (aFg i2)with hi|rfl
    ·rw[e];exact F'.2 i (by lia) hi
    ·rfl
 ·subst e;have e:max n m=m:=Nat.max_eq_right hn;rw[e]at S' F'⊢;exact q m c t B' (aAu h1 hn) (aAj _) S' F'
def vW (hO:SC f A s κ)(h0:KeysOf κ a5)(hm:m<=a5.size)(B:TB f a5 st)(hn:n+1<=m)(S:NonIncK κ (arrOf st) (n+1)){Q:Option Nat->SortSt->Prop}(q:Told f κ a5 m Q):
  wpS (model prog w) A E s (descPart n m) Q st:=by
 refine aBo (wpS_lift<|aDq ⟨rfl,aBo (OK hO h0 hm B (aGo n) hn S λk c t B' k1 k2 S' F'=>?_)⟩);have hz:k<=(arrOf t).size:=by rw[B'.size];lia
 show wpS _ _ _ _ (if c>0 then _ else _) _ t;by_cases hc:c>0
 ·rw[if_pos hc];exact aBo (aFX<|yT hO h0 hm (B'.setArr<|aFW _ _ _ _) k1 k2 (ML S'<|aFH hz F'.2) q)
 ·rw[if_neg hc];exact yT hO h0 hm B' k1 k2 S' q
def HU (hO:SC f A s κ)(h0:KeysOf κ a5)(hm:m<=a5.size)(h1:1<=m)(B:TB f a5 st){Q:Option Nat->SortSt->Prop}(q:Told f κ a5 m Q):wpS (model prog w) A E s (countRun' 0 m) Q st:=by
 rw[countRun0_eq];refine aBo (IP hO h0 hm B (aAj 1) h1 (up1 (λ_ _ _ z=>absurd z (aEx _)) λz=>absurd z (by decide)) λn n1 n2 S ah=>?_);show wpS _ _ _ _ (if(n==m)=true then _ else _) _ st;by_cases hn:n=m
 ·rw[if_pos (beq_iff_eq.mpr hn)];exact aCk (q n st B n1 n2 S)
 ·rw[if_neg λz=>hn (beq_iff_eq.mp z)];have lt:=ah (by lia);by_cases hg:n>1
  ·rw[if_pos hg];refine aBo (bz f hO B h0 (by lia) (by lia) ?_);cases z:κ.blt (KK κ (arrOf st) 0) (KK κ (arrOf st)<|n-1)with
   |true=>exact aCk (q n st B n1 n2 S)
   |false=>
    have hz:n<=(arrOf st).size:=by rw[B.size];lia
    have same:∀k,0<=k->k<n->KK κ (arrOf st) k=KK κ (arrOf st) (n-1):=λk _ hk=>KeyOrd.kle_antisymm (S k (n-1) (by lia) (by lia)) (KeyOrd.kle_trans z<|S 0 k (aAV _) hk);have S2:NonIncK κ (arrOf st) n:=λi j jf hj=>by rw[same i (aAV _) (by lia),same j (aAV _) hj];exact KeyOrd.kle_refl _
    exact aBo (aFX (vW hO h0 hm (B.setArr<|aFW _ _ _ _) (by lia) (ML (ZL S2 λ_=>KeyOrd.kle_of_klt lt)<|aFH hz same) q))
  ·rw[if_neg hg];obtain rfl:n=1:=by lia
   exact vW hO h0 hm B (by lia) (ZL (ZL (λ_ _ _ z=>absurd z (aEx _)) λz=>absurd z (by decide)) λ_=>KeyOrd.kle_of_klt lt) q
def nC (hO:SC f A s κ)(h0:KeysOf κ a5)(hn:n<=a5.size)(hk:k<=n)(B:TB f a5 st)(S:SortedToK κ (arrOf st) k){Q:Bool->SortSt->Prop}(q:∀t,TB f a5 t->SortedToK κ (arrOf t) n->Q true t):
  wpS (model prog w) A E s (binarySort' 0 n k) Q st:=by
 rw[binarySort'_eq];simp only[aEb];have S0:SortedToK κ (arrOf st) (min (max k 1) n):=λi j jf hj=>by
  rcases Nat.eq_or_lt_of_le jf with rfl|ah
  ·exact KeyOrd.kle_refl _
  ·exact S i j jf (by lia)
 refine aBo (wpS_mono (Q:=λr t=>r=(none,())/\TB f a5 t/\SortedToK κ (arrOf t) n) (aEc (I:=λx r t=>r=(none,())/\TB f a5 t/\SortedToK κ (arrOf t) (min x n)) (λx r t l1 l2 ⟨e,B',S'⟩=>?step) (λr t ⟨e,B',S'⟩=>⟨e,B',?fin⟩) ⟨rfl,B,S0⟩) λr t ⟨e,B',S'⟩=>?post)
 case step=>
  subst e;rw[aFI (aDl l2)]at S';have hx:x<a5.size:=by lia
  let Low (l:Nat):Prop:=∀i,i<l->κ.kle (KK κ (arrOf t) i) (KK κ (arrOf t) x)
  let Top (r:Nat):Prop:=∀i,r<=i->i<x->κ.klt (KK κ (arrOf t) x) (KK κ (arrOf t) i)
  refine aBo (wpS_mono (Q:=λd u=>u=t/\∃l r,d=(none,l,r)/\l<=x/\Low l/\Top l) (aEc (I:=λy d u=>u=t/\∃l r,d=(none,l,r)/\l<=r/\r<=x/\r-l<=x-y/\Low l/\Top r) (λy d u _ y2 ⟨e,l,r,e2,lr,rx,far,lo,hi⟩=>?istep) (λd u ⟨e,l,r,e2,lr,rx,far,lo,hi⟩=>?ifin)
   ⟨rfl,0,x,rfl,aAV _,aAj _,aAj _,λ_ z=>absurd z (aEx _),λi a b=>absurd (aBY a b) (aBf _)⟩) λd u ⟨e,l,r,e2,lx,lo,hi⟩=>?ipost)
  case istep=>
   subst e e2;show wpS _ _ _ _ (if l>=r then _ else _) _ u;by_cases hlr:l>=r
   ·rw[if_pos hlr];obtain rfl:l=r:=Nat.le_antisymm lr hlr;exact aCk ⟨rfl,l,l,rfl,rx,lo,hi⟩
   ·rw[if_neg hlr];dsimp only;refine aBo (bz f hO B' h0 hx (by lia) ?_);cases z:κ.blt (KK κ (arrOf u) x) (KK κ (arrOf u)<|(l+r)/2)with
    |true=>exact aCk ⟨rfl,l,(l+r)/2,rfl,by lia,by lia,by lia,lo,λi a b=>KeyOrd.klt_of_klt_of_kle z (S' _ i a b)⟩
    |false=>exact aCk ⟨rfl,(l+r)/2+1,r,rfl,by lia,by lia,by lia,λi a=>KeyOrd.kle_trans (S' i ((l+r)/2) (by lia) (by lia)) z,hi⟩
  case ifin=>
   subst e e2;obtain rfl:l=r:=by lia
   exact⟨rfl,l,l,rfl,rx,lo,hi⟩
  case ipost=>
   subst e e2;have hz:x<(arrOf u).size:=by rw[B'.size];exact hx
   show wpS _ _ _ _ (do moveDown' x l;pure (aCp (none,()))) _ u;rw[moveDown'_eq];refine aBo (wpS_modify<|aCk ⟨rfl,B'.setArr (bubble_perm _ _ _),λi j jf hj=>?_⟩);have e:∀k,KK κ (arrOf<|setArr u<|bubble (arrOf u) x<|x-l) k=if k=l then KK κ (arrOf u) x else if l<k/\k<=x then KK κ (arrOf u) (k-1)else KK κ (arrOf u) k:=λk=>by have:=KK_bubble (κ:=κ) hz (Nat.sub_le x l) k;rw[show x-(x-l)=l by lia]at this;exact this
   have hj:j<x+1:=by lia
   rw[e,e];by_cases c1:i=l
   ·rw[if_pos c1];by_cases c2:j=l
    ·rw[if_pos c2];exact KeyOrd.kle_refl _
    ·rw[if_neg c2,if_pos ⟨by lia,by lia⟩];exact KeyOrd.kle_of_klt (hi _ (by lia) (by lia))
   ·rw[if_neg c1];by_cases c2:j=l
    ·rw[if_pos c2,if_neg λz=>by lia];exact lo i (by lia)
    ·rw[if_neg c2];by_cases c3:l<i/\i<=x
     ·rw[if_pos c3,if_pos ⟨by lia,by lia⟩];exact S' _ _ (by lia) (by lia)
     ·rw[if_neg c3];by_cases c4:l<j/\j<=x
      ·rw[if_pos c4];exact S' _ _ (by lia) (by lia)
      ·rw[if_neg c4];exact S' _ _ jf (by lia)
 case fin=>rw[show min (max (max k 1) n) n=n by lia]at S';exact S'
 case post=>subst e;exact aCk (q t B' S')
def lQ (f:Bool)(hO:SC f A s κ)(h0:KeysOf κ a5)(B:TB f a5 st)(h2:2<=a5.size)(h64:a5.size<64){Q:Unit->SortSt->Prop}(q:∀t,(arrOf t).Perm a5->failedOf t=none->SortedToK κ (arrOf t) a5.size->Q () t):wpS (model prog w) A E s sortRuns' Q st:=by
 have e1:minRun' a5.size a5.size 0=a5.size:=by
  generalize hN:a5.size=N at*
  cases N with
  |zero=>lia
  |succ N=>rw[minRun'_succ,if_pos h64]
 let SV (t:SortSt):Prop:=(arrOf t).Perm a5/\failedOf t=none/\pendingOf t=#[(0,a5.size,0)]/\SortedToK κ (arrOf t) a5.size
 have done:∀t,TB f a5 t->SortedToK κ (arrOf t) a5.size->SV (setPending t<|(pendingOf t).push (0,a5.size,0)):=λt B' S'=>⟨B'.perm,B'.failed,(congrArg (·.push (0,a5.size,0)) B'.pend),S'⟩;rw[sortRuns'_eq];refine aBo (wpS_get ?_);dsimp only;simp only[B.size,e1];refine aBo (wpS_mono (Q:=λr t=>r=(none,a5.size)/\SV t) (aEc (I:=λx r t=>(x=0/\r=(none,0)/\TB f a5 t)\/(0<x/\r=(none,a5.size)/\SV t)) (λx r t _ l2 I=>?step) (λr t I=>?fin)<|.inl ⟨rfl,rfl,B⟩) λr t ⟨e,D⟩=>?post)
 case step=>
  rcases I with⟨rfl,rfl,B'⟩|⟨x0,rfl,D⟩
  ·show wpS _ _ _ _ (if 0>=a5.size then _ else _) _ t;rw[if_neg (by lia)];simp only[Nat.sub_zero,Nat.min_self,aEb];have fin:∀u,TB f a5 u->(pendingOf u).back?=none:=λu B2=>by rw[B2.pend];rfl
   refine aBo (HU hO h0 (aAj _) (by lia) B' λn u B2 n1 n2 S2=>?_);show wpS _ _ _ _ (if n<a5.size then _ else _) _ u;by_cases hn:n<a5.size
   ·rw[if_pos hn];refine aBo (wpS_lift<|aDq ⟨rfl,aBo (nC hO h0 (aAj _) n2 B2 S2 λv B3 S3=>?_)⟩);simp only[aCy,aAn,if_false];refine aBo (wpS_get ?_);rw[fin v B3];exact aBo (wpS_modify<|aCk<|.inr ⟨aGo _,rfl,done v B3 S3⟩)
   ·rw[if_neg hn];obtain rfl:n=a5.size:=by lia
    refine aBo (wpS_get ?_);rw[fin u B2];exact aBo (wpS_modify<|aCk<|.inr ⟨aGo _,rfl,done u B2 S2⟩)
  ·show wpS _ _ _ _ (if a5.size>=a5.size then _ else _) _ t;rw[if_pos (aAj _)];exact aCk ⟨rfl,D⟩
 case fin=>
  rcases I with⟨z,_⟩|⟨_,e,D⟩
  ·lia
  ·exact⟨e,D⟩
 case post=>
  subst e;refine aBo (wpS_mono (Q:=λr u=>u=t/\r=(none,())) (aEc (I:=λ_ r u=>u=t/\r=(none,())) (λ_ r u _ _ ⟨e,e2⟩=>?istep) (λ_ _ z=>z) ⟨rfl,rfl⟩) λr u ⟨e,e2⟩=>?ipost)
  case istep=>subst e e2;refine aBo (wpS_get ?_);rw[if_pos (by rw[D.2.2.1];exact aAj 1)];exact aCk ⟨rfl,rfl⟩
  case ipost=>subst e e2;exact aCk (q _ D.1 D.2.1 D.2.2.2)
end
end TS
namespace TS
open PySem PyProof.Rows
section
def YC (a:Addr)(s s6:Shared):Prop:=∀b o,b≠a->s.heap.get? b=some o->s6.heap.get? b=some o
def vM {P:Fin->Shared->Prop}(ho:s.heap.get? a=some (seqObj "list" vs.toArray n))(h0:KeysOf κ (pairsOf vs))(hO:∀s6,YC a s s6->SC f A s6 κ)(hkk:2<=vs.length->∀s6,YC a s s6->∀{Q:SortKind->Shared->Prop},Q (tupK f) s6->wpAny (model prog w) A (keyKind' vs.toArray) Q E s6)(h64:vs.length<64)(h:∀st':SortSt,(arrOf st').Perm (pairsOf vs)->SortedToK κ (arrOf st') (pairsOf vs).size->P (.done (.ret .none)) {s with heap:=sortedHeap s.heap a vs ((arrOf st').map (·.2))}):
  wpAny (model prog w) A (Builtin.«list.sort» ⟨[.ref a],[]⟩) P E s:=by
 rw[list_sort_plain];have ha:a<s.heap.objs.size:=aAg ho;refine aAa (aEd ho rfl ?_);refine aAa (listUpdate_at ho rfl ?_);obtain⟨e1,ho1⟩:∃e1,(s.heap.update a<|aBK λ_=>#[]).get? a=some (seqObj "list" #[] e1):=⟨_,get?_update_seq ho _⟩;refine aAa (seqEpoch_at ho1 rfl<|aAa<|aFT<|aAa<|wpAny_newList<|aAP ?_);have ne1:a≠(s.heap.update a<|aBK λ_=>#[]).objs.size:=by rw[Heap.size_update];exact aAk ha
 have bar:YC a s {s with heap:=((s.heap.update a<|aBK λ_=>#[]).push (seqObj "tuple" vs.toArray 0)).push (seqObj "list" #[] 0)}:=λb o hb e=>aAc _ (aAc _<|(aAB _ _<|aCl hb).trans e)
 have ho6:(((s.heap.update a<|aBK λ_=>#[]).push (seqObj "tuple" vs.toArray 0)).push (seqObj "list" #[] 0)).get? a=some (seqObj "list" #[] e1):=aAc _ (aAc _ ho1);show wpAny (model prog w) A _ P E {s with heap:=((s.heap.update a<|aBK λ_=>#[]).push (seqObj "tuple" vs.toArray 0)).push (seqObj "list" #[] 0)};dsimp only;have gg:vs.toArray.size=vs.length:=by simp
 have fin:=h;by_cases h2:vs.toArray.size<2
 ·rw[if_pos h2,if_pos h2];refine aAa (aAb ?_);rw[StateT.run_pure];refine aAa (aAb ?_);dsimp only;refine aAa (seqEpoch_at ho6 rfl (aAa (listUpdate_at ho6 rfl ?_ (hsz2:=by rw[Array.size_map];show(pairsOf vs).size<=_;rw[aEO,aFh];lia))));simp only[bne_self_eq_false,aAn,if_false];refine aAb (fin (SortSt.mk' general' (vs.toArray.zip vs.toArray) #[] 7 none) (aGs _) λi j jf hj=>?_);have:i=j:=by rw[aEO]at hj;lia
  subst this;exact KeyOrd.kle_refl _
 ·rw[if_neg h2,if_neg h2];refine aAa (hkk (by lia) _ bar ?_);refine aAa (aCs (lQ f (κ:=κ) (hO _ bar) (a5:=pairsOf vs) (st:=SortSt.mk' (tupK f) (vs.toArray.zip vs.toArray) #[] 7 none) (Q:=λ_ st'=>(arrOf st').Perm (pairsOf vs)/\failedOf st'=none/\SortedToK κ (arrOf st') (pairsOf vs).size)
   h0 ⟨aGs _,rfl,rfl,rfl⟩ (by rw[aEO];lia) (by rw[aEO];exact h64) λst' a1 a2 a3=>⟨a1,a2,a3⟩) ?_ λ_ _ e=>e)
  rintro⟨⟨⟩,st'⟩ s' ⟨rfl,hp,hf,hs⟩;dsimp only;refine aAa (seqEpoch_at ho6 rfl (aAa (listUpdate_at ho6 rfl ?_ (hsz2:=by refine aAu (aDZ<|(Array.size_map ..).trans (hp.size_eq.trans<|aEO _)) ?_;rw[aFh];lia))));rw[hf];simp only[bne_self_eq_false,aAn,if_false];exact aAb (fin st' hp hs)
end
end TS
namespace TS
open PySem PyProof.Rows HT
def rJ (f:Bool)(x y:Value):keyLt' (tupK f) x y=(do
 let xs<-aCI x;let ys<-aCI y
 for ((p,q),i)in(xs.toList.zip ys.toList).zipIdx do
  if !(<-eqBool p q)then return<-oneLt' (f&&i==0) p q
 return decide (xs.size<ys.size)):=rfl
def OC:Value->Sem (Option Value):=sortPriv%PySem.Builtin.firstOfTuple?
def JI:Array Value->Sem (Option Value):=sortPriv%PySem.Builtin.oneTypeOnly
def FZ (v:Value):OC v=(do
 if(<-typeOf v) !=.type "tuple"then return none
 return (<-aCI v)[0]?):=rfl
def NN (vs:Array Value):JI vs=(do
 let ts<-vs.mapM typeOf
 match ts[0]? with
 |some t=>return if ts.all (· ==t)then some t else none
 |none=>return none):=rfl
def yY (ks:Array Value):keyKind' ks=(do
 let firsts<-ks.mapM OC
 if firsts.all (·.isSome)then
  rule "list.sort.keys-are-tuples"
  return tupK ((<-JI (firsts.filterMap id)).any (· !=.type "tuple"))
 if(firsts[0]?.bind id).isSome then return general'
 return if(<-JI ks).isSome then oneType' else general'):=rfl
section
def LB {Q:vK}(f:Bool)(h:Q (decide (a<b)) s):wpAny (model prog w) A (oneLt' f (.int a t) (.int b u)) Q E s:=by
 cases f with
 |true=>exact oneLt_int h
 |false=>rw[oneLt'_eq];simp only[aAn,if_false];exact aAa (xJ A s a t b u prog w _ _<|aBj h)
def lt_ints (f:Bool){Q:vK}(hl:IsTup s.heap l items)(hb:IsTup s.heap b ao)(hi:IntsAre items.toList ns)(hj:IntsAre ao.toList ms)(h:Q (HT.lexLt ns ms) s):wpAny (model prog w) A (keyLt' (tupK f) (.ref l) (.ref b)) Q E s:=by
 obtain⟨o,ho,hc,n,hd⟩:=hl;obtain⟨o2,kl,jr,n2,hd2⟩:=hb;have z1:items.size=ns.length:=by rw[<-hi.length];simp
 have z2:ao.size=ms.length:=by rw[<-hj.length];simp
 rw[rJ];refine aAa (aEd ho hd<|aAa<|aEd kl hd2 ?_);refine aAa (aCu _ (λrest b s'=>b.1=none/\s'=s/\∃(k:Nat) (vs ws:List Value) (ud ue:List Int),rest=(vs.zip ws).zipIdx k/\IntsAre vs ud/\IntsAre ws ue/\ud.length+ao.size=ue.length+items.size/\Q (HT.lexLt ud ue) s)
  (λb s'=>s'=s/\(∀c,b.1=some c->Q c s)/\(b.1=none->Q (decide (items.size<ao.size)) s)) ?turn ?fin _ _ ⟨rfl,rfl,0,items.toList,ao.toList,ns,ms,rfl,hi,hj,by lia,h⟩|>λz=>aCs z ?post λ_ _ e=>e)
 case post=>
  rintro⟨b1,b2⟩ s' ⟨rfl,q1,q2⟩;cases b1 with
  |none=>exact aAb (q2 rfl)
  |some c=>exact aAb (q1 c rfl)
 case fin=>
  rintro⟨b1,b2⟩ s' ⟨km,rfl,k,vs,ws,ud,ue,hz,uf,xv,hlen,hR⟩;refine⟨rfl,λc e=>(by rw[km]at e;cases e),λ_=>?_⟩;cases uf with
  |nil=>
   cases xv with
   |nil=>rw[X7]at hR;simp only[aAR]at hlen;rw[decide_eq_false (by lia)];exact hR
   |cons c u hw=>rw[L3]at hR;simp only[aAR,aAs]at hlen;rw[decide_eq_true (by lia)];exact hR
  |cons a t hv=>
   cases xv with
   |nil=>rw[B0]at hR;simp only[aAR,aAs]at hlen;rw[decide_eq_false (by lia)];exact hR
   |cons c u hw=>rw[aBW,aEj]at hz;cases hz
 case turn=>
  rintro⟨⟨y,x⟩,i⟩ rest b s' ⟨km,rfl,k,vs,ws,ud,ue,hz,uf,xv,hlen,hR⟩;cases uf with
  |nil=>rw[List.zip_nil_left,aEy]at hz;cases hz
  |cons a t hvi'=>
   cases xv with
   |nil=>rw[List.zip_nil_right,aEy]at hz;cases hz
   |cons c u hwi'=>
    rw[aBW,aEj]at hz;injection hz with zr af;injection zr with zr hik;injection zr with hy hx;subst hy hx hik;rw[F1]at hR;simp only[aAs]at hlen;obtain⟨e,he,vc⟩:=xA A s' a t c u;refine aAa (he prog w _ _ ?_);cases e with
    |true=>rw[if_pos (vc.mp rfl)]at hR;exact aAb ⟨rfl,rfl,_,_,_,_,_,af,hvi',hwi',by lia,hR⟩
    |false=>rw[if_neg (λq=>absurd (vc.mpr q) aAH)]at hR;exact aAa (LB _ (aAb ⟨rfl,λc e=>(by cases e;exact hR),λe=>(by cases e)⟩))
end
end TS
namespace TS
open PySem PyProof.Rows HT
section
theorem EN {α β:Type}{M:Model}{f:α->Sem β}(g:α->β):∀(xs:List α) {Q:List β->Shared->Prop},(∀x∈xs,∀{Q:β->Shared->Prop},Q (g x) s->wpAny M A (f x) Q E s)->Q (xs.map g) s->wpAny M A (xs.mapM f) Q E s
 |[],Q,_,q=>by rw[List.mapM_nil];exact aAb q
 |x::xs,Q,h,q=>by rw[List.mapM_cons];exact aAa (h x (.head _) (aAa (EN g xs (λy hy=>h y (.tail _ hy)) (aAb q))))
def DA {α β:Type}{M:Model}{f:α->Sem β}(g:α->β)(xs:List α){Q:Array β->Shared->Prop}(h:∀x∈xs,∀{Q:β->Shared->Prop},Q (g x) s->wpAny M A (f x) Q E s)(q:Q (xs.map g).toArray s):wpAny M A (xs.toArray.mapM f) Q E s:=by rw[List.mapM_toArray];show wpAny M A (List.toArray<$>xs.mapM f) Q E s;rw[map_eq_pure_bind];exact aAa (EN g xs h<|aAb q)
def kind_tuples {vs:List Value}{f:Bool}{T:String}{Q:SortKind->Shared->Prop}(gf:Value->Value)(h:∀x∈vs,∃a items,x=.ref a/\IsTup s.heap a items/\items[0]?=some (gf x)/\s.TypeIs (gf x) T)(ai:vs≠[])(hf:f=(aCr T !=aCr "tuple"))
  (q:Q (tupK f) s):wpAny (model prog w) A (keyKind' vs.toArray) Q E s:=by
 rw[yY];refine aAa (DA (λx=>some (gf x)) vs (λx hx {Q} q'=>?_) ?_)
 ·obtain⟨a,items,rfl,⟨o,ho,hc,n,hd⟩,h0,_⟩:=h x hx;rw[FZ];refine aAa (aDK (T:= "tuple") ⟨o,ho,hc⟩ ?_);rw[if_neg (by simp)];refine aAa (aEd ho hd ?_);rw[h0];exact aAb q'
 ·have e1:((vs.map λx=>some (gf x)).toArray.all λx=>x.isSome)=true:=by simp
  have e2:(vs.map λx=>some (gf x)).toArray.filterMap id=(vs.map gf).toArray:=by
   rw[List.filterMap_toArray,aDg];congr 1;induction vs with
   |nil=>rfl
   |cons v vs ih=>simp
  simp only[e1,if_true,e2];refine aAa (aDq ?_);refine aAa ?_;rw[NN];refine aAa (DA (λ_=>aCr T) (vs.map gf) (λx hx {Q} q'=>?_) ?_)
  ·obtain⟨y,hy,rfl⟩:=aAm.mp hx;obtain⟨_,_,_,_,_,ht⟩:=h y hy;exact aDK ht q'
  ·cases vs with
   |nil=>exact absurd rfl ai
   |cons v vs=>
    simp only[aAp,aBB];have e3:((aCr T::aDi ((λ_=>aCr T)∘gf) vs).toArray.all λx=>x==aCr T)=true:=by simp
    simp only[aCK,aDa,e3,if_true];refine aAb (aAb ?_);rw[hf]at q;exact q
end
end TS
namespace TS
open PySem PyProof.Rows HT
theorem lex_irrefl:∀a:List Int,HT.lexLt a a=false
 |[]=>rfl
 |x::xs=>by rw[F1,if_pos rfl];exact lex_irrefl xs
theorem lex_total:∀a b:List Int,HT.lexLt a b=false->HT.lexLt b a=false->a=b
 |[],[],_,_=>rfl
 |[],_::_,h,_=>by rw[L3]at h;cases h
 |_::_,[],_,h=>by rw[L3]at h;cases h
 |x::xs,y::ys,h1,h2=>by
  rw[F1]at h1 h2;by_cases e:x=y
  ·subst e;rw[if_pos rfl]at h1 h2;rw[lex_total xs ys h1 h2]
  ·rw[if_neg e]at h1;rw[if_neg (aCl e)]at h2;have:=of_decide_eq_false h1;have:=of_decide_eq_false h2;omega
theorem lex_trans:∀a b c:List Int,HT.lexLt a b=true->HT.lexLt b c=true->HT.lexLt a c=true
 |[],[],_,h,_=>by rw[X7]at h;cases h
 |[],_::_,[],_,h=>by rw[B0]at h;cases h
 |[],_::_,_::_,_,_=>rfl
 |_::_,[],_,h,_=>by rw[B0]at h;cases h
 |_::_,_::_,[],_,h=>by rw[B0]at h;cases h
 |x::xs,y::ys,z::zs,h1,h2=>by
  rw[F1]at h1 h2⊢;by_cases e:x=y
  ·subst e;rw[if_pos rfl]at h1;by_cases e2:x=z
   ·subst e2;rw[if_pos rfl]at h2⊢;exact lex_trans xs ys zs h1 h2
   ·rw[if_neg e2]at h2⊢;exact h2
  ·rw[if_neg e]at h1;have a1:=of_decide_eq_true h1;by_cases e2:y=z
   ·subst e2;rw[if_neg e];exact h1
   ·rw[if_neg e2]at h2;have a2:=of_decide_eq_true h2;rw[if_neg (by omega)];exact decide_eq_true (by omega)
theorem aY:∀a b c:List Int,HT.lexLt a c=true->HT.lexLt a b=true\/HT.lexLt b c=true
 |[],[],_,h=>.inr h
 |[],_::_,_,_=>.inl rfl
 |_::_,_,[],h=>by rw[B0]at h;cases h
 |_::_,[],_::_,_=>.inr rfl
 |x::xs,y::ys,z::zs,h=>by
  rw[F1]at h;rw[F1,F1];by_cases e:x=y
  ·subst e;rw[if_pos rfl];by_cases e2:x=z
   ·subst e2;rw[if_pos rfl]at h⊢;exact aY xs ys zs h
   ·rw[if_neg e2]at h⊢;exact .inr h
  ·rw[if_neg e];by_cases l:x<y
   ·exact .inl (decide_eq_true l)
   ·refine .inr ?_;by_cases e2:x=z
    ·subst e2;rw[if_neg (aCl e)];exact decide_eq_true (by omega)
    ·rw[if_neg e2]at h;have:=of_decide_eq_true h;rw[if_neg (by omega)];exact decide_eq_true (by omega)
open Classical in
def kV (vs:List Value) (key:Value->List Int):KeyKind where
 α:=List Int
 blt:=HT.lexLt
 irrefl:=lex_irrefl
 trans:=lex_trans
 negTrans:=aY
 total:=lex_total
 keyOf:=λv=>if v∈vs then some (key v)else none
 dflt:=[]
open Classical in
def UI (h:v∈vs):(kV vs key).keyOf v=some (key v):=if_pos h
open Classical in
def UA (e:(kV vs key).keyOf v=some l):v∈vs/\key v=l:=by
 have e':(if v∈vs then some (key v)else none)=some l:=e;split at e'
 ·rename_i h;cases e';exact⟨h,rfl⟩
 ·cases e'
def pG (vs:List Value):(pairsOf vs).toList=vs.map λv=>(v,v):=by
 unfold pairsOf;rw[List.zip_toArray];show vs.zip vs=_;induction vs with
 |nil=>rfl
 |cons v vs ih=>rw[aBW,aAp,ih]
section
def HQ {a:Addr}{vs:List Value}{n:Nat}{f:Bool}{key:Value->List Int}{P:Fin->Shared->Prop}(ho:s.heap.get? a=some (seqObj "list" vs.toArray n))
  (ah:∀s6,YC a s s6->∀x∈vs,∀y∈vs,∀(prog:Program) (w:World) (E:D2) {Q:vK},Q (HT.lexLt (key x) (key y)) s6->wpAny (model prog w) A (keyLt' (tupK f) x y) Q E s6)
  (mv:2<=vs.length->∀s6,YC a s s6->∀{Q:SortKind->Shared->Prop},Q (tupK f) s6->wpAny (model prog w) A (keyKind' vs.toArray) Q E s6) (h64:vs.length<64)
  (h:∀gh:List Value,gh.Perm vs->gh.Pairwise (λx y=>HT.lexLt (key y) (key x)=false)->P (.done (.ret .none)) {s with heap:=sortedHeap s.heap a vs gh.toArray}):
  wpAny (model prog w) A (Builtin.«list.sort» ⟨[.ref a],[]⟩) P E s:=by
 refine vM (κ:=kV vs key) (f:=f) ho (λp zu=>?_) (λs6 hb prog w E x y k l Q hx hy q=>?_) (λh2 s6 hb {Q} q=>mv h2 s6 hb q) h64 λst' hperm hs=>?_
 ·rw[pG]at zu;obtain⟨v,hv,rfl⟩:=aAm.mp zu;exact⟨key v,UI hv⟩
 ·obtain⟨m1,e1⟩:=UA hx;obtain⟨m2,e2⟩:=UA hy;subst e1 e2;exact ah s6 hb x m1 y m2 prog w E q
 ·have bg:(arrOf st').toList.Perm (vs.map λv=>(v,v)):=by rw[<-pG];exact aEE.mp hperm
  have same:∀p∈(arrOf st').toList,p.1=p.2/\p.2∈vs:=λp zu=>by obtain⟨v,hv,rfl⟩:=aAm.mp (bg.mem_iff.mp zu);exact⟨rfl,hv⟩
  have ea:(arrOf st').map (·.2)=((arrOf st').toList.map (·.2)).toArray:=by apply Array.ext';simp
  rw[ea];refine h _ ?_ ?_
  ·have:=bg.map (·.2);rw[aBB,show((λx:Value×Value=>x.2)∘λv=>(v,v))=id from rfl,List.map_id]at this;exact this
  ·rw[aCj];intro i j hi hj jf;have dn:i<(arrOf st').size:=by simpa using hi
   have ui:j<(arrOf st').size:=by simpa using hj
   have gg:(arrOf st').size=(pairsOf vs).size:=hperm.size_eq;have q:=hs i j (aDl jf) (by rw[<-gg];exact ui);have kk:∀k (hk:k<(arrOf st').size),KK (kV vs key) (arrOf st') k=key (arrOf st')[k].2:=λk hk=>by unfold KK;rw[getElem?_pos _ k hk];obtain⟨e1,e2⟩:=same (arrOf st')[k] (by simp);show((kV vs key).keyOf (arrOf st')[k].1).getD _=_;rw[e1,UI e2];rfl
   rw[kk i dn,kk j ui]at q;rw[aDH,aDH,aFP,aFP];exact q
def sorted_keys {x:Value}{vs:List Value}{f:Bool}{key:Value->List Int}{Q:D2}{C:Shared->Prop}(hc:∀{Q':List Value->Shared->Prop},(∀s',C s'->Q' vs s')->wpAny (model prog w) A.in1 (collect x) Q' E s)
  (ah:∀s',C s'->∀s6,(∀b o,s'.heap.get? b=some o->s6.heap.get? b=some o)->∀x∈vs,∀y∈vs,∀(prog:Program) (w:World) (A':Around) (E:D2) (hA:A'.units<=A.units+5) {Q:vK},Q (HT.lexLt (key x) (key y)) s6->wpAny (model prog w) A' (keyLt' (tupK f) x y) Q E s6)
  (mv:2<=vs.length->∀s',C s'->∀s6,(∀b o,s'.heap.get? b=some o->s6.heap.get? b=some o)->∀(A:Around) {Q:SortKind->Shared->Prop},Q (tupK f) s6->wpAny (model prog w) A (keyKind' vs.toArray) Q E s6) (h64:vs.length<64)
  (h:∀(s':Shared) (gh:List Value) (h':Heap) (l:Addr),C s'->gh.Perm vs->gh.Pairwise (λx y=>HT.lexLt (key y) (key x)=false)->(∀b o,s'.heap.get? b=some o->h'.get? b=some o)->s'.heap.objs.size<=l->(∃n,h'.get? l=some (seqObj "list" gh.toArray n))->Q (.ref l) {s' with heap:=h'}):
  wpAny (model prog w) A (call (.builtin "sorted") [x]) Q E s:=by
 refine Calls.call_function_entry kind_sorted plain_sorted entry_sorted (args_sorted1 _) ?_;unfold Builtin.«sorted»;refine aAa (m:=checkCount "sorted" 1 1 _) (aAb ?_);refine aAa (hc λs' cs=>?_);refine aAa (wpAny_newList ?_);have hoL:(s'.heap.push<|seqObj "list" vs.toArray 0).get? s'.heap.objs.size=some (seqObj "list" vs.toArray 0):=aAr _ rfl;have kp:∀s6,YC s'.heap.objs.size {s' with heap:=s'.heap.push (seqObj "list" vs.toArray 0)} s6->∀b o,s'.heap.get? b=some o->s6.heap.get? b=some o:=λs6 hb b o e=>hb b o (aAk<|aAg e) (aAc _ e);refine aAa (aAP (aBp slot_list_sort ⟨_,hoL,rfl⟩ entry_list_sort (HQ (key:=key) (f:=f) hoL (λs6 hb x hx y hy prog w E {Q} q=>ah s' cs s6 (kp s6 hb) x hx y hy prog w _ E (by simp) q) (λh2 s6 hb {Q} q=>mv h2 s' cs s6 (kp s6 hb) _ q) h64 λgh hp hs=>⟨_,rfl,?_⟩)<|args_list_sort _));refine aAb ⟨_,rfl,h s' gh _ _ cs hp hs (λb o e=>?_) (aAj _) (sortedHeap_at hoL)⟩;rw[sortedHeap_old (aAk<|aAg e) (by rw[aBt];exact aBu (aAg e))];exact aAc _ e
end
end TS
namespace DL
open PySem PySem.Spec L2
open PyProof.Rows hiding St
def LP:D->Bool
 |.int _=>true
 |_=>false
def Z4:D->Bool
 |.tup xs=>!xs.isEmpty&&xs.all LP
 |_=>false
def intD:D->Int
 |.int i=>i
 |_=>0
def flat:D->List Int
 |.tup xs=>xs.map intD
 |_=>[]
theorem IY:∀{xs:List D},xs.all LP=true->xs=(xs.map intD).map D.int
 |[],_=>rfl
 |x::xs,h=>by
  simp only[aGc,aAL]at h;cases x with
  |int i=>show D.int i::xs=D.int i::(xs.map intD).map D.int;rw[<-IY h.2]
  |_=>cases h.1
def fW (h:Z4 d=true):flat d≠[]/\d=.tup ((flat d).map .int):=by
 cases d with
 |tup xs=>simp only[Z4,aAL,Bool.not_eq_true',List.isEmpty_eq_false_iff]at h;refine⟨by simpa[flat]using h.1,?_⟩;show D.tup xs=D.tup ((xs.map intD).map D.int);rw[<-IY h.2]
 |_=>cases h
def wZ (h:Z4 d=true)(h':Z4 e=true)(q:flat d=flat e):d=e:=by rw[(fW h).2,(fW h').2,q]
theorem qO:∀l:List Int,P9 (l.map D.int)=true
 |[]=>rfl
 |i::l=>by show(true&&P9 (l.map D.int))=true;rw[qO l];rfl
def R4 (h:Z4 d=true):lY d=true:=by rw[(fW h).2];exact qO _
def DW (h:Z4 d=true):C1 d<8:=by
 rw[(fW h).2];have:∀l:List Int,D8 (l.map D.int)=0:=λl=>by
  induction l with
  |nil=>rfl
  |cons i l ih=>show max 0 (D8<|l.map D.int)=0;rw[ih];rfl
 show D8 _+1<8;rw[this];lia
def pQ (d:D):List D->List D
 |[]=>[d]
 |x::xs=>if flat d=flat x then x::xs else if HT.lexLt (flat d) (flat x)=true then d::x::xs else x::pQ d xs
def Y5 (ds:List D):List D:=ds.foldr pQ []
def MR (ds:List D):Prop:=ds.Pairwise λx y=>HT.lexLt (flat x) (flat y)=true
theorem iI:∀{xs:List D},e∈pQ d xs->e=d\/e∈xs
 |[],h=>by rcases aAd.mp h with h|h;exact .inl h;cases h
 |x::xs,h=>by
  unfold pQ at h;split at h
  ·exact .inr h
  ·split at h
   ·rcases aAd.mp h with h|h
    ·exact .inl h
    ·exact .inr h
   ·rcases aAd.mp h with h|h
    ·exact .inr (by rw[h];exact .head _)
    ·rcases iI h with h|h
     ·exact .inl h
     ·exact .inr (.tail _ h)
theorem yF:∀{xs:List D},e∈xs->e∈pQ d xs
 |x::xs,h=>by
  unfold pQ;split
  ·exact h
  ·split
   ·exact .tail _ h
   ·rcases aAd.mp h with h|h
    ·rw[h];exact .head _
    ·exact .tail _ (yF h)
theorem wY (hd:Z4 d=true):∀{xs:List D},(∀x∈xs,Z4 x=true)->d∈pQ d xs
 |[],_=>.head _
 |x::xs,h=>by
  unfold pQ;split
  ·rename_i q;rw[wZ hd (h x (.head _)) q];exact .head _
  ·split
   ·exact .head _
   ·exact .tail _ (wY hd λy hy=>h y (.tail _ hy))
theorem xY:∀{xs:List D},MR xs->MR (pQ d xs)
 |[],_=>aDQ _ _
 |x::xs,h=>by
  have h1:=aAw.mp h;unfold pQ;split
  ·exact h
  ·rename_i ne;split
   ·rename_i lt;refine aAw.mpr ⟨λy hy=>?_,h⟩;rcases aAd.mp hy with rfl|hy
    ·exact lt
    ·exact TS.lex_trans _ _ _ lt (h1.1 y hy)
   ·rename_i nlt;refine aAw.mpr ⟨λy hy=>?_,xY h1.2⟩;rcases iI hy with rfl|hy
    ·cases q:HT.lexLt (flat x) (flat y)with
     |true=>rfl
     |false=>exact absurd (TS.lex_total _ _ (by simpa using nlt) q) ne
    ·exact h1.1 y hy
theorem Y9:∀ds:List D,MR (Y5 ds)
 |[]=>.nil
 |_::ds=>xY (Y9 ds)
theorem wS:∀{ds:List D},(∀d∈ds,Z4 d=true)->∀d∈Y5 ds,Z4 d=true
 |[],_,d,h=>by cases h
 |e::ds,h,d,hd=>by
  rcases iI hd with rfl|hd
  ·exact h _ (.head _)
  ·exact wS (λd hd=>h d (.tail _ hd)) d hd
theorem J6:∀{ds:List D},(∀d∈ds,Z4 d=true)->∀d,d∈Y5 ds↔d∈ds
 |[],_,d=>Iff.rfl
 |e::ds,h,d=>by
  have h':∀d∈ds,Z4 d=true:=λd hd=>h d (.tail _ hd);constructor
  ·intro q;rcases iI q with rfl|q
   ·exact .head _
   ·exact .tail _ ((J6 h' d).mp q)
  ·intro q;rcases aAd.mp q with rfl|q
   ·exact wY (h _<|.head _) (wS h')
   ·exact yF ((J6 h' d).mpr q)
theorem iK:∀{xs ys:List D},MR xs->MR ys->(∀d,d∈xs↔d∈ys)->xs=ys
 |[],[],_,_,_=>rfl
 |[],y::ys,_,_,h=>by have:=(h y).mpr (.head _);cases this
 |x::xs,[],_,_,h=>by have:=(h x).mp (.head _);cases this
 |x::xs,y::ys,h1,h2,h=>by
  have a1:=aAw.mp h1;have a2:=aAw.mp h2;have irr:∀d:D,HT.lexLt (flat d) (flat d)≠true:=λd q=>by rw[TS.lex_irrefl]at q;cases q
  have exy:x=y:=by
   rcases aAd.mp ((h x).mp (.head _))with q|q
   ·exact q
   ·rcases aAd.mp ((h y).mpr (.head _))with q2|q2
    ·exact q2.symm
    ·exact absurd (TS.lex_trans _ _ _ (a2.1 x q)<|a1.1 y q2) (irr y)
  subst exy;congr 1;refine iK a1.2 a2.2 λd=>?_;constructor
  ·intro q;rcases aAd.mp ((h d).mp (.tail _ q))with z|z
   ·subst z;exact absurd (a1.1 d q) (irr d)
   ·exact z
  ·intro q;rcases aAd.mp ((h d).mpr (.tail _ q))with z|z
   ·subst z;exact absurd (a2.1 d q) (irr d)
   ·exact z
def FO (h:MR xs):xs.Nodup:=h.imp λ{x y} q z=>by subst z;rw[TS.lex_irrefl]at q;cases q
def YG:D->R (List D)
 |.lst ds=>if ds.all Z4=true/\(Y5 ds).length<=63 then .ok (Y5 ds)else .bad
 |_=>.bad
section
mutual
theorem bZ (I:Inv X pins σ H s):∀{v:V} {d:D} {u:Value},Rep X.K H O v d->lY d=true->RelV v u->HV s.heap u d
 |_,_,_,.non,e,_=>by cases e
 |_,_,_,.bl,e,_=>by cases e
 |_,_,_,.str,e,_=>by cases e
 |_,_,_,.lst _ _ _,e,_=>by cases e
 |_,_,_,.dct _ _ _,e,_=>by cases e
 |_,_,_,.int,_,r=>by obtain⟨t,rfl⟩:=r;exact .int _ t
 |_,_,_,.tup h r,e,ru=>by cases ru;obtain⟨its,rv,p,_⟩:=I.tuple h;exact .tup p (DJ I r e rv)
theorem DJ (I:Inv X pins σ H s):∀{v:List V} {d:List D} {u:List Value},Reps X.K H O v d->P9 d=true->l8 v u->HVs s.heap u d
 |_,_,_,.nil,_,.nil=>.nil
 |_,_,_,.cons r t,e,.cons ru tu=>by have e':(lY _&&P9 _)=true:=e;rw[aAL]at e';exact .cons (bZ I r e'.1 ru) (DJ I t e'.2 tu)
end
end
variable [Tabs]
def YX (w:World)(o:Obj)(es:List Value):Prop:=o.ExactSet/\∃ea ep t,o.data=.set ea ep t/\t.fits ea.size=true/\t.plain=true/\t.led=!w.params.followText "set-order"/\ST.GF t.place/\ea.toList.map (·.2)=es
abbrev w9 (K:PySem.W.Frag)(H:Hp)(O:Addr->Prop):List Value->List D->Prop:=Paired λu d=>∃v,RelV v u/\Rep K H O v d
theorem w9.of {K:PySem.W.Frag}{H:Hp}{O:Addr->Prop}:∀{vs:List V} {us:List Value} {ds:List D},l8 vs us->Reps K H O vs ds->w9 K H O us ds
 |_,_,_,.nil,.nil=>.nil
 |_,_,_,.cons r t,.cons q u=>.cons ⟨_,r,q⟩ (w9.of t u)
theorem w9.ac9 {K:PySem.W.Frag}{H:Hp}{O:Addr->Prop}:∀{us:List Value} {ds:List D},w9 K H O us ds->∃vs,l8 vs us/\Reps K H O vs ds
 |_,_,.nil=>⟨[],.nil,.nil⟩
 |_,_,.cons ⟨v,r,q⟩ t=>let⟨vs,r',q'⟩:=w9.ac9 t;⟨v::vs,.cons r r',.cons q q'⟩
def w9.same {K:PySem.W.Frag}{H H':Hp}{O:Addr->Prop}(s:Same H H'){us:List Value}{ds:List D}(h:w9 K H O us ds):w9 K H' O us ds:=cQ (λ_ _ ⟨v,r,q⟩=>⟨v,r,q.same s⟩) h
theorem w9.get {K:PySem.W.Frag}{H:Hp}{O:Addr->Prop}:∀{us:List Value} {ds:List D} {u:Value},w9 K H O us ds->u∈us->∃d∈ds,∃v,RelV v u/\Rep K H O v d
 |_,_,_,.cons r t,h=>by
  rcases aAd.mp h with rfl|h
  ·exact⟨_,.head _,r⟩
  ·obtain⟨d,hd,q⟩:=w9.get t h;exact⟨d,.tail _ hd,q⟩
open Classical in
def N6 (K:PySem.W.Frag) (H:Hp) (h:Heap):Heap:=PySem.W.hideAll h ((aBc h.objs.size).filter λa=>decide (¬∃xs,W2 K H a xs))
def X9 (K:PySem.W.Frag)(H:Hp)(h:Heap):Keeps (N6 K H h) h:=λb o e=>PySem.W.of_hideAll _ e
open Classical in
def wL {K:PySem.W.Frag}{H:Hp}{h:Heap}{b:Addr}{o:Obj}{xs:List V}(e:h.get? b=some o)(q:W2 K H b xs):(N6 K H h).get? b=some o:=PySem.W.hideAll_get _ e λhm=>by have:=(aCR.mp hm).2;exact(of_decide_eq_true this) ⟨xs,q⟩
open Classical in
def BV {K:PySem.W.Frag}{H:Hp}{h:Heap}{b:Addr}{o:Obj}(e:(N6 K H h).get? b=some o):∃xs,W2 K H b xs:=by refine aES λn=>?_;have e':=X9 K H h b o e;have:(N6 K H h).get? b=none:=PySem.W.hideAll_none _ (aCR.mpr ⟨aBl.mpr (aAg e'),decide_eq_true n⟩);rw[this]at e;cases e
section
mutual
theorem KM (I:Inv X pins σ H s):∀{v:V} {d:D} {u:Value},Rep X.K H O v d->lY d=true->RelV v u->HV (N6 X.K H s.heap) u d
 |_,_,_,.non,e,_=>by cases e
 |_,_,_,.bl,e,_=>by cases e
 |_,_,_,.str,e,_=>by cases e
 |_,_,_,.lst _ _ _,e,_=>by cases e
 |_,_,_,.dct _ _ _,e,_=>by cases e
 |_,_,_,.int,_,r=>by obtain⟨t,rfl⟩:=r;exact .int _ t
 |_,_,_,.tup h r,e,ru=>by cases ru;obtain⟨its,rv,⟨o,g,c,n,d⟩,_⟩:=I.tuple h;exact .tup ⟨o,wL g h,c,n,d⟩ (DF I r e rv)
theorem DF (I:Inv X pins σ H s):∀{v:List V} {d:List D} {u:List Value},Reps X.K H O v d->P9 d=true->l8 v u->HVs (N6 X.K H s.heap) u d
 |_,_,_,.nil,_,.nil=>.nil
 |_,_,_,.cons r t,e,.cons ru tu=>by have e':(lY _&&P9 _)=true:=e;rw[aAL]at e';exact .cons (KM I r e'.1 ru) (DF I t e'.2 tu)
end
mutual
theorem MX (I:Inv X pins σ H s):∀{u:Value} {d:D},HV (N6 X.K H s.heap) u d->∃v,RelV v u/\Rep X.K H O v d
 |_,_,.int i t=>⟨.int i,⟨t,rfl⟩,.int⟩
 |_,_,.tup (a:=a) ⟨o,g,c,n,dd⟩ r=>by obtain⟨xs,q⟩:=BV g;obtain⟨vs,r1,r2⟩:=w9.ac9 (CQ I r);obtain⟨its,rv,⟨o',g',_,n',d'⟩,_⟩:=I.tuple q;rw[X9 _ _ _ _ _ g]at g';cases g';rw[dd]at d';injection d' with d1 _;subst d1;have:vs=xs:=r1.inj (by simpa using rv);subst this;exact⟨.ref a,rfl,.tup q r2⟩
theorem CQ (I:Inv X pins σ H s):∀{u:List Value} {d:List D},HVs (N6 X.K H s.heap) u d->w9 X.K H O u d
 |_,_,.nil=>.nil
 |_,_,.cons r t=>.cons (MX I r) (CQ I t)
end
end
section
def gz (X:Cx)(B:D->Bool)(U:List D->List D)(f:Ev->R D):TE:=λσ H Q=>∃H9 O0 O ρ,EnvOk X.K H9 O0 H O σ ρ/\match f ρ with
 |.ok (.lst ds)=>(ds.all B=true/\(U ds).length<=63)/\∀S o es bf H1,Same H H1->H1 S=none->YX X.w o es->w9 X.K H1 O es bf->bf.Nodup->(∀d,d∈bf↔d∈ds)->Q (.ref S) (upd H1 S<|.frz o (.own S))
 |.ex x=>∀H',Same H H'->XW X x H'
 |_=>False
def QR {B:D->Bool}{U:List D->List D}(hB:∀{d},B d=true->lY d=true/\C1 d<8/\∃ys,d=.tup ys)(hU:∀{ds:List D},(∀d∈ds,B d=true)->∀d,d∈U ds↔d∈ds)(ha:PB X e f)(hh:X.calm=true)(hu:X.A.units+300<cLine)(hg:Gl X "set":=by rfl)(hm:X.mg "set"=none:=by assumption)(hv:bootBuiltins "set"=some (.type "set"):=by decide+kernel)(he:starEach [e] X.env=(false,eval e X.env)::starEach [] X.env:=by rfl)(bg:(backTo pos (starEach [] X.env)).any (·.1)=false:=by rfl):
  PE X (.Call (.Name "set" p) [e] [] pos) (gz X B U f):=by
 refine rK λpins s σ H Q I H9 O0 O ρ E q=>?_;refine aAZ (Q5 I hg hm hv ?_ (by decide) (by decide));have qg:PA X [e] _:=L5 ha bR he;refine aBk (B4 (qg pos pins s σ H (λvs H1=>∃v ds,vs=[v]/\f ρ=.ok (.lst ds)/\Same H H1/\x9 X.K H1 O v (.lst ds)) I ⟨H9,O0,O,ρ,E,?_⟩) λus s1 ⟨vs,H1,I1,r1,v,ds,ev,ef,sm,rb⟩=>?_) he bg
 ·cases e1:f ρ with
  |ex z=>rw[e1]at q;exact q
  |bad=>rw[e1]at q;exact q.elim
  |ok d=>
   rw[e1]at q;cases d with
   |lst ds=>exactλv H1 s1 r1=>⟨v,ds,rfl,rfl,s1,r1⟩
   |_=>exact q.elim
 ·subst ev;rw[ef]at q;obtain⟨⟨hp,yp⟩,q⟩:=q;obtain⟨a,ws,rfl,hS,rr⟩:=rb.aa5;obtain⟨u,rfl,ru⟩:=vals1 r1;cases ru;obtain⟨its,rv,⟨oL,nL,gL,cL,dL,sL⟩,zL⟩:=I1.list hS;have pt:∀d∈ds,B d=true:=aBF.mp hp;have hlen:its.toArray.size=ds.length:=by rw[aAo,<-rv.length,rr.length]
  have st:w9 X.K H1 O its ds:=w9.of rv rr;have goes:∀(i:Nat) (v:Value),its.toArray[i]?=some v->xL (N6 X.K H1 s1.heap) v (ds.getD i .non):=λi v hi=>by
   rw[aCK]at hi;obtain⟨d,hd,w,qm,rp⟩:=F4 st hi;have oi:ds.getD i .non=d:=by rw[aAq,hd];rfl
   rw[oi];have hpt:=pt d (aAv hd);obtain⟨ho,hd8,ys,rfl⟩:=hB hpt;have hv:=KM I1 rp ho qm;cases hv with
   |tup p r=>exact⟨_,_,rfl,rfl,hd8,.tup p r⟩
  have vd:∀i<its.toArray.size,C1 (ds.getD i .non)<8/\∃ys,ds.getD i .non=.tup ys:=λi hi=>by
   have dn:i<ds.length:=by rw[<-hlen];exact hi
   have e1:ds.getD i .non=ds[i]:=by rw[aAq,aAf dn];rfl
   rw[e1];exact(hB<|pt _<|aBO dn).2
  refine xN (X9 X.K H1 s1.heap) (val:=λi=>ds.getD i .non) (U:=U ds) (I1.ok.hd hh) ⟨oL,gL,cL,nL,sL⟩ goes vd (λi hi=>?_) (by lia) hu λh' tk bf iu pg kp=>?_
  ·have dn:i<ds.length:=by rw[<-hlen];exact hi
   rw[hU pt];have e1:ds.getD i .non=ds[i]:=by rw[aAq,aAf dn];rfl
   show ds.getD i .non∈ds;rw[e1];exact aBO dn
  ·obtain⟨⟨o,es,ep,t,ho,hc,yo,hsl,hd,sok,msk,pr,led,pl⟩,nd⟩:=iu;have mem:∀d,d∈bf↔d∈ds:=λd=>by
    rw[pg];constructor
    ·rintro⟨j,hj,e1⟩;have ui:j<ds.length:=by rw[<-hlen];exact hj
     have e2:ds.getD j .non=ds[j]:=by rw[aAq,aAf ui];rfl
     rw[<-e1,e2];exact aBO ui
    ·intro hd;obtain⟨j,hj,e1⟩:=aBA hd;refine⟨j,by rw[hlen];exact hj,?_⟩;show ds.getD j .non=d;rw[aAq,aAf hj,<-e1];rfl
   have I2:=I1.laid (a:=s1.heap.objs.size) (o:=.frz o (.own s1.heap.objs.size)) (h':=h') (t':=tk) kp (aAj _) ⟨ho,o,ho⟩;refine⟨.ref s1.heap.objs.size,_,I2,rfl,q s1.heap.objs.size o (es.toList.map (·.2)) bf H1 sm (I1.hok.fresh<|aAj _) ⟨⟨hc,yo,hsl⟩,es,ep,t,hd,?_,pl,led,sok.tab.asc,rfl⟩ ?_ nd mem⟩
   ·have h1:=sok.len;have h2:=sok.room;simp only[aGe,aAL,beq_iff_eq,decide_eq_true_eq];exact⟨by simpa using h1,by show t.place.size+t.dummies.size<=t.mask;rw[sok.tab.nod];simpa using h2⟩
   ·have:∀{es:List (Int×Value)} {ds:List D},Paired (EV<|N6 X.K H1 s1.heap) es ds->w9 X.K H1 O (es.map (·.2)) ds:=λ{es ds} p=>by
     induction p with
     |nil=>exact .nil
     |cons r _ ih=>exact .cons (MX I1 r.1) ih
    exact this pr
def TF (h:Heap) (v:Value):List Int:=open Classical in if p:∃d,Z4 d=true/\HV h v d then flat p.choose else[]
def sN (hp:Z4 d=true)(hv:HV h v d):TF h v=flat d:=by unfold TF;have q:∃d,Z4 d=true/\HV h v d:=⟨d,hp,hv⟩;rw[dif_pos q,HV.inj q.choose_spec.2 hv]
def aX (hp:Z4 d=true)(hv:HV h v d):∃b items,v=.ref b/\IsTup h b items/\IntsAre items.toList (flat d):=by
 rw[(fW hp).2]at hv;cases hv with
 |tup p r=>
  refine⟨_,_,rfl,p,?_⟩;have:∀{vs:List Value} {l:List Int},HVs h vs (l.map D.int)->IntsAre vs l:=λ{vs l} r=>by
   induction l generalizing vs with
   |nil=>cases r;exact .nil
   |cons i l ih=>
    cases r with
    |cons r t=>cases r;exact .cons _ _ (ih t)
  exact this r
def XD {prog:Program}{w:World}{A:Around}{E:D2}{s:Shared}{x y:Value}{d e:D}{f:Bool}{Q:vK}(hd:Z4 d=true)(he:Z4 e=true)(hx:HV s.heap x d)(hy:HV s.heap y e)(q:Q (HT.lexLt (flat d) (flat e)) s):wpAny (model prog w) A (keyLt' (TS.tupK f) x y) Q E s:=by obtain⟨b,its,rfl,t1,i1⟩:=aX hd hx;obtain⟨b',its',rfl,t2,i2⟩:=aX he hy;exact TS.lt_ints f t1 t2 i1 i2 q
def JT {prog:Program}{w:World}{A:Around}{E:D2}{s:Shared}{vs:List Value}{Q:SortKind->Shared->Prop}(h:∀x∈vs,∃d,Z4 d=true/\HV s.heap x d)(h2:2<=vs.length)(q:Q (TS.tupK true) s):wpAny (model prog w) A (keyKind' vs.toArray) Q E s:=by
 obtain⟨gf,hgf⟩:∃gf:Value->Value,∀x∈vs,∃b items k t,x=.ref b/\IsTup s.heap b items/\items[0]?=some (gf x)/\gf x=.int k t:=by
  refine⟨λx=>open Classical in if z:∃p,∃b items k t,x=.ref b/\IsTup s.heap b items/\items[0]?=some p/\p=aGr k t then z.choose else .none,λx hx=>?_⟩;obtain⟨d,hp,hv⟩:=h x hx;obtain⟨b,items,rfl,ht,hi⟩:=aX hp hv;have hn:=(fW hp).1;have z:∃p,∃b' items k t,aDy b=.ref b'/\IsTup s.heap b' items/\items[0]?=some p/\p=aGr k t:=by
   cases e:items.toList with
   |nil=>rw[e]at hi;generalize flat d=l at hi hn;cases hi;exact absurd rfl hn
   |cons p ps=>
    rw[e]at hi;generalize flat d=l at hi;cases hi with
    |cons k t h'=>exact⟨_,b,items,k,t,rfl,ht,by rw[<-aAz,e];rfl,rfl⟩
  dsimp only;rw[dif_pos z];obtain⟨b',wc,k,t,q1,q2,q3,q4⟩:=z.choose_spec;exact⟨b',wc,k,t,q1,q2,q3,q4⟩
 refine TS.kind_tuples (T:= "int") gf (λx hx=>?_) (λz=>by rw[z]at h2;simp at h2) (by decide) q;obtain⟨b,items,k,t,q1,q2,q3,q4⟩:=hgf x hx;exact⟨b,items,q1,q2,q3,by rw[q4];exact typeIs_int s k t⟩
def uM {K:PySem.W.Frag}{H:Hp}{O:Addr->Prop}{us us':List Value}{ds:List D}{key:Value->List Int}(st:w9 K H O us ds)(hp:us'.Perm us)(hs:us'.Pairwise λx y=>HT.lexLt (key y) (key x)=false)(hk:∀u d,(∃v,RelV v u/\Rep K H O v d)->d∈ds->key u=flat d)(pt:∀d∈ds,Z4 d=true)(nd:ds.Nodup):
  ∃bf,w9 K H O us' bf/\bf.Perm ds/\MR bf:=by
 obtain⟨bf,p',st'⟩:=bV hp st;refine⟨bf,st',p',?_⟩;have nd':bf.Nodup:=p'.nodup_iff.mpr nd;have xo:∀d∈bf,Z4 d=true:=λd hd=>pt d (p'.mem_iff.mp hd);have jg:∀u d,(∃v,RelV v u/\Rep K H O v d)->d∈bf->key u=flat d:=λu d h hd=>hk u d h (p'.mem_iff.mp hd);clear hp p' st nd pt hk;induction st' with
 |nil=>exact .nil
 |@cons u d us ds r t ih=>
  have h1:=aAw.mp hs;have n1:=aAJ.mp nd';refine aAw.mpr ⟨λe he=>?_,ih h1.2 n1.2 (λd hd=>xo d (.tail _ hd)) λu d h hd=>jg u d h (.tail _ hd)⟩;have:∃u'∈us,∃v,RelV v u'/\Rep K H O v e:=by
   clear ih hs h1 n1 nd' xo jg r;induction t with
   |nil=>cases he
   |cons r t ih=>
    rcases aAd.mp he with rfl|he
    ·exact⟨_,.head _,r⟩
    ·obtain⟨u',hu,q⟩:=ih he;exact⟨u',.tail _ hu,q⟩
  obtain⟨u',hu,q⟩:=this;have l:=h1.1 u' hu;rw[jg u' e q (.tail _ he),jg u d r (.head _)]at l;cases z:HT.lexLt (flat d) (flat e)with
  |true=>rfl
  |false=>have:=wZ (xo _<|.head _) (xo _<|.tail _ he) (TS.lex_total _ _ z l);subst this;exact absurd he n1.1
def R8 {p p2 dh:Pos}{f:Ev->R D}(ha:PB X e f)(hh:X.calm=true)(hu:X.A.units+300<cLine)(hg:Gl X "set":=by rfl)(hm:X.mg "set"=none:=by assumption)(hg2:Gl X "sorted":=by rfl)(ji:X.mg "sorted"=none:=by assumption)
  (hv:bootBuiltins "set"=some (.type "set"):=by decide+kernel) (hv2:bootBuiltins "sorted"=some (.builtin "sorted"):=by decide+kernel)
  (he:starEach [e] X.env=(false,eval e X.env)::starEach [] X.env:=by rfl) (bg:(backTo dh (starEach [] X.env)).any (·.1)=false:=by rfl)
  (ku:starEach [.Call (.Name "set" p2) [e] [] dh] X.env=(false,eval (.Call (.Name "set" p2) [e] [] dh) X.env)::starEach [] X.env:=by rfl) (we:(backTo pos (starEach [] X.env)).any (·.1)=false:=by rfl):
  PF X (.Call (.Name "sorted" p) [.Call (.Name "set" p2) [e] [] dh] [] pos) (λρ=>(f ρ).bind YG):=by
 refine rK λpins s σ H Q I H9 O0 O ρ E q=>?_;dsimp only at q;refine aAZ (Q5 I hg2 ji hv2 ?_ (by decide) (by decide));have qg:PA X [.Call (.Name "set" p2) [e] [] dh] _:=L5 (QR (p:=p2) (B:=Z4) (U:=Y5) (λh=>⟨R4 h,DW h,_,(fW h).2⟩) J6 ha hh hu hg hm hv he bg) bR ku;refine aCo (B4 (qg pos pins s σ H (λvs H2=>∃S o es bf ds H1,vs=[.ref S]/\H2=upd H1 S (.frz o (.own S))/\f ρ=.ok (.lst ds)/\(ds.all Z4=true/\(Y5 ds).length<=63)/\Same H H1/\H1 S=none/\YX X.w o es/\w9 X.K H1 O es bf/\bf.Nodup/\(∀d,d∈bf↔d∈ds)) I ⟨H9,O0,O,ρ,E,?_⟩)
  λus s1 z=>?_) ku we
 ·cases e1:f ρ with
  |ex z=>rw[e1]at q;exact q
  |bad=>rw[e1]at q;exact q.elim
  |ok d=>
   rw[e1,R.aa0]at q;cases d with
   |lst ds=>
    simp only[YG]at q;by_cases hc:ds.all Z4=true/\(Y5 ds).length<=63
    ·exact⟨hc,λS o es bf H1 sm hS so st nd mem=>⟨S,o,es,bf,ds,H1,rfl,rfl,rfl,hc,sm,hS,so,st,nd,mem⟩⟩
    ·rw[if_neg hc]at q;exact q.elim
   |_=>exact q.elim
 ·obtain⟨vs,H2,I2,r1,S,o,es,bf,ds,H1,ev,eH,ef,⟨hp,yp⟩,sm,hS1,so,st,nd,mem⟩:=z;subst ev eH;obtain⟨u,rfl,ru⟩:=vals1 r1;cases ru;rw[ef,R.aa0]at q;simp only[YG]at q;rw[if_pos ⟨hp,yp⟩]at q;have pt:∀d∈ds,Z4 d=true:=aBF.mp hp;have xo:∀d∈bf,Z4 d=true:=λd hd=>pt d ((mem d).mp hd);have s12:Same H1 (upd H1 S<|.frz o (.own S)):=j3 hS1 _;have jm:=st.same s12;obtain⟨hc,ea,ep,t,hd,hf,hpln,led,asc,ees⟩:=so;have goS:=(I2.hok S _ i9).1;have hS2:SI.IsSet s1.heap S ea ep t:=⟨o,goS,hc.1,hd⟩;have hsl:(Y5 ds).Perm bf:=by
   letI:DecidableEq D:=λa b=>aDS _
   exact(aDu (FO<|Y9 ds) nd).mpr λd=>by rw[J6 pt,mem]
  have gg:ea.size=bf.length:=by have:=st.length;rw[<-ees]at this;simpa using this
  have h63':bf.length<=63:=by rw[<-hsl.length_eq];exact yp
  have wp:=SI.walkL_perm X.w S ea ep;have wpv:((SI.walkL X.w S ea ep).map (·.2)).Perm es:=by rw[<-ees];exact wp.map _
  have each:∀u∈(SI.walkL X.w S ea ep).map (·.2),∃d,d∈bf/\Z4 d=true/\HV s1.heap u d:=λu hu=>by obtain⟨d,hd,v,rv,rp⟩:=jm.get (wpv.mem_iff.mp hu);exact⟨d,hd,xo d hd,bZ I2 rp (R4<|xo d hd) rv⟩
  refine TS.sorted_keys (vs:=(SI.walkL X.w S ea ep).map (·.2)) (f:=true) (key:=TF s1.heap) (C:=λs'=>∃h' tk,s'={s1 with heap:=h',toks:=tk}/\∀b o,s1.heap.get? b=some o->h'.get? b=some o)
   (λ{Q'} hq=>SI.collect_set (by simp[I2.ok.hd hh]) hS2 hf hpln (λnb=>by rw[led];simpa using nb) asc (by rw[gg];exact aAu h63' (by decide)) λh' tk k=>hq _ ⟨h',tk,rfl,k⟩)
   (λs' ⟨h',tk,es',k⟩ s6 k6 x hx y hy prog w A E hA {Q} qq=>?_) (λh2 s' ⟨h',tk,es',k⟩ s6 k6 A {Q} qq=>?_) (by rw[aAh,wp.length_eq,aBb,gg];lia) λs' gh h' l ⟨h1,tk,es',k⟩ pm srt k2 hl ⟨n,gl⟩=>?_
  ·subst es';obtain⟨d,_,pd,hvd⟩:=each x hx;obtain⟨d',_,pd',hvd'⟩:=each y hy;rw[sN pd hvd,sN pd' hvd']at qq;exact XD pd pd' (hvd.keeps λb o e _=>k6 b o (k b o e)) (hvd'.keeps λb o e _=>k6 b o (k b o e)) qq
  ·subst es';refine JT (λx hx=>?_) h2 qq;obtain⟨d,_,pd,hvd⟩:=each x hx;exact⟨d,pd,hvd.keeps λb o e _=>k6 b o (k b o e)⟩
  ·subst es';obtain⟨qh,st3,p2,srt2⟩:=uM (key:=TF s1.heap) jm (pm.trans wpv) srt (λu d ⟨v,rv,rp⟩ hd=>sN (xo d hd) (bZ I2 rp (R4<|xo d hd) rv)) xo nd;have e2:qh=Y5 ds:=iK srt2 (Y9 ds) λd=>by rw[p2.mem_iff,mem,J6 pt]
   subst e2;obtain⟨wv,qm,rr⟩:=st3.ac9;have I2':=I2.kept (h':=h1) (t':=tk) k;have I3:=I2'.laid (a:=l) (o:=.lst wv) (h':=h') (t':=tk) k2 hl ⟨by rw[rr.length];exact aAu yp (by decide),gh,n,qm,gl⟩;exact⟨.ref l,_,I3,rfl,q wv _ l (sm.trans s12) (I2'.hok.fresh hl) rr⟩
end
end DL
namespace SZ
open PySem
abbrev Zs (h:Heap)(z TI TO:Addr)(f0 f1:Value):Prop:=h.get? z=some {cls:=.type "zip",dict:=none,data:=.fields #[f0,f1,.bool false,.ref TI,.ref TO],slots:=#[]}
def yK (f0:Value):Prop:=f0=.none\/∃a:Nat,f0=rawInt a
section
def alive {Q:Option Obj->Shared->Prop}(h:Q (s.heap.get? c) s):wpAny (model prog w) A (loadIfAlive c) Q E s:=λΓ p _=>by unfold loadIfAlive;rw[Sem.wp_loadIfAlive];simpa using h
def mE {Q:vK}(hz:Zs s.heap z TI TO f0 f1)(ho:yK f0)(q1:Q true s)(q2:∀h' f1',Zs h' z TI TO f0 f1'->Heap.SameBut z s.heap h'->Q false {s with heap:=h'}):wpAny (model prog w) A (aBQ (.ref z)) Q E s:=by
 unfold aBQ;refine aAa (aCP hz rfl (x:=f0) rfl ?_);rcases ho with rfl|⟨a,rfl⟩
 ·exact aAb q1
 ·show wpAny _ _ (loadIfAlive (aEw (a:Int))>>=_) _ _ _;refine aAa (alive ?_);by_cases hn:(s.heap.get?<|aEw (a:Int)).isNone=true
  ·rw[if_pos hn];exact aAb q1
  ·rw[if_neg hn];refine aAa (aCP hz rfl (x:=f1) rfl ?_);by_cases hb:(f1 !=aDp true)=true
   ·rw[if_pos hb];refine aAa (aCa hz (by simp) λh' e' s'=>aAb (q2 h' (.bool true) e' s'))
   ·rw[if_neg hb];exact aAb (q2 s.heap f1 hz ⟨rfl,λ_ _=>rfl⟩)
def NT {Q:D2}(D:ZipApart z TI TO i1 i2 l1 l2)(hz:Zs s.heap z TI TO f0 f1)(ho:yK f0)(uo:IsPair s.heap TI (.ref i1) (.ref i2))(sv:IsPair s.heap TO a b)(h1:s.heap.IsListIter i1 l1 k)(h2:s.heap.IsListIter i2 l2 k)(qa:s.heap.IsList l1 xs)(mr:s.heap.IsList l2 ys)(hx:xs[k]?=some x)(hy:ys[k]?=some y)(hQ:∀h' T f0' f1' a' b',Zs h' z TI TO f0' f1'->yK f0'->IsPair h' TO a' b'->h'.IsListIter i1 l1 (k+1)->h'.IsListIter i2 l2 (k+1)->s.heap.objs.size<=T->IsPair h' T x y->
   (∀c o,c≠z->c≠TO->c≠i1->c≠i2->s.heap.get? c=some o->h'.get? c=some o)->Q (.ref T) {s with heap:=h'}):
  wpAny (model prog w) A (Builtin.«zip.__next__» ⟨[.ref z],[]⟩) (λfin s'=>∃v,fin=.done (.ret v)/\Q v s') E s:=by
 show wpAny _ _ (field (.ref z) 2>>=_) _ _ _;refine aAa (aCP hz rfl (x:=.bool false) rfl ?_);show wpAny _ _ (field (.ref z) 3>>=_) _ _ _;refine aAa (aCP hz rfl (x:=.ref TI) rfl ?_);refine aAa (aBL uo rfl ?_);show wpAny _ _ (aBQ (.ref z)>>=_) _ _ _;refine aAa (mE hz ho ?_ λh₁ f1' xp gv=>?_)
 ·simp only[if_true];refine aAa (aDq ?_);refine aAa (aCP hz rfl (x:=.ref TO) rfl ?_);refine aAa (aCa hz (by simp) λh₁ xp gv=>?_);replace xp:Zs h₁ z TI TO .ellipsis f1:=xp;refine aAa ?_;simp only[aEj,aEy,aCV,aDX];refine aAa (aAa<|wpAny_onRaise ?_);show wpAny _ _ (aBN (.ref i1)>>=_) _ _ _;refine aAa (aDf (h1.extBut gv.extBut D.i1z) (qa.extBut gv.extBut D.l1z) hx λib h10 la=>aAb ?_);have hTO3:IsPair ib TO a b:=la.extBut _ _ D.TOi1 (gv.extBut _ _ D.TOz sv);refine aAa (aBL hTO3 rfl ?_);refine aAa (wpAny_updateSeq_pair hTO3 λaA hTO2 yr=>?_);replace hTO2:IsPair aA TO x b:=hTO2;refine aAa (aDW<|aAb ?_);refine aAa (aAa<|wpAny_onRaise ?_);show wpAny _ _ (aBN (.ref i2)>>=_) _ _ _;refine aAa (aDf (((h2.extBut gv.extBut D.i2z).extBut la.extBut D.i12.symm).extBut yr.extBut D.TOi2.symm)
   (((mr.extBut gv.extBut D.l2z).extBut la.extBut D.l2i1).extBut yr.extBut D.l2TO) hy λhV h20 wg=>aAb ?_)
  have yu:IsPair hV TO x b:=wg.extBut _ _ D.TOi2 hTO2;refine aAa (aBL yu rfl ?_);refine aAa (wpAny_updateSeq_pair yu λh9 yv hs7=>?_);replace yv:IsPair h9 TO x y:=yv;refine aAa (aDW<|aAb<|aAb ?_);refine aAa (aBL yv rfl ?_);refine aAa (aFT ?_);have gg:h9.objs.size=s.heap.objs.size:=by rw[hs7.1,wg.1,yr.1,la.1,gv.1]
  have hz3:Zs h9 z TI TO .ellipsis f1:=hs7.extBut _ _ D.TOz.symm (wg.extBut _ _ D.i2z.symm<|yr.extBut _ _ D.TOz.symm<|la.extBut _ _ D.i1z.symm xp);have hk3:∀c o,c≠z->c≠TO->c≠i1->c≠i2->s.heap.get? c=some o->h9.get? c=some o:=λc o c1 c2 c3 c4 e=>hs7.extBut _ _ c2 (wg.extBut _ _ c4<|yr.extBut _ _ c2<|la.extBut _ _ c3<|gv.extBut _ _ c1 e)
  have h11:h9.IsListIter i1 l1 (k+1):=((h10.extBut yr.extBut D.TOi1.symm).extBut wg.extBut D.i12).extBut hs7.extBut D.TOi1.symm;have h21:h9.IsListIter i2 l2 (k+1):=h20.extBut hs7.extBut D.TOi2.symm;have hzlt:z<h9.objs.size:=aAg hz3;show wpAny _ _ (aDD (.ref z) (.ref h9.objs.size)>>=_) _ _ _;refine aAa ?_;unfold aDD;have hz5:Zs (h9.push {cls:=.type "tuple",data:=.seq #[x,y]}) z TI TO .ellipsis f1:=aAc _ hz3;refine aAa (aCa hz5 (by simp) λaC hz1 hs8=>?_);replace hz1:Zs aC z TI TO (rawInt h9.objs.size) f1:=hz1;refine aCa hz1 (by simp) λaB hz2 hs9=>?_;replace hz2:Zs aB z TI TO (rawInt h9.objs.size) (.bool false):=hz2;have up:∀c o,c≠z->h9.get? c=some o->aB.get? c=some o:=λc o c1 e=>hs9.extBut _ _ c1 (hs8.extBut _ _ c1<|aAc _ e);have hT0:IsPair aB h9.objs.size x y:=hs9.extBut _ _ (aCZ hzlt) (hs8.extBut _ _ (aCZ hzlt)<|aAr _ rfl);refine aAb ⟨_,rfl,?_⟩;exact hQ aB h9.objs.size _ _ x y hz2 (.inr ⟨_,rfl⟩) (up _ _ D.TOz yv) (h11.at λo e=>up _ o D.i1z e) (h21.at λo e=>up _ o D.i2z e) (aDZ gg.symm) hT0 λc o c1 c2 c3 c4 e=>up c o c1 (hk3 c o c1 c2 c3 c4 e)
 ·simp only[aAn,if_false];refine aAa ?_;show wpAny _ _ (forIn (#[.ref i1,.ref i2]:Array Value) _ _) _ _ _;rw[<-aCt];simp only[aCV,aDX];refine aAa (aAa<|aAP ?_);show wpAny _ _ (aBN (.ref i1)>>=_) _ _ _;refine aAa (aDf (h1.extBut gv.extBut D.i1z) (qa.extBut gv.extBut D.l1z) hx λib h10 la=>aAb ?_);refine aAb ?_;refine aAa (aAa<|aAP ?_);show wpAny _ _ (aBN (.ref i2)>>=_) _ _ _;refine aAa (aDf ((h2.extBut gv.extBut D.i2z).extBut la.extBut D.i12.symm) ((mr.extBut gv.extBut D.l2z).extBut la.extBut D.l2i1) hy λhV h20 wg=>aAb ?_);refine aAb (aAb ?_);have gg:hV.objs.size=s.heap.objs.size:=by rw[wg.1,la.1,gv.1]
  have hz6:Zs hV z TI TO f0 f1':=wg.extBut _ _ D.i2z.symm (la.extBut _ _ D.i1z.symm xp);have yu:IsPair hV TO a b:=wg.extBut _ _ D.TOi2 (la.extBut _ _ D.TOi1<|gv.extBut _ _ D.TOz sv);have h12:hV.IsListIter i1 l1 (k+1):=h10.extBut wg.extBut D.i12;show wpAny _ _ (newTuple [x,y]>>=_) _ _ _;refine aAa (aFT ?_);refine aAb ⟨_,rfl,?_⟩;exact hQ _ hV.objs.size _ _ a b (aAc _ hz6) ho (aAc _ yu) (h12.at λo e=>aAc _ e) (h20.at λo e=>aAc _ e) (aDZ gg.symm) (aAr _ rfl)
   λc o c1 c2 c3 c4 e=>aAc _ (wg.extBut _ _ c4<|la.extBut _ _ c3<|gv.extBut _ _ c1 e)
def QG {Q:Fin->Shared->Prop}(hh:A.handled=none)(D:ZipApart z TI TO i1 i2 l1 l2)(hz:Zs s.heap z TI TO f0 f1)(ho:yK f0)(uo:IsPair s.heap TI (.ref i1) (.ref i2))(sv:IsPair s.heap TO a b)
  (h1:s.heap.IsListIter i1 l1 k) (h2:s.heap.IsListIter i2 l2 k) (qa:s.heap.IsList l1 xs) (mr:s.heap.IsList l2 ys) (hx:xs[k]?=none)
  (hE:∀h' e,(∀c o,c≠z->c≠TO->c≠i1->c≠i2->s.heap.get? c=some o->h'.get? c=some o)->(∃o,h'.get? e=some o/\o.cls=.type "StopIteration")->E (.ref e) {s with heap:=h'}):
  wpAny (model prog w) A (Builtin.«zip.__next__» ⟨[.ref z],[]⟩) Q E s:=by
 show wpAny _ _ (field (.ref z) 2>>=_) _ _ _;refine aAa (aCP hz rfl (x:=.bool false) rfl ?_);show wpAny _ _ (field (.ref z) 3>>=_) _ _ _;refine aAa (aCP hz rfl (x:=.ref TI) rfl ?_);refine aAa (aBL uo rfl ?_);show wpAny _ _ (aBQ (.ref z)>>=_) _ _ _;refine aAa (mE hz ho ?_ λh₁ f1' xp gv=>?_)
 ·simp only[if_true];refine aAa (aDq ?_);refine aAa (aCP hz rfl (x:=.ref TO) rfl ?_);refine aAa (aCa hz (by simp) λh₁ xp gv=>?_);replace xp:Zs h₁ z TI TO .ellipsis f1:=xp;refine aAa ?_;simp only[aEj,aEy,aCV,aDX];refine aAa (aAa<|wpAny_onRaise ?_);show wpAny _ _ (aBN (.ref i1)>>=_) _ _ _;refine aAa (wpAny_nextOf_list_end hh (h1.extBut gv.extBut D.i1z) (qa.extBut gv.extBut D.l1z) hx λib e la he=>?_);obtain⟨oe,hoe,hce⟩:=he;have hz4:Zs ib z TI TO .ellipsis f1:=la _ _ D.i1z.symm xp;have hez:e≠z:=λx=>by subst x;rw[hz4]at hoe;cases hoe;simp at hce
  exact aCa hz4 (by simp) λaA _ yr=>hE aA e (λc o c1 _ c3 _ x=>yr.extBut _ _ c1 (la _ _ c3<|gv.extBut _ _ c1 x)) ⟨oe,yr.extBut _ _ hez hoe,hce⟩
 ·simp only[aAn,if_false];refine aAa ?_;show wpAny _ _ (forIn (#[.ref i1,.ref i2]:Array Value) _ _) _ _ _;rw[<-aCt];simp only[aCV,aDX];refine aAa (aAa<|aAP ?_);show wpAny _ _ (aBN (.ref i1)>>=_) _ _ _;exact aAa (wpAny_nextOf_list_end hh (h1.extBut gv.extBut D.i1z) (qa.extBut gv.extBut D.l1z) hx λib e la he=>hE ib e (λc o c1 _ c3 _ x=>la _ _ c3 (gv.extBut _ _ c1 x)) he)
end
def IH (z TI TO i1 i2 l1 l2:Addr)(xs ys:Array Value)(i:Nat)(h:Heap):Prop:=
 (∃f0 f1,Zs h z TI TO f0 f1/\yK f0)/\IsPair h TI (.ref i1) (.ref i2)/\(∃a b,IsPair h TO a b)/\h.IsListIter i1 l1 i/\h.IsListIter i2 l2 i/\h.IsList l1 xs/\h.IsList l2 ys
section
variable{s:Shared}
def IH.type (h:IH z TI TO i1 i2 l1 l2 xs ys i s.heap):s.TypeIs (.ref z) "zip":=by obtain⟨⟨f0,f1,hz,_⟩,_⟩:=h;exact⟨_,hz,rfl⟩
def IH.keeps (x:IH z TI TO i1 i2 l1 l2 xs ys i h)(k:∀b o,b∈[z,TI,TO,i1,i2,l1,l2]->h.get? b=some o->h'.get? b=some o):IH z TI TO i1 i2 l1 l2 xs ys i h':=by obtain⟨⟨f0,f1,hz,ho⟩,uo,⟨a,b,sv⟩,h1,h2,qa,mr⟩:=x;exact⟨⟨f0,f1,k z _ (by simp) hz,ho⟩,k TI _ (by simp) uo,⟨a,b,k TO _ (by simp) sv⟩,h1.at λo e=>k i1 o (by simp) e,h2.at λo e=>k i2 o (by simp) e,qa.at λo e=>k l1 o (by simp) e,mr.at λo e=>k l2 o (by simp) e⟩
def MZ {Q:Option Value->Shared->Prop}(D:ZipApart z TI TO i1 i2 l1 l2)(hl:xs.size=ys.size)(st:IH z TI TO i1 i2 l1 l2 xs ys i s.heap)(hi:i<xs.size)(hQ:∀h' T x y,xs[i]?=some x->ys[i]?=some y->IH z TI TO i1 i2 l1 l2 xs ys (i+1) h'->s.heap.objs.size<=T->IsPair h' T x y->(∀c o,c∉[z,TO,i1,i2]->s.heap.get? c=some o->h'.get? c=some o)->Q (some (.ref T)) {s with heap:=h'}):
  wpAny (model prog w) A (pyNext (.ref z)) Q E s:=by
 have hT:=st.type;obtain⟨⟨f0,f1,hz,ho⟩,uo,⟨a,b,sv⟩,h1,h2,qa,mr⟩:=st;have hx:xs[i]?=some xs[i]:=aAE hi;have hy:ys[i]?=some (ys[i]'(by lia)):=aAE (by lia);unfold pyNext;refine aAa (aEp (aCw (name:=aDm "__next__") hT aDT
  (aBp aDT hT F.entry_zip_next (NT D hz ho uo sv h1 h2 qa mr hx hy λh' T f0' f1' a' b' e1 e2 e3 e4 e5 e6 e7 kp=>aAb ?_)<|F.args_zip_next_1 _)))
 refine hQ h' T _ _ hx hy ⟨⟨f0',f1',e1,e2⟩,kp _ _ D.TIz D.TITO D.TIi1 D.TIi2 uo,⟨a',b',e3⟩,e4,e5,qa.at λo e=>kp _ o D.l1z D.l1TO D.l1i1 D.l1i2 e,mr.at λo e=>kp _ o D.l2z D.l2TO D.l2i1 D.l2i2 e⟩ e6 e7 λc o hc e=>?_;simp only[aAd,aAM,or_false,not_or]at hc;exact kp c o hc.1 hc.2.1 hc.2.2.1 hc.2.2.2 e
def OE {Q:Option Value->Shared->Prop}(hh:A.handled=none)(D:ZipApart z TI TO i1 i2 l1 l2)(st:IH z TI TO i1 i2 l1 l2 xs ys xs.size s.heap)
  (hQ:∀h',(∀c o,c∉[z,TO,i1,i2]->s.heap.get? c=some o->h'.get? c=some o)->Q none {s with heap:=h'}):wpAny (model prog w) A (pyNext (.ref z)) Q E s:=by
 have hT:=st.type;obtain⟨⟨f0,f1,hz,ho⟩,uo,⟨a,b,sv⟩,h1,h2,qa,mr⟩:=st;unfold pyNext;refine aAa (aEp (aCw (name:=aDm "__next__") hT aDT
  (aBp aDT hT F.entry_zip_next (QG (by simpa using hh) D hz ho uo sv h1 h2 qa mr (aCH<|aAj _) λh' e kp he=>?_)<|F.args_zip_next_1 _)))
 obtain⟨o,ur,hc⟩:=he;refine aAa (aDG (T:= "StopIteration") (b:=true) ⟨o,ur,hc⟩ isSubtype_stop ?_);refine aAb (hQ _ λc o hc e=>?_);simp only[aAd,aAM,or_false,not_or]at hc;exact kp c o hc.1 hc.2.1 hc.2.2.1 hc.2.2.2 e
def Pairs (h0:Heap)(xs ys acc:Array Value)(i:Nat)(h:Heap)(off:List Addr):Prop:=acc.size=i/\∀(j:Nat) (v:Value),acc[j]?=some v->∃T x y,v=.ref T/\xs[j]?=some x/\ys[j]?=some y/\IsPair h T x y/\T∉off/\h0.get? T=none
def JD (hh:A.handled=none)(D:ZipApart z TI TO i1 i2 l1 l2)(hl:xs.size=ys.size)(hn:xs.size<=sizeLine)(S:Addr)(oh:S∉[z,TI,TO,i1,i2,l1,l2])(res:Value)(h0:Heap):
  ∀(k i:Nat) (s:Shared) (acc:Array Value) (c:Nat),xs.size-i=k->i<=xs.size->(∀b o,b∉[z,TO,i1,i2,S]->h0.get? b=some o->s.heap.get? b=some o)->IH z TI TO i1 i2 l1 l2 xs ys i s.heap->s.heap.get? S=some {cls:=.type "list",dict:=none,data:=.seq acc c,slots:=#[]}->Pairs h0 xs ys acc i s.heap [z,TO,i1,i2,S]->
  (∀h' jl c',(∀b o,b∉[z,TO,i1,i2,S]->s.heap.get? b=some o->h'.get? b=some o)->h'.get? S=some {cls:=.type "list",dict:=none,data:=.seq jl c',slots:=#[]}->Pairs h0 xs ys jl xs.size h' [z,TO,i1,i2,S]->R (.ok (.ret res)) {s with heap:=h'})->
  codeAny (model prog w) A (.builtin "list.extend.loop" ⟨[.ref S,.ref z,res],[]⟩) R s:=by
 have hS4:S∉[z,TO,i1,i2]:=λh=>oh (by simp only[aAd,aAM,or_false]at h⊢;rcases h with h|h|h|h<;>simp[h]);have to5:∀b,b∉[z,TO,i1,i2,S]->b∉[z,TO,i1,i2]:=λb h q=>h (by simp only[aAd,aAM,or_false]at q⊢;rcases q with q|q|q|q<;>simp[q]);intro k;induction k with
 |zero=>
  intro i s acc c hk hi h0k jh hS dc hR;have mo:i=xs.size:=by lia
  subst mo;refine aBM F.entry_extend_loop ?_;rw[aBh aDb _];show wpAny _ A.in1 (pyNext (.ref z)>>=_) _ _ s;refine aAa (OE (by simpa using hh) D jh λh' kp=>?_);refine aAb (hR h' acc c (λb o hb e=>kp b o (to5 b hb) e) (kp S _ hS4 hS) ⟨dc.1,λj v hv=>?_⟩);obtain⟨T,x,y,e1,e2,e3,e4,e5,e6⟩:=dc.2 j v hv;exact⟨T,x,y,e1,e2,e3,kp T _ (to5 T e5) e4,e5,e6⟩
 |succ k ih=>
  intro i s acc c hk hi h0k jh hS dc hR;have ah:i<xs.size:=by lia
  refine aBM F.entry_extend_loop ?_;rw[aBh aDb _];show wpAny _ A.in1 (pyNext (.ref z)>>=_) _ _ s;refine aAa (MZ D hl jh ah λh' T x y hx hy kr hT hP kp=>?_);have iu:=kp S _ hS4 hS;have Tne:∀b o,s.heap.get? b=some o->T≠b:=λb o e q=>absurd (aAt (aAg e) hT) (by rw[q];exact aBf _);obtain⟨⟨f0,f1,hz,_⟩,_,⟨a,b,sv⟩,⟨o1,g1,_⟩,⟨o2,g2,_⟩,_⟩:=id jh;have hTo:T∉[z,TO,i1,i2,S]:=by simp only[aAd,aAM,or_false,not_or];exact⟨Tne _ _ hz,Tne _ _ sv,Tne _ _ g1,Tne _ _ g2,Tne _ _ hS⟩
  show wpAny _ A.in1 (updateSeq S (·.push (.ref T))>>=_) _ _ _;refine aAa ?_;have um:∀b o,b≠S->h'.get? b=some o->(h'.update S (aBK (·.push (.ref T)))).get? b=some o:=λb o hb e=>(aAB _ _<|aCl hb).trans e;have neS:∀b,b∈[z,TI,TO,i1,i2,l1,l2]->b≠S:=λb hb q=>oh (q▸hb);refine aCc iu rfl (aAb ⟨aBZ aDb _,ih (i+1) _ (acc.push<|.ref T) _ (by lia) ah (λb o hb e=>um b o (λq=>hb (by simp[q])) (kp b o (to5 b hb)<|h0k b o hb e)) (kr.keeps λb o hb e=>um b o (neS b hb) e) (aBm _ iu rfl) ⟨by rw[Array.size_push,dc.1],λj v hv=>?_⟩ λh'' jl c' kp' vv hacc'=>?_⟩)
   (by rw[dc.1];lia) (by show(acc.push<|.ref T).size<=sizeLine+1;rw[Array.size_push,dc.1];lia)
  ·rw[Array.getElem?_push]at hv;split at hv
   ·rename_i q;cases hv;rw[dc.1]at q;subst q;refine⟨T,x,y,rfl,hx,hy,um T _ (Tne _ _ hS) hP,hTo,?_⟩;cases q0:h0.get? T with
    |none=>rfl
    |some o=>exact absurd rfl (Tne T o<|h0k T o hTo q0)
   ·obtain⟨T',x',y',e1,e2,e3,e4,e5,e6⟩:=dc.2 j v hv;have n5:T'≠S:=λq=>e5 (by simp[q]);exact⟨T',x',y',e1,e2,e3,um T' _ n5 (kp T' _ (to5 T' e5) e4),e5,e6⟩
  ·refine hR h'' jl c' (λb o hb e=>kp' b o hb (um b o (λq=>hb (by simp[q]))<|kp b o (to5 b hb) e)) vv hacc'
end
section
def cN {Q:D2}(St:Heap->Prop)(hT:∀s1:Shared,St s1.heap->s1.TypeIs (.ref I) T)(fr:∀h h',St h->(∀b o,b≠s.heap.objs.size->h.get? b=some o->h'.get? b=some o)->St h')(hIS:I≠s.heap.objs.size)
  (n1:(aCr T==aCr "list")=false) (n2:(aCr T==aCr "tuple")=false) (n3:∀{M:Model} {A:Around} {E:D2} {s:Shared} {Q:Fin->Shared->Prop} {a b:Sem Fin},(room=true->wpAny M A a Q E s)->(room=false->wpAny M A b Q E s)->wpAny M A (if(room||["set", "frozenset", "dict", "dict_keys", "dict_values", "dict_items"].any (aCr T==aCr ·))=true then a else b) Q E s)
  (self:∀(s1:Shared) (Q:D2) (E:D2),St s1.heap->Q (.ref I) s1->wpAny (model prog w) A.in1.in1 (pyIter (.ref I)) Q E s1)
  (hint:∀(s1:Shared) (Q:vK) (E:D2),St s1.heap->Q room s1->wpAny (model prog w) A.in1.in1 (aCD (.ref I)) Q E s1) (jh:St s.heap)
  (loop:∀(h1:Heap) (c:Nat) (R:Result->Shared->Prop),(∀b o,s.heap.get? b=some o->h1.get? b=some o)->St h1->h1.get? s.heap.objs.size=some {cls:=.type "list",dict:=none,data:=.seq #[] c,slots:=#[]}->(∀s',Q (.ref s.heap.objs.size) s'->R (.ok (.ret .none)) s')->
   codeAny (model prog w) A.in1 (.builtin "list.extend.loop" ⟨[.ref s.heap.objs.size,.ref I,.none],[]⟩) R {s with heap:=h1}):
  wpAny (model prog w) A (call (.type "list") [.ref I]) Q E s:=by
 refine callType_codes (Q₁:=λobj aa=>obj=.ref s.heap.objs.size/\aa={s with heap:=s.heap.push {cls:=.type "list",data:=.seq #[]}}) F.called_list (F.typeCall_list_1 _) F.entry_list_init
  (code_list_new _ ⟨rfl,rfl⟩) λobj aa h₁=>?_
 obtain⟨rfl,rfl⟩:=h₁;have hS:(s.heap.push {cls:=.type "list",data:=.seq #[]}).get? s.heap.objs.size=some {cls:=.type "list",data:=.seq #[]}:=aAr _ rfl;have ks:∀b o,s.heap.get? b=some o->b≠s.heap.objs.size:=λb o e=>aAk (aAg e);refine⟨⟨_,hS,rfl⟩,F.args_list_init_2 _ _,?_⟩;show wpAny _ A.in1.in1 (do let old<-aCI (.ref s.heap.objs.size);Builtin.List.listUpdate (.ref s.heap.objs.size) (λ_=>#[]);letGo old.toList.reverse;aCb (.ref s.heap.objs.size) (.ref I) .none) _ _ _;refine aAa ?_;unfold aCI;refine aAa (aBL hS rfl<|aAb ?_);show wpAny _ A.in1.in1 (updateSeq s.heap.objs.size (λ_=>#[])>>=λ_=>letGo (#[]:Array Value).toList.reverse>>=λ_=>aCb (.ref s.heap.objs.size) (.ref I) .none) _ _ _;refine aAa (aCc hS rfl ?_);have hS3:=aBm (aBK<|λ_=>(#[]:Array Value)) hS rfl;refine aAa (aDW ?_);generalize hh2:(s.heap.push {cls:=.type "list",data:=.seq #[]}).update s.heap.objs.size (aBK<|λ_=>(#[]:Array Value))=h2 at*
 have k2:∀b o,s.heap.get? b=some o->h2.get? b=some o:=λb o e=>by rw[<-hh2];exact(aAB _ _<|aCl<|ks b o e).trans (aAc _ e)
 have jm:St h2:=fr s.heap h2 jh λb o _ e=>k2 b o e;have hSI:aCY (.ref s.heap.objs.size) (.ref I)=false:=by simp[aCY,aCl hIS]
 have hT2:Shared.TypeIs {s with heap:=h2} (.ref I) T:=hT {s with heap:=h2} jm;unfold aCb;refine aAa (aDK hT2 ?_);simp only[hSI,n1,n2,Bool.or_false,aAn,if_false];refine aAa (self _ _ _ jm ?_);refine aAa (aAP<|hint _ _ _ jm ?_);refine n3 (λ_=>?_) (λ_=>?_)
 ·show wpAny _ A.in1.in1 (rule "list.extend.makes-room">>=λ_=>aFA (.ref s.heap.objs.size)>>=λ_=>again (.builtin "list.extend.loop" ⟨[.ref s.heap.objs.size,.ref I,.none],[]⟩)) _ _ _;refine aAa (aDq ?_);refine aAa ?_;show wpAny _ A.in1.in1 (updateSeq s.heap.objs.size (·.push .none)>>=λ_=>updateSeq s.heap.objs.size (·.pop)) _ _ _;refine aAa (aCc hS3 rfl ?_);have hS5:=aBm (aBK (·.push Value.none)) hS3 rfl;refine aCc (hz:=by seq_fits) hS5 rfl ?_;have hS6:=aBm (aBK (·.pop)) hS5 rfl;have um:∀b o,b≠s.heap.objs.size->h2.get? b=some o->((h2.update s.heap.objs.size (aBK (·.push Value.none))).update s.heap.objs.size (aBK (·.pop))).get? b=some o:=
   λb o hb e=>(aAB _ _<|aCl hb).trans ((aAB _ _<|aCl hb).trans e)
  exact aAb ⟨aBZ aDb _,loop _ _ _ (λb o e=>um b o (ks b o e) (k2 b o e)) (fr h2 _ jm um) hS6 λs' q=>⟨rfl,q⟩⟩
 ·exact aAb ⟨aBZ aDb _,loop _ _ _ k2 jm hS3 λs' q=>⟨rfl,q⟩⟩
def FT:typeLookup (.type "zip") "__len__"=pure none:=by rw[aDo,aCq];kernel_rfl
def CB:typeLookup (.type "zip") "__length_hint__"=pure none:=by rw[aDo,aCq];kernel_rfl
def KO {Q:D2}(hh:A.handled=none)(D:ZipApart z TI TO i1 i2 l1 l2)(hl:xs.size=ys.size)(hn:xs.size<=sizeLine)(st:IH z TI TO i1 i2 l1 l2 xs ys 0 s.heap)(hQ:∀h' acc c,(∀b o,b∉[z,TO,i1,i2]->s.heap.get? b=some o->h'.get? b=some o)->h'.get? s.heap.objs.size=some {cls:=.type "list",dict:=none,data:=.seq acc c,slots:=#[]}->Pairs s.heap xs ys acc xs.size h' [z,TO,i1,i2,s.heap.objs.size]->Q (.ref s.heap.objs.size) {s with heap:=h'}):
  wpAny (model prog w) A (call (.type "list") [.ref z]) Q E s:=by
 have lt:∀b∈[z,TI,TO,i1,i2,l1,l2],b≠s.heap.objs.size:=λb hb=>by
  obtain⟨⟨f0,f1,hz,_⟩,uo,⟨a,b',sv⟩,⟨o1,g1,_⟩,⟨o2,g2,_⟩,⟨o3,g3,_⟩,⟨o4,g4,_⟩⟩:=st;simp only[aAd,aAM,or_false]at hb;rcases hb with rfl|rfl|rfl|rfl|rfl|rfl|rfl
  ·exact aAk (aAg hz)
  ·exact aAk (aAg uo)
  ·exact aAk (aAg sv)
  ·exact aAk (aAg g1)
  ·exact aAk (aAg g2)
  ·exact aAk (aAg g3)
  ·exact aAk (aAg g4)
 refine cN (T:= "zip") (room:=true) (IH z TI TO i1 i2 l1 l2 xs ys 0) (λs1 h=>h.type) (λh h' x k=>x.keeps λb o hb e=>k b o (lt b hb) e) (lt z (by simp)) (by decide) (by decide) (λh1 h2=>by rw[if_pos (by decide)];exact h1 rfl)
  (λs1 Q E x q=>?_) (λs1 Q E x q=>?_) st λh1 c R k1 UH hS hR=>?_
 ·obtain⟨⟨f0,f1,hz,_⟩,_⟩:=id x;refine aFf x.type F.slot_zip_iter (aBp F.slot_zip_iter x.type F.entry_zip_iter ?_ (F.args_zip_iter_1 _));show wpAny _ _ (ret<|.ref z) _ _ s1;exact aAb ⟨_,rfl, "zip",_,x.type,aDT.lookup,q⟩
 ·unfold aCD;refine aAa (aBq x.type FT ?_);show wpAny _ _ (specialOf (aDy z) (aDm "__length_hint__")>>=_) _ _ _;exact aAa (aBq x.type CB<|aAb q)
 ·refine JD (by simpa using hh) D hl hn s.heap.objs.size (λh=>lt _ h rfl) .none s.heap xs.size 0 _ #[] c (by lia) (aAV _) (λb o _ e=>k1 b o e) UH hS ⟨rfl,λj v h=>by simp at h⟩ λh' jl c' kp iu hP=>hR _ (hQ h' jl c' (λb o hb e=>kp b o ?_ (k1 b o e)) iu hP);have:=aAk (aAg e);simp only[aAd,aAM,or_false,not_or]at hb⊢;exact⟨hb.1,hb.2.1,hb.2.2.1,hb.2.2.2,this⟩
def GX:typeLookup (.type "list_reverseiterator") "__len__"=pure none:=by rw[aDo,aCq];kernel_rfl
def OP:typeLookup (.type "list_reverseiterator") "__length_hint__"=pure (some (.builtin "list_reverseiterator.__length_hint__")):=by rw[aDo,aCq];kernel_rfl
def OA {Q:D2}(hh:A.handled=none)(ai:l≠r)(hn:xs.size<=sizeLine)(hr:s.heap.IsRevIter r l ((xs.size:Int)-1))(hl:s.heap.IsList l xs)(hQ:∀h' tk c,(∀b o,b≠r->s.heap.get? b=some o->h'.get? b=some o)->h'.get? s.heap.objs.size=some {cls:=.type "list",dict:=none,data:=.seq xs.reverse c,slots:=#[]}->Q (.ref s.heap.objs.size) {s with heap:=h',toks:=tk}):
  wpAny (model prog w) A (call (.type "list") [.ref r]) Q E s:=by
 have lr:r≠s.heap.objs.size:=by obtain⟨o,g,_⟩:=hr;exact aAk (aAg g)
 have ll:l≠s.heap.objs.size:=by obtain⟨o,g,_⟩:=hl;exact aAk (aAg g)
 refine cN (T:= "list_reverseiterator") (room:=false) (λh=>h.IsRevIter r l ((xs.size:Int)-1)/\h.IsList l xs) (λs1 h=>h.1.typeIs) (λh h' x k=>⟨x.1.at λo e=>k r o lr e,x.2.at λo e=>k l o ll e⟩) lr (by decide) (by decide)
  (λh1 h2=>by rw[if_neg (by decide)];exact h2 rfl) (λs1 Q E x q=>wpAny_pyIter_revIter x.1 q) (λs1 Q E x q=>?_) ⟨hr,hl⟩ λh1 c R k1 UH hS hR=>?_
 ·have hT:=x.1.typeIs;unfold aCD;refine aAa (aBq hT GX ?_);show wpAny _ _ (specialOf (aDy r) (aDm "__length_hint__")>>=_) _ _ _;refine aAa (aBq hT OP ?_)
  (generalize hid:("list_reverseiterator.__length_hint__":String)=id0;(fail_if_success (clear hid id0));wp_delta;rw[show splitId id0=some ("list_reverseiterator", "__length_hint__")from by subst hid;decide+kernel];subst hid)
  refine aAa (aDG (b:=true) hT (by rw[aER];kernel_rfl) ?_);exact aAb q
 ·have W:=(Walks.listRev (prog:=prog) (w:=w) (A:=A.in1.in1) (by simp[hh]) r l ai xs).toS;refine codeAny_extend_loopS W hn s.heap.objs.size (by simp only[aAd,aAM,or_false,not_or];exact⟨aCl lr,aCl ll⟩) .none xs.size 0 _ #[] c (by lia) (aAV _) ⟨aAV _,by simpa using UH.1,UH.2⟩ hS (ItemsOf.nil _) λs' jl c' hm iu dc=>hR _ ?_;have ea:jl=xs.reverse:=by
   apply Array.ext';apply aFe;intro i;rw[aAz,aAz];by_cases hi:i<xs.size
   ·have yn:i<jl.size:=by rw[dc.1];exact hi
    have:=dc.2 i _ (aAE yn);rw[aAE yn,Array.getElem?_reverse hi,this]
   ·rw[aCH (by rw[dc.1];lia),aCH (by simp;lia)]
  subst ea;have g0:s'.gens=s.gens:=hm.gens;have d0:s'.drawn=s.drawn:=hm.drawn;have o0:s'.os=s.os:=hm.os;obtain⟨h',g',d',xm,os'⟩:=s';subst g0 d0 o0;refine hQ h' xm c' (λb o hb e=>?_) iu;exact hm.heap b o (by simp only[aAd,aAM,or_false,not_or];exact⟨aAk (aAg e),hb⟩) (k1 b o e)
end
end SZ
namespace DL
open PySem PySem.Spec L2
open PyProof.Rows hiding St
variable [Tabs]
def _root_.L2.ObjOk.live (x:ObjOk P w H h a o):h.get? a≠none:=by
 intro z;have key:∀{u:Obj},h.get? a=some u->False:=λq=>by rw[z]at q;cases q
 cases o with
 |lst xs=>obtain⟨_,_,_,_,e⟩:=x;exact key e
 |tup xs=>obtain⟨_,_,_,o,e,_⟩:=x;exact key e
 |dK kvs=>obtain⟨_,_,_,_,o,_,_,e,_⟩:=x;exact key e
 |dT kvs=>obtain⟨_,_,_,_,o,_,_,e,_⟩:=x;exact key e
 |set S n=>obtain⟨o,_,_,_,e,_⟩:=x;exact key e
 |ins C dx fs=>obtain⟨_,_,_,e,_⟩:=x;exact key e
 |own y=>obtain⟨_,e⟩:=x;exact key e
 |xd fs=>obtain⟨_,⟨_,_,_,e,_⟩,_⟩:=x;exact key e
 |rng lo hi=>obtain⟨_,_,_,e⟩:=x;exact key e
 |frz ob u=>obtain⟨e,_⟩:=x;exact key e
 |tbl tb=>obtain⟨_,e,_⟩:=x;exact key e
 |met f y=>exact key (show h.get? a=some _ from x)
 |ext φ=>obtain⟨_,⟨_,e⟩,_⟩:=x;exact key e
section
end
end DL
namespace DL
open PySem PySem.Spec L2
open PyProof.Rows hiding St
variable [Tabs]
section
def YO:D->R (List D)
 |.lst xs=>.ok xs.reverse
 |_=>.bad
def AS (ha:PB X e f)(hh:X.calm=true)(hg:Gl X "reversed":=by rfl)(hm:X.mg "reversed"=none:=by assumption)(hg2:Gl X "list":=by rfl)(ji:X.mg "list"=none:=by assumption)(hv:bootBuiltins "reversed"=some (.type "reversed"):=by decide+kernel)(hv2:bootBuiltins "list"=some (.type "list"):=by decide+kernel)(he:starEach [e] X.env=(false,eval e X.env)::starEach [] X.env:=by rfl)(bg:(backTo dh (starEach [] X.env)).any (·.1)=false:=by rfl)(ku:starEach [.Call (.Name "reversed" p2) [e] [] dh] X.env=(false,eval (.Call (.Name "reversed" p2) [e] [] dh) X.env)::starEach [] X.env:=by rfl)(we:(backTo pos (starEach [] X.env)).any (·.1)=false:=by rfl)(hnl:backTo pos (starEach [] X.env)=[]:=by rfl):
  PF X (.Call (.Name "list" p) [.Call (.Name "reversed" p2) [e] [] dh] [] pos) (λρ=>(f ρ).bind YO):=by
 refine rK λpins s σ H Q I H9 O0 O ρ E q=>?_;dsimp only at q;refine aAZ (Q5 I hg2 ji hv2 ?_ (by decide) (by decide));refine aBk ?_ ku we;rw[ku];show wpAny _ _ (spliced ((false,eval (.Call (.Name "reversed" p2) [e] [] dh) X.env)::backTo pos (starEach [] X.env))) _ _ s;refine aEH (aAZ (Q5 I hg hm hv ?_ (by decide) (by decide)));have qg:PA X [e] _:=L5 ha bR he;refine aBk (B4 (qg dh pins s σ H (λvs H1=>∃v ds,vs=[v]/\f ρ=.ok (.lst ds)/\Same H H1/\x9 X.K H1 O v (.lst ds)) I ⟨H9,O0,O,ρ,E,?_⟩) λus s1 ⟨vs,H1,I1,r1,v,ds,ev,ef,sm,rb⟩=>?_) he bg
 ·cases e1:f ρ with
  |ex z=>rw[e1]at q;exact q
  |bad=>rw[e1]at q;exact q.elim
  |ok d=>
   rw[e1,R.aa0]at q;cases d with
   |lst ds=>exactλv H1 s1 r1=>⟨v,ds,rfl,rfl,s1,r1⟩
   |_=>exact aAi q
 ·subst ev;rw[ef,R.aa0]at q;obtain⟨a,ws,rfl,hS,rr⟩:=rb.aa5;obtain⟨u,rfl,ru⟩:=vals1 r1;cases ru;obtain⟨its,rv,⟨oL,nL,gL,cL,dL,sL⟩,zL⟩:=I1.list hS;have hl:s1.heap.IsList a its.toArray:=⟨oL,gL,cL,nL,sL⟩;refine call_reversed_list hl ?_;rw[hnl];refine aEW ?_;have ge:a≠s1.heap.objs.size:=aAk (aAg gL);have I2:=I1.kept (h':=s1.heap.push (revObj a<|(its.toArray.size:Int)-1)) (t':=s1.toks) λb u e=>aAc _ e;refine SZ.OA (s:={s1 with heap:=s1.heap.push (revObj a<|(its.toArray.size:Int)-1)}) (I1.ok.hd hh) ge (by rw[aAo,<-rv.length];exact zL) ⟨_,aAr _ rfl,rfl,rfl⟩ (hl.push _) λh' tk c kp gl=>?_;have kk:∀b u,s1.heap.get? b=some u->h'.get? b=some u:=λb u e=>kp b u (aAk<|aAg e) (aAc _ e);have hle:s1.heap.objs.size<=(s1.heap.push<|revObj a<|(its.toArray.size:Int)-1).objs.size:=by rw[aBt];lia
  have vrev:l8 ws.reverse its.reverse:=by
   have:∀{vs:List V} {us:List Value},l8 vs us->l8 vs.reverse us.reverse:=λ{vs us} r=>by
    induction r with
    |nil=>exact .nil
    |cons r t ih=>rw[aAQ,aAQ];exact ih.append (.cons r .nil)
   exact this rv
  have I3:=I1.laid (a:=(s1.heap.push<|revObj a<|(its.toArray.size:Int)-1).objs.size) (o:=.lst ws.reverse) (h':=h') (t':=tk) kk hle ⟨by rw[aBR];exact zL,its.reverse,c,vrev,by rw[gl];simp⟩;exact⟨.ref _,_,I3,rfl,q ws.reverse H1 _ sm (I1.hok.fresh hle) rr.reverse⟩
def _root_.L2.Inv.ae0 (I:Inv X pins σ H s)(k:∀b u,s.heap.get? b=some u->h'.get? b=some u)(sm:Same H Hn)(mi:∀b u,H b=none->Hn b=some u->s.heap.get? b=none/\ObjOk X.prog X.w Hn h' b u):
  Inv X pins σ Hn {s with heap:=h',toks:=t'}:=by
 refine I.un ⟨λb o e _ _ _=>k b o e,λb o e _ _ _=>⟨o.slots,k b o e⟩,λb o e n _=>?_,λb o e _=>⟨o,k b o e⟩,λb xs e=>sm _ _ e,λb o u e=>sm _ _ e,λb tb e=>sm _ _ e⟩ λb u e=>?_
 ·cases q:Hn b with
  |none=>rfl
  |some u=>rw[(mi b u n q).1]at e;cases e
 ·cases q:H b with
  |none=>exact(mi b u q e).2
  |some u'=>have:=sm b u' q;rw[e]at this;cases this;exact(I.hok b u q).ac0 (λc v _ z=>k c v z) (λc z=>sm _ _ z) λc u _ z=>sm _ _ z
def J5 (xs ys:List D):List D:=aBT (λa b=>D.tup [a,b]) xs ys
def RI:List D->R (List D)
 |[.lst xs,.lst ys]=>if xs.length=ys.length then .ok (J5 xs ys)else .bad
 |_=>.bad
def GM {K:PySem.W.Frag}{H1:Hp}{O:Addr->Prop}{h0 h':Heap}{l:Addr}(hf:∀b,h0.get? b=none->H1 b=none):∀{xs ys:List D} {ux uy acc:List Value},w9 K H1 O ux xs->w9 K H1 O uy ys->xs.length=ys.length->
  (∀(j:Nat) (v:Value),acc[j]?=some v->∃T x y,v=.ref T/\ux[j]?=some x/\uy[j]?=some y/\IsPair h' T x y/\T≠l/\h0.get? T=none)->acc.length=xs.length->
  ∃(vs:List V) (Hn:Hp),l8 vs acc/\Same H1 Hn/\(∀b u,H1 b=none->Hn b=some u->h0.get? b=none/\b≠l/\∃ws its,u=.tup ws/\ws.length<=2/\l8 ws its/\IsTup h' b its.toArray)/\Reps K Hn O vs (J5 xs ys):=by
 intro xs ys ux uy acc;induction acc generalizing xs ys ux uy with
 |nil=>
  intro sx sy hl _ hz;cases xs with
  |nil=>cases ys with
   |nil=>exact⟨[],H1,.nil,Same.refl _,λb u n q=>(by rw[n]at q;cases q),.nil⟩
   |cons _ _=>cases hl
  |cons _ _=>cases hz
 |cons v acc ih=>
  intro sx sy hl hP hz;cases sx with
  |nil=>cases hz
  |@cons u d ux xs rx sx=>
   cases sy with
   |nil=>cases hl
   |@cons u' d' uy ys ry sy=>
    obtain⟨T,x,y,rfl,ex,ey,hp,nl,h0T⟩:=hP 0 v rfl;cases ex;cases ey;obtain⟨vs,Hn,r1,sm,mi,rr⟩:=ih sx sy (by simpa using hl) (λj v hj=>by obtain⟨T,x,y,e1,e2,e3,e4⟩:=hP (j+1) v (by simpa using hj);exact⟨T,x,y,e1,by simpa using e2,by simpa using e3,e4⟩) (by simpa using hz)
    obtain⟨vx,rvx,repx⟩:=rx;obtain⟨vy,rvy,repy⟩:=ry;have v2:l8 [vx,vy] [u,u']:=.cons rvx (.cons rvy .nil);cases q:Hn T with
    |none=>
     have s2:Same Hn (upd Hn T<|.tup [vx,vy]):=j3 q _;refine⟨.ref T::vs,upd Hn T (.tup [vx,vy]),.cons rfl r1,sm.trans s2,λb w n qb=>?_,.cons (.tup (W2.of i9) (.cons ((repx.same sm).same s2) (.cons ((repy.same sm).same s2) .nil))) (rr.same s2)⟩;by_cases hb:b=T
     ·subst hb;rw[i9]at qb;cases qb;exact⟨h0T,nl,_,_,rfl,by simp,v2,⟨_,hp,rfl,0,rfl⟩⟩
     ·rw[j5 hb]at qb;exact mi b w n qb
    |some w=>
     obtain⟨_,_,ws,its,rfl,_,vw,⟨o,g,_,n,dd⟩⟩:=mi T w (hf T h0T) q;have zu:h'.get? T=some {cls:=.type "tuple",data:=.seq #[u,u']}:=hp;rw[zu]at g;cases g;have e2:its=[u,u']:=by have:=congrArg (λd=>match d with|Data.seq a _=>a.toList|_=>[]) dd;simpa using this.symm
     subst e2;have:ws=[vx,vy]:=vw.inj v2;subst this;exact⟨.ref T::vs,Hn,.cons rfl r1,sm,mi,.cons (.tup (W2.of q) (.cons (repx.same sm) (.cons (repy.same sm) .nil))) rr⟩
def zU {e1 e2:Expr}{p p2 dh:Pos}{f1 f2:Ev->R D}(vo:PB X e1 f1)(ha2:PB X e2 f2)(hh:X.calm=true)(hg:Gl X "zip":=by rfl)(hm:X.mg "zip"=none:=by assumption)(hg2:Gl X "list":=by rfl)(ji:X.mg "list"=none:=by assumption)
  (hv:bootBuiltins "zip"=some (.type "zip"):=by decide+kernel) (hv2:bootBuiltins "list"=some (.type "list"):=by decide+kernel)
  (he1:starEach [e2] X.env=(false,eval e2 X.env)::starEach [] X.env:=by rfl) (he:starEach [e1,e2] X.env=(false,eval e1 X.env)::starEach [e2] X.env:=by rfl) (bg:(backTo dh (starEach [e2] X.env)).any (·.1)=false:=by rfl)
  (ku:starEach [.Call (.Name "zip" p2) [e1,e2] [] dh] X.env=(false,eval (.Call (.Name "zip" p2) [e1,e2] [] dh) X.env)::starEach [] X.env:=by rfl) (we:(backTo pos (starEach [] X.env)).any (·.1)=false:=by rfl) (hnl:backTo pos (starEach [] X.env)=[]:=by rfl):
  PF X (.Call (.Name "list" p) [.Call (.Name "zip" p2) [e1,e2] [] dh] [] pos) (λρ=>(o7 f1 (o7 f2 T4) ρ).bind RI):=by
 refine rK λpins s σ H Q I H9 O0 O ρ E q=>?_;dsimp only at q;refine aAZ (Q5 I hg2 ji hv2 ?_ (by decide) (by decide));refine aBk ?_ ku we;rw[ku];show wpAny _ _ (spliced ((false,eval (.Call (.Name "zip" p2) [e1,e2] [] dh) X.env)::backTo pos (starEach [] X.env))) _ _ s;refine aEH (aAZ (Q5 I hg hm hv ?_ (by decide) (by decide)));have qg:XM X [e1,e2] (o7 f1<|o7 f2 T4):=F5 vo (F5 ha2 S6 he1) he;refine aBk (B4 (qg dh pins s σ H (λvs H1=>∃v1 v2 xs ys,vs=[v1,v2]/\o7 f1 (o7 f2 T4) ρ=.ok [.lst xs,.lst ys]/\xs.length=ys.length/\Same H H1/\x9 X.K H1 O v1 (.lst xs)/\x9 X.K H1 O v2 (.lst ys)) I ⟨H9,O0,O,ρ,E,?_⟩) λus s1 ⟨vs,H1,I1,r1,v1,v2,xs,ys,ev,ef,hxy,sm,rb1,rb2⟩=>?_) he bg
 ·cases e1:o7 f1 (o7 f2 T4) ρ with
  |ex z=>rw[e1]at q;exact q
  |bad=>rw[e1]at q;exact q.elim
  |ok ds=>
   rw[e1,R.aa0]at q;match ds,q with
   |[.lst xs,.lst ys],q=>
    simp only[RI]at q;by_cases hc:xs.length=ys.length
    ·intro vs H1 s1 r1;cases r1 with
     |cons ra r1=>cases r1 with
      |cons rb r1=>cases r1 with
       |nil=>exact⟨_,_,xs,ys,rfl,rfl,hc,s1,ra,rb⟩
    ·rw[if_neg hc]at q;exact aAi q
 ·subst ev;rw[ef,R.aa0]at q;simp only[RI]at q;rw[if_pos hxy]at q;obtain⟨a,wx,rfl,hSx,rx⟩:=rb1.aa5;obtain⟨b,wy,rfl,hSy,ry⟩:=rb2.aa5;obtain⟨u1,u2,rfl,ru1,ru2⟩:=vals2 r1;cases ru1;cases ru2;obtain⟨itx,rvx,⟨oX,nX,gX,cX,dX,sX⟩,zX⟩:=I1.list hSx;obtain⟨ity,rvy,⟨oY,nY,gY,cY,dY,sY⟩,zY⟩:=I1.list hSy;have hlx:s1.heap.IsList a itx.toArray:=⟨oX,gX,cX,nX,sX⟩;have hly:s1.heap.IsList b ity.toArray:=⟨oY,gY,cY,nY,sY⟩;refine call_zip_2 hlx hly λh1 z1 z2 z3 z4 z5 zsz k1=>?_;rw[hnl];refine aEW ?_;have lx:itx.length=xs.length:=by rw[<-rvx.length,rx.length]
  have ly:ity.length=ys.length:=by rw[<-rvy.length,ry.length]
  have I2:=I1.kept (h':=h1) (t':=s1.toks) k1;have D:=zipApart_new (n:=s1.heap.objs.size) (aAg gX) (aAg gY);refine SZ.KO (s:={s1 with heap:=h1}) (I1.ok.hd hh) D (by rw[aAo,aAo,lx,ly,hxy]) (by rw[aAo,<-rvx.length];exact zX) ⟨⟨_,_,z1,.inl rfl⟩,z2,⟨_,_,z3⟩,z4,z5,hlx.at λo e=>k1 _ o e,hly.at λo e=>k1 _ o e⟩ λh' acc c kp gl hP=>?_;have k12:∀b u,s1.heap.get? b=some u->h'.get? b=some u:=λb u e=>kp b u (by have hb:=aAg e;simp only[aAd,aAM,or_false,not_or];exact⟨aAk (aAt hb<|aEh _ _),aAk (aAt hb<|aEh _ _),aAk hb,aAk (aAt hb<|aEh _ _)⟩) (k1 b u e)
  have sx:w9 X.K H1 O itx xs:=w9.of rvx rx;have sy:w9 X.K H1 O ity ys:=w9.of rvy ry;obtain⟨vs,Hn,rva,smn,mi,rr⟩:=GM (h0:=h1) (h':=h') (l:=h1.objs.size) (λb hb=>by
   cases q:H1 b with
   |none=>rfl
   |some u=>exact absurd hb ((I2.hok b u q).live)) (acc:=acc.toList) sx sy hxy (λj v hj=>by
   obtain⟨T,x,y,e1,e2,e3,e4,e5,e6⟩:=hP.2 j v (by rw[<-aAz];exact hj);exact⟨T,x,y,e1,by simpa using e2,by simpa using e3,e4,λz=>e5 (by simp[z]),e6⟩) (by rw[aBb,hP.1,aAo,lx])
  have hls:Hn h1.objs.size=none:=by
   cases q:Hn h1.objs.size with
   |none=>rfl
   |some u=>have:=(mi _ u (I2.hok.fresh<|aAj _) q).2.1;exact absurd rfl this
  have hlen:vs.length<=sizeLine:=by rw[rva.length,aBb,hP.1,aAo,<-rvx.length];exact zX
  have s3:Same Hn (upd Hn h1.objs.size<|.lst vs):=j3 hls _;have I3:=I1.ae0 (Hn:=upd Hn h1.objs.size (.lst vs)) (h':=h') (t':=s1.toks) k12 (smn.trans s3) (λb u n qb=>by
   by_cases hb:b=h1.objs.size
   ·subst hb;rw[i9]at qb;cases qb;refine⟨aEk (by rw[zsz];lia),hlen,acc.toList,c,rva,by rw[gl]⟩
   ·rw[j5 hb]at qb;obtain⟨h0b,_,ws,its,rfl,l2,vw,tt⟩:=mi b u n qb;refine⟨?_,aAu l2 (by decide),its,vw,tt⟩;cases z:s1.heap.get? b with
    |none=>rfl
    |some o=>rw[k1 b o z]at h0b;cases h0b)
  exact⟨.ref _,_,I3,rfl,q vs Hn _ (sm.trans smn) hls rr⟩
end
mutual
def jP:D->Nat
 |.tup xs=>I9 xs+1
 |_=>1
def I9:List D->Nat
 |[]=>0
 |x::xs=>jP x+I9 xs
end
theorem bT:∀xs ys:List D,I9 (xs++ys)=I9 xs+I9 ys
 |[],ys=>by simp[I9]
 |x::xs,ys=>by rw[aAF,I9,I9,bT xs ys];lia
section
variable{prog:Program} {w:World}
def sj (prog:Program)(w:World)(h:Heap)(v:Value)(d:D):Prop:=∀(A:Around) (E:D2) (s:Shared) (Q:Int->Shared->Prop),s.heap=h->A.units+8*C1 d<cLine->Q (m4 d) {s with toks:=s.toks+jP d}->wpAny (model prog w) A (pyHash v) Q E s
mutual
theorem NC:∀{v:Value} {d:D},HV h v d->sj prog w h v d
 |_,_,.int i t=>λA E s Q hs hu q=>(intKind prog w).pyHash (k:=i) (intKind_is _ _ _ _) q
 |_,_,.tup (a:=a) (items:=items) (ds:=ds) p r=>λA E s Q hs hu q=>by
  have fs:=CU r;subst hs;obtain⟨o,ho,hc,n,hd⟩:=p;have hT:s.TypeIs (.ref a) "tuple":=⟨o,ho,hc⟩;have hu0:A.units<cLine:=by lia
  rw[C1]at hu;unfold pyHash;first|unfold pyHashByItsType|skip
  first|refine aAa (wpAny_cRoomFor_or (.inr hu0) ?_)|skip
  refine aAa (aBq hT PySem.F.slot_tuple_hash.lookup ?_);show wpAny _ _ (if(some (aGd "tuple.__hash__")==some Value.none)=true then _ else _) Q E s;rw[if_neg (by rw[aFs];exact aAH)];refine aAa (aBq hT PySem.F.slot_tuple_hash.lookup ?_);show wpAny _ _ (callSpecialIfBoundUnlessNone? (.ref a) "__hash__" _>>=_) Q E s;refine aAa (aDk hT PySem.F.slot_tuple_hash<|aBp PySem.F.slot_tuple_hash hT PySem.F.entry_tuple_hash ?_ (PySem.F.args_tuple_hash_1 _));show wpAny _ _ (aDt (.ref a)>>=_) _ _ s;refine aAa (wpAny_tupleItemsOf ho hd ?_);refine aAa ?_;rw[<-aCt];refine aCu _
   (λrest (b:Array Int) s'=>∃done left,ds=done++left/\Paired (sj prog w s.heap) rest left/\b.toList=done.map m4/\s'={s with toks:=s.toks+I9 done})
   _ ?_ ?_ _ _ ⟨[],ds,rfl,fs,rfl,rfl⟩
  ·rintro x rest b s' ⟨done,left,e1,hl,hb,rfl⟩;cases hl with
   |@cons _ d _ left' h1 ip=>
    refine aAa (h1 _ _ _ _ rfl ?_ ?_)
    ·have:C1 d<=D8 ds:=by rw[e1];exact uK (j:=done.length) (by simp)
     rw[u3];lia
    have e3:s.toks+I9 done+jP d=s.toks+I9 (done++[d]):=by rw[bT];simp[I9];lia
    first
     |exact aAb ⟨done++[d],left',by simp[e1],ip,by simp[hb],by rw[<-e3]⟩
     |exact aAa (aAb (aAb ⟨done++[d],left',by simp[e1],ip,by simp[hb],by rw[<-e3]⟩))
  ·rintro b s' ⟨done,left,e1,hl,hb,rfl⟩;cases hl;rw[aBV]at e1;subst e1;show wpAny _ _ (retInt<|aAO b.toList) _ _ _;rw[hb];refine wpAny_ret_mkInt ?_;show wpAny _ _ (if(decide (-(2:Int)^63<=aAO (ds.map m4))&&decide (aAO (ds.map m4)<2^63))=true then _ else _) Q E _;have q':=q;rw[m4,fR,jP]at q';unfold reduceHash at q';by_cases hr:(decide (-(2:Int)^63<=aAO (ds.map m4))&&decide (aAO (ds.map m4)<2^63))=true
   ·rw[if_pos hr];rw[if_pos hr]at q';exact aAb q'
   ·rw[if_neg hr];rw[if_neg hr]at q';exact aAa (aDq<|aAb q')
theorem CU:∀{v:List Value} {d:List D},HVs h v d->Paired (sj prog w h) v d
 |_,_,.nil=>.nil
 |_,_,.cons r t=>.cons (NC r) (CU t)
end
end
theorem mC:∀{n:Nat} {d:D},Q4 n d=true->lY d=true/\C1 d<=n
 |n,.int i,_=>⟨rfl,by simp[C1]⟩
 |0,.tup xs,h=>by simp[Q4]at h
 |n+1,.tup xs,h=>by
  have h':xs.all (Q4 n)=true:=by simpa[Q4]using h
  have key:∀ys:List D,ys.all (Q4 n)=true->P9 ys=true/\D8 ys<=n:=λys=>by
   induction ys with
   |nil=>intro _;exact⟨rfl,aAV _⟩
   |cons y ys ih=>intro hy;simp only[aGc,aAL]at hy;obtain⟨a1,a2⟩:=mC hy.1;obtain⟨b1,b2⟩:=ih hy.2;exact⟨by show(lY y&&P9 ys)=true;rw[a1,b1];rfl,by show max (C1 y) (D8 ys)<=n;lia⟩
  obtain⟨c1,c2⟩:=key xs h';exact⟨c1,by show D8 xs+1<=n+1;lia⟩
 |n,.non,h=>by cases n<;>simp[Q4]at h
 |n,.dct,h=>by cases n<;>simp[Q4]at h
 |n,.bl b,h=>by cases n<;>simp[Q4]at h
 |n,.str x,h=>by cases n<;>simp[Q4]at h
 |n,.lst xs,h=>by cases n<;>simp[Q4]at h
mutual
theorem HV.ab7 (k:∀b o,h.get? b=some o->(∃its n,o.data=.seq its n)->h'.get? b=some o):∀{v:Value} {d:D},HV h v d->HV h' v d
 |_,_,.int i t=>.int i t
 |_,_,.tup p r=>.tup (by obtain⟨o,e,c,n,d⟩:=p;exact⟨o,k _ _ e ⟨_,n,d⟩,c,n,d⟩) (HVs.ab7 k r)
theorem HVs.ab7 (k:∀b o,h.get? b=some o->(∃its n,o.data=.seq its n)->h'.get? b=some o):∀{v:List Value} {d:List D},HVs h v d->HVs h' v d
 |_,_,.nil=>.nil
 |_,_,.cons r t=>.cons (HV.ab7 k r) (HVs.ab7 k t)
end
instance decD:DecidableEq D:=λa b=>aDS _
def rS (prog:Program) (w:World):HeapKind prog w D where
 is:=λh d a=>HV h (.ref a) d/\C1 d<8
 hash:=m4
 draws:=jP
 room:=λA=>A.units+128<cLine
 inj:=λx y=>HV.inj x.1 y.1
 keeps:=λ{h h' k a d o es ep} x ho hd hs=>⟨x.1.ab7 λb ob e ⟨its,n,q⟩=>(hs.2 b (λz=>by subst z;rw[ho]at e;cases e;rw[hd]at q;cases q)).trans e,x.2⟩
 pyHash:=λ{A E s k a Q} hu hk q=>NC hk.1 A E s Q rfl (by have:=hk.2;lia) q
 eqBool:=λ{A E s x y a b Q} hu hx hy q=>by
  have h1:=CI (A:=A) hx.1 hy.1 (by have:=hx.2;lia);refine h1 prog w E Q ?_;have e:u4 x y=decide (x=y):=by
   by_cases h:x=y
   ·subst h;rw[L9,decide_eq_true rfl]
   ·rw[decide_eq_false h];cases z:u4 x y with
    |false=>rfl
    |true=>exact absurd (cU hx.1.ok hy.1.ok z) h
  rw[e];exact q
 quiet:=λ{A E s k a Q} hk q=>iL 8 hk.1 hk.2 _ A E s Q rfl q
open Classical in
def eI (kvs:List (D×D)) (k v:D):List (D×D):=if k∈kvs.map (·.1)then kvs.map (λp=>if p.1=k then(p.1,v)else p)else kvs++[(k,v)]
def EZ (kvs:List (D×D))(k v:D)(h:(kvs.map (·.1)).Nodup):((eI kvs k v).map (·.1)).Nodup:=by
 unfold eI;split
 ·rw[aBB];have:((λx=>x.1)∘λp:D×D=>if p.1=k then(p.1,v)else p)=λp=>p.1:=by funext p;simp only[Function.comp];split<;>rfl
  rw[this];exact h
 ·rename_i n;rw[aBr,aCX];refine⟨h,by simp,λa ha b hb=>?_⟩;simp at hb;subst hb;exactλe=>n (e▸ha)
section
theorem EL (I:Inv X pins σ H s):∀{es:List DictEntry} {kvs:List (D×D)},nG X.K H O es kvs->∃xs:List (D×Addr×Value),es=xs.map (entryOfKey (rS X.prog X.w))/\xs.map (·.1)=kvs.map (·.1)/\(∀x∈xs,(rS X.prog X.w).is s.heap x.1 x.2.1)/\
  Paired (λ(x:D×Addr×Value) (p:D×D)=>x.1=p.1/\Rep X.K H O (.ref x.2.1) p.1/\(∃v,RelV v x.2.2/\Rep X.K H O v p.2)/\Q4 7 p.1=true) xs kvs
 |_,_,.nil=>⟨[],rfl,rfl,λx h=>(by cases h),.nil⟩
 |e::_,p::_,.cons ⟨⟨a,e1,r1⟩,r2,e3,k⟩ t=>by
  obtain⟨xs,h1,h2,h3,h4⟩:=EL I t;obtain⟨ok,dp⟩:=mC k;refine⟨(p.1,a,e.val)::xs,?_,by rw[aAp,aAp,h2],λx hx=>?_,.cons ⟨rfl,r1,r2,k⟩ h4⟩
  ·rw[aAp,<-h1];congr 1;obtain⟨hsh,ky,vl⟩:=e;simp only at e1 e3;subst e1 e3;rfl
  ·rcases aAd.mp hx with rfl|hx
   ·exact⟨bZ I r1 ok rfl,by show C1 p.1<8;lia⟩
   ·exact h3 x hx
theorem CG {P:Program}{w:World}{K:PySem.W.Frag}{H:Hp}{O:Addr->Prop}:∀{xs:List (D×Addr×Value)} {kvs:List (D×D)},Paired (λ(x:D×Addr×Value) (p:D×D)=>x.1=p.1/\Rep K H O (.ref x.2.1) p.1/\(∃v,RelV v x.2.2/\Rep K H O v p.2)/\Q4 7 p.1=true) xs kvs->nG K H O (xs.map (entryOfKey (rS P w))) kvs
 |_,_,.nil=>.nil
 |_,_,.cons ⟨e,r1,r2,k⟩ t=>.cons ⟨⟨_,rfl,r1⟩,r2,by rw[<-e];rfl,k⟩ (CG t)
def aV {xs:List (D×Addr×Value)}{k:D}:(atKey xs k).isSome=true↔k∈xs.map (·.1):=by unfold atKey;rw[Option.isSome_map,List.find?_isSome];simp only[decide_eq_true_eq,aAm]
def DY (I:Inv X pins σ H s)(h:H a=some (.ext λh=>h.get? a=some o))(d:NY a o es)(r:nG X.K H O es kvs)(nd:(kvs.map (·.1)).Nodup):
  ∃xs,s.heap.DictOfH (rS X.prog X.w) a xs/\xs.map (·.1)=kvs.map (·.1)/\Paired (λ(x:D×Addr×Value) (p:D×D)=>x.1=p.1/\Rep X.K H O (.ref x.2.1) p.1/\(∃v,RelV v x.2.2/\Rep X.K H O v p.2)/\Q4 7 p.1=true) xs kvs:=by
 obtain⟨xs,h1,h2,h3,h4⟩:=EL I r;obtain⟨_,ex,ea,ep,hd,he⟩:=d;have g:s.heap.get? a=some o:=(I.hok a _ h).1;exact⟨xs,⟨o,ea,ep,g,ex,hd,by rw[he,h1],h3,by rw[h2];exact nd⟩,h2,h4⟩
def HS {K:PySem.W.Frag}{xs:List (D×Addr×Value)}{kvs:List (D×D)}{k d:D}{b:Addr}{u:Value}{v:V}(hp:Paired (λ(x:D×Addr×Value) (p:D×D)=>x.1=p.1/\Rep K H O (.ref x.2.1) p.1/\(∃v,RelV v x.2.2/\Rep K H O v p.2)/\Q4 7 p.1=true) xs kvs)(hk:xs.map (·.1)=kvs.map (·.1))
  (rk:Rep K H O (.ref b) k) (kk:Q4 7 k=true) (ru:RelV v u) (rv:Rep K H O v d):
  Paired (λ(x:D×Addr×Value) (p:D×D)=>x.1=p.1/\Rep K H O (.ref x.2.1) p.1/\(∃v,RelV v x.2.2/\Rep K H O v p.2)/\Q4 7 p.1=true) (storedH xs k b u) (eI kvs k d):=by
 unfold storedH eI;by_cases h:k∈kvs.map (·.1)
 ·rw[if_pos h,if_pos (aV.mpr (by rw[hk];exact h))];clear hk h;induction hp with
  |nil=>exact .nil
  |@cons x p xs kvs r t ih=>
   rw[aAp,aAp];refine .cons ?_ ih;unfold putAt;by_cases e:p.1=k
   ·rw[if_pos (r.1.trans e),if_pos e];exact⟨r.1,r.2.1,⟨v,ru,rv⟩,r.2.2.2⟩
   ·rw[if_neg (λz=>e (r.1.symm.trans z)),if_neg e];exact r
 ·rw[if_neg h,if_neg (λz=>h (by rw[<-hk];exact aV.mp z))];clear hk h;induction hp with
  |nil=>exact .cons ⟨rfl,rk,⟨v,ru,rv⟩,kk⟩ .nil
  |cons r t ih=>exact .cons r ih
end
section
variable{K:Type} [DecidableEq K] {knd:HeapKind prog w K}
def pL {Q:vK}(hu:knd.room A.in1)(hkey:knd.is s.heap k a)(hd:(d==sysModules)=false)(hm:s.heap.DictOfH knd d xs)
  (h:Q (atKey xs k).isSome {s with toks:=s.toks+knd.draws k}):wpAny (model prog w) A (contains (.ref d) (.ref a)) Q E s:=by
 unfold contains;try with_reducible refine aAP ?_
 refine aAa (aBq hm.typeIs aEP.lookup ?_);show wpAny _ _ (if(some (aGd "dict.__contains__")==some Value.none)=true then _ else _) _ E s;rw[if_neg (by rw[aFs];exact aAH)];refine aAa (wpAny_callSpecialUnlessNone?_slot (name:=aDm "__contains__") hm.typeIs aEP
  (aBp aEP hm.typeIs entry_dict_contains ?_ (args_dict_contains _ _)))
 show wpAny _ _ (dictGet d (.ref a)>>=_) _ _ s;refine aAa (wpAny_dictGet_heap hu hkey hm ?_);cases hf:atKey xs k with
 |some p=>rw[hf]at h;show wpAny _ _ (ret<|.bool true) _ _ _;exact aAb ⟨_,rfl,aBj h⟩
 |none=>rw[hf]at h;show wpAny _ _ (Builtin.Dict.pendingKey? d (.ref a)>>=_) _ _ _;exact aAa (wpAny_pendingKey_other hd<|aAb ⟨_,rfl,aBj h⟩)
end
def GU:D->Bool
 |.tup _=>true
 |_=>false
open Classical in
def nH (i:Nat) (ρ:Ev) (k:D):R Bool:=match ρ[i]? with
 |some (.d kvs)=>if Q4 7 k=true/\GU k=true then .ok (!decide (k∈kvs.map (·.1)))else .bad
 |_=>.bad
section
def nR {K:PySem.W.Frag}{H:Hp}{O:Addr->Prop}{v:V}{k:D}(r:Rep K H O v k)(h:GU k=true):∃a,v=.ref a:=by
 cases r with
 |tup h r=>exact⟨_,rfl⟩
 |_=>cases h
def FB (i:Nat){x:Str}{p:Pos}{f:Ev->R D}(ha:PD X e f)(hu:X.A.units+130<cLine)(hN:X.N[i]?=some x:=by rfl)(hv:vJ X.env.scope x:=by first|exact aCh rfl|exact aBx (aCh rfl)|exact aBx (aBx rfl))
  (hd:(x==("__debug__":Str))=false:=by decide) (cg:(x==("__classdict__":Str))=false:=by decide) (hm:behindInMarks .NotIn (.Name x p)=false:=by first|rfl|with_unfolding_all rfl):
  vE X (.Compare e [.NotIn] [.Name x p] pos) (λρ=>(f ρ).bind (nH i ρ)):=by
 refine rK λpins s σ H Q I H9 O0 O ρ E q=>?_;dsimp only at q;refine wpAny_isTrue_Compare1 (FA (ta:=tD X f) (tb:=ZZ i) ha (J2 hN hv hd cg) (R:=λy x H2=>∃a b o es kvs k,x=.ref a/\y=.ref b/\H2 a=some (.ext λh=>h.get? a=some o)/\NY a o es/\nG X.K H2 O es kvs/\(kvs.map (·.1)).Nodup/\Rep X.K H2 O (.ref b) k/\Q4 7 k=true/\Q (!(open Classical in decide (k∈kvs.map (·.1)))) H2) I ⟨H9,O0,O,ρ,E,?_⟩ λu w s2 y x H2 I2 ry rx h=>?_) hm
 ·cases e1:f ρ with
  |ex z=>rw[e1]at q;exact q
  |bad=>rw[e1]at q;exact q.elim
  |ok k=>
   rw[e1,R.aa0]at q;intro v H1 sm r;unfold nH at q;cases e2:ρ[i]? with
   |none=>rw[e2]at q;exact aAi q
   |some sl=>
    rw[e2]at q;cases sl with
    |d kvs=>
     dsimp only at q;by_cases hk:Q4 7 k=true/\GU k=true
     ·rw[if_pos hk]at q;obtain⟨a,o,es,h1,_,_,h4,h5,h6,h7⟩:=(E.grow sm).slot i _ e2;obtain⟨b,rfl⟩:=nR r hk.2;exact⟨_,h1,a,b,o,es,kvs,k,rfl,rfl,h4,h5,h6,h7,r,hk.1,q H1 sm⟩
     ·rw[if_neg hk]at q;exact aAi q
    |_=>exact aAi q
 ·obtain⟨a,b,o,es,kvs,k,rfl,rfl,h4,h5,h6,h7,rk,hk,qq⟩:=h;cases ry;cases rx;obtain⟨xs,hD,qo,hp⟩:=DY I2 h4 h5 h6 h7;obtain⟨ok,dp⟩:=mC hk;show wpAny _ _ (contains (.ref a) (.ref b)>>=λc=>pure (aDp (!c))) _ _ s2;refine aAa (pL (knd:=rS X.prog X.w) (by show X.A.in1.units+128<cLine;rw[u3];lia) ⟨bZ I2 rk ok rfl,by lia⟩ h5.1 hD (aAb ?_));refine aBj ⟨H2,I2.tok _,?_⟩;have e3:(atKey xs k).isSome=(open Classical in decide (k∈kvs.map (·.1))):=by
   by_cases mo:k∈kvs.map (·.1)
   ·rw[decide_eq_true mo];exact aV.mpr (by rw[qo];exact mo)
   ·rw[decide_eq_false mo];cases z:(atKey xs k).isSome with
    |false=>rfl
    |true=>exact absurd (by rw[<-qo];exact aV.mp z) mo
  rw[e3];exact qq
def KZ (i:Nat)(hN:X.N.Nodup)(hi:X.N[i]?=some x:=by rfl)(hx:Loc X.env.scope x:=by first|exact aCh rfl|exact aBx rfl)(hs:swapsWith (.Dict [] [] dpos) (some (.Name x pos')) pos.line X.env=pure false:=by rfl)(hf:X.fn x=true\/X.env.scope.names.lookup x=some .local:=by first|exact .inl rfl|exact .inr rfl|assumption):kR X (.Assign [.Name x pos'] (.Dict [] [] dpos) pos) (λρ=>.ok (.nx (ρ.set i (.d [])))):=by
 intro H9 O0 pins s σ H D I ⟨O,ρ,E,fk,q⟩;refine aDV (wpAny_Dict_empty ?_) hs;have gn:(s.heap.push {cls:=.type "dict",data:=.dict #[]}).get? s.heap.objs.size=some {cls:=.type "dict",data:=.dict #[]}:=aAr _ rfl;have hn:=I.hok.fresh (aAj s.heap.objs.size);have I1:=I.laid (a:=s.heap.objs.size) (o:=.ext λh=>h.get? s.heap.objs.size=some {cls:=.type "dict",data:=.dict #[]}) (h':=s.heap.push {cls:=.type "dict",data:=.dict #[]}) (t':=s.toks) (λ_ _ q=>aAc _ q) (aAj _)
  ⟨gn,⟨_,gn⟩,λh1 h2 e k=>k _ e⟩
 have hk:=wN I1 (i9 (H:=H) (a:=s.heap.objs.size));have big:sysModules<s.heap.objs.size:=aGm (by decide) (I.mod.glob.keeps I.bk).lt;refine L0 I1 hN hi hx (show RelV (.ref s.heap.objs.size) _ from rfl) (λs3 I3=>⟨_,_,I3,?_⟩) hf;have E2:=E.ad9 (u:=.ext λh=>h.get? s.heap.objs.size=some {cls:=.type "dict",data:=.dict #[]}) (sl:=.d []) i hn hk trivial λh0=>⟨s.heap.objs.size,_,[],rfl,.inr rfl,h0,i9,⟨by simp[aCZ big],⟨rfl,rfl,rfl⟩,#[],0,rfl,rfl⟩,.nil,aDd⟩;exact q _ _ _ E2 (gW I1 _ E2.trk) λb o hb n=>⟨by rw[j5 (j9 hb hn)];exact hb,λz=>z.elim n (j9 hb hn)⟩
def nj (X:Cx):QE:=λx y v H Q=>∃O a b o es kvs k d,x=.ref a/\y=.ref b/\H a=some (.ext λh=>h.get? a=some o)/\NY a o es/\nG X.K H O es kvs/\(kvs.map (·.1)).Nodup/\es.length<=sizeLine/\Rep X.K H O (.ref b) k/\Q4 7 k=true/\Rep X.K H O v d/\
 ∀o' es',NY a o' es'->nG X.K H O es' (eI kvs k d)->Q (upd H a<|.ext λh=>h.get? a=some o')
def RM (hu:X.A.units+130<cLine):gq X (nj X):=by
 intro pins s σ H x y v ov iv u Q I rx ry ru z;obtain⟨O,a,b,o,es,kvs,k,d,ex,ey,h4,h5,h6,h7,hz,rk,hk,rv,q⟩:=z;subst ex ey;cases rx;cases ry;obtain⟨xs,hD,qo,hp⟩:=DY I h4 h5 h6 h7;obtain⟨ok,dp⟩:=mC hk;have hlen:xs.length<=sizeLine:=by
  obtain⟨_,ex,ea,ep,hd,he⟩:=h5;obtain⟨o2,lb,ep2,g2,_,hd2,ku,_⟩:=hD;have g:s.heap.get? a=some o:=(I.hok a _ h4).1;rw[g]at g2;cases g2;rw[hd]at hd2;cases hd2;have:=congrArg List.length (he.symm.trans ku);rw[aAh]at this
  lia
 refine wpAny_setItem_heap (knd:=rS X.prog X.w) (by show X.A.in1.units+128<cLine;rw[u3];lia) ⟨bZ I rk ok rfl,by lia⟩ hD (λh' hD' hs=>?_) hlen;obtain⟨o',es',ep',g',ex',oi,xl,is',nd'⟩:=hD';have I1:=I.write (x:=a) (e:=a) (o:=.ext λh=>h.get? a=some o') (h':=h') (t':=s.toks+jP k) (by rw[h4];trivial) (.inl rfl) (λb u hb e=>(hs.2 b hb).trans e) ⟨o',g'⟩ ⟨g',⟨o',g'⟩,λh1 h2 e k=>k _ e⟩;exact⟨_,I1,q o' _ ⟨h5.1,ex',es',ep',oi,rfl⟩ (by rw[xl];exact CG (HS hp qo rk hk ru rv))⟩
def wD (i:Nat) (ρ:Ev) (k d:D):R Out:=match ρ[i]? with
 |some (.d kvs)=>if Q4 7 k=true/\GU k=true/\kvs.length<=sizeLine then .ok (.nx (ρ.set i<|.d (eI kvs k d)))else .bad
 |_=>.bad
def zO (i:Nat){x:Str}{k:Expr}{f g:Ev->R D}{p ps:Pos}(he:PD X e f)(hk:PD X k g)(hu:X.A.units+130<cLine)(hN:X.N[i]?=some x:=by rfl)(hv:vJ X.env.scope x:=by first|exact aCh rfl|exact aBx (aCh rfl)|exact aBx (aBx rfl))(hd:(x==("__debug__":Str))=false:=by decide)
  (cg:(x==("__classdict__":Str))=false:=by decide) (ha:∀v,assign (.Subscript (.Name x p) k ps) X.env v=(do
   let ov<-holding [v] (eval (.Name x p) X.env)
   let iv<-holding [v,ov] (eval k X.env)
   standAt ps
   holding [v,ov,iv] (setItem ov iv v)
   release [v,ov,iv] []):=by intro _;rfl)
  (hs:swapsWithSole [.Subscript (.Name x p) k ps] e pos.line X.env=pure false:=by rfl) (hw:swappedStores [.Subscript (.Name x p) k ps] e X.env=pure none:=by rfl) (h1:(assignEach [.Subscript (.Name x p) k ps] X.env).map (·.2)=[assign (.Subscript (.Name x p) k ps) X.env]:=by rfl):
  kR X (.Assign [.Subscript (.Name x p) k ps] e pos) (λρ=>(f ρ).bind λd=>(g ρ).bind λkd=>wD i ρ kd d):=λH9 O0=>
 vS (KW he (VN (J2 hN hv hd cg) hk (RM hu) ha) hs hw h1) λD σ H O ρ E fk q=>⟨H9,O0,O,ρ,E,by
  cases e1:f ρ with
  |ex z=>rw[e1]at q;exactλH' s=>q H' (E.same.trans s)
  |bad=>rw[e1]at q;exact q
  |ok d=>
   rw[e1,R.aa0]at q;intro v H1 s1 r1;have E1:=E.grow s1;cases e2:g ρ with
   |ex z=>rw[e2]at q;exact(q H<|E.same.trans<|Same.refl _).elim
   |bad=>rw[e2]at q;exact aAi q
   |ok kd=>
    rw[e2,R.aa0]at q;unfold wD at q;cases e3:ρ[i]? with
    |none=>rw[e3]at q;exact aAi q
    |some sl=>
     rw[e3]at q;cases sl with
     |d kvs=>
      dsimp only at q;by_cases hk:Q4 7 kd=true/\GU kd=true/\kvs.length<=sizeLine
      ·rw[if_pos hk]at q;obtain⟨a,o,es,h1,h2,h3,h4,h5,h6,h7⟩:=E1.slot i _ e3;refine⟨_,h1,H9,O0,O,ρ,E1,?_⟩;rw[e2];intro kv H2 s2 r2;have E2:=E1.grow s2;obtain⟨b,rfl⟩:=nR r2 hk.2.1;have h6':nG X.K H2 O es kvs:=h6.mono λr=>r.same s2;refine⟨O,a,b,o,es,kvs,kd,d,rfl,rfl,s2 _ _ h4,h5,h6',h7,by rw[h6.length];exact hk.2.2,r2,hk.1,r1.same s2,λo' es' d' r'=>?_⟩;obtain⟨E3,k3⟩:=E2.ae1 (sl':=.d (eI kvs kd d)) (u':=.ext λh=>h.get? a=some o') e3 trivial h1 (s2 _ _ h4) trivial trivial λhO h0 m=>⟨a,o',es',rfl,h2,h3,i9,d',r'.mono λr=>r.upd (s2 _ _ h4) trivial h2,EZ kvs kd d h7⟩;exact q _ _ _ E3 fk (((Kp.of s1).trans (Kp.of s2)).trans k3)
      ·rw[if_neg hk]at q;exact aAi q
     |_=>exact aAi q⟩
end
end DL
namespace MM
open PySem
def KC (prog:Program)(w:World)(A:Around)(op:CmpOp)(Hs:Heap->Prop)(P:Nat->Value->Prop)(bt:Nat->Nat->Bool):Prop:=
 ∀i j vi vj (s:Shared) (Q:D2) (E:D2),Hs s.heap->P i vi->P j vj->Q (.bool (bt i j)) s->wpAny (model prog w) A (richCompare op vi vj) Q E s
section
def GN (W:WalksS prog w A.in1 I fp wr G n P St){Hs:Heap->Prop}(hH:∀i s,St i s->Hs s.heap)(bt:Nat->Nat->Bool)(wm:KC prog w A.in1 .Lt Hs P bt)(S:Addr)(oh:S∉fp):
  ∀(k j:Nat) (s:Shared) (vb:Value) (c:Nat),n-(j+1)=k->j+1<=n->St (j+1) s->P (argBest bt j) vb->
  s.heap.get? S=some {cls:=.type "list",dict:=none,data:=.seq #[vb,vb] c,slots:=#[]}->
  (∀v s',P (argBest bt (n-1)) v->Moved (S::wr) G s s'->R (.ok (.ret v)) s')->codeAny (model prog w) A (.builtin "min.loop" ⟨[.ref I,.none,.ref S],[]⟩) R s:=by
 have hSw:S∉wr:=λh=>oh (W.sub _ h);have ju:∀b∈wr,b∈S::wr:=λb hb=>aAe _ hb;have lg:(toString "min"++toString ".loop":String)= "min.loop":=by decide
 have zc:∀{b:Addr},b∉S::wr->S≠b:=λhb h=>hb (by rw[h];exact aAY);intro k;induction k with
 |zero=>
  intro j s vb c hk hj jh hPb hS hR;have mo:j+1=n:=by omega
  refine aBM aFu ?_;rw[aBh aCJ _];show wpAny _ A.in1 (seqItems? (.ref S)>>=_) _ _ s;refine aAa (aBL hS rfl ?_);show wpAny _ A.in1 (tryCatch (pyNext<|.ref I) _>>=_) _ _ s;refine aAa (aET<|W.done s _ _ (mo▸jh) λs' hm=>?_);have iu:=hm.heap S _ hSw hS;show wpAny _ A.in1 (updateSeq S (λ_=>#[])>>=_) _ _ _;refine aAa ?_;refine aCc iu rfl (aAa<|aDW<|aAb ?_);exact hR vb _ (by rw[<-mo];exact hPb) ((hm.mono ju).then_heap (tk:=s'.toks) (aAj _) λb o hb e=>(aAB _ _<|zc hb).trans e)
 |succ k ih=>
  intro j s vb c hk hj jh hPb hS hR;have ah:j+1<n:=by omega
  refine aBM aFu ?_;rw[aBh aCJ _];show wpAny _ A.in1 (seqItems? (.ref S)>>=_) _ _ s;refine aAa (aBL hS rfl ?_);show wpAny _ A.in1 (tryCatch (pyNext<|.ref I) _>>=_) _ _ s;refine aAa (aET<|W.item (j+1) s _ _ ah jh λv s' hP kr hm=>?_);have iu:=hm.heap S _ hSw hS;show wpAny _ A.in1 (tryCatch (holding [v,v]<|richCompare .Lt v vb>>=_) _>>=_) _ _ _;refine aAa (aET<|aAP<|aAa<|wm (j+1) (argBest bt j) v vb _ _ _ (hH _ _ kr) hP hPb ?_);refine aAa (aAP<|aBj ?_);refine aAa (aDW<|aAb ?_);cases hb:bt (j+1) (argBest bt j)with
  |true=>
   simp only[if_true];refine aAa ?_;refine aCc iu rfl (aAa<|aDW ?_);rw[lg];refine aAb ⟨aBZ aCJ _,ih (j+1) _ v _ (by omega) ah (W.frame _ s' _ s'.toks kr (aAj _) λb hbf o e=>?_) (by simp only[argBest,hb,if_true];exact hP) (aBm _ iu rfl)
    λv' s'' hP' mh=>?_⟩
   ·exact(aAB _ _ (λh:S=b=>oh (by rw[h];exact hbf))).trans e
   ·exact hR v' s'' hP' (aFj W.gtrans ((hm.mono ju).then_heap (aAj _) λb o hb e=>(aAB _ _<|zc hb).trans e) mh)
  |false=>simp only[aAn,if_false];refine aAa (aDW ?_);rw[lg];refine aAb ⟨aBZ aCJ _,ih (j+1) _ vb c (by omega) ah kr (by simp only[argBest,hb,aAn,if_false];exact hPb) iu λv' s'' hP' mh=>?_⟩;exact hR v' s'' hP' (aFj W.gtrans (hm.mono ju) mh)
def zS (W:WalksS prog w A.in1 I fp wr G n P St){Hs:Heap->Prop}(hH:∀i s,St i s->Hs s.heap)(bt:Nat->Nat->Bool)(wm:KC prog w A.in1 .Lt Hs P bt)(S:Addr)(oh:S∉fp)(hn:0<n)(jh:St 0 s)(hS:s.heap.get? S=some {cls:=.type "list",dict:=none,data:=.seq #[] c,slots:=#[]})(hR:∀v s',P (argBest bt (n-1)) v->Moved (S::wr) G s s'->R (.ok (.ret v)) s'):codeAny (model prog w) A (.builtin "min.loop" ⟨[.ref I,.none,.ref S],[]⟩) R s:=by
 have hSw:S∉wr:=λh=>oh (W.sub _ h);have ju:∀b∈wr,b∈S::wr:=λb hb=>aAe _ hb;have lg:(toString "min"++toString ".loop":String)= "min.loop":=by decide
 have zc:∀{b:Addr},b∉S::wr->S≠b:=λhb h=>hb (by rw[h];exact aAY);refine aBM aFu ?_;rw[aBh aCJ _];show wpAny _ A.in1 (seqItems? (.ref S)>>=_) _ _ s;refine aAa (aBL hS rfl ?_);show wpAny _ A.in1 (tryCatch (pyNext<|.ref I) _>>=_) _ _ s;refine aAa (aET<|W.item 0 s _ _ hn jh λv s' hP kr hm=>?_);have iu:=hm.heap S _ hSw hS;show wpAny _ A.in1 (updateSeq S (λ_=>#[v,v])>>=_) _ _ _;refine aAa ?_;refine aCc iu rfl ?_;rw[lg];refine aAb ⟨aBZ aCJ _,GN W hH bt wm S oh _ 0 _ v _ rfl hn (W.frame _ s' _ s'.toks kr (aAj _) λb hbf o e=>?_) hP (aBm _ iu rfl) λv' s'' hP' mh=>?_⟩
 ·exact(aAB _ _ (λh:S=b=>oh (by rw[h];exact hbf))).trans e
 ·exact hR v' s'' hP' (aFj W.gtrans ((hm.mono ju).then_heap (aAj _) λb o hb e=>(aAB _ _<|zc hb).trans e) mh)
def call_minH {E:D2}{Q:D2}(h:wpAny (model prog w) A.in1 (pyIter x) (λit eh=>∃I fp wr G n P St Hs bt,it=.ref I/\WalksS prog w A.in1 I fp wr G n P St/\St 0 eh/\(∀b∈fp,b<eh.heap.objs.size)/\0<n/\(∀i s,St i s->Hs s.heap)/\KC prog w A.in1 .Lt Hs P bt/\
   ∀v s',P (argBest bt (n-1)) v->Moved wr G eh s'->Q v s') E s):
  wpAny (model prog w) A (call (.builtin "min") [x]) Q E s:=by
 have lg:(toString "min"++toString ".loop":String)= "min.loop":=by decide
 refine call_function_tree F.kind_min F.plain_min F.entry_min (F.args_min1 _) ?_;show wpAny _ A.in1 (aEz "min" ["key", "default"] 0 ⟨[],[]⟩>>=_) _ _ s;refine aAa (wpAny_of_eq (show aEz "min" ["key", "default"] 0 ⟨[],[]⟩=pure [none,none]from rfl) ?_);refine aAa (aAb ?_);refine aAa (aCs h (λit eh ib=>?_) λ_ _ e=>e);obtain⟨I,fp,wr,G,n,P,St,Hs,bt,rfl,W,jh,vg,hn,hH,wm,hQ⟩:=ib;refine aAa (aBs ?_);have oh:eh.heap.objs.size∉fp:=λhm=>aBf _ (vg _ hm);rw[lg];refine aAb ⟨aBZ aCJ _,zS W hH bt wm eh.heap.objs.size oh hn (W.frame 0 eh _ eh.toks jh (aAj _) λb _ o e=>aAc _ e) (aAr _ rfl) λv s' hP hm=>?_⟩;exact hQ v s' hP (Moved.drop_new (tk:=eh.toks) hm<|aAj _)
end
def walks_more {P:Nat->Value->Prop}{St:Nat->Heap->Prop}(W:Walks prog w A I fp wr n P St)(more:M3)(hd:∀p∈more,p.1∉wr):
  Walks prog w A I (fp++more.map (·.1)) wr n P (λi h=>St i h/\∀p∈more,h.get? p.1=some p.2)where
 sub:=λb hb=>aBg _ (W.sub b hb)
 frame:=λi h h' st k=>⟨W.frame i h h' st.1 λb hb o e=>k b (aBg _ hb) o e,λp hp=>k p.1 (aAC _<|aCE hp) _ (st.2 p hp)⟩
 item:=λi s Q E hi st hQ=>W.item i s Q E hi st.1 λv h' tk hP jh kp=>hQ v h' tk hP ⟨jh,λp hp=>kp p.1 p.2 (hd p hp) (st.2 p hp)⟩ kp
 done:=λs Q E st hQ=>W.done s Q E st.1 hQ
 self:=λi s Q E st hQ=>W.self i s Q E st.1 hQ
end MM
namespace DL
open PySem PySem.Spec L2
open PyProof.Rows hiding St
variable [Tabs]
section
def HA {x:Str}{a:Addr}{dd:Option Addr}{its:Array Value}{n:Nat}{sl:Array (Option Value)}{ns:List Int}(hm:X.mg x=some (.ref a))(hk:X.K.lookup a=some ⟨.type "tuple",dd,.seq its n,sl⟩)(hi:l8 (ns.map V.int) its.toList)(hz:its.size<=sizeLine)(hg:Gl X x:=by rfl)(gc:(x==("__debug__":Str))=false:=by decide):
 PD X (.Name x pos) (SG (.tup (ns.map D.int))):=sR (SR hg hm (show RelV (.ref a) _ from rfl) gc) λH O=>.tup (.inr ⟨_,its,n,hk,rfl,rfl,hz,hi⟩) (Reps.ints ns)
def LO:D->D->R D
 |.non,.non=>.ok (.bl true)
 |_,.non=>.ok (.bl false)
 |_,_=>.bad
def NE:iU X (compareOp .Is) LO:=by
 intro H O x y dx dy Q fr rx ry q;refine⟨_,WO,?_⟩;cases dy with
 |non=>
  refine⟨ry.ab9,?_⟩;cases dx with
  |non=>rw[rx.ab9];exact q _ H (Same.refl _) .bl
  |bl b=>rw[rx.blI];exact q _ H (Same.refl _) .bl
  |int i=>rw[rx.aa6];exact q _ H (Same.refl _) .bl
  |str z=>rw[rx.ac4];exact q _ H (Same.refl _) .bl
  |tup ds=>obtain⟨a,_,rfl,_⟩:=rx.tupI;exact q _ H (Same.refl _) .bl
  |lst ds=>obtain⟨a,_,rfl,_⟩:=rx.aa5;exact q _ H (Same.refl _) .bl
  |dct=>obtain⟨a,_,rfl,_⟩:=rx.af4;exact q _ H (Same.refl _) .bl
 |_=>cases dx<;>exact aAi q
def OW (he:PD X e f)(hs:swapsWith e none pos.line X.env=pure false:=by rfl):kR X (.Expr e pos) (λρ=>(f ρ).bind λ_=>.ok (.nx ρ)):=λH9 O0=>
 vS (gH he hs) λD σ H O ρ E fk q=>⟨H9,O0,O,ρ,E,by
  cases e1:f ρ with
  |ok d=>rw[e1]at q;exactλv H' s r=>q _ H' O (E.grow s) fk (Kp.of s)
  |ex x=>rw[e1]at q;exactλH' s=>q H' (E.same.trans s)
  |bad=>rw[e1]at q;exact q⟩
def cO:List D->Option (List Bool)
 |[]=>some []
 |.bl b::ds=>(cO ds).map (b::·)
 |_::_=>none
theorem pB:∀{ds:List D} {bs:List Bool},cO ds=some bs->ds=bs.map D.bl
 |[],bs,h=>by cases h;rfl
 |.bl b::ds,bs,h=>by
  unfold cO at h;cases e:cO ds with
  |none=>rw[e]at h;cases h
  |some l=>rw[e]at h;have h':b::l=bs:=aAl h;subst h';rw[pB e];rfl
 |.non::_,_,h|.int _::_,_,h|.str _::_,_,h|.tup _::_,_,h|.lst _::_,_,h|.dct::_,_,h=>by cases h
def anyR:List D->R D
 |[.lst ds]=>match cO ds with
  |some bs=>.ok (.bl (bs.any id))
  |none=>.bad
 |_=>.bad
def BC {K:PySem.W.Frag}{H:Hp}{O:Addr->Prop}{ws:List V}{bs:List Bool}{its:List Value}(r:Reps K H O ws (bs.map D.bl))(v:l8 ws its):its=bs.map aDp:=by
 induction bs generalizing ws its with
 |nil=>cases r;cases v;rfl
 |cons b bs ih=>
  cases r with
  |cons r t=>
   cases v with
   |cons rv tv=>cases r;have:_=aDp b:=rv;rw[this,ih t tv];rfl
def EY (bs:List Bool):(aBc bs.length).any (λi=>bs.getD i false)=bs.any id:=by
 rw[aDN,aEi,aEi];constructor
 ·rintro⟨i,hi,e⟩;have dn:i<bs.length:=by simpa using hi
  refine⟨bs[i],aBO dn,?_⟩;simpa[aAq,aAf dn]using e
 ·rintro⟨b,hb,e⟩;obtain⟨i,hi,rfl⟩:=aBA hb;exact⟨i,by simpa using hi,by simpa[aAq,aAf hi]using e⟩
def WH (hc:X.calm=true):iB X (.builtin "any") anyR:=by
 intro H O vs ds Q fr r q;match ds,q with
 |[.lst xs],q=>
  obtain⟨v,rfl,z⟩:=PJ r;obtain⟨p,ws,rfl,h1,h2⟩:=z.aa5;simp only[anyR]at q;cases e:cO xs with
  |none=>rw[e]at q;exact q.elim
  |some bs=>
   rw[e]at q;rw[pB e]at h2;refine⟨λvs H' Q'=>vs=[.ref p]/\H'=H/\Q'=Q,λpins s σ H' xs us Q' I rv ⟨e1,e2,e3⟩=>?_,rfl,rfl,rfl⟩;subst e1 e2 e3;obtain⟨u,rfl,ru⟩:=vals1 rv;cases ru;obtain⟨its,rv2,⟨oL,nL,gL,cL,dL,sL⟩,zL⟩:=I.list h1;have ei:=BC h2 rv2;have hl:s.heap.IsList p its.toArray:=⟨oL,gL,cL,nL,sL⟩;refine call_any_walk (aDr hl ⟨s.heap.objs.size,_,_,its.toArray.size,_,_,λi=>bs.getD i false,rfl,Walks.list (by simp[I.ok.hd hc]) s.heap.objs.size p (aAk<|aAg gL) its.toArray,⟨⟨_,aAr _ rfl,rfl,rfl⟩,hl.push _⟩,λi v s' Q E hP hq=>?_,λh' tk kp=>?_⟩)
   ·have hP:its.toArray[i]?=some v:=hP;have hq:Q (bs.getD i false) s':=hq;rw[aCK,ei,aAK]at hP;cases eb:bs[i]? with
    |none=>rw[eb]at hP;cases hP
    |some b=>rw[eb]at hP;have:aDp b=v:=aAl hP;subst this;rw[aAq,eb]at hq;exact aBj hq
   ·have I2:=I.kept (h':=h') (t':=tk) λb o e=>kp b o (by simp only[aAU];exact aAk (aAg e)) (aAc _ e);refine⟨.bl (bs.any id),_,I2,?_,q _ _ (Same.refl _) .bl⟩;show aDp _=aDp _;rw[aAo,ei,aAh,EY]
end
end DL
namespace DL
open PySem PySem.Spec L2
open PyProof.Rows hiding St
variable [Tabs]
def XO (ds:List D)(i j:Nat):Bool:=HT.lexLt (flat<|ds.getD i .non) (flat<|ds.getD j .non)
def CZ:List D->R D
 |[.lst ds]=>if ds≠[]/\ds.all Z4=true then .ok (ds.getD (argBest (XO ds) (ds.length-1)) .non)else .bad
 |_=>.bad
def sS (h:Heap)(its:List Value):List (Addr×Obj):=its.filterMap λv=>match v with
 |.ref b=>(h.get? b).map λo=>(b,o)
 |_=>none
def AL (hb:aDy b∈its)(e:h.get? b=some o):(b,o)∈sS h its:=
 aBU.mpr ⟨_,hb,by show(h.get? b).map _=_;rw[e];rfl⟩
def fK (hp:p∈sS h its):h.get? p.1=some p.2:=by
 obtain⟨v,_,e⟩:=aBU.mp hp;cases v with
 |ref b=>
  have e:(h.get? b).map (λo=>(b,o))=some p:=e;cases q:h.get? b with
  |none=>rw[q]at e;cases e
  |some o=>rw[q]at e;cases e;exact q
 |_=>cases e
section
def DO (hc:X.calm=true)(hu:X.A.units+300<cLine):iB X (.builtin "min") CZ:=by
 intro H O vs ds Q fr r q;match ds,q with
 |[.lst xs],q=>
  obtain⟨v,rfl,z⟩:=PJ r;obtain⟨p,ws,rfl,h1,h2⟩:=z.aa5;simp only[CZ]at q;by_cases hp:xs≠[]/\xs.all Z4=true
  ·rw[if_pos hp]at q;obtain⟨ai,hp⟩:=hp;have pt:∀d∈xs,Z4 d=true:=aBF.mp hp;refine⟨λvs H' Q'=>vs=[.ref p]/\H'=H/\Q'=Q,λpins s σ H' ri us Q' I rv ⟨e1,e2,e3⟩=>?_,rfl,rfl,rfl⟩;subst e1 e2 e3;obtain⟨u,rfl,ru⟩:=vals1 rv;cases ru;obtain⟨its,rv2,⟨oL,nL,gL,cL,dL,sL⟩,zL⟩:=I.list h1;have hl:s.heap.IsList p its.toArray:=⟨oL,gL,cL,nL,sL⟩;have st:w9 X.K H' O its xs:=w9.of rv2 h2;have hlen:its.toArray.size=xs.length:=by rw[aAo,<-rv2.length,h2.length]
   have yi:0<xs.length:=List.length_pos_iff.mpr ai;have W:=MM.walks_more (Walks.list (prog:=X.prog) (w:=X.w) (A:=X.A.in1) (by simp[I.ok.hd hc]) s.heap.objs.size p (aAk<|aAg gL) its.toArray) (sS s.heap its)
    (λq hq=>by simp only[aAU];exact aAk (aAg<|fK hq))
   refine MM.call_minH (aDr hl ⟨s.heap.objs.size,_,_,_,its.toArray.size,_,_,λh=>∀q∈sS s.heap its,h.get? q.1=some q.2,XO xs,rfl,W.toS,⟨⟨⟨_,aAr _ rfl,rfl,rfl⟩,hl.push _⟩,λq hq=>aAc _ (fK hq)⟩,λb hb=>?_,by rw[hlen];exact yi,λi s h=>h.2,λi j vi vj s' Q2 E2 hh hi hj hq=>?_,λv s' hP hm=>?_⟩)
   ·rw[aBt];rcases aAI.mp hb with hb|hb
    ·rcases aAd.mp hb with rfl|hb
     ·exact aDF _
     ·rcases aAd.mp hb with rfl|hb
      ·exact aBu (aAg gL)
      ·cases hb
    ·obtain⟨q,hq,rfl⟩:=aAm.mp hb;exact aBu (aAg<|fK hq)
   ·have one:∀i v,its.toArray[i]?=some v->∃b items,v=.ref b/\IsTup s'.heap b items/\IntsAre items.toList (flat<|xs.getD i .non):=λi v hi=>by
     rw[aCK]at hi;obtain⟨d,hd,w,qm,rp⟩:=F4 st hi;have oi:xs.getD i .non=d:=by rw[aAq,hd];rfl
     rw[oi];have hpt:=pt d (aAv hd);obtain⟨b,items,rfl,⟨o,g,c,n,dd⟩,hia⟩:=aX hpt (bZ I rp (R4 hpt) qm);exact⟨b,items,rfl,⟨o,hh _ (AL (aAv hi) g),c,n,dd⟩,hia⟩
    obtain⟨b,items,rfl,t1,i1⟩:=one i vi hi;obtain⟨b',wc,rfl,t2,i2⟩:=one j vj hj;exact HT.lt_tupInts t1 t2 i1 i2 (by rw[u3];lia) hq
   ·have hP:its.toArray[argBest (XO xs) (its.toArray.size-1)]?=some v:=hP;rw[aCK,hlen]at hP;obtain⟨d,hd,w,qm,rp⟩:=F4 st hP;have oi:xs.getD (argBest (XO xs)<|xs.length-1) .non=d:=by rw[aAq,hd];rfl
    rw[oi]at q;have I2:=I.kept (h':=s'.heap) (t':=s'.toks) λb o e=>hm.heap b o (by simp only[aAU];exact aAk (aAg e)) (aAc _ e);have es:s'={s with heap:=s'.heap,toks:=s'.toks}:=by have g1:=hm.gens;have g2:=hm.drawn;have g3:=hm.os;cases s';simp only at g1 g2 g3;subst g1 g2 g3;rfl
    rw[es];exact⟨w,_,I2,qm,q _ _ (Same.refl _) rp⟩
  ·rw[if_neg hp]at q;exact q.elim
def DQ (h:MR ds)(n:Nat)(hn:n<ds.length):argBest (XO ds) n=0:=by
 induction n with
 |zero=>rfl
 |succ k ih=>
  have e:=ih (by lia);unfold argBest;rw[e];have:XO ds (k+1) 0=false:=by
   unfold XO;rw[aAq,aAq,aAf hn,aAf (by lia:0<ds.length)];have:=aCj.mp h 0 (k+1) (by lia) hn (by lia);cases q:HT.lexLt (flat<|(some ds[k+1]).getD .non) (flat ((some (ds[0]'(by lia))).getD .non))with
   |false=>rfl
   |true=>have z:HT.lexLt (flat (ds[0]'(by lia))) (flat (ds[0]'(by lia)))=true:=TS.lex_trans _ _ _ this q;rw[TS.lex_irrefl]at z;cases z
  rw[this];rfl
end
end DL
namespace DL
open PySem PySem.Spec L2
open PyProof.Rows hiding St sub_tuple_tuple sub_list_list sub_tuple_list sub_list_tuple
section
open PySem.MeetsSeq PySem.MeetsSeq2 PySem.MeetsSeq3 PySem.AutoSeq1
def IN (l:Addr)(xs:Array Value)(n:Nat)(b:Addr)(ys:Array Value)(n2:Nat)(sl:Array (Option Value))(hc0:¬(!xs.isEmpty&&aCU (xs.size+ys.size))=true)(xr:xs.size<=sizeLine)(zd:xs.size+ys.size<=sizeLine+1):
  Meets (Builtin.«list.extend» ⟨[.ref l,.ref b],[]⟩) (λ_ R s=>s.heap.get? l=some ⟨.type "list",none,.seq xs n,#[]⟩/\s.heap.get? b=some ⟨.type "list",none,.seq ys n2,sl⟩/\R (.ok (.ret Value.none)) {s with heap:=s.heap.update l (aBK λx=>x++ys),toks:=s.toks}):=
 .of_wp λprog w A R s q=>by
  obtain⟨hp,g,d,tk,os⟩:=s;obtain⟨q1,q2,q3⟩:=q;have g1:=idx_int;have g2:=sub_tuple_tuple;have g3:=sub_list_list;have g4:=sub_tuple_list;have g5:=sub_list_tuple;have z:(xs++ys).size<=sizeLine+1:=by rw[Array.size_append];exact zd
  wp_walk using(aCc q1 rfl (hz:=xr) (_hz':=z)),aEs q1,aEs q2
  exact⟨_,rfl,q3⟩
end
section
def ck (K:PySem.W.Frag):V->List V->Hp->VK->Prop:=λx vs H Q=>∃l b xs zs,x=.ref l/\vs=[.ref b]/\H l=some (.lst xs)/\K4 K H b zs/\xs.length+zs.length<=sizeLine/\Q .non (upd H l<|.lst (xs++zs))
def VY:ij X "list.extend" (ck X.K):=by
 intro pins s σ H x vs v us Q I rx rv h;obtain⟨l,b,xs,zs,rfl,rfl,hH,hB,hz,q⟩:=h;cases rx;obtain⟨u,rfl,ru⟩:=rv.one;cases ru;obtain⟨z,its,n,r,hl,e⟩:=I.ae2 hH;obtain⟨kn,r2,⟨⟨cl2,va,da2,uc⟩,n2,e2,c2,d2,s2⟩,z2⟩:=I.list hB;simp only at c2 d2 s2;subst c2 d2 s2;have mr:=r2.length;have gg:its.toArray.size+kn.toArray.size<=sizeLine:=by rw[aAo,aAo];lia
 have hlong:¬(!its.toArray.isEmpty&&aCU (its.toArray.size+kn.toArray.size))=true:=by rw[NZ gg,aFS];exact aAH
 refine call_meets F.slot_list_extend ⟨_,e,rfl⟩ F.entry_list_extend (F.args_list_extend_2 _ _) (IN l its.toArray n b kn.toArray n2 uc hlong (by rw[aAo];lia) (by lia)) ⟨e,e2,?_⟩;refine⟨.non,_,I.ae3 (its':=its++kn) hH e (by simp) (r.append r2) ?_,rfl,q⟩;rw[aAy]
 lia
end
variable [Tabs]
section
def zF (i:Nat)(he:PD X e f)(hN:X.N[i]?=some x:=by rfl)(hv:vJ X.env.scope x:=by first|exact aCh rfl|exact aBx (aCh rfl)|exact aBx (aBx rfl))(hd:(x==("__debug__":Str))=false:=by decide)(cg:(x==("__classdict__":Str))=false:=by decide)(cp:attributeBase (.Name x p) "extend" X.env (eval (.Name x p) X.env)=eval (.Name x p) X.env:=by rfl)(vf:((backTo av (starEach [e] X.env)).all (λx=>!x.1)&&(backToKw av (keywordEach [] X.env)).all (λx=>x.1.isSome)
   &&decide ([e].length+([]:List Keyword).length+(if([]:List Keyword).isEmpty then 0 else 1)<30))=true:=by rfl) (bo:(apos.endLine==av.line)=true:=by rfl) (hs:starEach [e] X.env=(false,eval e X.env)::starEach [] X.env:=by rfl) (jt:(backTo av (starEach [] X.env)).any (·.1)=false:=by rfl) (pf:swapsWith (.Call (.Attribute (.Name x p) "extend" apos) [e] [] av) none pos.line X.env=pure false:=by rfl):
  kR X (.Expr (.Call (.Attribute (.Name x p) "extend" apos) [e] [] av) pos) (λρ=>(f ρ).bind (XN i ρ)):=λH9 O0=>
 vS (gH (UK PySem.F.plainAttrs_list PySem.F.slot_list_extend PySem.F.type_list_extend VY (J2 hN hv hd cg) (d9 he l3 hs) cp vf bo hs jt) pf) λD σ H O ρ E fk q=>by
 cases e1:f ρ with
 |ok d=>
  rw[e1,R.aa0]at q;unfold XN at q;cases e2:ρ[i]? with
  |none=>rw[e2]at q;exact aAi q
  |some sl=>
   rw[e2]at q;cases sl with
   |x C=>exact aAi q
   |c m φ=>exact aAi q
   |d kvs=>exact aAi q
   |no=>exact aAi q
   |v d=>exact aAi q
   |o xs=>
    cases d with
    |lst ys=>
     dsimp only at q;split at q
     ·rename_i hz;obtain⟨a,vs,h1,h2,h3,h4,h5⟩:=E.own i xs e2;refine⟨_,h1,.inl ⟨rfl,vs,K4.of h4⟩,H9,O0,O,ρ,E,?_⟩;show GS X H O ((f ρ).bind λd=>(R.ok []).bind λds=>.ok (d::ds)) _;rw[e1];intro us H1 s1 r1;cases r1 with
      |cons r1 rn=>
       cases rn;have E1:=E.grow s1;cases r1 with
       |lst hb nb rb=>refine⟨a,_,vs,_,rfl,rfl,s1 _ _ h4,hb,by rw[h5.length,rb.length];exact hz,?_⟩;obtain⟨E2,k2⟩:=E1.write e2 h1 ((h5.same s1).append rb);exact q σ _ O E2 fk ((Kp.of s1).trans k2)
     ·exact aAi q
    |_=>exact aAi q
 |ex x=>
  rw[e1]at q;cases e2:ρ[i]? with
  |none=>exact(q H E.same).elim
  |some sl=>exact(q H E.same).elim
 |bad=>rw[e1]at q;exact aAi q
end
end DL
namespace TS
open PySem PyProof.Rows HT
section
def EH (A:Around)(s:Shared)(x y:Value)(b:Bool):Prop:=∀(prog:Program) (w:World) (E:D2) (Q:vK),Q b s->wpAny (model prog w) A (oneLt' false x y) Q E s
def lt_two {Q:vK}(hl:IsTup s.heap l #[p,r])(hb:IsTup s.heap b #[p',r'])(hf:f=false)(h1:SeqAt.EqAt A s p p' e1)(h2:e1=false->EH A s p p' b1)(h3:e1=true->SeqAt.EqAt A s r r' e2)(h4:e1=true->e2=false->EH A s r r' b2)(q:Q (bif e1 then(bif e2 then false else b2)else b1) s):wpAny (model prog w) A (keyLt' (tupK f) (.ref l) (.ref b)) Q E s:=by
 obtain⟨o,ho,hc,n,hd⟩:=hl;obtain⟨o2,kl,jr,n2,hd2⟩:=hb;subst hf;rw[rJ];refine aAa (aEd ho hd<|aAa<|aEd kl hd2 ?_);show wpAny _ _ (forIn [((p,p'),0),((r,r'),1)] _ _>>=_) _ _ _;rw[aCV];refine aAa (aAa ?_);refine aAa (h1 _ _ _ _ ?_);cases e1 with
 |false=>refine aAa (h2 rfl _ _ _ _ ?_);exact aAb (aAb<|aAb q)
 |true=>
  refine aAb ?_;dsimp only;rw[aCV];refine aAa ?_;refine aAa (h3 rfl _ _ _ _ ?_);cases e2 with
  |false=>refine aAa (h4 rfl rfl _ _ _ _ ?_);exact aAb (aAb<|aAb q)
  |true=>refine aAb ?_;dsimp only;rw[aDX];exact aAb (aAb q)
def LK (h:∀(prog:Program) (w:World) (E:D2) (Q:D2),Q (.bool b) s->wpAny (model prog w) A (richCompare .Lt x y) Q E s):EH A s x y b:=λprog w E Q q=>by rw[oneLt'_eq];simp only[aAn,if_false];exact aAa (h prog w _ _<|aBj q)
def oneLt_tup (hl:IsTup s.heap l items)(hb:IsTup s.heap b ao)(hi:IntsAre items.toList ns)(hj:IntsAre ao.toList ms)(hu:A.units<cLine):EH A s (.ref l) (.ref b) (HT.lexLt ns ms):=
 LK λprog w E Q q=>HT.lt_tupInts hl hb hi hj hu q
end
end TS
namespace DL
open PySem PySem.Spec L2
open PyProof.Rows hiding St
def sF (k:D->List Int)(d:D):List D->List D
 |[]=>[d]
 |x::xs=>if HT.lexLt (k d) (k x)=true then d::x::xs else x::sF k d xs
def nI (k:D->List Int)(ds:List D):List D:=ds.foldr (sF k) []
def tY (k:D->List Int)(ds:List D):Prop:=ds.Pairwise λx y=>HT.lexLt (k x) (k y)=true
theorem jE (k:D->List Int)(d:D):∀xs:List D,(sF k d xs).Perm (d::xs)
 |[]=>.refl _
 |x::xs=>by
  unfold sF;split
  ·exact .refl _
  ·exact((jE k d xs).cons x).trans (.swap d x xs)
theorem U9 (k:D->List Int):∀ds:List D,(nI k ds).Perm ds
 |[]=>.refl _
 |d::ds=>(jE k d (nI k ds)).trans ((U9 k ds).cons d)
theorem xP:∀{xs:List D},tY k xs->(∀x∈xs,k x≠k d)->tY k (sF k d xs)
 |[],_,_=>aDQ _ _
 |x::xs,h,n=>by
  have h1:=aAw.mp h;unfold sF;split
  ·rename_i lt;refine aAw.mpr ⟨λy hy=>?_,h⟩;rcases aAd.mp hy with rfl|hy
   ·exact lt
   ·exact TS.lex_trans _ _ _ lt (h1.1 y hy)
  ·rename_i nlt;refine aAw.mpr ⟨λy hy=>?_,xP h1.2 λz hz=>n z (.tail _ hz)⟩;rcases aAd.mp ((jE k d xs).mem_iff.mp hy)with rfl|hy
   ·cases q:HT.lexLt (k x) (k y)with
    |true=>rfl
    |false=>exact absurd (TS.lex_total _ _ q (by simpa using nlt)) (n x<|.head _)
   ·exact h1.1 y hy
theorem jQ:∀{ds:List D},(ds.map k).Nodup->tY k (nI k ds)
 |[],_=>.nil
 |d::ds,h=>by rw[aAp,aAJ]at h;refine xP (jQ h.2) λx hx e=>h.1 ?_;rw[<-e];exact aCE ((U9 k ds).mem_iff.mp hx)
theorem kB:∀{xs ys:List D},tY k xs->tY k ys->xs.Perm ys->xs=ys
 |[],ys,_,_,p=>(List.nil_perm.mp p).symm
 |x::xs,[],_,_,p=>by have:=p.length_eq;simp at this
 |x::xs,y::ys,h1,h2,p=>by
  have a1:=aAw.mp h1;have a2:=aAw.mp h2;have exy:x=y:=by
   rcases aAd.mp (p.mem_iff.mp<|.head _)with q|q
   ·exact q
   ·rcases aAd.mp (p.mem_iff.mpr<|.head _)with q2|q2
    ·exact q2.symm
    ·have:=TS.lex_trans _ _ _ (a2.1 x q) (a1.1 y q2);rw[TS.lex_irrefl]at this;cases this
  subst exy;rw[kB a1.2 a2.2 ((List.perm_cons x).mp p)]
def RG [Tabs]{R:Value->D->Prop}{key:Value->List Int}{k:D->List Int}{us:List Value}{ds:List D}(st:Paired R us ds)(srt:us.Pairwise λx y=>HT.lexLt (key y) (key x)=false)(nd:(ds.map k).Nodup)(hk:∀u d,R u d->d∈ds->key u=k d):tY k ds:=by
 induction st with
 |nil=>exact .nil
 |@cons u d us ds r t ih=>
  have n1:=aAJ.mp nd;have s1:=aAw.mp srt;refine aAw.mpr ⟨λe he=>?_,ih s1.2 n1.2 λu d h hd=>hk u d h (.tail _ hd)⟩;obtain⟨j,hj,rfl⟩:=aBA he;have ui:j<us.length:=by rw[t.length];exact hj
  obtain⟨d',oi,og⟩:=F4 t (aAf ui);rw[aAf hj]at oi;cases oi;have l:=s1.1 us[j] (aBO ui);rw[hk _ _ og (.tail _ (aBO hj)),hk u d r (.head _)]at l;cases z:HT.lexLt (k d) (k ds[j])with
  |true=>rfl
  |false=>exact absurd (aAm.mpr ⟨ds[j],aBO hj,(TS.lex_total _ _ z l).symm⟩) n1.1
def YH:D->Bool
 |.tup [p,.lst _]=>Z4 p
 |_=>false
def Q1:D->List Int
 |.tup (p::_)=>flat p
 |_=>[]
def WR (h:YH d=true):∃p r,d=.tup [p,.lst r]/\Z4 p=true/\Q1 d=flat p:=by
 unfold YH at h;split at h
 ·exact⟨_,_,rfl,h,rfl⟩
 ·cases h
def ZG:D->R (List D)
 |.lst ds=>if ds.all YH=true/\(ds.map Q1).Nodup/\ds.length<=63 then .ok (nI Q1 ds)else .bad
 |_=>.bad
variable [Tabs]
def FV (h:Heap)(u:Value)(l:List Int):Prop:=∃b p r d,u=.ref b/\IsTup h b #[p,r]/\Z4 d=true/\HV h p d/\flat d=l
def FV.inj (x:FV h u l)(y:FV h u l'):l=l':=by obtain⟨b,p,r,d,rfl,⟨o,g,_,n,dd⟩,_,hv,rfl⟩:=x;obtain⟨b',p',r',d',e,⟨o',g',_,n',ym⟩,_,hv',rfl⟩:=y;cases e;rw[g]at g';cases g';rw[dd]at ym;injection ym with e1 _;have e2:=congrArg aFB e1;simp only[aEA]at e2;obtain⟨rfl,_⟩:=e2;rw[HV.inj hv hv']
def FK (h:Heap) (u:Value):List Int:=open Classical in if p:∃l,FV h u l then p.choose else[]
def iN (x:FV h u l):FK h u=l:=by unfold FK;rw[dif_pos ⟨l,x⟩];exact FV.inj (Exists.choose_spec (⟨l,x⟩:∃l,FV h u l)) x
section
def LX (I:Inv X pins σ H s)(r:Rep X.K H O v d)(h:YH d=true)(ru:RelV v u):FV s.heap u (Q1 d):=by
 obtain⟨p,ring,rfl,hp,hk⟩:=WR h;cases r with
 |tup q rr=>
  cases ru;obtain⟨its,rv,ht,_⟩:=I.tuple q;cases rr with
  |cons r1 rr=>
   cases rr with
   |cons r2 rr=>
    cases rr;cases rv with
    |cons v1 rv=>
     cases rv with
     |cons v2 rv=>cases rv;exact⟨_,_,_,p,rfl,ht,hp,bZ I r1 (R4 hp) v1,hk.symm⟩
end
section
def AI (ha:PB X e f)(hh:X.calm=true)(hu:X.A.units+300<cLine)(hg:Gl X "sorted":=by rfl)(hm:X.mg "sorted"=none:=by assumption)(hv:bootBuiltins "sorted"=some (.builtin "sorted"):=by decide+kernel)(he:starEach [e] X.env=(false,eval e X.env)::starEach [] X.env:=by rfl)(bg:(backTo pos (starEach [] X.env)).any (·.1)=false:=by rfl):
  PF X (.Call (.Name "sorted" p) [e] [] pos) (λρ=>(f ρ).bind ZG):=by
 refine rK λpins s σ H Q I H9 O0 O ρ E q=>?_;dsimp only at q;refine aAZ (Q5 I hg hm hv ?_ (by decide) (by decide));have qg:PA X [e] _:=L5 ha bR he;refine aCo (B4 (qg pos pins s σ H (λvs H1=>∃v ds,vs=[v]/\f ρ=.ok (.lst ds)/\Same H H1/\x9 X.K H1 O v (.lst ds)) I ⟨H9,O0,O,ρ,E,?_⟩) λus s1 ⟨vs,H1,I1,r1,v,ds,ev,ef,sm,rb⟩=>?_) he bg
 ·cases e1:f ρ with
  |ex z=>rw[e1]at q;exact q
  |bad=>rw[e1]at q;exact q.elim
  |ok d=>
   rw[e1,R.aa0]at q;cases d with
   |lst ds=>exactλv H1 s1 r1=>⟨v,ds,rfl,rfl,s1,r1⟩
   |_=>exact aAi q
 ·subst ev;rw[ef,R.aa0]at q;obtain⟨a,ws,rfl,hS,rr⟩:=rb.aa5;obtain⟨u,rfl,ru⟩:=vals1 r1;cases ru;obtain⟨its,rv,⟨oL,nL,gL,cL,dL,sL⟩,zL⟩:=I1.list hS;have hl:s1.heap.IsList a its.toArray:=⟨oL,gL,cL,nL,sL⟩;simp only[ZG]at q;by_cases hc:ds.all YH=true/\(ds.map Q1).Nodup/\ds.length<=63
  ·rw[if_pos hc]at q;obtain⟨oo,nd,yp⟩:=hc;have fc:∀d∈ds,YH d=true:=aBF.mp oo;have st:w9 X.K H1 O its ds:=w9.of rv rr;have hlen:its.length=ds.length:=st.length;have each:∀u∈its,∃i d,its[i]?=some u/\ds[i]?=some d/\FV s1.heap u (Q1 d):=λu hu=>by obtain⟨i,hi,rfl⟩:=aBA hu;obtain⟨d,hd,w,qm,rp⟩:=F4 st (aAf hi);exact⟨i,d,aAf hi,hd,LX I1 rp (fc d<|aAv hd) qm⟩
   have keq:∀u∈its,∀u'∈its,FK s1.heap u=FK s1.heap u'->u=u':=λu hu u' ar e=>by
    obtain⟨i,d,hi,hd,fv⟩:=each u hu;obtain⟨j,d',hj,oi,fv'⟩:=each u' ar;rw[iN fv,iN fv']at e;have eij:i=j:=by obtain⟨li,ei⟩:=aAA.mp hd;obtain⟨lj,ej⟩:=aAA.mp oi;refine(aFn (xs:=ds.map Q1) (i:=i) (j:=j) (h₀:=by simpa using li) (h₁:=by simpa using lj) nd).mp ?_;rw[aDH,aDH,ei,ej];exact e
    subst eij;rw[hi]at hj;cases hj;rfl
   refine TS.sorted_keys (vs:=its) (f:=false) (key:=FK s1.heap) (C:=λs'=>∃h',s'={s1 with heap:=h'}/\∀b o,s1.heap.get? b=some o->h'.get? b=some o)
    (λ{Q'} hq=>collect_list hl (hq _ ⟨_,rfl,λb o e=>?_⟩) (by rw[hlen];exact aAu yp (by decide)))
    (λs' ⟨h',es',k⟩ s6 k6 x hx y hy prog w A E hA {Q} qq=>?_) (λh2 s' ⟨h',es',k⟩ s6 k6 A {Q} qq=>?_) (by rw[hlen];lia) λs' gh h' l ⟨h1,es',k⟩ pm srt k2 hl ⟨n,gl⟩=>?_
   ·exact(aAB _ _<|aCl<|aAk<|aAg e).trans (aAc _ e)
   ·subst es';have kk:∀b o,s1.heap.get? b=some o->s6.heap.get? b=some o:=λb o e=>k6 b o (k b o e);obtain⟨i,d,hi,hd,fv⟩:=each x hx;obtain⟨j,d',hj,oi,fv'⟩:=each y hy;have kx:=iN fv;have ky:=iN fv';have eqk:=keq x hx y hy;rw[kx,ky]at qq;rw[kx,ky]at eqk;obtain⟨b,p1,r1,d1,rfl,⟨o,g,c,n,dd⟩,hp1,hv1,e1⟩:=fv;obtain⟨b',p2,r2,d2,rfl,⟨o',g',c',n',ym⟩,hp2,hv2,e2⟩:=fv';have ze:HV s6.heap p1 d1:=hv1.keeps λb o e _=>kk b o e;have hv2':HV s6.heap p2 d2:=hv2.keeps λb o e _=>kk b o e;have hA':A.units+8<cLine:=by lia
    obtain⟨c1,i1,rfl,t1,ia1⟩:=aX hp1 ze;obtain⟨c2,i2,rfl,t2,ia2⟩:=aX hp2 hv2';rw[<-e1,<-e2]at qq eqk;refine TS.lt_two (e1:=u4 d1 d2) (e2:=true) (b1:=HT.lexLt (flat d1) (flat d2)) (b2:=false) ⟨o,kk _ _ g,c,n,dd⟩ ⟨o',kk _ _ g',c',n',ym⟩ rfl (CI ze hv2' (by have:=DW hp1;lia)) (λ_=>TS.oneLt_tup t1 t2 ia1 ia2 (by lia)) (λeq=>?_) (λ_ z=>by cases z) ?_
    ·have ed:=cU (R4 hp1) (R4 hp2) eq;have er:=eqk (by rw[ed]);cases er;rw[g]at g';cases g';rw[dd]at ym;injection ym with e3 _;have e4:=congrArg aFB e3;simp only[aEA]at e4;rw[e4.2.1];exact aDO _
    ·cases z:u4 d1 d2 with
     |false=>exact qq
     |true=>have ed:=cU (R4 hp1) (R4 hp2) z;rw[ed,TS.lex_irrefl]at qq;exact qq
   ·subst es';have kk:∀b o,s1.heap.get? b=some o->s6.heap.get? b=some o:=λb o e=>k6 b o (k b o e);have sg:∀x∈its,∃p,∃b items,x=.ref b/\IsTup s6.heap b items/\items[0]?=some p/\s6.TypeIs p "tuple":=λx hx=>by obtain⟨i,d,hi,hd,fv⟩:=each x hx;obtain⟨b,p1,r1,d1,rfl,⟨o,g,c,n,dd⟩,hp1,hv1,e1⟩:=fv;have ze:HV s6.heap p1 d1:=hv1.keeps λb o e _=>kk b o e;obtain⟨c1,i1,rfl,⟨o1,g1,cc1,_⟩,ia1⟩:=aX hp1 ze;exact⟨_,b,_,rfl,⟨o,kk _ _ g,c,n,dd⟩,rfl,⟨o1,g1,cc1⟩⟩
    obtain⟨gf,hgf⟩:∃gf:Value->Value,∀x∈its,∃b items,x=.ref b/\IsTup s6.heap b items/\items[0]?=some (gf x)/\s6.TypeIs (gf x) "tuple":=by refine⟨λx=>open Classical in if z:x∈its then(sg x z).choose else .none,λx hx=>?_⟩;dsimp only;rw[dif_pos hx];exact(sg x hx).choose_spec
    exact TS.kind_tuples (T:= "tuple") gf hgf (λz=>by rw[z]at h2;simp at h2) (by decide) qq
   ·subst es';obtain⟨qh,p2,jm⟩:=bV pm st;have hk:∀u d,(∃v,RelV v u/\Rep X.K H1 O v d)->d∈ds->FK s1.heap u=Q1 d:=λu d ⟨v,rv,rp⟩ hd=>iN (LX I1 rp (fc d hd) rv);have sr:(qh.map Q1).Nodup:=(p2.map Q1).nodup_iff.mpr nd;have srt2:tY Q1 qh:=RG (R:=λu d=>∃v,RelV v u/\Rep X.K H1 O v d) jm srt sr λu d h hd=>hk u d h (p2.mem_iff.mp hd);have e2:qh=nI Q1 ds:=kB srt2 (jQ nd) (p2.trans (U9 Q1 ds).symm);subst e2;obtain⟨wv,qm,og⟩:=w9.ac9 jm;have I2':=I1.kept (h':=h1) (t':=s1.toks) k;have I3:=I2'.laid (a:=l) (o:=.lst wv) (h':=h') (t':=s1.toks) k2 hl ⟨by rw[og.length,(U9 Q1 ds).length_eq];exact aAu yp (by decide),gh,n,qm,gl⟩;exact⟨.ref l,_,I3,rfl,q wv _ l sm (I2'.hok.fresh hl) og⟩
  ·rw[if_neg hc]at q;exact q.elim
end
end DL
namespace DL
open PySem PySem.Spec L2
open PyProof.Rows hiding St
variable [Tabs]
section
def BP (K:PySem.W.Frag)(mg:bK)(x:Str)(ns:List Int):Prop:=∃a dd its n sl,mg x=some (.ref a)/\K.lookup a=some ⟨.type "tuple",dd,.seq its n,sl⟩/\l8 (ns.map V.int) its.toList/\its.size<=sizeLine
omit [Tabs]in
def KQ {K:PySem.W.Frag}{mg:bK}{x:Str}{a:Addr}{dd:Option Addr}{n:Nat}{sl:Array (Option Value)}{i j k:Int}{t u v:Tok}(hm:mg x=some (.ref a))(hk:K.lookup a=some ⟨.type "tuple",dd,.seq #[.int i t,.int j u,.int k v] n,sl⟩):BP K mg x [i,j,k]:=
 ⟨a,dd,_,n,sl,hm,hk,.cons ⟨t,rfl⟩ (.cons ⟨u,rfl⟩ (.cons ⟨v,rfl⟩ .nil)),show 3<=sizeLine by decide⟩
def mF (c:BP X.K X.mg x ns)(hg:Gl X x:=by rfl)(gc:(x==("__debug__":Str))=false:=by decide):PD X (.Name x pos) (SG (.tup (ns.map D.int))):=by obtain⟨a,dd,its,n,sl,hm,hk,hi,hz⟩:=c;exact HA hm hk hi hz hg gc
end
end DL
namespace DL
open PySem PySem.Spec L2
open PyProof.Rows hiding St
theorem aW {α β:Type}[BEq α][LawfulBEq α]:∀{l:List (α×β)} {a:α} {b:β},(l.map (·.1)).Nodup->(a,b)∈l->l.lookup a=some b
 |(x,y)::l,a,b,h,hm=>by
  rw[aAp,aAJ]at h;rw[aBa];rcases aAd.mp hm with e|ji
  ·cases e;simp
  ·have:(a==x)=false:=by rw[beq_eq_false_iff_ne];rintro rfl;exact h.1 (aAm.mpr ⟨(a,b),ji,rfl⟩)
   rw[this];exact aW h.2 ji
theorem mem_lookup {α β:Type}[BEq α][LawfulBEq α]:∀{l:List (α×β)} {a:α} {b:β},l.lookup a=some b->(a,b)∈l
 |(x,y)::l,a,b,h=>by
  rw[aBa]at h;split at h
  ·rename_i q;cases h;rw[eq_of_beq q];exact .head _
  ·exact .tail _ (mem_lookup h)
def uZ (o:Obj):Prop:=∃v,o.data=.cell v
def bL (H:Hp)(cs:M3):Hp:=λb=>match cs.lookup b with
 |some o=>some (.frz o (.own b))
 |none=>H b
def N9 (H:Hp)(cs:M3):Hp:=λb=>match cs.lookup b with
 |some _=>none
 |none=>H b
section
variable{K:PySem.W.Frag}
def dW (e:cs.lookup b=some o):bL H cs b=some (.frz o (.own b)):=by unfold bL;rw[e]
def P8 (e:cs.lookup b=none):bL H cs b=H b:=by unfold bL;rw[e]
def Z6 (e:cs.lookup b=some o):N9 H cs b=none:=by unfold N9;rw[e]
def K6 (e:cs.lookup b=none):N9 H cs b=H b:=by unfold N9;rw[e]
def C8 (hn:∀b o,cs.lookup b=some o->H b=none)(e:H b=some u):bL H cs b=some u:=by
 cases q:cs.lookup b with
 |none=>rw[P8 q];exact e
 |some o=>rw[hn b o q]at e;cases e
def dN (hn:∀b o,cs.lookup b=some o->H b=none):Same H (bL H cs):=λb u e=>C8 hn e
def u7 (hn:∀b o,cs.lookup b=some o->H b=some (.frz o (.own b)))(e:H b=some u)(ne:∀o,cs.lookup b=some o->u≠.frz o (.own b)):N9 H cs b=some u:=by
 cases q:cs.lookup b with
 |none=>rw[K6 q];exact e
 |some o=>rw[hn b o q]at e;cases e;exact absurd rfl (ne o q)
def OB (x:eY P w H h)(hc:∀b o,cs.lookup b=some o->h.get? b=some o/\H b=none):eY P w (bL H cs) h:=λb u e=>by
 have hn:∀b o,cs.lookup b=some o->H b=none:=λb o q=>(hc b o q).2;cases q:cs.lookup b with
 |some o=>rw[dW q]at e;cases e;exact⟨(hc b o q).1,⟨o,(hc b o q).1⟩⟩
 |none=>rw[P8 q]at e;exact(x b u e).ac0 (λ_ _ _ z=>z) (λc z=>C8 hn z) λc u _ z=>C8 hn z
def OL (x:eY P w H h)(hc:∀b o,cs.lookup b=some o->H b=some (.frz o (.own b))/\uZ o):eY P w (N9 H cs) h:=λb u e=>by
 have hn:∀b o,cs.lookup b=some o->H b=some (.frz o (.own b)):=λb o q=>(hc b o q).1;cases q:cs.lookup b with
 |some o=>rw[Z6 q]at e;cases e
 |none=>rw[K6 q]at e;refine(x b u e).ac0 (λ_ _ _ z=>z) (λc z=>u7 hn z λo _ z'=>by cases z') λc u f z=>u7 hn z λo q z'=>?_;subst z';obtain⟨vs,e1⟩:=f;obtain⟨v,e2⟩:=(hc c o q).2;rw[e1]at e2;cases e2
def XY (U:Un fs [] (bL H cs) H2 h h')(k:eY P w H2 h')(hc:∀b o,cs.lookup b=some o->h.get? b=some o/\H b=none/\uZ o):Un fs [] H (N9 H2 cs) h h'/\eY P w (N9 H2 cs) h'/\∀b o,cs.lookup b=some o->H2 b=some (.frz o (.own b)):=by
 have hn:∀b o,cs.lookup b=some o->H b=none:=λb o q=>(hc b o q).2.1;have h2:∀b o,cs.lookup b=some o->H2 b=some (.frz o (.own b)):=λb o q=>U.frzs b o _ (dW q);refine⟨⟨λb o e n hb hx=>?_,λb o e n hb hx=>?_,λb o e n hx=>?_,λb o e hx=>U.there b o e hx,λb xs e=>?_,λb o u e=>?_,λb tb e=>?_⟩,OL k λb o q=>⟨h2 b o q,(hc b o q).2.2⟩,h2⟩
 ·cases q:cs.lookup b with
  |none=>exact U.keep b o e (by rw[P8 q];exact n) hb hx
  |some o'=>have:=(hc b o' q).1;rw[e]at this;cases this;exact(k b _<|h2 b o q).1
 ·cases q:cs.lookup b with
  |none=>exact U.slot b o e (by rw[P8 q];exact n) hb hx
  |some o'=>have:=(hc b o' q).1;rw[e]at this;cases this;exact⟨o.slots,(k b _<|h2 b o q).1⟩
 ·cases q:cs.lookup b with
  |none=>rw[K6 q];exact U.free b o e (by rw[P8 q];exact n) hx
  |some o'=>exact Z6 q
 ·exact u7 h2 (U.tups b xs<|C8 hn e) λo _ z=>by cases z
 ·refine u7 h2 (U.frzs b o u<|C8 hn e) λo' q z=>?_;rw[hn b o' q]at e;cases e
 ·exact u7 h2 (U.tbls b tb<|C8 hn e) λo _ z=>by cases z
def WI (U:Un fs [] (N9 H cs) H2 h h')(k:eY P w H2 h')(hc:∀b o,cs.lookup b=some o->h.get? b=some o/\H b=some (.frz o (.own b))/\b∉fs):Un fs [] H (bL H2 cs) h h'/\eY P w (bL H2 cs) h'/\Same H2 (bL H2 cs):=by
 have hn:∀b o,cs.lookup b=some o->H b=some (.frz o (.own b)):=λb o q=>(hc b o q).2.1;have h2:∀b o,cs.lookup b=some o->H2 b=none:=λb o q=>U.free b o (hc b o q).1 (Z6 q) (by simp);have h3:∀b o,cs.lookup b=some o->h'.get? b=some o:=λb o q=>U.keep b o (hc b o q).1 (Z6 q) (hc b o q).2.2 (by simp);have out:∀b,H b=none->cs.lookup b=none:=λb n=>by
  cases q:cs.lookup b with
  |none=>rfl
  |some o=>rw[hn b o q]at n;cases n
 refine⟨⟨λb o e n hb hx=>U.keep b o e (by rw[K6 (out b n)];exact n) hb hx,λb o e n hb hx=>U.slot b o e (by rw[K6 (out b n)];exact n) hb hx,λb o e n hx=>?_,λb o e hx=>U.there b o e hx,λb xs e=>?_,λb o u e=>?_,λb tb e=>?_⟩,
  OB k λb o q=>⟨h3 b o q,h2 b o q⟩,dN h2⟩
 ·rw[P8 (out b n)];exact U.free b o e (by rw[K6 (out b n)];exact n) hx
 ·exact C8 h2 (U.tups b xs (u7 hn e λo _ z=>by cases z))
 ·cases q:cs.lookup b with
  |none=>exact C8 h2 (U.frzs b o u (by rw[K6 q];exact e))
  |some o'=>rw[hn b o' q]at e;cases e;exact dW q
 ·exact C8 h2 (U.tbls b tb (u7 hn e λo _ z=>by cases z))
def CY (hn:∀b o,cs.lookup b=some o->H b=some (.frz o (.own b)))(q:W2 K H a xs):W2 K (N9 H cs) a xs:=by
 rcases q with(q|⟨o,q⟩)|q
 ·exact .inl (.inl (u7 hn q λo _ z=>by cases z))
 ·exact .inl (.inr ⟨o,u7 hn q λo _ z=>by cases z⟩)
 ·exact .inr q
def CW (hn:∀b o,cs.lookup b=some o->H b=some (.frz o (.own b)))(q:K4 K H a xs):K4 K (N9 H cs) a xs:=by
 rcases q with(q|⟨o,q⟩)|q
 ·exact .inl (.inl (u7 hn q λo _ z=>by cases z))
 ·exact .inl (.inr ⟨o,u7 hn q λo _ z=>by cases z⟩)
 ·exact .inr q
def ET {cs:M3}{φ:Heap->Prop}(hn:∀b o,cs.lookup b=some o->H b=some (.frz o (.own b)))(q:H b=some (.ext φ)):N9 H cs b=some (.ext φ):=by
 unfold N9;cases e:cs.lookup b with
 |none=>simpa[e]using q
 |some o=>have:=hn b o e;rw[q]at this;cases this
def Rep.hid (hn:∀b o,cs.lookup b=some o->H b=some (.frz o (.own b)))(r:Rep K H O v d):Rep K (N9 H cs) O v d:=r.mono (λ_ _ q=>CY hn q) (λ_ _ n q=>⟨n,CW hn q⟩) λb φ n q=>⟨n,ET hn q⟩
def Reps.hid (hn:∀b o,cs.lookup b=some o->H b=some (.frz o (.own b)))(r:Reps K H O v d):Reps K (N9 H cs) O v d:=r.mono (λ_ _ q=>CY hn q) (λ_ _ n q=>⟨n,CW hn q⟩) λb φ n q=>⟨n,ET hn q⟩
end
variable [Tabs]
section
variable(P:Program) (w:World) (K:PySem.W.Frag) (mg:bK) (base:Heap) (k:Nat)
def IA (n:Nat)(m:List D->R D)(H:Hp)(O:Addr->Prop)(a:Addr):Prop:=
 (∃oc od fd sl,H a=some (.frz ⟨oc,od,.func fd,sl⟩ (.own a)))/\
 ∀(A:Around) (outer:List Env) (s:Shared) (us:List Value) (vs:List V) (ds:List D) (d:D) (Q:VK) (E:XK),Room k A->Env0 P w K mg base A outer s H->l8 vs us->Reps K H O vs ds->ds.length=n->(∀a,O a->∃o,H a=some o/\Mt o)->Tb H->Z2 K O->m ds=.ok d->
  (∀v H',Same H H'->Rep K H' O v d->Q v H')->codeAny (model P w) A (.call (.ref a) ⟨us,[]⟩) (CR rE outer P w H s Q E) s
end
open Classical in
def callC (Φ:(List D->R D)->Hp->(Addr->Prop)->Addr->Prop) (i:Nat) (f:Ev->R (List D)):Ev->R D:=λρ=>match ρ[i]? with
 |some (.c m φ)=>if φ=Φ m then(f ρ).bind m else .bad
 |_=>.bad
section
def LY (i:Nat)(ha:IF X (e::es) f)(hl:BF f n)(hr:Room k X.A)(hN:X.N[i]?=some x:=by rfl)(hv:vJ X.env.scope x:=by first|exact aCh rfl|exact aBx (aCh rfl)|exact aBx (aBx rfl))(hd:(x==("__debug__":Str))=false:=by decide)(cg:(x==("__classdict__":Str))=false:=by decide)(he:starEach (e::es) X.env=(false,eval e X.env)::starEach es X.env:=by rfl)(bg:(backTo pos (starEach es X.env)).any (·.1)=false:=by rfl):
  PD X (.Call (.Name x p) (e::es) [] pos) (callC (IA X.prog X.w X.K X.mg X.base k n) i f):=by
 refine rK λpins s σ H Q I H9 O0 O ρ E q=>?_;unfold callC at q;cases e1:ρ[i]? with
 |none=>rw[e1]at q;exact q.elim
 |some sl=>
  rw[e1]at q;cases sl with
  |c m φ=>
   dsimp only at q;split at q
   ·rename_i hφ;subst hφ;obtain⟨a,h1,h2⟩:=E.slot i _ e1;obtain⟨⟨oc,od,fd,sl,hf⟩,_⟩:=h2 H O (Kp.refl _ _);refine aAZ (B4 (J2 hN hv hd cg pins s σ H (λv H'=>v=.ref a/\H'=H) I ⟨_,h1,rfl,rfl⟩) λu s1 ⟨v,H1,I1,r1,ev,eH⟩=>?_);subst ev eH;obtain rfl:u=aDy a:=r1;refine PySem.W.callWith_F ⟨oc,od,fd,sl,(I1.hok a _ hf).1⟩ (B4 (ha pos pins s1 σ H1 _ I1 ⟨H9,O0,O,ρ,E,GS.seq q⟩) λus s2 ⟨vs,H2,I2,rv,ds,e2,sm,rr,qq⟩=>⟨⟨oc,od,fd,sl,(I2.hok a _<|sm _ _ hf).1⟩,?_⟩) he bg;cases e3:m ds with
    |ex z=>rw[e3]at qq;exact(qq H2<|Same.refl _).elim
    |bad=>rw[e3]at qq;exact qq.elim
    |ok d=>
     rw[e3]at qq;have E2:=E.grow sm;refine wpAny_call (aDJ ((h2 H2 O<|Kp.of sm).2 X.A X.stack s2 us vs ds d Q (λ_ _ _=>False) hr I2.ae9 rv rr (hl ρ ds e2) E2.trk E2.tab (gW I2 O E2.trk) e3 qq) λr s' hq=>?_);cases r with
     |error e=>exact hq.elim
     |ok fl=>
      cases fl with
      |ret u=>exact I2.after hq
      |next=>exact aAi hq
      |brk=>exact aAi hq
      |cont=>exact aAi hq
   ·exact q.elim
  |_=>exact q.elim
end
def kj (K:PySem.W.Frag)(Φ:(List D->R D)->Hp->(Addr->Prop)->Addr->Prop)(M:D->(List D->R D)->(List D->R D)->R D):Sp:=λvs H Q _=>∃O v1 d1 a1 m1 a2 m2 d,vs=[v1,.ref a1,.ref a2]/\Rep K H O v1 d1/\(∀H2 O2,Kp H O H2 O2->Φ m1 H2 O2 a1)/\(∀H2 O2,Kp H O H2 O2->Φ m2 H2 O2 a2)/\
 (∀a,O a->∃o,H a=some o/\Mt o)/\Tb H/\Z2 K O/\M d1 m1 m2=.ok d/\∀v H',Same H H'->Rep K H' O v d->Q v H'
def jL (N:List Str)(Φ:(List D->R D)->Hp->(Addr->Prop)->Addr->Prop)(d1:D)(m1 m2:List D->R D):Ev:=.v d1::.c m1 (Φ m1)::.c m2 (Φ m2)::aCN (N.length-3) Sl.no
def AO {K:PySem.W.Frag}{H:Hp}{O:Addr->Prop}{N:List Str}{v1:V}{d1:D}{a1 a2:Addr}{m1 m2:List D->R D}{Φ:(List D->R D)->Hp->(Addr->Prop)->Addr->Prop}(r:Rep K H O v1 d1)(c1:∀H2 O2,Kp H O H2 O2->Φ m1 H2 O2 a1)(c2:∀H2 O2,Kp H O H2 O2->Φ m2 H2 O2 a2)
  (t:∀a,O a->∃o,H a=some o/\Mt o) (tb:Tb H):EnvOk K H O H O (start N [v1,.ref a1,.ref a2]) (jL N Φ d1 m1 m2)where
 len:=by simp[L2.start,jL]
 same:=Same.refl H
 sub:=λ_ h=>h
 trk:=t
 trk0:=λa h=>let⟨o,q,_⟩:=t a h;⟨o,q⟩
 tab:=tb
 slot:=λi sl h=>by
  match i with
  |0=>cases h;exact⟨v1,rfl,r⟩
  |1=>cases h;exact⟨a1,rfl,c1⟩
  |2=>cases h;exact⟨a2,rfl,c2⟩
  |i+3=>
   have h':(aCN (N.length-3) Sl.no)[i]?=some sl:=h;rw[aBn]at h';split at h'
   ·cases h';trivial
   ·cases h'
 inj:=λi j x y a h _ o=>by
  match i with
  |0=>cases h;exact o.elim
  |1=>cases h;exact o.elim
  |2=>cases h;exact o.elim
  |i+3=>
   have h':(aCN (N.length-3) Sl.no)[i]?=some x:=h;rw[aBn]at h';split at h'
   ·cases h';exact o.elim
   ·cases h'
section
variable{K:PySem.W.Frag}
def fnF {x qual:Str}{st:Stmt}{f:Addr}{fd:FuncData}{N ps:List Str}{k:Nat}{M:D->(List D->R D)->(List D->R D)->R D}{Φ:(List D->R D)->Hp->(Addr->Prop)->Addr->Prop}{F:Ev->R Out}(F0:Fun K x qual st f fd)(S:FnScope N ps (c5 st))(h3:ps.length=3)
  (hb:∀(cdv:Value) (A:Around) (outer:List Env) (s:Shared) (H:Hp) (E:XK),Room k (A.deeper (envOfC qual (c5 st) s.heap.objs.size f cdv))->bF (OY P w K mg base N qual (c5 st) f cdv A outer s H E) (o6 st) F)
  (hm:∀d1 m1 m2 d,M d1 m1 m2=.ok d->K3 (F (jL N Φ d1 m1 m2))=.ok d):FnOk P w K mg base rE (k+1) f fd ps (kj K Φ M):=by
 refine F0.ok S (λvs H Q E z=>by obtain⟨O,v1,d1,a1,m1,a2,m2,d,e,_⟩:=z;rw[e,h3];rfl) (λcdv A outer s H vs Q E hr z=>?_);obtain⟨O,v1,d1,a1,m1,a2,m2,d,e0,r,c1,c2,ht,tb,fk,e,q⟩:=z;subst e0;refine⟨_,hb cdv A outer s H E hr H O,O,_,AO r c1 c2 ht tb,fk,?_⟩;have h:=hm d1 m1 m2 d e;cases e1:F (jL N Φ d1 m1 m2)with
 |ok o=>
  rw[e1]at h;cases o with
  |rt d'=>have h':R.ok d'=R.ok d:=h;injection h' with h';subst h';exact q
  |nx ρ=>have h':R.ok D.non=R.ok d:=h;injection h' with h';subst h';exactλae H' O' E' _ _=>q .non H' E'.same .non
  |bk ρ=>cases h
  |ct ρ=>cases h
 |ex x=>rw[e1]at h;cases h
 |bad=>rw[e1]at h;cases h
end
structure NScope (ps ls fn:List Str)(sc:Scope):Prop where
 kind:sc.kind=.function
 co:sc.isCoroutine=false
 gen:sc.isGenerator=false
 nd:(ps++(ls++fn)).Nodup
 par:∀x∈ps,sc.names.lookup x=some .local
 fre:∀x∈fn,sc.names.lookup x=some .free
 all:∀x,sc.names.lookup x=some .free->x∈fn
 nocell:∀y∈sc.names,y.2≠.cell
abbrev YU (P:Program)(w:World)(K:PySem.W.Frag)(mg:bK)(base:Heap)(N:List Str)(env:Env)(A:Around)(outer:List Env)(s:Shared)(H:Hp):Cx where
 prog:=P
 w:=w
 K:=K
 mg:=mg
 base:=base
 A:=A.deeper env
 N:=N
 s9:=s
 H9:=H
 env:=env
 outer:=outer
 stack:=env::outer
 ex:=[]
 calm:=true
 fn:=λ_=>false
 pn:=[]
 xe:=λ_ _=>False
def K7 {α:Type}(vs:List α)(n:Nat)(no:α)(ws:List α):List α:=vs++(aCN n no++ws)
def fU {α:Type}{vs ws:List α}{n i:Nat}{no a:α}(h:(K7 vs n no ws)[i]?=some a):vs[i]?=some a\/a=no\/(vs.length+n<=i/\ws[i-(vs.length+n)]?=some a):=by
 unfold K7 at h;by_cases h1:i<vs.length
 ·rw[aAN h1]at h;exact .inl h
 ·rw[aAx (by lia)]at h;by_cases h2:i-vs.length<n
  ·rw[aAN (by simpa using h2),aBn,if_pos h2]at h;exact .inr (.inl (aAl h).symm)
  ·rw[aAx (by simpa using h2),aCm]at h;exact .inr (.inr ⟨by lia,by rw[show i-(vs.length+n)=i-vs.length-n by lia];exact h⟩)
def JN {α:Type}{vs ws:List α}{n i:Nat}{no a:α}(h:vs[i]?=some a):(K7 vs n no ws)[i]?=some a:=by unfold K7;rw[aAN (aAA.mp h).1];exact h
def MB {α:Type}{vs ws:List α}{n i:Nat}{no a:α}(h:ws[i]?=some a):(K7 vs n no ws)[vs.length+n+i]?=some a:=by unfold K7;rw[aAx (by lia),aAx (by simp;lia),aCm,show vs.length+n+i-vs.length-n=i by lia];exact h
section
variable{K:PySem.W.Frag}
def BW {A:Around}{outer:List Env}{s:Shared}{H:Hp}{us:List Value}{vs wv:List V}{h₁:Heap}{tk:Nat}(S:NScope ps ls fn scope)(hd:A.handled=none)(e0:Env0 P w K mg base A outer s H)(hl:vs.length=ps.length)(r:l8 vs us)(rf:wv.length=fn.length)
  (xn:∀(i:Nat) (x:Str) (v:V),fn[i]?=some x->wv[i]?=some v->∃c u,clos.lookup x=some c/\RelV v u/\s.heap.IsCell c (some u)) (hcc:∀x c,clos.lookup x=some c->(∃v,s.heap.IsCell c v)/\H c=none)
  (mo:∀x y c,clos.lookup x=some c->clos.lookup y=some c->x=y) (yb:h₁.Ns s.heap.objs.size (λx=>(ps.zip us).reverse.lookup x)) (hk:∀b o,s.heap.get? b=some o->h₁.get? b=some o):
  Inv (YU P w K mg base (ps++(ls++fn)) (PySem.W.envX qual scope s.heap.objs.size fa cd clos) A outer s H) [] (K7 (vs.map some) ls.length none (wv.map some)) H {s with heap:=h₁,toks:=tk}:=by
 have noA:∀b:Addr,b∉(YU P w K mg base (ps++(ls++fn)) (PySem.W.envX qual scope s.heap.objs.size fa cd clos) A outer s H).ex:=λb z=>absurd (show b∈([]:List Addr)from z) (by simp);have nd1:ps.Nodup:=(aCX.mp S.nd).1;refine⟨⟨e0.mod,S.kind,rfl,rfl,aAj _,mo,λy hy=>?_,λy c hf _=>(by cases hf),λ_=>hd,aFK e0.frames,.inr ⟨rfl,rfl⟩,λb z=>absurd z (noA b),e0.bs,e0.bsz,λb _ _=>noA b,λb z=>absurd z (noA b),e0.funs,e0.frf⟩,
  rfl,e0.bare,Un.kept hk,⟨_,yb,λi y v h1 h2 h3=>?_⟩,λy c h=>?_,e0.hok.fresh (aAj _),λy c h=>(hcc y c h).2,λp hp=>absurd (show p∈([]:M3)from hp) (by simp),e0.hok.kept hk,?_⟩
 ·have hy:scope.names.lookup y=some .cell\/scope.names.lookup y=some .free:=hy;rcases hy with hy|hy
  ·exact absurd rfl (S.nocell _<|PySem.mem_of_lookup hy)
  ·have hm:=S.all y hy;obtain⟨i,hi,e⟩:=aBA hm;have hw:i<wv.length:=by rw[rf];exact hi
   obtain⟨c,u,q,_⟩:=xn i y wv[i] (by rw[aAf hi,e]) (aAf hw);exact⟨c,q⟩
 ·have hN:(ps++(ls++fn))[i]?=some y:=h1;rcases fU h2 with h2|h2|⟨h4,h2⟩
  ·rw[aAK]at h2;cases e:vs[i]? with
   |none=>rw[e]at h2;cases h2
   |some a=>
    rw[e]at h2;have ea:a=v:=aAl (aAl h2);subst ea;obtain⟨u,hu,rv⟩:=r.get e;have hi:i<ps.length:=by rw[<-hl];exact(aAA.mp e).1
    rw[aAN hi]at hN;refine⟨u,rv,.inl ⟨S.par y (aAv hN),?_⟩⟩;refine aW ?_ ?_
    ·rw[aFv];refine(List.reverse_perm _).nodup_iff.mpr ?_;rw[List.map_fst_zip (by rw[<-hl,r.length];exact aAj _)];exact nd1
    ·rw[aCd];exact aAv (i:=i) (by rw[aBv];exact⟨hN,hu⟩)
  ·cases h2
  ·rw[aAh]at h4 h2;rw[aAK]at h2;cases e:wv[i-(vs.length+ls.length)]? with
   |none=>rw[e]at h2;cases h2
   |some a=>rw[e]at h2;have ea:a=v:=aAl (aAl h2);subst ea;rw[aAx (by lia),aAx (by lia),<-hl,show i-vs.length-ls.length=i-(vs.length+ls.length)by lia]at hN;obtain⟨c,u,q1,q2,q3⟩:=xn _ y a hN e;exact⟨u,q2,.inr ⟨.inr (S.fre y<|aAv hN),c,q1,q3.keeps hk⟩⟩
 ·obtain⟨⟨v,z⟩,_⟩:=hcc y c h;exact⟨v,z.keeps hk⟩
 ·unfold K7;simp[hl,rf]
def zT {H:Hp}{O:Addr->Prop}{vs wv:List V}{ds wd:List D}{n:Nat}(r:Reps K H O vs ds)(r2:Reps K H O wv wd)(t:∀a,O a->∃o,H a=some o/\Mt o)(tb:Tb H):
  EnvOk K H O H O (K7 (vs.map some) n none (wv.map some)) (K7 (ds.map Sl.v) n .no (wd.map Sl.v))where
 len:=by unfold K7;simp[r.length,r2.length]
 same:=Same.refl H
 sub:=λ_ h=>h
 trk:=t
 trk0:=λa h=>let⟨o,q,_⟩:=t a h;⟨o,q⟩
 tab:=tb
 slot:=λi sl h=>by
  rcases fU h with h|h|⟨h1,h⟩
  ·rw[aAK]at h;cases e:ds[i]? with
   |none=>rw[e]at h;cases h
   |some d=>rw[e]at h;have h':Sl.v d=sl:=aAl h;subst h';obtain⟨v,e1,e2⟩:=r.get e;exact⟨v,JN (by rw[aAK,e1];rfl),e2⟩
  ·subst h;trivial
  ·rw[aAK,aAh]at h;rw[aAh]at h1;cases e:wd[i-(ds.length+n)]? with
   |none=>rw[e]at h;cases h
   |some d=>rw[e]at h;have h':Sl.v d=sl:=aAl h;subst h';obtain⟨v,e1,e2⟩:=r2.get e;refine⟨v,?_,e2⟩;have:=MB (vs:=vs.map some) (n:=n) (no:=(none:Option V)) (ws:=wv.map some) (i:=i-(ds.length+n)) (a:=some v) (by rw[aAK,e1];rfl);rw[aAh,r.length,show ds.length+n+(i-(ds.length+n))=i by lia]at this;exact this
 inj:=λi j x y a h _ o=>by
  rcases fU h with h|h|⟨_,h⟩
  ·obtain⟨d,_,rfl⟩:=aAm.mp (aAv h);exact o.elim
  ·subst h;exact o.elim
  ·obtain⟨d,_,rfl⟩:=aAm.mp (aAv h);exact o.elim
def WT {name:Str}{params:Arguments}{body:List Stmt}{doc pm ctv:Value}{c':Addr}{oc:Obj}{k:Nat}{m:List D->R D}{F:Ev->R Out}{H:Hp}{O:Addr->Prop}{cs:M3}{wv:List V}{wd:List D}(S:NScope ps ls fn scope)
  (hb:∀(A:Around) (outer:List Env) (s:Shared) (H:Hp),Room k (A.deeper (PySem.W.envX qual scope s.heap.objs.size fa (.ref c') clos))->bF (YU P w K mg base (ps++(ls++fn)) (PySem.W.envX qual scope s.heap.objs.size fa (.ref c') clos) A outer s H) body F)
  (hm:∀ds d,ds.length=ps.length->m ds=.ok d->K3 (F (K7 (ds.map Sl.v) ls.length .no (wd.map Sl.v)))=.ok d)
  (wo:∀(s:Shared) (us:List Value),us.length=ps.length->BindsTo s (PySem.W.fnX name qual params body scope clos .none .none doc pm none (.ref c') ctv) ⟨us,[]⟩ (ps.zip us))
  (hfa:H fa=some (.frz (PySem.W.fnMade name qual params body scope clos doc pm c' ctv) (.own fa))) (hc:H c'=some (.frz oc (.own c'))) (cb:∃vs t,oc.data=.fields vs/\vs[1]?=some (.str qual t))
  (ve:∀b o,cs.lookup b=some o->H b=some (.frz o (.own b))/\uZ o) (xn:∀(i:Nat) (x:Str) (v:V),fn[i]?=some x->wv[i]?=some v->∃c u o,clos.lookup x=some c/\cs.lookup c=some o/\o.data=.cell (some u)/\RelV v u)
  (hcc:∀x c,clos.lookup x=some c->∃o,cs.lookup c=some o) (mo:∀x y c,clos.lookup x=some c->clos.lookup y=some c->x=y) (rf:wv.length=fn.length) (hr:Reps K H O wv wd) (hO:∀a,O a->∃o,H a=some o/\Mt o):
  ∀H2 O2,Kp H O H2 O2->IA P w K mg base (k+1) ps.length m H2 O2 fa:=by
 intro H2 O2 kp;have fz:∀b o u,H b=some (.frz o u)->H2 b=some (.frz o u):=λb o u e=>(kp b _ e λz=>by obtain⟨o',q,mt⟩:=hO b z;rw[e]at q;cases q;exact mt).1;have zg:∀b o,cs.lookup b=some o->H2 b=some (.frz o (.own b)):=λb o q=>fz _ _ _ (ve b o q).1;refine⟨⟨_,_,_,_,fz _ _ _ hfa⟩,λA outer s us vs ds d Q E nh e0 rv rr hl ht tb fk em q=>?_⟩;have KX:K.In s.heap:=e0.mod.kin.keeps λb o e=>(e0.bs b o e).1;have lim:s.heap.NoLimit:=e0.mod.nolimit.keeps λb o e=>(e0.bs b o e).1;have gfa:=(e0.hok fa _<|fz _ _ _ hfa).1;have goc:=(e0.hok c' _<|fz _ _ _ hc).1;obtain⟨ovs,ot,od1,od2⟩:=cb;have hidn:∀b,H2 b=none->N9 H2 cs b=none:=λb n=>by
  cases z:cs.lookup b with
  |none=>rw[K6 z];exact n
  |some o=>exact Z6 z
 have e1:Env0 P w K mg base A outer s (N9 H2 cs):=⟨e0.frames,e0.mod,λb o e=>⟨(e0.bs b o e).1,hidn b (e0.bs b o e).2⟩,e0.bsz,e0.funs,λb hb=>hidn b (e0.frf b hb),OL e0.hok λb o z=>⟨zg b o z,(ve b o z).2⟩,e0.bare⟩;have zh:∀b o,cs.lookup b=some o->s.heap.get? b=some o:=λb o z=>(e0.hok b _<|zg b o z).1;have cfs:∀b o,cs.lookup b=some o->b∉vU outer:=λb o z hb=>by have:=e0.frf b hb;rw[zg b o z]at this;cases this
 have hul:us.length=ps.length:=by rw[<-rv.length,rr.length];exact hl
 have hvl:vs.length=ps.length:=by rw[rr.length];exact hl
 have rwv:Reps K (N9 H2 cs) O2 wv wd:=(kp.ac9 hO fk hr).hid zg;have tb1:Tb (N9 H2 cs):=λp hp=>u7 zg (tb p hp) λo _ z=>by cases z
 have ht1:∀a,O2 a->∃o,N9 H2 cs a=some o/\Mt o:=λa z=>by obtain⟨o,q1,q2⟩:=ht a z;exact⟨o,u7 zg q1 λo' _ z'=>by subst z';exact q2,q2⟩
 let Q':VK:=λv H3=>(∀b o,cs.lookup b=some o->H3 b=none)->Q v (bL H3 cs)
 have qq:∀v H',Same (N9 H2 cs) H'->Rep K H' O2 v d->Q' v H':=λv H' sm r hn=>by
  refine q v _ (λb u e=>?_) (r.same<|dN hn);cases z:cs.lookup b with
  |none=>exact C8 hn (sm b u (by rw[K6 z];exact e))
  |some o=>rw[zg b o z]at e;cases e;exact dW z
 have fin:∀{u:Value} {s':Shared},CE outer P w (N9 H2 cs) s Q' u s'->CE outer P w H2 s Q u s':=λ{u s'} ⟨v,H3,os,bare,un,hok,r,qv⟩=>by obtain⟨U2,k2,ye⟩:=WI un hok λb o z=>⟨zh b o z,zg b o z,cfs b o z⟩;exact⟨v,_,os,bare,U2,k2,r,qv λb o z=>un.free b o (zh b o z) (Z6 z) (by simp)⟩
 refine codeAny_call_def (fd:=PySem.W.fnX name qual params body scope clos .none .none doc pm none (.ref c') ctv) (body:=body) (binds:=ps.zip us) nh.depth gfa rfl lim ⟨c',oc,ovs,ot,rfl,goc,od1,od2⟩ rfl (wo s us hul) S.nocell (λy hy=>S.par y.1 (aDM hy).1) (λh₁ yb hk=>?_) S.co S.gen S.kind;show wpAny (model P w) (A.deeper<|PySem.W.envX qual scope s.heap.objs.size fa (.ref c') clos) (execs body<|PySem.W.envX qual scope s.heap.objs.size fa (.ref c') clos) _ _ _;have I:=BW (qual:=qual) (fa:=fa) (cd:=.ref c') (clos:=clos) (tk:=s.toks+(ps.zip us).length) S nh.hd e1 hvl rv rf (λi x v h1 h2=>by
   obtain⟨c,u,o,q1,q2,q3,q4⟩:=xn i x v h1 h2;exact⟨c,u,q1,q4,o,zh c o q2,q3⟩) (λx c h=>by
   obtain⟨o,z⟩:=hcc x c h;obtain⟨v,z2⟩:=(ve c o z).2;exact⟨⟨v,o,zh c o z,z2⟩,Z6 z⟩) mo yb hk
 have hx:=hb A outer s (N9 H2 cs) (nh.deeper _) (N9 H2 cs) O2 [] _ _ _ {nx:=λ_ H'=>Q' .non H',rt:=Q'} I ⟨O2,_,zT (rr.hid zg) rwv ht1 tb1,fk,?_⟩
 ·refine aCs hx (λfl s' hs=>?_) λe s' hs=>hs.elim;have fin2:∀{ae:St} {H':Hp} {v:V} {u:Value},Inv (YU P w K mg base (ps++(ls++fn)) (PySem.W.envX qual scope s.heap.objs.size fa (.ref c') clos) A outer s<|N9 H2 cs) [] ae H' s'->RelV v u->Q' v H'->CE outer P w H2 s Q u s':=
   λ{ae H' v u} J rv q=>fin ⟨v,H',J.os,J.bare,J.base,J.hok,rv,q⟩
  cases fl with
  |ret u=>obtain⟨v,ae,H',J,rv,q⟩:=hs;exact fin2 J rv q
  |next=>obtain⟨ae,H',J,q⟩:=hs;exact fin2 (v:=V.non) (u:=Value.none) J rfl q
  |brk=>obtain⟨_,_,_,q⟩:=hs;exact aAi q
  |cont=>obtain⟨_,_,_,q⟩:=hs;exact aAi q
 ·have h:=hm ds d hl em;cases e1:F (K7 (ds.map Sl.v) ls.length .no (wd.map Sl.v))with
  |ok o=>
   rw[e1]at h;cases o with
   |rt d'=>have h':R.ok d'=R.ok d:=h;injection h' with h';subst h';exact qq
   |nx ρ=>have h':R.ok D.non=R.ok d:=h;injection h' with h';subst h';exactλae H' O' E' _ _=>qq .non H' E'.same .non
   |bk ρ=>cases h
   |ct ρ=>cases h
  |ex x=>rw[e1]at h;cases h
  |bad=>rw[e1]at h;cases h
end
def iS (mg:bK)(base:Heap):Prop:=∃bm ob,mg "__builtins__"=some (.ref bm)/\bm≠builtinsNs/\base.get? bm=some ob/\ob.cls=.type "module"/\ob.dict=some builtinsNs/\ob.data=.plain
def rF:∀(l:List Value),TriplesOk l->codeAmong pos l=some x->codeAmong pos (l++[rawInt a,rawInt b,c])=some x:=λl h e=>by
 fun_induction TriplesOk l with
 |case1=>simp[codeAmong]at e
 |case2 a' t b' u y rest ih=>
  simp only[aAF,codeAmong]at e⊢;split at e
  ·rename_i hc;rw[if_pos hc];exact e
  ·rename_i hc;rw[if_neg hc];exact ih h e
 |case3 l h1 h2=>exact h.elim
def LZ (ne:¬(a=pos.line/\b=pos.col)):∀(l:List Value),TriplesOk l->codeAmong pos l=none->codeAmong pos (l++[rawInt a,rawInt b,c])=none:=λl h e=>by
 fun_induction TriplesOk l with
 |case1=>simp only[aBC,rawInt,codeAmong];rw[if_neg];simp only[aAL,beq_iff_eq];exact ne
 |case2 a' t b' u y rest ih=>
  simp only[aAF,codeAmong]at e⊢;split at e
  ·cases e
  ·rename_i hc;rw[if_neg hc];exact ih h e
 |case3 l h1 h2=>exact h.elim
def gB (H:Hp)(fa:Addr)(name qual:Str)(params:Arguments)(body:List Stmt)(scope:Scope)(clos:List (Str×Addr)):Prop:=
 ∃c' oc doc pm ctv,H fa=some (.frz (PySem.W.fnMade name qual params body scope clos doc pm c' ctv) (.own fa))/\H c'=some (.frz oc (.own c'))/\∃vs t,oc.data=.fields vs/\vs[1]?=some (.str qual t)
def gB.same (h:gB H fa name qual params body scope clos)(s:Same H H'):gB H' fa name qual params body scope clos:=
 let⟨c',oc,doc,pm,ctv,h1,h2,h3⟩:=h;⟨c',oc,doc,pm,ctv,s _ _ h1,s _ _ h2,h3⟩
section
def wI {Q:Flow->Shared->Prop}(I:Inv X pins σ H s)(hB:iS X.mg X.base)(jv:X.env.code=.ref c)(hK:PySem.W.codeHdIn X.K c Pt=true)(hT:H Pt=some (.tbl tb))(hq:qualnameIn X.env name name=qual)(hm:(pos,qual)∈tb)(hu:∀p∈tb,p.1.line=pos.line->p.1.col=pos.col->p.2=qual)(xn:closureFor scope X.env=pure clos)(hd0:params.defaults=[])(hk0:params.kw_defaults=[])(ha:annTrees params none X.env=[])(hN:X.N.Nodup)(hi:X.N[i]?=some name)(hx:Loc X.env.scope name)(hf:X.fn name=true\/X.env.scope.names.lookup name=some .local)(h:∀fa H' s',Inv X pins (σ.set i (some (.ref fa))) H' s'->Same H H'->gB H' fa name qual params body scope clos->Q .next s'):wpAny (model X.prog X.w) X.A (exec (.FunctionDef name params body [] none [] scope none name pos) X.env) Q X.xe s:=by
 refine PySem.W.nestDef_K hd0 hk0 ha ?_;rw[hq];have hg:s.heap.Ns mainGlobals X.mg:=I.mod.glob.keeps I.bk;have C:PySem.W.CodeHd s.heap c Pt:=PySem.W.codeHd_of_K I.kIn hK;obtain⟨ps,hP,hTr,hTb⟩:=I.hok Pt _ hT;have hgP:mainGlobals≠Pt:=λq=>by obtain⟨o,es,ep,e,hd,_⟩:=hg;rw[q,hP]at e;cases e;cases hd
 have hb:s.heap.BuiltinsAt X.mg Pt:=by
  obtain⟨bm,ob,b1,b2,b3,b4,b5,b6⟩:=hB;have b3':=I.bk _ _ b3;refine⟨bm,ob,b1,b2,λq=>?_,λq=>?_,b3',b4,b5,b6⟩
  ·obtain⟨o,es,ep,e,hd,_⟩:=hg;rw[<-q,b3']at e;cases e;rw[hd]at b6;cases b6
  ·rw[q,hP]at b3';cases b3';cases b4
 have neP:∀b,H b=none->b≠Pt:=λb n z=>by rw[z,hT]at n;cases n
 have neL:X.env.locals≠Pt:=neP _ I.free;rcases hTb _ hm with hnf|⟨c',oc,vs,t,hf',hc',cg⟩
 ·refine PySem.W.makeFunction_K (mg:=X.mg) xn I.ok.glob hg jv C hP hTr hnf hgP hb λc' ctv doc h' tk hx' hge ah hrec htb=>?_;obtain⟨c2,oc,vs,t,e2,cb,hd,hv⟩:=hrec;cases e2;have old:∀b u,H b=some u->b<s.heap.objs.size:=λb u e=>I.hok.lt e;have hcN:H c'=none:=I.hok.fresh hge;have hfN:H h'.objs.size=none:=I.hok.fresh (aAu hge<|aDl ah);have ncf:c'≠h'.objs.size:=aAk ah;have sm:Same H (upd (upd H c'<|.frz oc (.own c')) h'.objs.size<|.frz (PySem.W.fnMade name qual params body scope clos doc ((X.mg "__name__").getD .none) c' ctv) (.own h'.objs.size)):=λb u e=>by rw[j5 (j9 e hfN),j5 (j9 e hcN)];exact e
  have nu:∀b o,b≠Pt->s.heap.get? b=some o->(h'.push<|PySem.W.fnMade name qual params body scope clos doc ((X.mg "__name__").getD .none) c' ctv).get? b=some o:=λb o hb e=>aAc _ (hx' b o hb e);have lts:∀b o,s.heap.get? b=some o->b≠c'/\b≠h'.objs.size:=λb o e=>⟨aAk (aAt (aAg e) hge),aAk (aAt (aAg e)<|aAu hge<|aDl ah)⟩;have I1:=I.step (H':=upd (upd H c'<|.frz oc (.own c')) h'.objs.size (.frz (PySem.W.fnMade name qual params body scope clos doc ((X.mg "__name__").getD .none) c' ctv) (.own h'.objs.size)))
   (h':=h'.push (PySem.W.fnMade name qual params body scope clos doc ((X.mg "__name__").getD .none) c' ctv)) (g':=s.gens) (t':=tk) (d':=s.drawn) (ch:=[]) (λ_ z=>nomatch z) (λb o _ _ _ e n=>nu b o (neP b n) e) (λb o _ _ _ e n=>⟨o.slots,nu b o (neP b n) e⟩)
   (λb o _ e n=>by rw[j5 (lts b o e).2,j5 (lts b o e).1];exact n) (λb o _ e=>by
    by_cases hb:b=Pt
    ·subst hb;exact⟨_,aAc _ htb⟩
    ·exact⟨o,nu b o hb e⟩) (λb xs e=>sm _ _ e) (λb o u e=>sm _ _ e) (λb tb e=>sm _ _ e) (λm' hm'=>by
    obtain⟨o,es,ep,e,r⟩:=hm';exact⟨o,es,ep,nu _ o neL e,r⟩) (λb u e=>by
    by_cases hbf:b=h'.objs.size
    ·subst hbf;rw[i9]at e;cases e;exact⟨aAr _ rfl,_,aAr _ rfl⟩
    ·rw[j5 hbf]at e;by_cases hbc:b=c'
     ·subst hbc;rw[i9]at e;cases e;exact⟨aAc _ cb,_,aAc _ cb⟩
     ·rw[j5 hbc]at e;by_cases hbP:b=Pt
      ·subst hbP;rw[hT]at e;cases e;refine⟨_,aAc _ htb,?_,λp hp=>?_⟩
       ·rw[aFY];exact TriplesOk_snoc _ _ _ _ hTr
       ·rw[aFY];show codeAmong p.1 (ps.toList++[rawInt pos.line,rawInt pos.col,.ref c'])=none\/_;by_cases hpp:(pos.line:Int)=p.1.line/\(pos.col:Int)=p.1.col
        ·rcases hTb p hp with h0|⟨c3,oc3,vs3,t3,h0,h1,h2⟩
         ·have e1:pos.line=p.1.line:=by exact_mod_cast hpp.1
          have e2:pos.col=p.1.col:=by exact_mod_cast hpp.2
          refine .inr ⟨c',oc,vs,t,?_,by rw[j5 ncf,i9],hd,?_⟩
          ·rw[e1,e2];exact codeAmong_snoc _ hTr h0
          ·rw[hu p hp e1.symm e2.symm];exact hv
         ·exact .inr ⟨c3,oc3,vs3,t3,rF _ hTr h0,sm _ _ h1,h2⟩
        ·rcases hTb p hp with h0|⟨c3,oc3,vs3,t3,h0,h1,h2⟩
         ·exact .inl (LZ hpp _ hTr h0)
         ·exact .inr ⟨c3,oc3,vs3,t3,rF _ hTr h0,sm _ _ h1,h2⟩
      ·refine(I.hok b u e).ac0 (λb2 v hc q=>nu b2 v (λz=>?_) q) (λb2 z=>sm _ _ z) λb2 u _ z=>sm _ _ z;rcases hc with hc|hc
       ·exact hbP (hc▸z)
       ·rw[z,hT]at hc;cases hc) I.bare
  refine L0 I1 hN hi hx (show RelV (.ref h'.objs.size) _ from rfl) (λs' I'=>h _ _ s' I' sm ⟨c',oc,doc,_,ctv,i9,by rw[j5 ncf,i9],vs,t,hd,hv⟩) hf
 ·refine PySem.W.makeFunction_hit (mg:=X.mg) xn I.ok.glob hg jv C hP hTr hf' hb λctv doc h' tk hk gg=>?_;have hfN:H h'.objs.size=none:=I.hok.fresh gg;have I1:=I.laid (a:=h'.objs.size) (o:=.frz (PySem.W.fnMade name qual params body scope clos doc ((X.mg "__name__").getD .none) c' ctv) (.own h'.objs.size)) (h':=h'.push (PySem.W.fnMade name qual params body scope clos doc ((X.mg "__name__").getD .none) c' ctv)) (t':=tk)
   (λb u e=>aAc _ (hk b u e)) gg ⟨aAr _ rfl,_,aAr _ rfl⟩
  refine L0 I1 hN hi hx (show RelV (.ref h'.objs.size) _ from rfl) (λs' I'=>h _ _ s' I' (j3 hfN _) ⟨c',oc,doc,_,ctv,i9,j3 hfN _ _ _ hc',vs,t,cg⟩) hf
end
structure Nst where
 name:Str
 qual:Str
 params:Arguments
 body:List Stmt
 scope:Scope
 pos:Pos
 ps:List Str
 ls:List Str
 fn:List Str
 js:List Nat
 F:Ev->R Out
 mm:List D->List D->R D
 i:Nat
abbrev Nst.stmt (n:Nst):Stmt:=.FunctionDef n.name n.params n.body [] none [] n.scope none n.name n.pos
structure NstOk (X:Cx)(k:Nat)(n:Nst):Prop where
 sc:NScope n.ps n.ls n.fn n.scope
 one:n.ps.length=1
 body:∀(fa:Addr) (cd:Value) (clos:List (Str×Addr)) (A:Around) (outer:List Env) (s:Shared) (H:Hp),Room k (A.deeper (PySem.W.envX n.qual n.scope s.heap.objs.size fa cd clos))->bF (YU X.prog X.w X.K X.mg X.base (n.ps++(n.ls++n.fn)) (PySem.W.envX n.qual n.scope s.heap.objs.size fa cd clos) A outer s H) n.body n.F
 mm:∀wd ds d,wd.length=n.fn.length->ds.length=n.ps.length->n.mm wd ds=.ok d->K3 (n.F (K7 (ds.map Sl.v) n.ls.length .no (wd.map Sl.v)))=.ok d
 bind:∀(clos:List (Str×Addr)) (doc pm cd ctv:Value) (us:List Value),us.length=n.ps.length->bindArgs (PySem.W.fnX n.name n.qual n.params n.body n.scope clos .none .none doc pm none cd ctv) ⟨us,[]⟩=pure (n.ps.zip us)
 len:n.js.length=n.fn.length
 at_:∀(i j:Nat) (x:Str),n.js[i]?=some j->n.fn[i]?=some x->X.N[j]?=some x/\X.env.scope.names.lookup x=some .cell
 d0:n.params.defaults=[]
 k0:n.params.kw_defaults=[]
 nm:X.N[n.i]?=some n.name
 lc:Loc X.env.scope n.name
 st:X.fn n.name=true\/X.env.scope.names.lookup n.name=some .local
 dbg:(n.name==("__debug__":Str))=false
 cdt:(n.name==("__classdict__":Str))=false
structure ClosOk (X:Cx)(n:Nst)(clos:List (Str×Addr)):Prop where
 eq:closureFor n.scope X.env=pure clos
 ann:annTrees n.params none X.env=[]
 qn:qualnameIn X.env n.name n.name=n.qual
 sub:∀x c,clos.lookup x=some c->X.env.cells.lookup x=some c
 has:∀x∈n.fn,∃c,clos.lookup x=some c
def bN:List Nat->Ev->R (List D)
 |[],_=>.ok []
 |j::js,ρ=>(aD j ρ).bind λd=>(bN js ρ).bind λds=>.ok (d::ds)
theorem OD {K:PySem.W.Frag}{H9 H:Hp}{O0 O:Addr->Prop}{σ:St}{ρ:Ev}(E:EnvOk K H9 O0 H O σ ρ):∀{js:List Nat} {wd:List D},bN js ρ=.ok wd->∃wv,Reps K H O wv wd/\wv.length=js.length/\∀(i j:Nat) (v:V),js[i]?=some j->wv[i]?=some v->σ[j]?=some (some v)
 |[],wd,h=>by cases h;exact⟨[],.nil,rfl,λi j v e=>by simp at e⟩
 |j::js,wd,h=>by
  unfold bN at h;cases e1:aD j ρ with
  |ok d=>
   rw[e1,R.aa0]at h;cases e2:bN js ρ with
   |ok ds=>
    rw[e2,R.aa0]at h;cases h;obtain⟨wv,r,hl,at_⟩:=OD E e2;have:ρ[j]?=some (.v d):=by
     unfold aD at e1;split at e1
     ·rename_i q;cases e1;exact q
     ·cases e1
    obtain⟨v,h1,h2⟩:=E.val j d this;refine⟨v::wv,.cons h2 r,by simp[hl],λi j' v' q1 q2=>?_⟩;cases i with
    |zero=>simp at q1 q2;subst q1 q2;exact h1
    |succ i=>exact at_ i j' v' (by simpa using q1) (by simpa using q2)
   |ex z=>rw[e2]at h;cases h
   |bad=>rw[e2]at h;cases h
  |ex z=>rw[e1]at h;cases h
  |bad=>rw[e1]at h;cases h
section
def S1 (h:Heap)(cl:List (Str×Addr)):List (Addr×Obj):=cl.filterMap λp=>(h.get? p.2).map λo=>(p.2,o)
def K1 (e:(S1 h cl).lookup b=some o):h.get? b=some o/\∃x,(x,b)∈cl:=by
 obtain⟨p,hp,q⟩:=aBU.mp (mem_lookup e);cases z:h.get? p.2 with
 |none=>rw[z]at q;cases q
 |some o'=>rw[z]at q;have q':(p.2,o')=(b,o):=aAl q;injection q' with q1 q2;subst q1 q2;exact⟨z,p.1,hp⟩
def lE (hm:(x,b)∈cl)(e:h.get? b=some o):∃o',(S1 h cl).lookup b=some o':=by
 have:(b,o)∈S1 h cl:=aBU.mpr ⟨(x,b),hm,by show(h.get? b).map _=_;rw[e];rfl⟩;cases q:(S1 h cl).lookup b with
 |some o'=>exact⟨o',rfl⟩
 |none=>have:=List.lookup_eq_none_iff.mp q (b,o) this;simp at this
def fq (X:Cx)(n1 n2:Nst)(clos1 clos2:List (Str×Addr))(f:Ev->R D)(M:D->(List D->R D)->(List D->R D)->R D):TE:=λσ H Q=>∃H9 O0 O ρ xt fa2,EnvOk X.K H9 O0 H O σ ρ/\σ[n1.i]?=some (some<|V.ref xt)/\σ[n2.i]?=some (some<|V.ref fa2)/\
 gB H xt n1.name n1.qual n1.params n1.body n1.scope clos1/\gB H fa2 n2.name n2.qual n2.params n2.body n2.scope clos2/\RC X H O ((f ρ).bind λd1=>(bN n1.js ρ).bind λw1=>(bN n2.js ρ).bind λw2=>M d1 (n1.mm w1) (n2.mm w2)) Q
def vZ {n:Nst}{clos clA:List (Str×Addr)}{k:Nat}{pins:M3}{σ:St}{H:Hp}{s:Shared}{H9:Hp}{O0 O:Addr->Prop}{ρ:Ev}{fa:Addr}{wd:List D}(ok:NstOk X k n)(hc:ClosOk X n clos)(I:Inv X pins σ H s)(E:EnvOk X.K H9 O0 H O σ ρ)
  (hA:∀p∈clos,p∈clA) (hAc:∀x b,(x,b)∈clA->X.env.cells.lookup x=some b) (made:gB H fa n.name n.qual n.params n.body n.scope clos) (hw:bN n.js ρ=.ok wd):
  ∀H2 O2,Kp (bL H (S1 s.heap clA)) O H2 O2->IA X.prog X.w X.K X.mg X.base (k+1) 1 (n.mm wd) H2 O2 fa:=by
 obtain⟨c',oc,doc,pm,ctv,h1,h2,h3⟩:=made;obtain⟨wv,qm,hl,at_⟩:=OD E hw;have hn:∀b o,(S1 s.heap clA).lookup b=some o->H b=none:=λb o q=>by obtain⟨_,x,hm⟩:=K1 q;exact I.freeC x b (hAc x b hm)
 have sm:=dN hn
 suffices key:∀H2 O2,Kp (bL H<|S1 s.heap clA) O H2 O2->IA X.prog X.w X.K X.mg X.base (k+1) n.ps.length (n.mm wd) H2 O2 fa by rw[ok.one]at key;exact key
 refine WT (cs:=S1 s.heap clA) (wv:=wv) (wd:=wd) (F:=n.F) ok.sc (λA outer s H hr=>ok.body fa (.ref c') clos A outer s H hr) (λds d mr e=>ok.mm wd ds d (by rw[<-qm.length,hl,ok.len]) mr e) (λs us mr=>.of_eq (ok.bind clos doc pm (.ref c') ctv us mr)) (sm _ _ h1) (sm _ _ h2) h3
  (λb o q=>⟨dW q,?_⟩) (λi x v q1 q2=>?_) (λx c q=>?_) (λx y c q1 q2=>I.ok.inj x y c (hc.sub x c q1) (hc.sub y c q2)) (by rw[hl,ok.len]) (qm.same sm) (E.grow sm).trk
 ·obtain⟨e1,x,hm⟩:=K1 q;obtain⟨v,o',e2,e3⟩:=I.cell x b (hAc x b hm);rw[e1]at e2;cases e2;exact⟨v,e3⟩
 ·have hi:i<n.js.length:=by rw[ok.len];exact(aAA.mp q1).1
  have ej:n.js[i]?=some n.js[i]:=aAf hi;obtain⟨hN,hk⟩:=ok.at_ i _ x ej q1;have hσ:=at_ i _ v ej q2;obtain⟨m,yb,hloc⟩:=I.loc;obtain⟨u,ru,look⟩:=hloc _ x v hN hσ (.inr (.inl hk));rcases look with⟨jg,_⟩|⟨_,c,df,o,ho,hd⟩
  ·have hk'':X.env.scope.names.lookup x=some .local:=jg;rw[hk]at hk'';cases hk''
  ·obtain⟨c2,q3⟩:=hc.has x (aAv q1);have q4:=hc.sub x c2 q3;rw[df]at q4;cases q4;obtain⟨o',q5⟩:=lE (hA _<|PySem.mem_of_lookup q3) ho;have:=(K1 q5).1;rw[ho]at this;cases this;exact⟨c,u,o,q3,q5,hd,ru⟩
 ·obtain⟨v,o,ho,_⟩:=I.cell x c (hc.sub x c q);exact lE (hA _<|PySem.mem_of_lookup q) ho
def RL (qc:NstOk X k n1)(qd:NstOk X k n2)(xr:ClosOk X n1 clos1)(jr:ClosOk X n2 clos2)(hA:∀x b,(x,b)∈clos1++clos2->X.env.cells.lookup x=some b)(FF:FnOk X.prog X.w X.K X.mg X.base rE kf g gd ps3 (kj X.K (IA X.prog X.w X.K X.mg X.base (k+1) 1) M))(hr:Room kf X.A)(hm:X.mg x=some (.ref g))(hk:PySem.W.keepIn X.K (.ref g)=true)(hb:Binds X.K gd ps3 [])(h3:ps3.length=3)(he:PD X e f)(xg:∀y,X.fn y=true)(hg:Gl X x:=by rfl)(gc:(x==("__debug__":Str))=false:=by decide)(yd:starEach [e,.Name n1.name p1,.Name n2.name p2] X.env=(false,eval e X.env)::starEach [.Name n1.name p1,.Name n2.name p2] X.env:=by rfl)(zd:starEach [.Name n1.name p1,.Name n2.name p2] X.env=(false,eval (.Name n1.name p1) X.env)::starEach [.Name n2.name p2] X.env:=by rfl)(hs3:starEach [.Name n2.name p2] X.env=(false,eval (.Name n2.name p2) X.env)::starEach [] X.env:=by rfl)(bg:(backTo pos (starEach [.Name n1.name p1,.Name n2.name p2] X.env)).any (·.1)=false:=by rfl):
  PE X (.Call (.Name x p) [e,.Name n1.name p1,.Name n2.name p2] [] pos) (fq X n1 n2 clos1 clos2 f M):=by
 intro pins s σ H Q I ⟨H9,O0,O,ρ,xt,fa2,E,h1,h2,md1,md2,q⟩;have vis:∀{y:Str},Loc X.env.scope y->vJ X.env.scope y:=λh=>h.elim .inl λz=>.inr (.inl z);have qg:PA X [e,.Name n1.name p1,.Name n2.name p2] _:=L5 he (L5 (J2 qc.nm (vis qc.lc) qc.dbg qc.cdt) (L5 (J2 qd.nm (vis qd.lc) qd.dbg qd.cdt) bR hs3) zd) yd;refine aAZ (tR I hg hm ?_ gc);refine PySem.W.callWith_K (h₀:=X.base) I.ok.mod.kin hk (B4 (qg pos pins s σ H (λvs H1=>∃v1 d1 w1 w2 d,vs=[v1,.ref xt,.ref fa2]/\Same H H1/\Rep X.K H1 O v1 d1/\bN n1.js ρ=.ok w1/\bN n2.js ρ=.ok w2/\M d1 (n1.mm w1) (n2.mm w2)=.ok d/\∀v H',Same H1 H'->Rep X.K H' O v d->Q v H') I ⟨H9,O0,O,ρ,E,?_⟩) λus s1 ⟨vs,H1,I1,r,v1,d1,w1,w2,d,ev,sm,r1,c1,c2,em,qq⟩=>⟨I1.kIn,?_⟩) yd bg
 ·cases e1:f ρ with
  |ex z=>rw[e1]at q;exact q
  |bad=>rw[e1]at q;exact q
  |ok d1=>
   rw[e1,R.aa0]at q;cases e2:bN n1.js ρ with
   |ex z=>rw[e2]at q;exact(q H<|Same.refl _).elim
   |bad=>rw[e2]at q;exact q.elim
   |ok w1=>
    rw[e2,R.aa0]at q;cases e3:bN n2.js ρ with
    |ex z=>rw[e3]at q;exact(q H<|Same.refl _).elim
    |bad=>rw[e3]at q;exact q.elim
    |ok w2=>
     rw[e3,R.aa0]at q;cases e4:M d1 (n1.mm w1) (n2.mm w2)with
     |ex z=>rw[e4]at q;exact(q H<|Same.refl _).elim
     |bad=>rw[e4]at q;exact q.elim
     |ok d=>rw[e4]at q;exactλv1 H1 s1 r1=>⟨_,h1,_,h2,v1,d1,w1,w2,d,rfl,s1,r1,rfl,rfl,e4,λv H' s2 r2=>q v H' (s1.trans s2) r2⟩
 ·subst ev;have E1:=E.grow sm;generalize ve:S1 s1.heap (clos1++clos2)=cs;have hn:∀b o,cs.lookup b=some o->s1.heap.get? b=some o/\H1 b=none/\uZ o:=λb o z=>by rw[<-ve]at z;obtain⟨e1,y,hm⟩:=K1 z;obtain⟨v,o',e2,e3⟩:=I1.cell y b (hA y b hm);rw[e1]at e2;cases e2;exact⟨e1,I1.freeC y b (hA y b hm),v,e3⟩
  have hn0:∀b o,cs.lookup b=some o->H1 b=none:=λb o z=>(hn b o z).2.1;have smf:Same H1 (bL H1 cs):=dN hn0;have E2:=E1.grow smf;have e0:=I1.ae9;have nofr:∀b o,cs.lookup b=some o->b∉vU X.stack:=λb o z hb=>by
   rw[<-ve]at z;obtain⟨_,y,hmy⟩:=K1 z;rcases aAd.mp (I1.ab2 b hb)with e|hb
   ·exact I1.cne y b (hA y b hmy) e
   ·obtain⟨_,o',ho,_⟩:=I1.ok.funs.mem hb;exact absurd (aAt (aAg ho)<|I1.ok.cab y b (xg y)<|hA y b hmy) (aBf _)
  have nob:∀b o,X.base.get? b=some o->cs.lookup b=none:=λb o e=>by
   cases z:cs.lookup b with
   |none=>rfl
   |some o'=>rw[<-ve]at z;obtain⟨_,y,hm⟩:=K1 z;exact absurd (aAt (aAg e)<|aAu I1.ok.bsz<|I1.ok.cab y b (xg y)<|hA y b hm) (aBf _)
  have e2:Env0 X.prog X.w X.K X.mg X.base X.A X.stack s1 (bL H1 cs):=⟨e0.frames,e0.mod,λb o e=>⟨(e0.bs b o e).1,by rw[P8 (nob b o e)];exact(e0.bs b o e).2⟩,e0.bsz,e0.funs,λb hb=>by
   cases z:cs.lookup b with
   |none=>rw[P8 z];exact e0.frf b hb
   |some o=>exact absurd hb (nofr b o z),OB e0.hok λb o z=>⟨(hn b o z).1,(hn b o z).2.1⟩,e0.bare⟩
  have cl1:=vZ qc xr I1 E1 (λp hp=>aBg _ hp) hA (md1.same sm) c1;have cl2:=vZ qd jr I1 E1 (λp hp=>aAC _ hp) hA (md2.same sm) c2;rw[ve]at cl1 cl2;have hl:us.length=ps3.length:=by rw[<-r.length,h3];rfl
  have hbs:=hb s1 us I1.kIn (by rw[aBV];exact hl);rw[aBV]at hbs;refine wpAny_call (aDJ (FF.run X.A X.stack s1 (bL H1 cs) ⟨us,[]⟩ us _ (λv H'=>Q v (N9 H' cs)) (λ_ _ _=>False) hr e2 hbs r ⟨O,v1,d1,xt,_,fa2,_,d,rfl,r1.same smf,cl1,cl2,E2.trk,E2.tab,gW I1 O E1.trk,em,λv H' s2 r2=>?_⟩) λrr s' hq=>?_)
  ·have hz:∀b o,cs.lookup b=some o->H' b=some (.frz o (.own b)):=λb o z=>s2 _ _ (dW z);refine qq v _ (λb u e=>u7 hz (s2 b u<|smf b u e) λo z _=>?_) (r2.hid hz);rw[hn0 b o z]at e;cases e
  ·cases rr with
   |error e=>exact hq.elim
   |ok fl=>
    cases fl with
    |next=>exact aAi hq
    |brk=>exact aAi hq
    |cont=>exact aAi hq
    |ret u=>obtain⟨v,H',os,bare,un,hok,rv,qv⟩:=hq;obtain⟨U2,k2,_⟩:=XY un hok hn;exact I1.after ⟨v,_,os,bare,U2,k2,rv,qv⟩
def HX (qc:NstOk X k n1)(qd:NstOk X k n2)(xr:ClosOk X n1 clos1)(jr:ClosOk X n2 clos2)(hA:∀x b,(x,b)∈clos1++clos2->X.env.cells.lookup x=some b)(hB:iS X.mg X.base)(jv:X.env.code=.ref c)(hK:PySem.W.codeHdIn X.K c Pt=true)(hTt:(Pt,tb)∈Tabs.tbs)(hm1:(n1.pos,n1.qual)∈tb)(ji:(n2.pos,n2.qual)∈tb)(cu:∀p∈tb,p.1.line=n1.pos.line->p.1.col=n1.pos.col->p.2=n1.qual)(hu2:∀p∈tb,p.1.line=n2.pos.line->p.1.col=n2.pos.col->p.2=n2.qual)(ai:n1.i≠n2.i)(hN:X.N.Nodup)(FF:FnOk X.prog X.w X.K X.mg X.base rE kf g gd ps3 (kj X.K (IA X.prog X.w X.K X.mg X.base (k+1) 1) M))(hr:Room kf X.A)(hm:X.mg x=some (.ref g))(hk:PySem.W.keepIn X.K (.ref g)=true)(hb:Binds X.K gd ps3 [])(h3:ps3.length=3)(he:PD X e f)(xg:∀y,X.fn y=true)(hg:Gl X x:=by rfl)(gc:(x==("__debug__":Str))=false:=by decide)(yd:starEach [e,.Name n1.name p1,.Name n2.name p2] X.env=(false,eval e X.env)::starEach [.Name n1.name p1,.Name n2.name p2] X.env:=by rfl)(zd:starEach [.Name n1.name p1,.Name n2.name p2] X.env=(false,eval (.Name n1.name p1) X.env)::starEach [.Name n2.name p2] X.env:=by rfl)(hs3:starEach [.Name n2.name p2] X.env=(false,eval (.Name n2.name p2) X.env)::starEach [] X.env:=by rfl)(bg:(backTo pos (starEach [.Name n1.name p1,.Name n2.name p2] X.env)).any (·.1)=false:=by rfl):
  bF X [n1.stmt,n2.stmt,.Return (some (.Call (.Name x p) [e,.Name n1.name p1,.Name n2.name p2] [] pos)) rpos] (λρ=>((f ((ρ.set n1.i .no).set n2.i .no)).bind λd1=>(bN n1.js ((ρ.set n1.i .no).set n2.i .no)).bind λw1=>(bN n2.js ((ρ.set n1.i .no).set n2.i .no)).bind λw2=>M d1 (n1.mm w1) (n2.mm w2)).bind λd=>.ok (.rt d)):=by
 intro H9 O0 pins s σ H D I ⟨O,ρ,E,fk,q⟩;refine aEf (wI (σ:=σ) I hB jv hK (E.tab _ hTt) xr.qn hm1 cu xr.eq qc.d0 qc.k0 xr.ann hN qc.nm qc.lc qc.st λxt H1 s1 I1 sm1 md1=>?_);have E1:EnvOk X.K H9 O0 H1 O (σ.set n1.i<|some<|.ref xt) (ρ.set n1.i .no):=(E.grow sm1).put n1.i (λz=>z) trivial;refine aEf (wI (σ:=σ.set n1.i (some<|.ref xt)) I1 hB jv hK (E1.tab _ hTt) jr.qn ji hu2 jr.eq qd.d0 qd.k0 jr.ann hN qd.nm qd.lc qd.st λfa2 H2 s2 I2 ye md2=>?_);have E2:EnvOk X.K H9 O0 H2 O ((σ.set n1.i<|some<|.ref xt).set n2.i (some<|.ref fa2)) ((ρ.set n1.i .no).set n2.i .no):=(E1.grow ye).put n2.i (λz=>z) trivial;have l1:n1.i<σ.length:=by rw[I.len];exact(aAA.mp qc.nm).1
 have l2:n2.i<σ.length:=by rw[I.len];exact(aAA.mp qd.nm).1
 refine dJ (oN<|RL qc qd xr jr hA FF hr hm hk hb h3 he xg hg gc yd zd hs3 bg) pins s2 _ H2 D I2 ⟨H9,O0,O,_,xt,fa2,E2,?_,?_,md1.same ye,md2,?_⟩
 ·rw[aCv (aCl ai),aBy l1]
 ·rw[aBy (by rw[List.length_set];exact l2)]
 ·revert q;dsimp only;generalize((f<|(ρ.set n1.i .no).set n2.i .no).bind λd1=>(bN n1.js<|(ρ.set n1.i .no).set n2.i .no).bind λw1=>(bN n2.js<|(ρ.set n1.i .no).set n2.i .no).bind λw2=>M d1 (n1.mm w1) (n2.mm w2))=rr;intro q;cases rr with
  |ok d=>exactλv H' s r=>q v H' (E2.same.trans s) (r.sub E2.sub)
  |ex z=>exactλH' s=>q H' (E2.same.trans s)
  |bad=>exact q
end
def sG (K:PySem.W.Frag):Sp:=λvs H Q _=>∃(a:Addr) (ns:List Int),vs=[.ref a]/\K4 K H a (ns.map V.int)/\ns.length<=63/\(∀x∈ns,aAW x<=1048576)/\Tb H/\∀H',Q (.bl true) H'
def SY {P:Program}{w:World}{K:PySem.W.Frag}{mg:bK}{base:Heap}{k:Nat}{f:Addr}{fd:FuncData}{m:List D->R D}(F:FnOk P w K mg base rE k f fd ["script"] (YB K 1 m))
  (h:∀ns:List Int,ns.length<=63->(∀x∈ns,aAW x<=1048576)->m [.lst (ns.map D.int)]=.ok (.bl true)):FnOk P w K mg base rE k f fd ["script"] (sG K):=
 F.imp λvs H Q E ⟨a,ns,e,hS,hl,hb,tb,q⟩=>⟨λ_=>False,_,_,by rw[e];exact .cons (.lst hS (λz=>z) (Reps.ints ns)) .nil,rfl,λ_ z=>z.elim,tb,λ_ _ _ z=>z,h ns hl hb,λv H' _ r=>by cases r;exact q H'⟩
def GY {P:Program}{w:World}{K:PySem.W.Frag}{mg mb:bK}{k:Nat}{fa a:Addr}{fd:FuncData}{aa:Shared}{vs:List Value}{ns:List Int}
  (KX:K.In aa.heap) (yb:aa.heap.Ns mainGlobals mg) (hb:aa.heap.Ns builtinsNs mb) (hbb:∀x:Str,x≠ "__name__"->mb x=bootBuiltins x) (hlim:aa.heap.NoLimit) (hB:iS mg aa.heap) (hg:aa.gens=#[])
  (ha:aa.heap.get? a=some {cls:=.type "list",data:=.seq vs.toArray}) (hi:IntsAre vs ns) (hl:ns.length<=63) (wu:∀x∈ns,aAW x<=1048576) (hr:Room k callerA)
  (hT:∀p∈Tabs.tbs,aa.heap.get? p.1=some (PySem.W.tabObj #[])/\isCodeTable aa.heap p.1) (hTd:(Tabs.tbs.map (·.1)).Nodup) (hKn:PySem.W.noTabs K=true)
  (F:∀base:Heap,K.In base->base.Ns mainGlobals mg->iS mg base->FnOk P w K mg base rE k fa fd ["script"] (sG K)) (wo:∀(s:Shared) (u:Value),BindsTo s fd ⟨[u],[]⟩ [("script",u)]):
  codeAny (model P w) callerA (.call (.ref fa) ⟨[.ref a],[]⟩) (λr s'=>r=.ok (.ret (.bool true))/\OldK aa.heap s'.heap/\s'.os=aa.os/\AllBare s'.gens) aa:=by
 have rv:=L2.Y6 hi;have lenV:=hi.length;have ip:ns.length<=sizeLine:=aAu hl (by decide);have td:∀b tb,Tabs.tbs.lookup b=some tb->aa.heap.get? b=some (PySem.W.tabObj #[])/\isCodeTable aa.heap b:=λb tb e=>hT (b,tb) (mem_lookup e);have nta:Tabs.tbs.lookup a=none:=by
  cases e:Tabs.tbs.lookup a with
  |none=>rfl
  |some tb=>have:=(td a tb e).1;rw[ha]at this;cases this
 have noK:∀b o,K.lookup b=some o->Tabs.tbs.lookup b=none:=λb o e=>by
  cases z:Tabs.tbs.lookup b with
  |none=>rfl
  |some tb=>have e1:=KX b o e;rw[(td b tb z).1]at e1;cases e1;have h2:=aBF.mp hKn (b,_) (PySem.W.mem_of_lookupK e);exact absurd (show false=true from h2) aAH
 let put:Hp->Hp:=λH b=>match Tabs.tbs.lookup b with
  |some tb=>some (.tbl tb)
  |none=>H b
 have nC:∀(H:Hp) b tb,Tabs.tbs.lookup b=some tb->put H b=some (.tbl tb):=λH b tb e=>by show(match Tabs.tbs.lookup b with|some tb=>some (HO.tbl tb)|none=>H b)=_;rw[e]
 have fm:∀(H:Hp) b,Tabs.tbs.lookup b=none->put H b=H b:=λH b e=>by show(match Tabs.tbs.lookup b with|some tb=>some (HO.tbl tb)|none=>H b)=_;rw[e]
 have core:∀H0:Hp,(∀b,H0 b=none\/∃xs,H0 b=some (.frz {cls:=.type "list",data:=.seq vs.toArray} (.lst xs)))->K4 K (put H0) a (ns.map V.int)->(∀b u,H0 b=some u->ObjOk P w (put H0) aa.heap b u)->(∀b,H0 b≠none->b=a)->(H0 a≠none->K.lookup a=none)->
   codeAny (model P w) callerA (.call (.ref fa) ⟨[.ref a],[]⟩) (λr s'=>r=.ok (.ret (.bool true))/\OldK aa.heap s'.heap/\s'.os=aa.os/\AllBare s'.gens) aa:=by
  intro H0 hO hS hok0 hA hK;have hok:eY P w (put H0) aa.heap:=λb u e=>by
   cases z:Tabs.tbs.lookup b with
   |none=>rw[fm _ b z]at e;exact hok0 b u e
   |some tb=>rw[nC _ b tb z]at e;cases e;exact⟨#[],(td b tb z).1,trivial,λp _=>.inl rfl⟩
  have ml:∀{b:Addr} {o:Obj},aa.heap.get? b=some o->put H0 b=none->(pZ aa.heap<|put H0).get? b=some o:=λe n=>JB e n;have none_of:∀{b:Addr} {o:Obj},aa.heap.get? b=some o->o≠PySem.W.tabObj #[]->o≠{cls:=.type "list",data:=.seq vs.toArray}->put H0 b=none:=λ{b o} e n1 n2=>by
   cases z:Tabs.tbs.lookup b with
   |some tb=>have:=(td b tb z).1;rw[e]at this;exact absurd (aAl this) n1
   |none=>
    rw[fm _ b z];cases q:H0 b with
    |none=>rfl
    |some u=>have e':b=a:=hA b (by rw[q];simp);subst e';rw[ha]at e;exact absurd (aAl e).symm n2
  have nsK:∀{b:Addr} {m:bK},aa.heap.Ns b m->(pZ aa.heap<|put H0).Ns b m:=λ{b m} ⟨o,es,ep,e,d,r⟩=>⟨o,es,ep,ml e (none_of e (λz=>by rw[z]at d;cases d) λz=>by rw[z]at d;cases d),d,r⟩;have hKb:K.In (pZ aa.heap<|put H0):=λb o e=>ml (KX b o e) (by
   rw[fm _ b (noK b o e)];cases q:H0 b with
   |none=>rfl
   |some u=>have e':b=a:=hA b (by rw[q];simp);subst e';rw[hK (by rw[q];simp)]at e;cases e)
  have hBb:iS mg (pZ aa.heap<|put H0):=by obtain⟨bm,ob,b1,b2,b3,b4,b5,b6⟩:=hB;exact⟨bm,ob,b1,b2,ml b3 (none_of b3 (λz=>by rw[z]at b6;cases b6) λz=>by rw[z]at b6;cases b6),b4,b5,b6⟩
  have hM:Mod K mg (pZ aa.heap<|put H0):=⟨hKb,nsK yb,⟨mb,nsK hb,hbb⟩,let⟨mc,h1,h2⟩:=hlim;⟨mc,nsK h1,h2⟩⟩;have e0:Env0 P w K mg (pZ aa.heap<|put H0) callerA [] aa (put H0):=⟨rfl,hM,λb o e=>QY e,aDZ (GQ _ _),trivial,λb hb=>absurd (show b∈([]:List Addr)from hb) (by simp),hok,.of_eq hg⟩;have tb0:Tb (put H0):=λp hp=>nC _ p.1 p.2 (aW hTd hp);refine aDJ ((F _ hKb (nsK yb) hBb).run callerA [] aa (put H0) ⟨[.ref a],[]⟩ [.ref a] [.ref a] (λv _=>v=.bl true) (λ_ _ _=>False) hr e0 (wo aa<|.ref a) (.cons rfl .nil) ⟨a,ns,rfl,hS,hl,wu,tb0,λ_=>rfl⟩) λr s' h=>?_;cases r with
  |error e=>exact(show False from h).elim
  |ok fl=>
   cases fl with
   |next=>exact aAi h
   |brk=>exact aAi h
   |cont=>exact aAi h
   |ret u=>
    obtain⟨v,H',os,bare,un,yf,r',q⟩:=h;have q':v=.bl true:=q;subst q';obtain rfl:u=aDp true:=r';have each:∀b o,aa.heap.get? b=some o->s'.heap.get? b=some o\/(isCodeTable aa.heap b/\o=PySem.W.tabObj #[]/\∃ps,s'.heap.get? b=some (PySem.W.tabObj ps)):=λb o e=>by
     cases z:Tabs.tbs.lookup b with
     |some tb=>have:=(td b tb z).1;rw[e]at this;obtain⟨ps,hps,_⟩:=yf b _ (un.tbls b tb<|nC _ b tb z);exact .inr ⟨(td b tb z).2,aAl this,ps,hps⟩
     |none=>
      refine .inl ?_;rcases hO b with n|⟨xs,n⟩
      ·exact un.keep b o e (by rw[fm _ b z];exact n) (by intro z;exact absurd (show b∈([]:List Addr)from z) (by simp)) (by simp)
      ·have z1:put H0 b=some (.frz {cls:=.type "list",data:=.seq vs.toArray} (.lst xs)):=by rw[fm _ b z];exact n
       have z2:=un.frzs b _ _ z1;obtain⟨e1,_⟩:=hok b _ z1;obtain⟨e2,_⟩:=yf b _ z2;rw[e]at e1;cases e1;exact e2
    refine⟨rfl,⟨λb o e=>?_,λb o e=>?_⟩,os,bare⟩
    ·rcases each b o e with h|⟨h1,h2,ps,h3⟩
     ·exact .inl h
     ·subst h2;exact .inr (.inl ⟨h1,rfl,#[],ps,rfl,by rw[Array.empty_append];exact h3⟩)
    ·rcases each b o e with h|⟨h1,h2,ps,h3⟩
     ·exact⟨o,h⟩
     ·exact⟨_,h3⟩
 cases hk:K.lookup a with
 |some o=>have e:=KX a o hk;rw[ha]at e;cases e;refine core (λ_=>none) (λ_=>.inl rfl) (.inr ⟨_,vs.toArray,_,hk,rfl,rfl,rfl,by rw[aAo,lenV];exact ip,by simpa using rv⟩) (λb u z=>by have z':(none:Option HO)=some u:=z;cases z') (λb z=>absurd rfl z) λz=>absurd rfl z
 |none=>
  obtain⟨H0,h1,h2⟩:∃H0:Hp,H0 a=some (.frz {cls:=.type "list",data:=.seq vs.toArray} (.lst (ns.map V.int)))/\∀b,b≠a->H0 b=none:=⟨λb=>if b=a then _ else none,if_pos rfl,λb hb=>if_neg hb⟩;refine core H0 (λb=>?_) (.inl (.inr ⟨{cls:=.type "list",data:=.seq vs.toArray},(fm H0 a nta).trans h1⟩)) (λb u z=>?_) (λb z=>?_) λ_=>hk
  ·by_cases hb:b=a
   ·subst hb;exact .inr ⟨_,h1⟩
   ·exact .inl (h2 b hb)
  ·by_cases hb:b=a
   ·subst hb;rw[h1]at z;cases z;exact⟨ha,by rw[aAh];exact ip,vs,_,rv,ha⟩
   ·rw[h2 b hb]at z;cases z
  ·by_cases hb:b=a
   ·exact hb
   ·exact absurd (h2 b hb) z
def SX {l:PySem.W.OpenLaw}{k:Nat}{q:Program}{loose:List Str}{XP:(Str->Option Value)->Heap->Prop}{YP:World->Heap->Prop}{d:DefRec}{K:Params->PySem.W.Frag}{ts:List Addr}
  (hn:l.most=some 63) (hdf:d.params.defaults=[]) (hr:Room k callerA)
  (hY:∀(w:World) (h:Heap),YP w h->(K w.params).In h/\∀P∈ts,h.get? P=some (PySem.W.tabObj #[]))
  (hTs:∀p∈Tabs.tbs,p.1∈ts/\∃c,∀w:World,PySem.W.codeHdIn (K w.params) c p.1=true) (hTd:(Tabs.tbs.map (·.1)).Nodup) (hKn:∀w:World,PySem.W.noTabs (K w.params)=true)
  (F:∀(w:World) (mg:bK) (fa:Addr) (h:Heap),(K w.params).In h->h.Ns mainGlobals mg->mg d.name=some (.ref fa)->
   ∃fd:FuncData,(∀(s:Shared) (u:Value),BindsTo s fd ⟨[u],[]⟩ [("script",u)])/\
    ∀base:Heap,(K w.params).In base->base.Ns mainGlobals mg->iS mg base->FnOk l.prog w (K w.params) mg base rE k fa fd ["script"] (sG (K w.params))):
  PySem.W.WalkO q loose XP YP l.row.toRowW d [] (λf vs=>PySem.call f vs):=by
 refine Att2.attach_bits hn hdf λw s9 aa mg mb fa o pm cd doc a vs ns G Y ho hd cg md hobj hints hlen wu hg=>?_;obtain⟨KX,hT⟩:=hY w _ Y;obtain⟨fd,hb,hF⟩:=F w mg fa _ KX G.T.g md;refine GY KX G.T.g G.T.b G.T.builtins G.T.nolimit G.T.bmain hg hobj hints hlen wu hr (λp hp=>?_) hTd (hKn w) hF hb;obtain⟨h1,c,h2⟩:=hTs p hp;have h3:=hT p.1 h1;exact⟨h3,((PySem.W.codeHd_of_K KX<|h2 w).tab h3).isCodeTable⟩
section
variable{K:PySem.W.Frag}
structure FunC (K:PySem.W.Frag)(x qual:Str)(st:Stmt)(f:Addr)(fd:FuncData)(cd:Addr):Prop where
 ex:∃(oc:Value) (od:Option Addr) (kV doc pm:Value) (an:Option Addr) (ct:Value) (osl:Array (Option Value)),
  fd=PySem.W.fnOf x qual (B8 st) (o6 st) (c5 st) .none kV doc pm an (.ref cd) ct/\K.lookup f=some ⟨oc,od,.func fd,osl⟩/\PySem.W.codeIn K (.ref cd) qual=true
 kp:PySem.W.keepIn K (.ref f)=true
omit [Tabs]in
def FunC.fn {x qual:Str}{st:Stmt}{f:Addr}{fd:FuncData}{cd:Addr}(F:FunC K x qual st f fd cd):Fun K x qual st f fd:=
 let⟨oc,od,kV,doc,pm,an,ct,osl,h1,h2,h3⟩:=F.ex
 ⟨⟨oc,od,kV,doc,pm,an,.ref cd,ct,osl,h1,h2,h3⟩,F.kp⟩
omit [Tabs]in
def SE {x qual:Str}{st:Stmt}{f cd:Addr}{oc:Value}{od an:Option Addr}{osl:Array (Option Value)}{kV doc pm cdv ct:Value}(l:K.lookup f=some ⟨oc,od,.func (PySem.W.fnOf x qual (B8 st) (o6 st) (c5 st) .none kV doc pm an cdv ct),osl⟩)
  (e:cdv=.ref cd) (c:PySem.W.codeIn K cdv qual=true) (k:PySem.W.keepIn K (.ref f)=true):FunC K x qual st f (PySem.W.fnOf x qual (B8 st) (o6 st) (c5 st) .none kV doc pm an cdv ct) cd:=by
 subst e;exact⟨⟨oc,od,kV,doc,pm,an,ct,osl,rfl,l,c⟩,k⟩
def uz {x qual:Str}{st:Stmt}{f cd:Addr}{fd:FuncData}{N ps:List Str}{k:Nat}{m:List D->R D}{F:Ev->R Out}(F0:FunC K x qual st f fd cd)(S:FnScope N ps (c5 st))
  (hb:∀(A:Around) (outer:List Env) (s:Shared) (H:Hp) (E:XK),Room k (A.deeper (envOfC qual (c5 st) s.heap.objs.size f (.ref cd)))->bF (OY P w K mg base N qual (c5 st) f (.ref cd) A outer s H E) (o6 st) F)
  (hm:∀ds d,ds.length=ps.length->m ds=.ok d->K3 (F (j1 N ds))=.ok d):FnOk P w K mg base rE (k+1) f fd ps (YB K ps.length m):=by
 obtain⟨oc,od,kV,doc,pm,an,ct,osl,rfl,lk,cg⟩:=F0.ex;refine TZ lk cg S (λvs H Q E ⟨O,ds,d,r,hl,_⟩=>by rw[r.length];exact hl) λA outer s H vs Q E hr ⟨O,ds,d,r,hl,ht,tb,fk,e,q⟩=>?_;refine⟨_,rC.nox (hb A outer s H E hr H O),O,_,iW r ht tb,fk,?_⟩;have h:=hm ds d hl e;cases e1:F (j1 N ds)with
 |ok o=>
  rw[e1]at h;cases o with
  |rt d'=>have h':R.ok d'=R.ok d:=h;injection h' with h';subst h';exact q
  |nx ρ=>have h':R.ok D.non=R.ok d:=h;injection h' with h';subst h';exactλae H' O' E' _ _=>q .non H' E'.same .non
  |bk ρ=>cases h
  |ct ρ=>cases h
 |ex x=>rw[e1]at h;cases h
 |bad=>rw[e1]at h;cases h
def RJ {x qual:Str}{st:Stmt}{f cd:Addr}{fd:FuncData}{N ps:List Str}{k:Nat}{m:List D->R D}{F:Ev->R Out}(F0:FunC K x qual st f fd cd)(S:FnScope N ps (c5 st))(yg:Binds K fd ps [])(md:mg x=some (.ref f))
  (hb:∀(A:Around) (outer:List Env) (s:Shared) (H:Hp) (E:XK),Room k (A.deeper (envOfC qual (c5 st) s.heap.objs.size f (.ref cd)))->bF (OY P w K mg base N qual (c5 st) f (.ref cd) A outer s H E) (o6 st) F)
  (hm:∀ds d,ds.length=ps.length->m ds=.ok d->K3 (F (j1 N ds))=.ok d):v6 P w K mg base (k+1) x ps.length m:=
 ⟨f,fd,ps,uz F0 S hb hm,yg,F0.kp,md⟩
def QT (P:Program)(w:World)(K:PySem.W.Frag)(mg:bK)(base:Heap)(k kc:Nat)(x:Str)(M:D->(List D->R D)->(List D->R D)->R D):Prop:=
 ∃g gd ps,FnOk P w K mg base rE k g gd ps (kj K (IA P w K mg base kc 1) M)/\Binds K gd ps []/\PySem.W.keepIn K (.ref g)=true/\mg x=some (.ref g)/\ps.length=3
def TK {x qual:Str}{st:Stmt}{f:Addr}{fd:FuncData}{N ps:List Str}{k kc:Nat}{M:D->(List D->R D)->(List D->R D)->R D}{F:Ev->R Out}(F0:Fun K x qual st f fd)(S:FnScope N ps (c5 st))(h3:ps.length=3)(yg:Binds K fd ps [])(md:mg x=some (.ref f))
  (hb:∀(cdv:Value) (A:Around) (outer:List Env) (s:Shared) (H:Hp) (E:XK),Room k (A.deeper (envOfC qual (c5 st) s.heap.objs.size f cdv))->bF (OY P w K mg base N qual (c5 st) f cdv A outer s H E) (o6 st) F)
  (hm:∀d1 m1 m2 d,M d1 m1 m2=.ok d->K3 (F (jL N (IA P w K mg base kc 1) d1 m1 m2))=.ok d):QT P w K mg base (k+1) kc x M:=
 ⟨f,fd,ps,fnF F0 S h3 hb hm,yg,F0.kp,md,h3⟩
end
section
def xB (i:Nat){Φ:(List D->R D)->Hp->(Addr->Prop)->Addr->Prop}(hΦ:IA X.prog X.w X.K X.mg X.base k n=Φ)(ha:IF X (e::es) f)(hl:BF f n)(hr:Room k X.A)(hN:X.N[i]?=some x:=by rfl)(hv:vJ X.env.scope x:=by first|exact aCh rfl|exact aBx (aCh rfl)|exact aBx (aBx rfl))(hd:(x==("__debug__":Str))=false:=by decide)(cg:(x==("__classdict__":Str))=false:=by decide)(he:starEach (e::es) X.env=(false,eval e X.env)::starEach es X.env:=by rfl)(bg:(backTo pos (starEach es X.env)).any (·.1)=false:=by rfl):
  PD X (.Call (.Name x p) (e::es) [] pos) (callC Φ i f):=by
 subst hΦ;exact LY i ha hl hr hN hv hd cg he bg
def AU (qc:NstOk X k n1)(qd:NstOk X k n2)(xr:ClosOk X n1 clos1)(jr:ClosOk X n2 clos2)(hA:∀x b,(x,b)∈clos1++clos2->X.env.cells.lookup x=some b)(hB:iS X.mg X.base)(jv:X.env.code=.ref c)(hK:PySem.W.codeHdIn X.K c Pt=true)(hTt:(Pt,tb)∈Tabs.tbs)(hm1:(n1.pos,n1.qual)∈tb)(ji:(n2.pos,n2.qual)∈tb)(cu:∀p∈tb,p.1.line=n1.pos.line->p.1.col=n1.pos.col->p.2=n1.qual)(hu2:∀p∈tb,p.1.line=n2.pos.line->p.1.col=n2.pos.col->p.2=n2.qual)(ai:n1.i≠n2.i)(hN:X.N.Nodup)(cf:QT X.prog X.w X.K X.mg X.base kf (k+1) x M)(hr:Room kf X.A)(he:PD X e f)(xg:∀y,X.fn y=true)(hg:Gl X x:=by rfl)(gc:(x==("__debug__":Str))=false:=by decide)(yd:starEach [e,.Name n1.name p1,.Name n2.name p2] X.env=(false,eval e X.env)::starEach [.Name n1.name p1,.Name n2.name p2] X.env:=by rfl)(zd:starEach [.Name n1.name p1,.Name n2.name p2] X.env=(false,eval (.Name n1.name p1) X.env)::starEach [.Name n2.name p2] X.env:=by rfl)(hs3:starEach [.Name n2.name p2] X.env=(false,eval (.Name n2.name p2) X.env)::starEach [] X.env:=by rfl)(bg:(backTo pos (starEach [.Name n1.name p1,.Name n2.name p2] X.env)).any (·.1)=false:=by rfl):
  bF X [n1.stmt,n2.stmt,.Return (some (.Call (.Name x p) [e,.Name n1.name p1,.Name n2.name p2] [] pos)) rpos] (λρ=>((f ((ρ.set n1.i .no).set n2.i .no)).bind λd1=>(bN n1.js ((ρ.set n1.i .no).set n2.i .no)).bind λw1=>(bN n2.js ((ρ.set n1.i .no).set n2.i .no)).bind λw2=>M d1 (n1.mm w1) (n2.mm w2)).bind λd=>.ok (.rt d)):=by
 obtain⟨g,gd,ps,FF,hb,hk,hm,h3⟩:=cf;exact HX qc qd xr jr hA hB jv hK hTt hm1 ji cu hu2 ai hN FF hr hm hk hb h3 he xg hg gc yd zd hs3 bg
end
end DL
namespace DL
open PySem L2
def _root_.L2.Room.ad8 (r:Room k A):A.units+130<cLine:=by have:=r.un;lia
def _root_.L2.Room.ad1 (r:Room k A)(h:7<=k):A.units+300<cLine:=by have:=r.un;lia
def FP {y:Str}{b0:Addr}{cells:List (Str×Addr)}(h:cells.lookup y=some b0:=by rfl):∀(x:Str) (b:Addr),(x,b)∈[(y,b0)]++[(y,b0)]->cells.lookup x=some b:=λx b hm=>by
 have:(x,b)=(y,b0):=by simpa using hm
 injection this with h1 h2;subst h1 h2;exact h
def CN {sc:Scope}{fn:List Str}{x:Str}(h:sc.names.lookup x=some .free)(hs:(sc.names.all λp=>p.2 !=.free||fn.contains p.1)=true:=by decide+kernel):x∈fn:=by have h1:=aBF.mp hs _ (PySem.mem_of_lookup h);simpa using h1
def CO:Stmt->Pos
 |.FunctionDef _ _ _ _ _ _ _ _ _ p=>p
 |_=>⟨0,0,0,0⟩
end DL
namespace G
def bB {a b:V}(h:a-b=0):a=b:=by have q1:=congrArg V.x h;have q2:=congrArg V.y h;have q3:=congrArg V.z h;simp at q1 q2 q3;exact ext (by lia) (by lia) (by lia)
def IsFace.aa2 (ho:pts.Pairwise (λa b=>d6 (b-a)))(h:IsFace pts n d):Sheet n (v9 n d pts)where
 nz:=h.prim.ne
 pl:=λX hX Y hY=>by have:=(d5.mp hX).2;have:=(d5.mp hY).2;rw[i3];lia
 ord:=aFN _ ho
 two:=by obtain⟨A,hA,B,hB,C,hC,a,b,c,e⟩:=h.three;refine⟨A,d5.mpr ⟨hA,a⟩,B,d5.mpr ⟨hB,b⟩,λz=>e ?_⟩;subst z;rw[u8];apply ext<;>simp
def IsFace.ac8 {pts:List V}{n:V}{d:Int}(h:IsFace pts n d){a b:V}(he:EdgeOf n (λX=>X∈v9 n d pts) a b):∃X∈v9 n d pts,0<i6 n (b-a) (X-a):=by
 by_cases z:∃X∈v9 n d pts,0<i6 n (b-a) (X-a)
 ·exact z
 ·exfalso;have hn:=h.prim.ne;obtain⟨pa,da⟩:=d5.mp he.p;obtain⟨pb,db⟩:=d5.mp he.q;have hba:e9 n (b-a)=0:=by rw[i3];lia
  have ai:b-a≠0:=λe=>he.ne (bB e).symm;have k:∀X∈pts,e9 n X=d->cr (b-a) (X-a)=0:=λX hX dX=>by have tX:=d5.mpr ⟨hX,dX⟩;have l:=he.left X tX;have l':¬0<i6 n (b-a) (X-a):=λq=>z ⟨X,tX,q⟩;exact fC hn hba (by rw[i3];lia) (by lia)
  obtain⟨A,hA,B,hB,C,hC,eA,eB,eC,e⟩:=h.three;have k2:∀X∈pts,e9 n X=d->∀Y∈pts,e9 n Y=d->cr (X-Y) (b-a)=0:=λX hX dX Y hY dY=>by have q1:=k X hX dX;have q2:=k Y hY dY;have a1:=congrArg V.x q1;have a2:=congrArg V.y q1;have a3:=congrArg V.z q1;have b1:=congrArg V.x q2;have b2:=congrArg V.y q2;have b3:=congrArg V.z q2;simp at a1 a2 a3 b1 b2 b3;apply ext<;>simp<;>grind
  exact e (sZ ai (k2 B hB eB A hA eA)<|k2 C hC eC A hA eA)
def LL (hs:l6 pts)(hf:IsFace pts n d)(hg:IsFace pts m e)(h1:EdgeOf n (λX=>X∈v9 n d pts) a b)(h2:EdgeOf m (λX=>X∈v9 m e pts) b a)(hX:X∈v9 n d pts)(hx:0<i6 n (b-a) (X-a)):e9 m X<e:=by
 obtain⟨pX,dX⟩:=d5.mp hX;have le:=hg.sup X pX;by_cases z:e9 m X=e
 ·exfalso;obtain⟨pa,da⟩:=d5.mp h1.p;obtain⟨pb,db⟩:=d5.mp h1.q;obtain⟨_,ea⟩:=d5.mp h2.q;obtain⟨_,eb⟩:=d5.mp h2.p;obtain⟨Z,hZ,hz⟩:=hs.below hf.prim.ne hf.sup;have hc:cr (b-a) (X-a)≠0:=λq=>by unfold i6 at hx;rw[q,O8]at hx;lia
  obtain⟨rfl,rfl⟩:=mI hf.prim hg.prim hf.sup hg.sup da db dX ea eb z hc hZ hz;have:=h2.left X hX;have e1:i6 n (a-b) (X-b)=-i6 n (b-a) (X-a):=by simp[i6,e9];grind
  lia
 ·lia
def xC:List V->V
 |[]=>0
 |X::l=>X+xC l
theorem pC (n:V):∀l:List V,e9 n (xC l)=(l.map (e9 n)).sum
 |[]=>O8 n
 |X::l=>by simp only[xC,aAp,aDc];rw[Z5,pC n l]
theorem CC {α:Type}(f g:α->Int):∀l:List α,(∀x∈l,f x<=g x)->(l.map f).sum<=(l.map g).sum
 |[],_=>aCC _
 |x::l,h=>by
  simp only[aAp,aDc];have:=h x (by simp);have:=CC f g l (λy hy=>h y (aAe _ hy))
  lia
theorem zW {α:Type}(f g:α->Int):∀l:List α,(∀x∈l,f x<=g x)->(∃x∈l,f x<g x)->(l.map f).sum<(l.map g).sum
 |[],_,⟨x,hx,_⟩=>by cases hx
 |x::l,h,⟨y,hy,ah⟩=>by
  simp only[aAp,aDc];have h1:=h x (by simp);have h2:=CC f g l (λy hy=>h y (aAe _ hy));rcases aAd.mp hy with e|e
  ·subst e;lia
  ·have:=zW f g l (λy hy=>h y (aAe _ hy)) ⟨y,e,ah⟩
   lia
theorem Z1 {α:Type}(c:Int):∀l:List α,(l.map λ_=>c).sum=(l.length:Int)*c
 |[]=>by simp
 |x::l=>by simp only[aAp,aDc,aAs];rw[Z1 c l];push_cast;grind
def z9 (pts:List V)(X:V):V:=(pts.length:Int)*X-xC pts
def R3 (pts:List V)(n:V)(d:Int):Int:=(pts.length:Int)*d-e9 n (xC pts)
def uV (pts:List V)(n X:V):e9 n (z9 pts X)=(pts.length:Int)*e9 n X-e9 n (xC pts):=by unfold z9;rw[i3,t5]
def dH (hs:l6 pts)(hn:n≠0)(h:∀X∈pts,e9 n X<=d):0<R3 pts n d:=by
 unfold R3;rw[pC,<-Z1];have:=zW (e9 n) (λ_=>d) pts h (hs.below hn h)
 lia
def len_pos (hs:l6 pts):0<(pts.length:Int):=by
 obtain⟨A,hA,_⟩:=hs;have:0<pts.length:=aDU hA
 lia
def X5 (h:e9 n X=d):e9 n (z9 pts X)=R3 pts n d:=by rw[uV,h];rfl
def oB (h:e9 n X<=d):e9 n (z9 pts X)<=R3 pts n d:=by
 rw[uV];unfold R3;have:=aAG h (show(0:Int)<=pts.length by lia)
 lia
def KY (hl:0<(pts.length:Int))(h:e9 n X<d):e9 n (z9 pts X)<R3 pts n d:=by
 rw[uV];unfold R3;have:=aDv h hl
 lia
def QX (pts:List V)(a b X:V):i6 (z9 pts a) (z9 pts b) (z9 pts X)=(pts.length:Int)*(pts.length:Int)*e9 (z9 pts a) (cr (b-a) (X-a)):=by unfold z9;generalize(pts.length:Int)=N;generalize xC pts=s;simp[i6,e9];grind
def xS (h:cr w c=0)(x y:V):e9 w y*e9 c x=e9 w x*e9 c y:=by
 have e:e9 w y*e9 c x-e9 w x*e9 c y=e9 (cr w c) (cr y x):=by simp[e9];grind
 rw[h]at e;have:e9 0 (cr y x)=0:=by simp[e9]
 lia
def DH (hs:l6 pts)(hf:IsFace pts n d)(ha:e9 n a=d)(hb:e9 n b=d)(hX:e9 n X=d)(h:0<i6 n (b-a) (X-a)):0<i6 (z9 pts a) (z9 pts b) (z9 pts X):=by
 rw[QX];have hl:=len_pos hs;refine aAX (aAX hl hl) ?_;have hn:=hf.prim.ne;have p:cr n (cr (b-a)<|X-a)=0:=S5 (by rw[i3];lia) (by rw[i3];lia);have q:=xS p n (z9 pts a);have h1:0<e9 n (z9 pts a):=by rw[X5 ha];exact dH hs hn hf.sup
 have h2:0<e9 (cr (b-a)<|X-a) n:=by rw[cC];exact h
 have h3:=aAX h1 h2;have h4:=y7 hn;rw[cC (z9 pts a)];by_cases z:0<e9 (cr (b-a)<|X-a) (z9 pts a)
 ·exact z
 ·exfalso;have:e9 n n*e9 (cr (b-a)<|X-a) (z9 pts a)<=0:=by have:=aAG (show e9 (cr (b-a)<|X-a) (z9 pts a)<=0 by lia) (aAS h4);simpa using this
  lia
def SF (hs:l6 pts)(hf:IsFace pts n d)(hg:IsFace pts m e)(h1:EdgeOf n (λX=>X∈v9 n d pts) a b)(h2:EdgeOf m (λX=>X∈v9 m e pts) b a)(hB:e9 m B*R3 pts n d<=e9 n B*R3 pts m e):0<=i6 (z9 pts a) (z9 pts b) B:=by
 obtain⟨X,hX,hx⟩:=hf.ac8 h1;have ah:=LL hs hf hg h1 h2 hX hx;obtain⟨pX,dX⟩:=d5.mp hX;obtain⟨pa,da⟩:=d5.mp h1.p;obtain⟨pb,db⟩:=d5.mp h1.q;obtain⟨_,ea⟩:=d5.mp h2.q;obtain⟨_,eb⟩:=d5.mp h2.p;have c0:=dH hs hf.prim.ne hf.sup;have c1:=dH hs hg.prim.ne hg.sup;have dp:=DH hs hf da db dX hx;by_cases z:0<=i6 (z9 pts a) (z9 pts b) B
 ·exact z
 ·exfalso;have wd:∀y,e9 (R3 pts n d*m-R3 pts m e*n) y=R3 pts n d*e9 m y-R3 pts m e*e9 n y:=λy=>by rw[cC,i3,t5,t5,cC y m,cC y n]
  have wa:e9 (R3 pts n d*m-R3 pts m e*n) (z9 pts a)=0:=by rw[wd,X5 da,X5 ea];grind
  have wb:e9 (R3 pts n d*m-R3 pts m e*n) (z9 pts b)=0:=by rw[wd,X5 db,X5 eb];grind
  have wx:e9 (R3 pts n d*m-R3 pts m e*n) (z9 pts X)<0:=by
   rw[wd,X5 dX];have h3:=KY (len_pos hs) ah;have:=aDv h3 c0;have e1:R3 pts m e*R3 pts n d=R3 pts n d*R3 pts m e:=aGp _ _
   lia
  have p:=xS (S5 wa wb) (z9 pts X) B;have e2:e9 (cr (z9 pts a)<|z9 pts b) (z9 pts X)=i6 (z9 pts a) (z9 pts b) (z9 pts X):=R9 _ _ _;have e3:e9 (cr (z9 pts a)<|z9 pts b) B=i6 (z9 pts a) (z9 pts b) B:=R9 _ _ _;rw[e2,e3]at p;have r:0<e9 (R3 pts n d*m-R3 pts m e*n) (z9 pts X)*i6 (z9 pts a) (z9 pts b) B:=Int.mul_pos_of_neg_of_neg wx (by lia);rw[<-p]at r;have s:0<e9 (R3 pts n d*m-R3 pts m e*n) B:=by
   by_cases q:0<e9 (R3 pts n d*m-R3 pts m e*n) B
   ·exact q
   ·have:=aAT (show e9 (R3 pts n d*m-R3 pts m e*n) B<=0 by lia) (aAS dp);simp at this;lia
  rw[wd]at s;have e4:e9 m B*R3 pts n d=R3 pts n d*e9 m B:=aGp _ _;have e5:e9 n B*R3 pts m e=R3 pts m e*e9 n B:=aGp _ _
  lia
def zZ {a b c d e f:Int}(hb:0<b)(hd:0<d)(hf:0<f)(h1:a*d<=c*b)(h2:c*f<=e*d):a*f<=e*b:=by
 have h3:=aAT h1 (aAS hf);have h4:=aAT h2 (aAS hb);have h5:(a*f)*d<=(e*b)*d:=by grind
 exact aEF h5 hd
theorem CT {α:Type}(p q:α->Int):∀(l:List α),l≠[]->(∀x∈l,0<q x)->∃x∈l,∀y∈l,p y*q x<=p x*q y
 |[],h,_=>absurd rfl h
 |[x],_,_=>⟨x,by simp,λy hy=>by simp at hy;subst hy;exact aCC _⟩
 |x::y::l,_,hq=>by
  obtain⟨z,hz,h⟩:=CT p q (y::l) (by simp) (λw hw=>hq w (aAe _ hw));by_cases c:p x*q z<=p z*q x
  ·refine⟨z,aAe _ hz,λw hw=>?_⟩;rcases aAd.mp hw with e|e
   ·subst e;exact c
   ·exact h w e
  ·refine⟨x,by simp,λw hw=>?_⟩;rcases aAd.mp hw with e|e
   ·subst e;exact aCC _
   ·exact zZ (hq w hw) (hq z<|aAe _ hz) (hq x (by simp)) (h w e) (by lia)
theorem cj (h:V->Int):∀(x:V) (l:List V),0<=h x->(∀z,(x::l).getLast?=some z->h z<=0)->l≠[]->∃u v,(u,v)∈q8 (x::l)/\0<=h u/\h v<=0
 |x,[],_,_,hl=>absurd rfl hl
 |x,y::r,h1,h2,_=>by
  by_cases c:h y<=0
  ·exact⟨x,y,by simp[q8],h1,c⟩
  ·match r,h2 with
   |[],h2=>exact absurd (h2 y rfl) c
   |z::r,h2=>obtain⟨u,v,m,p⟩:=cj h y (z::r) (by lia) (λw hw=>h2 w (by rw[aBd];exact hw)) (by simp);exact⟨u,v,by simp only[q8]at m⊢;exact aAe _ m,p⟩
theorem kW:∀(l:List V) (x z w:V),(x::l).getLast?=some z->(z,w)∈q8 (x::l++[w])
 |[],x,z,w,h=>by simp at h;subst h;simp[q8]
 |y::l,x,z,w,h=>by rw[aBd]at h;have:=kW l y z w h;simp only[aAF,q8]at this⊢;exact aAe _ this
theorem fM:∀(l:List V) (x w:V),∀e∈q8 (x::l),e∈q8 (x::l++[w])
 |[],x,w,e,h=>by simp[q8]at h
 |y::l,x,w,e,h=>by
  simp only[aAF,q8]at h⊢;rcases aAd.mp h with q|q
  ·subst q;simp
  ·exact aAe _ (fM l y w e q)
def U3 (ho:pts.Pairwise (λa b=>d6 (b-a)))(hf:IsFace pts n d):∃r s t l,i8 n (v9 n d pts)=r::s::t::l:=by
 have S:=hf.aa2 ho;obtain⟨r,l,e,_⟩:=S.aa8;match l,e with
 |[],e=>
  have h:(r,r)∈T2 (i8 n<|v9 n d pts):=by rw[e];simp[T2]
  exact absurd rfl (S.pair h).ne
 |[s],e=>
  have h1:(r,s)∈T2 (i8 n<|v9 n d pts):=by rw[e];simp[T2]
  have h2:(s,r)∈T2 (i8 n<|v9 n d pts):=by rw[e];simp[T2]
  have g1:=S.pair h1;have g2:=S.pair h2;obtain⟨X,hX,hx⟩:=hf.ac8 g1;have:=g2.left X hX;have e1:i6 n (r-s) (X-s)=-i6 n (s-r) (X-r):=by simp[i6,e9];grind
  lia
 |s::t::l,e=>exact⟨r,s,t,l,e⟩
def qN (hs:l6 pts)(ho:pts.Pairwise (λa b=>d6 (b-a)))(fs:List (V×Int))(ai:fs≠[])(hf:∀f∈fs,IsFace pts f.1 f.2)(hc:∀f∈fs,∀a b,EdgeOf f.1 (λX=>X∈v9 f.1 f.2 pts) a b->∃g∈fs,EdgeOf g.1 (λX=>X∈v9 g.1 g.2 pts) b a)(hn:IsFace pts n d):(n,d)∈fs:=by
 obtain⟨B,hBd⟩:∃B,B=xC ((v9 n d pts).map (z9 pts)):=⟨_,rfl⟩;have dB:∀m,e9 m B=((v9 n d pts).map λX=>e9 m (z9 pts X)).sum:=λm=>by rw[hBd,pC,aBB];rfl
 have cn:=dH hs hn.prim.ne hn.sup;have ub:∀m e,(∀X∈pts,e9 m X<=e)->e9 m B<=((v9 n d pts).length:Int)*R3 pts m e:=λm e hm=>by rw[dB,<-Z1];exact CC _ _ _ λX hX=>oB (hm X (d5.mp hX).1)
 have eB:e9 n B=((v9 n d pts).length:Int)*R3 pts n d:=by rw[dB,<-Z1];congr 1;exact aEB λX hX=>X5 (d5.mp hX).2
 obtain⟨⟨m,e⟩,hm,htop⟩:=CT (λf:V×Int=>e9 f.1 B) (λf=>R3 pts f.1 f.2) fs ai λf h=>dH hs (hf f h).prim.ne (hf f h).sup;have xa:=hf _ hm;have ins:∀a b,EdgeOf m (λX=>X∈v9 m e pts) a b->0<=i6 (z9 pts a) (z9 pts b) B:=λa b hab=>by obtain⟨g,hg,hg2⟩:=hc _ hm a b hab;exact SF hs xa (hf g hg) hab hg2 (htop g hg)
 have S:=xa.aa2 ho;obtain⟨r,s,t,l,er⟩:=U3 ho xa;have nd:=S.aa3;have pr:=λ{P Q}=>S.aa1 (P:=P) (Q:=Q);rw[er]at pr nd;have rm:r∈i8 m (v9 m e pts):=by rw[er];simp
 have on:∀X∈r::s::t::l,e9 m X=e:=λX hX=>by rw[<-er]at hX;exact(d5.mp<|S.aa4 hX).2
 obtain⟨z,hz⟩:∃z,(s::t::l).getLast?=some z:=by simp[aEL]
 have c1:(r,s)∈T2 (r::s::t::l):=by rw[V2];simp[q8]
 have c2:(z,r)∈T2 (r::s::t::l):=by rw[V2];exact kW _ _ _ _ (by rw[aBd];exact hz)
 have w1:=ins _ _ (pr.mp c1);have w2:=ins _ _ (pr.mp c2);obtain⟨u,v,huv,hu,hv⟩:=cj (λX=>i6 (z9 pts r) (z9 pts X) B) s (t::l) w1 (λy hy=>by
  have:y=z:=aAl (hy.symm.trans hz);subst this;have e1:i6 (z9 pts r) (z9 pts y) B=-i6 (z9 pts y) (z9 pts r) B:=by simp[i6,e9];grind
  lia) (by simp)
 have c3:(u,v)∈T2 (r::s::t::l):=by rw[V2];have:=fM (t::l) s r _ huv;simp only[aAF,q8]at this⊢;exact aAe _ this
 have g3:=pr.mp c3;have mu:u∈s::t::l/\v∈s::t::l:=by
  have:=huv;have hh:∀(l:List V) (p q:V),(p,q)∈q8 l->p∈l/\q∈l:=λl=>by
   induction l with
   |nil=>intro p q h;simp[q8]at h
   |cons x l ih=>
    intro p q h;match l,h,ih with
    |[],h,_=>simp[q8]at h
    |y::l,h,ih=>
     simp only[q8]at h;rcases aAd.mp h with c|c
     ·cases c;simp
     ·have:=ih p q c;exact⟨aAe _ this.1,aAe _ this.2⟩
  exact hh _ _ _ huv
 have nr:=(aAJ.mp nd).1;have ru:r≠u:=λq=>by subst q;exact nr mu.1
 have rv:r≠v:=λq=>by subst q;exact nr mu.2
 have st:=S.strict g3 rm ru rv;have du:=on u (aAe _ mu.1);have dv:=on v (aAe _ mu.2);have dr:=on r (by simp);have D0:=DH hs xa du dv dr st;have w3:=ins _ _ g3;have cram:=HI B (z9 pts r) (z9 pts u) (z9 pts v);have a1:i6 B (z9 pts u) (z9 pts v)=i6 (z9 pts u) (z9 pts v) B:=by simp[i6,e9];grind
 have a2:i6 B (z9 pts v) (z9 pts r)=-i6 (z9 pts r) (z9 pts v) B:=by simp[i6,e9];grind
 have a3:i6 B (z9 pts r) (z9 pts u)=i6 (z9 pts r) (z9 pts u) B:=by simp[i6,e9];grind
 have a4:i6 (z9 pts r) (z9 pts u) (z9 pts v)=i6 (z9 pts u) (z9 pts v) (z9 pts r):=by simp[i6,e9];grind
 rw[a1,a2,a3,a4]at cram;obtain⟨al,hal⟩:∃al,al=i6 (z9 pts u) (z9 pts v) B:=⟨_,rfl⟩;obtain⟨be,xu⟩:∃be,be=-i6 (z9 pts r) (z9 pts v) B:=⟨_,rfl⟩;obtain⟨ga,hga⟩:∃ga,ga=i6 (z9 pts r) (z9 pts u) B:=⟨_,rfl⟩;obtain⟨De,hDe⟩:∃De,De=i6 (z9 pts u) (z9 pts v) (z9 pts r):=⟨_,rfl⟩;rw[<-hal,<-xu,<-hga,<-hDe]at cram;have al0:0<=al:=by lia
 have be0:0<=be:=by lia
 have ga0:0<=ga:=by lia
 have De0:0<De:=by lia
 have cd:∀f:V,De*e9 f B=ga*e9 f (z9 pts v)+al*e9 f (z9 pts r)+be*e9 f (z9 pts u):=λf=>by
  have:=congrArg (e9 f) cram;rw[Z5,Z5,t5,t5,t5,t5]at this
  lia
 have q1:=cd m;rw[X5 dr,X5 du,X5 dv]at q1;have q2:=cd n;have cm:=dH hs xa.prim.ne xa.sup;have pt:∀X∈r::s::t::l,X∈pts:=λX hX=>by rw[<-er]at hX;exact(d5.mp<|S.aa4 hX).1
 have r1:=oB (pts:=pts) (hn.sup r (pt r (by simp)));have r2:=oB (pts:=pts) (hn.sup u<|pt u<|aAe _ mu.1);have r3:=oB (pts:=pts) (hn.sup v<|pt v<|aAe _ mu.2);have s1:=aAG r1 al0;have s2:=aAG r2 be0;have s3:=aAG r3 ga0;obtain⟨L,hL⟩:∃L:Int,L=((v9 n d pts).length:Int):=⟨_,rfl⟩;have ub1:=ub m e xa.sup;rw[<-hL]at eB ub1;have k1:De*L<=al+be+ga:=by
  have:(De*L)*R3 pts n d<=(al+be+ga)*R3 pts n d:=by
   rw[eB]at q2;have e1:De*L*R3 pts n d=De*(L*R3 pts n d):=Int.mul_assoc _ _ _;have e2:(al+be+ga)*R3 pts n d=al*R3 pts n d+be*R3 pts n d+ga*R3 pts n d:=by grind
   lia
  exact aEF this cn
 have k2:De*e9 m B=(al+be+ga)*R3 pts m e:=by rw[q1];grind
 have k3:(De*L)*R3 pts m e<=De*e9 m B:=by rw[k2];exact aAT k1 (aAS cm)
 have k4:L*R3 pts m e<=e9 m B:=by rw[Int.mul_assoc]at k3;exact Int.le_of_mul_le_mul_left k3 De0
 have all:∀X∈v9 n d pts,e9 m X=e:=λX hX=>by
  have le:e9 m X<=e:=xa.sup X (d5.mp hX).1;by_cases z:e9 m X=e
  ·exact z
  ·exfalso;have:=zW (λX=>e9 m (z9 pts X)) (λ_=>R3 pts m e) (v9 n d pts) (λY hY=>oB (xa.sup Y (d5.mp hY).1)) ⟨X,hX,KY (len_pos hs) (by lia)⟩;rw[<-dB,Z1,<-hL]at this
   lia
 obtain⟨A,hA,B',hB',C,hC,ea,eb,ec,hcr⟩:=hn.three;obtain⟨Z,hZ,hz⟩:=hs.below hn.prim.ne hn.sup;obtain⟨rfl,rfl⟩:=mI hn.prim xa.prim hn.sup xa.sup ea eb ec (all A<|d5.mpr ⟨hA,ea⟩) (all B'<|d5.mpr ⟨hB',eb⟩) (all C<|d5.mpr ⟨hC,ec⟩) hcr hZ hz;exact hm
end G
namespace G
def j7 (pts:List V)(f:V×Int):List V:=i8 f.1 (v9 f.1 f.2 pts)
structure LInv (pts:List V)(p0:V×V)(fs:List (V×Int))(walked:V×V->Prop)(waiting:List (V×V)):Prop where
 face:∀f∈fs,IsFace pts f.1 f.2
 nd:fs.Nodup
 wk:∀e,walked e↔∃f∈fs,e∈T2 (j7 pts f)
 cl:∀f∈fs,∀a b,(a,b)∈T2 (j7 pts f)->(∃g∈fs,(b,a)∈T2 (j7 pts g))\/(b,a)∈waiting
 wt:∀p∈waiting,(∃f∈fs,(p.2,p.1)∈T2 (j7 pts f))\/(fs=[]/\p=p0)
 ne:fs=[]->waiting=[p0]
structure Good (pts:List V)(m:V):Prop where
 solid:l6 pts
 ord:pts.Pairwise (λa b=>d6 (b-a))
 mem:m∈pts
 least:∀X∈pts,X=m\/d6 (X-m)
section
variable{pts:List V} {m:V} (G:Good pts m) {fs:List (V×Int)} {walked:V×V->Prop} {waiting rest:List (V×V)} {p:V×V}
include G
theorem AG:LInv pts (d8 m pts) [] (λ_=>False) [d8 m pts]where
 face:=λf h=>by cases h
 nd:=aDd
 wk:=λe=>⟨λh=>h.elim,λ⟨f,h,_⟩=>by cases h⟩
 cl:=λf h=>by cases h
 wt:=λq h=>.inr ⟨rfl,by simpa using h⟩
 ne:=λ_=>rfl
theorem IL (h:LInv pts (d8 m pts) fs walked waiting)(hW:waiting=rest++[p])(hp:walked p):LInv pts (d8 m pts) fs walked rest:=by
 have hw:∀q,q∈waiting↔q=p\/q∈rest:=λq=>by rw[hW];simp[or_comm]
 obtain⟨f0,hf0,e0⟩:=(h.wk p).mp hp;have ai:fs≠[]:=λe=>by subst e;cases hf0
 refine⟨h.face,h.nd,h.wk,λf hf a b hab=>?_,λq hq=>h.wt q ((hw q).mpr (.inr hq)),λe=>absurd e ai⟩;rcases h.cl f hf a b hab with q|q
 ·exact .inl q
 ·rcases(hw (b,a)).mp q with z|z
  ·subst z;exact .inl ⟨f0,hf0,e0⟩
  ·exact .inr z
theorem xU (h:LInv pts (d8 m pts) fs walked waiting)(hp:p∈waiting)(hn:¬walked p):IsFace pts (b7 p.1 p.2 pts).1 (b7 p.1 p.2 pts).2/\b7 p.1 p.2 pts∉fs/\(fs≠[]->p∈T2 (j7 pts (b7 p.1 p.2 pts))):=by
 rcases h.wt p hp with⟨f,hf,he⟩|⟨e1,e2⟩
 ·have hfc:=h.face f hf;have S:=hfc.aa2 G.ord;have ed:=S.aa1.mp he;obtain⟨t1,t2⟩:=rD hfc.prim.ne hfc.sup (G.solid.below hfc.prim.ne hfc.sup) ed;have S':=t1.aa2 G.ord;have e3:p∈T2 (j7 pts<|b7 p.1 p.2 pts):=S'.aa1.mpr t2;exact⟨t1,λz=>hn ((h.wk p).mpr ⟨_,z,e3⟩),λ_=>e3⟩
 ·subst e1 e2;exact⟨nZ G.solid G.ord G.mem G.least,by simp,λz=>absurd rfl z⟩
theorem NU (h:LInv pts (d8 m pts) fs walked waiting)(hW:waiting=rest++[p])(hn:¬walked p){walked':V×V->Prop}(h1:∀e,walked' e↔walked e\/e∈T2 (j7 pts (b7 p.1 p.2 pts)))(h2:∀q,q∈waiting'↔q∈rest\/(q.2,q.1)∈T2 (j7 pts (b7 p.1 p.2 pts))):
  LInv pts (d8 m pts) (fs++[b7 p.1 p.2 pts]) walked' waiting':=by
 have hw:∀q,q∈waiting↔q=p\/q∈rest:=λq=>by rw[hW];simp[or_comm]
 obtain⟨n1,n2,n3⟩:=xU G h ((hw p).mpr (.inl rfl)) hn;refine⟨λf hf=>?_,?_,λe=>?_,λf hf a b hab=>?_,λq hq=>?_,λe=>by simp at e⟩
 ·rcases aAI.mp hf with z|z
  ·exact h.face f z
  ·have:f=b7 p.1 p.2 pts:=by simpa using z
   subst this;exact n1
 ·rw[aCX];exact⟨h.nd,by simp,λa ha b hb=>λe=>by
   have:b=b7 p.1 p.2 pts:=by simpa using hb
   subst e this;exact n2 ha⟩
 ·rw[h1,h.wk];constructor
  ·rintro(⟨f,hf,he⟩|he)
   ·exact⟨f,aBg _ hf,he⟩
   ·exact⟨_,aAC _ (by simp),he⟩
  ·rintro⟨f,hf,he⟩;rcases aAI.mp hf with z|z
   ·exact .inl ⟨f,z,he⟩
   ·have:f=b7 p.1 p.2 pts:=by simpa using z
    subst this;exact .inr he
 ·rcases aAI.mp hf with z|z
  ·rcases h.cl f z a b hab with⟨g,hg,e⟩|q
   ·exact .inl ⟨g,aBg _ hg,e⟩
   ·rcases(hw (b,a)).mp q with y|y
    ·have ai:fs≠[]:=λe=>by subst e;cases z
     exact .inl ⟨b7 p.1 p.2 pts,aAC _ (by simp),by rw[y];exact n3 ai⟩
    ·exact .inr ((h2 _).mpr (.inl y))
  ·have:f=b7 p.1 p.2 pts:=by simpa using z
   subst this;exact .inr ((h2 _).mpr (.inr hab))
 ·rcases(h2 q).mp hq with z|z
  ·rcases h.wt q ((hw q).mpr (.inr z))with⟨f,hf,e⟩|⟨e1,e2⟩
   ·exact .inl ⟨f,aBg _ hf,e⟩
   ·have:=h.ne e1;exfalso;rw[hW]at this;have hl:=congrArg List.length this;simp at hl;subst hl;cases z
  ·exact .inl ⟨_,aAC _ (by simp),z⟩
theorem NA (h:LInv pts (d8 m pts) fs walked []):fs≠[]/\∀n d,(n,d)∈fs↔IsFace pts n d:=by
 have ai:fs≠[]:=λe=>by have:=h.ne e;cases this
 refine⟨ai,λn d=>⟨λhf=>h.face _ hf,λhf=>?_⟩⟩;refine qN G.solid G.ord fs ai h.face (λf hf a b hab=>?_) hf;have S:=(h.face f hf).aa2 G.ord;rcases h.cl f hf a b (S.aa1.mpr hab)with⟨g,hg,e⟩|q
 ·exact⟨g,hg,((h.face g hg).aa2 G.ord).aa1.mp e⟩
 ·cases q
end
def FX (h:IsFace pts n d):∃A∈pts,∃B∈pts,∃C∈pts,cr (B-A) (C-A)≠0/\j0 A B C=(n,d):=by
 obtain⟨A,hA,B,hB,C,hC,a,b,c,e⟩:=h.three;have key:∀B∈pts,∀C∈pts,e9 n B=d->e9 n C=d->cr (B-A) (C-A)≠0->0<e9 n (cr (B-A)<|C-A)->j0 A B C=(n,d):=λB hB C hC b c e pos=>by
  obtain⟨g,g0,ge,gp,gd⟩:=mW e;have p:cr n (cr (B-A)<|C-A)=0:=S5 (by rw[i3];lia) (by rw[i3];lia);obtain⟨k,l,hk,e1⟩:=A9 h.prim.ne p;have hl:0<l:=by
   have q:=congrArg (e9 n) e1;rw[t5,t5]at q;have:=aAX hk pos;have hn:=y7 h.prim.ne;by_cases z:0<l
   ·exact z
   ·have:=aAT (show l<=0 by lia) (aAS hn);simp at this;lia
  rw[ge]at e1;have e2:(k*g)*(j0 A B C).1=l*n:=by rw[<-e1];apply ext<;>simp<;>grind
  have e3:=EJ gp h.prim (aAX hk g0) hl e2;refine aGb e3 ?_;rw[gd,e3];exact a
 by_cases z:0<e9 n (cr (B-A)<|C-A)
 ·exact⟨A,hA,B,hB,C,hC,e,key B hB C hC b c e z⟩
 ·have sw:cr (C-A) (B-A)=-cr (B-A) (C-A):=by apply ext<;>simp<;>grind
  have e':cr (C-A) (B-A)≠0:=λq=>e (by rw[sw]at q;have q1:=congrArg V.x q;have q2:=congrArg V.y q;have q3:=congrArg V.z q;simp only[dj,gj,ZK,aJ,Z8,bC]at q1 q2 q3;exact ext (by simp only[aJ];lia) (by simp only[Z8];lia) (by simp only[bC];lia))
  have ai:e9 n (cr (B-A)<|C-A)≠0:=λq=>e (fC h.prim.ne (by rw[i3];lia) (by rw[i3];lia) q);refine⟨A,hA,C,hC,B,hB,e',key C hC B hB c b e' ?_⟩;have:e9 n (cr (C-A)<|B-A)=-e9 n (cr (B-A)<|C-A):=by rw[sw];simp[e9];grind
  lia
def cands (pts:List V):List (V×Int):=pts.flatMap λA=>pts.flatMap λB=>pts.map λC=>j0 A B C
theorem T0 {α:Type}[DecidableEq α]:∀{l m:List α},l.Nodup->(∀x∈l,x∈m)->l.length<=m.length
 |[],_,_,_=>aAV _
 |x::l,m,h,hs=>by
  have hx:=hs x (by simp);have h':=aAJ.mp h;have:=T0 (l:=l) (m:=m.erase x) h'.2 (λy hy=>by
   have ne:y≠x:=λe=>by subst e;exact h'.1 hy
   exact(aFO ne).mpr (hs y<|aAe _ hy))
  rw[aFd hx]at this;have:0<m.length:=aDU hx;simp only[aAs]
  lia
end G
namespace G
section
variable{pts:List V} (hs:l6 pts) (ho:pts.Pairwise (λa b=>d6 (b-a)))
include hs ho
theorem sM (hf:IsFace pts n d)(h:EdgeOf n (λX=>X∈v9 n d pts) a b):
 IsFace pts (b7 b a pts).1 (b7 b a pts).2/\EdgeOf (b7 b a pts).1 (λX=>X∈v9 (b7 b a pts).1 (b7 b a pts).2 pts) b a:=rD hf.prim.ne hf.sup (hs.below hf.prim.ne hf.sup) h
theorem RF (hf:IsFace pts n d)(h1:EdgeOf n (λX=>X∈v9 n d pts) a b)(h2:EdgeOf n (λX=>X∈v9 n d pts) b a):False:=by
 obtain⟨X,hX,hx⟩:=hf.ac8 h1;have:=h2.left X hX;have e1:i6 n (a-b) (X-b)=-i6 n (b-a) (X-a):=by simp[i6,e9];grind
 lia
theorem FW (hf:IsFace pts n d)(hg:IsFace pts m e)(h:EdgeOf n (λX=>X∈v9 n d pts) a b)(ga:e9 m a=e)(gb:e9 m b=e):(m,e)=(n,d)\/(m,e)=b7 b a pts:=by
 obtain⟨pa,da⟩:=d5.mp h.p;obtain⟨pb,db⟩:=d5.mp h.q;obtain⟨f1,b1⟩:=sM hs ho hf h;have hab:e9 n (a-b)=0:=by rw[i3];lia
 have C:=qQ (n:=n) hf.prim.ne hab;have ai:a-b≠0:=λq=>h.ne (bB q);obtain⟨P,pP,eP,hP⟩:∃P∈pts,e9 m P=e/\cr (a-b) (P-b)≠0:=by
  by_cases z:∃P∈pts,e9 m P=e/\cr (a-b) (P-b)≠0
  ·exact z
  ·exfalso;obtain⟨A,hA,B,hB,D,hD,eA,eB,eD,hc⟩:=hg.three;have k:∀X∈pts,e9 m X=e->cr (a-b) (X-b)=0:=λX hX dX=>by
    by_cases q:cr (a-b) (X-b)=0
    ·exact q
    ·exact absurd ⟨X,hX,dX,q⟩ z
   have k2:∀X∈pts,e9 m X=e->∀Y∈pts,e9 m Y=e->cr (X-Y) (a-b)=0:=λX hX dX Y hY dY=>by have q1:=k X hX dX;have q2:=k Y hY dY;have a1:=congrArg V.x q1;have a2:=congrArg V.y q1;have a3:=congrArg V.z q1;have b1:=congrArg V.x q2;have b2:=congrArg V.y q2;have b3:=congrArg V.z q2;simp at a1 a2 a3 b1 b2 b3;apply ext<;>simp<;>grind
   exact hc (sZ ai (k2 B hB eB A hA eA)<|k2 D hD eD A hA eA)
 have mab:e9 m (a-b)=0:=by rw[i3];lia
 have mP:e9 m (P-b)=0:=by rw[i3];lia
 have par:cr m (cr (a-b)<|P-b)=0:=S5 mab mP;obtain⟨k,l,hk,ek⟩:=A9 hg.prim.ne par;have dl:∀w,k*i6 (a-b) (P-b) w=l*e9 m w:=λw=>by have:=congrArg (λv=>e9 v w) ek;simp only[V9,R9]at this;exact this
 have l0:l≠0:=λq=>hP (by rw[q,t9]at ek;have q1:=congrArg V.x ek;have q2:=congrArg V.y ek;have q3:=congrArg V.z ek;simp only[MP,NW,NO,aJ,Z8,bC]at q1 q2 q3;exact ext ((aAD.mp q1).resolve_left (by lia)) ((aAD.mp q2).resolve_left (by lia)) ((aAD.mp q3).resolve_left (by lia)))
 have mle:∀Q∈pts,e9 m (Q-b)<=0:=λQ hQ=>by rw[i3];have:=hg.sup Q hQ;lia
 obtain⟨Z,hZ,hz⟩:=hs.below hf.prim.ne hf.sup;by_cases hl:0<l
 ·
  right;obtain⟨O,hO,eO⟩:∃O∈v9 (b7 b a pts).1 (b7 b a pts).2 pts,0<i6 (b7 b a pts).1 (a-b) (O-b):=f1.ac8 b1;obtain⟨pO,dO⟩:=d5.mp hO;obtain⟨_,e1b⟩:=d5.mp b1.p;obtain⟨_,e1a⟩:=d5.mp b1.q;have t1:i6 (a-b) (P-b) (O-b)<=0:=by
   have q:=dl (O-b);have:=aAG (mle O pO) (aAS hl);rw[aEe]at this;by_cases z:i6 (a-b) (P-b) (O-b)<=0
   ·exact z
   ·have:=aAX hk (show 0<i6 (a-b) (P-b) (O-b)by lia);lia
  have par2:cr (b7 b a pts).1 (cr (a-b)<|O-b)=0:=S5 (by rw[i3];lia) (by rw[i3];lia);obtain⟨k',l',jg,ek'⟩:=A9 f1.prim.ne par2;have dl':∀w,k'*i6 (a-b) (O-b) w=l'*e9 (b7 b a pts).1 w:=λw=>by have:=congrArg (λv=>e9 v w) ek';simp only[V9,R9]at this;exact this
  have ip:0<l':=by
   have q:=congrArg (e9 (b7 b a pts).1) ek';rw[t5,t5]at q;have q2:0<e9 (b7 b a pts).1 (cr (a-b)<|O-b):=eO;have:=aAX jg q2;have hn:=y7 f1.prim.ne;by_cases z:0<l'
   ·exact z
   ·have:=aAT (show l'<=0 by lia) (aAS hn);simp at this;lia
  have t2:i6 (a-b) (O-b) (P-b)<=0:=by
   have q:=dl' (P-b);have h0:e9 (b7 b a pts).1 (P-b)<=0:=by rw[i3];have:=f1.sup P pP;lia
   have:=aAG h0 (aAS ip);rw[aEe]at this;by_cases z:i6 (a-b) (O-b) (P-b)<=0
   ·exact z
   ·have:=aAX jg (show 0<i6 (a-b) (O-b) (P-b)by lia);lia
  have t3:i6 (a-b) (O-b) (P-b)=0:=by rw[j4]at t1;lia
  have q0:=dl' (P-b);rw[t3,aEe]at q0;have onP':e9 (b7 b a pts).1 P=(b7 b a pts).2:=by have:=(aAD.mp q0.symm).resolve_left (by lia);rw[i3]at this;lia
  obtain⟨Z',hZ',hz'⟩:=hs.below hg.prim.ne hg.sup;obtain⟨q1,q2⟩:=mI hg.prim f1.prim hg.sup f1.sup gb ga eP e1b e1a onP' hP hZ' hz';exact aGb q1 q2
 ·
  left;have mr:l<0:=by lia
  obtain⟨O,hO,eO⟩:=hf.ac8 h;obtain⟨pO,dO⟩:=d5.mp hO;rw[oV]at eO;have t1:0<=i6 (a-b) (P-b) (O-b):=by
   have q:=dl (O-b);have h2:0<=l*e9 m (O-b):=by
    have:=aDA (show 0<=-l by lia) (show 0<=-e9 m (O-b)by have:=mle O pO;lia)
    rwa [aFD]at this
   by_cases z:0<=i6 (a-b) (P-b) (O-b)
   ·exact z
   ·have:=aBw hk (show i6 (a-b) (P-b) (O-b)<0 by lia);lia
  have par2:cr n (cr (b-a)<|O-b)=0:=S5 (by rw[i3];lia) (by rw[i3];lia);obtain⟨k',l',jg,ek'⟩:=A9 hf.prim.ne par2;have dl':∀w,k'*i6 (b-a) (O-b) w=l'*e9 n w:=λw=>by have:=congrArg (λv=>e9 v w) ek';simp only[V9,R9]at this;exact this
  have ip:0<l':=by
   have q:=congrArg (e9 n) ek';rw[t5,t5]at q;have q2:0<e9 n (cr (b-a)<|O-b):=eO;have:=aAX jg q2;have hn:=y7 hf.prim.ne;by_cases z:0<l'
   ·exact z
   ·have:=aAT (show l'<=0 by lia) (aAS hn);simp at this;lia
  have t2:i6 (b-a) (O-b) (P-b)<=0:=by
   have q:=dl' (P-b);have h0:e9 n (P-b)<=0:=by rw[i3];have:=hf.sup P pP;lia
   have:=aAG h0 (aAS ip);rw[aEe]at this;by_cases z:i6 (b-a) (O-b) (P-b)<=0
   ·exact z
   ·have:=aAX jg (show 0<i6 (b-a) (O-b) (P-b)by lia);lia
  have e3:i6 (b-a) (O-b) (P-b)=i6 (a-b) (P-b) (O-b):=by simp[i6,e9];grind
  have t3:i6 (b-a) (O-b) (P-b)=0:=by lia
  have q0:=dl' (P-b);rw[t3,aEe]at q0;have onn:e9 n P=d:=by have:=(aAD.mp q0.symm).resolve_left (by lia);rw[i3]at this;lia
  obtain⟨Z',hZ',hz'⟩:=hs.below hg.prim.ne hg.sup;obtain⟨q1,q2⟩:=mI hg.prim hf.prim hg.sup hf.sup gb ga eP db da onn hP hZ' hz';exact aGb q1 q2
end
end G
namespace M
open PySem L2 DL
def tV:D->Option G.V
 |.tup [.int a,.int b,.int c]=>some ⟨a,b,c⟩
 |_=>none
@[simp]def uC (v:G.V):tV (vd v)=some v:=rfl
def rG (h:tV d=some v):d=vd v:=by
 unfold tV at h;split at h
 ·cases h;rfl
 ·cases h
def D7:List D->Option (List G.V)
 |[]=>some []
 |d::ds=>match tV d,D7 ds with
  |some v,some vs=>some (v::vs)
  |_,_=>none
@[simp]theorem t4:∀vs:List G.V,D7 (vs.map vd)=some vs
 |[]=>rfl
 |v::vs=>by rw[aAp,D7,uC,t4 vs]
theorem m9:∀{ds:List D} {vs:List G.V},D7 ds=some vs->ds=vs.map vd
 |[],vs,h=>by cases h;rfl
 |d::ds,vs,h=>by
  unfold D7 at h;split at h
  ·rename_i v ws h1 h2;cases h;rw[rG h1,m9 h2];rfl
  ·cases h
def AA (h:vd u=vd v):u=v:=by
 have:tV (vd u)=tV (vd v):=by rw[h]
 simpa using this
def RD {u v:List G.V}(h:u.map vd=v.map vd):u=v:=by
 have:D7 (u.map vd)=D7 (v.map vd):=by rw[h]
 simpa using this
def bH (n:Nat)(pts:List G.V):Prop:=(∀P∈pts,Sz n P)/\pts.length<=1000
def zQ:Option G.V->D
 |some v=>vd v
 |none=>.non
def x4:List D->R D
 |[.lst xs]=>match D7 xs with
  |some ws=>.ok (zQ (G.y6 ws))
  |none=>.bad
 |_=>.bad
open Classical in
def A7:List D->R D
 |[.lst xs]=>match D7 xs with
  |some pts=>if pts≠[]/\bH 1000 pts then .ok (.int (G.S4 pts))else .bad
  |none=>.bad
 |_=>.bad
open Classical in
def C6:List D->R D
 |[.lst xs]=>match D7 xs with
  |some pts=>if bH 1000 pts/\G.S4 pts=3 then .ok .non else .bad
  |none=>.bad
 |_=>.bad
open Classical in
def x3:List D->R D:=v4 λa b c d=>PL λxs=>vI (match D7 xs with
 |some pts=>if Sz 10000 ⟨a,b,c⟩/\bH 1000 pts then .ok (.lst ((G.v9 ⟨a,b,c⟩ d pts).map vd))else .bad
 |none=>.bad)
open Classical in
def C7:List D->R D:=iw λys=>PL λxs=>vI ((v1 λa b c=>v1 λd e f=>vI (match D7 xs with
 |some pts=>if Sz 1000 ⟨a,b,c⟩/\Sz 1000 ⟨d,e,f⟩/\bH 1000 pts/\G.cJ (G.b7 ⟨a,b,c⟩ ⟨d,e,f⟩ pts).1 then .ok (vG (G.b7 ⟨a,b,c⟩ ⟨d,e,f⟩ pts).1 (G.b7 ⟨a,b,c⟩ ⟨d,e,f⟩ pts).2)else .bad
 |none=>.bad)) ys)
abbrev G1 (p:G.V×G.V):D:=.tup [vd p.1,vd p.2]
structure Land (pts:List G.V)(m:G.V):Prop where
 good:G.Good pts m
 sz:bH 900 pts
 few:pts.length<=63
 head:pts.head?=some m
open Classical in
def F7:List D->R D
 |[.lst xs]=>match D7 xs with
  |some (m::pts)=>if Land (m::pts) m then .ok (G1 (G.d8 m (m::pts)))else .bad
  |_=>.bad
 |_=>.bad
open Classical in
def dM:List D->R D:=v1 λa b c=>v1 λd e f=>v1 λg h i=>v1 λj k l=>vI (
 if Sz 10000 ⟨a,b,c⟩/\Sz 1000 ⟨d,e,f⟩/\Sz 1000 ⟨g,h,i⟩/\Sz 1000 ⟨j,k,l⟩then .ok (.int (G.turn ⟨a,b,c⟩ ⟨d,e,f⟩ ⟨g,h,i⟩ ⟨j,k,l⟩))else .bad)
open Classical in
def R7:List D->R D:=v1 λa b c=>PL λxs=>vI (match D7 xs with
 |some pts=>if Sz 10000 ⟨a,b,c⟩/\bH 1000 pts then .ok (.lst ((G.x8 ⟨a,b,c⟩ pts).reverse.map vd))else .bad
 |none=>.bad)
open Classical in
def F6:List D->R D:=v1 λa b c=>PL λxs=>vI (match D7 xs with
 |some pts=>if Sz 10000 ⟨a,b,c⟩/\bH 1000 pts then .ok (.lst ((G.i8 ⟨a,b,c⟩ pts).map vd))else .bad
 |none=>.bad)
def z6:List D->R D
 |[.lst xs]=>match D7 xs with
  |some pts=>if pts.length<=3000 then .ok (.lst ((G.T2 pts).map G1))else .bad
  |none=>.bad
 |_=>.bad
abbrev l4 (pts:List G.V)(f:G.V×Int):D:=.tup [vG f.1 f.2,.lst ((G.j7 pts f).map vd)]
def cM (pts:List G.V)(fs:List (G.V×Int)):Prop:=(∀f,f∈fs↔G.IsFace pts f.1 f.2)/\tY Q1 (fs.map<|l4 pts)
open Classical in
def A0 (pts:List G.V):List (G.V×Int):=if h:∃fs,cM pts fs then h.choose else[]
def G3:List D->List D->R D
 |[w],[_]=>.ok w
 |_,_=>.bad
def B9:List D->List D->R D
 |[w],[p]=>x3 [p,w]
 |_,_=>.bad
open Classical in
def G0 (d:D) (m1 m2:List D->R D):R D:=match m1 [.non]with
 |.ok (.lst xs)=>match D7 xs with
  |some (m::pts)=>if Land (m::pts) m/\(m::pts).length<=14/\d=G1 (G.d8 m (m::pts))/\m1=G3 [.lst xs]/\m2=B9 [.lst xs]then .ok (.lst ((A0 (m::pts)).map (l4 (m::pts))))else .bad
  |_=>.bad
 |_=>.bad
def i5 (pts:List G.V):List G.V:=(Y5<|pts.map vd).filterMap tV
open Classical in
def U0:List D->R D
 |[.lst xs]=>match D7 xs with
  |some pts=>if bH 900 pts/\G.l6 pts/\(i5 pts).length<=14 then .ok (.lst ((A0 (i5 pts)).map (l4 (i5 pts))))else .bad
  |none=>.bad
 |_=>.bad
def UZ:D->Option (List G.V)
 |.tup [_,.lst xs]=>D7 xs
 |_=>none
def rT:List D->Option (List (List G.V))
 |[]=>some []
 |d::ds=>match UZ d,rT ds with
  |some v,some vs=>some (v::vs)
  |_,_=>none
open Classical in
def F9:List D->R D
 |[.lst xs]=>match rT xs with
  |some rs=>if rs.flatten.length<=3000/\(i5 rs.flatten).length<=63 then .ok (.lst ((i5 rs.flatten).map vd))else .bad
  |none=>.bad
 |_=>.bad
def A1 (pts:List G.V):List G.V:=i5 ((A0<|i5 pts).flatMap (G.j7<|i5 pts))
open Classical in
def M6:List D->R D
 |[.lst xs]=>match D7 xs with
  |some pts=>if bH 900 pts/\G.l6 pts/\(i5 pts).length<=14 then .ok (.lst ((A1 pts).map vd))else .bad
  |none=>.bad
 |_=>.bad
end M
namespace M
open PySem L2 DL
def yy (v:G.V):vV (vd v) (.tup [.int 0,.int 0,.int 0])=.ok (.bl (!decide (v=0))):=by rw[zP];congr 3;rw[aDN];simp only[aAL,beq_iff_eq,decide_eq_true_eq,G.oQ];exact⟨λh=>h,λh=>h⟩
def eq0 (v:G.V):FE (vd v) (.tup [.int 0,.int 0,.int 0])=.ok (.bl (decide (v=0))):=by rw[WM];congr 2;rw[aDN];simp only[aAL,beq_iff_eq,decide_eq_true_eq,G.oQ];exact⟨λh=>h,λh=>h⟩
def R5 (h1:G d ρ=.ok ρ1)(h2:F ρ1=.ok (.nx ρ2)):G6 G F (d::ds) ρ=G6 G F ds ρ2:=by rw[G6,h1];dsimp only;rw[h2]
def iP (h1:G d ρ=.ok ρ1)(h2:F ρ1=.ok (.rt x)):G6 G F (d::ds) ρ=.ok (.rt x):=by rw[G6,h1];dsimp only;rw[h2]
theorem dS {α:Type}(rep:α->D)(p:α->Bool)(g:α->D):∀(l:List α),(∀a∈l,∃ρ1,G (rep a) ρ=.ok ρ1/\ft ρ1=.ok (p a)/\(p a=true->fe ρ1=.ok (g a)))->n6 G ft fe ρ (l.map rep)=.ok ((l.filter p).map g)
 |[],_=>rfl
 |a::l,h=>by
  obtain⟨ρ1,h1,h2,h3⟩:=h a (.head _);have ih:=dS rep p g l λb hb=>h b (.tail _ hb);rw[aAp,n6,h1];dsimp only;rw[h2,R.aa0,ih];cases hp:p a with
  |false=>rw[if_neg (by decide),aFl (by simp[hp])]
  |true=>rw[if_pos rfl,h3 hp,R.aa0,R.aa0,aFm hp];rfl
def J8 {α:Type}(rep:α->D)(g:α->D)(l:List α)(h:∀a∈l,∃ρ1,G (rep a) ρ=.ok ρ1/\fe ρ1=.ok (g a)):n6 G (λ_=>.ok true) fe ρ (l.map rep)=.ok (l.map g):=by
 have:=dS rep (G:=G) (ft:=λ_=>.ok true) (fe:=fe) (ρ:=ρ) (λ_=>true) g l λa ha=>let⟨ρ1,h1,h2⟩:=h a ha;⟨ρ1,h1,rfl,λ_=>h2⟩
 rw[this,List.filter_eq_self.mpr λ_ _=>rfl]
def small (h:n<=1000):n<=sizeLine:=aAu h (by decide)
def NK (h:n<=3000):n<=sizeLine:=aAu h (by decide)
def bH.sub (h:bH n pts)(hs:∀P∈qs,P∈pts)(hl:qs.length<=pts.length):bH n qs:=⟨λP hP=>h.1 P (hs P hP),aAu hl h.2⟩
def bH.mono (h:bH m pts)(hm:m<=n:=by decide):bH n pts:=⟨λP hP=>(h.1 P hP).mono hm,h.2⟩
def mz (t:Int):(sgn t==0)=decide (t=0):=by
 unfold sgn;by_cases h:0<t
 ·rw[if_pos h];simp;lia
 ·rw[if_neg h];by_cases h2:t<0
  ·rw[if_pos h2];simp;lia
  ·rw[if_neg h2];simp;lia
def gG (h1:Sz 10000 n)(h2:bH 1000 pts):x3 [vG n d,.lst (pts.map vd)]=.ok (.lst ((G.v9 n d pts).map vd)):=by simp only[x3,v4,PL,vI,t4];exact if_pos ⟨h1,h2⟩
def JU (h1:pts≠[])(h2:bH 1000 pts):A7 [.lst (pts.map vd)]=.ok (.int (G.S4 pts)):=by simp only[A7,t4];exact if_pos ⟨h1,h2⟩
def BD (ws:List G.V):x4 [.lst (ws.map vd)]=.ok (zQ (G.y6 ws)):=by simp only[x4,t4]
def AH (bs:List Bool):cO (bs.map D.bl)=some bs:=by
 induction bs with
 |nil=>rfl
 |cons b bs ih=>rw[aAp,cO,ih];rfl
def UW (bs:List Bool):anyR [.lst (bs.map D.bl)]=.ok (.bl (bs.any id)):=by simp only[anyR,AH]
def RX (xs:List D):tH (.lst xs) none (some (-1))=.ok (.lst xs.dropLast):=by
 show R.ok (D.lst<|cutD xs none<|some (-1))=_;unfold cutD HT.sIx;rw[aDY];simp;congr 1
 lia
def QU (xs:List D):tH (.lst xs) (some 1) none=.ok (.lst xs.tail):=by
 show R.ok (D.lst<|cutD xs (some 1) none)=_;unfold cutD HT.sIx;cases xs with
 |nil=>rfl
 |cons a l=>simp
def WU (xs:List D):tH (.lst xs) none (some 1)=.ok (.lst (xs.take 1)):=by
 show R.ok (D.lst<|cutD xs none<|some 1)=_;unfold cutD HT.sIx;cases xs with
 |nil=>rfl
 |cons a l=>simp
def UP (xs:List D)(a b:D):lX (xs++[a,b]) (-1)=some b:=by
 have hl:(xs++[a,b]).length=xs.length+2:=by simp
 unfold lX OI;rw[hl,if_neg (by decide),if_pos (by lia)];show(xs++[a,b])[((-1:Int)+((xs.length+2:Nat):Int)).toNat]?=_;have:((-1:Int)+((xs.length+2:Nat):Int)).toNat=xs.length+1:=by lia
 rw[this,aAx (by lia),show xs.length+1-xs.length=1 by lia];rfl
def TV (xs:List D)(a b:D):lX (xs++[a,b]) (-2)=some a:=by
 have hl:(xs++[a,b]).length=xs.length+2:=by simp
 unfold lX OI;rw[hl,if_neg (by decide),if_pos (by lia)];show(xs++[a,b])[((-2:Int)+((xs.length+2:Nat):Int)).toNat]?=_;have:((-2:Int)+((xs.length+2:Nat):Int)).toNat=xs.length:=by lia
 rw[this,aAx (by lia),Nat.sub_self];rfl
def YZ (a:D)(xs:List D):lX (a::xs) 0=some a:=by rw[aT (by decide)];rfl
def fw (a b:D)(xs:List D):lX (a::b::xs) 1=some b:=by rw[aT (by decide)];rfl
def QZ {P Q R:G.V}(h:G.cJ (G.j0 P Q R).1):G.cr (Q-P) (R-P)≠0:=λe=>by
 have:(G.j0 P Q R).1=0:=by show G.kF (G.cr (Q-P)<|R-P) _=0;rw[e];rfl
 rw[this]at h;unfold G.cJ at h;exact absurd h (by decide)
theorem xD:∀{c:List G.V} {X:G.V},X∈G.M2 n P c->X∈c
 |[],X,h=>by simpa[G.M2]using h
 |[a],X,h=>by simpa[G.M2]using h
 |b::a::r,X,h=>by
  unfold G.M2 at h;split at h
  ·exact .tail _ (xD h)
  ·exact h
theorem vX:∀{c:List G.V},(G.M2 n P c).length<=c.length
 |[]=>aAj _
 |[a]=>aAj _
 |b::a::r=>by
  unfold G.M2;split
  ·exact aAu (vX (c:=a::r)) (by simp)
  ·exact aAj _
theorem kO (ps:List G.V):∀(qs c:List G.V),(∀X∈c,X∈ps)->(∀X∈qs,X∈ps)->∀X∈qs.foldl (λc P=>P::G.M2 n P c) c,X∈ps
 |[],c,hc,_=>hc
 |P::qs,c,hc,hq=>kO ps qs _ (λX hX=>by
  rcases aAd.mp hX with rfl|hX
  ·exact hq _ (.head _)
  ·exact hc X (xD hX)) λX hX=>hq X (.tail _ hX)
theorem nD:∀(qs c:List G.V),(qs.foldl (λc P=>P::G.M2 n P c) c).length<=qs.length+c.length
 |[],c=>by simp
 |P::qs,c=>by refine aAu (nD qs _) ?_;have:=vX (n:=n) (P:=P) (c:=c);simp;lia
def dI (n:G.V)(ps:List G.V):(G.x8 n ps).length<=ps.length:=by simpa[G.x8]using nD (n:=n) ps []
theorem qR {α β:Type}(f:α->D):∀(xs ys:List α),J5 (xs.map f) (ys.map f)=(xs.zip ys).map λp=>D.tup [f p.1,f p.2]
 |[],_=>by simp[J5]
 |_::_,[]=>by simp[J5]
 |x::xs,y::ys=>by have:=qR (β:=β) f xs ys;simp only[J5]at this⊢;simp[this]
def UN (h1:Sz 10000 n)(h2:bH 1000 pts):R7 [vd n,.lst (pts.map vd)]=.ok (.lst ((G.x8 n pts).reverse.map vd)):=by simp only[R7,v1,PL,vI,t4];exact if_pos ⟨h1,h2⟩
def DN {n P Q R:G.V}(h:Sz 10000 n)(h1:Sz 1000 P)(h2:Sz 1000 Q)(h3:Sz 1000 R):dM [vd n,vd P,vd Q,vd R]=.ok (.int (G.turn n P Q R)):=if_pos ⟨h,h1,h2,h3⟩
def T7 (h1:Sz 1000 A)(h2:Sz 1000 B)(h3:bH 1000 pts)(h4:G.cJ (G.b7 A B pts).1):C7 [.tup [vd A,vd B],.lst (pts.map vd)]=.ok (vG (G.b7 A B pts).1 (G.b7 A B pts).2):=by simp only[C7,iw,PL,v1,vI,t4];exact if_pos ⟨h1,h2,h3,h4⟩
def DC (h1:Sz 10000 n)(h2:bH 1000 pts):F6 [vd n,.lst (pts.map vd)]=.ok (.lst ((G.i8 n pts).map vd)):=by simp only[F6,v1,PL,vI,t4];exact if_pos ⟨h1,h2⟩
def OH (h:pts.length<=3000):z6 [.lst (pts.map vd)]=.ok (.lst ((G.T2 pts).map G1)):=by simp only[z6,t4];exact if_pos h
def rZ (h:a.length+b.length<=sizeLine):fL (.lst a) (.lst b)=.ok (.lst (a++b)):=if_pos h
end M
namespace G
def xV (hs:l6 pts)(hm:m∈pts)(hl:∀X∈pts,X=m\/d6 (X-m)):
  cJ (b7 m (m+kk) pts).1/\m∈v9 (b7 m (m+kk) pts).1 (b7 m (m+kk) pts).2 pts/\∃out∈v9 (b7 m (m+kk) pts).1 (b7 m (m+kk) pts).2 pts,m≠out:=by
 have C:ConeM (m+kk-m) (λw=>0<w.x\/(w.x=0/\0<w.y)):=by rw[J7];exact EX
 have ai:m+kk-m≠0:=by rw[J7];intro e;have:=congrArg V.z e;simp[kk]at this
 have hp:∀P∈pts,(0<(P-m).x\/((P-m).x=0/\0<(P-m).y))\/cr (m+kk-m) (P-m)=0:=λP hP=>by
  rw[J7];rcases hl P hP with e|e
  ·right;subst e;rw[u8];apply ext<;>simp
  ·unfold d6 at e;rcases e with e|⟨e1,e|⟨e2,e3⟩⟩
   ·exact .inl (.inl e)
   ·exact .inl (.inr ⟨e1,e⟩)
   ·right;apply ext
    ·simp[kk];simp at e2;lia
    ·simp[kk];simp at e1;lia
    ·simp[kk]
 have hx:∃P∈pts,0<(P-m).x\/((P-m).x=0/\0<(P-m).y):=by
  by_cases z:∃P∈pts,0<(P-m).x\/((P-m).x=0/\0<(P-m).y)
  ·exact z
  ·exfalso;obtain⟨Z,hZ,e⟩:=hs.off (n:=⟨1,0,0⟩) (d:=m.x) (λe=>by have:=congrArg V.x e;simp at this);have w:=(hp Z hZ).resolve_left λq=>z ⟨Z,hZ,q⟩;rw[J7]at w;have:=congrArg V.y w;simp[kk]at this;simp[e9]at e
   lia
 obtain⟨out,g,o1,o2,g0,ge,gp,gd,sup,sB,sO,sP⟩:=T7 C ai hp hx;refine⟨gp,d5.mpr ⟨hm,gd.symm⟩,out,d5.mpr ⟨o1,sO⟩,λe=>?_⟩;subst e;rw[u8]at o2;simp at o2
section
variable{pts:List V} (hs:l6 pts) (ho:pts.Pairwise (λa b=>d6 (b-a)))
include hs ho
theorem JV (hf:IsFace pts f.1 f.2)(hg:IsFace pts g.1 g.2)(h1:(a,b)∈T2 (j7 pts f))(h2:(a,b)∈T2 (j7 pts g)):f=g:=by
 have e1:=(hf.aa2 ho).aa1.mp h1;have e2:=(hg.aa2 ho).aa1.mp h2;obtain⟨f1,b1⟩:=sM hs ho hf e1;rcases FW hs ho hf hg e1 (d5.mp e2.p).2 (d5.mp e2.q).2 with q|q
 ·exact q.symm
 ·exfalso;have:g=b7 b a pts:=q;rw[<-this]at b1;exact RF hs ho hg e2 b1
theorem FU (h:l.Nodup):(T2 l).Nodup:=by
 have:((T2 l).map (·.1)).Nodup:=by
  unfold T2;rw[List.map_fst_zip]
  ·exact h
  ·simp;lia
 exact(aBG.mp this).imp λ{a b} h e=>h (by rw[e])
def HB (pts:List V)(fs:List (V×Int)):List (V×V):=fs.flatMap λf=>T2 (j7 pts f)
omit hs ho in
theorem KJ (fs:List (V×Int)):(HB pts fs).length=(fs.map λf=>(j7 pts f).length).sum:=by
 induction fs with
 |nil=>rfl
 |cons f fs ih=>show(T2 (j7 pts f)++HB pts fs).length=_;rw[aAy,ih,aAp,aDc];congr 1;unfold T2;simp;lia
theorem nV:∀{fs:List (V×Int)},fs.Nodup->(∀f∈fs,IsFace pts f.1 f.2)->(HB pts fs).Nodup
 |[],_,_=>aDd
 |f::fs,nd,hf=>by have n1:=aAJ.mp nd;have h1:=hf f (.head _);show(T2 (j7 pts f)++HB pts fs).Nodup;rw[aCX];refine⟨FU hs ho ((h1.aa2 ho).aa3),nV n1.2 λg hg=>hf g (.tail _ hg),λe he e' xl q=>?_⟩;subst q;obtain⟨g,hg,ku⟩:=aBP.mp xl;exact n1.1 (JV hs ho h1 (hf g<|.tail _ hg) (a:=e.1) (b:=e.2) he ku▸hg)
theorem cW {fs:List (V×Int)}(nd:fs.Nodup)(hf:∀f∈fs,IsFace pts f.1 f.2):(fs.map λf=>(j7 pts f).length).sum+pts.length<=pts.length*pts.length:=by
 have npts:pts.Nodup:=ho.imp λ{a b} h e=>by subst e;exact N7 h
 have h1:=nV hs ho nd hf;have h2:(HB pts fs++pts.map λa=>(a,a)).Nodup:=by rw[aCX];refine⟨h1,aBG.mpr (npts.imp λ{a b} h e=>h (Prod.mk.inj e).1),λe he e' xl q=>?_⟩;subst q;obtain⟨g,hg,ku⟩:=aBP.mp he;obtain⟨a,_,rfl⟩:=aAm.mp xl;exact(((hf g hg).aa2 ho).aa1.mp ku).ne rfl
 have h3:∀e∈HB pts fs++pts.map (λa=>(a,a)),e∈pts.flatMap λa=>pts.map λb=>(a,b):=λe he=>by
  rcases aAI.mp he with he|he
  ·obtain⟨g,hg,ku⟩:=aBP.mp he;have ku:(e.1,e.2)∈T2 (j7 pts g):=ku;have ed:=((hf g hg).aa2 ho).aa1.mp ku;exact aBP.mpr ⟨e.1,(d5.mp ed.p).1,aAm.mpr ⟨e.2,(d5.mp ed.q).1,rfl⟩⟩
  ·obtain⟨a,ha,rfl⟩:=aAm.mp he;exact aBP.mpr ⟨a,ha,aAm.mpr ⟨a,ha,rfl⟩⟩
 have h4:=T0 h2 h3;have h5:(pts.flatMap λa=>pts.map λb=>(a,b)).length=pts.length*pts.length:=by
  have:∀l:List V,(l.flatMap λa=>pts.map λb=>(a,b)).length=l.length*pts.length:=λl=>by
   induction l with
   |nil=>simp
   |cons a l ih=>rw[List.flatMap_cons,aAy,ih,aAh,aAs,Nat.succ_mul];lia
  exact this pts
 rw[aAy,KJ,aAh,h5]at h4;exact h4
theorem lB {fs:List (V×Int)}(hf:∀f∈fs,IsFace pts f.1 f.2):3*fs.length<=(fs.map λf=>(j7 pts f).length).sum:=by
 induction fs with
 |nil=>simp
 |cons f fs ih=>
  have:=ih λg hg=>hf g (.tail _ hg);obtain⟨r,s,t,l,e⟩:=U3 ho (hf f<|.head _);have e2:(j7 pts f).length=l.length+3:=by show(i8 f.1 (v9 f.1 f.2 pts)).length=_;rw[e];simp
  rw[aAp,aDc,aAs,e2]
  lia
end
theorem jX:∀(pts:List V) (up out:V),(D5 a A pts up out).2∈pts\/(D5 a A pts up out).2=out
 |[],up,out=>.inr rfl
 |P::Ps,up,out=>by
  unfold D5;split
  ·rcases jX Ps (cr a (P-A)) P with h|h
   ·exact .inl (.tail _ h)
   ·exact .inl (by rw[h];exact .head _)
  ·rcases jX Ps up out with h|h
   ·exact .inl (.tail _ h)
   ·exact .inr h
end G
namespace M
open PySem L2 DL
def JO (a b:G.V):HT.lexLt (flat (vd a)) (flat (vd b))=true↔G.d6 (b-a):=by
 show HT.lexLt [a.x,a.y,a.z] [b.x,b.y,b.z]=true↔_;unfold G.d6;simp only[HT.lexLt,G.JY,G.ME,G.MT];by_cases h1:a.x=b.x
 ·by_cases h2:a.y=b.y
  ·by_cases h3:a.z=b.z
   ·simp[h1,h2,h3]
   ·simp[h1,h2,h3];try lia
  ·simp[h1,h2];try lia
 ·simp[h1];try lia
def zN {pts:List G.V}(h:pts.Pairwise λa b=>G.d6 (b-a)):MR (pts.map vd):=aBG.mpr (h.imp λ{a b} q=>(JO a b).mpr q)
def VX {pts:List G.V}(h:MR (pts.map vd)):pts.Pairwise λa b=>G.d6 (b-a):=(aBG.mp h).imp λ{a b} q=>(JO a b).mp q
def NV (pts:List G.V):(pts.map vd).all Z4=true:=aBF.mpr λd hd=>by obtain⟨v,_,rfl⟩:=aAm.mp hd;rfl
def VC [Tabs]{m:G.V}{pts:List G.V}(h:(m::pts).Pairwise λa b=>G.d6 (b-a)):CZ [.lst ((m::pts).map vd)]=.ok (vd m):=by show(if(m::pts).map vd≠[]/\((m::pts).map vd).all Z4=true then _ else _)=_;rw[if_pos ⟨by simp,NV _⟩,DQ (zN h) _ (by simp)];rfl
def xK {P Q R:G.V}(p:Sz 1000 P)(q:Sz 1000 Q)(r:Sz 1000 R):Sz 2003 (G.j0 P Q R).1:=by
 have sC:=(q.sub p).cr (r.sub p);by_cases hc:G.cr (Q-P) (R-P)=0
 ·have:(G.j0 P Q R).1=0:=by show G.kF (G.cr (Q-P)<|R-P) _=0;rw[hc];rfl
  rw[this];exact⟨by decide,by decide,by decide⟩
 ·obtain⟨g0,g1,g2⟩:=G.iY hc;have f1:=bits_fdiv (b:=(G.v7 (G.cr (Q-P)<|R-P):Int)) sC.1;have f2:=bits_fdiv (b:=(G.v7 (G.cr (Q-P)<|R-P):Int)) sC.2.1;have f3:=bits_fdiv (b:=(G.v7 (G.cr (Q-P)<|R-P):Int)) sC.2.2;rw[oC g0]at f1 f2 f3;exact⟨f1,f2,f3⟩
def yE {A B:G.V}{pts:List G.V}(p:Sz 1000 A)(q:Sz 1000 B)(r:bH 1000 pts):Sz 2003 (G.b7 A B pts).1:=by
 unfold G.b7;rcases G.jX (a:=B-A) (A:=A) pts 0 A with h|h
 ·exact xK p q (r.1 _ h)
 ·rw[h];exact xK p q p
def ZA (m:G.V):vd (m+G.kk)=.tup [.int m.x,.int m.y,.int (m.z+1)]:=by simp[G.kk]
def LQ (h:Sz 900 m):Sz 1000 (m+G.kk):=(h.add (v:=G.kk) ⟨by decide,by decide,by decide⟩).mono
def JZ (h:bH k pts):bH k (G.v9 n d pts):=h.sub (λP hP=>(G.d5.mp hP).1) (List.length_filter_le _ _)
def ND {α:Type}{l:List α}{a b:α}(ha:a∈l)(hb:b∈l)(h:a≠b):∃x y r,l=x::y::r:=by
 match l,ha,hb with
 |[x],ha,hb=>exact absurd ((aAU.mp ha).trans (aAU.mp hb).symm) h
 |x::y::r,_,_=>exact⟨x,y,r,rfl⟩
end M
namespace M
open PySem L2 DL
open Classical in
def LW {kvs:List (D×D)}{k v k':D}:k'∈(eI kvs k v).map (·.1)↔k'∈kvs.map (·.1)\/k'=k:=by
 unfold eI;split
 ·rename_i h;rw[aBB];have:((λx=>x.1)∘λp:D×D=>if p.1=k then(p.1,v)else p)=λp=>p.1:=by funext p;simp only[Function.comp];split<;>rfl
  rw[this];exact⟨.inl,λq=>q.elim id λe=>by rw[e];exact h⟩
 ·rw[aBr,aAI];simp
def MI {kvs:List (D×D)}{k v:D}:(eI kvs k v).length<=kvs.length+1:=by
 unfold eI;split
 ·simp
 ·simp
def TJ {p q:G.V×G.V}(h:G1 p=G1 q):p=q:=by injection h with h;injection h with h1 h2;injection h2 with h2 _;exact aGb (AA h1) (AA h2)
def AY (p:G.V×G.V):Q4 7 (G1 p)=true/\GU (G1 p)=true:=⟨rfl,rfl⟩
def ffC:Ev->R Bool:=λρ=>((((vH 5 ρ).bind λd=>R.ok [d]).bind QS).bind λx=>WJ x (D.int 0)).bind pJ
def yq:Ev->R Out:=λρ=>
 z7 ((aD 9 ρ).bind λkd=>wD 4 ρ kd (D.bl true)) λρ=>((((vH 9 ρ).bind λx=>R1 x (D.int 1)).bind λd=>(((vH 9 ρ).bind λx=>R1 x (D.int 0)).bind λd=>R.ok [d]).bind λds=>R.ok (d::ds)).bind jC).bind (yO 5 ρ)
theorem EU {a0 a1 a2 a3 a6 a7 a8:Sl}:∀(qs:List (G.V×G.V)) (kvs:List (D×D)) (W:List (G.V×G.V)) (a9:Sl),kvs.length+qs.length<=10000->W.length+qs.length<=10000->
  ∃ic a9',G6 (λd ρ=>R.ok (aDj ρ 9 (Sl.v d))) yq (qs.map G1) [a0,a1,a2,a3,.d kvs,.o (W.map G1),a6,a7,a8,a9]=.ok (.nx [a0,a1,a2,a3,.d ic,.o ((W++qs.map λq=>(q.2,q.1)).map G1),a6,a7,a8,a9'])/\
   (∀e:G.V×G.V,G1 e∈ic.map (·.1)↔G1 e∈kvs.map (·.1)\/e∈qs)/\ic.length<=kvs.length+qs.length
 |[],kvs,W,a9,_,_=>⟨kvs,a9,by simp,λe=>by simp,by simp⟩
 |q::qs,kvs,W,a9,h1,h2=>by
  simp only[aAs]at h1 h2;have pl:=MI (kvs:=kvs) (k:=G1 q) (v:=.bl true);obtain⟨ic,a9',e,m,l⟩:=EU qs (eI kvs (G1 q)<|.bl true) (W++[(q.2,q.1)]) (.v (G1 q)) (by lia) (by simp;lia);refine⟨ic,a9',?_,λx=>?_,by simp;lia⟩
  ·rw[aAp];refine(R5 (ρ2:=[a0,a1,a2,a3,.d (eI kvs (G1 q)<|.bl true),.o ((W++[(q.2,q.1)]).map G1),a6,a7,a8,.v (G1 q)]) rfl ?_).trans ?_
   ·have hk:kvs.length<=sizeLine:=aAu (show kvs.length<=10000 by lia) (by decide);have hw:(W.map G1).length<sizeLine:=by rw[aAh];exact aBY (show W.length<=10000 by lia) (by decide)
    have d1:wD 4 [a0,a1,a2,a3,.d kvs,.o (W.map G1),a6,a7,a8,.v (G1 q)] (G1 q) (.bl true)=.ok (.nx [a0,a1,a2,a3,.d (eI kvs (G1 q)<|.bl true),.o (W.map G1),a6,a7,a8,.v (G1 q)]):=by show(if _ then _ else _)=_;rw[if_pos ⟨(AY q).1,(AY q).2,hk⟩];rfl
    have d2:yO 5 [a0,a1,a2,a3,.d (eI kvs (G1 q)<|.bl true),.o (W.map G1),a6,a7,a8,.v (G1 q)] (G1 (q.2,q.1))=.ok (.nx [a0,a1,a2,a3,.d (eI kvs (G1 q)<|.bl true),.o ((W++[(q.2,q.1)]).map G1),a6,a7,a8,.v (G1 q)]):=by show(if _ then _ else _)=_;rw[if_pos hw,aBr];rfl
    show z7 ((R.ok<|G1 q).bind λkd=>wD 4 [a0,a1,a2,a3,.d kvs,.o (W.map G1),a6,a7,a8,.v (G1 q)] kd (D.bl true)) _=_;rw[R.aa0,d1];exact d2
   ·rw[e];simp
  ·rw[m x,LW,aAd];constructor
   ·rintro((h|h)|h)
    ·exact .inl h
    ·exact .inr (.inl (TJ h))
    ·exact .inr (.inr h)
   ·rintro(h|h|h)
    ·exact .inl (.inl h)
    ·exact .inl (.inr (by rw[h]))
    ·exact .inr h
section
variable(Φ:(List D->R D)->Hp->(Addr->Prop)->Addr->Prop)
def qy:Ev->R Out:=λρ=>
 z7 ((BU 5 ρ).bind λz=>R.ok (Out.nx<|aDj z.snd 6<|Sl.v z.fst)) λρ=>
  ((aD 6 ρ).bind (nH 4 ρ)).bind λt=>
   if t=true then
    z7
     ((((aD 6 ρ).bind λd=>((callC Φ 1 (o7 (λρ=>(vH 6 ρ).bind λx=>R1 x (D.int 0)) T4) ρ).bind λd=>R.ok [d]).bind λds=>R.ok (d::ds)).bind C7).bind λd=>R.ok (Out.nx<|aDj ρ 7<|Sl.v d))
     λρ=>
     z7
      (((((vH 7 ρ).bind λx=>tH x none (some 3)).bind λd=>((callC Φ 2 (o7 (aD 7) T4) ρ).bind λd=>R.ok [d]).bind λds=>R.ok (d::ds)).bind F6).bind λd=>R.ok (Out.nx<|aDj ρ 8<|Sl.v d))
      λρ=>
      z7 ((((aD 7 ρ).bind λd=>((aD 8 ρ).bind λd=>R.ok [d]).bind λds=>R.ok (d::ds)).bind jC).bind (yO 3 ρ))
       λρ=>((((aD 8 ρ).bind λd=>R.ok [d]).bind z6).bind dC).bind λds=>G6 (λd ρ=>R.ok (aDj ρ 9<|Sl.v d)) yq ds ρ
   else R.ok (Out.nx ρ)
def wC (L:D) (p0:G.V×G.V) (fs:List D) (kvs:List (D×D)) (W:List (G.V×G.V)) (a b c d:Sl):Ev:=
 [Sl.v (G1 p0),Sl.c (G3 [L]) (Φ<|G3 [L]),Sl.c (B9 [L]) (Φ<|B9 [L]),.o fs,.d kvs,.o (W.map G1),a,b,c,d]
end
def wH {Φ:(List D->R D)->Hp->(Addr->Prop)->Addr->Prop}{i:Nat}{f:Ev->R (List D)}{ρ:Ev}{m:List D->R D}{ds:List D}(h:ρ[i]?=some (.c m (Φ m)))(hf:f ρ=.ok ds):callC Φ i f ρ=m ds:=by unfold callC;rw[h];dsimp only;rw[if_pos rfl,hf];rfl
def fY (pts:List G.V)(fs:List (G.V×Int)):Nat:=(fs.map λf=>(G.j7 pts f).length).sum
def cZ (pts:List G.V)(fs:List (G.V×Int))(f:G.V×Int):fY pts (fs++[f])=fY pts fs+(G.j7 pts f).length:=by simp[fY]
def NP {pts:List G.V}{m:G.V}(h:Land pts m):Sz 1000 (G.d8 m pts).1/\Sz 1000 (G.d8 m pts).2:=by
 have sm:Sz 900 m:=h.sz.1 m h.good.mem;obtain⟨hp,tm,out,to,ai⟩:=G.xV h.good.solid h.good.mem h.good.least;unfold G.d8;dsimp only;split
 ·exact⟨sm.mono,LQ sm⟩
 ·obtain⟨x,y,r,et⟩:=ND tm to ai;rw[et];have q:∀z∈x::y::r,Sz 1000 z:=λz hz=>by rw[<-et]at hz;exact(h.sz.1 z (G.d5.mp hz).1).mono
  exact⟨q x (.head _),q y (.tail _ (.head _))⟩
def RE {pts:List G.V}{m:G.V}(h:Land pts m){fs:List (G.V×Int)}{wk:G.V×G.V->Prop}{W:List (G.V×G.V)}(L:G.LInv pts (G.d8 m pts) fs wk W){p:G.V×G.V}(hp:p∈W):Sz 1000 p.1/\Sz 1000 p.2:=by
 rcases L.wt p hp with⟨f,hf,he⟩|⟨_,e⟩
 ·have S:=(L.face f hf).aa2 h.good.ord;have ed:=S.aa1.mp he;exact⟨(h.sz.1 _ (G.d5.mp ed.q).1).mono,(h.sz.1 _ (G.d5.mp ed.p).1).mono⟩
 ·rw[e];exact NP h
def JL {pts:List G.V}{m:G.V}(h:Land pts m){f:G.V×Int}(hf:G.IsFace pts f.1 f.2):(G.j7 pts f).length<=pts.length:=by have S:=hf.aa2 h.good.ord;exact G.T0 S.aa3 λx hx=>(G.d5.mp<|S.aa4 hx).1
def yV {pts:List G.V}{f g:G.V×Int}(h:Q1 (l4 pts f)=Q1 (l4 pts g)):f=g:=by have h:[f.1.x,f.1.y,f.1.z,f.2]=[g.1.x,g.1.y,g.1.z,g.2]:=h;simp only[aEA,and_true]at h;exact aGb (G.ext h.1 h.2.1 h.2.2.1) h.2.2.2
def pW {α β:Type}{f:α->β}(hf:∀a b,f a=f b->a=b){l:List α}(h:l.Nodup):(l.map f).Nodup:=aBG.mpr (h.imp λ{a b} n e=>n (hf a b e))
def PY {Φ:(List D->R D)->Hp->(Addr->Prop)->Addr->Prop}{pts:List G.V}{m:G.V}(hz:Land pts m){fs:List (G.V×Int)}{kvs:List (D×D)}{W:List (G.V×G.V)}{a b c d:Sl}(L:G.LInv pts (G.d8 m pts) fs (λe=>G1 e∈kvs.map (·.1)) W)
  (hk:kvs.length<=fY pts fs) (hW:W.length<=1+fY pts fs) {n:Nat} (hn:W.length+(pts.length*pts.length-fY pts fs)<n+1) (ai:W≠[]):
  ∃xc ic W' a' b' c' d',qy Φ (wC Φ (.lst (pts.map vd)) (G.d8 m pts) (fs.map (l4 pts)) kvs W a b c d)=.ok (.nx (wC Φ (.lst (pts.map vd)) (G.d8 m pts) (xc.map (l4 pts)) ic W' a' b' c' d'))/\
   G.LInv pts (G.d8 m pts) xc (λe=>G1 e∈ic.map (·.1)) W'/\ic.length<=fY pts xc/\W'.length<=1+fY pts xc/\W'.length+(pts.length*pts.length-fY pts xc)<n:=by
 obtain⟨rest,p,rfl⟩:∃rest p,W=rest++[p]:=⟨W.dropLast,W.getLast ai,(List.dropLast_concat_getLast ai).symm⟩;have sfew:=G.cW hz.good.solid hz.good.ord L.nd L.face;have few:=hz.few;have nn:pts.length*pts.length<=63*63:=aFU few few;have hsum:fY pts fs+pts.length<=pts.length*pts.length:=sfew;have hlW:(rest++[p]).length=rest.length+1:=by simp
 rw[hlW]at hW hn;have pop:BU 5 (wC Φ (.lst (pts.map vd)) (G.d8 m pts) (fs.map<|l4 pts) kvs (rest++[p]) a b c d)=.ok (G1 p,wC Φ (.lst (pts.map vd)) (G.d8 m pts) (fs.map<|l4 pts) kvs rest a b c d):=by show(match((rest++[p]).map G1)[((rest++[p]).map G1).length-1]? with|some d=>_|none=>_:R (D×Ev))=_;rw[aBr];simp;rfl
 have nin:nH 4 (wC Φ (.lst (pts.map vd)) (G.d8 m pts) (fs.map<|l4 pts) kvs rest (.v (G1 p)) b c d) (G1 p)=.ok (!(open Classical in decide (G1 p∈kvs.map (·.1)))):=by unfold nH;rw[show(wC Φ (.lst (pts.map vd)) (G.d8 m pts) (fs.map<|l4 pts) kvs rest (.v (G1 p)) b c d)[4]?=some (.d kvs)from rfl];dsimp only;rw[if_pos (AY p)]
 have s1:bH 1000 pts:=hz.sz.mono;unfold qy;rw[pop];show∃xc ic W' a' b' c' d',z7 (R.ok<|Out.nx<|wC Φ (.lst (pts.map vd)) (G.d8 m pts) (fs.map<|l4 pts) kvs rest (.v (G1 p)) b c d) _=_/\_;rw[B1];rw[show aD 6 (wC Φ (.lst (pts.map vd)) (G.d8 m pts) (fs.map<|l4 pts) kvs rest (.v (G1 p)) b c d)=.ok (G1 p)from rfl,R.aa0,nin,R.aa0];by_cases hp:G1 p∈kvs.map (·.1)
 ·refine⟨fs,kvs,rest,.v (G1 p),b,c,d,?_,G.IL hz.good L rfl hp,hk,by lia,by lia⟩;rw[decide_eq_true hp];rfl
 ·have hpm:p∈rest++[p]:=by simp
  obtain⟨n1,n2,n3⟩:=G.xU hz.good L hpm hp;obtain⟨sp1,sp2⟩:=RE hz L hpm;have ab:=T7 sp1 sp2 s1 n1.prim;have asz:=yE sp1 sp2 s1;obtain⟨f,ef⟩:∃f,G.b7 p.1 p.2 pts=f:=⟨_,rfl⟩;rw[ef]at n1 n2 n3 ab asz;have po:=gG (d:=f.2) asz.mono s1;have ro:=DC (n:=f.1) (pts:=G.v9 f.1 f.2 pts) asz.mono (JZ s1);have rl:=JL hz n1;have ro:F6 [vd f.1,.lst ((G.v9 f.1 f.2 pts).map vd)]=.ok (.lst ((G.j7 pts f).map vd)):=ro;have pr:=OH (pts:=G.j7 pts f) (by lia);have L':=λ{wk'} {W'} h1 h2=>G.NU hz.good L (rest:=rest) (p:=p) rfl hp (walked':=wk') (waiting':=W') h1 h2;rw[ef]at L';have nd':(fs++[f]).Nodup:=by
   have:=(L' (wk':=λe=>G1 e∈kvs.map (·.1)\/e∈G.T2 (G.j7 pts f)) (W':=rest++(G.T2<|G.j7 pts f).map λq=>(q.2,q.1)) (λe=>Iff.rfl) (λq=>by
    rw[aAI,aAm];constructor
    ·rintro(h|⟨x,hx,rfl⟩)
     ·exact .inl h
     ·exact .inr hx
    ·rintro(h|h)
     ·exact .inl h
     ·exact .inr ⟨_,h,rfl⟩))
   exact this.nd
  have sfew2:fY pts (fs++[f])+pts.length<=pts.length*pts.length:=G.cW hz.good.solid hz.good.ord nd' λg hg=>by
   rcases aAI.mp hg with z|z
   ·exact L.face g z
   ·rw[aAU.mp z];exact n1
  rw[cZ]at sfew2;have clen:(G.T2<|G.j7 pts f).length=(G.j7 pts f).length:=by unfold G.T2;simp;lia
  obtain⟨ic,a9',run,mem',len'⟩:=EU (a0:=Sl.v (G1<|G.d8 m pts)) (a1:=Sl.c (G3 [.lst (pts.map vd)]) (Φ<|G3 [.lst (pts.map vd)])) (a2:=Sl.c (B9 [.lst (pts.map vd)]) (Φ<|B9 [.lst (pts.map vd)])) (a3:=.o ((fs++[f]).map (l4 pts))) (a6:=.v (G1 p)) (a7:=.v (vG f.1 f.2)) (a8:=.v (.lst ((G.j7 pts f).map vd))) (G.T2<|G.j7 pts f) kvs rest d (by lia) (by lia);refine⟨fs++[f],ic,rest++(G.T2<|G.j7 pts f).map (λq=>(q.2,q.1)),.v (G1 p),.v (vG f.1 f.2),.v (.lst ((G.j7 pts f).map vd)),a9',?_,L' mem' (λq=>?_),?_,?_,?_⟩
  ·have ap:yO 3 (wC Φ (.lst (pts.map vd)) (G.d8 m pts) (fs.map<|l4 pts) kvs rest (.v (G1 p)) (.v (vG f.1 f.2)) (.v (.lst ((G.j7 pts f).map vd))) d) (l4 pts f)=.ok (.nx (wC Φ (.lst (pts.map vd)) (G.d8 m pts) ((fs++[f]).map (l4 pts)) kvs rest (.v (G1 p)) (.v (vG f.1 f.2)) (.v (.lst ((G.j7 pts f).map vd))) d)):=by show(if(fs.map<|l4 pts).length<sizeLine then _ else _)=_;have h3:=G.lB hz.good.solid hz.good.ord L.face;have h3:3*fs.length<=fY pts fs:=h3;rw[if_pos (by rw[aAh];exact aBY (show fs.length<=4000 by lia) (by decide)),aBr];rfl
   have ca:callC Φ 1 (o7 (λρ=>(vH 6 ρ).bind λx=>R1 x (D.int 0)) T4) (wC Φ (.lst (pts.map vd)) (G.d8 m pts) (fs.map<|l4 pts) kvs rest (.v (G1 p)) b c d)=.ok (.lst (pts.map vd)):=by exact(wH (m:=G3 [.lst (pts.map vd)]) (ds:=[vd p.1]) rfl rfl).trans rfl
   have ct:callC Φ 2 (o7 (aD 7) T4) (wC Φ (.lst (pts.map vd)) (G.d8 m pts) (fs.map<|l4 pts) kvs rest (.v (G1 p)) (.v (vG f.1 f.2)) c d)=.ok (.lst ((G.v9 f.1 f.2 pts).map vd)):=by exact(wH (m:=B9 [.lst (pts.map vd)]) (ds:=[vG f.1 f.2]) rfl rfl).trans po
   have sl:tH (vG f.1 f.2) none (some 3)=.ok (vd f.1):=rfl;rw[decide_eq_false hp];simp only[Bool.not_false,if_true];rw[ca,R.aa0,R.aa0,R.aa0,R.aa0,ab,R.aa0];show z7 (R.ok<|Out.nx<|wC Φ (.lst (pts.map vd)) (G.d8 m pts) (fs.map<|l4 pts) kvs rest (.v (G1 p)) (.v (vG f.1 f.2)) c d) _=_;rw[B1];rw[ct];show z7 ((((R.ok<|vG f.1 f.2).bind λx=>tH x none (some 3)).bind λd=>(R.ok [D.lst ((G.v9 f.1 f.2 pts).map vd)]).bind λds=>R.ok (d::ds)).bind F6|>.bind λd=>R.ok (Out.nx<|aDj _ 8<|Sl.v d)) _=_;rw[R.aa0,sl,R.aa0,R.aa0,R.aa0,ro,R.aa0];show z7 (R.ok<|Out.nx<|wC Φ (.lst (pts.map vd)) (G.d8 m pts) (fs.map<|l4 pts) kvs rest (.v (G1 p)) (.v (vG f.1 f.2)) (.v (.lst ((G.j7 pts f).map vd))) d) _=_;rw[B1];show z7 (yO 3 (wC Φ (.lst (pts.map vd)) (G.d8 m pts) (fs.map<|l4 pts) kvs rest (.v (G1 p)) (.v (vG f.1 f.2)) (.v (.lst ((G.j7 pts f).map vd))) d)<|l4 pts f) _=_;rw[ap,B1];show((z6 [.lst ((G.j7 pts f).map vd)]).bind dC).bind _=_;rw[pr,R.aa0];exact run
  ·rw[aAI,aAm];constructor
   ·rintro(h|⟨x,hx,rfl⟩)
    ·exact .inl h
    ·exact .inr hx
   ·rintro(h|h)
    ·exact .inl h
    ·exact .inr ⟨_,h,rfl⟩
  ·rw[cZ];lia
  ·rw[cZ,aAy,aAh];lia
  ·rw[cZ,aAy,aAh];lia
end M
namespace M
open PySem L2 DL
def SN (pts:List G.V)(f:G.V×Int):List (G.V×Int)->List (G.V×Int)
 |[]=>[f]
 |x::xs=>if HT.lexLt (Q1 (l4 pts f)) (Q1 (l4 pts x))=true then f::x::xs else x::SN pts f xs
def DX (pts:List G.V)(fs:List (G.V×Int)):List (G.V×Int):=fs.foldr (SN pts) []
theorem yP (pts:List G.V)(f:G.V×Int):∀xs:List (G.V×Int),sF Q1 (l4 pts f) (xs.map (l4 pts))=(SN pts f xs).map (l4 pts)
 |[]=>rfl
 |x::xs=>by
  unfold SN;rw[aAp,sF];split
  ·rfl
  ·rw[aAp,yP pts f xs]
theorem dU (pts:List G.V):∀fs:List (G.V×Int),nI Q1 (fs.map (l4 pts))=(DX pts fs).map (l4 pts)
 |[]=>rfl
 |f::fs=>by show sF Q1 (l4 pts f) (nI Q1 (fs.map (l4 pts)))=_;rw[dU pts fs,yP];rfl
def kI (h:l4 pts f=l4 pts g):f=g:=yV (by rw[h])
theorem fA:∀{a b:List (G.V×Int)},a.map (l4 pts)=b.map (l4 pts)->a=b
 |[],[],_=>rfl
 |[],_::_,h=>by cases h
 |_::_,[],h=>by cases h
 |x::a,y::b,h=>by rw[aAp,aAp]at h;injection h with h1 h2;rw[kI h1,fA h2]
def HL:f∈DX pts fs↔f∈fs:=by
 have h:=(U9 Q1<|fs.map<|l4 pts).mem_iff (a:=l4 pts f);rw[dU]at h;constructor
 ·intro q;obtain⟨g,hg,e⟩:=aAm.mp (h.mp<|aCE q);rw[<-kI e];exact hg
 ·intro q;obtain⟨g,hg,e⟩:=aAm.mp (h.mpr<|aCE q);rw[<-kI e];exact hg
def rH [Tabs]{pts:List G.V}{fs:List (G.V×Int)}(h:fs.Nodup):((fs.map (l4 pts)).map Q1).Nodup:=by rw[aBB];exact pW (λa b e=>yV (pts:=pts) e) h
def fX (h:tY k l):l.Nodup:=h.imp λ{a b} q e=>by subst e;rw[TS.lex_irrefl]at q;cases q
def aP {pts:List G.V}{fs:List (G.V×Int)}(h:(fs.map (l4 pts)).Nodup):fs.Nodup:=(aBG.mp h).imp λ{a b} n e=>n (by rw[e])
def wB {pts:List G.V}{fs gs:List (G.V×Int)}(h1:cM pts fs)(h2:cM pts gs):fs=gs:=by
 have n1:=aP (fX h1.2);have n2:=aP (fX h2.2);have p:fs.Perm gs:=(aDu n1 n2).mpr λf=>by rw[h1.1,h2.1]
 exact fA (kB h1.2 h2.2 (p.map _))
def nT (h:cM pts fs):A0 pts=fs:=by unfold A0;have q:∃fs,cM pts fs:=⟨fs,h⟩;rw[dif_pos q];exact wB q.choose_spec h
def qK [Tabs]{pts:List G.V}{fs:List (G.V×Int)}(nd:fs.Nodup)(h:∀n d,(n,d)∈fs↔G.IsFace pts n d):cM pts (DX pts fs):=by refine⟨λf=>by rw[HL];exact h f.1 f.2,?_⟩;rw[<-dU];exact jQ (rH nd)
def az [Tabs]{Φ:(List D->R D)->Hp->(Addr->Prop)->Addr->Prop}{pts:List G.V}{m:G.V}(hz:Land pts m)(tf:pts.length<=14):
  K3 (z7 (L7 ffC (qy Φ) 5000 (wC Φ (.lst (pts.map vd)) (G.d8 m pts) [] [] [G.d8 m pts] .no .no .no .no)) λρ=>(((vH 3 ρ).bind ZG).bind λds=>R.ok (D.lst ds)).bind λd=>R.ok (Out.rt d))=.ok (.lst ((A0 pts).map (l4 pts))):=by
 refine FY (Iv:=λn ρ=>∃fs kvs W a b c d,ρ=wC Φ (.lst (pts.map vd)) (G.d8 m pts) (fs.map<|l4 pts) kvs W a b c d/\G.LInv pts (G.d8 m pts) fs (λe=>G1 e∈kvs.map (·.1)) W/\kvs.length<=fY pts fs/\W.length<=1+fY pts fs/\W.length+(pts.length*pts.length-fY pts fs)<n) ?_ ?_ ?_ (by rintro ρ ⟨_,_,_,_,_,_,_,_,_,_,_,h⟩;lia)
 ·rintro n ρ ⟨fs,kvs,W,a,b,c,d,rfl,L,hk,hW,hn⟩;by_cases ai:W=[]
  ·subst ai;exact .inl rfl
  ·refine .inr ⟨?_,?_⟩
   ·have hl:(0:Int)<((W.map G1).length:Int):=by have:=List.length_pos_iff.mpr ai;rw[aAh];lia
    show(R.ok<|D.bl<|decide ((0:Int)<((W.map G1).length:Int))).bind pJ=_;rw[decide_eq_true hl];rfl
   ·obtain⟨xc,ic,W',a',b',c',d',e,L',jg,hW',hn'⟩:=PY (Φ:=Φ) (a:=a) (b:=b) (c:=c) (d:=d) hz L hk hW hn ai;exact⟨_,e,xc,ic,W',a',b',c',d',rfl,L',jg,hW',hn'⟩
 ·refine⟨[],[],[G.d8 m pts],.no,.no,.no,.no,rfl,?_,aAj _,aAj _,?_⟩
  ·have:=G.AG hz.good;refine⟨this.face,this.nd,λe=>?_,this.cl,this.wt,this.ne⟩;rw[<-this.wk e];simp
  ·have nn:pts.length*pts.length<=14*14:=aFU tf tf;show 1+(pts.length*pts.length-0)<5000
   lia
 ·rintro n ρ ⟨fs,kvs,W,a,b,c,d,rfl,L,hk,hW,hn⟩ hc;have hW0:W=[]:=by
   cases W with
   |nil=>rfl
   |cons p W=>have hc:(R.ok<|D.bl<|decide ((0:Int)<(((p::W).map G1).length:Int))).bind pJ=.ok false:=hc;rw[decide_eq_true (by simp;try lia)]at hc;cases hc
  subst hW0;obtain⟨ai,oo⟩:=G.NA hz.good L;have FL:=qK L.nd oo;rw[nT FL];have few:=G.cW hz.good.solid hz.good.ord L.nd L.face;have three:=G.lB hz.good.solid hz.good.ord L.face;have nn:pts.length*pts.length<=14*pts.length:=Nat.mul_le_mul_right _ tf;have yp:(fs.map<|l4 pts).length<=63:=by rw[aAh];lia
  have sf:ZG (.lst (fs.map<|l4 pts))=.ok ((DX pts fs).map (l4 pts)):=by show(if _ then _ else _)=_;rw[if_pos ⟨aBF.mpr λd hd=>by obtain⟨f,_,rfl⟩:=aAm.mp hd;rfl,rH L.nd,yp⟩,dU]
  show K3 ((((R.ok<|D.lst<|fs.map<|l4 pts).bind ZG).bind λds=>R.ok (D.lst ds)).bind λd=>R.ok (Out.rt d))=_;rw[R.aa0,sf];rfl
end M
namespace M
open PySem L2 DL
theorem EI:∀{ds:List D},(∀d∈ds,∃v,d=vd v)->(ds.filterMap tV).map vd=ds
 |[],_=>rfl
 |d::ds,h=>by obtain⟨v,rfl⟩:=h d (.head _);rw[List.filterMap_cons_some (uC v),aAp,EI λd hd=>h d (.tail _ hd)]
section
variable [Tabs]
def OU (pts:List G.V):∀d∈pts.map vd,Z4 d=true:=λd hd=>by obtain⟨v,_,rfl⟩:=aAm.mp hd;rfl
def aO (pts:List G.V):Y5 (pts.map vd)=(i5 pts).map vd:=by unfold i5;refine(EI λd hd=>?_).symm;obtain⟨v,_,rfl⟩:=aAm.mp ((J6 (OU pts) d).mp hd);exact⟨v,rfl⟩
def E9 (pts:List G.V):(i5 pts).Pairwise λa b=>G.d6 (b-a):=VX (by rw[<-aO];exact Y9 _)
def IS {v:G.V}{pts:List G.V}:vd v∈pts.map vd↔v∈pts:=by rw[aAm];exact⟨λ⟨u,hu,e⟩=>by rw[<-AA e];exact hu,λh=>⟨v,h,rfl⟩⟩
def n4 {pts:List G.V}{v:G.V}:v∈i5 pts↔v∈pts:=by rw[<-IS,<-aO,J6 (OU pts),IS]
def iC (pts:List G.V):(i5 pts).Nodup:=(E9 pts).imp λ{a b} h e=>by subst e;exact G.N7 h
def lH {a b:List G.V}(ha:a.Pairwise λa b=>G.d6 (b-a))(hb:b.Pairwise λa b=>G.d6 (b-a))(h:∀v,v∈a↔v∈b):a=b:=by refine RD (iK (zN ha) (zN hb) λd=>?_);rw[aAm,aAm];exact⟨λ⟨v,hv,e⟩=>⟨v,(h v).mp hv,e⟩,λ⟨v,hv,e⟩=>⟨v,(h v).mpr hv,e⟩⟩
def MD (h:(i5 pts).length<=63):YG (.lst (pts.map vd))=.ok ((i5 pts).map vd):=by show(if _ then _ else _)=_;rw[if_pos ⟨NV pts,by rw[aO,aAh];exact h⟩,aO]
def kD (h:G.l6 a)(hm:∀v,v∈a->v∈b):G.l6 b:=by obtain⟨A,hA,B,hB,C,hC,D,hD,e⟩:=h;exact⟨A,hm A hA,B,hm B hB,C,hm C hC,D,hm D hD,e⟩
def XA (h:G.l6 pts):G.S4 pts=3:=by
 by_cases e:G.S4 pts=3
 ·exact e
 ·exact absurd h (G.KA e)
def pE (pts:List G.V):(i5 pts).length<=pts.length:=G.T0 (iC pts) λv hv=>n4.mp hv
def gD (hs:bH 900 pts)(hd:G.l6 pts)(hl:(i5 pts).length<=63):∃m r,i5 pts=m::r/\Land (m::r) m:=by
 have sd:G.l6 (i5 pts):=kD hd λv hv=>n4.mpr hv;cases e:i5 pts with
 |nil=>rw[e]at sd;obtain⟨A,hA,_⟩:=sd;cases hA
 |cons m r=>
  refine⟨m,r,rfl,?_⟩;have so:=E9 pts;rw[e]at sd hl so;refine⟨⟨sd,so,.head _,λX hX=>?_⟩,⟨λP hP=>hs.1 P (n4.mp (by rw[e];exact hP)),by lia⟩,hl,rfl⟩;rcases aAd.mp hX with h|h
  ·exact .inl h
  ·exact .inr ((aAw.mp so).1 X h)
def SK (h1:bH 1000 pts)(h2:G.l6 pts):C6 [.lst (pts.map vd)]=.ok .non:=by simp only[C6,t4];exact if_pos ⟨h1,XA h2⟩
def YS (h:Land (m::pts) m):F7 [.lst ((m::pts).map vd)]=.ok (G1 (G.d8 m (m::pts))):=by simp only[F7,t4];exact if_pos h
def VZ (h:Land (m::pts) m)(tf:(m::pts).length<=14):G0 (G1 (G.d8 m (m::pts))) (G3 [.lst ((m::pts).map vd)]) (B9 [.lst ((m::pts).map vd)])=.ok (.lst ((A0 (m::pts)).map (l4 (m::pts)))):=by simp only[G0,show G3 [.lst ((m::pts).map vd)] [.non]=.ok (.lst ((m::pts).map vd))from rfl,t4];exact if_pos ⟨h,tf,rfl,rfl,rfl⟩
def LH (h1:bH 900 pts)(h2:G.l6 pts)(h3:(i5 pts).length<=14):U0 [.lst (pts.map vd)]=.ok (.lst ((A0 (i5 pts)).map (l4 (i5 pts)))):=by simp only[U0,t4];exact if_pos ⟨h1,h2,h3⟩
def SW (h1:bH 900 pts)(h2:G.l6 pts)(h3:(i5 pts).length<=14):M6 [.lst (pts.map vd)]=.ok (.lst ((A1 pts).map vd)):=by simp only[M6,t4];exact if_pos ⟨h1,h2,h3⟩
omit [Tabs]in
theorem ZR {α:Type}:∀l:List α,∃l':List α,l'.Nodup/\∀x,x∈l'↔x∈l
 |[]=>⟨[],aDd,λ_=>Iff.rfl⟩
 |a::l=>by
  obtain⟨l',nd,h⟩:=ZR l;by_cases ha:a∈l
  ·exact⟨l',nd,λx=>by rw[h,aAd];exact⟨.inr,λq=>q.elim (λe=>by rw[e];exact ha) id⟩⟩
  ·exact⟨a::l',aAJ.mpr ⟨λz=>ha ((h a).mp z),nd⟩,λx=>by rw[aAd,aAd,h]⟩
def W6 (h:Land pts m)(tf:pts.length<=14):cM pts (A0 pts):=by
 classical
 obtain⟨fs,nd,hfs⟩:=ZR ((G.cands pts).filter λf=>decide (G.IsFace pts f.1 f.2));have hm:∀n d,(n,d)∈fs↔G.IsFace pts n d:=λn d=>by
  rw[hfs,aCR];constructor
  ·intro q;exact of_decide_eq_true q.2
  ·intro q;refine⟨?_,decide_eq_true q⟩;obtain⟨A,hA,B,hB,C,hC,_,e⟩:=G.FX q;unfold G.cands;rw[<-e];exact aBP.mpr ⟨A,hA,aBP.mpr ⟨B,hB,aAm.mpr ⟨C,hC,rfl⟩⟩⟩
 have FL:=qK nd hm;rw[nT FL];exact FL
theorem lF:∀(xs:List D) (rs:List (List G.V)) (acc:List G.V) (x y:Sl),rT xs=some rs->acc.length+rs.flatten.length<=3000->
  ∃x' y',G6 (gE 2 (U8 (λd ρ=>R.ok (aDj ρ 2 (Sl.v d))) (U8 (λd ρ=>R.ok (aDj ρ 3 (Sl.v d))) pF))) (λρ=>(aD 3 ρ).bind (XN 1 ρ)) xs [a,.o (acc.map vd),x,y]=.ok (.nx [a,.o ((acc++rs.flatten).map vd),x',y'])
 |[],rs,acc,x,y,h,_=>by cases h;exact⟨x,y,by simp⟩
 |d::xs,rs,acc,x,y,h,hl=>by
  unfold rT at h;split at h
  ·rename_i v vs h1 h2;cases h;obtain⟨p,ys,rfl,e1⟩:∃p ys,d=.tup [p,.lst ys]/\D7 ys=some v:=by
    unfold UZ at h1;split at h1
    ·exact⟨_,_,rfl,h1⟩
    ·cases h1
   have ey:=m9 e1;subst ey;rw[List.flatten_cons,aAy]at hl;obtain⟨x',y',e⟩:=lF xs vs (acc++v) (.v p) (.v (.lst (v.map vd))) h2 (by rw[aAy];lia);refine⟨x',y',?_⟩;have hz:(acc.map vd).length+(v.map vd).length<=sizeLine:=by rw[aAh,aAh];exact NK (by lia)
   refine(R5 (ρ1:=[a,.o (acc.map vd),.v p,.v (.lst (v.map vd))]) (ρ2:=[a,.o ((acc++v).map vd),.v p,.v (.lst (v.map vd))]) rfl ?_).trans ?_
   ·show(if(acc.map vd).length+(v.map vd).length<=sizeLine then _ else _)=_;rw[if_pos hz,aBr];rfl
   ·rw[e,List.flatten_cons,aEZ]
  ·cases h
theorem lD (pts:List G.V):∀fs:List (G.V×Int),rT (fs.map (l4 pts))=some (fs.map (G.j7 pts))
 |[]=>rfl
 |f::fs=>by rw[aAp,rT,lD pts fs];rw[show UZ (l4 pts f)=some (G.j7 pts f)from t4 _];rfl
def zD {pts:List G.V}{fs:List (G.V×Int)}(h1:(fs.flatMap (G.j7 pts)).length<=3000)(h2:(i5 (fs.flatMap (G.j7 pts))).length<=63):F9 [.lst (fs.map (l4 pts))]=.ok (.lst ((i5 (fs.flatMap (G.j7 pts))).map vd)):=by have e:(fs.map<|G.j7 pts).flatten=fs.flatMap (G.j7 pts):=rfl;simp only[F9,lD,e];exact if_pos ⟨h1,h2⟩
def oP (ho:pts.Pairwise λa b=>G.d6 (b-a))(hf:G.IsFace pts f.1 f.2)(h:X∈G.j7 pts f):X∈pts:=(G.d5.mp<|(hf.aa2 ho).aa4 h).1
def MC (h1:bH 900 pts)(h2:G.l6 pts)(h3:(i5 pts).length<=14)(h:X∈A1 pts):X∈pts:=by obtain⟨m,r,e,L⟩:=gD h1 h2 (by lia);unfold A1 at h;rw[n4,aBP]at h;obtain⟨f,hf,hX⟩:=h;rw[e]at hf hX h3;have FL:=W6 L h3;have:=oP L.good.ord ((FL.1 f).mp hf) hX;rw[<-e,n4]at this;exact this
def qL (L:Land pts m)(tf:pts.length<=14):((A0 pts).flatMap (G.j7 pts)).length<=200/\(i5 ((A0 pts).flatMap (G.j7 pts))).length<=14:=by
 have FL:=W6 L tf;have nd:=aP (fX FL.2);have few:=G.cW L.good.solid L.good.ord nd λf hf=>(FL.1 f).mp hf;have nn:pts.length*pts.length<=14*14:=aFU tf tf;constructor
 ·rw[List.length_flatMap]
  lia
 ·refine aAu (G.T0 (iC _) λv hv=>?_) tf;rw[n4,aBP]at hv;obtain⟨f,hf,hX⟩:=hv;exact oP L.good.ord ((FL.1 f).mp hf) hX
end
end M
namespace M
open PySem L2 DL
instance Bd.k6:Bd 1000000 20:=⟨by decide⟩
instance Bd.k7:Bd 10000000 24:=⟨by decide⟩
instance Bd.k8:Bd 100000000 27:=⟨by decide⟩
instance Bd.k63:Bd 1000003 20:=⟨by decide⟩
instance Bd.k79:Bd 7919 13:=⟨by decide⟩
instance Bd.k48:Bd 48611 16:=⟨by decide⟩
instance Bd.k12:Bd 1000000000000 40:=⟨by decide⟩
instance Bd.k20:Bd 100000000000000000000 67:=⟨by decide⟩
def Y4 (h:0<b):oO (.int a) (.int b)=.ok (.int (a.fmod b)):=yG (by omega)
def A6 (h:0<b)(h2:b<1000000000000000):U6 (.int a) (.int b)=.ok (.int (a.fdiv b)):=qX ⟨by omega,f7 (o8 (n:=60) (by omega) (by omega))⟩
def B5 {a b:Int}(h:0<b):0<=a.fmod b/\a.fmod b<b:=by have f:=PyProof.Rows.fdiv_fmod_facts a b;have g:=f.2.2.1 h;omega
def A5 {a b:Int}{n:Nat}(h:0<b)(hb:bits b<=n):bits (a.fmod b)<=n:=bits_fmod (by omega) hb
def o5 (h1:r=.ok (.nx ρ))(h2:K3 (F ρ)=x):K3 (z7 r F)=x:=by rw[h1];exact h2
def IV (hl:L.length<=sizeLine)(h:n6 G ft fe ρ L=.ok rs):(if L.length<=sizeLine then(n6 G ft fe ρ L).bind λrs=>R.ok (D.lst rs)else R.bad)=.ok (.lst rs):=by rw[if_pos hl,h];rfl
def ez {n:Nat}(h:n<=1000000):gM [.int (n:Int)]=.ok ((aBc n).map λ(k:Nat)=>D.int (k:Int)):=by
 show(if oZ 0 (n:Int) 1 then R.ok (tN 0 1<|fG 0 n 1)else R.bad)=_;rw[if_pos ⟨by decide,by decide,by decide,by decide,by omega,by omega⟩];have e:fG 0 (n:Int) 1=n:=by
  unfold fG;split
  ·simp
  ·omega
 rw[e];unfold tN;congr 1;refine aEB λk _=>?_;simp
def cI (xs:List D)(k:Nat):Int:=match xs[k]? with
 |some (.int i)=>i
 |_=>0
def D1:List D->R D
 |[.lst xs,.int k]=>if 0<=k/\k<=1000 then .ok (wE (λ_=>0) xs k)else .bad
 |_=>.bad
def IJ (hi:jG 1048576 xs)(k:Nat)(h:k<=1000):D1 [.lst xs,.int (k:Int)]=.ok (.int (cI xs k))/\bits (cI xs k)<=1048576:=by
 have e:D1 [.lst xs,.int (k:Int)]=.ok (wE (λ_=>0) xs k):=if_pos ⟨by omega,by omega⟩;rw[e];unfold wE cI;rw[aBS];cases q:xs[k]? with
 |none=>exact⟨rfl,by decide⟩
 |some d=>obtain⟨i,rfl,hb⟩:=hi d (aAv q);exact⟨rfl,hb⟩
def SL:Int:=1000000000000
def YD:Int:=2000000000001
def oH (c:Int):G.V:=⟨(c*1000003+SL).fmod YD-SL,(c*c*7919+SL).fmod YD-SL,(c*c*c+SL).fmod YD-SL⟩
def LU (c:Int):Sz 50 (oH c):=by have k:∀z:Int,bits (z.fmod YD-SL)<=50:=λz=>f7 (bits_sub (bits_fmod (by decide) (show bits YD<=45 by decide)) (show bits SL<=45 by decide));exact⟨k _,k _,k _⟩
def iT:List D->R D
 |[.int c]=>if bits c<=2000000 then .ok (vd (oH c))else .bad
 |_=>.bad
def cD (c:Int):Int×Int×Int:=
 if(c.fdiv 7).fmod 2=1 then((1+(c.fdiv 14).fmod 3)*1000000+1,(1+(c.fdiv 42).fmod 3)*10000000+3,(1+(c.fdiv 126).fmod 3)*100000000+9)
 else(1+(c.fdiv 14).fmod 3,1+(c.fdiv 42).fmod 3,1+(c.fdiv 126).fmod 3)
def uL (c:Int):(0<(cD c).1/\(cD c).1<1000000000)/\(0<(cD c).2.1/\(cD c).2.1<1000000000)/\(0<(cD c).2.2/\(cD c).2.2<1000000000):=by have h1:=B5 (a:=c.fdiv 14) (b:=3) (by decide);have h2:=B5 (a:=c.fdiv 42) (b:=3) (by decide);have h3:=B5 (a:=c.fdiv 126) (b:=3) (by decide);unfold cD;split<;>(dsimp only;omega)
def OJ (a b c:Int):List G.V:=(aBc 8).map λ(k:Nat)=>⟨(k:Int).fmod 2*a,((k:Int).fdiv 2).fmod 2*b,(k:Int).fdiv 4*c⟩
def yQ (a b c:Int):List G.V:=[⟨a,0,0⟩,⟨0-b,0,0⟩,⟨0,b,0⟩,⟨0,0-c,0⟩,⟨0,0,c⟩,⟨0,0,0-a⟩]
def yR (a b c:Int):List G.V:=[⟨0,0,0⟩,⟨a,0,0⟩,⟨0,b,0⟩]++[⟨0+c,0,a+b⟩,⟨a+c,0,a+b⟩,⟨0+c,b,a+b⟩]
def AK (n:Nat)(a b c:Int):List G.V:=(aBc n).map (λ(k:Nat)=>⟨(k:Int),(k:Int)*(k:Int),0⟩)++[⟨a,b,c⟩]
def AQ (c e:Int):G.V:=if c.fmod 7=5\/(c.fmod 7=6/\e.fmod 2=1)then oH (e.fdiv 2)else⟨e.fmod 7-3,(e.fdiv 7).fmod 7-3,(e.fdiv 49).fmod 7-3⟩
def kG (a b c:Int):List G.V:=[⟨0,0,0⟩,⟨a,0,0⟩,⟨0,b,0⟩,⟨0,0,c⟩]
def eU (c:Int)(t:List Int):List G.V:=
 if c.fmod 7=0 then OJ (cD c).1 (cD c).2.1 (cD c).2.2
 else if c.fmod 7=1 then yQ (cD c).1 (cD c).2.1 (cD c).2.2
 else if c.fmod 7=2 then yR (cD c).1 (cD c).2.1 (cD c).2.2
 else if c.fmod 7=3 then AK (3+(c.fdiv 378).fmod 8).toNat (cD c).1 (cD c).2.1 (cD c).2.2
 else kG (cD c).1 (cD c).2.1 (cD c).2.2++t.map (AQ c)
def bO (xs:List D):List Int:=((xs.drop 4).take 5).map intD
open Classical in
def nW:List D->R D
 |[.lst xs]=>if jG 1048576 xs then .ok (.lst ((eU (cI xs 0) (bO xs)).map vd))else .bad
 |_=>.bad
def EM:Int:=100000000000000000000
def PC:Int:=200000000000000000001
def EW (c:Int):Int:=if c.fmod 2=0 then 3 else 1000000
def bG (c f:Int)(P:G.V):G.V:=
 let x:=P.x+(c.fdiv 4).fmod (EW c)*P.y
 let y:=P.y-((c*c).fdiv 16).fmod (EW c)*P.z
 let z:=P.z+((c*48611).fdiv 4).fmod (EW c)*x
 let x':=if(c.fdiv 2).fmod 2=1 then z else x
 let z':=if(c.fdiv 2).fmod 2=1 then x else z
 ⟨x'+(f*48611+EM).fmod PC-EM,y+(f*f*7919+EM).fmod PC-EM,z'+(f*f*f+EM).fmod PC-EM⟩
open Classical in
def mB:List D->R D
 |[.tup [.int a,.int b,.int c],.lst xs]=>if jG 1048576 xs/\Sz 100 ⟨a,b,c⟩then .ok (vd (bG (cI xs 1) (cI xs 2) ⟨a,b,c⟩))else .bad
 |_=>.bad
def SO (x y z:D):fL (.tup [x,y]) (.tup [z])=.ok (.tup [x,y,z]):=rfl
def OV (xs:List D)(i j:Nat)(h:i<=j):tH (.lst xs) (some (i:Int)) (some (j:Int))=.ok (.lst ((xs.drop i).take (j-i))):=by
 show R.ok (D.lst<|cutD xs (some (i:Int))<|some (j:Int))=_;unfold cutD;rw[HT.sIx_nat,HT.sIx_nat];congr 2;by_cases h1:i<=xs.length
 ·rw[aFI h1];by_cases h2:j<=xs.length
  ·rw[aFI h2]
  ·rw[aFw (by omega),aCG (by simp),aCG (by simp;omega)]
 ·rw[aFw (by omega),aFw (by omega),List.drop_eq_nil_of_le (by omega:xs.length<=i)];simp
def rR (hi:jG 1048576 xs):(xs.drop 4).take 5=(bO xs).map D.int/\(bO xs).length<=5/\∀e∈bO xs,bits e<=1048576:=by
 have sub:∀d∈(xs.drop 4).take 5,d∈xs:=λd hd=>aDx (aDw hd);refine⟨?_,by unfold bO;rw[aAh];exact List.length_take_le _ _,λe he=>?_⟩
 ·unfold bO;have:∀l:List D,(∀d∈l,∃i,d=.int i)->l=(l.map intD).map D.int:=λl h=>by
   induction l with
   |nil=>rfl
   |cons d l ih=>obtain⟨i,rfl⟩:=h d (.head _);rw[aAp,aAp,<-ih λd hd=>h d (.tail _ hd)];rfl
  exact this _ λd hd=>let⟨i,e,_⟩:=hi d (sub d hd);⟨i,e⟩
 ·obtain⟨d,hd,rfl⟩:=aAm.mp he;obtain⟨i,rfl,hb⟩:=hi d (sub d hd);exact hb
def MF (c:Int):∃n:Nat,3+(c.fdiv 378).fmod 8=(n:Int)/\n<=10/\(3+(c.fdiv 378).fmod 8).toNat=n:=by
 have f8:=B5 (a:=c.fdiv 378) (b:=8) (by decide);generalize(c.fdiv 378).fmod 8=z at*
 exact⟨(3+z).toNat,by omega,by omega,rfl⟩
def QI (n:Nat)(h:n<=1000):((aBc n).map λ(k:Nat)=>D.int (k:Int)).length<=sizeLine:=by rw[aAh,aDs];exact small h
def RU (n:Nat)(a b e:Int):(AK n a b e).map vd=((aBc n).map λ(k:Nat)=>vd ⟨(k:Int),(k:Int)*(k:Int),0⟩)++[vd ⟨a,b,e⟩]:=by unfold AK;rw[aBr,aBB];rfl
def NQ (c:Int):R1 (.lst [.int 3,.int 1000000]) (.int (c.fmod 2))=.ok (.int (EW c))/\0<EW c/\bits (EW c)<=20:=by
 have h:=B5 (a:=c) (b:=2) (by decide);unfold EW;by_cases h0:c.fmod 2=0
 ·rw[if_pos h0,h0];exact⟨rfl,by decide,by decide⟩
 ·rw[if_neg h0,show c.fmod 2=1 by omega];exact⟨rfl,by decide,by decide⟩
end M
namespace DL
open PySem PySem.Spec L2
open PyProof.Rows hiding St
variable [Tabs]
section
variable{P:Program} {w:World} {K:PySem.W.Frag} {mg:bK} {base:Heap}
end
section
variable{X:Cx} {E:XK} {st:Stmt} {rest:List Stmt} {F:Ev->R Out} {G Ga Gb:Ev->Option Value} {pos:Pos}
end
section
variable{K:PySem.W.Frag} {h:Heap} {C:Addr} {bmB:List Value} {newId:String}
end
section
variable{X:Cx} {E:XK} {pos av np:Pos} {x:Str} {C:Addr} {bmB:List Value} {B newId initId:String}
end
end DL
namespace DL
open PySem PySem.Spec PySem.Calls PySem.W Builtin Builtin.ObjectAttr Builtin.Getset_descriptor
open PyProof.Rows hiding St
section
variable{prog:Program} {w:World} {A:Around} {E:D2} {K:Frag} {h:Heap} {g:Array GenState} {d:Drawn} {t:Nat} {os:OsState} {a C:Addr} {o:Obj}
end
end DL
namespace DL
open PySem PySem.Spec L2
open PyProof.Rows hiding St
variable [Tabs]
section
variable{X:Cx} {pos:Pos}
end
section
variable{X:Cx} {pins:M3} {σ:St} {H H':Hp} {s s':Shared}
end
section
variable{K:PySem.W.Frag} {H9 H:Hp} {O0 O:Addr->Prop} {σ:St} {ρ:Ev}
end
section
variable{X:Cx} {pos yi np:Pos}
end
section
variable{X:Cx} {pos:Pos}
end
section
variable{X:Cx} {pos:Pos}
end
section
def ER (own fr:List Str)(js:List Nat)(hc:X.calm=true)(S:CompSc X scope own fr js)(hi:QF X tg v5 fi)(hX:∀(pins:M3) (fp:List Addr) (X':Cx),(∃s9 Ha C,X'=BS X pins s9 Ha (own++fr) scope (aR X scope C) C fp)->GI X' tg G/\PK X' ifs ft/\PD X' elt fe)(hG:∀ρ d ρ1,G d (f6 own js ρ)=.ok ρ1->lV ρ1 (f6 own js ρ))(hs:∀x,foldedSetIterable v5 X.env x=pure x:=by intro _;rfl):
  PF X (.ListComp elt [⟨tg,v5,ifs,0⟩] scope pos) (λρ=>(fi ρ).bind λds=>if ds.length<=sizeLine then n6 G ft fe (f6 own js ρ) ds else .bad):=by
 refine rK λpins s σ H Q I H9 O0 O ρ E q=>?_;dsimp only at q;rw[eval_ListComp];refine aCW (use:=none) rfl hs (N4<|Inv.aa7 I S) S.kind S.names ?_;refine B4 (hi pins s σ H (λJ H1=>∃ds rs,Same H H1/\QD X.K J H1 O ds/\ds.length<=sizeLine/\n6 G ft fe (f6 own js ρ) ds=.ok rs/\∀vs H1 a,Same H H1->H1 a=none->Reps X.K H1 O vs rs->Q (.ref a) (upd H1 a<|.lst vs)) I ⟨H9,O0,O,ρ,E,gW I O E.trk,?_⟩) λv s1 h1=>B4 h1 λitv s2 h2=>?_
 ·cases e1:fi ρ with
  |ex x=>rw[e1]at q;exact q
  |bad=>rw[e1]at q;exact q
  |ok ds=>
   rw[e1,R.aa0]at q;intro J H1 s1 hJ;by_cases hl:ds.length<=sizeLine
   ·rw[if_pos hl]at q;cases e2:n6 G ft fe (f6 own js ρ) ds with
    |ex x=>rw[e2]at q;exact(q H<|Same.refl _).elim
    |bad=>rw[e2]at q;exact q.elim
    |ok rs=>rw[e2]at q;exact⟨ds,rs,s1,hJ,hl,e2,q⟩
   ·rw[if_neg hl]at q;exact q.elim
 ·obtain⟨it,fp,tn,J,H2,e,I2,T,jm,f2,ds,rs,sm,hJ,hl,yc,q⟩:=h2;subst e;refine iR (RR:=λacc C=>compPost (model X.prog X.w) X.A X.xe none (EP X pins σ Q) acc C) hc S (hX pins fp) (hG ρ) I2 T jm f2 (E.grow sm) hJ yc hl ?_;intro acc C s' H' m hn _ _ _ sm' r nw _ hI;obtain⟨H1,vs,ko,vo,eH,rr⟩:=nw;subst eH;exact⟨m,hn,λh' jn=>⟨.ref acc,_,hI h' jn,rfl,q vs H1 acc (sm.trans ko) vo rr⟩⟩
def ZF {xs es:List Expr}{p:Pos}{env:Env}:starEach (.List xs p::es) env=(false,eval (.List xs p) env)::starEach es env:=rfl
def YA {xs:List Expr}{p:Pos}{t:Option Expr}{l:Nat}{env:Env}:swapsWith (Expr.List xs p) t l env=pure false:=rfl
end
section
def uk (lo hi:Int)(i:Nat)(ρ:Ev):R D:=match ρ[i]? with
 |some (.v (.int k))=>.ok (.bl (decide (lo<=k)&&decide (k<=hi)))
 |_=>.bad
def NI (i:Nat){lo hi:Int}{x:Str}{j j' p p' pos p2}(hN:X.N[i]?=some x:=by rfl)(hv:vJ X.env.scope x:=by first|exact aCh rfl|exact aBx (aCh rfl)|exact aBx (aBx rfl))(hd:(x==("__debug__":Str))=false:=by decide)(cg:(x==("__classdict__":Str))=false:=by decide)(hm:lastMarks [.LtE,.LtE] [.Name x p2,.Constant (.int hi) j' p']=false:=by with_unfolding_all rfl):
  PD X (.Compare (.Constant (.int lo) j p) [.LtE,.LtE] [.Name x p2,.Constant (.int hi) j' p'] pos) (uk lo hi i):=
 HZ (LD (gC.c0 JK) (gC.c0 JK) CF (J2 hN hv hd cg) CF hm) λσ H Q H9 O0 O ρ E q=>by
  unfold uk at q;cases e:ρ[i]? with
  |none=>rw[e]at q;exact q.elim
  |some sl=>
   rw[e]at q;cases sl with
   |v d=>
    cases d with
    |int k=>
     obtain⟨v,h1,h2⟩:=E.val i _ e;cases h2;have q:∀v H',Same H H'->Rep X.K H' O v (.bl (decide (lo<=k)&&decide (k<=hi)))->Q v H':=q;refine⟨_,h1,?_⟩;refine⟨lo,k,rfl,rfl,trivial,_,rfl,?_⟩;by_cases c:lo<=k
     ·rw[decide_eq_true c,if_pos rfl];exact⟨k,hi,rfl,rfl,trivial,q _ H (Same.refl _) (by rw[decide_eq_true c];exact .bl)⟩
     ·rw[decide_eq_false c,if_neg aAH];exact q _ H (Same.refl _) (by rw[decide_eq_false c];exact .bl)
    |_=>exact aAi q
   |_=>exact aAi q
end
section
end
end DL
namespace G
end G
namespace M
open PySem L2 DL
variable [Tabs]
end M
namespace G
section
variable{pts c:List V} (hs:l6 pts) (ho:pts.Pairwise (λa b=>d6 (b-a))) (cb:c.Pairwise (λa b=>d6 (b-a))) (hc:∀X,X∈c↔∃f:V×Int,IsFace pts f.1 f.2/\X∈j7 pts f)
include hs ho cb hc
theorem UQ (h:X∈c):X∈pts:=by obtain⟨f,hf,hX⟩:=(hc X).mp h;exact(d5.mp<|(hf.aa2 ho).aa4 hX).1
theorem kP (hf:IsFace pts n d)(h:X∈j7 pts (n,d)):X∈v9 n d c:=by have h2:=(d5.mp<|(hf.aa2 ho).aa4 h).2;exact d5.mpr ⟨(hc X).mpr ⟨(n,d),hf,h⟩,h2⟩
theorem VM (h:X∈v9 n d c):X∈v9 n d pts:=d5.mpr ⟨UQ hs ho cb hc (d5.mp h).1,(d5.mp h).2⟩
theorem kN (hf:IsFace pts n d):IsFace c n d:=by
 have S:=hf.aa2 ho;obtain⟨r,s,t,l,e⟩:=U3 ho hf;have hr:r∈i8 n (v9 n d pts):=by rw[e];simp
 have jn:s∈i8 n (v9 n d pts):=by rw[e];simp
 have ht:t∈i8 n (v9 n d pts):=by rw[e];simp
 have nd:=S.aa3;rw[e]at nd;simp only[aAJ,aAd,not_or]at nd;have ers:EdgeOf n (λX=>X∈v9 n d pts) r s:=S.aa1.mp (by rw[e];simp[T2]);have st:=S.strict ers ht (λq=>nd.1.2.1 q.symm) (λq=>nd.2.1.1 q.symm);have k:=λ{X} (h:X∈i8 n (v9 n d pts))=>kP hs ho cb hc hf (X:=X) h;refine⟨hf.prim,λX hX=>hf.sup X (UQ hs ho cb hc hX),r,(d5.mp<|k hr).1,s,(d5.mp<|k jn).1,t,(d5.mp<|k ht).1,(d5.mp<|k hr).2,(d5.mp<|k jn).2,(d5.mp<|k ht).2,λq=>?_⟩;unfold i6 at st;rw[q,O8]at st
 lia
theorem sT (hf:IsFace pts n d)(h:EdgeOf n (λX=>X∈v9 n d pts) a b):EdgeOf n (λX=>X∈v9 n d c) a b:=by have S:=hf.aa2 ho;have m:=DU S (S.aa1.mpr h);exact⟨kP hs ho cb hc hf m.1,kP hs ho cb hc hf m.2,h.ne,λX hX=>h.left X (VM hs ho cb hc hX),λX hX=>h.btw X (VM hs ho cb hc hX)⟩
omit hs ho cb hc in
theorem nM {R:V->Prop}{E:List (V×V)}(hR:∀a b,R a->(a,b)∈E->R b):∀(x:V) (l:List V),R x->(∀e∈q8 (x::l),e∈E)->∀X∈x::l,R X
 |x,[],hx,_,X,hX=>by rw[aAU.mp hX];exact hx
 |x,y::l,hx,h,X,hX=>by
  have hy:=hR x y hx (h (x,y) (by simp[q8]));rcases aAd.mp hX with rfl|hX
  ·exact hx
  ·exact nM hR y l hy (λe he=>h e (by simp only[q8,aAd];exact .inr he)) X hX
theorem AB (hf:IsFace pts n d)(h:X∈i8 n (v9 n d c)):X∈i8 n (v9 n d pts):=by
 have S:=hf.aa2 ho;have S2:=(kN hs ho cb hc hf).aa2 cb;obtain⟨m,r,e,hm,hl⟩:=S2.aa8;obtain⟨m',r',e',hm',ip⟩:=S.aa8;have mm:m=m':=by
  have h1:m'∈v9 n d c:=kP hs ho cb hc hf (show m'∈i8 n (v9 n d pts)by rw[e'];simp);rcases hl m' h1 with q|q
  ·exact q.symm
  ·rcases ip m (VM hs ho cb hc hm)with q'|q'
   ·exact q'
   ·exact absurd (z8.add q q') (by
     have:(m'-m)+(m-m')=0:=by apply ext<;>simp<;>lia
     rw[this];exactλz=>by simp[d6]at z)
 have step:∀a b,a∈i8 n (v9 n d pts)->(a,b)∈T2 (i8 n<|v9 n d c)->b∈i8 n (v9 n d pts):=λa b ha hab=>by obtain⟨b',km⟩:=dG S ha;have e1:=S2.aa1.mp hab;have e2:=sT hs ho cb hc hf (S.aa1.mp km);rw[e1.next e2];exact(DU S km).2
 rw[e]at h;refine nM (E:=T2 (i8 n<|v9 n d c)) (R:=λX=>X∈i8 n (v9 n d pts)) step m r (by rw[mm,e'];simp) (λf hf'=>?_) X h;rw[e,V2];exact fM r m m f hf'
theorem wR (hf:IsFace pts n d)(h:EdgeOf n (λX=>X∈v9 n d c) a b):EdgeOf n (λX=>X∈v9 n d pts) a b:=by have S:=hf.aa2 ho;have S2:=(kN hs ho cb hc hf).aa2 cb;have ha:=AB hs ho cb hc hf (S2.ac3 h);obtain⟨b',km⟩:=dG S ha;have e:=S.aa1.mp km;rw[h.next (sT hs ho cb hc hf e)];exact e
theorem EO (hf:IsFace pts n d):l6 c:=by
 have S:=hf.aa2 ho;obtain⟨r,s,t,l,e⟩:=U3 ho hf;have hr:r∈i8 n (v9 n d pts):=by rw[e];simp
 have ht:t∈i8 n (v9 n d pts):=by rw[e];simp
 have nd:=S.aa3;rw[e]at nd;simp only[aAJ,aAd,not_or]at nd;have ers:EdgeOf n (λX=>X∈v9 n d pts) r s:=S.aa1.mp (by rw[e];simp[T2]);have st:=S.strict ers ht (λq=>nd.1.2.1 q.symm) (λq=>nd.2.1.1 q.symm);obtain⟨hg,eg⟩:=sM hs ho hf ers;generalize(b7 s r pts).1=m at*
 generalize(b7 s r pts).2=f at*
 have T:=hg.aa2 ho;obtain⟨r2,s2,t2,l2,e2⟩:=U3 ho hg;have sr:=T.aa3;rw[e2]at sr;simp only[aAJ,aAd,not_or]at sr;obtain⟨Y,hY,y1,y2⟩:∃Y∈i8 m (v9 m f pts),Y≠s/\Y≠r:=by
  have q1:r2∈i8 m (v9 m f pts):=by rw[e2];simp
  have q2:s2∈i8 m (v9 m f pts):=by rw[e2];simp
  have q3:t2∈i8 m (v9 m f pts):=by rw[e2];simp
  by_cases a1:r2≠s/\r2≠r
  ·exact⟨r2,q1,a1⟩
  ·by_cases a2:s2≠s/\s2≠r
   ·exact⟨s2,q2,a2⟩
   ·refine⟨t2,q3,λz=>?_,λz=>?_⟩
    ·subst z;have h1:r2=r:=by
      by_cases h:r2=r
      ·exact h
      ·exact absurd ⟨sr.1.2.1,h⟩ a1
     have h2:s2=r:=by
      by_cases h:s2=r
      ·exact h
      ·exact absurd ⟨sr.2.1.1,h⟩ a2
     exact sr.1.1 (h1.trans h2.symm)
    ·subst z;have h1:r2=s:=by
      by_cases h:r2=s
      ·exact h
      ·exact absurd ⟨h,sr.1.2.1⟩ a1
     have h2:s2=s:=by
      by_cases h:s2=s
      ·exact h
      ·exact absurd ⟨h,sr.2.1.1⟩ a2
     exact sr.1.1 (h1.trans h2.symm)
 have sY:=T.strict eg hY y1 y2;have lt:=LL hs hg hf eg ers (T.aa4 hY) sY;have k:=λ{X} (h:X∈i8 n (v9 n d pts))=>kP hs ho cb hc hf (X:=X) h;have kY:=kP hs ho cb hc hg hY;have jn:s∈i8 n (v9 n d pts):=by rw[e];simp
 have dr:=(d5.mp<|k hr).2;have dss:=(d5.mp<|k jn).2;have dt:=(d5.mp<|k ht).2;refine⟨r,(d5.mp<|k hr).1,s,(d5.mp<|k jn).1,t,(d5.mp<|k ht).1,Y,(d5.mp kY).1,λz=>?_⟩;have p1:e9 n (s-r)=0:=by rw[i3];lia
 have p2:e9 n (t-r)=0:=by rw[i3];lia
 have pY:e9 n (Y-r)<0:=by rw[i3];lia
 have id:i6 (s-r) (t-r) (Y-r)*e9 n n=i6 n (s-r) (t-r)*e9 n (Y-r)+e9 n (s-r)*(e9 n (t-r)*0)+(e9 n (s-r)*i6 n (t-r) (Y-r)+e9 n (t-r)*i6 n (Y-r) (s-r)):=by generalize s-r=u;generalize t-r=v;generalize Y-r=w;have:=TX n n u v w;simp[i6,e9]at this⊢;grind
 rw[z,p1,p2]at id;have:i6 n (s-r) (t-r)*e9 n (Y-r)<0:=aBw st pY
 lia
theorem QJ (fs:List (V×Int))(ai:fs≠[])(hfs:∀f,f∈fs↔IsFace pts f.1 f.2):IsFace c n d↔IsFace pts n d:=by
 refine⟨λh=>?_,kN hs ho cb hc⟩;obtain⟨f0,f0m⟩:=aEU fs ai;have sc:=EO hs ho cb hc ((hfs f0).mp f0m);have:=qN sc cb fs ai (λf hf=>kN hs ho cb hc ((hfs f).mp hf)) (λf hf a b hab=>?_) h
 ·exact(hfs _).mp this
 ·have h1:=(hfs f).mp hf;obtain⟨hg,eg⟩:=sM hs ho h1 (wR hs ho cb hc h1 hab);exact⟨b7 b a pts,(hfs _).mpr hg,sT hs ho cb hc hg eg⟩
theorem OF (hX:X∈c):∃f:V×Int,IsFace c f.1 f.2/\X∈j7 c f:=by obtain⟨⟨n,d⟩,hf,h⟩:=(hc X).mp hX;have S:=hf.aa2 ho;obtain⟨Q,hQ⟩:=dG S h;exact⟨(n,d),kN hs ho cb hc hf,((kN hs ho cb hc hf).aa2 cb).ac3 (sT hs ho cb hc hf<|S.aa1.mp hQ)⟩
end
end G
namespace M
open PySem L2 DL
variable [Tabs]
def wP {pts:List G.V}(h1:bH 900 pts)(h2:G.l6 pts)(h3:(i5 pts).length<=14):∀X,X∈A1 pts↔∃f:G.V×Int,G.IsFace (i5 pts) f.1 f.2/\X∈G.j7 (i5 pts) f:=λX=>by obtain⟨m,r,e,L⟩:=gD h1 h2 (by lia);unfold A1;rw[n4,aBP];rw[e]at h3⊢;have FL:=W6 L h3;exact⟨λ⟨f,hf,hX⟩=>⟨f,(FL.1 f).mp hf,hX⟩,λ⟨f,hf,hX⟩=>⟨f,(FL.1 f).mpr hf,hX⟩⟩
def yH {l:List G.V}(h:l.Pairwise λa b=>G.d6 (b-a)):i5 l=l:=lH (E9 _) h λv=>n4
def FD {pts:List G.V}(h1:bH 900 pts)(h2:G.l6 pts)(h3:(i5 pts).length<=14):G.l6 (A1 pts)/\bH 900 (A1 pts)/\i5 (A1 pts)=A1 pts/\(A1 pts).length<=14/\A1 (A1 pts)=A1 pts/\∀n d,G.IsFace (A1 pts) n d↔G.IsFace (i5 pts) n d:=by
 have hc:=wP h1 h2 h3;have cb:(A1 pts).Pairwise λa b=>G.d6 (b-a):=E9 _;have hs:G.l6 (i5 pts):=kD h2 λv hv=>n4.mpr hv;have ho:=E9 pts;obtain⟨m,r,e,L⟩:=gD h1 h2 (by lia);have FL:cM (i5 pts) (A0<|i5 pts):=by have h3':=h3;rw[e]at h3'⊢;exact W6 L h3'
 have fl:(A1 pts).length<=14:=by have h3':=h3;unfold A1;rw[e]at h3'⊢;exact(qL L h3').2
 have ai:A0 (i5 pts)≠[]:=λz=>by
  obtain⟨A,hA,_⟩:=hs;have:∃f:G.V×Int,G.IsFace (i5 pts) f.1 f.2:=by have L':=L;rw[<-e]at L';have:=G.nZ L'.good.solid L'.good.ord L'.good.mem L'.good.least;exact⟨_,this⟩
  obtain⟨f,hf⟩:=this;have:=(FL.1 f).mpr hf;rw[z]at this;cases this
 obtain⟨f0,hf0⟩:=aEU _ ai;have sc:=G.EO hs ho cb hc ((FL.1 f0).mp hf0);have sz:bH 900 (A1 pts):=⟨λP hP=>h1.1 P (MC h1 h2 h3 hP),by lia⟩;have ss:=yH cb;refine⟨sc,sz,ss,fl,?_,λn d=>G.QJ hs ho cb hc _ ai FL.1⟩;refine lH (E9 _) cb λv=>?_;have bm:=wP sz sc (by rw[ss];exact fl) v;show v∈A1 (A1 pts)↔_;rw[bm,ss];constructor
 ·rintro⟨f,hf,hv⟩;exact oP cb hf hv
 ·exactλhv=>G.OF hs ho cb hc hv
end M
namespace M
open PySem L2 DL
def jJ {pts:List G.V}{A B C D:G.V}(hA:A∈pts)(hB:B∈pts)(hC:C∈pts)(hD:D∈pts)(h:G.i6 (B-A) (C-A) (D-A)≠0):G.l6 pts:=⟨A,hA,B,hB,C,hC,D,hD,h⟩
def HK {a b c:Int}(ha:0<a)(hb:0<b)(hc:0<c):G.l6 (OJ a b c):=by
 have m:∀k<8,(⟨((k:Nat):Int).fmod 2*a,((k:Int).fdiv 2).fmod 2*b,(k:Int).fdiv 4*c⟩:G.V)∈OJ a b c:=λk hk=>aAm.mpr ⟨k,aBl.mpr hk,rfl⟩;refine jJ (m 0 (by decide)) (m 1 (by decide)) (m 2 (by decide)) (m 4 (by decide)) ?_;have:∀x:Int,x=a*(b*c)->x≠0:=λx e=>by rw[e];exact Int.ne_of_gt (aAX ha<|aAX hb hc)
 apply this;have e0:((0:Nat):Int).fmod 2=0:=rfl;have e1:((1:Nat):Int).fmod 2=1:=rfl;have e2:((2:Nat):Int).fmod 2=0:=rfl;have e3:((4:Nat):Int).fmod 2=0:=rfl;have f0:(((0:Nat):Int).fdiv 2).fmod 2=0:=rfl;have f1:(((1:Nat):Int).fdiv 2).fmod 2=0:=rfl;have f2:(((2:Nat):Int).fdiv 2).fmod 2=1:=rfl;have f3:(((4:Nat):Int).fdiv 2).fmod 2=0:=rfl;have g0:((0:Nat):Int).fdiv 4=0:=rfl;have g1:((1:Nat):Int).fdiv 4=0:=rfl;have g2:((2:Nat):Int).fdiv 4=0:=rfl;have g3:((4:Nat):Int).fdiv 4=1:=rfl;rw[e0,e1,e2,e3,f0,f1,f2,f3,g0,g1,g2,g3];simp[G.i6,G.e9]
def GL {a b c:Int}(ha:0<a)(hb:0<b)(hc:0<c):G.l6 (yQ a b c):=by
 refine jJ (A:=⟨a,0,0⟩) (B:=⟨0-b,0,0⟩) (C:=⟨0,b,0⟩) (D:=⟨0,0,c⟩) (by simp[yQ]) (by simp[yQ]) (by simp[yQ]) (by simp[yQ]) ?_;have:∀x:Int,x=-((a+b)*(b*c))->x≠0:=λx e=>by
  have:=aAX (show 0<a+b by lia) (aAX hb hc)
  lia
 apply this;simp[G.i6,G.e9];grind
def FN {a b c:Int}(ha:0<a)(hb:0<b)(hc:0<c):G.l6 (yR a b c):=by
 refine jJ (A:=⟨0,0,0⟩) (B:=⟨a,0,0⟩) (C:=⟨0,b,0⟩) (D:=⟨0+c,0,a+b⟩) (by simp[yR]) (by simp[yR]) (by simp[yR]) (by simp[yR]) ?_;have:∀x:Int,x=a*(b*(a+b))->x≠0:=λx e=>by
  have:=aAX ha (aAX hb (show 0<a+b by lia))
  lia
 apply this;simp[G.i6,G.e9]
def HH {n:Nat}(hn:3<=n){a b c:Int}(hc:0<c):G.l6 (AK n a b c):=by
 have m:∀k<n,(⟨((k:Nat):Int),(k:Int)*(k:Int),0⟩:G.V)∈AK n a b c:=λk hk=>aBg _ (aAm.mpr ⟨k,aBl.mpr hk,rfl⟩);refine jJ (m 0 (by lia)) (m 1 (by lia)) (m 2 (by lia)) (D:=⟨a,b,c⟩) (by simp[AK]) ?_;have:∀x:Int,x=2*c->x≠0:=λx e=>by lia
 apply this;simp[G.i6,G.e9]
 lia
def GB {a b c:Int}(ha:0<a)(hb:0<b)(hc:0<c){l:List G.V}:G.l6 (kG a b c++l):=by
 refine jJ (A:=⟨0,0,0⟩) (B:=⟨a,0,0⟩) (C:=⟨0,b,0⟩) (D:=⟨0,0,c⟩) (by simp[kG]) (by simp[kG]) (by simp[kG]) (by simp[kG]) ?_;have:∀x:Int,x=a*(b*c)->x≠0:=λx e=>by
  have:=aAX ha (aAX hb hc)
  lia
 apply this;simp[G.i6,G.e9]
def CD (c:Int)(t:List Int):G.l6 (eU c t):=by
 obtain⟨⟨a0,a1⟩,⟨b0,b1⟩,⟨c0,c1⟩⟩:=uL c;unfold eU;split
 ·exact HK a0 b0 c0
 ·split
  ·exact GL a0 b0 c0
  ·split
   ·exact FN a0 b0 c0
   ·split
    ·obtain⟨n,en,hn,et⟩:=MF c;rw[et];have:=B5 (a:=c.fdiv 378) (b:=8) (by decide);exact HH (by lia) c0
    ·exact GB a0 b0 c0
def QK (c:Int)(ht:t.length<=5):(∀P∈eU c t,Sz 100 P)/\(eU c t).length<=11:=by
 obtain⟨⟨a0,a1⟩,⟨b0,b1⟩,⟨c0,c1⟩⟩:=uL c;have ba:bits (cD c).1<=40:=o8 (by lia) (by lia);have bb:bits (cD c).2.1<=40:=o8 (by lia) (by lia);have bc:bits (cD c).2.2<=40:=o8 (by lia) (by lia);generalize hA:(cD c).1=a at*
 generalize hB:(cD c).2.1=b at*
 generalize hC:(cD c).2.2=e at*
 have z0:bits 0<=100:=by decide
 have na:∀{x:Int},bits x<=40->bits (0-x)<=100:=λh=>f7 (bits_sub (n:=40) (by decide) h);unfold eU;rw[hA,hB,hC];split
 ·refine⟨λP hP=>?_,by unfold OJ;rw[aAh,aDs];decide⟩;obtain⟨k,hk,rfl⟩:=aAm.mp hP;have hk8:=aBl.mp hk;exact⟨f7 (bits_mul (A5 (n:=3) (by decide) (by decide)) ba),f7 (bits_mul (A5 (n:=3) (by decide) (by decide)) bb),f7 (bits_mul (bits_fdiv (n:=10) (o8 (by lia) (by lia))) bc)⟩
 ·split
  ·refine⟨λP hP=>?_,by show 6<=11;decide⟩;simp only[yQ,aAd,aAM,or_false]at hP;rcases hP with rfl|rfl|rfl|rfl|rfl|rfl
   ·exact⟨f7 ba,z0,z0⟩
   ·exact⟨na bb,z0,z0⟩
   ·exact⟨z0,f7 bb,z0⟩
   ·exact⟨z0,na bc,z0⟩
   ·exact⟨z0,z0,f7 bc⟩
   ·exact⟨z0,z0,na ba⟩
  ·split
   ·refine⟨λP hP=>?_,by show 6<=11;decide⟩;simp only[yR,aAF,aBC,aAd,aAM,or_false]at hP;have sab:bits (a+b)<=100:=f7 (bits_add ba bb);have sac:bits (a+e)<=100:=f7 (bits_add ba bc);have s0c:bits (0+e)<=100:=by rw[Int.zero_add];exact f7 bc
    rcases hP with rfl|rfl|rfl|rfl|rfl|rfl
    ·exact⟨z0,z0,z0⟩
    ·exact⟨f7 ba,z0,z0⟩
    ·exact⟨z0,f7 bb,z0⟩
    ·exact⟨s0c,z0,sab⟩
    ·exact⟨sac,z0,sab⟩
    ·exact⟨s0c,f7 bb,sab⟩
   ·split
    ·obtain⟨n,en,hn,et⟩:=MF c;rw[et];refine⟨λP hP=>?_,by unfold AK;rw[aAy,aAh,aDs];simp;lia⟩;rcases aAI.mp hP with hP|hP
     ·obtain⟨k,hk,rfl⟩:=aAm.mp hP;have hk8:=aBl.mp hk;have bk:bits (k:Int)<=10:=o8 (by lia) (by lia);exact⟨f7 bk,f7 (bits_mul bk bk),z0⟩
     ·rw[aAU.mp hP];exact⟨f7 ba,f7 bb,f7 bc⟩
    ·refine⟨λP hP=>?_,by rw[aAy,aAh];simp[kG];lia⟩;rcases aAI.mp hP with hP|hP
     ·simp only[kG,aAd,aAM,or_false]at hP;rcases hP with rfl|rfl|rfl|rfl
      ·exact⟨z0,z0,z0⟩
      ·exact⟨f7 ba,z0,z0⟩
      ·exact⟨z0,f7 bb,z0⟩
      ·exact⟨z0,z0,f7 bc⟩
     ·obtain⟨i,hi,rfl⟩:=aAm.mp hP;unfold AQ;split
      ·exact(LU _).mono
      ·have k7:∀z:Int,bits (z.fmod 7-3)<=100:=λz=>f7 (bits_sub (n:=10) (A5 (by decide) (by decide)) (by decide));exact⟨k7 _,k7 _,k7 _⟩
def lL (s t u:Int)(sw:Bool)(P:G.V):G.V:=
 let x:=P.x+s*P.y
 let y:=P.y-t*P.z
 let z:=P.z+u*x
 if sw then⟨z,y,x⟩else⟨x,y,z⟩
def CL (k f:Int):∃(s t u:Int) (sw:Bool) (o:G.V),(∀P,bG k f P=lL s t u sw P+o)/\bits s<=20/\bits t<=20/\bits u<=20/\Sz 80 o:=by
 obtain⟨_,h2,h3⟩:=NQ k;have kM:∀z:Int,bits (z.fmod PC-EM)<=80:=λz=>f7 (bits_sub (n:=70) (A5 (by decide) (by decide)) (by decide));refine⟨(k.fdiv 4).fmod (EW k),((k*k).fdiv 16).fmod (EW k),((k*48611).fdiv 4).fmod (EW k),decide ((k.fdiv 2).fmod 2=1),⟨(f*48611+EM).fmod PC-EM,(f*f*7919+EM).fmod PC-EM,(f*f*f+EM).fmod PC-EM⟩,λP=>?_,A5 h2 h3,A5 h2 h3,A5 h2 h3,⟨kM _,kM _,kM _⟩⟩;unfold bG lL;by_cases hq:(k.fdiv 2).fmod 2=1
 ·simp only[hq,if_true,decide_true];exact G.ext (by simp;lia) (by simp;lia) (by simp;lia)
 ·simp only[hq,if_false,decide_false];exact G.ext (by simp;lia) (by simp;lia) (by simp;lia)
def uF (s t u:Int)(sw:Bool)(P Q:G.V):lL s t u sw P-lL s t u sw Q=lL s t u sw (P-Q):=by
 unfold lL;cases sw
 ·exact G.ext (by simp;grind) (by simp;grind) (by simp;grind)
 ·exact G.ext (by simp;grind) (by simp;grind) (by simp;grind)
def QH (s t u:Int)(sw:Bool)(A B C:G.V):G.i6 (lL s t u sw A) (lL s t u sw B) (lL s t u sw C)=(if sw then-1 else 1)*G.i6 A B C:=by
 unfold lL;cases sw
 ·simp[G.i6,G.e9];grind
 ·simp[G.i6,G.e9];grind
def kC (P Q o:G.V):P+o-(Q+o)=P-Q:=G.ext (by simp;lia) (by simp;lia) (by simp;lia)
def GA (k f:Int){pts:List G.V}(h:G.l6 pts):G.l6 (pts.map (bG k f)):=by
 obtain⟨s,t,u,sw,o,e,_⟩:=CL k f;obtain⟨A,hA,B,hB,C,hC,D,hD,hd⟩:=h;have m:∀X∈pts,bG k f X∈pts.map (bG k f):=λX hX=>aCE hX;refine jJ (m A hA) (m B hB) (m C hC) (m D hD) ?_;rw[e,e,e,e,kC,kC,kC,uF,uF,uF,QH];cases sw
 ·simpa using hd
 ·simpa using hd
def VO (k f:Int)(h:Sz 100 P):Sz 900 (bG k f P):=by
 obtain⟨s,t,u,sw,o,e,h1,h2,h3,ho⟩:=CL k f;rw[e];have hl:Sz 400 (lL s t u sw P):=by
  unfold lL;have x1:bits (P.x+s*P.y)<=200:=f7 (bits_add (n:=120) (f7 h.1)<|f7<|bits_mul h1 h.2.1);have y1:bits (P.y-t*P.z)<=200:=f7 (bits_sub (n:=120) (f7 h.2.1)<|f7<|bits_mul h2 h.2.2);have z1:bits (P.z+u*(P.x+s*P.y))<=300:=f7 (bits_add (n:=220) (f7 h.2.2)<|f7<|bits_mul h3 x1);dsimp only;cases sw
  ·exact⟨f7 x1,f7 y1,f7 z1⟩
  ·exact⟨f7 z1,f7 y1,f7 x1⟩
 exact(hl.add ho.mono).mono
end M
namespace DL
open PySem PySem.Spec L2
def QN {K:Params->PySem.W.Frag}{P c:Addr}{tb:List (Pos×Str)}{ts:List Addr}(h1:P∈ts)(h2:∀w:World,PySem.W.codeHdIn (K w.params) c P=true):∀p∈[(P,tb)],p.1∈ts/\∃c,∀w:World,PySem.W.codeHdIn (K w.params) c p.1=true:=λp hp=>by rw[aAU.mp hp];exact⟨h1,c,h2⟩
end DL
namespace DL
open PySem PySem.Spec L2
def Got (K:PySem.W.Frag)(x:Str)(st:Stmt):Prop:=∃f fd,PySem.W.nsIn K mainGlobals x=some (some<|.ref f)/\Fun K x x st f fd
def TN (K:PySem.W.Frag)(x:Str)(st:Stmt)(Pt:Addr):Prop:=∃f fd cd,PySem.W.nsIn K mainGlobals x=some (some<|.ref f)/\PySem.W.codeHdIn K cd Pt=true/\FunC K x x st f fd cd
def bI (K:PySem.W.Frag)(mg:bK)(x:Str)(st:Stmt):Prop:=∃f fd,mg x=some (.ref f)/\Fun K x x st f fd
def ZV (K:PySem.W.Frag)(mg:bK)(x:Str)(st:Stmt)(Pt:Addr):Prop:=∃f fd cd,mg x=some (.ref f)/\PySem.W.codeHdIn K cd Pt=true/\FunC K x x st f fd cd
section
variable{kV doc pm cdv ct:Value}
def WQ (a:PySem.W.nsIn K mainGlobals x=some (some (.ref f)))(l:K.lookup f=some ⟨oc,od,.func (PySem.W.fnOf x x (B8 st) (o6 st) (c5 st) .none kV doc pm an cdv ct),osl⟩)
 (c:PySem.W.codeIn K cdv x=true) (k:PySem.W.keepIn K (.ref f)=true):Got K x st:=⟨f,_,a,JQ l c k⟩
def RN (a:PySem.W.nsIn K mainGlobals x=some (some (.ref f)))(l:K.lookup f=some ⟨oc,od,.func (PySem.W.fnOf x x (B8 st) (o6 st) (c5 st) .none kV doc pm an cdv ct),osl⟩)
 (c:PySem.W.codeIn K cdv x=true) (k:PySem.W.keepIn K (.ref f)=true) (e:cdv=.ref cd) (n:PySem.W.codeHdIn K cd Pt=true):TN K x st Pt:=⟨f,_,cd,a,n,SE l e c k⟩
def Got.def (g:Got K x st)(X:K.In h)(G:h.Ns mainGlobals mg):bI K mg x st:=let⟨f,fd,a,b⟩:=g;⟨f,fd,PySem.W.mg_of X G a,b⟩
def TN.def (g:TN K x st Pt)(X:K.In h)(G:h.Ns mainGlobals mg):ZV K mg x st Pt:=let⟨f,fd,cd,a,b⟩:=g;⟨f,fd,cd,PySem.W.mg_of X G a,b⟩
def E8 (h1:sc.kind=.function:=by rfl)(h2:sc.isCoroutine=false:=by rfl)(h3:sc.isGenerator=false:=by rfl)(h4:N.Nodup:=by decide+kernel)(h5:N.take ps.length=ps:=by rfl)(h6:∀x∈ps,sc.names.lookup x=some .local\/sc.names.lookup x=some .cell:=by decide+kernel)(h7:∀y∈sc.names,y.2≠.free:=by decide+kernel):FnScope N ps sc:=⟨h1,h2,h3,h4,h5,h6,h7⟩
variable [Tabs]
def m5 (g:bI K mg x st)(S:FnScope N ps (c5 st))(hb:∀{f:Addr} {cdv:Value} {A:Around} {outer:List Env} {s:Shared} {H:Hp} {E:XK},Room k (A.deeper (aCF x (c5 st) s.heap.objs.size f cdv))->(A.deeper (aCF x (c5 st) s.heap.objs.size f cdv)).units+64<cLine->(A.deeper (aCF x (c5 st) s.heap.objs.size f cdv)).units+130<cLine->N.Nodup->
  bF (OY P w K mg base N x (c5 st) f cdv A outer s H E) (o6 st) F) (hm:∀ds d,ds.length=ps.length->m ds=.ok d->K3 (F (j1 N ds))=.ok d) (yg:∀(kV doc pm:Value) (an:Option Addr) (cdv ct:Value) (us:List Value),us.length=ps.length->bindArgs (PySem.W.fnOf x x (B8 st) (o6 st) (c5 st) .none kV doc pm an cdv ct) ⟨us,[]⟩=pure (ps.zip us):=by
  intro _ _ _ _ _ _ us hl;rcases us with _|⟨_,_|⟨_,_|⟨_,_|⟨_,_|⟨_,_|⟨_,_|⟨_,_⟩⟩⟩⟩⟩⟩⟩<;>first|rfl|exact absurd hl (by simp)):v6 P w K mg base (k+1) x ps.length m:=by
 obtain⟨f,fd,md,F0⟩:=g;exact WS F0 S (F0.binds yg) md (λcdv A outer s H E hr=>hb hr hr.units hr.ad8 S.nd) hm
end
end DL
namespace DL
open PySem L2
variable [Tabs]
def v6.imp {K:PySem.W.Frag}(c:v6 P w K mg base k x n m)(h:∀ds d,m' ds=.ok d->m ds=.ok d):v6 P w K mg base k x n m':=by obtain⟨g,gd,ps,F,b,kp,e⟩:=c;exact⟨g,gd,ps,F.imp λvs H Q E ⟨O,ds,d,r,hl,ht,tb,fk,e,q⟩=>⟨O,ds,d,r,hl,ht,tb,fk,h _ _ e,q⟩,b,kp,e⟩
end DL
namespace M
open PySem L2 DL
variable [Tabs]
def axB:D->Bool
 |.int i=>decide (0<=i)&&decide (i<=2)
 |_=>false
def dP:List D->R D
 |[d]=>.ok (.bl (axB d))
 |_=>.bad
def bJ (a:Int)(P:G.V):G.V:=if a=0 then⟨P.y,P.z,0⟩else if a=1 then⟨P.x,P.z,0⟩else⟨P.x,P.y,0⟩
def Y1 (a:Int)(pts:List G.V):List G.V:=G.i8 ⟨0,0,1⟩ (i5<|pts.map<|bJ a)
def j8 (v:G.V):D:=.tup [.int v.x,.int v.y]
def Fw (pts:List G.V):Prop:=(∀P∈pts,Sz 900 P)/\pts.length<=60
open Classical in
def P4:List D->R D
 |[.lst xs,.int a]=>match D7 xs with
  |some pts=>if(0<=a/\a<=2)/\Fw pts then .ok (.lst ((Y1 a pts).map j8))else .bad
  |none=>.bad
 |_=>.bad
def qW (ha:0<=a/\a<=2)(hp:Fw pts):P4 [.lst (pts.map vd),.int a]=.ok (.lst ((Y1 a pts).map j8)):=by simp only[P4,t4];exact if_pos ⟨ha,hp⟩
def dz (h:Sz n P):bits (bJ a P).x<=n/\bits (bJ a P).y<=n/\(bJ a P).z=0:=by
 unfold bJ;split
 ·exact⟨h.2.1,h.2.2,rfl⟩
 ·split
  ·exact⟨h.1,h.2.2,rfl⟩
  ·exact⟨h.1,h.2.1,rfl⟩
def tL (hp:Fw pts):bH 1000 (i5 (pts.map (bJ a)))/\(i5 (pts.map (bJ a))).length<=60:=by have hl:(i5<|pts.map<|bJ a).length<=60:=aAu (pE _) (by rw[aAh];exact hp.2);refine⟨⟨λP hP=>?_,by lia⟩,hl⟩;rw[n4]at hP;obtain⟨Q,hQ,rfl⟩:=aAm.mp hP;obtain⟨h1,h2,h3⟩:=dz (a:=a) (hp.1 Q hQ);exact⟨J3 h1 (by decide),J3 h2 (by decide),by rw[h3];decide⟩
def nN (hp:Fw pts):(∀v∈Y1 a pts,Sz 1000 v)/\(Y1 a pts).length<=120:=by
 obtain⟨⟨h1,_⟩,h2⟩:=tL (a:=a) hp;unfold Y1;generalize i5 (pts.map<|bJ a)=q at*
 have k1:=dI ⟨0,0,1⟩ q;have k2:=dI ⟨0,0,1⟩ q.reverse;rw[aBR]at k2;refine⟨λv hv=>?_,?_⟩
 ·unfold G.i8 at hv;rcases aAI.mp hv with hv|hv
  ·have:=aCd.mp ((aFJ _).subset hv);exact h1 v (kO q q [] (λ_ h=>nomatch h) (λ_ h=>h) v this)
  ·have:=aCd.mp ((aFJ _).subset hv);exact h1 v (kO q q.reverse [] (λ_ h=>nomatch h) (λ_ h=>aCd.mp h) v this)
 ·unfold G.i8;simp only[aAy,aEm,aBR]
  lia
def Y0:List D->R D
 |[.lst xs]=>if xs.length<=3000 then .ok (.lst (J5 xs (xs.tail++xs.take 1)))else .bad
 |_=>.bad
def MU (ds:List D)(d:D)(h:z6 ds=.ok d):Y0 ds=.ok d:=by
 unfold z6 at h;split at h
 ·split at h
  ·rename_i pts hw;split at h
   ·rename_i hz;rw[m9 hw,<-h];show(if _ then _ else _)=_;rw[if_pos (by rw[aAh];exact hz),<-List.map_tail,<-List.map_take,<-aBr,qR (β:=Unit)];rfl
   ·cases h
  ·cases h
 ·cases h
def wJ (P Q:G.V):Int:=P.x*Q.y-P.y*Q.x
def yB (r:List G.V):Int:=(aBT wJ r<|r.tail++r.take 1).sum
open Classical in
def mQ:List D->R D
 |[.lst xs,.int a]=>match D7 xs with
  |some pts=>if(0<=a/\a<=2)/\Fw pts then .ok (.int (yB (Y1 a pts)))else .bad
  |none=>.bad
 |_=>.bad
def QB (ha:0<=a/\a<=2)(hp:Fw pts):mQ [.lst (pts.map vd),.int a]=.ok (.int (yB (Y1 a pts))):=by simp only[mQ,t4];exact if_pos ⟨ha,hp⟩
theorem rO {G':D->Ev->R Ev}{fe:Ev->R D}{ρ:Ev}:∀(r q:List G.V),(∀P∈r,∀Q∈q,∃ρ1,G' (.tup [j8 P,j8 Q]) ρ=.ok ρ1/\fe ρ1=.ok (.int (wJ P Q)))->n6 G' (λ_=>.ok true) fe ρ (J5 (r.map j8) (q.map j8))=.ok ((aBT wJ r q).map D.int)
 |[],q,_=>by simp[J5,n6]
 |P::r,[],_=>by simp[J5,n6]
 |P::r,Q::q,h=>by obtain⟨ρ1,e1,e2⟩:=h P (.head _) Q (.head _);have ih:=rO r q λP hP Q hQ=>h P (.tail _ hP) Q (.tail _ hQ);show n6 G' (λ_=>.ok true) fe ρ (.tup [j8 P,j8 Q]::J5 (r.map j8) (q.map j8))=_;simp[n6,e1,e2,ih]
def Y2 (ns:List Int):kT (ns.map D.int)=some ns:=by
 induction ns with
 |nil=>rfl
 |cons n ns ih=>rw[aAp,kT,ih];rfl
def uE (h:C1 d<=40):vV d d=.ok (.bl false):=by unfold vV;rw[if_pos ⟨h,h⟩,L9];rfl
def SA (pts:List G.V):C1 (.lst (pts.map vd))<=40:=by
 rw[C1];have:∀pts:List G.V,D8 (pts.map vd)<=1:=λpts=>by
  induction pts with
  |nil=>simp[D8]
  |cons P pts ih=>rw[aAp,D8];exact Nat.max_le.mpr ⟨by simp[C1,D8],ih⟩
 have:=this pts
 lia
def TD (pts:List G.V):C1 (.lst (pts.map j8))<=40:=by
 rw[C1];have:∀pts:List G.V,D8 (pts.map j8)<=1:=λpts=>by
  induction pts with
  |nil=>simp[D8]
  |cons P pts ih=>rw[aAp,D8];exact Nat.max_le.mpr ⟨by simp[j8,C1,D8],ih⟩
 have:=this pts
 lia
def BH {J:Ev->Prop}(h1:r=.ok (.nx ρ))(h2:∃ρ2,F ρ=.ok (.nx ρ2)/\J ρ2):∃ρ2,z7 r F=.ok (.nx ρ2)/\J ρ2:=by rw[h1];exact h2
end M
namespace M
open PySem L2 DL
variable [Tabs]
def dw (c w:Int):G.V:=⟨c.fmod w-w.fdiv 2,(c.fdiv w).fmod w-w.fdiv 2,(c.fdiv<|w*w).fmod w-w.fdiv 2⟩
def pz (c:Int)(at_ j:Nat):Int:=(c.fdiv<|5+7*(at_:Int)+(j:Int)).fmod 5-2
def VL (P:G.V)(t:Int)(w:G.V):G.V:=⟨P.x+t*w.x,P.y+t*w.y,P.z+t*w.z⟩
def ptA (c:Int)(b:G.V)(ws:List G.V)(at_:Nat):G.V:=match ws with
 |[]=>b
 |[u]=>VL b (pz c at_ 0) u
 |u::v::_=>VL (VL b (pz c at_ 0) u) (pz c at_ 1) v
def ZN (c:Int)(b:G.V)(ws:List G.V)(n:Nat):List G.V:=(aBc n).map (ptA c b ws)
structure Drawn (pts:List G.V):Prop where
 ne:pts≠[]
 len:pts.length<=40
 sz:∀P∈pts,Sz 100 P
 flat:¬G.l6 pts
end M
namespace G
section
variable{n:V} {ts:List V} (S:Sheet n ts)
include S
end
section
variable{pts:List V} (hs:l6 pts)
include hs
end
end G
namespace G
def Up (pts:List V)(A B C:V):Prop:=(∀X∈pts,e9 (cr (B-A)<|C-A) (X-A)<=0)/\∃X∈pts,e9 (cr (B-A)<|C-A) (X-A)<0
def Dn (pts:List V)(A B C:V):Prop:=(∀X∈pts,0<=e9 (cr (B-A)<|C-A) (X-A))/\∃X∈pts,0<e9 (cr (B-A)<|C-A) (X-A)
end G
namespace G
abbrev T3:=V×V×V
def tr (r:T3):T3:=(⟨r.1.x,r.2.1.x,r.2.2.x⟩,⟨r.1.y,r.2.1.y,r.2.2.y⟩,⟨r.1.z,r.2.1.z,r.2.2.z⟩)
def uj:T3:=(⟨1,0,0⟩,⟨0,1,0⟩,⟨0,0,1⟩)
def zk (r:T3):tr (tr r)=r:=rfl
abbrev Mv:=T3×V
def TR:Mv:=(uj,0)
end G
namespace G
section
variable{pts qts:List V} {m:Mv} {n:V} {d:Int}
end
end G
namespace G
section
def mN {k:Int}(hk:0<k){u:V}:d6 (k*u)↔d6 u:=by
 have p:∀{a:Int},0<k*a↔0<a:=λ{a}=>⟨λh=>by
  by_cases z:0<a
  ·exact z
  ·have:=aAG (show a<=0 by lia) (aAS hk);simp at this;lia,λh=>aAX hk h⟩
 have z:∀{a:Int},k*a=0↔a=0:=λ{a}=>⟨λh=>by rcases aAD.mp h with h|h<;>lia,λh=>by rw[h,aEe]⟩;simp[d6,p,z]
def aY {u:V}(h:d6 u):¬d6 (-u):=λh'=>by simp[d6]at h h';lia
def KG (u:V):u=0\/d6 u\/d6 (-u):=by
 by_cases h:u=0
 ·exact .inl h
 ·refine .inr ?_;by_cases a:u.x=0
  ·by_cases b:u.y=0
   ·by_cases c:u.z=0
    ·exact absurd (ext a b c) h
    ·simp[d6];lia
   ·simp[d6];lia
  ·simp[d6];lia
def RY {P Q X:V}{k l:Int}(hk:0<k)(e:k*(X-P)=l*(Q-P))(ne:P≠Q):UX P Q X↔0<=l/\l<=k:=by
 have e':k*(Q-X)=(k-l)*(Q-P):=by have h1:=congrArg V.x e;have h2:=congrArg V.y e;have h3:=congrArg V.z e;simp at h1 h2 h3;apply ext<;>simp<;>grind
 have zz:∀{a b:V},a-b=0->a=b:=λ{a b} h=>by have h1:=congrArg V.x h;have h2:=congrArg V.y h;have h3:=congrArg V.z h;simp at h1 h2 h3;exact ext (by lia) (by lia) (by lia)
 have sg:∀{u w:V} {k l:Int},0<k->k*u=l*w->d6 w->((u=0\/d6 u)↔0<=l):=λ{u w k l} hk e hw=>by
  rcases Int.lt_trichotomy l 0 with hl|hl|hl
  ·have h2:d6 (k*(-u)):=by
    have:k*(-u)=(-l)*w:=by have h1:=congrArg V.x e;have h2:=congrArg V.y e;have h3:=congrArg V.z e;simp at h1 h2 h3;apply ext<;>simp<;>grind
    rw[this];exact(mN (by lia)).mpr hw
   have h3:=(mN hk).mp h2;constructor
   ·rintro(h|h)
    ·subst h;simp[d6]at h3
    ·exact absurd h3 (aY h)
   ·intro h;lia
  ·subst hl;refine⟨λ_=>aCC _,λ_=>.inl ?_⟩;have kz:∀{a:Int},k*a=0->a=0:=λ{a} h=>by rcases aAD.mp h with h|h<;>lia
   exact ext (by simp only[aJ];apply kz;simpa using congrArg V.x e) (by simp only[Z8];apply kz;simpa using congrArg V.y e) (by simp only[bC];apply kz;simpa using congrArg V.z e)
  ·exact⟨λ_=>aAS hl,λ_=>.inr ((mN hk).mp (by rw[e];exact(mN hl).mpr hw))⟩
 have zi:∀{a b:V},(a=b)↔a-b=0:=λ{a b}=>⟨λh=>by subst h;apply ext<;>simp,zz⟩;have zj:∀{a b:V},(a=b)↔b-a=0:=λ{a b}=>⟨λh=>by subst h;apply ext<;>simp,λh=>(zz h).symm⟩;unfold UX;rcases KG (Q-P)with h|h|h
 ·exact absurd (zz h).symm ne
 ·have nq:¬d6 (P-Q):=by
   have:P-Q=-(Q-P):=by apply ext<;>simp<;>grind
   rw[this];exact aY h
  have a:=sg hk e h;have b:=sg hk e' h;rw[zi (a:=X) (b:=P),zj (a:=X) (b:=Q)];constructor
  ·intro w;exact⟨a.mp (w.1 h).1,by have:=b.mp (w.1 h).2;lia⟩
  ·intro w;exact⟨λ_=>⟨a.mpr w.1,b.mpr (by lia)⟩,λq=>absurd q nq⟩
 ·have pq:P-Q=-(Q-P):=by apply ext<;>simp<;>grind
  have h':d6 (P-Q):=by rw[pq];exact h
  have nq:¬d6 (Q-P):=λq=>aY q h;have e2:k*(P-X)=l*(P-Q):=by have h1:=congrArg V.x e;have h2:=congrArg V.y e;have h3:=congrArg V.z e;simp at h1 h2 h3;apply ext<;>simp<;>grind
  have e3:k*(X-Q)=(k-l)*(P-Q):=by have h1:=congrArg V.x e;have h2:=congrArg V.y e;have h3:=congrArg V.z e;simp at h1 h2 h3;apply ext<;>simp<;>grind
  have a:=sg hk e2 h';have b:=sg hk e3 h';rw[zj (a:=X) (b:=P),zi (a:=X) (b:=Q)];constructor
  ·intro w;exact⟨a.mp (w.2 h').1,by have:=b.mp (w.2 h').2;lia⟩
  ·intro w;exact⟨λq=>absurd q nq,λ_=>⟨a.mpr w.1,b.mpr (by lia)⟩⟩
end
end G
namespace G
section
variable{pts qts:List V} {n:V} {d:Int}
end
end G
namespace G
structure Sl where
 a:Int
 b:Int
 c:Int
 w:V
 t:Bool
def Sl.put (s:Sl)(P:V):V:=
 let x:=P.x+s.a*P.y
 let y:=P.y+s.b*P.z
 let z:=P.z+s.c*x
 if s.t then⟨y+s.w.x,x+s.w.y,z+s.w.z⟩else⟨x+s.w.x,y+s.w.y,z+s.w.z⟩
end G
namespace G
end G
namespace DL
open PySem PySem.Spec L2
open PyProof.Rows hiding St
section
variable [Tabs]
end
end DL
namespace M
open PySem L2 DL
variable [Tabs]
def UH (s k:Int):Int:=(s*s+5003*k+11).fmod 2147483647
def fQ (l:List Int):Prop:=l.length=7/\∀i∈l,bits i<=100
def s7 (c k:Int):Int:=(c.fdiv k).fmod 7-3
def intD:D->Int
 |.int i=>i
 |_=>0
def mS {α β:Type}{G:D->Ev->R Ev}{fe:Ev->R D}{ρ:Ev}(rep:α->D)(rp:β->D)(g:α->β)(l:List α)(h:∀a∈l,∃ρ1,G (rep a) ρ=.ok ρ1/\fe ρ1=.ok (rp (g a))):n6 G (λ_=>.ok true) fe ρ (l.map rep)=.ok ((l.map g).map rp):=by rw[aBB];exact J8 rep _ l h
theorem wA {α:Type}{G:D->Ev->R Ev}{F:Ev->R Out}{x:D}{Iv:Ev->Prop}(rep:α->D)(p:α->Prop)(Iw:Ev->Prop)(hw:∀ρ,Iw ρ->Iv ρ):∀(l:List α) (ρ:Ev),Iw ρ->(∀a∈l,∀ρ,Iw ρ->(p a/\T9 G F (rep a) ρ=.ok (.rt x))\/(¬p a/\∃ρ2,T9 G F (rep a) ρ=.ok (.nx ρ2)/\Iw ρ2))->((∃a∈l,p a)/\G6 G F (l.map rep) ρ=.ok (.rt x))\/(¬(∃a∈l,p a)/\∃ρ2,G6 G F (l.map rep) ρ=.ok (.nx ρ2)/\Iv ρ2)
 |[],ρ,h,_=>.inr ⟨λ⟨a,q,_⟩=>(by cases q),ρ,rfl,hw ρ h⟩
 |a::l,ρ,h,hs=>by
  have go:∀{o},T9 G F (rep a) ρ=.ok o->∃ρ1,G (rep a) ρ=.ok ρ1/\F ρ1=.ok o:=λ{o} e=>by
   unfold T9 at e;cases e1:G (rep a) ρ with
   |ok ρ1=>rw[e1]at e;exact⟨ρ1,rfl,e⟩
   |ex z=>rw[e1]at e;cases e
   |bad=>rw[e1]at e;cases e
  rcases hs a (.head _) ρ h with⟨hp,e⟩|⟨hp,ρ2,e,h2⟩
  ·obtain⟨ρ1,e1,e2⟩:=go e;exact .inl ⟨⟨a,.head _,hp⟩,iP e1 e2⟩
  ·obtain⟨ρ1,e1,e2⟩:=go e;rw[aAp,R5 e1 e2];rcases wA rep p Iw hw l ρ2 h2 (λb hb=>hs b (.tail _ hb))with⟨⟨b,hb,q⟩,e3⟩|⟨q,e3⟩
   ·exact .inl ⟨⟨b,.tail _ hb,q⟩,e3⟩
   ·exact .inr ⟨λ⟨b,hb,q'⟩=>by
     cases hb with
     |head=>exact hp q'
     |tail _ hb=>exact q ⟨b,hb,q'⟩,e3⟩
def SM {α:Type}{G:D->Ev->R Ev}{F F2:Ev->R Out}{x d:D}{l:List α}{ρ:Ev}(rep:α->D)(p:α->Prop)(Iw:Ev->Prop)(h:Iw ρ)(hs:∀a∈l,∀ρ,Iw ρ->(p a/\T9 G F (rep a) ρ=.ok (.rt x))\/(¬p a/\∃ρ2,T9 G F (rep a) ρ=.ok (.nx ρ2)/\Iw ρ2))(yes:(∃a∈l,p a)->x=d)(no:¬(∃a∈l,p a)->∀ag,Iw ag->K3 (F2 ag)=.ok d):K3 (z7 (G6 G F (l.map rep) ρ) F2)=.ok d:=by
 rcases wA (Iv:=Iw) rep p Iw (λ_ h=>h) l ρ h hs with⟨q,e⟩|⟨q,ρ2,e,h2⟩
 ·rw[e,<-yes q];rfl
 ·rw[e];exact no q ρ2 h2
end M
namespace DL
open PySem PySem.Spec L2
open PyProof.Rows hiding St
section
variable [Tabs]
end
end DL
namespace DL
open PySem PySem.Spec L2
open PyProof.Rows hiding St st
variable [Tabs]
section
def RSF (X:Cx)(H9:Hp)(O0:Addr->Prop)(r:R (List D))(D:Ends):Prop:=match r with
 |.ok ds=>∀vs H1 a,Same H9 H1->H1 a=none->Reps X.K H1 O0 vs ds->D.rt (.ref a) (upd H1 a<|.lst vs)
 |_=>False
def tSF (X:Cx)(H9:Hp)(O0:Addr->Prop)(F:Ev->R (List D)):TS:=λD σ H=>∃O ρ,EnvOk X.K H9 O0 H O σ ρ/\Z2 X.K O/\RSF X H9 O0 (F ρ) D
def pN (X:Cx)(st:List Stmt)(F:Ev->R (List D)):Prop:=∀H9 O0,rC X st (tSF X H9 O0 F)
def DT (r:R Out)(F:Ev->R (List D)):R (List D):=match r with
 |.ok (.nx ρ)=>F ρ
 |_=>.bad
@[simp]def YV (ρ:Ev)(F:Ev->R (List D)):DT (.ok (.nx ρ)) F=F ρ:=rfl
def U4 (he:PF X e f):pN X [.Return (some e) pos] f:=λH9 O0=>dZ (dJ<|oN he) λD σ H ⟨O,ρ,E,fk,q⟩=>⟨H9,O0,O,ρ,E,by
 cases e1:f ρ with
 |ok ds=>rw[e1]at q;exactλvs H1 a s1 ha r=>q vs H1 a (E.same.trans s1) ha (r.sub E.sub)
 |ex x=>rw[e1]at q;exact q.elim
 |bad=>rw[e1]at q;exact q⟩
def x5 {st:Stmt}{rest:List Stmt}(h1:kR X st F)(h2:pN X rest G):pN X (st::rest) (λρ=>DT (F ρ) G):=λH9 O0=>dZ (pI (h1 H9 O0)<|h2 H9 O0) λD σ H ⟨O,ρ,E,fk,q⟩=>⟨O,ρ,E,fk,by
 dsimp only at q;cases e1:F ρ with
 |ok o=>
  rw[e1]at q;cases o with
  |nx ag=>exactλae H' O' E' f' k=>⟨O',ag,E',f',q⟩
  |_=>exact aAi q
 |ex x=>rw[e1]at q;exact aAi q
 |bad=>rw[e1]at q;exact aAi q⟩
def spW (K:PySem.W.Frag)(n:Nat)(m:List D->R D):Sp:=λvs H Q _=>∃O ds rs,Reps K H O vs ds/\ds.length=n/\(∀a,O a->∃o,H a=some o/\Mt o)/\Tb H/\Z2 K O/\m ds=.ok (.lst rs)/\∀ws H1 a,Same H H1->H1 a=none->Reps K H1 O ws rs->Q (.ref a) (upd H1 a<|.lst ws)
def mU (r:R (List D)):R D:=r.bind λrs=>.ok (.lst rs)
@[simp]def iz (ds:List D):mU (.ok ds)=.ok (.lst ds):=rfl
def EK (h:mU r=.ok d):∃rs,r=.ok rs/\d=.lst rs:=by
 cases r with
 |ok rs=>cases h;exact⟨rs,rfl,rfl⟩
 |ex x=>cases h
 |bad=>cases h
def lz (r:R D):R (List D):=match r with
 |.ok (.lst rs)=>.ok rs
 |.ex x=>.ex x
 |_=>.bad
@[simp]def wz (ds:List D):lz (.ok (.lst ds))=.ok ds:=rfl
def eG (P:Program)(w:World)(K:PySem.W.Frag)(mg:bK)(base:Heap)(k:Nat)(x:Str)(n:Nat)(m:List D->R D):Prop:=
 (∃g gd ps,FnOk P w K mg base rE k g gd ps (spW K n m)/\Binds K gd ps []/\PySem.W.keepIn K (.ref g)=true/\mg x=some (.ref g))/\∀ds d,ds.length=n->m ds=.ok d->∃rs,d=.lst rs
def eG.cal {K:PySem.W.Frag}(c:eG P w K mg base k x n m):v6 P w K mg base k x n m:=by obtain⟨⟨g,gd,ps,F,b,kp,e⟩,hc⟩:=c;refine⟨g,gd,ps,F.imp λvs H Q E z=>?_,b,kp,e⟩;obtain⟨O,ds,d,r,hl,ht,tb,fk,e,q⟩:=z;obtain⟨rs,rfl⟩:=hc ds d hl e;refine⟨O,ds,rs,r,hl,ht,tb,fk,e,λws H1 a s1 ha r1=>q _ _ (s1.trans<|j3 ha _) (.lst (K4.of i9) (λz=>?_) (r1.same<|j3 ha _))⟩;obtain⟨o,h1,_⟩:=ht a z;rw[s1 _ _ h1]at ha;cases ha
def iE {K:PySem.W.Frag}{st:Stmt}(g:bI K mg x st)(S:FnScope N ps (c5 st))(hb:∀{f:Addr} {cdv:Value} {A:Around} {outer:List Env} {s:Shared} {H:Hp} {E:XK},Room k (A.deeper (aCF x (c5 st) s.heap.objs.size f cdv))->(A.deeper (aCF x (c5 st) s.heap.objs.size f cdv)).units+64<cLine->(A.deeper (aCF x (c5 st) s.heap.objs.size f cdv)).units+130<cLine->N.Nodup->
   pN (OY P w K mg base N x (c5 st) f cdv A outer s H E) (o6 st) F) (hm:∀ds d,ds.length=ps.length->m ds=.ok d->mU (F (j1 N ds))=.ok d) (yg:∀(kV doc pm:Value) (an:Option Addr) (cdv ct:Value) (us:List Value),us.length=ps.length->bindArgs (PySem.W.fnOf x x (B8 st) (o6 st) (c5 st) .none kV doc pm an cdv ct) ⟨us,[]⟩=pure (ps.zip us):=by
   intro _ _ _ _ _ _ us hl;rcases us with _|⟨_,_|⟨_,_|⟨_,_|⟨_,_|⟨_,_|⟨_,_|⟨_,_⟩⟩⟩⟩⟩⟩⟩<;>first|rfl|exact absurd hl (by simp)):eG P w K mg base (k+1) x ps.length m:=by
 obtain⟨f,fd,md,F0⟩:=g;refine⟨⟨f,fd,ps,F0.ok S (λvs H Q E z=>?_) (λcdv A outer s H vs Q E hr z=>?_),F0.binds yg,F0.kp,md⟩,λds d hl e=>?_⟩
 ·obtain⟨O,ds,d,r,hl,_⟩:=z;rw[r.length];exact hl
 ·obtain⟨O,ds,d,r,hl,ht,tb,fk,e,q⟩:=z;refine⟨_,hb (cdv:=cdv) hr hr.units hr.ad8 S.nd H O,O,_,iW r ht tb,fk,?_⟩;obtain⟨rs,e1,e2⟩:=EK (hm ds _ hl e);injection e2 with e2;subst e2;rw[e1];exact q
 ·obtain⟨rs,_,e2⟩:=EK (hm ds d hl e);exact⟨rs,e2⟩
def tW (c:eG X.prog X.w X.K X.mg X.base k x n m)(hr:Room k X.A)(ha:IF X (e::es) f)(hl:BF f n)(hg:Gl X x:=by rfl)(gc:(x==("__debug__":Str))=false:=by decide)(he:starEach (e::es) X.env=(false,eval e X.env)::starEach es X.env:=by rfl)(bg:(backTo pos (starEach es X.env)).any (·.1)=false:=by rfl):
  PF X (.Call (.Name x p) (e::es) [] pos) (λρ=>(f ρ).bind λds=>lz (m ds)):=by
 obtain⟨⟨g,gd,ps,F,b,kp,em⟩,hc⟩:=c;refine rK λpins s σ H Q I H9 O0 O ρ E q=>?_;refine EQ F hr hg em kp b .nil TY ha gc he bg pins s σ H Q I ⟨H9,O0,O,ρ,E,?_⟩;dsimp only at q;cases e1:f ρ with
 |ex z=>rw[e1]at q;exact q
 |bad=>rw[e1]at q;exact q
 |ok ds=>
  rw[e1,R.aa0]at q;intro vs H1 s1 r1;rw[aBV];have E1:=E.grow s1;cases e2:m ds with
  |ex z=>rw[e2]at q;exact(q H<|Same.refl _).elim
  |bad=>rw[e2]at q;exact aAi q
  |ok d=>rw[e2]at q;obtain⟨rs,rfl⟩:=hc ds d (hl ρ ds e1) e2;exact⟨O,ds,rs,r1,hl ρ ds e1,E1.trk,E1.tab,gW I O E.trk,e2,λws H2 a s2 ha r2=>q ws H2 a (s1.trans s2) ha r2⟩
def RW (i:Nat)(h:vE X e f):vE X e (λρ=>f (M1 i ρ)):=ny h λσ H Q H9 O0 O ρ E q=>by
 dsimp only at q;unfold M1 at q;cases e:ρ[i]? with
 |none=>rw[e]at q;exact⟨H9,O0,O,ρ,E,q⟩
 |some sl=>
  rw[e]at q;cases sl with
  |o xs=>obtain⟨O',E',_⟩:=E.disown e;exact⟨H9,O0,O',_,E',q⟩
  |_=>exact⟨H9,O0,O,ρ,E,q⟩
end
end DL
namespace DL
open PySem PySem.Spec L2
open PyProof.Rows hiding St st
variable [Tabs]
section
def ZY (i:Nat)(ρ:Ev):R Out:=match ρ[i]? with
 |some (.o _)=>.ok (.nx (ρ.set i<|.o []))
 |_=>.bad
def HR (i:Nat)(hN:X.N[i]?=some x:=by rfl)(hv:vJ X.env.scope x:=by first|exact aCh rfl|exact aBx (aCh rfl)|exact aBx (aBx rfl))(hd:(x==("__debug__":Str))=false:=by decide)(cg:(x==("__classdict__":Str))=false:=by decide)(cp:attributeBase (.Name x p) "clear" X.env (eval (.Name x p) X.env)=eval (.Name x p) X.env:=by rfl)(bo:(apos.endLine==av.line)=true:=by rfl)(pf:swapsWith (.Call (.Attribute (.Name x p) "clear" apos) [] [] av) none pos.line X.env=pure false:=by rfl):
  kR X (.Expr (.Call (.Attribute (.Name x p) "clear" apos) [] [] av) pos) (ZY i):=λH9 O0=>
 vS (gH (BM PySem.F.plainAttrs_list PySem.F.slot_list_clear PySem.F.type_list_clear MG (J2 hN hv hd cg) cp bo) pf) λD σ H O ρ E fk q=>by
 unfold ZY at q;cases e2:ρ[i]? with
 |none=>rw[e2]at q;exact aAi q
 |some sl=>
  rw[e2]at q;cases sl with
  |o xs=>dsimp only at q;obtain⟨a,vs,h1,h2,h3,h4,h5⟩:=E.own i xs e2;refine⟨_,h1,.inl ⟨rfl,vs,K4.of h4⟩,a,vs,rfl,rfl,h4,?_⟩;obtain⟨E2,k2⟩:=E.write e2 h1 (.nil:Reps X.K H O [] []);exact q σ _ O E2 fk k2
  |_=>exact aAi q
def mG {c:Expr}{a rest:List Stmt}{fc:Ev->R Bool}{F G:Ev->R (List D)}(hc:vE X c fc)(ha:pN X a F)(hr:pN X rest G):pN X (.If c a [] pos::rest) (λρ=>(fc ρ).bind λt=>if t=true then F ρ else G ρ):=λH9 O0=>dZ (pI (KR hc (ha H9 O0) uU)<|hr H9 O0) λD σ H ⟨O,ρ,E,fk,q⟩=>⟨H9,O0,O,ρ,E,by
 dsimp only at q;cases e1:fc ρ with
 |ex x=>rw[e1]at q;exact aAi q
 |bad=>rw[e1]at q;exact aAi q
 |ok t=>
  rw[e1,R.aa0]at q;intro H' s;cases t with
  |true=>rw[if_pos rfl]at q⊢;exact⟨O,ρ,E.grow s,fk,q⟩
  |false=>rw[if_neg aAH]at q⊢;exact⟨O,ρ,E.grow s,fk,q⟩⟩
def KU (i:Nat){st:List Stmt}{F:Ev->R (List D)}(h:pN X st F):pN X st (λρ=>F (M1 i ρ)):=λH9 O0=>dZ (h H9 O0) λD σ H ⟨O,ρ,E,fk,q⟩=>by
 dsimp only at q;unfold M1 at q;cases e:ρ[i]? with
 |none=>rw[e]at q;exact⟨O,ρ,E,fk,q⟩
 |some sl=>
  rw[e]at q;cases sl with
  |o xs=>obtain⟨O',E',sub⟩:=E.disown e;exact⟨O',_,E',λa o k z=>fk a o k (sub a z),q⟩
  |_=>exact⟨O,ρ,E,fk,q⟩
def fy (i:Nat)(ρ:Ev):R (List D):=match ρ[i]? with
 |some (.o xs)=>.ok xs
 |_=>.bad
def NH (i:Nat){x:Str}{p pos:Pos}(hN:X.N[i]?=some x:=by rfl)(hv:vJ X.env.scope x:=by first|exact aCh rfl|exact aBx (aCh rfl)|exact aBx (aBx rfl))(hd:(x==("__debug__":Str))=false:=by decide)(cg:(x==("__classdict__":Str))=false:=by decide):pN X [.Return (some (.Name x p)) pos] (fy i):=λH9 O0=>dZ (dJ<|oN<|J2 hN hv hd cg) λD σ H ⟨O,ρ,E,fk,q⟩=>by
 unfold fy at q;cases e2:ρ[i]? with
 |none=>rw[e2]at q;exact aAi q
 |some sl=>
  rw[e2]at q;cases sl with
  |o xs=>
   obtain⟨a,vs,h1,h2,h3,h4,h5⟩:=E.own i xs e2;refine⟨_,h1,?_⟩;have eH:upd (λb=>if b=a then none else H b) a (.lst vs)=H:=by
    funext b
    unfold upd;by_cases z:b=a
    ·subst z;simp[h4]
    ·simp[z]
   have:=q vs (λb=>if b=a then none else H b) a (λb o hb=>by
    have ne:b≠a:=λz=>by rw[z,h3]at hb;cases hb
    show(if b=a then none else H b)=some o;rw[if_neg ne];exact E.same b o hb) (if_pos rfl) ?_
   ·rw[eH]at this;exact this
   ·have off:∀{b:Addr} {o:HO},b≠a->H b=some o->(if b=a then none else H b)=some o:=λne e=>by rw[if_neg ne];exact e
    have rd:∀{b:Addr} {u:HO},b≠a->Rd H b u->Rd (λb=>if b=a then none else H b) b u:=λne r=>r.elim (λe=>.inl (off ne e)) λ⟨o,e⟩=>.inr ⟨o,off ne e⟩;have nt:∀{b:Addr} {xs:List V},Rd H b (.tup xs)->b≠a:=λr z=>by subst z;rcases r with e|⟨o,e⟩<;>rw[h4]at e<;>cases e
    refine h5.mono (λb xs h=>h.imp (λr=>rd (nt r) r) id) (λb xs n h=>⟨λz=>n (E.sub b z),h.imp (rd λz=>n (by rw[z];exact h2)) id⟩) λb φ n h=>⟨λz=>n (E.sub b z),off (λz=>n (by rw[z];exact h2)) h⟩
  |_=>exact aAi q
def RZ:D->D->R (List D)
 |.lst a,.lst b=>if a.length+b.length<=sizeLine then .ok (a++b)else .bad
 |_,_=>.bad
def LI {a b:Expr}{f1 f2:Ev->R D}(ha:PB X a f1)(hb:PB X b f2):PF X (.BinOp a .Add b pos) (λρ=>(f1 ρ).bind λx=>(f2 ρ).bind λy=>RZ x y):=by
 refine rK λpins s σ H Q I H9 O0 O ρ E q=>?_;dsimp only at q;refine wpAny_BinOp (FA (R:=λx y H2=>∃d1 d2,f1 ρ=.ok d1/\f2 ρ=.ok d2/\Same H H2/\x9 X.K H2 O x d1/\x9 X.K H2 O y d2) ha hb I ⟨H9,O0,O,ρ,E,?_⟩ λv u s2 x y H2 I2 rx ry h=>?_)
 ·cases e1:f1 ρ with
  |ex z=>rw[e1]at q;exact q
  |bad=>rw[e1]at q;exact aAi q
  |ok d1=>
   rw[e1,R.aa0]at q;intro x H1 s1 r1;refine⟨H9,O0,O,ρ,E.grow s1,?_⟩;cases e2:f2 ρ with
   |ex z=>rw[e2]at q;exactλH' s'=>q H' (s1.trans s')
   |bad=>rw[e2]at q;exact aAi q
   |ok d2=>exactλy H2 s2 r2=>⟨d1,d2,rfl,rfl,s1.trans s2,r1.same s2,r2⟩
 ·obtain⟨d1,d2,e1,e2,sm,r1,r2⟩:=h;rw[e1,R.aa0,e2,R.aa0]at q;cases d1 with
  |lst a=>
   cases d2 with
   |lst b=>
    simp only[RZ]at q;by_cases hz:a.length+b.length<=sizeLine
    ·rw[if_pos hz]at q;obtain⟨l,vs,rfl,h1,h2⟩:=r1.aa5;obtain⟨l',gh,rfl,ug,rh⟩:=r2.aa5;exact DD pins s2 σ H2 _ _ v u Q I2 rx ry ⟨l,l',vs,gh,rfl,rfl,h1,ug,by rw[h2.length,rh.length];exact hz,λp hp=>q _ H2 p sm hp (h2.append rh)⟩
    ·rw[if_neg hz]at q;exact q.elim
   |_=>exact aAi q
  |_=>exact aAi q
def DM:D->D->R D
 |.int a,.int b=>if 0<=b/\(bits a:Int)*b<=2^27 then .ok (.int (a^b.toNat))else .bad
 |_,_=>.bad
def SB:gC X (binaryOp .Pow) (rI (λi j=>0<=j/\(bits i:Int)*j<=2^27) λi j=>.int (i^j.toNat)):=ak λ_ _ _ _ _ _ _ hc q=>pow_int hc.1 hc.2 q
def DI:iU X (binaryOp .Pow) DM:=iU.aa9 (dw:=λi j=>.int (i^j.toNat)) SB (λdx dy d h=>by
 cases dx<;>cases dy<;>simp only[DM,reduceCtorEq]at h;split at h
 ·rename_i hc;cases h;exact⟨_,_,rfl,rfl,hc,rfl⟩
 ·cases h) (λdx dy e h=>by
  cases dx<;>cases dy<;>simp only[DM,reduceCtorEq]at h;split at h<;>cases h) λ_ _ _ _ _=>.int
def EA {x:Int}{n:Nat}(h:bits x<=n)(hn:n<=1000000:=by decide):DM (.int x) (.int 2)=.ok (.int (x*x)):=by show(if _ then _ else _)=_;rw[if_pos ⟨by decide,by lia⟩];congr 2;show x^2=x*x;rw[Int.pow_succ,Int.pow_succ,Int.pow_zero,Int.one_mul]
mutual
theorem MW {K:PySem.W.Frag}{H:Hp}{O O':Addr->Prop}:∀{v:V} {d:D},lY d=true->Rep K H O v d->Rep K H O' v d
 |_,_,_,.int=>.int
 |_,_,h,.tup t r=>.tup t (cT h r)
 |_,_,h,.non=>(by cases h)
 |_,_,h,.bl=>(by cases h)
 |_,_,h,.str=>(by cases h)
 |_,_,h,.lst _ _ _=>(by cases h)
 |_,_,h,.dct _ _ _=>(by cases h)
theorem cT {K:PySem.W.Frag}{H:Hp}{O O':Addr->Prop}:∀{vs:List V} {ds:List D},P9 ds=true->Reps K H O vs ds->Reps K H O' vs ds
 |_,_,_,.nil=>.nil
 |_,_,h,.cons r t=>.cons (MW (aFQ.mp h).1 r) (cT (aFQ.mp h).2 t)
end
def JC (i l:Nat)(he:PF X e f)(hN:X.N.Nodup)(hi:X.N[i]?=some x:=by rfl)(hx:Loc X.env.scope x:=by first|exact aCh rfl|exact aBx rfl)(hs:swapsWith e (some (.Name x pos')) pos.line X.env=pure false:=by rfl)(hf:X.fn x=true\/X.env.scope.names.lookup x=some .local:=by first|exact .inl rfl|exact .inr rfl|assumption):
  kR X (.Assign [.Name x pos'] e pos) (λρ=>(f (M1 l ρ)).bind λds=>if P9 ds=true then .ok (.nx (ρ.set i (.o ds)))else .bad):=by
 intro H9 O0 pins s σ H D I ⟨O,ρ,E,fk,q⟩;dsimp only at q;obtain⟨O1,E1⟩:∃O1,EnvOk X.K H9 O0 H O1 σ (M1 l ρ):=by
  unfold M1;cases e:ρ[l]? with
  |none=>exact⟨O,E⟩
  |some sl=>
   cases sl with
   |o xs=>obtain⟨O',E',_⟩:=E.disown e;exact⟨O',E'⟩
   |_=>exact⟨O,E⟩
 refine aDV (B4 (he pins s σ H (λv H2=>∃vs H1 a ds,v=.ref a/\H2=upd H1 a (.lst vs)/\Same H H1/\H1 a=none/\Reps X.K H1 O1 vs ds/\P9 ds=true/\RS X H9 O0 H O (.ok (.nx (ρ.set i<|.o ds))) D) I ⟨H9,O0,O1,M1 l ρ,E1,?_⟩) λv s1 ⟨y,H2,I2,r2,vs,H1,a,ds,e1,e2,ko,ha,r,ho,q'⟩=>?_) hs
 ·cases e1:f (M1 l ρ)with
  |ok ds=>
   rw[e1,R.aa0]at q;by_cases ho:P9 ds=true
   ·rw[if_pos ho]at q;exactλvs H1 a s1 ha r=>⟨vs,H1,a,ds,rfl,rfl,s1,ha,r,ho,q⟩
   ·rw[if_neg ho]at q;exact q.elim
  |ex x=>rw[e1]at q;exactλH' s=>q H' (E.same.trans s)
  |bad=>rw[e1]at q;exact q
 ·subst e1 e2;refine L0 I2 hN hi hx r2 (λs3 I3=>⟨_,_,I3,?_⟩) hf;have hk:=wN I2 (i9 (H:=H1) (a:=a) (o:=.lst vs));have E2:=(E.grow ko).ac2 i ha hk (cT ho r);refine q' _ _ _ E2 (gW I2 _ E2.trk) ?_;exactλb o hb n=>⟨by rw[j5 (j9 (ko b o hb) ha)];exact ko b o hb,λz=>z.elim n (j9 (ko b o hb) ha)⟩
def FI (i l:Nat)(own fr:List Str)(js:List Nat)(hN:X.N.Nodup)(hc:X.calm=true)(S:CompSc X scope own fr js)(hi:QF X tg v5 fi)(hX:∀(pins:M3) (fp:List Addr) (X':Cx),(∃s9 Ha C,X'=BS X pins s9 Ha (own++fr) scope (aR X scope C) C fp)->GI X' tg G/\PK X' ifs ft/\PD X' elt fe)(hG:∀ρ d ρ1,G d (f6 own js ρ)=.ok ρ1->lV ρ1 (f6 own js ρ))(hy:X.N[i]?=some y:=by rfl)(hyl:X.env.scope.names.lookup y=some .local:=by rfl)(pf:swapsWith (.ListComp elt [⟨tg,v5,ifs,0⟩] scope pos) (some (.Name y py)) spos.line X.env=pure true:=by rfl)(hs:∀x,foldedSetIterable v5 X.env x=pure x:=by intro _;rfl):
  kR X (.Assign [.Name y py] (.ListComp elt [⟨tg,v5,ifs,0⟩] scope pos) spos) (λρ=>((fi (M1 l ρ)).bind λds=>if ds.length<=sizeLine then(n6 G ft fe (f6 own js (M1 l ρ)) ds).bind λrs=>R.ok rs else .bad).bind λrs=>if P9 rs=true then .ok (.nx (ρ.set i (.o rs)))else .bad):=by
 intro H9 O0 pins s σ H D I ⟨O,ρ,E,fk,q⟩;dsimp only at q;obtain⟨O1,E1⟩:∃O1,EnvOk X.K H9 O0 H O1 σ (M1 l ρ):=by
  unfold M1;cases e:ρ[l]? with
  |none=>exact⟨O,E⟩
  |some sl=>
   cases sl with
   |o xs=>obtain⟨O',E',_⟩:=E.disown e;exact⟨O',E'⟩
   |_=>exact⟨O,E⟩
 rw[exec_Assign_Name_used _ _ _ _ pf];refine aAa (aDL<|aAa ?_);show wpAny _ X.A (do let _<-comprehension (.ListComp elt [⟨tg,v5,ifs,0⟩] scope pos) scope X.env _ (newList []) false (eval v5 X.env) (some<|assign (.Name y py) X.env)) _ _ s;refine aAa (aCs (aCW (use:=some (assign (.Name y py) X.env)) (Q:=λ_ s'=>SP X pins D .next s') rfl hs (N4<|Inv.aa7 I S) S.kind S.names ?_) (λ_ s' hq=>aAb (aAb hq)) λ_ _ e=>e);refine B4 (hi pins s σ H (λJ H1=>∃ds rs,Same H H1/\QD X.K J H1 O1 ds/\ds.length<=sizeLine/\n6 G ft fe (f6 own js<|M1 l ρ) ds=.ok rs/\P9 rs=true/\RS X H9 O0 H O (.ok (.nx (ρ.set i<|.o rs))) D) I ⟨H9,O0,O1,M1 l ρ,E1,gW I O1 E1.trk,?_⟩) λv s1 h1=>B4 h1 λitv s2 h2=>?_
 ·cases e1:fi (M1 l ρ)with
  |ex x=>rw[e1]at q;exactλH' s=>q H' (E.same.trans s)
  |bad=>rw[e1]at q;exact q
  |ok ds=>
   rw[e1,R.aa0]at q;intro J H1 s1 hJ;split at q
   ·rename_i hl;cases e2:n6 G ft fe (f6 own js<|M1 l ρ) ds with
    |ex x=>rw[e2]at q;exact(q H E.same).elim
    |bad=>rw[e2]at q;exact q.elim
    |ok rs=>
     rw[e2,R.aa0,R.aa0]at q;by_cases ho:P9 rs=true
     ·rw[if_pos ho]at q;exact⟨ds,rs,s1,hJ,hl,e2,ho,q⟩
     ·rw[if_neg ho]at q;exact q.elim
   ·exact q.elim
 ·obtain⟨it,fp,tn,J,H2,e,I2,T,jm,f2,ds,rs,sm,hJ,hl,yc,ho,q⟩:=h2;subst e;refine iR (RR:=λacc C=>compPost (model X.prog X.w) X.A X.xe (some<|assign (.Name y py) X.env) (λ_ s'=>SP X pins D .next s') acc C) hc S (hX pins fp) (hG<|M1 l ρ) I2 T jm f2 (E1.grow sm) hJ yc hl ?_;intro acc C s' H' m hn hCa yh has sm' r nw hC hI;have I3:=hI s'.heap (aEY ..);show wpAny _ X.A (assign (.Name y py) X.env<|.ref acc) _ _ s';refine aEV (kL (i:=i) (v:=.ref acc) I3 hN hy (.inl hyl) rfl (λs4 I4 ⟨a,hsb,ha⟩=>?_)<|.inr hyl);have df:∀x c,X.env.cells.lookup x=some c->c≠C:=λx c hc=>by obtain⟨v,hv⟩:=I2.cell x c hc;exact aAk (aAt hv.lt yh)
  have hCL:C≠X.env.locals:=aCZ (aAt I2.lt yh);have hCa2:C≠a:=by
   rcases ha with ha|ha
   ·rw[ha];exact hCL
   ·exact aCl (df y a ha)
  refine⟨m,hn.sameBut hsb hCa2,λh' jn=>?_⟩;obtain⟨H1,vs,ko,vo,eH,rr⟩:=nw;subst eH;have E2:=((E.grow sm).grow ko).ac2 i vo (wN I3<|i9 (H:=H1) (a:=acc) (o:=.lst vs)) (cT ho rr);refine⟨_,_,?_,q _ _ _ E2 (gW I3 _ E2.trk) λb o hb n=>⟨by rw[j5 (j9 ((sm.trans ko) b o hb) vo)];exact(sm.trans ko) b o hb,λz=>z.elim n (j9 ((sm.trans ko) b o hb) vo)⟩⟩;exact I4.turned (t':=s4.toks) (it:=C) (λb o hb e=>(jn.2 b hb).trans e) hC hCL (.inr (aAu I2.sz yh)) df λp hp=>aAk (aAt (aAg (I2.pin p hp).1) yh)
end
end DL
namespace DL
open PySem PySem.Spec L2
open PyProof.Rows hiding St
variable [Tabs]
def jz (fT:Ev->R Bool)(fc:Ev->R D):Ev->R Out:=λρ=>(fT ρ).bind λt=>if t=true then(fc ρ).bind λd=>.ok (.rt d)else .ok (.nx ρ)
def YK (i j:Nat)(F:Ev->R Out):Ev->R Out:=λρ=>match ρ[i]? with
 |some (.o ds)=>G6 (λd ρ=>.ok (ρ.set j<|.v d)) F ds ρ
 |_=>.bad
def IM (i j:Nat){x y:Str}{e c:Expr}{fT:Ev->R Bool}{fc:Ev->R D}{px py p1 p2 pos:Pos}(hp:PassesOwn (model X.prog X.w) X.A X.env X.xe)(hc:X.calm=true)(hN:X.N.Nodup)(hT:vE X e fT)(hr:PD X c fc)(jf:i≠j:=by decide)(hi:X.N[i]?=some y:=by rfl)(hv:vJ X.env.scope y:=by first|exact aCh rfl|exact aBx (aCh rfl)|exact aBx (aBx rfl))(hd:(y==("__debug__":Str))=false:=by decide)(cg:(y==("__classdict__":Str))=false:=by decide)(hj:X.N[j]?=some x:=by rfl)(hx:Loc X.env.scope x:=by first|exact aCh rfl|exact aBx rfl)(hf:X.fn x=true\/X.env.scope.names.lookup x=some .local:=by first|exact .inl rfl|exact .inr rfl|assumption)(hs:∀x,foldedSetIterable (.Name y py) X.env x=pure x:=by intro _;rfl):
  kR X (.For (.Name x px) (.Name y py) [.If e [.Return (some c) p1] [] p2] [] pos) (YK i j (jz fT fc)):=λH9 O0=>vS (OM hp hc (ES<|J2 hi hv hd cg) (CH hN hj hx hf) (dJ<|KR hT (dJ<|oN hr) uU) hs) λD σ H O ρ E fk q=>by
 unfold YK at q;cases e0:ρ[i]? with
 |none=>rw[e0]at q;exact aAi q
 |some sl=>
  rw[e0]at q;cases sl with
  |o ds=>
   obtain⟨a,vs,h1,h2,h3,h4,h5⟩:=E.own i ds e0;refine⟨.ref a,h1,a,rfl,⟨vs,K4.of h4⟩,λk m ae H'=>m=ds.length-k/\k<=ds.length/\Same H H'/\∃ag,EnvOk X.K H9 O0 H' O ae ag/\RS X H9 O0 H' O (G6 (λd ρ=>.ok (ρ.set j<|.v d)) (jz fT fc) (ds.drop k) ag) D,⟨ds.length,by simp,aAV _,Same.refl _,ρ,E,by rw[aEQ];exact q⟩,?_⟩;rintro k m ae H' ⟨rfl,hk,s1,ag,E',q'⟩;have sq:K4 X.K H' a vs:=K4.of (s1 _ _ h4);have rs:=h5.same s1;by_cases ah:k<ds.length
   ·obtain⟨v,g1,g2⟩:=rs.get (aAf ah);refine .inr ⟨⟨vs,v,sq,g1⟩,λqe H2=>Same H H2/\∃ρ2,EnvOk X.K H9 O0 H2 O qe ρ2/\RS X H9 O0 H2 O (G6 (λd ρ=>.ok (ρ.set j<|.v d)) (jz fT fc) (ds.drop<|k+1) ρ2) D,λqe H2 p=>⟨ds.length-(k+1),by omega,rfl,ah,p⟩,λx2 H2 y2=>?_⟩;obtain⟨rfl,y3⟩:=y2;have:=y3 vs sq;rw[g1]at this;cases this;rw[aCQ ah,G6]at q';dsimp only at q';have E2:=E'.set j g2;refine⟨H9,O0,O,_,E2,?_⟩;unfold jz at q';cases e1:fT (ag.set j<|.v ds[k])with
    |ex x=>rw[e1]at q';exactλH3 s3=>q' H3 (E2.same.trans s3)
    |bad=>rw[e1]at q';exact(show False from q').elim
    |ok t=>
     rw[e1,R.aa0]at q';intro H3 s3;cases t with
     |true=>
      rw[if_pos rfl]at q'⊢;refine⟨H9,O0,O,_,E2.grow s3,?_⟩;cases e2:fc (ag.set j<|.v ds[k])with
      |ex x=>rw[e2]at q';exactλH4 s4=>q' H4 (E2.same.trans<|s3.trans s4)
      |bad=>rw[e2]at q';exact(show False from q').elim
      |ok d=>rw[e2]at q';exactλv H4 s4 r=>q' v H4 (E2.same.trans<|s3.trans s4) (r.sub E.sub)
     |false=>rw[if_neg aAH]at q'⊢;exact⟨s1.trans s3,_,E2.grow s3,RS.grow q' (Kp.of s3)⟩
   ·have e:k=ds.length:=by omega
    subst e;rw[aFp,G6]at q';exact .inl ⟨⟨vs,sq,by rw[rs.length];exact aAj _⟩,q' ae H' O E' fk (Kp.refl _ _)⟩
  |_=>exact aAi q
end DL
namespace DL
open PySem PySem.Spec L2
open PyProof.Rows hiding St
section
variable [Tabs]
end
end DL
namespace G
variable{pts qts:List V} {n:V} {d:Int} {m:Mv}
end G
namespace M
open PySem L2 DL
variable [Tabs]
def K9 {r:R Out}{ρ:Ev}{F:Ev->R (List D)}{x:R D}(h1:r=.ok (.nx ρ))(h2:mU (F ρ)=x):mU (DT r F)=x:=by rw[h1];exact h2
def mH {r:R Bool}{x:R D}{F G:R (List D)}(h1:r=.ok true)(h2:mU F=x):mU (r.bind λt=>if t=true then F else G)=x:=by rw[h1];exact h2
def uR {r:R Bool}{x:R D}{F G:R (List D)}(h1:r=.ok false)(h2:mU G=x):mU (r.bind λt=>if t=true then F else G)=x:=by rw[h1];exact h2
def LG {G:D->Ev->R Ev}{ft:Ev->R Bool}{fe:Ev->R D}{ρ:Ev}{L rs:List D}(hl:L.length<=sizeLine)(h:n6 G ft fe ρ L=.ok rs):(if L.length<=sizeLine then n6 G ft fe ρ L else R.bad)=.ok rs:=by rw[if_pos hl,h]
def DZ {a b:List D}(h:a.length+b.length<=sizeLine):RZ (.lst a) (.lst b)=.ok (a++b):=if_pos h
def ON {G:D->Ev->R Ev}{F:Ev->R Out}{F2:Ev->R (List D)}{ds:List D}{ρ:Ev}{d:D}(Iv:List D->Ev->Prop)(ht:∀d ds ρ,Iv (d::ds) ρ->∃ρ2,T9 G F d ρ=.ok (.nx ρ2)/\Iv ds ρ2)(h0:Iv ds ρ)(h2:∀ag,Iv [] ag->mU (F2 ag)=.ok d):mU (DT (G6 G F ds ρ) F2)=.ok d:=by obtain⟨ag,e,h⟩:=iV Iv ht h0;rw[e];exact h2 ag h
def B2 (a b:Int):Prop:=bits a<=1000/\bits b<=1000
def lU (A B C:G.V):Int:=(B.x-A.x)*(C.y-A.y)-(B.y-A.y)*(C.x-A.x)
def pK (A B C:G.V):Int:=(B.x-A.x)*(C.x-A.x)+(B.y-A.y)*(C.y-A.y)
def yW (A B:G.V):Int:=(B.x-A.x)*(B.x-A.x)+(B.y-A.y)*(B.y-A.y)
open Classical in
def aU:List D->R D
 |[p,.int a]=>match tV p with
  |some P=>if 0<=a/\a<=2 then .ok (j8 (bJ a P))else .bad
  |none=>.bad
 |_=>.bad
def OO {P:G.V}{a:Int}(h:0<=a/\a<=2):aU [vd P,.int a]=.ok (j8 (bJ a P)):=by simp only[aU,uC];exact if_pos h
open Classical in
def dF:List D->R D
 |[.tup [.int a,.int b],.tup [.int c,.int d],.tup [.int e,.int f]]=>if B2 a b/\B2 c d/\B2 e f then .ok (.int (lU ⟨a,b,0⟩ ⟨c,d,0⟩ ⟨e,f,0⟩))else .bad
 |_=>.bad
def xT {A B C:G.V}(hA:B2 A.x A.y)(hB:B2 B.x B.y)(hC:B2 C.x C.y):dF [j8 A,j8 B,j8 C]=.ok (.int (lU A B C)):=if_pos ⟨hA,hB,hC⟩
open Classical in
def gS:List D->R D
 |[.tup [.int a,.int b],.tup [.int c,.int d],.tup [.int e,.int f]]=>if B2 a b/\B2 c d/\B2 e f then .ok (.bl (decide (0<=pK ⟨a,b,0⟩ ⟨c,d,0⟩ ⟨e,f,0⟩)&&decide (pK ⟨a,b,0⟩ ⟨c,d,0⟩ ⟨e,f,0⟩<=yW ⟨a,b,0⟩ ⟨c,d,0⟩)))else .bad
 |_=>.bad
def LJ {A B C:G.V}(hA:B2 A.x A.y)(hB:B2 B.x B.y)(hC:B2 C.x C.y):gS [j8 A,j8 B,j8 C]=.ok (.bl (decide (0<=pK A B C)&&decide (pK A B C<=yW A B))):=if_pos ⟨hA,hB,hC⟩
def B2.sub {a b c d:Int}(h1:B2 a b)(h2:B2 c d):bits (c-a)<=1001/\bits (d-b)<=1001:=⟨bits_sub h2.1 h1.1,bits_sub h2.2 h1.2⟩
def AZ:List D->Option (List G.V)
 |[]=>some []
 |.tup [.int a,.int b]::r=>match AZ r with
  |some l=>some (⟨a,b,0⟩::l)
  |none=>none
 |_=>none
theorem oI:∀{l:List G.V},(∀v∈l,v.z=0)->AZ (l.map j8)=some l
 |[],_=>rfl
 |v::l,h=>by have ih:=oI (l:=l) λw hw=>h w (.tail _ hw);have z:=h v (.head _);obtain⟨a,b,c⟩:=v;cases z;rw[aAp];simp only[j8,AZ,ih];rfl
theorem jV:∀{ds:List D} {l:List G.V},AZ ds=some l->ds=l.map j8/\∀v∈l,v.z=0
 |[],l,h=>by cases h;exact⟨rfl,λv hv=>nomatch hv⟩
 |.tup [.int a,.int b]::r,l,h=>by
  simp only[AZ]at h;split at h
  ·rename_i l' e;cases h;obtain⟨e1,e2⟩:=jV e;refine⟨by rw[e1];rfl,λv hv=>?_⟩;rcases aAd.mp hv with rfl|hv
   ·rfl
   ·exact e2 v hv
  ·cases h
def KB {A B:G.V}(zA:A.z=0)(zB:B.z=0):u4 (j8 A) (j8 B)=decide (A=B):=by
 by_cases h:A=B
 ·subst h;rw[L9,decide_eq_true rfl]
 ·rw[decide_eq_false h];cases z:u4 (j8 A) (j8 B)with
  |false=>rfl
  |true=>have:=cU (by simp[j8,lY,P9]) (by simp[j8,lY,P9]) z;simp only[j8,D.tup.injEq,aEA,D.int.injEq,and_true]at this;exact absurd (G.ext this.1 this.2 (by rw[zA,zB])) h
def uO (A:G.V):C1 (j8 A)<=40:=by simp[j8,C1,D8]
def cw {A B:G.V}(zA:A.z=0)(zB:B.z=0):vV (j8 A) (j8 B)=.ok (.bl (!decide (A=B))):=by unfold vV;rw[if_pos ⟨uO A,uO B⟩,KB zA zB]
def TQ {A B:G.V}(zA:A.z=0)(zB:B.z=0):FE (j8 A) (j8 B)=.ok (.bl (decide (A=B))):=by unfold FE;rw[if_pos ⟨uO A,uO B⟩,KB zA zB]
def xL (S:List G.V)(A B:G.V):Prop:=A≠B/\∀C∈S,0<=lU A B C/\(lU A B C=0->0<=pK A B C/\pK A B C<=yW A B)
open Classical in
def mX (S:List G.V) (A B:G.V):Bool:=decide (xL S A B)
def cV {S:List G.V}{A B:G.V}:mX S A B=true↔xL S A B:=by classical exact decide_eq_true_iff (p:=xL S A B)
open Classical in
def eF:List D->R D
 |[.tup [.int a,.int b],.tup [.int c,.int d],.lst xs]=>match AZ xs with
  |some S=>if B2 a b/\B2 c d/\∀v∈S,B2 v.x v.y then .ok (.bl (mX S ⟨a,b,0⟩ ⟨c,d,0⟩))else .bad
  |none=>.bad
 |_=>.bad
def MA {S:List G.V}{A B:G.V}(zA:A.z=0)(zB:B.z=0)(hz:∀v∈S,v.z=0)(hA:B2 A.x A.y)(hB:B2 B.x B.y)(hS:∀v∈S,B2 v.x v.y):eF [j8 A,j8 B,.lst (S.map j8)]=.ok (.bl (mX S A B)):=by obtain⟨a,b,c⟩:=A;obtain⟨d,e,f⟩:=B;cases zA;cases zB;simp only[j8,eF];rw[oI hz];exact if_pos ⟨hA,hB,hS⟩
def FG {S:List G.V}(hz:∀v∈S,v.z=0){A B:G.V}(hA:A∈S)(hB:B∈S):xL S A B↔G.EdgeOf ⟨0,0,1⟩ (λX=>X∈S) A B:=by
 have zA:=hz A hA;have zB:=hz B hB;have dt:∀X:G.V,G.i6 ⟨0,0,1⟩ (B-A) (X-A)=lU A B X:=λX=>by simp[G.i6,G.e9,G.cr,lU];try grind
 have key:∀X∈S,A≠B->lU A B X=0->(G.UX A B X↔0<=pK A B X/\pK A B X<=yW A B):=λX hX ne t=>by
  have zX:=hz X hX;have un:B-A≠0:=λz=>ne (G.bB z).symm;have cz:G.cr (B-A) (X-A)=0:=by unfold lU at t;apply G.ext<;>simp[zA,zB,zX]<;>grind
  obtain⟨k,l,hk,e⟩:=G.A9 (a:=B-A) (w:=X-A) un cz;have wp:0<yW A B:=by
   have:=G.y7 un;have e2:G.e9 (B-A) (B-A)=yW A B:=by simp[G.e9,yW,zA,zB]
   lia
  have kd:k*pK A B X=l*yW A B:=by
   have q:=congrArg (G.e9<|B-A) e;rw[G.t5,G.t5]at q;have e1:G.e9 (B-A) (X-A)=pK A B X:=by simp[G.e9,pK,zA,zB,zX]
   have e2:G.e9 (B-A) (B-A)=yW A B:=by simp[G.e9,yW,zA,zB]
   rw[e1,e2]at q;exact q
  rw[G.RY hk e ne];constructor
  ·rintro⟨h1,h2⟩;constructor
   ·by_cases z:0<=pK A B X
    ·exact z
    ·have a:=aBw hk (show pK A B X<0 by lia);have b:=aDA h1 (aAS wp)
     lia
   ·by_cases z:pK A B X<=yW A B
    ·exact z
    ·have a:=aDv (show yW A B<pK A B X by lia) hk;have b:=aAT h2 (aAS wp)
     lia
  ·rintro⟨h1,h2⟩;constructor
   ·by_cases z:0<=l
    ·exact z
    ·have a:=Int.mul_neg_of_neg_of_pos (show l<0 by lia) wp;have b:=aDA (aAS hk) h1
     lia
   ·by_cases z:l<=k
    ·exact z
    ·have a:=Int.mul_lt_mul_of_pos_right (show k<l by lia) wp;have b:=aAG h2 (aAS hk)
     lia
 constructor
 ·rintro⟨ne,h⟩;exact⟨hA,hB,ne,λX hX=>by rw[dt];exact(h X hX).1,λX hX z=>by rw[dt]at z;exact(key X hX ne z).mpr ((h X hX).2 z)⟩
 ·intro E;exact⟨E.ne,λX hX=>⟨by rw[<-dt];exact E.left X hX,λz=>(key X hX E.ne z).mp (E.btw X hX (by rw[dt];exact z))⟩⟩
def XC (a:Int)(P:G.V):(bJ a P).z=0:=by
 unfold bJ
 repeat' split
 all_goals rfl
def uS {pts:List G.V}{a:Int}(h:G.l6 pts):G.Sheet ⟨0,0,1⟩ (i5 (pts.map (bJ a)))where
 nz:=λz=>by have:=congrArg G.V.z z;simp at this
 pl:=λX hX Y hY=>by obtain⟨P,_,rfl⟩:=aAm.mp (n4.mp hX);obtain⟨Q,_,rfl⟩:=aAm.mp (n4.mp hY);have h1:=XC a P;have h2:=XC a Q;simp[G.e9];lia
 ord:=E9 _
 two:=by
  obtain⟨A,hA,B,hB,C,hC,E,hE,e⟩:=h;have mem:∀{P:G.V},P∈pts->bJ a P∈i5 (pts.map<|bJ a):=λhP=>n4.mpr (aCE hP);by_cases q1:bJ a A=bJ a B
  ·by_cases q2:bJ a A=bJ a C
   ·refine absurd ?_ e;have g:∀{P Q:G.V},bJ a P=bJ a Q->(a=0/\P.y=Q.y/\P.z=Q.z)\/(a≠0/\a=1/\P.x=Q.x/\P.z=Q.z)\/(a≠0/\a≠1/\P.x=Q.x/\P.y=Q.y):=λ{P Q} z=>by
     unfold bJ at z;have x1:=congrArg G.V.x z;have y1:=congrArg G.V.y z;by_cases a0:a=0
     ·simp[a0]at x1 y1;exact .inl ⟨a0,x1,y1⟩
     ·by_cases a1:a=1
      ·simp[a1]at x1 y1;exact .inr (.inl ⟨a0,a1,x1,y1⟩)
      ·simp[a0,a1]at x1 y1;exact .inr (.inr ⟨a0,a1,x1,y1⟩)
    have w1:=g q1;have w2:=g q2;rcases w1 with⟨_,u1,u2⟩|⟨_,_,u1,u2⟩|⟨_,_,u1,u2⟩<;>rcases w2 with⟨_,v1,v2⟩|⟨_,_,v1,v2⟩|⟨_,_,v1,v2⟩<;>first|contradiction|(simp[G.i6,G.e9,G.cr,u1,u2,v1,v2];try grind)
   ·exact⟨_,mem hA,_,mem hC,q2⟩
  ·exact⟨_,mem hA,_,mem hB,q1⟩
def BB {S:List G.V}{p:G.V->Bool}{x:G.V}(nd:S.Nodup)(hx:x∈S)(hp:∀X∈S,p X=true↔X=x):S.filter p=[x]:=by
 induction S with
 |nil=>cases hx
 |cons y S ih=>
  obtain⟨n1,n2⟩:=aAJ.mp nd;rcases aAd.mp hx with rfl|hx'
  ·rw[aFm ((hp x<|.head _).mpr rfl)];congr 1;refine List.filter_eq_nil_iff.mpr λX hX z=>?_;have:=(hp X<|.tail _ hX).mp z;exact n1 (by rw[<-this];exact hX)
  ·have ne:¬p y=true:=λz=>n1 (by rw[(hp y<|.head _).mp z];exact hx');rw[aFl ne,ih n2 hx' λX hX=>hp X (.tail _ hX)]
def V5 (R:List G.V)(j:Nat):G.V:=(R.tail++R.take 1).getD j 0
def xH {R:List G.V}(nd:R.Nodup){j:Nat}(hj:j<R.length){X:G.V}:(R[j],X)∈G.T2 R↔X=V5 R j:=by
 have len:(R.tail++R.take 1).length=R.length:=by simp only[aAy,aFx,aBi];lia
 have e:V5 R j=(R.tail++R.take 1)[j]'(by rw[len];exact hj):=by unfold V5;rw[aAq,aAf (by rw[len];exact hj)];rfl
 unfold G.T2;constructor
 ·intro h;obtain⟨i,hi,q⟩:=aFR.mp h;rw[aFq]at q;injection q with q1 q2;have dn:i<R.length:=by rw[aFE]at hi;lia
  have:i=j:=(aFn nd).mp q1;subst this;rw[e,<-q2]
 ·rintro rfl;refine aFR.mpr ⟨j,by rw[aFE,len];lia,?_⟩;rw[aFq,e]
def JG {S:List G.V}(sh:G.Sheet ⟨0,0,1⟩ S)(hz:∀v∈S,v.z=0){j:Nat}(hj:j<(G.i8 ⟨0,0,1⟩ S).length):S.filter (mX S (G.i8 ⟨0,0,1⟩ S)[j])=[V5 (G.i8 ⟨0,0,1⟩ S) j]:=by
 have nd:S.Nodup:=sh.ord.imp λ{a b} q e=>by subst e;simp[G.d6]at q
 have hR:=sh.aa3;have hm:(G.i8 ⟨0,0,1⟩ S)[j]∈S:=sh.aa4 (aBO hj);have E:=sh.aa1.mp ((xH hR hj).mpr rfl);refine BB nd E.q λX hX=>?_;rw[cV,FG hz hm hX,<-sh.aa1,xH hR hj]
theorem wU {c:Ev->R Bool}{F:Ev->R Out}{d:D}(Iv:Nat->Ev->Prop)(N:Nat)(hc:∀ρ,c ρ=.ok true)(step:∀k ρ,k<N->Iv k ρ->∃ρ2,F ρ=.ok (.nx ρ2)/\Iv (k+1) ρ2)(last:∀ρ,Iv N ρ->F ρ=.ok (.rt d)):∀(n k:Nat) (ρ:Ev),Iv k ρ->k<=N->N-k<n->L7 c F n ρ=.ok (.rt d)
 |0,_,_,_,_,h=>absurd h (aEx _)
 |n+1,k,ρ,h,hk,hn=>by
  rw[L7,hc,R.aa0,if_pos rfl];by_cases e:k=N
  ·subst e;rw[last ρ h]
  ·obtain⟨ρ2,e2,h2⟩:=step k ρ (by lia) h;rw[e2];exact wU Iv N hc step last n (k+1) ρ2 h2 (by lia) (by lia)
open Classical in
def gN:List D->R D
 |[.lst xs]=>match AZ xs with
  |some S=>if G.Sheet ⟨0,0,1⟩ S/\(∀v∈S,B2 v.x v.y)/\S.length<=60 then .ok (.lst ((G.i8 ⟨0,0,1⟩ S).map j8))else .bad
  |none=>.bad
 |_=>.bad
def LA {S:List G.V}(sh:G.Sheet ⟨0,0,1⟩ S)(hz:∀v∈S,v.z=0)(hS:∀v∈S,B2 v.x v.y)(hl:S.length<=60):gN [.lst (S.map j8)]=.ok (.lst ((G.i8 ⟨0,0,1⟩ S).map j8)):=by simp only[gN];rw[oI hz];exact if_pos ⟨sh,hS,hl⟩
def VT {a b:G.V}(za:a.z=0)(zb:b.z=0):HT.lexLt (flat (j8 a)) (flat (j8 b))=true↔G.d6 (b-a):=by
 show HT.lexLt [a.x,a.y] [b.x,b.y]=true↔_;unfold G.d6;simp only[HT.lexLt,G.JY,G.ME,G.MT];by_cases h1:a.x=b.x
 ·by_cases h2:a.y=b.y
  ·simp[h1,h2,za,zb]
  ·simp[h1,h2,za,zb];try lia
 ·simp[h1];try lia
def LV {S:List G.V}(ho:S.Pairwise λa b=>G.d6 (b-a))(hz:∀v∈S,v.z=0):MR (S.map j8):=aBG.mpr (ho.imp_of_mem λ{a b} ha hb q=>(VT (hz a ha)<|hz b hb).mpr q)
def VI {S:List G.V}{m:G.V}(ho:S.Pairwise λa b=>G.d6 (b-a))(hz:∀v∈S,v.z=0)(hm:m∈S)(least:∀X∈S,X=m\/G.d6 (X-m)):CZ [.lst (S.map j8)]=.ok (j8 m):=by
 match S,hm with
 |s::t,hm=>
  have e:s=m:=by
   rcases least s (.head _)with z|z
   ·exact z
   ·rcases aAd.mp hm with w|w
    ·exact w.symm
    ·have q:=(aAw.mp ho).1 m w;exact(G.aY z (by rw[G.n9];exact q)).elim
  have al:((s::t).map j8).all Z4=true:=aBF.mpr λd hd=>by obtain⟨v,_,rfl⟩:=aAm.mp hd;rfl
  show(if(s::t).map j8≠[]/\((s::t).map j8).all Z4=true then _ else _)=_;rw[if_pos ⟨by simp,al⟩,DQ (LV ho hz) _ (by simp),e];rfl
end M
namespace SD
open PySem
section
variable{prog:Program} {w:World} {A:Around} {E:D2} {s:Shared} {d it:Addr} {es:Array DictEntry} {ep i:Nat}
end
section
variable{prog:Program} {w:World} {A:Around} {E:D2} {s:Shared} {d:Addr} {es:Array DictEntry} {ep:Nat}
end
end SD
namespace DL
open PySem L2
section
variable [Tabs]
end
end DL
namespace M
open PySem L2 DL
variable [Tabs]
def fd4 (f:G.V×Int):D:=vG f.1 f.2
def qZ (a n:Nat):List D:=(List.range' a n).map λ(k:Nat)=>D.int (k:Int)
def xj {a b:Nat}(ha:a<=1000000)(h:b<=1000000):gM [.int (a:Int),.int (b:Int)]=.ok (qZ a (b-a)):=by
 show(if oZ (a:Int) (b:Int) 1 then R.ok (tN a 1<|fG a b 1)else R.bad)=_;rw[if_pos ⟨by decide,by decide,by lia,by lia,by lia,by lia⟩];have e:fG (a:Int) (b:Int) 1=b-a:=by
  unfold fG;split
  ·simp
  ·lia
 rw[e];unfold tN qZ;rw[List.range'_eq_map_range,aBB];congr 1;refine aEB λk _=>?_;simp
def UG (kvs:List (D×D)):List D:=kvs.map (·.1)
def Cov (S:List G.V)(kvs:List (D×D))(i j k:Nat):Prop:=∀A B C,S[i]?=some A->S[j]?=some B->S[k]?=some C->(G.Up S A B C->fd4 (G.j0 A B C)∈UG kvs)/\(G.Dn S A B C->fd4 (G.j0 A C B)∈UG kvs)
def SV (S:List G.V)(kvs:List (D×D))(i j k:Nat):Prop:=∀i' j' k',i'<j'->j'<k'->(i'<i\/(i'=i/\(j'<j\/(j'=j/\k'<k))))->Cov S kvs i' j' k'
def bx {r:R Out}{ρ:Ev}{F:Ev->R Out}{x:R Out}(h1:r=.ok (.nx ρ))(h2:F ρ=x):z7 r F=x:=by rw[h1];exact h2
end M
namespace M
open PySem L2 DL
variable [Tabs]
def YQ {l:List G.V}(hz:∀v∈l,v.z=0)(h:(i5 l).length<=63):YG (.lst (l.map j8))=.ok ((i5 l).map j8):=by
 have pt:∀d∈l.map j8,Z4 d=true:=λd hd=>by obtain⟨v,_,rfl⟩:=aAm.mp hd;rfl
 have e:Y5 (l.map j8)=(i5 l).map j8:=iK (Y9 _) (LV (E9 l) λv hv=>hz v (n4.mp hv)) λd=>by rw[J6 pt,aAm,aAm];exact⟨λ⟨v,a,b⟩=>⟨v,n4.mpr a,b⟩,λ⟨v,a,b⟩=>⟨v,n4.mp a,b⟩⟩
 show(if _ then _ else _)=_;rw[if_pos ⟨aBF.mpr pt,by rw[e,aAh];exact h⟩,e]
theorem xW (m:G.V):∀(t:List G.V) (a:G.V),(aBT wJ (a::t) (t++[m])).sum+wJ m a=(aBT (lU m) (a::t) t).sum
 |[],a=>by simp[wJ];grind
 |b::t,a=>by
  have ih:=xW m t b;simp only[aAF,List.zipWith_cons_cons,aDc]at ih⊢;have:lU m a b=wJ a b+wJ m a-wJ m b:=by simp only[lU,wJ];grind
  lia
theorem GZ (m:G.V):∀t:List G.V,yB (m::t)=(aBT (lU m) t t.tail).sum
 |[]=>by simp[yB,wJ];grind
 |a::t=>by have:=xW m t a;show(wJ m a::aBT wJ (a::t) (t++[m])).sum=(aBT (lU m) (a::t) t).sum;rw[aDc];lia
def qx (m:G.V)(t:List G.V)(k:Nat):Int:=lU m (t.getD (k-1) 0) (t.getD k 0)
def KI (m:G.V)(t:List G.V):(List.range' 1 (t.length-1)).map (qx m t)=aBT (lU m) t t.tail:=by
 refine List.ext_getElem (by simp) λi h1 h2=>?_;have hi:i<t.length-1:=by simpa using h1
 rw[aDH,List.getElem_range',List.getElem_zipWith,List.getElem_tail];unfold qx;rw[show 1+1*i-1=i by lia,show 1+1*i=i+1 by lia,aAq,aAq,aAf (by lia),aAf (by lia)];rfl
def KH {S:List G.V}{i:Nat}{A:G.V}(h:S[i]?=some A):R1 (.lst (S.map j8)) (.int (i:Int))=.ok (j8 A):=bU (by rw[aT (by lia),aBS,aAK,h];rfl)
open Classical in
def gO:List D->R D
 |[.lst xs,.int a]=>match D7 xs with
  |some pts=>if(0<=a/\a<=2)/\Fw pts/\G.l6 pts then .ok (.bl true)else .bad
  |none=>.bad
 |_=>.bad
def OQ {pts:List G.V}{a:Int}(ha:0<=a/\a<=2)(hp:Fw pts)(hs:G.l6 pts):gO [.lst (pts.map vd),.int a]=.ok (.bl true):=by simp only[gO,t4];exact if_pos ⟨ha,hp,hs⟩
open Classical in
def gK:List D->R D
 |[.lst xs]=>if xs.length<=63/\jG 1048576 xs then .ok (.bl true)else .bad
 |_=>.bad
def ZU {α:Type}{r:R α}{x:α}{F:α->R Out}{F2:Ev->R Out}{d:D}(h1:r=.ok x)(h2:K3 (z7 (F x) F2)=.ok d):K3 (z7 (r.bind F) F2)=.ok d:=by rw[h1];exact h2
def YI {α:Type}{r:R α}{x:α}{F:α->R Out}{Post:Ev->Prop}(h1:r=.ok x)(h2:∃ρ2,F x=.ok (.nx ρ2)/\Post ρ2):∃ρ2,r.bind F=.ok (.nx ρ2)/\Post ρ2:=by rw[h1];exact h2
def bw {J:Ev->Prop}{G:D->Ev->R Ev}{F:Ev->R Out}{ds:List D}{ρ:Ev}(Iv:Ev->Prop)(ht:∀d∈ds,∀ρ,Iv ρ->∃ρ2,T9 G F d ρ=.ok (.nx ρ2)/\Iv ρ2)(h0:Iv ρ)(h2:∀ag,Iv ag->J ag):∃ρ2,G6 G F ds ρ=.ok (.nx ρ2)/\J ρ2:=
 let⟨ag,e,h⟩:=jB Iv ht h0
 ⟨ag,e,h2 ag h⟩
def YT {J:Ev->Prop}{r:R Out}{F:Ev->R Out}(I:Ev->Prop)(h1:∃ρ,r=.ok (.nx ρ)/\I ρ)(h2:∀ρ,I ρ->∃ρ2,F ρ=.ok (.nx ρ2)/\J ρ2):∃ρ2,z7 r F=.ok (.nx ρ2)/\J ρ2:=by obtain⟨ρ,e,i⟩:=h1;rw[e];exact h2 ρ i
theorem wO:∀l:List G.V,P9 (l.map vd)=true
 |[]=>rfl
 |_::l=>wO l
def pV (i:Int):G.V:=⟨i.fmod 11-5,(i.fdiv 11).fmod 11-5,(i.fdiv 121).fmod 11-5⟩
def Nr (l:List G.V)(n:Nat):Prop:=(∀P∈l,Sz 100 P)/\G.l6 l/\l.length+n<=13
def WN {l:List G.V}{n:Nat}(i:Int)(h:Nr l (n+1)):Nr (l++[pV i]) n:=by
 obtain⟨h1,h2,h3⟩:=h;have k:∀z:Int,bits (z.fmod 11-5)<=100:=λz=>f7 (bits_sub (n:=10) (A5 (by decide) (by decide)) (by decide));refine⟨λP hP=>?_,kD h2 λv hv=>aBg _ hv,by rw[aAy];simp;lia⟩;rcases aAI.mp hP with hP|hP
 ·exact h1 P hP
 ·rw[aAU.mp hP];exact⟨k _,k _,k _⟩
def QC {l:List G.V}{n:Nat}(a b:Int)(h:Nr l n):M6 [.lst ((l.map (bG a b)).map vd)]=.ok (.lst ((A1 (l.map (bG a b))).map vd))/\Fw (A1 (l.map (bG a b)))/\G.l6 (A1 (l.map (bG a b))):=by
 obtain⟨h1,h2,h3⟩:=h;have z:bH 900 (l.map<|bG a b):=⟨λP hP=>by obtain⟨Q,hQ,rfl⟩:=aAm.mp hP;exact VO a b (h1 Q hQ),by rw[aAh];lia⟩
 have s:=GA a b h2;have t:(i5<|l.map<|bG a b).length<=14:=aAu (pE _) (by rw[aAh];lia);obtain⟨b1,b2,_,b4,_⟩:=FD z s t;exact⟨SW z s t,⟨b2.1,by lia⟩,b1⟩
end M
namespace DL
open PySem PySem.Spec L2
open PyProof.Rows hiding St
variable [Tabs]
section
abbrev yX (X:Cx)(e:Expr)(es:List Expr):Prop:=starEach (e::es) X.env=(false,eval e X.env)::starEach es X.env
def p5 {i:Int}{j}:PB X (.Constant (.int i) j pos) (SG (.int i)):=c7.pb
def EG {e1:Expr}{f1:Ev->R D}(c:v6 X.prog X.w X.K X.mg X.base k x 1 m)(hr:Room k' X.A)(a1:PD X e1 f1)(hk:k<=k':=by decide)(s1:yX X e1 []:=by rfl)(hg:Gl X x:=by rfl)(gc:(x==("__debug__":Str))=false:=by decide)(bg:(backTo pos (starEach [] X.env)).any (·.1)=false:=by rfl):
 PD X (.Call (.Name x p) [e1] [] pos) (λρ=>((o7 f1 T4) ρ).bind m):=sJ c (hr.mono hk) (d9 a1 l3 s1) (t0 G8) hg gc s1 bg
def eJ {e1 e2:Expr}{f1 f2:Ev->R D}(c:v6 X.prog X.w X.K X.mg X.base k x 2 m)(hr:Room k' X.A)(a1:PD X e1 f1)(a2:PD X e2 f2)(hk:k<=k':=by decide)(s1:yX X e1 [e2]:=by rfl)(s2:yX X e2 []:=by rfl)(hg:Gl X x:=by rfl)(gc:(x==("__debug__":Str))=false:=by decide)(bg:(backTo pos (starEach [e2] X.env)).any (·.1)=false:=by rfl):
 PD X (.Call (.Name x p) [e1,e2] [] pos) (λρ=>((o7 f1 (o7 f2 T4)) ρ).bind m):=sJ c (hr.mono hk) (d9 a1 (d9 a2 l3 s2) s1) (t0<|t0 G8) hg gc s1 bg
def cq {e1 e2 e3:Expr}{f1 f2 f3:Ev->R D}(c:v6 X.prog X.w X.K X.mg X.base k x 3 m)(hr:Room k' X.A)(a1:PD X e1 f1)(a2:PD X e2 f2)(a3:PD X e3 f3)(hk:k<=k':=by decide)(s1:yX X e1 [e2,e3]:=by rfl)(s2:yX X e2 [e3]:=by rfl)(s3:yX X e3 []:=by rfl)(hg:Gl X x:=by rfl)(gc:(x==("__debug__":Str))=false:=by decide)(bg:(backTo pos (starEach [e2,e3] X.env)).any (·.1)=false:=by rfl):
 PD X (.Call (.Name x p) [e1,e2,e3] [] pos) (λρ=>((o7 f1 (o7 f2 (o7 f3 T4))) ρ).bind m):=sJ c (hr.mono hk) (d9 a1 (d9 a2 (d9 a3 l3 s3) s2) s1) (t0<|t0<|t0 G8) hg gc s1 bg
def pc4 {e1 e2 e3 e4:Expr}{f1 f2 f3 f4:Ev->R D}(c:v6 X.prog X.w X.K X.mg X.base k x 4 m)(hr:Room k' X.A)(a1:PD X e1 f1)(a2:PD X e2 f2)(a3:PD X e3 f3)(a4:PD X e4 f4)(hk:k<=k':=by decide)(s1:yX X e1 [e2,e3,e4]:=by rfl)(s2:yX X e2 [e3,e4]:=by rfl)(s3:yX X e3 [e4]:=by rfl)(s4:yX X e4 []:=by rfl)(hg:Gl X x:=by rfl)(gc:(x==("__debug__":Str))=false:=by decide)(bg:(backTo pos (starEach [e2,e3,e4] X.env)).any (·.1)=false:=by rfl):
 PD X (.Call (.Name x p) [e1,e2,e3,e4] [] pos) (λρ=>((o7 f1 (o7 f2 (o7 f3 (o7 f4 T4)))) ρ).bind m):=sJ c (hr.mono hk) (d9 a1 (d9 a2 (d9 a3 (d9 a4 l3 s4) s3) s2) s1) (t0<|t0<|t0<|t0 G8) hg gc s1 bg
def vF {e1 e2:Expr}{f1 f2:Ev->R D}{j}(a1:PD X e1 f1)(a2:PD X e2 f2)(s1:yX X e1 [e2]:=by rfl)(s2:yX X e2 []:=by rfl):PD X (.Tuple [e1,e2] j pos) (λρ=>((o7 f1 (o7 f2 T4)) ρ).bind jC):=pH (d9 a1 (d9 a2 l3 s2) s1)
def pA {e1 e2 e3:Expr}{f1 f2 f3:Ev->R D}{j}(a1:PD X e1 f1)(a2:PD X e2 f2)(a3:PD X e3 f3)(s1:yX X e1 [e2,e3]:=by rfl)(s2:yX X e2 [e3]:=by rfl)(s3:yX X e3 []:=by rfl):PD X (.Tuple [e1,e2,e3] j pos) (λρ=>((o7 f1 (o7 f2 (o7 f3 T4))) ρ).bind jC):=pH (d9 a1 (d9 a2 (d9 a3 l3 s3) s2) s1)
def IE {id:String}{g:List D->R D}{e:Expr}{f:Ev->R D}(hc:iB X (.builtin id) g)(a:PB X e f)(hg:Gl X x:=by rfl)(hm:X.mg x=none:=by assumption)(hv:bootBuiltins x=some (.builtin id):=by decide+kernel)(hn:x≠ "__name__":=by decide)(gc:(x==("__debug__":Str))=false:=by decide)(s1:yX X e []:=by rfl)(bg:(backTo pos (starEach [] X.env)).any (·.1)=false:=by rfl):
 PD X (.Call (.Name x p) [e] [] pos) (λρ=>(o7 f T4 ρ).bind g):=nA hc (F5 a S6 s1) hg hm hv hn gc s1 bg
def IC {fr:List Str}{scope:Scope}{tp:Pos}{elt:Expr}{fe:Ev->R D}(h:∀pins fp s0 H1 C,PD (BS X pins s0 H1 ([x]++fr) scope (aR X scope C) C fp) elt fe)(nd:([x]++fr).Nodup:=by decide+kernel)(hx:Loc (relabel scope X.env) x:=by first|exact aCh rfl|exact aBx rfl)(hf:(scope.names.lookup x==some .cell)=true\/(relabel scope X.env).names.lookup x=some .local:=by first|exact .inl rfl|exact .inr rfl):
  ∀(pins:M3) (fp:List Addr) (X':Cx),(∃s9 Ha C,X'=BS X pins s9 Ha ([x]++fr) scope (aR X scope C) C fp)->GI X' (.Name x tp) (λd ρ=>.ok (ρ.set 0 (.v d)))/\PK X' [] (λ_=>.ok true)/\PD X' elt fe:=by
 rintro pins fp X2 ⟨s0,H1,C,rfl⟩;exact⟨o9 0 nd rfl hx hf,ED,h pins fp s0 H1 C⟩
def uw {fr:List Str}{scope:Scope}{tp:Pos}{elt c:Expr}{fe:Ev->R D}{ft:Ev->R Bool}(h:∀pins fp s0 H1 C,vE (BS X pins s0 H1 ([x]++fr) scope (aR X scope C) C fp) c ft/\PD (BS X pins s0 H1 ([x]++fr) scope (aR X scope C) C fp) elt fe)(nd:([x]++fr).Nodup:=by decide+kernel)(hx:Loc (relabel scope X.env) x:=by first|exact aCh rfl|exact aBx rfl)(hf:(scope.names.lookup x==some .cell)=true\/(relabel scope X.env).names.lookup x=some .local:=by first|exact .inl rfl|exact .inr rfl):
  ∀(pins:M3) (fp:List Addr) (X':Cx),(∃s9 Ha C,X'=BS X pins s9 Ha ([x]++fr) scope (aR X scope C) C fp)->GI X' (.Name x tp) (λd ρ=>.ok (ρ.set 0 (.v d)))/\PK X' [c] ft/\PD X' elt fe:=by
 rintro pins fp X2 ⟨s0,H1,C,rfl⟩;exact⟨o9 0 nd rfl hx hf,PU (h pins fp s0 H1 C).1,(h pins fp s0 H1 C).2⟩
end
end DL
namespace K43
open PySem L2 DL M
def bY (i:Nat):Stmt:=PySem.Challenge.pw_stakebodies_k43_shadows_round.main.body.getD i (.Pass ⟨0,0,0,0⟩)
abbrev fN:Stmt:=bY 6
abbrev zC:List Str:=["thing"]
def vY:FnScope zC ["thing"] (c5 fN):=E8
abbrev W8:Stmt:=bY 7
abbrev pU:List Str:=["P", "Q"]
def oU:FnScope pU ["P", "Q"] (c5 W8):=E8
abbrev fE:Stmt:=bY 8
abbrev BO:List Str:=["u", "v"]
def xG:FnScope BO ["u", "v"] (c5 fE):=E8
abbrev aS:Stmt:=bY 9
abbrev uT:List Str:=["u", "v"]
def qG:FnScope uT ["u", "v"] (c5 aS):=E8
abbrev M8:Stmt:=bY 10
abbrev jO:List Str:=["numbers", "divisor", "number", "rest", "further"]
def iQ:FnScope jO ["numbers"] (c5 M8):=E8
abbrev Q0:Stmt:=bY 11
abbrev lR:List Str:=["P", "Q", "R", "cross", "divisor", "upright"]
def jD:FnScope lR ["P", "Q", "R"] (c5 Q0):=E8
abbrev kQ:Stmt:=bY 12
abbrev GH:List Str:=["plane", "P", "height"]
def AJ:FnScope GH ["plane", "P"] (c5 kQ):=E8
abbrev M5:Stmt:=bY 15
abbrev kE:List Str:=["ways", "way"]
def iO:FnScope kE ["ways"] (c5 M5):=E8
abbrev A3:Stmt:=bY 16
abbrev L8:List Str:=["points", "ways", "along", "upright"]
def lP:FnScope L8 ["points"] (c5 A3):=E8
abbrev X3:Stmt:=bY 17
abbrev qH:List Str:=["points"]
def oJ:FnScope qH ["points"] (c5 X3):=E8
abbrev W4:Stmt:=bY 18
abbrev lI:List Str:=["plane", "points"]
def uP:FnScope lI ["plane", "points"] (c5 W4):=E8
abbrev X6:Stmt:=bY 19
abbrev qD:List Str:=["pair", "points", "along", "upright", "outermost", "P", "way"]
def nK:FnScope qD ["pair", "points"] (c5 X6):=E8
abbrev aZ:Stmt:=bY 20
abbrev vC:List Str:=["points", "least", "upward", "touched"]
def qC:FnScope vC ["points"] (c5 aZ):=E8
abbrev jS:Stmt:=bY 21
abbrev GO:List Str:=["upright", "P", "Q", "R"]
def AF:FnScope GO ["upright", "P", "Q", "R"] (c5 jS):=E8
abbrev aI:Stmt:=bY 22
abbrev tQ:List Str:=["upright", "points", "chain", "P"]
def qE:FnScope tQ ["upright", "points"] (c5 aI):=E8
abbrev jR:Stmt:=bY 23
abbrev HC:List Str:=["upright", "points", "there", "back"]
def BQ:FnScope HC ["upright", "points"] (c5 jR):=E8
abbrev X0:Stmt:=bY 24
abbrev qF:List Str:=["ring"]
def nB:FnScope qF ["ring"] (c5 X0):=E8
abbrev aF:Stmt:=bY 25
abbrev tE:List Str:=["first", "about", "touched_by", "faces", "walked", "waiting", "pair", "plane", "ring", "step"]
def fB:FnScope tE ["first", "about", "touched_by"] (c5 aF):=E8
abbrev J1:Stmt:=bY 26
abbrev fO:List Str:=["points", "spread", "about", "touched_by"]
def lK:FnScope fO ["points"] (c5 J1):=E8
abbrev bD:Stmt:=bY 27
abbrev sH:List Str:=["faces", "corners", "plane", "ring"]
def qB:FnScope sH ["faces"] (c5 bD):=E8
abbrev kH:Stmt:=bY 28
abbrev GE:List Str:=["points"]
def BL:FnScope GE ["points"] (c5 kH):=E8
abbrev kJ:Stmt:=bY 31
abbrev HM:List Str:=["thing"]
def AC:FnScope HM ["thing"] (c5 kJ):=E8
abbrev P6:Stmt:=bY 32
abbrev bS:List Str:=["land", "axis", "flat"]
def uG:FnScope bS ["land", "axis"] (c5 P6):=E8
abbrev N2:Stmt:=bY 33
abbrev eV:List Str:=["land", "axis"]
def nJ:FnScope eV ["land", "axis"] (c5 N2):=E8
abbrev U5:Stmt:=bY 35
abbrev nP:List Str:=["script", "k"]
def lN:FnScope nP ["script", "k"] (c5 U5):=E8
abbrev bA:Stmt:=bY 36
abbrev sW:List Str:=["cell", "most", "x", "y"]
def pS:FnScope sW ["cell"] (c5 bA):=E8
abbrev D9:Stmt:=bY 37
abbrev N8:List Str:=["script", "cell", "a", "b", "c", "kind", "some"]
def uH:FnScope N8 ["script"] (c5 D9):=E8
abbrev aN:Stmt:=bY 38
abbrev uA:List Str:=["spot", "script", "x", "y", "z", "cell", "most", "far"]
def pM:FnScope uA ["spot", "script"] (c5 aN):=E8
abbrev bW:Stmt:=bY 39
abbrev xR:List Str:=["P", "axis"]
def rY:FnScope xR ["P", "axis"] (c5 bW):=E8
abbrev bQ:Stmt:=bY 40
abbrev vO:List Str:=["one", "two", "three", "found"]
def uD:FnScope vO ["one", "two", "three"] (c5 bQ):=E8
abbrev V3:Stmt:=bY 41
abbrev mV:List Str:=["one", "two", "three", "down", "whole"]
def lT:FnScope mV ["one", "two", "three"] (c5 V3):=E8
abbrev V0:Stmt:=bY 42
abbrev oW:List Str:=["one", "two", "spots", "three", "turn"]
def lZ:FnScope oW ["one", "two", "spots"] (c5 V0):=E8
abbrev W3:Stmt:=bY 43
abbrev kX:List Str:=["spots", "found", "some"]
def tO:FnScope kX ["spots"] (c5 W3):=E8
abbrev J9:Stmt:=bY 44
abbrev W7:List Str:=["land", "axis", "spots", "due", "handed", "found", "spot", "area"]
def uB:FnScope W7 ["land", "axis"] (c5 J9):=E8
abbrev eZ:Stmt:=bY 45
abbrev UF:List Str:=["script", "near", "cell", "land", "axis"]
def MK:FnScope UF ["script"] (c5 eZ):=E8
def cF:Stmt:=(o6 J1).getD 2 (.Pass ⟨0,0,0,0⟩)
abbrev CS:Str:= "faces_of.<locals>.about"
def I0:Stmt:=(o6 J1).getD 3 (.Pass ⟨0,0,0,0⟩)
abbrev iM:Str:= "faces_of.<locals>.touched_by"
def tbK:List (Pos×Str):=[(CO cF,CS),(CO I0,iM)]
section
variable [Tabs]
variable{P:Program} {w:World} {K:PySem.W.Frag} {mg:bK} {base:Heap}
variable{ja xb ke nv:Addr}
def gA (bp:mg "isinstance"=none)(mn:mg "bool"=none)(qp:mg "int"=none)(g:bI K mg "is_whole" fN):v6 P w K mg base 1 "is_whole" 1 W5:=by
 refine' m5 (k:=0) (F:=_) g vY (λhr hu cu nd=>?b) λds d hl h=>?_
 case b=>refine' (c9<|i7<|zM (cH tM<|b8 0)<|AN<|VW<|cH oM<|b8 0)
 match ds,h with
 |[x],h=>rw[<-h];cases x<;>rfl
def n8 (g:bI K mg "way_between" W8):v6 P w K mg base 1 "way_between" 2 u6:=by
 refine' m5 (k:=0) (F:=_) g oU (λhr hu cu nd=>?b) λds d hl h=>?_
 case b=>refine' (c9<|i7<|pA (b9 l9 (PD.pb<|f9 (b8 1) c7)<|PD.pb<|f9 (b8 0) c7) (b9 l9 (PD.pb<|f9 (b8 1) c7)<|PD.pb<|f9 (b8 0) c7)<|b9 l9 (PD.pb<|f9 (b8 1) c7)<|PD.pb<|f9 (b8 0) c7)
 replace h:=O7 h;obtain⟨a,b,c,ds,rfl,h⟩:=h;replace h:=O7 h;obtain⟨a',b',c',ds,rfl,h⟩:=h;replace h:=T6 h;obtain⟨rfl,h⟩:=h;exact h
def C0 (g:bI K mg "cross_of" fE):v6 P w K mg base 1 "cross_of" 2 B6:=by
 refine' m5 (k:=0) (F:=_) g xG (λhr hu cu nd=>?b) λds d hl h=>?_
 case b=>refine' (c9<|i7<|pA (b9 l9 (PD.pb<|b9 j6 (PD.pb<|f9 (b8 0) c7)<|PD.pb<|f9 (b8 1) c7)<|PD.pb<|b9 j6 (PD.pb<|f9 (b8 0) c7)<|PD.pb<|f9 (b8 1) c7) (b9 l9 (PD.pb<|b9 j6 (PD.pb<|f9 (b8 0) c7)<|PD.pb<|f9 (b8 1) c7)<|PD.pb<|b9 j6 (PD.pb<|f9 (b8 0) c7)<|PD.pb<|f9 (b8 1) c7)<|b9 l9 (PD.pb<|b9 j6 (PD.pb<|f9 (b8 0) c7)<|PD.pb<|f9 (b8 1) c7)<|PD.pb<|b9 j6 (PD.pb<|f9 (b8 0) c7)<|PD.pb<|f9 (b8 1) c7)
 replace h:=O7 h;obtain⟨a,b,c,ds,rfl,h⟩:=h;replace h:=O7 h;obtain⟨a',b',c',ds,rfl,h⟩:=h;replace h:=T6 h;obtain⟨rfl,h⟩:=h;split at h
 ·rename_i hz;obtain⟨⟨h1,h2,h3⟩,h4,h5,h6⟩:=hz;rw[<-h];simp[j1,l5 (x6.of h2 h6),l5 (x6.of h3 h5),l5 (x6.of h3 h4),l5 (x6.of h1 h6),l5 (x6.of h1 h5),l5 (x6.of h2 h4)]
 ·cases h
def w4 (g:bI K mg "product_of" aS):v6 P w K mg base 1 "product_of" 2 u5:=by
 refine' m5 (k:=0) (F:=_) g qG (λhr hu cu nd=>?b) λds d hl h=>?_
 case b=>refine' (c9<|i7<|b9 l7 (PD.pb<|b9 l7 (PD.pb<|b9 j6 (PD.pb<|f9 (b8 0) c7)<|PD.pb<|f9 (b8 1) c7)<|PD.pb<|b9 j6 (PD.pb<|f9 (b8 0) c7)<|PD.pb<|f9 (b8 1) c7)<|PD.pb<|b9 j6 (PD.pb<|f9 (b8 0) c7)<|PD.pb<|f9 (b8 1) c7)
 replace h:=YW h;obtain⟨a,b,c,t,ds,rfl,h⟩:=h;replace h:=O7 h;obtain⟨a',b',c',ds,rfl,h⟩:=h;replace h:=T6 h;obtain⟨rfl,h⟩:=h;split at h
 ·rename_i hz;obtain⟨⟨h1,h2,h3⟩,h4,h5,h6⟩:=hz;rw[<-h];simp[j1,ZE,bq,cy,l5 (x6.of h1 h4),l5 (x6.of h2 h5),l5 (x6.of h3 h6)]
 ·cases h
def M7 (b_abs:mg "abs"=none)(g:bI K mg "common_divisor" M8):v6 P w K mg base 1 "common_divisor" 1 A2:=by
 refine' m5 (k:=0) (F:=_) g iQ (λhr hu cu nd=>?b) λds d hl h=>?_
 case b=>
  refine' (c6 (i4 1 c7 nd)
   (c6 (N3 aBe rfl (DV<|c8 0) (o9 2 nd) (c6 (i4 3 (IE XQ<|b8 2) nd)
   (c9 (cS (fx 3) aBe (j2 (cA hu) (b8 3) p5) (c6 (i4 4 (b9 t8 (b8 1)<|b8 3) nd)
   (c6 (i4 1 (c8 3) nd)
   (c9<|i4 3 (c8 4) nd)))))))
   (c9<|i7<|c8 1)))
 match ds,h with
 |[.tup [.int a,.int b,.int c]],h=>
  rw[<-h];simp only[j1,aAp,aCn,aAF,aBC,A2];simp only[D6,N1,R.aa0,HD,B1,aAs,aAR,aCL,aCM,aBD,aBE,aBI,aBJ];refine gI (λrest ρ=>∃(g:Nat) (n r f:Sl),ρ=[.v (.tup [.int a,.int b,.int c]),.v (.int g),n,r,f]/\∃ns:List Int,rest=ns.map D.int/\ns.foldl (λg n=>Nat.gcd g n.natAbs) g=G.v7 ⟨a,b,c⟩) ?_ ⟨0,_,_,_,rfl,[a,b,c],rfl,by simp[G.v7]⟩ ?_
  ·rintro d ds ρ ⟨g,n,r,f,rfl,ns,e1,e2⟩;match ns,e1,e2 with
   |x::ns,e1,e2=>
    injection e1 with e3 e4;subst e3 e4;simp only[T5,aBI,aBJ,t7,w5,L6,Q9,R.aa0,XR,B1];have ea:(if x<0 then-x else x)=(x.natAbs:Int):=by split<;>lia
    rw[ea];refine vN (λm ρ=>∃(p q:Nat) (f:Sl),ρ=[.v (.tup [.int a,.int b,.int c]),.v (.int p),.v (.int x),.v (.int q),f]/\q<m/\Nat.gcd p q=Nat.gcd g x.natAbs) ?_ (by rintro ρ ⟨p,q,f,_,h,_⟩;lia) ⟨g,x.natAbs,f,rfl,by show x.natAbs<((x.natAbs:Int).natAbs)+2;lia,rfl⟩ ?_
    ·rintro m ρ ⟨p,q,f,rfl,hq,hg⟩;by_cases h0:(q:Int)=0
     ·exact .inl (by simp[h0])
     ·have h1:q≠0:=by lia
      refine .inr ⟨by simp[h1],_,?_,q,p%q,Sl.v (.int ((p%q:Nat):Int)),rfl,?_,?_⟩
      ·have em:oO (.int (p:Int)) (.int (q:Int))=.ok (.int ((p%q:Nat):Int)):=by rw[yG h0,Int.fmod_eq_emod_of_nonneg _ (by lia)];rfl
       simp[em]
      ·have:=aFc p (show 0<q by lia)
       lia
      ·rw[Nat.gcd_comm,<-Nat.gcd_rec,Nat.gcd_comm];exact hg
    ·rintro m ρ ⟨p,q,f,rfl,hq,hg⟩ hc;have h0:q=0:=by
      by_cases z:q=0
      ·exact z
      ·simp[z]at hc
     subst h0;refine⟨p,_,_,_,rfl,ns,rfl,?_⟩;rw[<-e2,aFG,<-hg,Nat.gcd_zero_right]
  ·rintro ρ ⟨g,n,r,f,rfl,ns,e1,e2⟩;have:ns=[]:=by simpa using e1.symm
   subst this;simp at e2;simp[e2]
def Q6 (C0:v6 P w K mg base 1 "cross_of" 2 B6)(n8:v6 P w K mg base 1 "way_between" 2 u6)(M7:v6 P w K mg base 1 "common_divisor" 1 A2)(w4:v6 P w K mg base 1 "product_of" 2 u5)(g:bI K mg "plane_through" Q0):v6 P w K mg base 2 "plane_through" 3 Q7:=by
 refine' m5 (k:=1) (F:=_) g jD (λhr hu cu nd=>?b) λds d hl h=>?_
 case b=>
  refine' (c6 (i4 3 (eJ C0 hr (eJ n8 hr (c8 0)<|c8 1)<|eJ n8 hr (c8 0)<|c8 2) nd)
   (c6 (i4 4 (EG M7 hr<|c8 3) nd)
   (c6 (w6 (j2 (O5 hu) (b8 4) p5) (c9 dE) m6)
   (c6 (i4 5 (pA (b9 w8 (PD.pb<|f9 (b8 3) c7)<|b8 4) (b9 w8 (PD.pb<|f9 (b8 3) c7)<|b8 4)<|b9 w8 (PD.pb<|f9 (b8 3) c7)<|b8 4) nd)
   (c9<|i7<|pH<|d9 (f9 (b8 5) c7)<|d9 (f9 (b8 5) c7)<|d9 (f9 (b8 5) c7)<|d9 (eJ w4 hr (c8 5)<|c8 0) l3)))))
 replace h:=O7 h;obtain⟨a,b,c,ds,rfl,h⟩:=h;replace h:=O7 h;obtain⟨d,e,f,ds,rfl,h⟩:=h;replace h:=O7 h;obtain⟨g,h',i,ds,rfl,h⟩:=h;replace h:=T6 h;obtain⟨rfl,h⟩:=h
 ·skip
  split at h
  ·rename_i hz;obtain⟨⟨p,q,r⟩,hc⟩:=hz;rw[<-h];obtain⟨P,eP⟩:∃P:G.V,P=⟨a,b,c⟩:=⟨_,rfl⟩;obtain⟨Q,eQ⟩:∃P:G.V,P=⟨d,e,f⟩:=⟨_,rfl⟩;obtain⟨R',eR⟩:∃P:G.V,P=⟨g,h',i⟩:=⟨_,rfl⟩;rw[<-eP]at p hc;rw[<-eQ]at q hc;rw[<-eR]at r hc;have vP:(.tup [.int a,.int b,.int c]:D)=vd P:=by rw[eP]
   have vQ:(.tup [.int d,.int e,.int f]:D)=vd Q:=by rw[eQ]
   have vR:(.tup [.int g,.int h',.int i]:D)=vd R':=by rw[eR]
   rw[vP,vQ,vR,<-eP,<-eQ,<-eR];have sc:=(q.sub p).cr (r.sub p);have c1:=gZ (u:=Q-P) (v:=R'-P) (q.sub p).mono (r.sub p).mono;obtain⟨g0,g1,g2⟩:=G.iY hc;have gne:((G.v7 (G.cr (Q-P)<|R'-P):Nat):Int)≠0:=by lia
   have gb:wG ((G.v7 (G.cr (Q-P)<|R'-P):Nat):Int):=⟨gne,f7 (GR sc)⟩;have dv:=BI (G.cr (Q-P)<|R'-P);have pl:G.j0 P Q R'=(G.kF (G.cr (Q-P)<|R'-P) (G.v7<|G.cr (Q-P)<|R'-P),G.e9 (G.kF (G.cr (Q-P)<|R'-P)<|G.v7<|G.cr (Q-P)<|R'-P) P):=rfl;rw[pl];generalize hC:G.cr (Q-P) (R'-P)=C at*
   have sn:Sz 2003 (G.kF C<|G.v7 C):=by have f1:=bits_fdiv (b:=(G.v7 C:Int)) sc.1;have f2:=bits_fdiv (b:=(G.v7 C:Int)) sc.2.1;have f3:=bits_fdiv (b:=(G.v7 C:Int)) sc.2.2;rw[oC g0]at f1 f2 f3;exact⟨f1,f2,f3⟩
   have d1:∀t:Int,U6 (.int t) (.int (G.v7 C:Nat))=.ok (.int (t/(G.v7 C:Nat))):=λt=>by rw[qX gb,oC g0]
   have p2:=mK (u:=G.kF C (G.v7 C)) (v:=P) sn.mono p.mono;have e0:(((G.v7 C:Nat):Int)==0)=false:=by simpa using gne
   simp only[G.kF]at p2;have p2':u5 [.tup [.int (C.x/(G.v7 C:Nat)),.int (C.y/(G.v7 C:Nat)),.int (C.z/(G.v7 C:Nat))],vd P]=_:=p2;simp[j1,c1,dv,e0,d1,p2',G.kF]
  ·cases h
def jI (g:bI K mg "side_of" kQ):v6 P w K mg base 1 "side_of" 2 Z0:=by
 refine' m5 (k:=0) (F:=_) g AJ (λhr hu cu nd=>?b) λds d hl h=>?_
 case b=>
  refine' (c6 (i4 2 (b9 l9 (PD.pb<|b9 l7 (PD.pb<|b9 l7 (PD.pb<|b9 j6 (PD.pb<|f9 (b8 0) c7)<|PD.pb<|f9 (b8 1) c7)<|PD.pb<|b9 j6 (PD.pb<|f9 (b8 0) c7)<|PD.pb<|f9 (b8 1) c7)<|PD.pb<|b9 j6 (PD.pb<|f9 (b8 0) c7)<|PD.pb<|f9 (b8 1) c7)<|PD.pb<|f9 (b8 0) c7) nd)
   (c6 (w6 (j2 yA (b8 2) p5) (c9<|i7 c7) m6)
   (c6 (w6 (j2 DP (b8 2) p5) (c9<|i7<|jF c7) m6)
   (c9<|i7 c7))))
 replace h:=TW h;obtain⟨a,b,c,d,ds,rfl,h⟩:=h;replace h:=O7 h;obtain⟨x,y,z,ds,rfl,h⟩:=h;replace h:=T6 h;obtain⟨rfl,h⟩:=h
 ·skip
  split at h
  ·rename_i hz;obtain⟨⟨h1,h2,h3⟩,h4,h5,h6⟩:=hz;rw[<-h];obtain⟨t,et⟩:∃t,a*x+b*y+c*z-d=t:=⟨_,rfl⟩;have e0:AW (.int (a*x+b*y+c*z)) (.int d)=.ok (.int t):=by rw[<-et];rfl
   rw[et];unfold sgn;by_cases p:0<t
   ·simp[-sK,j1,l5 (x6.of h1 h4),l5 (x6.of h2 h5),l5 (x6.of h3 h6),p,e0]
   ·by_cases n:t<0
    ·simp[-sK,j1,l5 (x6.of h1 h4),l5 (x6.of h2 h5),l5 (x6.of h3 h6),p,n,e0]
    ·simp[-sK,j1,l5 (x6.of h1 h4),l5 (x6.of h2 h5),l5 (x6.of h3 h6),p,n,e0]
  ·cases h
def F8 (bu:BP K mg "NO_WAY" [0,0,0])(g:bI K mg "first_real_way" M5):v6 P w K mg base 1 "first_real_way" 1 x4:=by
 refine' m5 (k:=0) (F:=_) g iO (λhr hu cu nd=>?b) λds d hl h=>?_
 case b=>
  refine' (c6 (N3 aBe rfl (q9<|c8 0) (o9 1 nd)<|c9<|w6 (j2 (cA hu) (b8 1)<|PD.pb<|mF bu) (c9<|i7<|c8 1) m6)
   (c9<|i7 BG))
 match ds,h with
 |[.lst xs],h=>
  simp only[x4]at h;split at h
  ·rename_i ws hw;rw[m9 hw];rw[<-h];simp[j1];generalize Sl.v (D.lst<|aDi vd ws)=a;generalize Sl.no=b;clear h hw;induction ws generalizing b with
   |nil=>rfl
   |cons v ws ih=>
    rw[aAp,G.y6];by_cases hv:v=0
    ·rw[R5 (ρ2:=[a,.v (vd v)]) rfl (by simp[-zP,yy,hv]),ih];simp[hv]
    ·rw[iP (x:=vd v) rfl (by simp[-zP,yy,hv])];simp[hv,zQ]
  ·cases h
def F3 (n8:v6 P w K mg base 1 "way_between" 2 u6)(F8:v6 P w K mg base 1 "first_real_way" 1 x4)(C0:v6 P w K mg base 1 "cross_of" 2 B6)(w4:v6 P w K mg base 1 "product_of" 2 u5)(dg:mg "len"=none)(b_any:mg "any"=none)(g:bI K mg "dimension_of" A3):v6 P w K mg base 2 "dimension_of" 1 A7:=by
 refine' m5 (k:=1) (F:=_) g lP (λhr hu cu nd=>?b) λds d hl h=>?_
 case b=>
  refine' (c6 (w6 (j2 (O5 hu) (PD.pb<|IE cG<|b8 0) p5) (c9 dE) m6)
   (c6 (xX 1 ["P"] ["points"] [0] nd rfl (G2 (sc:=c5 A3) (N:=L8)) (q9<|c8 0) (IC λ_ _ _ _ _=>(eJ n8 hr (f9 (b8 1) c7)<|c8 0))<|λ_=>p9)
   (c6 (i4 2 (EG F8 hr<|c8 1) nd)
   (c6 (w6 (j2 NE (b8 2)<|PD.pb BG) (c9<|i7 c7) m6)
   (c6 (i4 3 (EG F8 hr<|K5 ["way"] ["along"] [2] rfl (G2 (sc:=c5 A3) (N:=L8)) (q9<|c8 1) (IC λ_ _ _ _ _=>(eJ C0 hr (c8 1)<|c8 0))<|λ_=>p9) nd)
   (c6 (w6 (j2 NE (b8 3)<|PD.pb BG) (c9<|i7 c7) m6)
   (c6 (w6 (J0<|IE (WH rfl)<|PD.pb<|K5 ["way"] ["upright"] [3] rfl (G2 (sc:=c5 A3) (N:=L8)) (q9<|c8 1) (IC λ_ _ _ _ _=>(nE (cA hu) (PD.pb<|eJ w4 hr (c8 1)<|c8 0) p5))<|λ_=>p9) (c9<|i7 c7) m6)
   (c9<|i7 c7))))))))
 match ds,h with
 |[.lst xs],h=>
  simp only[A7]at h;split at h
  ·rename_i pts hw;rw[m9 hw];split at h
   ·rename_i hz;rw[<-h];obtain⟨ai,hs⟩:=hz;match pts,ai with
    |p::ps,_=>
    obtain⟨ri,hxs⟩:∃ri,(p::ps).map vd=ri:=⟨_,rfl⟩;have i0:R1 (.lst ri) (.int 0)=.ok (vd p):=bU (by rw[aT (by decide),<-hxs];rfl);have c1:n6 (λd ρ=>R.ok (aDj ρ 0<|Sl.v d)) (λx=>R.ok true) (λρ=>(((vH 1 ρ).bind λx=>R1 x (D.int 0)).bind λd=>((aD 0 ρ).bind λd=>R.ok [d]).bind λds=>R.ok (d::ds)).bind u6) [.no,.v (.lst ri)] ri=.ok (((p::ps).map (· -p)).map vd):=by rw[aBB];rw[show n6 _ _ _ _ ri=n6 _ _ _ _ ((p::ps).map vd)by rw[hxs]];refine J8 vd _ _ λq hq=>⟨[.v (vd q),Sl.v (.lst ri)],rfl,?_⟩;show((R1 (.lst ri)<|.int 0).bind _).bind _=_;rw[i0];rfl
    have hw:∀w∈(p::ps).map (· -p),Sz 1001 w:=λw hw=>by obtain⟨q,hq,rfl⟩:=aAm.mp hw;exact(hs.1 q hq).sub (hs.1 p (.head _))
    have rf:(((p::ps).map (· -p)).map vd).length<=sizeLine:=by rw[aAh,aAh];exact small hs.2
    have bg:ri.length<=sizeLine:=by rw[<-hxs,aAh];exact small hs.2
    have hl0:((ri.length:Int)==0)=false:=by rw[<-hxs];simp;lia
    have f1:=BD ((p::ps).map (· -p));unfold G.S4;dsimp only;rw[hxs];generalize(p::ps).map (· -p)=W at*
    have f2:=λu=>BD (W.map<|G.cr u);cases ha:G.y6 W with
    |none=>rw[ha]at f1;simp[j1,f6,bg,hl0,c1,f1,zQ,LO]
    |some al=>
     rw[ha]at f1;obtain⟨hm,_⟩:=G.t6 ha;have sal:=hw al hm;have c2:n6 (λd ρ=>R.ok (aDj ρ 0<|Sl.v d)) (λx=>R.ok true) (λρ=>((aD 1 ρ).bind λd=>((aD 0 ρ).bind λd=>R.ok [d]).bind λds=>R.ok (d::ds)).bind B6) [.no,.v (vd al)] (W.map vd)=.ok ((W.map<|G.cr al).map vd):=by rw[aBB];refine J8 vd _ _ λq hq=>⟨[.v (vd q),Sl.v (vd al)],rfl,?_⟩;show B6 [vd al,vd q]=_;exact gZ sal.mono (hw q hq).mono
     have f2:=BD (W.map<|G.cr al);have eW:(W.map vd).length=W.length:=aAh ..;rw[eW]at rf;cases hb:G.y6 (W.map<|G.cr al)with
     |none=>rw[hb]at f2;simp only[aBB]at c2 f2;simp only[hb];simp[j1,f6,bg,hl0,c1,f1,zQ,LO,rf,c2,f2]
     |some up=>
      rw[hb]at f2;obtain⟨ji,_⟩:=G.t6 hb;have sup:Sz 2003 up:=by obtain⟨q,hq,rfl⟩:=aAm.mp ji;exact(sal.cr<|hw q hq).mono
      have c3:n6 (λd ρ=>R.ok (aDj ρ 0<|Sl.v d)) (λx=>R.ok true) (λρ=>(((aD 1 ρ).bind λd=>((aD 0 ρ).bind λd=>R.ok [d]).bind λds=>R.ok (d::ds)).bind u5).bind λx=>vV x (D.int 0)) [.no,.v (vd up)] (W.map vd)=.ok ((W.map λw=>decide (G.e9 up w≠0)).map D.bl):=by rw[aBB];refine J8 vd _ _ λq hq=>⟨[.v (vd q),Sl.v (vd up)],rfl,?_⟩;show(u5 [vd up,vd q]).bind _=_;rw[mK sup.mono (hw q hq).mono,R.aa0,WL];congr 2;rw[aDN];simp
      have f3:=UW (W.map λw=>decide (G.e9 up w≠0));have ean:(W.map λw=>decide (G.e9 up w≠0)).any id=W.any λw=>decide (G.e9 up w≠0):=by rw[List.any_map];rfl
      rw[ean]at f3;simp only[aBB]at c2 f2 c3 f3;simp only[hb];generalize(λw=>decide (G.e9 up w≠0))=Bf at*
      cases hc:W.any Bf with
      |false=>rw[hc]at f3;simp[j1,f6,bg,hl0,c1,f1,zQ,LO,rf,c2,f2,c3,f3]
      |true=>rw[hc]at f3;simp[j1,f6,bg,hl0,c1,f1,zQ,LO,rf,c2,f2,c3,f3]
   ·cases h
  ·cases h
def X1 (F3:v6 P w K mg base 2 "dimension_of" 1 A7)(g:bI K mg "refuse_flat" X3):v6 P w K mg base 3 "refuse_flat" 1 C6:=by
 refine' m5 (k:=2) (F:=_) g oJ (λhr hu cu nd=>?b) λds d hl h=>?_
 case b=>refine' (c9<|w6 (j2 DP (PD.pb<|EG F3 hr<|c8 0) p5) (c9 dE) m6)
 match ds,h with
 |[.lst xs],h=>
  simp only[C6]at h;split at h
  ·rename_i pts hw;rw[m9 hw];split at h
   ·rename_i hz;rw[<-h];obtain⟨hs,h3⟩:=hz;have ai:pts≠[]:=λe=>by subst e;cases h3
    have e:=JU ai hs;rw[h3]at e;simp[j1,e]
   ·cases h
  ·cases h
def E6 (jI:v6 P w K mg base 1 "side_of" 2 Z0)(g:bI K mg "points_on" W4):v6 P w K mg base 2 "points_on" 2 x3:=by
 refine' m5 (k:=1) (F:=_) g uP (λhr hu cu nd=>?b) λds d hl h=>?_
 case b=>refine' (c9<|i7<|K5 ["P"] ["plane"] [0] rfl (G2 (sc:=c5 W4) (N:=lI)) (q9<|c8 1) (uw λ_ _ _ _ _=>⟨(j2 (O5 hu) (PD.pb<|eJ jI hr (c8 1)<|c8 0) p5),(c8 0)⟩)<|λ_=>p9)
 replace h:=TW h;obtain⟨a,b,c,d,ds,rfl,h⟩:=h;replace h:=uQ h;obtain⟨xs,ds,rfl,h⟩:=h;replace h:=T6 h;obtain⟨rfl,h⟩:=h
 ·skip
  split at h
  ·rename_i pts hw;rw[m9 hw];split at h
   ·rename_i hz;rw[<-h];have e:=dS vd (G:=λd ρ=>R.ok (aDj ρ 0<|Sl.v d)) (ft:=λρ=>((((aD 1 ρ).bind λd=>((aD 0 ρ).bind λd=>R.ok [d]).bind λds=>R.ok (d::ds)).bind Z0).bind λx=>FE x (D.int 0)).bind pJ) (fe:=aD 0) (ρ:=[.no,.v (.tup [D.int a,D.int b,D.int c,D.int d])])
     (λX=>decide (G.e9 ⟨a,b,c⟩ X=d)) vd pts λP hP=>⟨[.v (vd P),Sl.v (D.tup [D.int a,D.int b,D.int c,D.int d])],rfl,by simp[PX hz.1.mono (hz.2.1 P hP).mono,mz,G.e9];exact decide_eq_decide.mpr (by lia),λ_=>rfl⟩
    simp[j1,f6,small hz.2.2,e];rfl
   ·cases h
  ·cases h
def G9 (n8:v6 P w K mg base 1 "way_between" 2 u6)(w4:v6 P w K mg base 1 "product_of" 2 u5)(C0:v6 P w K mg base 1 "cross_of" 2 B6)(Q6:v6 P w K mg base 2 "plane_through" 3 Q7)(bu:BP K mg "NO_WAY" [0,0,0])(g:bI K mg "plane_about" X6):v6 P w K mg base 3 "plane_about" 2 C7:=by
 refine' m5 (k:=2) (F:=_) g nK (λhr hu cu nd=>?b) λds d hl h=>?_
 case b=>
  refine' (c6 (i4 2 (eJ n8 hr (f9 (b8 0) c7)<|f9 (b8 0) c7) nd)
   (c6 (i4 3 (mF bu) nd)
   (c6 (i4 4 (f9 (b8 0) c7) nd)
   (c6 (N3 aBe rfl (q9<|c8 1) (o9 5 nd) (c6 (i4 6 (eJ n8 hr (f9 (b8 0) c7)<|c8 5) nd)
   (c9 (w6 (uN.pt<|U1 (j2 (O5 hu) (b8 3)<|PD.pb<|mF bu)<|V8<|j2 yA (PD.pb<|eJ w4 hr (c8 3)<|c8 6) p5) (c6 (i4 3 (eJ C0 hr (c8 2)<|c8 6) nd)
   (c9<|i4 4 (c8 5) nd)) m6))))
   (c9<|i7<|cq Q6 hr (f9 (b8 0) c7) (f9 (b8 0) c7)<|c8 4)))))
 replace h:=WF h;obtain⟨ys,ds,rfl,h⟩:=h;replace h:=uQ h;obtain⟨xs,ds,rfl,h⟩:=h;replace h:=T6 h;obtain⟨rfl,h⟩:=h;replace h:=O7 h;obtain⟨a,b,c,ys,rfl,h⟩:=h;replace h:=O7 h;obtain⟨d,e,f,ys,rfl,h⟩:=h;replace h:=T6 h;obtain⟨rfl,h⟩:=h
 ·skip
  split at h
  ·rename_i pts hw;rw[m9 hw];split at h
   ·rename_i hz;rw[<-h];obtain⟨sA,sB,hs,hp⟩:=hz;have vA:(.tup [.int a,.int b,.int c]:D)=vd ⟨a,b,c⟩:=rfl;have vB:(.tup [.int d,.int e,.int f]:D)=vd ⟨d,e,f⟩:=rfl;rw[vA,vB];generalize(⟨a,b,c⟩:G.V)=A at*
    generalize(⟨d,e,f⟩:G.V)=B at*
    simp[j1];have z0:(.tup [.int 0,.int 0,.int 0]:D)=vd 0:=rfl;rw[z0];refine gI (λrest ρ=>∃(up out:G.V) (qs:List G.V) (x y:Sl),ρ=[.v (.tup [vd A,vd B]),.v (.lst (aDi vd pts)),.v (vd<|B-A),.v (vd up),.v (vd out),x,y]/\rest=qs.map vd/\Sz 2003 up/\Sz 1000 out/\(∀X∈qs,Sz 1000 X)/\G.D5 (B-A) A qs up out=G.D5 (B-A) A pts 0 A) ?_ ⟨0,A,pts,_,_,rfl,rfl,⟨by decide,by decide,by decide⟩,sA,hs.1,rfl⟩ ?_
    ·rintro d ds ρ ⟨up,out,qs,x,y,rfl,e1,su,so,sq,e2⟩;match qs,e1 with
     |P::qs,e1=>
      injection e1 with e3 e4;subst e3 e4;have sP:=sq P (.head _);have sw:=sP.sub sA;have e0:=eq0 up;rw[show(.tup [.int 0,.int 0,.int 0]:D)=vd 0 from rfl]at e0;have c1:=gZ (u:=B-A) (v:=P-A) (sB.sub sA).mono sw.mono;have p1:=mK (u:=up) (v:=P-A) su.mono sw.mono;have w1:=WY A P;have i0:R1 (.tup [vd A,vd B]) (.int 0)=.ok (vd A):=rfl
      conv at e2=>lhs;unfold G.D5
      simp only[T5,aBI,aBJ,L6,Q9,G7,D6,R.aa0,i0,w1,B1,e0,rL,p1,uI];by_cases hu0:up=0
      ·rw[if_pos (.inl hu0)]at e2;refine⟨_,?_,G.cr (B-A) (P-A),P,qs,.v (vd P),.v (vd<|P-A),rfl,rfl,(((sB.sub sA).cr sw).mono),sP,λX hX=>sq X (.tail _ hX),e2⟩;rw[decide_eq_true hu0];simp only[if_true,R.aa0,c1,B1,aBI,aBJ,G7,D6]
      ·rw[decide_eq_false hu0];by_cases hd0:0<G.e9 up (P-A)
       ·rw[if_pos (.inr hd0)]at e2;refine⟨_,?_,G.cr (B-A) (P-A),P,qs,.v (vd P),.v (vd<|P-A),rfl,rfl,(((sB.sub sA).cr sw).mono),sP,λX hX=>sq X (.tail _ hX),e2⟩;rw[decide_eq_true hd0];simp only[if_true,aAn,if_false,R.aa0,c1,B1,aBI,aBJ,G7,D6]
       ·rw[if_neg (λz=>z.elim hu0 hd0)]at e2;refine⟨_,?_,up,out,qs,.v (vd P),.v (vd<|P-A),rfl,rfl,su,so,λX hX=>sq X (.tail _ hX),e2⟩;rw[decide_eq_false hd0];simp only[aAn,if_false,R.aa0]
    ·rintro ρ ⟨up,out,qs,x,y,rfl,e1,su,so,sq,e2⟩;have:qs=[]:=by simpa using e1.symm
     subst this;have e2:(up,out)=G.D5 (B-A) A pts 0 A:=e2;have eo:(G.D5 (B-A) A pts 0 A).2=out:=by rw[<-e2]
     unfold G.b7 at hp⊢;rw[eo]at hp⊢;have pl:=OS ⟨sA,sB,so⟩ (QZ hp);simp[pl]
   ·cases h
  ·cases h
def aM (E6:v6 P w K mg base 2 "points_on" 2 x3)(G9:v6 P w K mg base 3 "plane_about" 2 C7)(F3:v6 P w K mg base 2 "dimension_of" 1 A7)(qr:mg "min"=none)(g:bI K mg "first_pair" aZ):v6 P w K mg base 8 "first_pair" 1 F7:=by
 refine' m5 (k:=7) (F:=_) g qC (λhr hu cu nd=>?b) λds d hl h=>?_
 case b=>
  have ua:=hr.ad1 (by decide);refine' (c6 (i4 1 (nA (DO rfl ua)<|F5 (b8 0) S6) nd)
   (c6 (i4 2 (vF (c8 1)<|pA (f9 (b8 1) c7) (f9 (b8 1) c7)<|b9 l7 (PD.pb<|f9 (b8 1) c7) p5) nd)
   (c6 (i4 3 (eJ E6 hr (eJ G9 hr (c8 2)<|c8 0)<|c8 0) nd)
   (c6 (w6 (j2 (O5 hu) (PD.pb<|EG F3 hr<|c8 3) p5) (c9<|i7<|c8 2) m6)
   (c9<|i7<|vF (f9 (b8 3) c7)<|f9 (b8 3) c7)))))
 match ds,h with
 |[.lst xs],h=>
  simp only[F7]at h;split at h
  ·rename_i m pts hw;rw[m9 hw];split at h
   ·rename_i hz;rw[<-h];have hm:=VC hz.good.ord;have s1:bH 1000 (m::pts):=hz.sz.mono;have sm:Sz 900 m:=hz.sz.1 m (.head _);obtain⟨hp,tm,out,to,ai⟩:=G.xV hz.good.solid hz.good.mem hz.good.least;have ab:=T7 sm.mono (LQ sm) s1 hp;have asz:=yE sm.mono (LQ sm) s1;rw[ZA]at ab;have po:=gG (d:=(G.b7 m (m+G.kk) (m::pts)).2) asz.mono s1;obtain⟨x,y,r,et⟩:=ND tm to ai;have ts:=JZ (n:=(G.b7 m (m+G.kk) (m::pts)).1) (d:=(G.b7 m (m+G.kk) (m::pts)).2) s1;have dm:=JU (pts:=G.v9 (G.b7 m (m+G.kk) (m::pts)).1 (G.b7 m (m+G.kk) (m::pts)).2 (m::pts)) (by rw[et];simp) ts;have i0:R1 (.lst ((G.v9 (G.b7 m (m+G.kk) (m::pts)).1 (G.b7 m (m+G.kk) (m::pts)).2 (m::pts)).map vd)) (.int 0)=.ok (vd x):=bU (by rw[et];exact YZ _ _);have i1:R1 (.lst ((G.v9 (G.b7 m (m+G.kk) (m::pts)).1 (G.b7 m (m+G.kk) (m::pts)).2 (m::pts)).map vd)) (.int 1)=.ok (vd y):=bU (by rw[et];exact fw _ _ _);unfold G.d8;dsimp only;by_cases h2:G.S4 (G.v9 (G.b7 m (m+G.kk) (m::pts)).1 (G.b7 m (m+G.kk) (m::pts)).2 (m::pts))=2
    ·rw[if_pos h2];rw[h2]at dm;generalize(m::pts).map vd=L at*
     generalize(G.v9 (G.b7 m (m+G.kk) (m::pts)).1 (G.b7 m (m+G.kk) (m::pts)).2 (m::pts)).map vd=L2 at*
     generalize(G.b7 m (m+G.kk) (m::pts)).1=pn at*
     generalize(G.b7 m (m+G.kk) (m::pts)).2=pm at*
     simp[j1,hm,ab,po,dm,G.kk]
    ·rw[if_neg h2];have e0:(G.v9 (G.b7 m (m+G.kk) (m::pts)).1 (G.b7 m (m+G.kk) (m::pts)).2 (m::pts)).getD 0 0=x:=by rw[et];rfl
     have e1:(G.v9 (G.b7 m (m+G.kk) (m::pts)).1 (G.b7 m (m+G.kk) (m::pts)).2 (m::pts)).getD 1 0=y:=by rw[et];rfl
     rw[e0,e1];have hb:((G.S4 (G.v9 (G.b7 m (m+G.kk) (m::pts)).1 (G.b7 m (m+G.kk) (m::pts)).2 (m::pts)):Int)==2)=false:=by rw[beq_eq_false_iff_ne];lia
     generalize(m::pts).map vd=L at*
     generalize(G.v9 (G.b7 m (m+G.kk) (m::pts)).1 (G.b7 m (m+G.kk) (m::pts)).2 (m::pts)).map vd=L2 at*
     generalize(G.S4 (G.v9 (G.b7 m (m+G.kk) (m::pts)).1 (G.b7 m (m+G.kk) (m::pts)).2 (m::pts)):Int)=dd at*
     generalize(G.b7 m (m+G.kk) (m::pts)).1=pn at*
     generalize(G.b7 m (m+G.kk) (m::pts)).2=pm at*
     simp[j1,hm,ab,po,dm,hb,i0,i1]
   ·cases h
  ·cases h
def kA (w4:v6 P w K mg base 1 "product_of" 2 u5)(C0:v6 P w K mg base 1 "cross_of" 2 B6)(n8:v6 P w K mg base 1 "way_between" 2 u6)(g:bI K mg "turn_of" jS):v6 P w K mg base 2 "turn_of" 4 dM:=by
 refine' m5 (k:=1) (F:=_) g AF (λhr hu cu nd=>?b) λds d hl h=>?_
 case b=>refine' (c9<|i7<|eJ w4 hr (c8 0)<|eJ C0 hr (eJ n8 hr (c8 1)<|c8 2)<|eJ n8 hr (c8 2)<|c8 3)
 replace h:=O7 h;obtain⟨a,b,c,ds,rfl,h⟩:=h;replace h:=O7 h;obtain⟨d,e,f,ds,rfl,h⟩:=h;replace h:=O7 h;obtain⟨g,h',i,ds,rfl,h⟩:=h;replace h:=O7 h;obtain⟨j,k,l,ds,rfl,h⟩:=h;replace h:=T6 h;obtain⟨rfl,h⟩:=h
 ·skip
  split at h
  ·rename_i hz;obtain⟨p,q,r,s⟩:=hz;rw[<-h];have c1:=gZ (u:=⟨g,h',i⟩-⟨d,e,f⟩) (v:=⟨j,k,l⟩-⟨g,h',i⟩) (r.sub q).mono (s.sub r).mono;have c2:=mK (u:=⟨a,b,c⟩) (v:=G.cr (⟨g,h',i⟩-⟨d,e,f⟩) (⟨j,k,l⟩-⟨g,h',i⟩)) p.mono ((r.sub q).cr (s.sub r)).mono;simp only[vd,G.JY,G.ME,G.MT,G.PP,G.TC,G.QA]at c1 c2;simp[j1,u6,v1,vI,c1,c2,G.turn,G.i6]
  ·cases h
def R6 (kA:v6 P w K mg base 2 "turn_of" 4 dM)(dg:mg "len"=none)(g:bI K mg "left_chain" aI):v6 P w K mg base 3 "left_chain" 2 R7:=by
 refine' m5 (k:=2) (F:=_) g qE (λhr hu cu nd=>?b) λds d hl h=>?_
 case b=>
  refine' (c6 (S7 2 (cE l3) nd)
   (c6 (N3 aBe rfl (q9<|c8 1) (o9 3 nd) (c6 (cS (λ_=>1001) aBe (uN.pt<|sE (j2 yA (PD.pb<|IE cG<|b8 2) p5)<|nF<|j2 KT (PD.pb<|pc4 kA hr (c8 0) (f9 (b8 2)<|jF c7) (f9 (b8 2)<|jF c7)<|c8 3) p5)<|c9<|RA 2)
   (c9<|J4 2<|c8 3)))
   (c9<|DS 2<|i7<|c8 2)))
 replace h:=O7 h;obtain⟨a,b,c,ds,rfl,h⟩:=h;replace h:=uQ h;obtain⟨xs,ds,rfl,h⟩:=h;replace h:=T6 h;obtain⟨rfl,h⟩:=h
 ·skip
  split at h
  ·rename_i pts hw;rw[m9 hw];split at h
   ·rename_i hz;rw[<-h];obtain⟨sn,hs⟩:=hz;have vn:(.tup [.int a,.int b,.int c]:D)=vd ⟨a,b,c⟩:=rfl;rw[vn];generalize(⟨a,b,c⟩:G.V)=n at*
    simp[j1];refine gI (λrest ρ=>∃(c qs:List G.V) (x:Sl),ρ=[.v (vd n),.v (.lst (aDi vd pts)),.o (c.reverse.map vd),x]/\rest=qs.map vd/\(∀X∈c,Sz 1000 X)/\(∀X∈qs,Sz 1000 X)/\c.length+qs.length<=1000/\qs.foldl (λc P=>P::G.M2 n P c) c=G.x8 n pts) ?_ ⟨[],pts,_,rfl,rfl,λX hX=>by(cases hX),hs.1,by simpa using hs.2,rfl⟩ ?_
    ·rintro d ds ρ ⟨c,qs,x,rfl,e1,sc,sq,hl,e2⟩;match qs,e1 with
     |P::qs,e1=>
      injection e1 with e3 e4;subst e3 e4;have sP:=sq P (.head _);simp only[aAs]at hl;simp only[T5,aBI,aBJ];refine Exists.elim (vN (n:=1001) (ρ:=[.v (vd n),.v (.lst (aDi vd pts)),.o (c.reverse.map vd),.v (vd P)]) (Post:=λρ=>∃c',ρ=[.v (vd n),.v (.lst (aDi vd pts)),.o (c'.reverse.map vd),.v (vd P)]/\(∀X∈c',Sz 1000 X)/\c'.length<=c.length/\c'=G.M2 n P c)
       (c:=UU (λρ=>((((vH 2 ρ).bind λd=>R.ok [d]).bind QS).bind λx=>WJ x (D.int 1)).bind pJ) λρ=>((((aD 0 ρ).bind λd=>(((vH 2 ρ).bind λx=>R1 x (D.int (-2))).bind λd=>(((vH 2 ρ).bind λx=>R1 x (D.int (-1))).bind λd=>((aD 3 ρ).bind λd=>R.ok [d]).bind λds=>R.ok (d::ds)).bind λds=>R.ok (d::ds)).bind λds=>R.ok (d::ds)).bind dM).bind λx=>ax x (D.int 0)).bind pJ) (F:=λρ=>(BU 2 ρ).bind λz=>R.ok (Out.nx z.snd))
       (λm ρ=>∃c',ρ=[.v (vd n),.v (.lst (aDi vd pts)),.o (c'.reverse.map vd),.v (vd P)]/\(∀X∈c',Sz 1000 X)/\c'.length<=c.length/\c'.length<m/\G.M2 n P c'=G.M2 n P c) ?_ (by rintro ρ ⟨c',_,_,_,h,_⟩;lia) ⟨c,rfl,sc,aAj _,by lia,rfl⟩ ?_) ?_
      ·rintro m ρ ⟨c',rfl,sub,ip,hm,ep⟩;match c',sub,ip,hm,ep with
       |[],_,_,_,_=>exact .inl (by simp)
       |[a],_,_,_,_=>exact .inl (by simp)
       |b::a::r,sub,ip,hm,ep=>
        have er:(b::a::r).reverse.map vd=r.reverse.map vd++[vd a,vd b]:=by simp
        have i1:R1 (.lst ((b::a::r).reverse.map vd)) (.int (-1))=.ok (vd b):=bU (by rw[er];exact UP _ _ _);have i2:R1 (.lst ((b::a::r).reverse.map vd)) (.int (-2))=.ok (vd a):=bU (by rw[er];exact TV _ _ _);have tn:=DN sn (sub a<|.tail _ (.head _)) (sub b<|.head _) sP;have hg:(1:Int)<(aDi vd (b::a::r).reverse).length:=by rw[aAh,aBR];simp;lia
        by_cases ht:G.turn n a b P<=0
        ·refine .inr ⟨?_,[.v (vd n),.v (.lst (aDi vd pts)),.o ((a::r).reverse.map vd),.v (vd P)],?_,a::r,rfl,λX hX=>sub X (.tail _ hX),?_,?_,?_⟩
         ·simp only[sI,L6,fS,R.aa0,iZ,uI,decide_eq_true hg,rL,if_true,D6,G7,i1,i2,tn,BY,decide_eq_true ht]
         ·show(match(aDi vd (b::a::r).reverse)[(aDi vd (b::a::r).reverse).length-1]? with|some d=>_|none=>_:R (D×Ev)).bind _=_;rw[er];simp
         ·simp only[aAs]at ip⊢;lia
         ·simp only[aAs]at hm⊢;lia
         ·rw[<-ep]
          conv=>rhs;unfold G.M2
          rw[if_pos ht]
        ·refine .inl ?_;simp only[sI,L6,fS,R.aa0,iZ,uI,decide_eq_true hg,rL,if_true,D6,G7,i1,i2,tn,BY,decide_eq_false ht]
      ·rintro m ρ ⟨c',rfl,sub,ip,hm,ep⟩ hc;refine⟨c',rfl,sub,ip,?_⟩;match c',sub,ip,hm,ep,hc with
       |[],_,_,_,ep,_=>exact ep
       |[a],_,_,_,ep,_=>exact ep
       |b::a::r,sub,ip,hm,ep,hc=>
        have er:(b::a::r).reverse.map vd=r.reverse.map vd++[vd a,vd b]:=by simp
        have i1:R1 (.lst ((b::a::r).reverse.map vd)) (.int (-1))=.ok (vd b):=bU (by rw[er];exact UP _ _ _);have i2:R1 (.lst ((b::a::r).reverse.map vd)) (.int (-2))=.ok (vd a):=bU (by rw[er];exact TV _ _ _);have tn:=DN sn (sub a<|.tail _ (.head _)) (sub b<|.head _) sP;have hg:(1:Int)<(aDi vd (b::a::r).reverse).length:=by rw[aAh,aBR];simp;lia
        simp only[sI,L6,fS,R.aa0,iZ,uI,decide_eq_true hg,rL,if_true,D6,G7,i1,i2,tn,BY,MS,decide_eq_false_iff_not]at hc;rw[<-ep]
        conv=>rhs;unfold G.M2
        rw[if_neg hc]
      ·rintro ρ2 ⟨ew,c',rfl,sub,ip,epop⟩;refine⟨[.v (vd n),.v (.lst (aDi vd pts)),.o ((P::c').reverse.map vd),.v (vd P)],?_,P::c',qs,_,rfl,rfl,?_,λX hX=>sq X (.tail _ hX),?_,?_⟩
       ·rw[ew];have hz:(aDi vd c'.reverse).length<sizeLine:=by rw[aAh,aBR];exact aBY (show c'.length<=1000 by lia) (by decide)
        simp only[B1,G7,D6,R.aa0];show(if(aDi vd c'.reverse).length<sizeLine then _ else _)=_;rw[if_pos hz];simp
       ·intro X hX;rcases aAd.mp hX with rfl|hX
        ·exact sP
        ·exact sub X hX
       ·simp;lia
       ·rw[<-e2,aFG,epop]
    ·rintro ρ ⟨c,qs,x,rfl,e1,sc,sq,hl,e2⟩;have:qs=[]:=by simpa using e1.symm
     subst this;have e2:c=G.x8 n pts:=e2;subst e2;simp[M1]
   ·cases h
  ·cases h
def Y8 (R6:v6 P w K mg base 3 "left_chain" 2 R7)(ir:mg "list"=none)(kg:mg "reversed"=none)(g:bI K mg "ring_of" jR):v6 P w K mg base 4 "ring_of" 2 F6:=by
 refine' m5 (k:=3) (F:=_) g BQ (λhr hu cu nd=>?b) λds d hl h=>?_
 case b=>
  refine' (c6 (i4 2 (eJ R6 hr (c8 0)<|c8 1) nd)
   (c6 (i4 3 (eJ R6 hr (c8 0)<|PF.pd<|AS (b8 1) rfl) nd)
   (c9<|i7<|b9 l7 (PD.pb<|eN (b8 2) O9<|C5<|jF c7)<|PD.pb<|eN (b8 3) O9<|C5<|jF c7)))
 replace h:=O7 h;obtain⟨a,b,c,ds,rfl,h⟩:=h;replace h:=uQ h;obtain⟨xs,ds,rfl,h⟩:=h;replace h:=T6 h;obtain⟨rfl,h⟩:=h
 ·skip
  split at h
  ·rename_i pts hw;rw[m9 hw];split at h
   ·rename_i hz;rw[<-h];obtain⟨sn,hs⟩:=hz;have vn:(.tup [.int a,.int b,.int c]:D)=vd ⟨a,b,c⟩:=rfl;rw[vn];generalize(⟨a,b,c⟩:G.V)=n at*
    have l1:=UN sn hs;have zd:bH 1000 pts.reverse:=hs.sub (λP hP=>by simpa using hP) (by simp);have l2:=UN sn zd;rw[aFv (l:=pts)]at l2;have k1:=dI n pts;have k2:=dI n pts.reverse;rw[aBR]at k2;have ha:fL (.lst ((G.x8 n pts).reverse.map vd).dropLast) (.lst ((G.x8 n pts.reverse).reverse.map vd).dropLast)=.ok (.lst ((G.i8 n pts).map vd)):=by rw[rZ (by simp only[aEm,aAh,aBR];exact aAu (show _<=2000 by have:=hs.2;lia) (by decide))];unfold G.i8;rw[aBr,List.map_dropLast,List.map_dropLast]
    simp[-aFv,j1,l1,l2,RX,ha,YO]
   ·cases h
  ·cases h
def G4 (ir:mg "list"=none)(b_zip:mg "zip"=none)(g:bI K mg "pairs_round" X0):v6 P w K mg base 1 "pairs_round" 1 Y0:=by
 refine' m5 (k:=0) (F:=_) g nB (λhr hu cu nd=>?b) λds d hl h=>?_
 case b=>refine' (c9<|i7<|PF.pd<|zU (b8 0) (PD.pb<|b9 l7 (PD.pb<|eN (b8 0) (C5 c7) O9)<|PD.pb<|eN (b8 0) O9<|C5 c7) rfl)
 match ds,h with
 |[.lst xs],h=>
  simp only[Y0]at h;split at h
  ·rename_i hz;rw[<-h];have ha:fL (.lst xs.tail) (.lst (xs.take 1))=.ok (.lst (xs.tail++xs.take 1)):=rZ (by simp only[aFx,aBi];exact NK (by lia));have hzp:RI [.lst xs,.lst (xs.tail++xs.take 1)]=.ok (J5 xs<|xs.tail++xs.take 1):=if_pos (by
    simp only[aAy,aFx,aBi]
    lia)
   simp[j1,QU,WU,ha,hzp]
  ·cases h
def aK (G9:v6 P w K mg base 3 "plane_about" 2 C7)(Y8:v6 P w K mg base 4 "ring_of" 2 F6)(G4:v6 P w K mg base 1 "pairs_round" 1 z6)(dg:mg "len"=none)(au:mg "sorted"=none)(g:bI K mg "faces_from" aF):QT P w K mg base 8 3 "faces_from" G0:=by
 obtain⟨f,fd,md,F0⟩:=g;refine' TK (k:=7) (F:=_) F0 fB rfl (F0.binds λ_ _ _ _ _ _ us hl=>match us,hl with|[_,_,_],_=>rfl) md (λcdv A outer s H E hr=>?hb) ?hm
 case hb=>
  have hu:=hr.units;have cu:=hr.ad8;have ua:=hr.ad1 (by decide);have nd:=fB.nd;refine' (c6 (S7 3 (cE l3) nd)
   (c6 (KZ 4 nd)
   (c6 (S7 5 (cE<|d9 (c8 0) l3) nd)
   (c6 (cS (λ_=>5000) aBe (j2 yA (PD.pb<|IE cG<|b8 5) p5) (c6 (BN 6 5 nd)
   (c9 (w6 (FB 4 (c8 6) cu) (c6 (i4 7 (eJ G9 hr (c8 6) (xB 1 (k:=3) (Φ:=IA P w K mg base 3 1) rfl (d9 (f9 (b8 6) c7) l3) (t0 G8) (hr.mono (by decide)))) nd)
   (c6 (i4 8 (eJ Y8 hr (eN (b8 7) O9<|C5 c7) (xB 2 (k:=3) (Φ:=IA P w K mg base 3 1) rfl (d9 (c8 7) l3) (t0 G8) (hr.mono (by decide)))) nd)
   (c6 (J4 3<|vF (c8 7)<|c8 8)
   (c9 (N3 aBe rfl (q9<|EG G4 hr<|c8 8) (o9 9 nd) (c6 (zO 4 gU (c8 9) cu)
   (c9<|J4 5<|vF (f9 (b8 9) c7)<|f9 (b8 9) c7))))))) m6))))
   (c9<|i7<|PF.pd<|AI (b8 3) rfl ua)))))
 case hm=>
  intro d m1 m2 d' h;simp only[G0]at h;split at h
  ·rename_i xs hm1;split at h
   ·rename_i m pts hw;split at h
    ·rename_i hz;rw[<-h];obtain⟨hz,tf,hd,e1,e2⟩:=hz;rw[m9 hw]at e1 e2;subst hd e1 e2;have s1:(1:Nat)<=sizeLine:=by decide
     simp only[jL,D6,t7,w5,R.aa0,aAs,aAR,aEb,s1,if_true,B1];exact az (Φ:=IA P w K mg base 3 1) hz tf
    ·cases h
   ·cases h
  ·cases h
def rB:Nst:=⟨"about",CS,B8 cF,o6 cF,c5 cF,CO cF,["corner"],[],["spread"],[1],(λρ=>(aD 1 ρ).bind λd=>.ok (.rt d)),G3,2⟩
def cB:Nst:=⟨"touched_by",iM,B8 I0,o6 I0,c5 I0,CO I0,["plane"],[],["spread"],[1],(λρ=>((o7 (aD 0) (o7 (aD 1) T4) ρ).bind x3).bind λd=>.ok (.rt d)),B9,3⟩
def GW {f:Addr}{cdv:Value}{A:Around}{outer:List Env}{s:Shared}{H:Hp}{E:XK}:NstOk (OY P w K mg base fO "faces_of" (c5 J1) f cdv A outer s H E) 2 rB where
 sc:=⟨rfl,rfl,rfl,by decide+kernel,by decide+kernel,by decide+kernel,λx h=>CN h,by decide+kernel⟩
 one:=rfl
 body:=λfa cd clos A outer s H hr=>by have hu:=hr.units;exact(c9<|i7<|c8 1)
 mm:=by
  intro wd ds d h1 h2 h;match wd,ds,h1,h2,h with
  |[_],[_],_,_,h=>cases h;rfl
 bind:=λclos doc pm cd ctv us hl=>match us,hl with|[_],_=>rfl
 len:=rfl
 at_:=λi j x h1 h2=>match i,h1,h2 with
  |0,h1,h2=>by obtain rfl:1=j:=aAl h1;obtain rfl:("spread":Str)=x:=aAl h2;exact⟨rfl,rfl⟩
  |i+1,h1,_=>nomatch(show(none:Option Nat)=some j from h1)
 d0:=rfl
 k0:=rfl
 nm:=rfl
 lc:=.inl rfl
 st:=.inl rfl
 dbg:=by decide
 cdt:=by decide
def pD (E6:v6 P w K mg base 2 "points_on" 2 x3){f:Addr}{cdv:Value}{A:Around}{outer:List Env}{s:Shared}{H:Hp}{E:XK}:NstOk (OY P w K mg base fO "faces_of" (c5 J1) f cdv A outer s H E) 2 cB where
 sc:=⟨rfl,rfl,rfl,by decide+kernel,by decide+kernel,by decide+kernel,λx h=>CN h,by decide+kernel⟩
 one:=rfl
 body:=λfa cd clos A outer s H hr=>by have hu:=hr.units;exact(c9<|i7<|eJ E6 hr (c8 0)<|c8 1)
 mm:=by
  intro wd ds d h1 h2 h;match wd,ds,h1,h2,h with
  |[w],[p],_,_,h=>have h:x3 [p,w]=.ok d:=h;show K3 (((o7 (aD 0) (o7 (aD 1) T4) [.v p,.v w]).bind x3).bind λd=>.ok (.rt d))=.ok d;have e:o7 (aD 0) (o7 (aD 1) T4) [.v p,.v w]=.ok [p,w]:=rfl;rw[e,R.aa0,h];rfl
 bind:=λclos doc pm cd ctv us hl=>match us,hl with|[_],_=>rfl
 len:=rfl
 at_:=λi j x h1 h2=>match i,h1,h2 with
  |0,h1,h2=>by obtain rfl:1=j:=aAl h1;obtain rfl:("spread":Str)=x:=aAl h2;exact⟨rfl,rfl⟩
  |i+1,h1,_=>nomatch(show(none:Option Nat)=some j from h1)
 d0:=rfl
 k0:=rfl
 nm:=rfl
 lc:=.inl rfl
 st:=.inl rfl
 dbg:=by decide
 cdt:=by decide
def fP {Pt:Addr}(E6:v6 P w K mg base 2 "points_on" 2 x3)(X1:v6 P w K mg base 3 "refuse_flat" 1 C6)(aM:v6 P w K mg base 8 "first_pair" 1 F7)(aK:QT P w K mg base 8 3 "faces_from" G0)(au:mg "sorted"=none)(jb:mg "set"=none)(hB:iS mg base)(hTt:(Pt,tbK)∈Tabs.tbs)(g:ZV K mg "faces_of" J1 Pt):v6 P w K mg base 9 "faces_of" 1 U0:=by
 obtain⟨f,fd,cd,md,hK,F0⟩:=g;refine' RJ (k:=8) (F:=_) F0 lK (F0.fn.binds λ_ _ _ _ _ _ us hl=>match us,hl with|[_],_=>rfl) md (λA outer s H E hr=>?hb) ?hm
 case hb=>
  have hu:=hr.units;have cu:=hr.ad8;have ua:=hr.ad1 (by decide);have nd:=lK.nd;refine' (c6 (OW<|EG X1 hr<|c8 0)
   (c6 (i4 1 (PF.pd<|R8 (b8 0) rfl ua) nd)
   (AU (n1:=rB) (n2:=cB) (clos1:=[("spread",s.heap.objs.size+1)]) (clos2:=[("spread",s.heap.objs.size+1)]) (tb:=tbK) GW (pD E6) ?co1 ?co2 ?hA hB rfl hK hTt (by decide+kernel) (by decide+kernel) (by decide+kernel) (by decide+kernel) (by decide) nd aK (hr.mono (by decide)) (EG aM hr<|c8 1) (λ_=>rfl))))
  case co1=>exact⟨rfl,rfl,rfl,λx c h=>h,λx hx=>⟨_,by obtain rfl:x= "spread":=aAU.mp hx;rfl⟩⟩
  case co2=>exact⟨rfl,rfl,rfl,λx c h=>h,λx hx=>⟨_,by obtain rfl:x= "spread":=aAU.mp hx;rfl⟩⟩
  case hA=>exact FP
 case hm=>
  intro ds d hl h;match ds,h with
  |[.lst xs],h=>
   simp only[U0]at h;split at h
   ·rename_i pts hw;rw[m9 hw];split at h
    ·rename_i hz;rw[<-h];obtain⟨h1,h2,h3⟩:=hz;obtain⟨m,r,e,L⟩:=gD h1 h2 (by lia);have ss:=MD (pts:=pts) (by lia);have fl:=SK (h1.mono (n:=1000)) h2;rw[e]at h3 ss⊢;have fp:=YS L;have ff:=VZ L h3;obtain⟨L1,eL⟩:∃L1,(m::r).map vd=L1:=⟨_,rfl⟩;rw[eL]at ss fp ff;show K3 (z7 ((C6 [D.lst (pts.map vd)]).bind λ_=>R.ok (Out.nx [.v (.lst (pts.map vd)),.no,.no,.no])) _)=_;rw[fl,R.aa0,B1];show K3 (z7 (((YG<|.lst (pts.map vd)).bind λds=>R.ok (D.lst ds)).bind λd=>R.ok (Out.nx [.v (.lst (pts.map vd)),.v d,.no,.no])) _)=_;rw[ss,R.aa0,R.aa0,B1];show K3 (((F7 [D.lst L1]).bind λd1=>(R.ok [D.lst L1]).bind λw1=>(R.ok [D.lst L1]).bind λw2=>G0 d1 (G3 w1) (B9 w2)).bind λd=>R.ok (Out.rt d))=_;rw[fp,R.aa0,R.aa0,R.aa0,ff];rfl
    ·cases h
   ·cases h
def X4 (au:mg "sorted"=none)(jb:mg "set"=none)(g:bI K mg "corners_in" bD):eG P w K mg base 8 "corners_in" 1 F9:=by
 refine' iE (k:=7) (F:=_) g qB (λhr hu cu nd=>?b) λds d hl h=>?_
 case b=>
  have ua:=hr.ad1 (by decide);refine' (x5 (S7 1 (cE l3) nd)
   (x5 (N3 aBe rfl (q9<|c8 0) (mJ (n:=2) rfl<|C9 (o9 2 nd)<|C9 (o9 3 nd) iG)<|c9<|zF 1<|c8 3)
   (U4<|R8 (b8 1) rfl ua)))
 match ds,h with
 |[.lst xs],h=>
  simp only[F9]at h;split at h
  ·rename_i rs hw;split at h
   ·rename_i hz;rw[<-h];obtain⟨x',y',e⟩:=lF (a:=Sl.v (D.lst xs)) xs rs [] Sl.no Sl.no hw (by simpa using hz.1);rw[aCn,aBC]at e;have ss:=MD hz.2;simp[j1,-List.map_flatten,e,ss]
   ·cases h
  ·cases h
def fJ (fP:v6 P w K mg base 9 "faces_of" 1 U0)(X4:eG P w K mg base 8 "corners_in" 1 F9)(g:bI K mg "body_of" kH):eG P w K mg base 10 "body_of" 1 M6:=by
 refine' iE (k:=9) (F:=_) g BL (λhr hu cu nd=>?b) λds d hl h=>?_
 case b=>refine' (U4 (tW X4 (hr.mono (by decide)) (d9 (EG fP hr<|c8 0) l3)<|t0 G8))
 match ds,h with
 |[.lst xs],h=>
  simp only[M6]at h;split at h
  ·rename_i pts hw;rw[m9 hw];split at h
   ·rename_i hz;rw[<-h];obtain⟨h1,h2,h3⟩:=hz;obtain⟨m,r,e,L⟩:=gD h1 h2 (by lia);have fo:=LH h1 h2 h3;have fr:((A0<|i5 pts).flatMap (G.j7<|i5 pts)).length<=200/\(i5<|(A0<|i5 pts).flatMap (G.j7<|i5 pts)).length<=14:=by rw[e]at h3⊢;exact qL L h3
    have co:=zD (pts:=i5 pts) (fs:=A0 (i5 pts)) (by lia) (by lia);simp[j1,fo,co,A1]
   ·cases h
  ·cases h
end
end K43
namespace K43
open PySem L2 DL M
section
variable [Tabs]
variable{P:Program} {w:World} {K:PySem.W.Frag} {mg:bK} {base:Heap}
variable{ja xb ke nv:Addr}
def jY (gA:v6 P w K mg base 1 "is_whole" 1 W5)(g:bI K mg "is_axis" kJ):v6 P w K mg base 2 "is_axis" 1 dP:=by
 refine' m5 (k:=1) (F:=_) g AC (λhr hu cu nd=>?b) λds d hl h=>?_
 case b=>refine' (c9<|i7<|zM (EG gA hr<|c8 0)<|AN<|NI 0)
 match ds,h with
 |[x],h=>rw[<-h];cases x<;>simp[j1,W5,NM,dP,axB,uk]
def aE (jY:v6 P w K mg base 2 "is_axis" 1 dP)(Y8:v6 P w K mg base 4 "ring_of" 2 F6)(au:mg "sorted"=none)(jb:mg "set"=none)(kh:BP K mg "UPWARD" [0,0,1])(g:bI K mg "shadow_of" P6):eG P w K mg base 8 "shadow_of" 2 P4:=by
 refine' iE (k:=7) (F:=_) g uG (λhr hu cu nd=>?b) λds d hl h=>?_
 case b=>
  have ua:=hr.ad1 (by decide);refine' (x5 (w6 (aG<|J0<|EG jY hr<|c8 1) (c9 dE) m6)
   (x5 (xX 2 ["P"] ["axis"] [1] nd rfl (G2 (sc:=c5 P6) (N:=bS)) (q9<|c8 0) (IC λ_ _ _ _ _=>(b9 l7 (PD.pb<|b9 l7 (PD.pb<|eN (b8 0) O9<|C5<|c8 1)<|PD.pb<|eN (b8 0) (C5<|b9 l7 (b8 1) p5) O9)<|PD.pb<|pH<|d9 c7 l3))<|λ_=>p9)
   (U4<|ER ["P"] [] [] rfl (G2 (sc:=c5 P6) (N:=bS)) (q9<|eJ Y8 hr (mF kh)<|PF.pd<|R8 (b8 2) rfl ua) (IC λ_ _ _ _ _=>(eN (b8 0) O9<|C5 c7))<|λ_=>p9)))
 match ds,h with
 |[.lst xs,.int a],h=>
  simp only[P4]at h;split at h
  ·rename_i pts hw;rw[m9 hw];split at h
   ·rename_i hz;rw[<-h];obtain⟨⟨a0,a2⟩,hp⟩:=hz;have ia:dP [.int a]=.ok (.bl true):=by show R.ok (D.bl<|decide (0<=a)&&decide (a<=2))=_;rw[decide_eq_true a0,decide_eq_true a2];rfl
    have e:∀fe:Ev->R D,(∀P:G.V,fe [.v (vd P),.v (.int a)]=.ok (vd<|bJ a P))->n6 (λd ρ=>R.ok (aDj ρ 0<|Sl.v d)) (λ_=>R.ok true) fe [.no,.v (.int a)] (pts.map vd)=.ok ((pts.map<|bJ a).map vd):=λfe hfe=>by rw[J8 vd (λP=>vd (bJ a P)) pts λP _=>⟨_,rfl,hfe P⟩,aBB];rfl
    have ss:=MD (pts:=pts.map (bJ a)) (aAu (tL (a:=a) hp).2 (by decide));have rg:=DC (n:=⟨0,0,1⟩) ⟨by decide,by decide,by decide⟩ (tL (a:=a) hp).1;have rg:F6 [.tup [.int 0,.int 0,.int 1],.lst ((i5<|pts.map<|bJ a).map vd)]=.ok (.lst ((Y1 a pts).map vd)):=rg;have l2:=(nN (a:=a) hp).2;have e2:∀fe:Ev->R D,(∀v:G.V,fe [.v (vd v)]=.ok (j8 v))->n6 (λd ρ=>R.ok (aDj ρ 0<|Sl.v d)) (λ_=>R.ok true) fe [.no] ((Y1 a pts).map vd)=.ok ((Y1 a pts).map j8):=λfe hfe=>J8 vd j8 _ λv _=>⟨_,rfl,hfe v⟩;have z1:(pts.map vd).length<=sizeLine:=by rw[aAh];exact small (by have:=hp.2;lia)
    have z2:((Y1 a pts).map vd).length<=sizeLine:=by rw[aAh];exact small (by lia)
    simp only[j1,aAp,aCn,aAF,aBC,aAs,aAR,aCL,aCM,aBD,aBE];refine K9 (ρ:=[.v (.lst (pts.map vd)),.v (.int a),.no]) (by simp[ia]) ?_;refine K9 (ρ:=[.v (.lst (pts.map vd)),.v (.int a),.v (.lst ((pts.map<|bJ a).map vd))]) ?_ ?_
    ·have c0:∀x y z:D,tH (.tup [x,y,z]) none (some 0)=.ok (.tup [])/\tH (.tup [x,y,z]) (some 1) none=.ok (.tup [y,z])/\tH (.tup [x,y,z]) none (some 1)=.ok (.tup [x])/\tH (.tup [x,y,z]) (some 2) none=.ok (.tup [z])/\tH (.tup [x,y,z]) none (some 2)=.ok (.tup [x,y])/\tH (.tup [x,y,z]) (some 3) none=.ok (.tup []):=λ_ _ _=>⟨rfl,rfl,rfl,rfl,rfl,rfl⟩;have c1:∀x y:D,fL (.tup []) (.tup [x,y])=.ok (.tup [x,y])/\fL (.tup [x]) (.tup [y])=.ok (.tup [x,y])/\fL (.tup [x,y]) (.tup [])=.ok (.tup [x,y]):=λ_ _=>⟨rfl,rfl,rfl⟩;have c2:∀x y z:D,fL (.tup [x,y]) (.tup [z])=.ok (.tup [x,y,z]):=λ_ _ _=>rfl;simp only[G7,D6,R.aa0,S9,if_pos z1];rw[show f6 ["P"] [1] [.v (.lst (pts.map vd)),.v (.int a),.no]=[.no,.v (.int a)]from rfl];rw[e _ λP=>?_]
     ·rfl
     ·rcases(show a=0\/a=1\/a=2 by lia)with rfl|rfl|rfl<;>simp[c0,c1,c2,bJ,jC,sizeLine]
    ·simp only[G7,D6,L6,Q9,R.aa0,ss,t7,w5,N1,rg,S9,if_pos z2];rw[show f6 ["P"] [] [.v (.lst (pts.map vd)),.v (.int a),.v (.lst ((pts.map<|bJ a).map vd))]=[.no]from rfl];rw[e2 _ λv=>rfl];rfl
   ·cases h
  ·cases h
def W9 (G4:v6 P w K mg base 1 "pairs_round" 1 Y0)(eu:v6 P w K mg base 8 "shadow_of" 2 P4)(qt:mg "sum"=none)(g:bI K mg "shadow_area" N2):v6 P w K mg base 9 "shadow_area" 2 mQ:=by
 refine' m5 (k:=8) (F:=_) g nJ (λhr hu cu nd=>?b) λds d hl h=>?_
 case b=>refine' (c9 (i7 (IE (II rfl) (PD.pb (K5 ["P", "Q"] [] [] rfl (G2 (sc:=c5 N2) (N:=eV)) (q9<|EG G4 hr<|eJ eu hr (c8 0)<|c8 1) (by rintro pins fp X2 ⟨s0,H1,C,rfl⟩;exact⟨(mJ (n:=2) rfl (C9 (o9 0 (show(["P", "Q"]:List Str).Nodup by decide+kernel)) (C9 (o9 1 (show(["P", "Q"]:List Str).Nodup by decide+kernel)) iG))),ED,(b9 l9 (PD.pb<|b9 j6 (PD.pb<|f9 (b8 0) c7)<|PD.pb<|f9 (b8 1) c7)<|PD.pb<|b9 j6 (PD.pb<|f9 (b8 0) c7)<|PD.pb<|f9 (b8 1) c7)⟩)<|λ_=>OR)))))
 match ds,h with
 |[.lst xs,.int a],h=>
  simp only[mQ]at h;split at h
  ·rename_i pts hw;rw[m9 hw];split at h
   ·rename_i hz;rw[<-h];obtain⟨ha,hp⟩:=hz;have sh:=qW ha hp;obtain⟨rs,rl⟩:=nN (a:=a) hp;generalize Y1 a pts=r at*
    have pr:Y0 [.lst (r.map j8)]=.ok (.lst (J5 (r.map j8)<|(r.tail++r.take 1).map j8)):=by rw[aBr,List.map_tail,List.map_take];exact if_pos (by rw[aAh];lia)
    have cm:=λ(G':D->Ev->R Ev) (fe:Ev->R D) (ρ:Ev) (h:∀P∈r,∀Q∈r.tail++r.take 1,∃ρ1,G' (.tup [j8 P,j8 Q]) ρ=.ok ρ1/\fe ρ1=.ok (.int (wJ P Q)))=>rO r (r.tail++r.take 1) h;have zl:(J5 (r.map j8)<|(r.tail++r.take 1).map j8).length<=sizeLine:=by unfold J5;rw[List.length_zipWith,aAh];exact small (aAu (Nat.min_le_left _ _) (by lia))
    simp only[j1,aAp,aCn,aAF,aBC,aAs,aAR,aCL,aCM,aBD,aBE,t7,w5,G7,D6,R.aa0,sh,pr,S9,if_pos zl];rw[show f6 ["P", "Q"] [] _=[.no,.no]from rfl];rw[cm _ _ _ λP hP Q hQ=>⟨[.v (j8 P),.v (j8 Q)],rfl,?_⟩]
    ·have sm:=Y2 (aBT wJ r<|r.tail++r.take 1);generalize(aBT wJ r<|r.tail++r.take 1).map D.int=L at*
     simp[QL,sm,yB]
    ·have sQ:Sz 1000 Q:=by
      rcases aAI.mp hQ with h|h
      ·exact rs Q (List.mem_of_mem_tail h)
      ·exact rs Q (aDw h)
     have sP:=rs P hP;have q1:=l5 (x6.of sP.1 sQ.2.1);have q2:=l5 (x6.of sP.2.1 sQ.1);have i:∀v:G.V,R1 (j8 v) (.int 0)=.ok (.int v.x)/\R1 (j8 v) (.int 1)=.ok (.int v.y):=λv=>⟨rfl,rfl⟩;simp[i,q1,q2,wJ]
   ·cases h
  ·cases h
end
end K43
namespace K43
open PySem L2 DL M
section
variable [Tabs]
variable{P:Program} {w:World} {K:PySem.W.Frag} {mg:bK} {base:Heap}
variable{ja xb ke nv:Addr}
def A4 (dg:mg "len"=none)(g:bI K mg "_law_cell_at" U5):v6 P w K mg base 1 "_law_cell_at" 2 D1:=by
 refine' m5 (k:=0) (F:=_) g lN (λhr hu cu nd=>?b) λds d hl h=>?_
 case b=>
  refine' (c6 (w6 (j2 DP (b8 1)<|PD.pb<|IE cG<|b8 0) (c9<|i7<|f9 (b8 0)<|c8 1) m6)
   (c9<|i7 c7))
 match ds,h with
 |[.lst xs,.int k],h=>
  simp only[D1]at h;split at h
  ·rename_i hz;obtain⟨h0,h1⟩:=hz;rw[<-h];by_cases hk:k<xs.length
   ·have e:xs[k.toNat]?=some xs[k.toNat]:=aAf (by lia);have e2:lX xs k=some xs[k.toNat]:=by rw[aT h0,e]
    simp[j1,hk,bU e2,wE,e]
   ·have e:xs[k.toNat]?=none:=aCi.mpr (by lia);simp[j1,hk,wE,e]
  ·cases h
def Z9 (g:bI K mg "_law_great" bA):v6 P w K mg base 1 "_law_great" 1 iT:=by
 refine' m5 (k:=0) (F:=_) g pS (λhr hu cu nd=>?b) λds d hl h=>?_
 case b=>
  refine' (c6 (i4 1 (b9 l7 (PD.pb<|b9 j6 p5<|PD.pb<|b9 D3 p5 p5) p5) nd)
   (c6 (i4 2 (b9 l9 (PD.pb<|b9 t8 (PD.pb<|b9 l7 (PD.pb<|b9 j6 (b8 0) p5)<|PD.pb<|b9 D3 p5 p5)<|b8 1)<|PD.pb<|b9 D3 p5 p5) nd)
   (c6 (i4 3 (b9 l9 (PD.pb<|b9 t8 (PD.pb<|b9 l7 (PD.pb<|b9 j6 (PD.pb<|b9 j6 (b8 0)<|b8 0) p5)<|PD.pb<|b9 D3 p5 p5)<|b8 1)<|PD.pb<|b9 D3 p5 p5) nd)
   (c9<|i7<|pA (c8 2) (c8 3)<|b9 l9 (PD.pb<|b9 t8 (PD.pb<|b9 l7 (PD.pb<|b9 j6 (PD.pb<|b9 j6 (b8 0)<|b8 0)<|b8 0)<|PD.pb<|b9 D3 p5 p5)<|b8 1)<|PD.pb<|b9 D3 p5 p5))))
 match ds,h with
 |[.int c],h=>
  simp only[iT]at h;split at h
  ·rename_i hb;rw[<-h]
   haveI:Bd c 2000000:=⟨hb⟩
   have e1:vD (.int 10) (.int 12)=.ok (.int 1000000000000):=rfl;have e2:(2000000000000:Int)+1=2000000000001:=rfl;simp[j1,e1,M0,Y4,oH,SL,YD]
  ·cases h
def aH (A4:v6 P w K mg base 1 "_law_cell_at" 2 D1)(Z9:v6 P w K mg base 1 "_law_great" 1 iT)(fu:mg "range"=none)(g:bI K mg "_law_near" D9):eG P w K mg base 2 "_law_near" 1 nW:=by
 refine' iE (k:=1) (F:=_) g uH (λhr hu cu nd=>?b) λds d hl h=>?_
 case b=>
  refine' (x5 (i4 1 (eJ A4 hr (c8 0) c7) nd)
   (x5 (i4 2 (b9 l7 p5<|PD.pb<|b9 t8 (PD.pb<|b9 w8 (b8 1) p5) p5) nd)
   (x5 (i4 3 (b9 l7 p5<|PD.pb<|b9 t8 (PD.pb<|b9 w8 (b8 1) p5) p5) nd)
   (x5 (i4 4 (b9 l7 p5<|PD.pb<|b9 t8 (PD.pb<|b9 w8 (b8 1) p5) p5) nd)
   (x5 (w6 (j2 (O5 hu) (PD.pb<|b9 t8 (PD.pb<|b9 w8 (b8 1) p5) p5) p5) (c9<|CV (pA (b9 l7 (PD.pb<|b9 j6 (b8 2)<|PD.pb<|b9 D3 p5 p5) p5) (b9 l7 (PD.pb<|b9 j6 (b8 3)<|PD.pb<|b9 D3 p5 p5) p5)<|b9 l7 (PD.pb<|b9 j6 (b8 4)<|PD.pb<|b9 D3 p5 p5) p5)<|mJ (n:=3) rfl<|C9 (o9 2 nd)<|C9 (o9 3 nd)<|C9 (o9 4 nd) iG) m6)
   (x5 (i4 5 (b9 t8 (b8 1) p5) nd)
   (mG (j2 (O5 hu) (b8 5) p5) (U4<|ER ["k"] ["a", "b", "c"] [2,3,4] rfl (G2 (sc:=c5 D9) (N:=N8)) (dQ<|F5 p5 S6) (IC λ_ _ _ _ _=>(pA (b9 j6 (PD.pb<|b9 t8 (b8 0) p5)<|b8 1) (b9 j6 (PD.pb<|b9 t8 (PD.pb<|b9 w8 (b8 0) p5) p5)<|b8 2)<|b9 j6 (PD.pb<|b9 w8 (b8 0) p5)<|b8 3))<|λ_=>p9)
   (mG (j2 (O5 hu) (b8 5) p5) (U4<|cE<|d9 (pA (c8 2) c7 c7)<|d9 (pA (b9 l9 p5<|b8 3) c7 c7)<|d9 (pA c7 (c8 3) c7)<|d9 (pA c7 (b9 l9 p5<|b8 4) c7)<|d9 (pA c7 c7<|c8 4)<|d9 (pA c7 c7<|b9 l9 p5<|b8 2) l3)
   (mG (j2 (O5 hu) (b8 5) p5) (x5 (S7 6 (cE<|d9 (vF c7 c7)<|d9 (vF (c8 2) c7)<|d9 (vF c7<|c8 3) l3) nd)
   (KU 6<|U4<|LI (PD.pb<|K5 ["spot"] [] [] rfl (G2 (sc:=c5 D9) (N:=N8)) (q9<|c8 6) (IC λ_ _ _ _ _=>(b9 l7 (b8 0)<|PD.pb<|pH<|d9 c7 l3))<|λ_=>p9)<|PD.pb<|K5 ["spot"] ["c", "a", "b"] [4,2,3] rfl (G2 (sc:=c5 D9) (N:=N8)) (q9<|c8 6) (IC λ_ _ _ _ _=>(pA (b9 l7 (PD.pb<|f9 (b8 0) c7)<|b8 1) (f9 (b8 0) c7)<|b9 l7 (b8 2)<|b8 3))<|λ_=>p9))
   (mG (j2 (O5 hu) (b8 5) p5) (U4<|LI (PD.pb<|K5 ["k"] [] [] rfl (G2 (sc:=c5 D9) (N:=N8)) (dQ<|F5 (PD.pb<|b9 l7 p5<|PD.pb<|b9 t8 (PD.pb<|b9 w8 (b8 1) p5) p5) S6) (IC λ_ _ _ _ _=>(pA (c8 0) (b9 j6 (b8 0)<|b8 0) c7))<|λ_=>p9)<|PD.pb<|mR<|d9 (pA (c8 2) (c8 3)<|c8 4) l3)
   (x5 (S7 6 (cE<|d9 (pA c7 c7 c7)<|d9 (pA (c8 2) c7 c7)<|d9 (pA c7 (c8 3) c7)<|d9 (pA c7 c7<|c8 4) l3) nd)
   (x5 (N3 aBe rfl (q9<|eN (b8 0) (C5 c7)<|C5 c7) (o9 1 nd)<|c9<|w6 (uN.pt<|U1 (j2 (O5 hu) (b8 5) p5)<|V8<|uN.pt<|sE (j2 (O5 hu) (b8 5) p5)<|nF<|j2 (O5 hu) (PD.pb<|b9 t8 (b8 1) p5) p5) (c9<|J4 6<|EG Z9 hr<|b9 w8 (b8 1) p5)<|c9<|J4 6<|pA (b9 l9 (PD.pb<|b9 t8 (b8 1) p5) p5) (b9 l9 (PD.pb<|b9 t8 (PD.pb<|b9 w8 (b8 1) p5) p5) p5)<|b9 l9 (PD.pb<|b9 t8 (PD.pb<|b9 w8 (b8 1) p5) p5) p5)
   (NH 6)))))))))))))
 match ds,h with
 |[.lst xs],h=>
  simp only[nW]at h;split at h
  ·rename_i hi;rw[<-h];obtain⟨e0,hb⟩:=IJ hi 0 (by decide);have e0:D1 [.lst xs,.int 0]=.ok (.int (cI xs 0)):=e0;generalize cI xs 0=c at*
   have hp:=uL c;have p6:vD (.int 10) (.int 6)=.ok (.int 1000000):=rfl;have p7:vD (.int 10) (.int 7)=.ok (.int 10000000):=rfl;have p8:vD (.int 10) (.int 8)=.ok (.int 100000000):=rfl;have d7:U6 (.int c) (.int 7)=.ok (.int (c.fdiv 7)):=A6 (by decide) (by decide);have d14:U6 (.int c) (.int 14)=.ok (.int (c.fdiv 14)):=A6 (by decide) (by decide);have d42:U6 (.int c) (.int 42)=.ok (.int (c.fdiv 42)):=A6 (by decide) (by decide);have d126:U6 (.int c) (.int 126)=.ok (.int (c.fdiv 126)):=A6 (by decide) (by decide);have d378:U6 (.int c) (.int 378)=.ok (.int (c.fdiv 378)):=A6 (by decide) (by decide);have mm:∀(x:Int) {k:Int},0<k->oO (.int x) (.int k)=.ok (.int (x.fmod k)):=λx k hk=>Y4 hk;have m3:=λx=>mm x (show(0:Int)<3 by decide);have m2:=λx=>mm x (show(0:Int)<2 by decide);have m7:=λx=>mm x (show(0:Int)<7 by decide);have m8:=λx=>mm x (show(0:Int)<8 by decide);clear mm;unfold eU;simp only[j1,aAp,aCn,aAF,aBC,aAs,aAR,aCL,aCM,aBD,aBE];refine K9 (ρ:=[.v (.lst xs),.v (.int c),.no,.no,.no,.no,.no]) (by simp[e0]) ?_;refine K9 (ρ:=[.v (.lst xs),.v (.int c),.v (.int (1+(c.fdiv 14).fmod 3)),.no,.no,.no,.no]) (by simp[d14,m3]) ?_;refine K9 (ρ:=[.v (.lst xs),.v (.int c),.v (.int (1+(c.fdiv 14).fmod 3)),.v (.int (1+(c.fdiv 42).fmod 3)),.no,.no,.no]) (by simp[d42,m3]) ?_;refine K9 (ρ:=[.v (.lst xs),.v (.int c),.v (.int (1+(c.fdiv 14).fmod 3)),.v (.int (1+(c.fdiv 42).fmod 3)),.v (.int (1+(c.fdiv 126).fmod 3)),.no,.no]) (by simp[d126,m3]) ?_;refine K9 (ρ:=[.v (.lst xs),.v (.int c),.v (.int (cD c).1),.v (.int (cD c).2.1),.v (.int (cD c).2.2),.no,.no]) ?_ ?_
   ·have f1:=B5 (a:=c.fdiv 14) (b:=3) (by decide);have f2:=B5 (a:=c.fdiv 42) (b:=3) (by decide);have f3:=B5 (a:=c.fdiv 126) (b:=3) (by decide);unfold cD
    haveI:Bd (1+(c.fdiv 14).fmod 3) 10:=⟨o8 (by lia) (by lia)⟩
    haveI:Bd (1+(c.fdiv 42).fmod 3) 10:=⟨o8 (by lia) (by lia)⟩
    haveI:Bd (1+(c.fdiv 126).fmod 3) 10:=⟨o8 (by lia) (by lia)⟩
    by_cases hq:(c.fdiv 7).fmod 2=1
    ·generalize 1+(c.fdiv 14).fmod 3=a at*
     generalize 1+(c.fdiv 42).fmod 3=b at*
     generalize 1+(c.fdiv 126).fmod 3=e at*
     simp[d7,m2,hq,p6,p7,p8,M0,JW,gE,U8,pF]
    ·simp[d7,m2,hq]
   ·generalize(cD c).1=a at*
    generalize(cD c).2.1=b at*
    generalize(cD c).2.2=e at*
    obtain⟨⟨a0,a1⟩,⟨b0,b1⟩,⟨c0,c1⟩⟩:=hp
    haveI Ba:Bd a 40:=⟨o8 (by lia) (by lia)⟩
    haveI Bb:Bd b 40:=⟨o8 (by lia) (by lia)⟩
    haveI Be:Bd e 40:=⟨o8 (by lia) (by lia)⟩
    refine K9 (ρ:=[.v (.lst xs),.v (.int c),.v (.int a),.v (.int b),.v (.int e),.v (.int (c.fmod 7)),.no]) (by simp[m7]) ?_;by_cases k0:c.fmod 7=0
    ·rw[if_pos k0];refine mH (by simp[k0]) ?_;have hr:gM [.int 8]=.ok ((aBc 8).map λ(k:Nat)=>D.int (k:Int)):=ez (n:=8) (by decide);have hl:((aBc 8).map λ(k:Nat)=>D.int (k:Int)).length<=sizeLine:=by rw[aAh,aDs];decide
     have eb:(OJ a b e).map vd=(aBc 8).map λ(k:Nat)=>vd ⟨(k:Int).fmod 2*a,((k:Int).fdiv 2).fmod 2*b,(k:Int).fdiv 4*e⟩:=aBB ..;rw[eb];simp only[k0,L6,Q9,R.aa0,N1,IU,rL,beq_self_eq_true,if_true,t7,w5,hr];rw[LG hl (J8 (λ(k:Nat)=>D.int (k:Int)) (λ(k:Nat)=>vd ⟨(k:Int).fmod 2*a,((k:Int).fdiv 2).fmod 2*b,(k:Int).fdiv 4*e⟩) (aBc 8) λk hk=>⟨[.v (.int (k:Int)),.v (.int a),.v (.int b),.v (.int e)],rfl,?_⟩)]
     ·rfl
     ·have hk8:=aBl.mp hk;have d2:U6 (.int (k:Int)) (.int 2)=.ok (.int ((k:Int).fdiv 2)):=A6 (by decide) (by decide);have d4:U6 (.int (k:Int)) (.int 4)=.ok (.int ((k:Int).fdiv 4)):=A6 (by decide) (by decide)
      haveI:Bd (((k:Int)).fmod 2) 3:=⟨A5 (by decide) (by decide)⟩
      haveI:Bd (((k:Int).fdiv 2).fmod 2) 3:=⟨A5 (by decide) (by decide)⟩
      haveI:Bd (((k:Int).fdiv 4)) 10:=⟨bits_fdiv (o8 (by lia) (by lia))⟩
      simp[m2,d2,d4,M0]
    ·rw[if_neg k0];refine uR (by simp[k0]) ?_;by_cases k1:c.fmod 7=1
     ·rw[if_pos k1];refine mH (by simp[k1]) ?_;simp[k1,yQ,wK,sizeLine]
     ·rw[if_neg k1];refine uR (by simp[k1]) ?_;by_cases k2:c.fmod 7=2
      ·rw[if_pos k2];refine mH (by simp[k2]) ?_;have ad:∀x y:List D,x.length+y.length<=1000->RZ (.lst x) (.lst y)=.ok (x++y):=λx y h=>DZ (small h);simp[k2,yR,wK,sizeLine,M1,f6,SO,ad]
      ·rw[if_neg k2];refine uR (by simp[k2]) ?_;by_cases k3:c.fmod 7=3
       ·rw[if_pos k3];refine mH (by simp[k3]) ?_;obtain⟨n,en,hn,et⟩:=MF c;have hr:=ez (n:=n) (aAu hn (by decide));have hl:=QI n (aAu hn (by decide));rw[et,RU];simp only[k3,L6,Q9,R.aa0,N1,IU,rL,beq_self_eq_true,if_true,t7,w5,d378,m8,DK];rw[en,hr,R.aa0];rw[IV hl (J8 (λ(k:Nat)=>D.int (k:Int)) (λ(k:Nat)=>vd ⟨(k:Int),(k:Int)*(k:Int),0⟩) (aBc n) λk hk=>⟨[.v (.int (k:Int))],rfl,?_⟩)]
        ·rw[R.aa0];simp only[G7,D6,R.aa0,ZB,aw];rw[DZ (small (by rw[aAh,aDs];exact aAu (Nat.add_le_add_right hn 1) (by decide)))];rfl
        ·have hk8:=aBl.mp hk
         haveI:Bd (k:Int) 10:=⟨o8 (by lia) (by lia)⟩
         simp[M0]
       ·rw[if_neg k3];refine uR (by simp[k3]) ?_;refine K9 (ρ:=[.v (.lst xs),.v (.int c),.v (.int a),.v (.int b),.v (.int e),.v (.int (c.fmod 7)),.o ((kG a b e).map vd)]) ?_ ?_
        ·simp[kG,show 4<=sizeLine by decide]
        ·obtain⟨t1,t2,t3⟩:=rR hi;have sl:tH (.lst xs) (some 4) (some 9)=.ok (.lst ((xs.drop 4).take 5)):=OV xs 4 9 (by decide);rw[t1]at sl;simp only[Q9,N1,R.aa0,YR,sl,dC];refine ON (λrest ρ=>∃(acc:List G.V) (es:List Int) (x:Sl),ρ=[.v (.lst xs),x,.v (.int a),.v (.int b),.v (.int e),.v (.int (c.fmod 7)),.o (acc.map vd)]/\rest=es.map D.int/\(∀i∈es,bits i<=1048576)/\acc.length+es.length<=9/\acc++es.map (AQ c)=kG a b e++(bO xs).map (AQ c)) ?_ ⟨kG a b e,bO xs,_,rfl,rfl,t3,by simp[kG];lia,rfl⟩ ?_
         ·rintro d ds ρ ⟨acc,es,x,rfl,e1,hb2,hl,e2⟩;match es,e1 with
          |i::es,e1=>
           injection e1 with e3 e4;subst e3 e4;have hbi:=hb2 i (.head _);have hz:(acc.map vd).length<sizeLine:=by rw[aAh];simp only[aAs]at hl;exact aBY (show acc.length<=1000 by lia) (by decide)
           have dd:∀k:Int,0<k->k<100->U6 (.int i) (.int k)=.ok (.int (i.fdiv k)):=λk h1 h2=>A6 h1 (by lia);have d2:=dd 2 (by decide) (by decide);have d7:=dd 7 (by decide) (by decide);have d49:=dd 49 (by decide) (by decide);clear dd;have ap:∀v:G.V,yO 6 [.v (.lst xs),.v (.int i),.v (.int a),.v (.int b),.v (.int e),.v (.int (c.fmod 7)),.o (acc.map vd)] (vd v)=.ok (.nx [.v (.lst xs),.v (.int i),.v (.int a),.v (.int b),.v (.int e),.v (.int (c.fmod 7)),.o ((acc++[v]).map vd)]):=λv=>by show(if(acc.map vd).length<sizeLine then _ else _)=_;rw[if_pos hz,aBr];rfl
           have gr:iT [.int (i.fdiv 2)]=.ok (vd<|oH<|i.fdiv 2):=if_pos (f7<|bits_fdiv hbi);refine⟨[.v (.lst xs),.v (.int i),.v (.int a),.v (.int b),.v (.int e),.v (.int (c.fmod 7)),.o ((acc++[AQ c i]).map vd)],?_,acc++[AQ c i],es,_,rfl,rfl,λj hj=>hb2 j (.tail _ hj),by simp at hl⊢;lia,by rw[<-e2];simp⟩;rw[<-ap];unfold AQ;by_cases k5:c.fmod 7=5
           ·rw[if_pos (.inl k5)];simp[k5,d2,gr]
           ·by_cases k6:c.fmod 7=6
            ·by_cases o2:i.fmod 2=1
             ·rw[if_pos (.inr ⟨k6,o2⟩)];simp[k6,m2,o2,d2,gr]
             ·rw[if_neg (λz=>z.elim k5 λz=>o2 z.2)];simp[k6,m2,o2,d7,d49,m7]
            ·rw[if_neg (λz=>z.elim k5 λz=>k6 z.1)];simp[k5,k6,d7,d49,m7]
         ·rintro ρ ⟨acc,es,x,rfl,e1,hb2,hl,e2⟩;have:es=[]:=by simpa using e1.symm
          subst this;rw[aCn,aBV]at e2;rw[<-e2];rfl
  ·cases h
def Z7 (A4:v6 P w K mg base 1 "_law_cell_at" 2 D1)(g:bI K mg "_law_moved" aN):v6 P w K mg base 2 "_law_moved" 2 mB:=by
 refine' m5 (k:=1) (F:=_) g pM (λhr hu cu nd=>?b) λds d hl h=>?_
 case b=>
  refine' (c6 (CV (c8 0)<|mJ (n:=3) rfl<|C9 (o9 2 nd)<|C9 (o9 3 nd)<|C9 (o9 4 nd) iG)
   (c6 (i4 5 (eJ A4 hr (c8 1) c7) nd)
   (c6 (i4 6 (f9 (PD.pb<|mR<|d9 c7<|d9 (b9 D3 p5 p5) l3)<|b9 t8 (b8 5) p5) nd)
   (c6 (i4 2 (b9 l7 (b8 2)<|PD.pb<|b9 j6 (PD.pb<|b9 t8 (PD.pb<|b9 w8 (b8 5) p5)<|b8 6)<|b8 3) nd)
   (c6 (i4 3 (b9 l9 (b8 3)<|PD.pb<|b9 j6 (PD.pb<|b9 t8 (PD.pb<|b9 w8 (PD.pb<|b9 j6 (b8 5)<|b8 5) p5)<|b8 6)<|b8 4) nd)
   (c6 (i4 4 (b9 l7 (b8 4)<|PD.pb<|b9 j6 (PD.pb<|b9 t8 (PD.pb<|b9 w8 (PD.pb<|b9 j6 (b8 5) p5) p5)<|b8 6)<|b8 2) nd)
   (c6 (w6 (j2 (O5 hu) (PD.pb<|b9 t8 (PD.pb<|b9 w8 (b8 5) p5) p5) p5) (c9<|KP 2 4 rfl nd<|d9 (c8 4)<|d9 (c8 2) l3) m6)
   (c6 (i4 7 (eJ A4 hr (c8 1) c7) nd)
   (c6 (i4 6 (b9 l7 (PD.pb<|b9 j6 p5<|PD.pb<|b9 D3 p5 p5) p5) nd)
   (c6 (i4 2 (b9 l9 (PD.pb<|b9 l7 (b8 2)<|PD.pb<|b9 t8 (PD.pb<|b9 l7 (PD.pb<|b9 j6 (b8 7) p5)<|PD.pb<|b9 D3 p5 p5)<|b8 6)<|PD.pb<|b9 D3 p5 p5) nd)
   (c6 (i4 3 (b9 l9 (PD.pb<|b9 l7 (b8 3)<|PD.pb<|b9 t8 (PD.pb<|b9 l7 (PD.pb<|b9 j6 (PD.pb<|b9 j6 (b8 7)<|b8 7) p5)<|PD.pb<|b9 D3 p5 p5)<|b8 6)<|PD.pb<|b9 D3 p5 p5) nd)
   (c9<|i7<|pA (c8 2) (c8 3)<|b9 l9 (PD.pb<|b9 l7 (b8 4)<|PD.pb<|b9 t8 (PD.pb<|b9 l7 (PD.pb<|b9 j6 (PD.pb<|b9 j6 (b8 7)<|b8 7)<|b8 7)<|PD.pb<|b9 D3 p5 p5)<|b8 6)<|PD.pb<|b9 D3 p5 p5))))))))))))
 match ds,h with
 |[.tup [.int a,.int b,.int c],.lst xs],h=>
  simp only[mB]at h;split at h
  ·rename_i hz;obtain⟨hi,sP⟩:=hz;rw[<-h];obtain⟨e1,h1⟩:=IJ hi 1 (by decide);obtain⟨e2,h2⟩:=IJ hi 2 (by decide);have e1:D1 [.lst xs,.int 1]=.ok (.int (cI xs 1)):=e1;have e2:D1 [.lst xs,.int 2]=.ok (.int (cI xs 2)):=e2;generalize cI xs 1=k at*
   generalize cI xs 2=f at*
   obtain⟨hm1,ji,hm3⟩:=NQ k
   haveI:Bd k 1048576:=⟨h1⟩
   haveI:Bd f 1048576:=⟨h2⟩
   haveI:Bd a 100:=⟨sP.1⟩
   haveI:Bd b 100:=⟨sP.2.1⟩
   haveI:Bd c 100:=⟨sP.2.2⟩
   have p6:vD (.int 10) (.int 6)=.ok (.int 1000000):=rfl;have p20:vD (.int 10) (.int 20)=.ok (.int 100000000000000000000):=rfl;have m2:∀x:Int,oO (.int x) (.int 2)=.ok (.int (x.fmod 2)):=λx=>Y4 (by decide);have mM:∀x:Int,oO (.int x) (.int (EW k))=.ok (.int (x.fmod<|EW k)):=λx=>Y4 ji;have bM:∀x:Int,Bd (x.fmod<|EW k) 20:=λx=>⟨A5 ji hm3⟩;have dd:∀(x:Int) {j:Int},0<j->j<100->U6 (.int x) (.int j)=.ok (.int (x.fdiv j)):=λx j h1 h2=>A6 h1 (by lia);have d4:=λx=>dd x (show(0:Int)<4 by decide) (by decide);have d2:=λx=>dd x (show(0:Int)<2 by decide) (by decide);have d16:=λx=>dd x (show(0:Int)<16 by decide) (by decide);clear dd;unfold bG;dsimp only
   haveI:=bM (k.fdiv 4)
   haveI:=bM ((k*k).fdiv 16)
   haveI:=bM ((k*48611).fdiv 4)
   generalize EW k=Mk at*
   simp only[j1,aAp,aCn,aAF,aBC,aAs,aAR,aCL,aCM,aBD,aBE];refine o5 (by simp[JW,gE,U8,pF];rfl) ?_;refine o5 (by simp[e1];rfl) ?_;refine o5 (by simp[p6,m2,hm1];rfl) ?_;obtain⟨s1,es1⟩:∃s1,(k.fdiv 4).fmod Mk=s1:=⟨_,rfl⟩;obtain⟨s2,lb⟩:∃s2,((k*k).fdiv 16).fmod Mk=s2:=⟨_,rfl⟩;obtain⟨s3,es3⟩:∃s3,((k*48611).fdiv 4).fmod Mk=s3:=⟨_,rfl⟩;rw[es1,lb,es3]
   haveI:Bd s1 20:=es1▸bM _
   haveI:Bd s2 20:=lb▸bM _
   haveI:Bd s3 20:=es3▸bM _
   obtain⟨x1,ex1⟩:∃x1,a+s1*b=x1:=⟨_,rfl⟩
   haveI:Bd x1 300:=⟨by rw[<-ex1];exact f7 (Bd.h (a:=a+s1*b))⟩
   obtain⟨y1,ey1⟩:∃y1,b-s2*c=y1:=⟨_,rfl⟩;obtain⟨z1,ez1⟩:∃z1,c+s3*x1=z1:=⟨_,rfl⟩;rw[ex1,ey1,ez1];refine o5 (by simp[d4,mM,M0,es1,ex1];rfl) ?_;refine o5 (by simp[d16,mM,M0,lb,ey1];rfl) ?_;refine o5 (by simp[d4,mM,M0,es3,ez1];rfl) ?_;refine o5 (ρ:=[.v (.tup [.int a,.int b,.int c]),.v (.lst xs),.v (.int (if(k.fdiv 2).fmod 2=1 then z1 else x1)),.v (.int y1),.v (.int (if(k.fdiv 2).fmod 2=1 then x1 else z1)),.v (.int k),.v (.int Mk),.no]) ?_ ?_
   ·by_cases hq:(k.fdiv 2).fmod 2=1
    ·simp[d2,m2,hq,JW,gE,U8,pF]
    ·simp[d2,m2,hq]
   ·generalize(if(k.fdiv 2).fmod 2=1 then z1 else x1)=x2;generalize(if(k.fdiv 2).fmod 2=1 then x1 else z1)=z2;have eM:(2:Int)*100000000000000000000+1=PC:=rfl;have mT:∀x:Int,oO (.int x) (.int PC)=.ok (.int (x.fmod PC)):=λx=>Y4 (by decide);have eT:(100000000000000000000:Int)=EM:=rfl;refine o5 (by simp[e2];rfl) ?_;refine o5 (by simp only[N1,R.aa0,p20,M0 (show(2:Nat)<=60000000 by decide) (show(67:Nat)<=60000000 by decide),DK,eM,aBI,aBJ];rfl) ?_;refine o5 (by rw[<-eT]at*;simp[p20,mT,M0];rfl) ?_;refine o5 (by rw[<-eT]at*;simp[p20,mT,M0];rfl) ?_;rw[<-eT];simp[p20,mT,M0]
  ·cases h
section
seal PySem.eval
def bP (g:bI K mg "_law_flat" bW):v6 P w K mg base 1 "_law_flat" 2 aU:=by
 refine' m5 (k:=0) (F:=_) g rY (λhr hu cu nd=>?b) λds d hl h=>?_
 case b=>refine' (c9<|i7<|f9 (PD.pb<|mR<|d9 (vF (f9 (b8 0) c7)<|f9 (b8 0) c7)<|d9 (vF (f9 (b8 0) c7)<|f9 (b8 0) c7)<|d9 (vF (f9 (b8 0) c7)<|f9 (b8 0) c7) l3)<|c8 1)
 match ds,h with
 |[p,.int a],h=>
  simp only[aU]at h;split at h
  ·rename_i P' e1;rw[rG e1];split at h
   ·rename_i hz;rw[<-h];rcases(show a=0\/a=1\/a=2 by lia)with rfl|rfl|rfl<;>simp[j1,vd,bJ,j8,jC,wK,sizeLine,R1,lX,OI]
   ·exact absurd h (by simp)
  ·exact absurd h (by simp)
end
def P7 (g:bI K mg "_law_turn" bQ):v6 P w K mg base 1 "_law_turn" 3 dF:=by
 refine' m5 (k:=0) (F:=_) g uD (λhr hu cu nd=>?b) λds d hl h=>?_
 case b=>
  refine' (c6 (i4 3 (b9 j6 (PD.pb<|b9 l9 (PD.pb<|f9 (b8 1) c7)<|PD.pb<|f9 (b8 0) c7)<|PD.pb<|b9 l9 (PD.pb<|f9 (b8 2) c7)<|PD.pb<|f9 (b8 0) c7) nd)
   (c9<|i7<|b9 l9 (b8 3)<|PD.pb<|b9 j6 (PD.pb<|b9 l9 (PD.pb<|f9 (b8 1) c7)<|PD.pb<|f9 (b8 0) c7)<|PD.pb<|b9 l9 (PD.pb<|f9 (b8 2) c7)<|PD.pb<|f9 (b8 0) c7))
 unfold dF at h;split at h
 ·rename_i a b c d e f;split at h
  ·rename_i hz;rw[<-h];obtain⟨h1,h2,h3⟩:=hz;have s1:=h1.sub h2;have s2:=h1.sub h3;have i:∀x y:Int,R1 (.tup [.int x,.int y]) (.int 0)=.ok (.int x)/\R1 (.tup [.int x,.int y]) (.int 1)=.ok (.int y):=λ_ _=>⟨rfl,rfl⟩;have m1:=l5 (x6.of s1.1 s2.2);have m2:=l5 (x6.of s1.2 s2.1);simp[j1,i,m1,m2,lU]
  ·exact absurd h (by simp)
 ·exact absurd h (by simp)
def T8 (g:bI K mg "_law_between" V3):v6 P w K mg base 1 "_law_between" 3 gS:=by
 refine' m5 (k:=0) (F:=_) g lT (λhr hu cu nd=>?b) λds d hl h=>?_
 case b=>
  refine' (c6 (i4 3 (b9 l7 (PD.pb<|b9 j6 (PD.pb<|b9 l9 (PD.pb<|f9 (b8 1) c7)<|PD.pb<|f9 (b8 0) c7)<|PD.pb<|b9 l9 (PD.pb<|f9 (b8 2) c7)<|PD.pb<|f9 (b8 0) c7)<|PD.pb<|b9 j6 (PD.pb<|b9 l9 (PD.pb<|f9 (b8 1) c7)<|PD.pb<|f9 (b8 0) c7)<|PD.pb<|b9 l9 (PD.pb<|f9 (b8 2) c7)<|PD.pb<|f9 (b8 0) c7) nd)
   (c6 (i4 4 (b9 l7 (PD.pb<|b9 DI (PD.pb<|b9 l9 (PD.pb<|f9 (b8 1) c7)<|PD.pb<|f9 (b8 0) c7) p5)<|PD.pb<|b9 DI (PD.pb<|b9 l9 (PD.pb<|f9 (b8 1) c7)<|PD.pb<|f9 (b8 0) c7) p5) nd)
   (c9<|i7<|zM (nE KT p5<|b8 3)<|AN<|nE KT (b8 3)<|b8 4)))
 unfold gS at h;split at h
 ·rename_i a b c d e f;split at h
  ·rename_i hz;rw[<-h];obtain⟨h1,h2,h3⟩:=hz;have s1:=h1.sub h2;have s2:=h1.sub h3;have i:∀x y:Int,R1 (.tup [.int x,.int y]) (.int 0)=.ok (.int x)/\R1 (.tup [.int x,.int y]) (.int 1)=.ok (.int y):=λ_ _=>⟨rfl,rfl⟩;have m1:=l5 (x6.of s1.1 s2.1);have m2:=l5 (x6.of s1.2 s2.2);have p1:=EA s1.1;have p2:=EA s1.2;simp only[pK,yW];by_cases q:0<=(c-a)*(e-a)+(d-b)*(f-b)
   ·simp[j1,i,m1,m2,p1,p2,q];exact decide_eq_decide.mpr Iff.rfl
   ·simp[j1,i,m1,m2,p1,p2,q]
  ·exact absurd h (by simp)
 ·exact absurd h (by simp)
def U7 (P7:v6 P w K mg base 1 "_law_turn" 3 dF)(T8:v6 P w K mg base 1 "_law_between" 3 gS)(g:bI K mg "_law_goes_on" V0):v6 P w K mg base 2 "_law_goes_on" 3 eF:=by
 refine' m5 (k:=1) (F:=_) g lZ (λhr hu cu nd=>?b) λds d hl h=>?_
 case b=>
  refine' (c6 (N3 aBe rfl (q9<|c8 2) (o9 3 nd) (c6 (i4 4 (cq P7 hr (c8 0) (c8 1)<|c8 3) nd)
   (c9<|w6 (uN.pt<|U1 (j2 DP (b8 4) p5)<|V8<|uN.pt<|sE (j2 (O5 hu) (b8 4) p5)<|nF<|aG<|J0<|cq T8 hr (c8 0) (c8 1)<|c8 3) (c9<|i7 gU) m6)))
   (c9<|i7<|nE (cA hu) (b8 0)<|b8 1))
 unfold eF at h;split at h
 ·rename_i a b c d xs;split at h
  ·rename_i S e1;obtain⟨e2,hz⟩:=jV e1;subst e2;split at h
   ·rename_i hc;rw[<-h];obtain⟨hA,hB,hS⟩:=hc;obtain⟨A,eA⟩:∃A:G.V,A=⟨a,b,0⟩:=⟨_,rfl⟩;obtain⟨B,eB⟩:∃B:G.V,B=⟨c,d,0⟩:=⟨_,rfl⟩;have dA:(.tup [.int a,.int b]:D)=j8 A:=by rw[eA];rfl
    have dB:(.tup [.int c,.int d]:D)=j8 B:=by rw[eB];rfl
    have hA:B2 A.x A.y:=by rw[eA];exact hA
    have hB:B2 B.x B.y:=by rw[eB];exact hB
    have zA:A.z=0:=by rw[eA]
    have zB:B.z=0:=by rw[eB]
    rw[<-eA,<-eB,dA,dB];clear eA eB dA dB h;have ne:=cw zA zB;simp only[j1,aAp,aCn,aAF,aBC,aAs,aAR,aCL,aCM,aBD,aBE,G7,D6,R.aa0,S9];refine SM (x:=.bl false) j8 (λC=>¬(0<=lU A B C/\(lU A B C=0->0<=pK A B C/\pK A B C<=yW A B))) (λρ=>∃c e,ρ=[.v (j8 A),.v (j8 B),.v (.lst (S.map j8)),c,e]) ⟨_,_,rfl⟩ ?_ ?_ ?_
    ·skip
     rintro C hC ρ ⟨x,y,rfl⟩;have tu:=xT hA hB (hS C hC);have be:=LJ hA hB (hS C hC);have e0:∀t:Int,FE (.int t) (.int 0)=.ok (.bl (decide (t=0))):=λ_=>rfl;by_cases q1:lU A B C<0
     ·refine .inl ⟨λz=>by lia,?_⟩;simp[tu,q1]
     ·by_cases q2:lU A B C=0
      ·by_cases q3:0<=pK A B C/\pK A B C<=yW A B
       ·refine .inr ⟨λz=>z ⟨by lia,λ_=>q3⟩,[.v (j8 A),.v (j8 B),.v (.lst (S.map j8)),.v (j8 C),.v (.int (lU A B C))],?_,_,_,rfl⟩;simp[tu,q2,be,e0,q3.1,q3.2]
       ·refine .inl ⟨λz=>q3 (z.2 q2),?_⟩;have b2:(decide (0<=pK A B C)&&decide (pK A B C<=yW A B))=false:=by rw[<-Bool.not_eq_true,aAL,decide_eq_true_eq,decide_eq_true_eq];exact q3
        rw[b2]at be;simp[tu,q2,be,e0]
      ·refine .inr ⟨λz=>z ⟨by lia,λw=>absurd w q2⟩,[.v (j8 A),.v (j8 B),.v (.lst (S.map j8)),.v (j8 C),.v (.int (lU A B C))],?_,_,_,rfl⟩;simp[tu,q1,q2,e0]
    ·rintro⟨C,hC,z⟩;rw[show mX S A B=false from Bool.eq_false_iff.mpr λw=>z ((cV.mp w).2 C hC)]
    ·rintro z ρ ⟨x,y,rfl⟩;simp only[L6,Q9,R.aa0,ne];show R.ok (D.bl (!decide (A=B)))=_;congr 2;by_cases e:A=B
     ·rw[decide_eq_true e,show mX S A B=false from Bool.eq_false_iff.mpr λw=>(cV.mp w).1 e];rfl
     ·rw[decide_eq_false e,cV.mpr ⟨e,λC hC=>aES λw=>z ⟨C,hC,w⟩⟩];rfl
   ·exact absurd h (by simp)
  ·exact absurd h (by simp)
 ·exact absurd h (by simp)
def cP (U7:v6 P w K mg base 2 "_law_goes_on" 3 eF)(qr:mg "min"=none)(dg:mg "len"=none)(g:bI K mg "_law_ring" W3):v6 P w K mg base 8 "_law_ring" 1 gN:=by
 refine' m5 (k:=7) (F:=_) g tO (λhr hu cu nd=>?b) λds d hl h=>?_
 case b=>
  have ua:=hr.ad1 (by decide);refine' (c6 (S7 1 (cE<|d9 (nA (DO rfl ua)<|F5 (b8 0) S6) l3) nd)
   (c9 (cS (λ_=>100) aBe (J0 gU) (c6 (FI 2 1 ["spot"] ["spots", "found"] [0,1] nd rfl (G2 (sc:=c5 W3) (N:=kX)) (q9<|c8 0) (uw λ_ _ _ _ _=>⟨(J0<|cq U7 hr (f9 (b8 2)<|jF c7) (c8 0)<|c8 1),(c8 0)⟩)<|λ_=>p9)
   (c6 (w6 (uN.pt<|U1 (j2 (cA hu) (PD.pb<|IE cG<|b8 2) p5)<|U1 (j2 (O5 hu) (PD.pb<|f9 (b8 2) c7)<|PD.pb<|f9 (b8 1) c7)<|V8<|j2 yA (PD.pb<|IE cG<|b8 1)<|PD.pb<|IE cG<|b8 0) (c9<|DS 1<|i7<|c8 1) m6)
   (c9<|J4 1<|f9 (b8 2) c7))))))
 match ds,h with
 |[.lst xs],h=>
  simp only[gN]at h;split at h
  ·rename_i S e1;obtain⟨e2,hz⟩:=jV e1;subst e2;split at h
   ·rename_i hc;rw[<-h];obtain⟨sh,hS,hl⟩:=hc;have NX:=λj hj=>JG sh hz (j:=j) hj;obtain⟨m,r,er,hm,least⟩:=sh.aa8;have hn:=sh.aa3;have sub:=λX (hX:X∈G.i8 ⟨0,0,1⟩ S)=>sh.aa4 hX;generalize G.i8 ⟨0,0,1⟩ S=q at*
    have m1:=VI sh.ord hz hm least;have Rl:q.length<=S.length:=G.T0 hn (m:=S) sub;have Sl1:S.length<=sizeLine:=small (by lia);have R0:0<q.length:=by rw[er];simp
    have fin:q.take (q.length-1+1)=q:=aCG (by lia);simp only[j1,aAp,aCn,aAF,aBC,aAs,aAR,aCL,aCM,aBD,aBE];refine o5 (by simp[m1,show 1<=sizeLine by decide];rfl) ?_;have one:∀k,(hk:k<q.length)->∀x,(((aD 0<|M1 1 [.v (.lst (S.map j8)),.o ((q.take<|k+1).map j8),x]).bind dC).bind λds=>if ds.length<=sizeLine then(n6 (λd ρ=>R.ok (aDj ρ 0<|Sl.v d)) (λρ=>((o7 (λρ=>(vH 2 ρ).bind λx=>((SG (D.int 1) ρ).bind RV).bind λy=>R1 x y) (o7 (aD 0)<|o7 (aD 1) T4) ρ).bind eF).bind pJ) (aD 0) (f6 ["spot"] [0,1]<|M1 1 [.v (.lst (S.map j8)),.o ((q.take<|k+1).map j8),x]) ds).bind λrs=>R.ok rs else R.bad)=.ok [j8 (V5 q k)]:=λk hk x=>by
     have il:R1 (.lst ((q.take<|k+1).map j8)) (.int (-1))=.ok (j8 q[k]):=by
      have ln:(q.take<|k+1).length=k+1:=by rw[aBi];lia
      refine bU ?_;show lX ((q.take<|k+1).map j8) (-1)=_;unfold lX;have ix:OI ((q.take<|k+1).map j8).length (-1)=some k:=by rw[aAh,ln];unfold OI;rw[if_neg (by decide)];simp;try lia
      rw[ix];show((q.take<|k+1).map j8)[k]?=_;rw[aAK,List.getElem?_take,if_pos (by lia),aAf hk];rfl
     have hm:=sub _ (aBO hk);have e0:M1 1 [.v (.lst (S.map j8)),.o ((q.take<|k+1).map j8),x]=[.v (.lst (S.map j8)),.v (.lst ((q.take<|k+1).map j8)),x]:=rfl;rw[e0];simp-implicitDefEqProofs only[G7,D6,R.aa0,S9,aAh,if_pos Sl1];rw[dS j8 (mX S q[k]) j8 S ?h,NX k hk]
     case h=>intro X hX;have g:=MA (hz _ hm) (hz X hX) hz (hS _ hm) (hS X hX) hS;refine⟨[.v (j8 X),.v (.lst (S.map j8)),.v (.lst ((q.take<|k+1).map j8))],rfl,?_,λ_=>rfl⟩;have ng:RV (.int 1)=.ok (.int (-1)):=rfl;simp-implicitDefEqProofs only[t7,w5,L6,Q9,G7,D6,N1,R.aa0,ng,il,g,pJ]
     rfl
    have nx1:∀k,k+1<q.length->V5 q k≠m/\(q.take<|k+1).map j8++[j8 (V5 q k)]=(q.take<|k+2).map j8:=λk hk=>by
     have jg:k<r.length:=by rw[er]at hk;simpa using hk
     have e:V5 q k=r[k]:=by unfold V5;rw[er,List.tail_cons,aAq,aAN jg,aAf jg];rfl
     refine⟨λz=>?_,?_⟩
     ·rw[er]at hn;exact(aAJ.mp hn).1 (by rw[<-z,e];exact aBO jg)
     ·rw[e,er,aDI,aDI,List.take_succ_eq_append_getElem jg,aAp,aAp,aBr];rfl
    have nx2:V5 q (q.length-1)=m:=by unfold V5;rw[er];simp
    have f0:∀k,R1 (.lst ((q.take<|k+1).map j8)) (.int 0)=.ok (j8 m):=λk=>by rw[er,aDI,aAp];exact bU (by rw[aT (by decide)];rfl)
    have g0:∀X,R1 (.lst [j8 X]) (.int 0)=.ok (j8 X):=λ_=>rfl;have ln:∀k,k<q.length->(q.take<|k+1).length=k+1:=λk hk=>by rw[aBi];lia
    have n1:vV (.int ((([j8 m]:List D).length:Nat):Int)) (.int 1)=.ok (.bl false):=rfl;have zm:=hz m hm;refine(congrArg K3 (wU (d:=.lst (q.map j8)) (λk ρ=>∃x,ρ=[.v (.lst (S.map j8)),.o ((q.take<|k+1).map j8),x]) (q.length-1) (λ_=>rfl) ?s ?l 100 0 _ ⟨_,by rw[er];rfl⟩ (aAV _) (by lia))).trans rfl
    case s=>
     rintro k ρ hk ⟨x,rfl⟩;have o:=one k (by lia) x;obtain⟨ne,ap⟩:=nx1 k (by lia);have zn:(V5 q k).z=0:=by have E:=(NX k (by lia)).symm▸(aAU.mpr rfl:V5 q k∈[V5 q k]);exact hz _ (aCR.mp E).1
     generalize V5 q k=N at*
     refine BH (ρ:=[.v (.lst (S.map j8)),.o ((q.take<|k+1).map j8),.o [j8 N]]) (by rw[o];rfl) ?_;have eq:=TQ zn zm;rw[decide_eq_false ne]at eq;refine BH (ρ:=[.v (.lst (S.map j8)),.o ((q.take<|k+1).map j8),.o [j8 N]]) ?_ ?_
     ·have gt:WJ (.int ((k+1:Nat):Int)) (.int (S.length:Int))=.ok (.bl false):=by show R.ok (D.bl<|decide _)=_;rw[decide_eq_false (by lia)]
      have n1:vV (.int ((1:Nat):Int)) (.int 1)=.ok (.bl false):=rfl;simp-implicitDefEqProofs only[YE,t7,w5,L6,Q9,fS,N1,R.aa0,iZ,aAs,aAR,aAh,aEb,n1,g0,f0,eq,ln k (by lia),gt,pJ,aAn,if_false]
     ·refine⟨[.v (.lst (S.map j8)),.o ((q.take<|k+1).map j8++[j8 N]),.o [j8 N]],?_,_,by rw[ap]⟩;simp-implicitDefEqProofs only[L6,fS,N1,R.aa0,g0];exact if_pos (by rw[aAh,ln k (by lia)];exact aBY (show k+1<=60 by lia) (by decide))
    case l=>rintro ρ ⟨x,rfl⟩;have o:=one (q.length-1) (by lia) x;rw[nx2]at o;refine bx (ρ:=[.v (.lst (S.map j8)),.o ((q.take<|q.length-1+1).map j8),.o [j8 m]]) (by rw[o];rfl) ?_;have eq:=TQ zm zm;rw[decide_eq_true rfl]at eq;rw[fin];have f0:=f0 (q.length-1);rw[fin]at f0;have n1:vV (.int ((1:Nat):Int)) (.int 1)=.ok (.bl false):=rfl;simp-implicitDefEqProofs only[YE,t7,w5,L6,Q9,fS,N1,R.aa0,iZ,aAs,aAR,aEb,n1,g0,f0,eq,pJ,aAn,if_false,if_true];rfl
   ·exact absurd h (by simp)
  ·exact absurd h (by simp)
def cR (bP:v6 P w K mg base 1 "_law_flat" 2 aU)(cP:v6 P w K mg base 8 "_law_ring" 1 gN)(W9:v6 P w K mg base 9 "shadow_area" 2 mQ)(P7:v6 P w K mg base 1 "_law_turn" 3 dF)(eu:v6 P w K mg base 8 "shadow_of" 2 P4)(aE:eG P w K mg base 8 "shadow_of" 2 P4)(au:mg "sorted"=none)(jb:mg "set"=none)(ir:mg "list"=none)(bp:mg "isinstance"=none)(mn:mg "bool"=none)(qp:mg "int"=none)(qu:mg "tuple"=none)(qt:mg "sum"=none)(fu:mg "range"=none)(dg:mg "len"=none)(g:bI K mg "_law_good" J9):v6 P w K mg base 10 "_law_good" 2 gO:=by
 refine' m5 (k:=9) (F:=_) g uB (λhr hu cu nd=>?b) λds d hl h=>?_
 case b=>
  have ua:=hr.ad1 (by decide);refine' (c6 (i4 2 (PF.pd<|R8 (PD.pb<|K5 ["P"] ["axis"] [1] rfl (G2 (sc:=c5 J9) (N:=W7)) (q9<|c8 0) (IC λ_ _ _ _ _=>(eJ bP hr (c8 0)<|c8 1))<|λ_=>p9) rfl ua) nd)
   (c6 (i4 3 (EG cP hr<|c8 2) nd)
   (c6 (i4 4 (HN TH<|F5 (b8 0) S6) nd)
   (c6 (S7 5 (tW aE (hr.mono (by decide)) (d9 (c8 4)<|d9 (c8 1) l3)<|t0<|t0 G8) nd)
   (c6 (w6 (uN.pt<|U1 (aG<|J0<|cH IT<|b8 5)<|U1 (j2 (cA hu) (b8 5)<|b8 3)<|V8<|j2 (cA hu) (b8 4)<|b8 0) (c9<|i7 gU) m6)
   (c6 (IM 5 6 aBe rfl nd (uN.pt<|U1 (aG<|J0<|cH GG<|b8 6)<|V8<|j2 (cA hu) (PD.pb<|K5 ["x"] [] [] rfl (G2 (sc:=c5 J9) (N:=W7)) (DV<|c8 6) (uw λ_ _ _ _ _=>⟨(uN.pt<|U1 (aG<|J0<|cH tM<|b8 0)<|V8<|J0<|cH oM<|b8 0),(c8 0)⟩)<|λ_=>p9)<|PD.pb<|mR l3) gU)
   (c6 (i4 7 (eJ W9 hr (c8 4)<|c8 1) nd)
   (c6 (w6 (uN.pt<|U1 (aG<|J0<|cH tM<|b8 7)<|U1 (J0<|cH oM<|b8 7)<|V8<|j2 (cA hu) (b8 4)<|b8 0) (c9<|i7 gU) m6)
   (c6 (w6 (j2 (cA hu) (b8 7)<|PD.pb<|IE (II rfl)<|PD.pb<|K5 ["k"] ["due"] [3] rfl (G2 (sc:=c5 J9) (N:=W7)) (dQ<|F5 p5<|F5 (PD.pb<|b9 l9 (PD.pb<|IE cG<|b8 3) p5) S6) (IC λ_ _ _ _ _=>(cq P7 hr (f9 (b8 1) c7) (f9 (b8 1)<|c8 0)<|f9 (b8 1)<|b9 l7 (b8 0) p5))<|λ_=>p9) (c9<|i7 gU) m6)
   (c6 (HR 5)
   (c9<|i7<|nE (O5 hu) (PD.pb<|eJ eu hr (c8 4)<|c8 1)<|b8 3)))))))))))
 match ds,h with
 |[.lst xs,.int a],h=>
  simp only[gO]at h;split at h
  ·rename_i pts hw;rw[m9 hw];split at h
   ·rename_i hz;rw[<-h];obtain⟨ha,hp,hs⟩:=hz;have SH:=qW ha hp;have AR:=QB ha hp;have sh:=uS (a:=a) hs;obtain⟨⟨fs,_⟩,fl⟩:=tL (a:=a) hp;have zf:∀v∈pts.map (bJ a),v.z=0:=λv hv=>by obtain⟨P,_,rfl⟩:=aAm.mp hv;exact XC a P
    have SS:=YQ zf (by lia);have LR:=LA sh (λv hv=>zf v (n4.mp hv)) (λv hv=>⟨(fs v hv).1,(fs v hv).2.1⟩) fl;obtain⟨rs,rl⟩:=nN (a:=a) hp;obtain⟨m,r,er,_,_⟩:=sh.aa8;unfold Y1 at SH AR rs rl;have dL:=SA pts;have pl:pts.length<=sizeLine:=small (by have:=hp.2;lia);clear sh fs fl hs hp zf;generalize i5 (pts.map<|bJ a)=S at*
    generalize G.i8 ⟨0,0,1⟩ S=q at*
    have dR:=TD q;rw[er,GZ]at AR;have LF:∀P:G.V,aU [vd P,.int a]=.ok (j8<|bJ a P):=λP=>OO ha;simp only[j1,aAp,aCn,aAF,aBC,aAs,aAR,aCL,aCM,aBD,aBE];refine o5 (ρ:=[.v (.lst (pts.map vd)),.v (.int a),.v (.lst (S.map j8)),.no,.no,.no,.no,.no]) ?_ ?_
    ·simp-implicitDefEqProofs [pl,f6];rw[mS vd j8 (bJ a) pts ?h]
     case h=>exactλP _=>⟨[.v (vd P),.v (.int a)],rfl,LF P⟩
     simp-implicitDefEqProofs only[R.aa0,SS]
    refine o5 (ρ:=[.v (.lst (pts.map vd)),.v (.int a),.v (.lst (S.map j8)),.v (.lst (q.map j8)),.no,.no,.no,.no]) (by simp-implicitDefEqProofs only[t7,w5,G7,D6,R.aa0,LR];rfl) ?_;refine o5 (by simp-implicitDefEqProofs [UB];rfl) ?_;refine o5 (ρ:=[.v (.lst (pts.map vd)),.v (.int a),.v (.lst (S.map j8)),.v (.lst (q.map j8)),.v (.lst (pts.map vd)),.o (q.map j8),.no,.no]) (by simp-implicitDefEqProofs only[t7,w5,G7,D6,R.aa0,SH];rfl) ?_;have ne1:=uE dR;have ne2:=uE dL;have il:∀l:List D,xF "list" (.lst l)=true:=λ_=>rfl;refine o5 (by simp-implicitDefEqProofs only[YE,LC,L6,Q9,fS,R.aa0,il,ne1,ne2,pJ,aAn,if_false,aCy];rfl) ?_;refine MQ (ds:=q.map j8) (λρ=>∃z,ρ=[.v (.lst (pts.map vd)),.v (.int a),.v (.lst (S.map j8)),.v (.lst (q.map j8)),.v (.lst (pts.map vd)),.o (q.map j8),z,.no]) ?_ ⟨_,rfl⟩ ?_
    ·rintro d hd ρ ⟨z,rfl⟩;obtain⟨v,_,rfl⟩:=aAm.mp hd;refine⟨[.v (.lst (pts.map vd)),.v (.int a),.v (.lst (S.map j8)),.v (.lst (q.map j8)),.v (.lst (pts.map vd)),.o (q.map j8),.v (j8 v),.no],?_,_,rfl⟩;rfl
    rintro ρ ⟨z,rfl⟩;refine o5 (ρ:=[.v (.lst (pts.map vd)),.v (.int a),.v (.lst (S.map j8)),.v (.lst (q.map j8)),.v (.lst (pts.map vd)),.o (q.map j8),z,.v (.int (aBT (lU m) r r.tail).sum)]) (by simp-implicitDefEqProofs only[t7,w5,G7,D6,R.aa0,AR];rfl) ?_;generalize hA:(aBT (lU m) r r.tail).sum=A at*
    refine o5 (by simp-implicitDefEqProofs only[YE,LC,L6,Q9,R.aa0,show xF "int" (.int A)=true from rfl,show xF "bool" (.int A)=false from rfl,ne2,pJ,aAn,if_false,aCy];rfl) ?_;refine o5 (ρ:=[.v (.lst (pts.map vd)),.v (.int a),.v (.lst (S.map j8)),.v (.lst (q.map j8)),.v (.lst (pts.map vd)),.o (q.map j8),z,.v (.int A)]) ?_ ?_
    ·have ql:q.length=r.length+1:=by rw[er];rfl
     have sb:AW (.int (q.length:Int)) (.int 1)=.ok (.int (r.length:Int)):=by show R.ok (D.int _)=_;congr 2;lia
     have rg:gM [.int 1,.int (r.length:Int)]=.ok (qZ 1<|r.length-1):=xj (a:=1) (b:=r.length) (by decide) (by lia);have nl:(qZ 1<|r.length-1).length<=sizeLine:=by unfold qZ;rw[aAh,List.length_range'];exact small (by lia)
     have sm:QL [.lst ((aBT (lU m) r r.tail).map D.int)]=.ok (.int A):=by show(match kT _ with|some ns=>_|none=>_)=_;rw[M.Y2,<-hA]
     have n0:vV (.int A) (.int A)=.ok (.bl false):=uE (by simp[C1]);simp-implicitDefEqProofs only[t7,w5,L6,Q9,N1,R.aa0,iZ,aAh,sb,rg,if_pos nl];unfold qZ;rw[mS (λ(k:Nat)=>D.int (k:Int)) D.int (qx m r) (List.range' 1<|r.length-1) ?h,KI]
     case h=>
      intro k hk;obtain⟨k1,k2⟩:=List.mem_range'_1.mp hk;have g0:q[0]?=some m:=by rw[er];rfl
      have g1:q[k]?=some (r.getD (k-1) 0):=by rw[er,List.getElem?_cons,if_neg (by lia),aAq,aAf (by lia)];rfl
      have g2:q[k+1]?=some (r.getD k 0):=by rw[er,aDP,aAq,aAf (by lia)];rfl
      have b:∀{i:Nat} {v:G.V},q[i]?=some v->B2 v.x v.y:=λh=>have z:=rs _ (aAv h);⟨z.1,z.2.1⟩;have i0:R1 (.lst (q.map j8)) (.int 0)=_:=KH g0;have i2:R1 (.lst (q.map j8)) (.int ((k:Int)+1))=_:=KH g2;have ad:fL (.int (k:Int)) (.int 1)=.ok (.int ((k:Int)+1)):=rfl;refine⟨[.v (.int (k:Int)),.v (.lst (q.map j8))],rfl,?_⟩;simp-implicitDefEqProofs only[t7,w5,D6,L6,Q9,N1,R.aa0,i0,KH g1,ad,i2,xT (b g0) (b g1) (b g2)];rfl
     simp-implicitDefEqProofs only[R.aa0,sm,n0,pJ,aAn,if_false]
    refine o5 (ρ:=[.v (.lst (pts.map vd)),.v (.int a),.v (.lst (S.map j8)),.v (.lst (q.map j8)),.v (.lst (pts.map vd)),.o [],z,.v (.int A)]) rfl ?_;have eq1:FE (.lst (q.map j8)) (.lst (q.map j8))=.ok (.bl true):=by unfold FE;rw[if_pos ⟨dR,dR⟩,L9]
    simp-implicitDefEqProofs only[t7,w5,G7,D6,L6,Q9,R.aa0,SH,eq1];rfl
   ·cases h
  ·cases h
section
seal PySem.eval
def o_law {f:Addr}{fd:FuncData}(Z7:v6 P w K mg base 2 "_law_moved" 2 mB)(cR:v6 P w K mg base 10 "_law_good" 2 gO)(aH:eG P w K mg base 2 "_law_near" 1 nW)(fJ:eG P w K mg base 10 "body_of" 1 M6)(fu:mg "range"=none)(F0:Fun K "law" "law" eZ f fd):FnOk P w K mg base rE 11 f fd ["script"] (YB K 1 gK):=by
 refine' zw (k:=10) (F:=_) F0 MK (λcdv A outer s H E hr=>?b) λds d hl h=>?_
 case b=>
  have hu:=hr.units;have cu:=hr.ad8;have nd:=MK.nd;refine' (c6 (S7 1 (tW aH (hr.mono (by decide)) (d9 (c8 0) l3)<|t0 G8) nd)
   (c6 (N3 aBe rfl (q9<|b9 l7 (PD.pb<|mR<|d9 c7 l3)<|PD.pb<|eN (b8 0) (C5 c7)<|C5 c7) (o9 2 nd) (c6 (w6 (j2 (cA hu) (b8 2) p5) (c9<|J4 1<|pA (b9 l9 (PD.pb<|b9 t8 (b8 2) p5) p5) (b9 l9 (PD.pb<|b9 t8 (PD.pb<|b9 w8 (b8 2) p5) p5) p5)<|b9 l9 (PD.pb<|b9 t8 (PD.pb<|b9 w8 (b8 2) p5) p5) p5) m6)
   (c6 (JC 3 1 (tW fJ (hr.mono (by decide)) (d9 (K5 ["spot"] ["script"] [0] rfl (G2 (sc:=c5 eZ) (N:=UF)) (q9<|c8 1) (IC λ_ _ _ _ _=>(eJ Z7 hr (c8 0)<|c8 1))<|λ_=>p9) l3)<|t0 G8) nd)
   (c9<|N3 aBe rfl (dQ<|F5 p5 S6) (o9 4 nd)<|c9<|w6 (RW 3<|aG<|J0<|eJ cR hr (c8 3)<|c8 4) (c9<|i7 gU) m6))))
   (c9<|i7 gU)))
 match ds,h with
 |[.lst xs],h=>
  simp only[gK]at h;split at h
  ·rename_i hc;rw[<-h];obtain⟨hl,hi⟩:=hc;have NR:nW [.lst xs]=.ok (.lst ((eU (cI xs 0)<|bO xs).map vd)):=if_pos hi;obtain⟨z1,z2⟩:=QK (cI xs 0) (rR hi).2.1;have N0:Nr (eU (cI xs 0)<|bO xs) 2:=⟨z1,CD _ _,by lia⟩;generalize eU (cI xs 0) (bO xs)=pts at*
   have MV:∀P,Sz 100 P->mB [vd P,.lst xs]=.ok (vd<|bG (cI xs 1) (cI xs 2) P):=λP hP=>if_pos ⟨hi,hP⟩;generalize cI xs 1=k1 at*
   generalize cI xs 2=k2 at*
   have mem:∀d∈(xs.drop 9).take 1,∃i,d=.int i/\bits i<=1048576:=λd hd=>hi d (aDx<|aDw hd);have len:((xs.drop 9).take 1).length<=1:=List.length_take_le _ _;have sl:tH (.lst xs) (some 9) (some 10)=.ok (.lst ((xs.drop 9).take 1)):=OV xs 9 10 (by decide);have ad:fL (.lst [.int 0]) (.lst ((xs.drop 9).take 1))=.ok (.lst (.int 0::(xs.drop 9).take 1)):=rZ (small (by simp;lia));generalize(xs.drop 9).take 1=t at*
   simp only[j1,aAp,aCn,aAF,aBC,aAs,aAR,aCL,aCM,aBD,aBE];refine o5 (ρ:=[.v (.lst xs),.o (pts.map vd),.no,.no,.no]) (by simp-implicitDefEqProofs only[t7,w5,G7,D6,R.aa0,NR];rfl) ?_;refine ZU (x:=.int 0::t) ?_ ?_
   ·have l1:wK [.int 0]=.ok (.lst [.int 0]):=rfl;simp-implicitDefEqProofs [sl,ad,l1]
   refine gI (λds ρ=>∃l c a b,ρ=[.v (.lst xs),.o (l.map vd),c,a,b]/\Nr l ds.length/\∀d∈ds,∃i,d=.int i/\bits i<=1048576) ?_ ⟨pts,_,_,_,rfl,⟨N0.1,N0.2.1,by have:=N0.2.2;simp;lia⟩,λd hd=>?_⟩ (λ_ _=>rfl)
   ·rintro d ds ρ ⟨l,c,a,b,rfl,n1,n2⟩;obtain⟨i,rfl,hb⟩:=n2 d (.head _);have n2:=λd hd=>n2 d (.tail _ hd);simp-implicitDefEqProofs only[T5,aBI,aBJ];refine YT (λρ=>∃l,ρ=[.v (.lst xs),.o (l.map vd),.v (.int i),a,b]/\Nr l ds.length) ?_ ?_
    ·by_cases e:i=0
     ·subst e;exact⟨_,rfl,l,rfl,n1.1,n1.2.1,by have:=n1.2.2;rw[aAs]at this;lia⟩
     ·have n0:vV (.int i) (.int 0)=.ok (.bl (!decide (i=0))):=rfl;rw[decide_eq_false e]at n0;have m11:∀x:Int,oO (.int x) (.int 11)=.ok (.int (x.fmod 11)):=λx=>Y4 (by decide);have f1:=A6 (a:=i) (b:=11) (by decide) (by decide);have f2:=A6 (a:=i) (b:=121) (by decide) (by decide);have sb:∀x:Int,AW (.int x) (.int 5)=.ok (.int (x-5)):=λ_=>rfl;have tp:jC [.int (i.fmod 11-5),.int ((i.fdiv 11).fmod 11-5),.int ((i.fdiv 121).fmod 11-5)]=.ok (vd<|pV i):=rfl;refine⟨[.v (.lst xs),.o (l.map vd++[vd (pV i)]),.v (.int i),a,b],?_,l++[pV i],by rw[aBr];rfl,WN i n1⟩;simp-implicitDefEqProofs only[t7,w5,L6,Q9,N1,R.aa0,n0,pJ,Bool.not_false,if_true,m11,f1,f2,sb,tp];exact if_pos (by rw[aAh];exact aBY (show l.length<=13 by have:=n1.2.2;lia) (by decide))
    rintro ρ ⟨l,rfl,n1⟩;obtain⟨b1,b2,b3⟩:=QC k1 k2 n1;have lG:=λ(x:Int) hx=>OQ (a:=x) hx b2 b3;refine BH (ρ:=[.v (.lst xs),.o (l.map vd),.v (.int i),.o ((A1<|l.map<|bG k1 k2).map vd),b]) ?_ ?_
    ·have ll:l.length<=sizeLine:=small (by have:=n1.2.2;lia);have e0:M1 1 [.v (.lst xs),.o (l.map vd),.v (.int i),a,b]=[.v (.lst xs),.v (.lst (l.map vd)),.v (.int i),a,b]:=rfl;rw[e0];simp-implicitDefEqProofs only[t7,w5,G7,D6,R.aa0,S9,aAh,if_pos ll];rw[mS vd vd (bG k1 k2) l ?h]
     case h=>exactλP hP=>⟨[.v (vd P),.v (.lst xs)],rfl,MV P (n1.1 P hP)⟩
     simp-implicitDefEqProofs only[R.aa0,b1,lz,wO,if_true];rfl
    generalize A1 (l.map<|bG k1 k2)=B at*
    refine YI (x:=[.int 0,.int 1,.int 2]) rfl ?_;refine bw (λρ=>∃b,ρ=[.v (.lst xs),.o (l.map vd),.v (.int i),.o (B.map vd),b]) ?_ ⟨b,rfl⟩ (λρ ⟨b,e⟩=>⟨l,_,_,b,e,n1,n2⟩);rintro d hd ρ ⟨b,rfl⟩;have hx:∃x:Int,d=.int x/\0<=x/\x<=2:=by
     simp only[aAd,aAM,or_false]at hd;rcases hd with rfl|rfl|rfl
     ·exact⟨0,rfl,by decide⟩
     ·exact⟨1,rfl,by decide⟩
     ·exact⟨2,rfl,by decide⟩
    obtain⟨x,rfl,hx⟩:=hx;refine⟨[.v (.lst xs),.o (l.map vd),.v (.int i),.o (B.map vd),.v (.int x)],?_,_,rfl⟩;simp-implicitDefEqProofs only[T5,aBI,aBJ];have e0:M1 3 [.v (.lst xs),.o (l.map vd),.v (.int i),.o (B.map vd),.v (.int x)]=[.v (.lst xs),.o (l.map vd),.v (.int i),.v (.lst (B.map vd)),.v (.int x)]:=rfl;rw[e0];simp-implicitDefEqProofs only[LC,t7,w5,G7,D6,R.aa0,lG x hx,pJ,aCy,aAn,if_false]
   ·rcases aAd.mp hd with rfl|hd
    ·exact⟨0,rfl,by decide⟩
    ·exact mem d hd
  ·cases h
end
end
end K43
section
namespace K43
open PySem L2 DL M
def truth (ns:List Int)(h1:ns.length<=63)(h2:∀x∈ns,aAW x<=1048576):gK [.lst (ns.map D.int)]=.ok (.bl true):=by unfold gK;exact if_pos ⟨by simpa using h1,RO h2⟩
end K43
namespace K43
open PySem L2 DL M
variable [Tabs]
def all_mk {l:PySem.W.OpenLaw}{w:World}{K:PySem.W.Frag}{h:Heap}{mg:bK}{fa f34 Pt:Addr}(X:K.In h)(G:h.Ns mainGlobals mg)(hfa:mg "law"=some (.ref fa))
  (g0:Got K "is_whole" fN)
  (g1:Got K "way_between" W8)
  (g2:Got K "cross_of" fE)
  (g3:Got K "product_of" aS)
  (g4:Got K "common_divisor" M8)
  (g5:Got K "plane_through" Q0)
  (g6:Got K "side_of" kQ)
  (g7:Got K "first_real_way" M5)
  (g8:Got K "dimension_of" A3)
  (g9:Got K "refuse_flat" X3)
  (g10:Got K "points_on" W4)
  (g11:Got K "plane_about" X6)
  (g12:Got K "first_pair" aZ)
  (g13:Got K "turn_of" jS)
  (g14:Got K "left_chain" aI)
  (g15:Got K "ring_of" jR)
  (g16:Got K "pairs_round" X0)
  (g17:Got K "faces_from" aF)
  (g18:TN K "faces_of" J1 Pt)
  (g19:Got K "corners_in" bD)
  (g20:Got K "body_of" kH)
  (g21:Got K "is_axis" kJ)
  (g22:Got K "shadow_of" P6)
  (g23:Got K "shadow_area" N2)
  (g24:Got K "_law_cell_at" U5)
  (g25:Got K "_law_great" bA)
  (g26:Got K "_law_near" D9)
  (g27:Got K "_law_moved" aN)
  (g28:Got K "_law_flat" bW)
  (g29:Got K "_law_turn" bQ)
  (g30:Got K "_law_between" V3)
  (g31:Got K "_law_goes_on" V0)
  (g32:Got K "_law_ring" W3)
  (g33:Got K "_law_good" J9)
  {od34 an34:Option Addr} {sl34:Array (Option Value)} {oc34 kV34 dc34 pm34 cd34 ct34:Value}
  (a34:PySem.W.nsIn K mainGlobals "law"=some (some (.ref f34))) (l34:K.lookup f34=some ⟨oc34,od34,.func (PySem.W.fnOf "law" "law" (B8 eZ) (o6 eZ) (c5 eZ) .none kV34 dc34 pm34 an34 cd34 ct34),sl34⟩) (e34:PySem.W.codeIn K cd34 "law"=true) (k34:PySem.W.keepIn K (.ref f34)=true)
  (z_isinstance:PySem.W.nsIn K mainGlobals "isinstance"=some none)
  (z_bool:PySem.W.nsIn K mainGlobals "bool"=some none)
  (z_int:PySem.W.nsIn K mainGlobals "int"=some none)
  (z_abs:PySem.W.nsIn K mainGlobals "abs"=some none)
  (z_len:PySem.W.nsIn K mainGlobals "len"=some none)
  (z_any:PySem.W.nsIn K mainGlobals "any"=some none)
  (z_min:PySem.W.nsIn K mainGlobals "min"=some none)
  (z_list:PySem.W.nsIn K mainGlobals "list"=some none)
  (z_reversed:PySem.W.nsIn K mainGlobals "reversed"=some none)
  (z_zip:PySem.W.nsIn K mainGlobals "zip"=some none)
  (z_sorted:PySem.W.nsIn K mainGlobals "sorted"=some none)
  (z_set:PySem.W.nsIn K mainGlobals "set"=some none)
  (z_sum:PySem.W.nsIn K mainGlobals "sum"=some none)
  (z_range:PySem.W.nsIn K mainGlobals "range"=some none)
  (z_tuple:PySem.W.nsIn K mainGlobals "tuple"=some none)
  {lh:Addr} {dd_NO_WAY:Option Addr} {tk0_NO_WAY tk1_NO_WAY tk2_NO_WAY:Tok} {nn_NO_WAY:Nat} {ss_NO_WAY:Array (Option Value)}
  (ca_NO_WAY:PySem.W.nsIn K mainGlobals "NO_WAY"=some (some (.ref lh))) (cl_NO_WAY:K.lookup lh=some ⟨.type "tuple",dd_NO_WAY,.seq #[.int 0 tk0_NO_WAY,.int 0 tk1_NO_WAY,.int 0 tk2_NO_WAY] nn_NO_WAY,ss_NO_WAY⟩)
  {lu:Addr} {dd_UPWARD:Option Addr} {tk0_UPWARD tk1_UPWARD tk2_UPWARD:Tok} {nn_UPWARD:Nat} {ss_UPWARD:Array (Option Value)}
  (ca_UPWARD:PySem.W.nsIn K mainGlobals "UPWARD"=some (some (.ref lu))) (cl_UPWARD:K.lookup lu=some ⟨.type "tuple",dd_UPWARD,.seq #[.int 0 tk0_UPWARD,.int 0 tk1_UPWARD,.int 1 tk2_UPWARD] nn_UPWARD,ss_UPWARD⟩)
  (nt:(Pt,tbK)∈Tabs.tbs)
  (truth:∀ns:List Int,ns.length<=63->(∀x∈ns,aAW x<=1048576)->gK [.lst (ns.map D.int)]=.ok (.bl true)):
  ∃fd:FuncData,(∀(s:Shared) (v:Value),BindsTo s fd ⟨[v],[]⟩ [("script",v)])/\∀base:Heap,K.In base->base.Ns mainGlobals mg->iS mg base->FnOk l.prog w K mg base rE 11 fa fd ["script"] (sG K):=by
 have e:=hfa.symm.trans (PySem.W.mg_of X G a34);cases e;have bp:=PySem.W.mg_none_of X G z_isinstance;have mn:=PySem.W.mg_none_of X G z_bool;have qp:=PySem.W.mg_none_of X G z_int;have b_abs:=PySem.W.mg_none_of X G z_abs;have dg:=PySem.W.mg_none_of X G z_len;have b_any:=PySem.W.mg_none_of X G z_any;have qr:=PySem.W.mg_none_of X G z_min;have ir:=PySem.W.mg_none_of X G z_list;have kg:=PySem.W.mg_none_of X G z_reversed;have b_zip:=PySem.W.mg_none_of X G z_zip;have au:=PySem.W.mg_none_of X G z_sorted;have jb:=PySem.W.mg_none_of X G z_set;have qt:=PySem.W.mg_none_of X G z_sum;have fu:=PySem.W.mg_none_of X G z_range;have qu:=PySem.W.mg_none_of X G z_tuple;have bu:BP K mg "NO_WAY" [0,0,0]:=KQ (PySem.W.mg_of X G ca_NO_WAY) cl_NO_WAY;have kh:BP K mg "UPWARD" [0,0,1]:=KQ (PySem.W.mg_of X G ca_UPWARD) cl_UPWARD;refine⟨PySem.W.fnOf "law" "law" (B8 eZ) (o6 eZ) (c5 eZ) .none kV34 dc34 pm34 an34 cd34 ct34,λs v=>.of_eq rfl,λbase _ _ hB=>?_⟩;have r_is_whole:v6 l.prog w K mg base 1 "is_whole" 1 W5:=gA bp mn qp (g0.def X G);have bh:v6 l.prog w K mg base 1 "way_between" 2 u6:=n8 (g1.def X G);have de:v6 l.prog w K mg base 1 "cross_of" 2 B6:=C0 (g2.def X G);have br:v6 l.prog w K mg base 1 "product_of" 2 u5:=w4 (g3.def X G);have r_common_divisor:v6 l.prog w K mg base 1 "common_divisor" 1 A2:=M7 b_abs (g4.def X G);have r_plane_through:=Q6 de bh r_common_divisor br (g5.def X G);have r_side_of:v6 l.prog w K mg base 1 "side_of" 2 Z0:=jI (g6.def X G);have r_first_real_way:v6 l.prog w K mg base 1 "first_real_way" 1 x4:=F8 bu (g7.def X G);have fb:=F3 bh r_first_real_way de br dg b_any (g8.def X G);have r_refuse_flat:=X1 fb (g9.def X G);have jc:=E6 r_side_of (g10.def X G);have gi:=G9 bh br de r_plane_through bu (g11.def X G);have r_first_pair:=aM jc gi fb qr (g12.def X G);have r_turn_of:=kA br de bh (g13.def X G);have r_left_chain:=R6 r_turn_of dg (g14.def X G);have ma:=Y8 r_left_chain ir kg (g15.def X G);have gm:v6 l.prog w K mg base 1 "pairs_round" 1 Y0:=G4 ir b_zip (g16.def X G);have r_faces_from:=aK gi ma (gm.imp MU) dg au (g17.def X G);have r_faces_of:=fP jc r_refuse_flat r_first_pair r_faces_from au jb hB nt (g18.def X G);have gu:eG l.prog w K mg base 8 "corners_in" 1 F9:=X4 au jb (g19.def X G);have r_corners_in:=gu.cal;have ki:eG l.prog w K mg base 10 "body_of" 1 M6:=fJ r_faces_of gu (g20.def X G);have r_body_of:=ki.cal;have r_is_axis:=jY r_is_whole (g21.def X G);have ie:eG l.prog w K mg base 8 "shadow_of" 2 P4:=aE r_is_axis ma au jb kh (g22.def X G);have jd:=ie.cal;have r_shadow_area:=W9 gm jd qt (g23.def X G);have fg:v6 l.prog w K mg base 1 "_law_cell_at" 2 D1:=A4 dg (g24.def X G);have r__law_great:v6 l.prog w K mg base 1 "_law_great" 1 iT:=Z9 (g25.def X G);have ig:eG l.prog w K mg base 2 "_law_near" 1 nW:=aH fg r__law_great fu (g26.def X G);have r__law_near:=ig.cal;have r__law_moved:=Z7 fg (g27.def X G);have r__law_flat:v6 l.prog w K mg base 1 "_law_flat" 2 aU:=bP (g28.def X G);have je:v6 l.prog w K mg base 1 "_law_turn" 3 dF:=P7 (g29.def X G);have r__law_between:v6 l.prog w K mg base 1 "_law_between" 3 gS:=T8 (g30.def X G);have r__law_goes_on:=U7 je r__law_between (g31.def X G);have r__law_ring:=cP r__law_goes_on qr dg (g32.def X G);have r__law_good:=cR r__law_flat r__law_ring r_shadow_area je jd ie au jb ir bp mn qp qu qt fu dg (g33.def X G);exact SY (o_law r__law_moved r__law_good ig ki fu<|JQ (st:=eZ) l34 e34 k34) truth
end K43
namespace PySem.W.Fast
def tw5731709145033644878:=0
def tw4456286137431049188:=0
def tw6677617057867517905:=0
def tw315059872025139278:=0
def tw7973853036013370313:=0
def tw2897149334592335254:=0
def tw14195708757335798539:=0
def tw6107788408917155010:=0
def tw9986329182136617470:=0
def tw8910758120147247099:=0
def tw3357882709582573086:=0
def tw12649057076983328225:=0
def tw6548012015444993427:=0
def tw2150619861659793705:=0
def tw933407397567629220:=0
def tw14695844924795995069:=0
def tw9017593349376941112:=0
def tw13783963548312686427:=0
def tw12753234594913425951:=0
def tw7182803199343681587:=0
def tw4760590326734570387:=0
def tw3574386817493939389:=0
def tw132660510992680034:=0
def tw4358216553277730566:=0
def tw2321424463018445624:=0
def tw1039551069275872042:=0
def tw16865853113214919290:=0
def tw11026013666673808542:=0
def tw16361181994326335784:=0
def tw3346893489833001839:=0
def tw11750541033957536124:=0
def tw4607649133485360101:=0
def tw4683677398275629403:=0
def tw5583824700306046267:=0
def tw8379519253300499673:=0
def tw1243204725129769934:=0
def tw14643197471037687603:=0
def tw16882510647770131361:=0
def tw13242676975010799622:=0
def tw8427693402607287525:=0
def tw3756066604669717104:=0
def tw17659938253327484163:=0
def tw5544257281650640443:=0
def tw7608953362537936078:=0
def tw9726011465035776253:=0
def tw3215402639344554068:=0
def tw5205711408077169537:=0
def tw11821885002841471399:=0
def tw8990552823406185841:=0
def tw17433078089719402223:=0
def tw11155416424366998298:=0
def tw14499724168471588303:=0
def tw15682655183610583487:=0
def tw4203670819059017118:=0
def tw881211713568338272:=0
def tw6610192595901502711:=0
def tw1189823117234948415:=0
def tw2107564589919608848:=0
def tw13862667327987669574:=0
def tw735601281795562944:=0
def tw3602065986253432291:=0
def tw2935987490305444947:=0
def tw8046786959792693157:=0
def tw1829275246022102961:=0
def tw10626920480628723494:=0
def tw1193714944718602640:=0
def tw18011728300006783831:=0
def tw9912583329653220427:=0
def tw9237877230459189465:=0
def tw11070704463892332449:=0
def tw17656340193753827610:=0
def tw5953947499066596276:=0
def tw14677977101745967025:=0
def tw15114979813010599824:=0
def tw15241541350843388101:=0
def tw15527132476969225722:=0
def tw7991551131280910612:=0
def tw4033257219035854541:=0
def tw4027960823001191444:=0
def tw9387074151620453812:=0
def tw14387454200067380679:=0
def tw5139540943401336504:=0
def tw7727156080962552503:=0
def tw3557858802974239713:=0
def tw7843212433551113957:=0
def tw10981027757329468255:=0
def tw2179434070390842361:=0
def tw13184934404058073829:=0
def tw13776109385268865759:=0
def tw15851900319453164505:=0
def tw15235036858826304978:=0
def tw4352788310980543344:=0
def tw15587888592645785900:=0
def tw1888025048959980126:=0
def tw1718675319775710584:=0
def tw3059955595498126344:=0
def tw9777912806689261288:=0
def tw604552381453719101:=0
def tw1139798352714867326:=0
def tw14991109184587791457:=0
def tw10276361807507403477:=0
def tw5486919036805874552:=0
def tw10409283478291976106:=0
def tw12546653276710545612:=0
def tw6567092513994020112:=0
def tw664427750626503412:=0
def tw17248590268456386162:=0
def tw9775419257278653481:=0
def tw15203148763530439889:=0
def tw6816735249132572263:=0
def tw16183416340028066319:=0
def tw5843879574671397887:=0
def tw12321609532077940384:=0
def tw13337864387730813206:=0
def tw14058115561818126984:=0
def tw6804252922722433613:=0
def tw12332328879706499775:=0
def tw7380802355937958015:=0
def tw9923614342082333119:=0
def tw1109130344792007676:=0
def tw15654738501087387524:=0
def tw12173431164580625607:=0
def tw17700364198596767003:=0
def tw8529903489721710537:=0
def tw10929332611828727270:=0
def tw4468592335635103703:=0
def tw186943198868174361:=0
def tw10166817960701372248:=0
def tw16484646472177607848:=0
def tw2065539618913261056:=0
def tw14024966836287165960:=0
def tw9778165417277752329:=0
def tw13161323449123366219:=0
def tw5709345747597608057:=0
def tw2581803539174399550:=0
def tw5596157048851297006:=0
def tw6531108743170191643:=0
def tw15102558719354431217:=0
def tw5502832221023281764:=0
def tw8623192229535885102:=0
def tw2959837911922767924:=0
def tw6639424728541159631:=0
def tw8235441930075508782:=0
def tw13524653853532381586:=0
def tw14952636017233807800:=0
def tw2270514767935016982:=0
def tw2465754377412876512:=0
def tw4482001908603463082:=0
def tw4837853703267565355:=0
def tw9441833196724223546:=0
def tw18197866386916093477:=0
def tw1717994324095137252:=0
def tw14888871958623192250:=0
def tw2293243876049072572:=0
def tw7539321033455599554:=0
end PySem.W.Fast
open PySem PySem.W PyProof.Rows
set_option maxRecDepth 100000 in
theorem PySem.Challenge.cw_stakebodies_k43_shadows_round_holds : PySem.Challenge.rw_stakebodies_k43_shadows_round.Holds := by
 w_on;o_law;k_head;(case hw=>w_witness2)
 k_fill
 letI tabs9:DL.Tabs:=⟨[(188,K43.tbK)]⟩
 refine DL.SX (l:=PySem.Challenge.rw_stakebodies_k43_shadows_round) (k:=11) rfl rfl ⟨rfl,by decide,by decide⟩ (λw h Y=>⟨PySem.W.km_in_of Y,PySem.W.km_tabs_of Y⟩) (DL.QN (c:=192) (by k_mem) (λw=>by kernel_rfl)) (aAJ.mpr ⟨aAM,aDd⟩) (λw=>by kernel_rfl) ?F
 case F=>
  intro w mg fa h KX G hmg;refine' K43.all_mk KX G hmg ?_ ?_ ?_ ?_ ?_ ?_ ?_ ?_ ?_ ?_ ?_ ?_ ?_ ?_ ?_ ?_ ?_ ?_ ?_ ?_ ?_ ?_ ?_ ?_ ?_ ?_ ?_ ?_ ?_ ?_ ?_ ?_ ?_ ?_ ?a34 ?l34 ?e34 ?k34 ?z_isinstance ?z_bool ?z_int ?z_abs ?z_len ?z_any ?z_min ?z_list ?z_reversed ?z_zip ?z_sorted ?z_set ?z_sum ?z_range ?z_tuple ?ca_NO_WAY ?cl_NO_WAY ?ca_UPWARD ?cl_UPWARD (aAU.mpr rfl) K43.truth
  all_goals first|(refine' DL.WQ ?a ?l ?c ?k;(case a=>k_is);(case l=>k_is);(case c=>k_is);(case k=>k_is))|(refine' DL.RN ?a ?l ?c ?k rfl ?n;(case a=>k_is);(case l=>k_is);(case c=>k_is);(case k=>k_is);(case n=>kernel_rfl))|k_is|skip
end
