import PyProof.Rows.All
import Wide.All
import OpenK.AllK
import Wide.FinOn
import Lean
import PyProof.EqAt
import PyProof.EqKinds
import PyProof.TupleCall
import PyProof.NeKinds
import PyProof.SumWalkG
import PyProof.ConsumeWalk
import KE.IntBitsLaws
import PyProof.ZipIter
import KE.KTryMore
import PyProof.ExcArgsOwn
import KE.KDictLaws
import KE.KEqDict
import PyProof.Rows.EqDataRows
import PyProof.SetScanFacts
import PyProof.SetKind
import PyProof.Rows.SetFrom
import KE.KDictSum
import PyProof.ListMulRoad
import PyProof.Rows.CallKwBuiltin
import PyProof.Rows.SeqMore
import PyProof.WalkInts
import KE.KMinBuiltin
import KE.KRevSl
import PyProof.Rows.SortShell
import PyProof.DictWalks
import PyProof.ListRange
import KE.KItemsList
import PySem.Challenge.RW_knowcards_k33_words_learned
set_option Elab.async false
set_option linter.all false
set_option maxRecDepth 100000
set_option maxHeartbeats 4000000
set_option compiler.extract_closed false
open Array renaming forIn_toList → Qh, getD → T4, getElem?_eq_getElem → OZ, getElem?_eq_none → Q2, getElem?_toList → PR, length_toList → NK, toList_push → Sm
open Bool renaming and_eq_true → ON, and_false → RB, beq_eq_decide_eq → Ra, eq_iff_iff → Rh, false_and → Rz, false_eq_true → Oc, false_ne_true → Nd, not_eq_true → Vl, not_true → QB, true_and → Q4
open Classical renaming not_forall → T2, not_imp → Sl, propDecidable → NZ
open False renaming elim → Ph
open ForInStep renaming yield → Qg
open Iff renaming rfl → VX
open Int renaming emod_lt_of_pos → Pm, emod_nonneg → PN, le_antisymm → VU, natCast_ediv → Vr, natCast_mul → S8, toNat_natCast → Qq, zero_add → SK
open List renaming Perm → Os, all_cons → QA, all_eq_true → SE, all_map → Rl, any_cons → Ua, append_assoc → Sg, append_nil → OY, cons_append → Vp, countP_cons → Vo, count_append → Si, count_cons → VT, drop_eq_getElem_cons → Sn, ext_getElem? → Px, filterMap_cons → QE, filter_append → RS, filter_cons → O6, filter_cons_of_neg → Oi, filter_cons_of_pos → N8, find?_cons → NM, findIdx?_eq_none_iff → QI, findIdx?_eq_some_iff_getElem → Pg, flatMap_append → Ry, flatMap_cons → Sj, flatten_cons → QV, foldl → VG, foldl_append → UM, foldl_cons → VH, forIn_cons → QH, forIn_nil → RD, getD_eq_getElem?_getD → Ni, getElem?_append_left → QF, getElem?_append_right → RZ, getElem?_eq_getElem → MZ, getElem?_eq_none → NJ, getElem?_eq_some_iff → M4, getElem?_map → Ng, getElem?_of_mem → TZ, getElem?_range → OE, getElem?_set → Qr, getElem?_set_ne → TJ, getElem?_set_self → Tc, getElem?_take_of_lt → Sz, getElem?_toArray → TB, getElem?_zip_eq_some → Pn, getElem_mem → Pj, getElem_range → RU, idxOf_append → UK, idxOf_cons → VO, idxOf_lt_length_of_mem → RP, length_append → Nq, length_cons → NC, length_drop → Vi, length_eq_zero_iff → Qc, length_eraseIdx_of_lt → Sa, length_filter_le → Tv, length_map → MY, length_nil → VP, length_pos_iff → Rx, length_range → OG, length_set → Pc, length_singleton → Tr, length_take → OM, length_zip → OK, lookup → Qk, lookup_cons → Oh, map_append → Nr, map_congr_left → Pd, map_cons → Np, map_map → PJ, map_nil → Qu, map_set → UC, mem_append → NL, mem_append_left → OL, mem_append_right → NU, mem_cons → M6, mem_cons_of_mem → Nh, mem_cons_self → M7, mem_filter → Pp, mem_filterMap → RJ, mem_flatMap → Vq, mem_iff_getElem → Rt, mem_iff_getElem? → Rc, mem_map → Oo, mem_map_of_mem → Uk, mem_of_getElem? → M9, mem_of_mem_take → T1, mem_range → OT, mem_singleton → M0, nodup_append → UO, nodup_cons → PM, not_mem_nil → N5, of_mem_zip → S4, pairwise_append → Rr, pairwise_cons → RV, pairwise_iff_getElem → P0, pairwise_lt_range → Tn, pairwise_singleton → SU, range → Nw, range_succ → PP, range_succ_eq_map → Th, replicate → NN, replicate_succ → Qa, replicate_succ' → Qz, set_cons_succ → O5, set_cons_zero → O4, size_toArray → Nj, sum_append → Ox, sum_cons → Nz, sum_nil → Qw, take_add_one → OF, take_append_drop → Qv, take_length → NI, take_of_length_le → PD, zipIdx_cons → Vm, zipIdx_nil → VL, zip_cons_cons → Oz, zip_nil_left → Pb
open Nat renaming add_assoc → R7, add_le_add_right → TY, add_mul → Vc, eq_of_mul_eq_mul_right → R8, eq_zero_or_pos → Qi, le_add_right → OO, le_of_ble_eq_true → PQ, le_of_eq → Ri, le_of_lt → N4, le_of_not_lt → Vj, le_refl → M1, le_succ → Pf, le_trans → NH, lt_irrefl → OQ, lt_of_le_of_lt → Qf, lt_of_lt_of_le → Nv, lt_or_eq_of_le → QN, lt_or_ge → UD, lt_succ_of_lt → Ou, lt_succ_self → OA, lt_trichotomy → Sk, min_self → PH, mul_assoc → OR, mul_comm → O2, mul_left_comm → Py, mul_pos → Va, ne_of_gt → Pe, ne_of_lt → NF, not_le → Rv, not_lt → Sr, not_lt_zero → Rq, one_mul → Vb, sub_self → UB, succ_le_succ → Vu, succ_pos → UA, zero_le → N3
open Ne renaming symm → OC
open Option renaming isSome_iff_exists → Sx, isSome_map → UN, map_eq_some_iff → Tj, map_some → Rn, some → Nm
open Option.some renaming inj → Nf
open Or renaming inl → M5, inr → Pq
open PyProof.Rows renaming Subscript_ → VD, boot_all → Vw, boot_bool → V0, boot_int → Vv, boot_isinstance → Oe, boot_list → P4, boot_max → Vx, boot_sum → T5, boot_tuple → QS, callWith_builtin1 → Rj, callWith_type1 → Oq, slot_tuple_getitem → Qb, subscriptTail → T8, subscriptTail_builtinR → Tf
open PyProof.Rows.F renaming entry_set_update_loop → SV, plain_set_update_loop → QU
open PySem renaming DictEntry → Uq, FuncData → Nk, GenState → TH, IntMulOk → P8, IsTupleKey → VR, NameKind → NS, PassesOwn → NO, PlainAttrs → VF, SetTable → Nt, Within → Sw, assignEach → Rf, atKey_none_of_get → QZ, attributeBase → Qd, backToKw → Q6, behindInMarks → RY, beq_builtin_none → SL, binaryOp → PU, bootBuiltins → QJ, boot_len → OP, builtinLookup_eq_fast → Qx, builtinsNs → Vy, callSpecialIfBoundUnlessNone? → Qo, callType_new → Uy, callWith → Vh, call_meets → QQ, cellsFrom → VZ, closureFor → TU, codeAny_builtin → Pu, codeAny_mono → Qt, codeAny_of_tree → VW, compEnvC → TV, compareOp → OU, concat_meets → Uv, dictSetDefault → RE, eqBool → Uz, eqIsQuiet → S7, eqIsQuiet_byValue → UL, fastBuiltinMro → Ts, fits_of_scanBound → US, foldedSetIterable → Sd, getMethod → RK, intBits_le_64 → Uj, intBits_mul_le → Tw, isInstance → VS, isSubtype_stop → QR, isSubtype_tuple_tuple → Rb, isSubtype_type → Tz, keywordEach → Ql, letOwnedTupleGo → Rg, mainGlobals → NB, mem_of_lookup → Of, newTuple → Vk, noFill_tuple_add → SB, pickOrder → QP, plainId_quiet → Qe, reduceHash → VQ, relayAll → RG, scanBound → QO, seqIndex_neg → Uw, seqIndex_of → UX, seq_tuple_add → T7, setEntries → Su, sizeLine → Nb, sizeLine_eq → M8, starEach → Nu, storedH_new → Vd, subscripted → Te, swapsWith → Uo, sysModules → OW, typeIs_int → VE, typeLookup → TK, typeLookup_type → Ru, updateSeq → RW, wpAny_Call_Name_kw → Pk, wpAny_Call_method_late → Q1, wpAny_Dict_empty → Vt, wpAny_List_spliced → Uu, wpAny_Name → Vz, wpAny_Tuple_spliced → Ud, wpAny_askSetting → SN, wpAny_assign_Name → UF, wpAny_attempt → PX, wpAny_bind → MV, wpAny_call → VC, wpAny_callSpecial?_slot → NY, wpAny_callSpecialIfBoundUnlessNone?_slot → Pt, wpAny_call_entry → NP, wpAny_comprehension_free → SD, wpAny_execs_cons → Vf, wpAny_execs_nil → Re, wpAny_field → N6, wpAny_fieldsOf → RH, wpAny_forIn_list → Q8, wpAny_getItem_of → Vs, wpAny_handled → T9, wpAny_holding → Og, wpAny_isInstance → O3, wpAny_ite_split → S9, wpAny_letGo → Ti, wpAny_load → VA, wpAny_mono → OX, wpAny_newObj_type → Oa, wpAny_newTuple → Tu, wpAny_of_eq → Tg, wpAny_onRaise → R6, wpAny_passesOwn → PL, wpAny_pure → MX, wpAny_pyHash_int → Ve, wpAny_pyIter_enum → UJ, wpAny_pyIter_list → Qp, wpAny_pyIter_slot → UU, wpAny_pyIter_tuple → Up, wpAny_pyIter_zip → SG, wpAny_ret_mkInt → Ro, wpAny_rule → Pi, wpAny_seqItems → Od, wpAny_setField → PB, wpAny_setField_rec → Pl, wpAny_setState_of → Ov, wpAny_specialOf → Oy, wpAny_standAt → T6, wpAny_storeSet_of → UR, wpAny_throw → UY, wpAny_truthy_bool → Pa, wpAny_tupleItemsOf → RQ, wpAny_typeOf → SC, wpAny_updateSeq → Qj, wpAny_updateSeq_pair → Rm
open PySem.Around renaming under → Us, under_plainId → O8
open PySem.Builtin.Int renaming intBits → NW
open PySem.Builtin.List renaming listExtendWith → Ot, listItems → To, listLengthHint → PK, listSameRef → P9, listTooLong → P7, listUpdate → SX
open PySem.Builtin.Slice renaming sliceAdjust → QG, sliceApplied → R3, slicePlaces → PZ
open PySem.Builtin.SmallTypes renaming nextOf → NQ, ownedTupleHandOut → QM, ownedTupleIsFree → NT
open PySem.Builtin.Tuple renaming tupleExact → P6, tupleHashOf → OD, tupleItemsOf → R5
open PySem.Calls renaming Name_function_global → RX, callWith_builtin → Qm, evalArgs_plain → Rk, spliced_cons → RL, spliced_nil → Sf
open PySem.Code renaming isFrame → Ut
open PySem.F renaming args_object_init_3 → TX, args_tuple_add_2 → QL, args_tuple_iterator_next_1 → RC, args_zip_next_1 → QX, entry_extend_loop → Sv, entry_tuple_add → QT, entry_tuple_iterator_next → RN, entry_zip_new → VN, entry_zip_next → Q7, newCall_zip_2 → VM, plainAttrs_list → N0, plain_extend_loop → O0, plain_list_iadd → SW, plain_set_new → Tx, slot_NoneType_hash → PY, slot_bool_hash → Qn, slot_dict_getitem → So, slot_dict_setdefault → RF, slot_int_rmul → VI, slot_list_append → OH, slot_list_clear → SY, slot_list_index → SS, slot_set_iter → TC, slot_tuple_add → Q0, slot_tuple_count → SI, slot_tuple_eq → Rp, slot_tuple_hash → QY, slot_tuple_iterator_next → PV, slot_zip_next → Pr, typeCall_zip_2 → Vn, type_list_append → OI, type_list_clear → SZ
open PySem.Heap renaming ExtBut → QD, SameBut → Nn, get?_push_of_some → MW, get?_push_size → Nc, get?_update_other → OB, get?_update_self → N1, lt_size → Na, size_push → NV, size_update → SO
open PySem.Heap.SameBut renaming refl → UT, update → N2
open PySem.NameKind renaming cell → Q3, free → Ow
open PySem.Obj renaming cls_mapFields → Sh, data_mapDictKeys → T3, data_mapFields → PF, isFreed_of_fields → Q9, mapFields → R9, mapSeq → On, putSet → Ss
open PySem.Paired renaming length → NG
open PySem.PassesOwn renaming never → Nx
open PySem.PyData renaming canLayAll0 → UP, depthAll → VV, keyHash → N9
open PySem.SeqAt renaming EqAt → ND, shaped → SM
open PySem.SeqAt.EqAt renaming bool_bool → TQ, bool_int → Ug, bool_none → TN, int_bool → Ui, int_int → Ux, int_none → Uh, int_str → Ul, none_bool → TL, none_int → Ue, same → S5, str_int → Um
open PySem.SetTable renaming below → Ny, grown → P5
open PySem.SetTable.below renaming go → Pz
open PySem.SetTable.probe renaming go → UQ
open PySem.Shared renaming TypeIs → Uc, heap → UZ
open PySem.Str renaming empty → VY, ofString → O1
open PySem.Value renaming bool → N7, builtin → Ub, float → UW, int → P3, isInt → Ta, isInt_shape → UE, none → Ol, ref → NA, str → S0, type → Om
open PySem.W renaming callWith_K → RM, cellsFrom_some → Td, codeIn → Tq, emptyDict → OV, findIn → O7, findIn → RI, fnOf → QK, handedIn → Vg, hasDictIn → Se, instObj → Po, isFn → Ur, keepIn → Qs, kia_one → OJ, kitMeta → S6, kitOne → NR, kitx_dict → UI, kitx_list → UH, lookIn → RA, makesIn → VB, methodCall_KW → Tp, methodObj → Sb, mg_none_of → Oj, mg_of → TF, nsIn → O9, plainGet → Q5, plainGet_of → Rw, plainOver → UG, takerIn → S3
open PySem.W.WData renaming int → QW, layable → Tt, layableAll → SF, list → RO, weight → Qy, weightAll → SQ
open PySem.Walks renaming list → VJ
open Sum renaming inl → Pw, inr → OS
open Sum.inl renaming inj → UV
open Sum.inr renaming inj → QC
open True renaming intro → PC
noncomputable abbrev Fg:=PySem.W.Frag
section
namespace L2
open PySem PySem.Spec PyProof.Rows
noncomputable abbrev Key:=Sum Int Str
noncomputable def tz:Key->Value->Bool
 | .inl k,v=>Ta k v
 | .inr x,v=>Value.isStrOf x v
noncomputable def ME (w:World):Key->Int
 | .inl k=>hashInt k
 | .inr x=>hashStr w x
theorem dF:∀ {k:Key} {v:Value},tz k v=true->(∃ i t,k=Pw i/\v=P3 i t)\/(∃ x t,k=OS x/\v=S0 x t)
 | .inl i,v,h=>by
  obtain ⟨t,e⟩:=UE (k:=i) (v:=v) h
  exact .inl ⟨i,t,rfl,e⟩
 | .inr x,v,h=>by
  obtain ⟨t,e⟩:=Value.isStrOf_shape (x:=x) (v:=v) h
  exact .inr ⟨x,t,rfl,e⟩
theorem FF (i:Int) (t:Tok):tz (.inl i) (.int i t)=true:=by simp [tz,Ta]
theorem FG (x:Str) (t:Tok):tz (.inr x) (.str x t)=true:=by simp [tz,Value.isStrOf]
theorem KS (a b:Int):decide ((Pw a:Key)=Pw b)=(a == b):=by
 by_cases e:a=b
 ·subst e; simp
 ·have h:¬ (Pw a:Key)=Pw b:=fun q=>e (UV q)
  rw [decide_eq_false h]
  exact (beq_eq_false_iff_ne.mpr e).symm
theorem KT (a b:Str):decide ((OS a:Key)=OS b)=decide (a=b):=by
 by_cases e:a=b
 ·subst e; simp
 ·have h:¬ (OS a:Key)=OS b:=fun q=>e (QC q)
  rw [decide_eq_false h,decide_eq_false e]
theorem KU (a:Int) (b:Str):decide ((Pw a:Key)=OS b)=false:=decide_eq_false (fun q=>nomatch q)
theorem KW (a:Str) (b:Int):decide ((OS a:Key)=Pw b)=false:=decide_eq_false (fun q=>nomatch q)
noncomputable def js (prog:Program) (w:World):PySem.KeyKind prog w Key where
 is:=tz
 hash:=ME w
 inj:=fun v a b ha hb=>by
  rcases dF ha with ⟨i,t,rfl,rfl⟩ | ⟨x,t,rfl,rfl⟩
  ·rcases dF hb with ⟨j,u,rfl,e⟩ | ⟨y,u,rfl,e⟩
   ·injection e with e1 _; rw [e1]
   ·exact nomatch e
  ·rcases dF hb with ⟨j,u,rfl,e⟩ | ⟨y,u,rfl,e⟩
   ·exact nomatch e
   ·injection e with e1 _; rw [e1]
 byValue:=fun k v h=>by
  rcases dF h with ⟨i,t,rfl,rfl⟩ | ⟨x,t,rfl,rfl⟩ <;> rfl
 pyHash:=fun hv h=>by
  rcases dF hv with ⟨i,t,rfl,rfl⟩ | ⟨x,t,rfl,rfl⟩
  ·exact Ve h
  ·exact wpAny_pyHash_str h
 eqBool:=fun hu hv h=>by
  rcases dF hu with ⟨i,t,rfl,rfl⟩ | ⟨x,t,rfl,rfl⟩
  ·rcases dF hv with ⟨j,u,rfl,rfl⟩ | ⟨y,u,rfl,rfl⟩
   ·rw [KS] at h; exact wpAny_eqBool_int h
   ·rw [KU] at h; exact Ul i t y u _ _ _ _ h
  ·rcases dF hv with ⟨j,u,rfl,rfl⟩ | ⟨y,u,rfl,rfl⟩
   ·rw [KW] at h; exact Um x t j u _ _ _ _ h
   ·rw [KT] at h; exact wpAny_eqBool_str h
 «strs»:=fun k x t v h=>by
  rcases dF h with ⟨i,u,rfl,e⟩ | ⟨y,u,rfl,e⟩
  ·exact nomatch e
  ·injection e with e1 _
   subst e1
   cases v <;> rfl
theorem CH (prog:Program) (w:World) (i:Int) (t:Tok):(js prog w).is (.inl i) (.int i t)=true:=FF i t
theorem bB (prog:Program) (w:World) (x:Str) (t:Tok):(js prog w).is (.inr x) (.str x t)=true:=FG x t
end L2
namespace L2
open PySem PySem.Spec PyProof.Rows
inductive V where
 | non | bl (b:Bool) | int (i:Int) | str (x:Str) | byt (b:Array UInt8) | flt (b:UInt64) | ref (a:Addr) | ty (n:String)
 deriving DecidableEq
noncomputable def aM:V->Value->Prop
 | .non,u=>u=Ol
 | .bl b,u=>u=N7 b
 | .int i,u=>∃ t,u=P3 i t
 | .str x,u=>∃ t,u=S0 x t
 | .byt b,u=>∃ t,u=Value.bytes b t
 | .flt b,u=>∃ t,u=UW b t
 | .ref a,u=>u=NA a
 | .ty n,u=>u=Om n
noncomputable abbrev aK:List V->List Value->Prop:=Paired aM
theorem aK.length {xs:List V} {us:List Value} (r:aK xs us):xs.length=us.length:=NG r
theorem aK.get:∀ {xs:List V} {us:List Value} {i:Nat} {x:V},aK xs us->xs[i]?=some x->∃ u,us[i]?=some u/\aM x u
 | _,_,_,_,.nil,e=>by simp at e
 | _,_,0,_,.cons r _,e=>by simp at e; subst e; exact ⟨_,rfl,r⟩
 | _,_,i + 1,x,.cons _ t,e=>by
  obtain ⟨u,h1,h2⟩:=aK.get (i:=i) (x:=x) t (by simpa using e)
  exact ⟨u,by simpa using h1,h2⟩
theorem aK.set {x:V} {u:Value} (r:aM x u):∀ {xs:List V} {us:List Value} (i:Nat),aK xs us->aK (xs.set i x) (us.set i u)
 | _,_,_,.nil=>.nil
 | _,_,0,.cons _ t=>.cons r t
 | _,_,i + 1,.cons q t=>.cons q (aK.set r i t)
theorem aK.append:∀ {xs ys:List V} {us ws:List Value},aK xs us->aK ys ws->aK (xs++ys) (us++ws)
 | _,_,_,_,.nil,s=>s
 | _,_,_,_,.cons r t,s=>.cons r (aK.append t s)
theorem aK.take:∀ {xs:List V} {us:List Value} (n:Nat),aK xs us->aK (xs.take n) (us.take n)
 | _,_,0,_=>.nil
 | _,_,_ + 1,.nil=>.nil
 | _,_,n + 1,.cons r t=>.cons r (aK.take n t)
theorem aK.drop:∀ {xs:List V} {us:List Value} (n:Nat),aK xs us->aK (xs.drop n) (us.drop n)
 | _,_,0,r=>r
 | _,_,_ + 1,.nil=>.nil
 | _,_,n + 1,.cons _ t=>aK.drop n t
noncomputable def iL:Option V->Option Value->Prop
 | some v,some u=>aM v u
 | none,none=>True
 | _,_=>False
noncomputable def KV {κ:Type}:List (κ×V)->List (κ×Value)->Prop:=Paired fun (p:κ×V) (q:κ×Value)=>p.1=q.1/\aM p.2 q.2
noncomputable def kV:Key->V
 | .inl i=>.int i
 | .inr x=>.str x
inductive HO where
 | lst (xs:List V)
 | tup (xs:List V)
 | dK (kvs:List (Key×V)) | dT (kvs:List (List Key×V))
 | set (S:Int->Bool) (n:Nat)
 | ins (C dx:Addr) (fs:List (Str×V))
 | own (x:Addr)
 | xd (fs:List (Str×V))
 | met (f x:Addr)
 | rng (lo hi:Int)
 | frz (o:Obj) (u:HO)
 | tbl (ps:Array Value)
 | ext (φ:Heap->Prop)
noncomputable abbrev Hp:=Addr->Option HO
noncomputable def upd (H:Hp) (a:Addr) (o:HO):Hp:=fun b=>if b=a then some o else H b
theorem az {H:Hp} {a:Addr} {o:HO}:upd H a o a=some o:=by unfold upd; rw [if_pos rfl]
theorem aS {H:Hp} {a b:Addr} {o:HO} (h:b≠a):upd H a o b=H b:=by unfold upd; rw [if_neg h]
theorem Ay {H:Hp} {a b:Addr} {o u:HO} (h:H a=some o) (h':H b=some u) (d:o≠u):a≠b:=by
 intro e; subst e; rw [h] at h'; exact d (Nf h')
theorem bn {H:Hp} {a b:Addr} {o:HO} (h:H a=some o) (h':H b=none):a≠b:=by
 intro e; subst e; rw [h] at h'; cases h'
noncomputable def gn (h:Heap) (a:Addr) (items:Array Value):Prop:=∃ o,h.get? a=some o/\o.cls=.type "tuple"/\(∃ n,o.data=.seq items n)/\o.dict=none
theorem gn.lt {h:Heap} {a:Addr} {items:Array Value} (x:gn h a items):a < h.objs.size:=let ⟨_,e,_⟩:=x; Na e
theorem gn.tup {h:Heap} {a:Addr} {items:Array Value} (x:gn h a items):IsTup h a items:=let ⟨o,e,c,d,_⟩:=x; ⟨o,e,c,d⟩
theorem gn.new (h:Heap) (items:Array Value):gn (h.push { cls:=.type "tuple",data:=.seq items }) h.objs.size items:=⟨_,Nc _ rfl,rfl,⟨_,rfl⟩,rfl⟩
section
variable (P:Program) (w:World)
noncomputable def bZ (H:Hp) (h:Heap) (a:Addr):HO->Prop
 | .lst xs=>xs.length<=Nb/\∃ (its:List Value) (n:Nat),aK xs its/\h.get? a=some { cls:=.type "list",data:=.seq its.toArray n }
 | .tup xs=>xs.length<=Nb/\∃ its:List Value,aK xs its/\gn h a its.toArray
 | .dK kvs=>kvs.length<=Nb/\(a == OW)=false/\∃ vs,KV kvs vs/\h.DictOf (js P w) a vs
 | .dT kvs=>kvs.length<=Nb/\(a == OW)=false/\∃ xs:List (List Key×Addr×Value),
   Paired (fun (p:List Key×V) (q:List Key×Addr×Value)=>p.1=q.1/\H q.2.1=some (.tup (p.1.map kV))/\aM p.2 q.2.2) kvs xs/\
   ∃ o es ep,h.get? a=some o/\o.ExactDict/\o.data=.dict es ep/\es.toList=xs.map (entryOfKey (tupleKind (js P w)))/\(xs.map (·.1)).Nodup
 | .set S n=>h.SetOf (intKind P w) a S n
 | .ins C dx fs=>H dx=some (.own a)/\fs.length<=1000/\dx≠a/\h.get? a=some (Po C dx)/\
   ∃ mA,h.Ns1 dx mA/\(∀ f,iL (fs.lookup f) (mA f))/\Sw mA (fs.map (·.1))
 | .own _=>∃ o,h.get? a=some o
 | .xd fs=>∃ mA,h.Ns1 a mA/\∀ f,iL (fs.lookup f) (mA f)
 | .rng lo hi=>∃ t u v,h.get? a=some { cls:=.type "range",data:=.fields #[.int lo t,.int hi u,.int 1 v] }
 | .frz o u=>h.get? a=some o/\bZ H h a u
 | .tbl ps=>h.get? a=some { cls:=.none,data:=.fields ps }
 | .met f x=>h.get? a=some (Sb (.ref f) (.ref x))
 | .ext φ=>φ h/\(∃ o,h.get? a=some o)/\∀ h1 h2:Heap,φ h1->(∀ o,h1.get? a=some o->h2.get? a=some o)->φ h2
noncomputable def HOk (H:Hp) (h:Heap):Prop:=∀ a o,H a=some o->bZ P w H h a o
end
section
variable {P:Program} {w:World} {H H':Hp} {h h':Heap} {a:Addr} {o:HO}
theorem bZ.lt (x:bZ P w H h a o):a < h.objs.size:=by
 cases o with
 | lst xs=>obtain ⟨_,_,_,_,e⟩:=x; exact Na e
 | tup xs=>obtain ⟨_,_,_,p⟩:=x; exact p.lt
 | dK kvs=>obtain ⟨_,_,_,_,o,_,_,e,_⟩:=x; exact Na e
 | dT kvs=>obtain ⟨_,_,_,_,o,_,_,e,_⟩:=x; exact Na e
 | set S n=>obtain ⟨o,_,_,_,e,_⟩:=x; exact Na e
 | ins C dx fs=>obtain ⟨_,_,_,e,_⟩:=x; exact Na e
 | own y=>obtain ⟨_,e⟩:=x; exact Na e
 | xd fs=>obtain ⟨_,⟨_,_,_,e,_⟩,_⟩:=x; exact Na e
 | rng lo hi=>obtain ⟨_,_,_,e⟩:=x; exact Na e
 | frz ob u=>obtain ⟨e,_⟩:=x; exact Na e
 | tbl ps=>exact Na (show h.get? a=some _ from x)
 | met f y=>exact Na (show h.get? a=some _ from x)
 | ext φ=>obtain ⟨_,⟨_,e⟩,_⟩:=x; exact Na e
theorem Paired.mapP {α β:Type} {F G:α->β->Prop}:∀ {l₁:List α} {l₂:List β},Paired F l₁ l₂->(∀ a b,F a b->G a b)->Paired G l₁ l₂
 | _,_,.nil,_=>.nil
 | _,_,.cons r t,f=>.cons (f _ _ r) (Paired.mapP t f)
theorem bZ.stay (x:bZ P w H h a o) (k:∀ b u,(b=a\/H b=some (.own a))->h.get? b=some u->h'.get? b=some u)
  (ho:∀ b,H b=some (.own a)->H' b=some (.own a)) (ht:∀ b xs,H b=some (.tup xs)->H' b=some (.tup xs)):bZ P w H' h' a o:=by
 induction o with
 | lst xs=>obtain ⟨z,its,n,r,e⟩:=x; exact ⟨z,its,n,r,k _ _ (.inl rfl) e⟩
 | tup xs=>obtain ⟨z,its,r,ob,e,c⟩:=x; exact ⟨z,its,r,ob,k _ _ (.inl rfl) e,c⟩
 | dK kvs=>obtain ⟨z,y,vs,r,ob,es,ep,e,c⟩:=x; exact ⟨z,y,vs,r,ob,es,ep,k _ _ (.inl rfl) e,c⟩
 | dT kvs=>
  obtain ⟨z,y,xs,r,ob,es,ep,e,c⟩:=x
  exact ⟨z,y,xs,Paired.mapP r fun p q z=>⟨z.1,ht _ _ z.2.1,z.2.2⟩,ob,es,ep,k _ _ (.inl rfl) e,c⟩
 | set S n=>obtain ⟨ob,es,ep,t,e,c⟩:=x; exact ⟨ob,es,ep,t,k _ _ (.inl rfl) e,c⟩
 | ins C dx fs=>
  obtain ⟨d,z,ne,e,mA,⟨od,es,ep,e2,c⟩,r⟩:=x
  exact ⟨ho _ d,z,ne,k _ _ (.inl rfl) e,mA,⟨od,es,ep,k _ _ (.inr d) e2,c⟩,r⟩
 | own y=>obtain ⟨ob,e⟩:=x; exact ⟨ob,k _ _ (.inl rfl) e⟩
 | xd fs=>obtain ⟨mA,⟨od,es,ep,e,c⟩,r⟩:=x; exact ⟨mA,⟨od,es,ep,k _ _ (.inl rfl) e,c⟩,r⟩
 | rng lo hi=>obtain ⟨t,u,v,e⟩:=x; exact ⟨t,u,v,k _ _ (.inl rfl) e⟩
 | frz ob u ih=>obtain ⟨e,q⟩:=x; exact ⟨k _ _ (.inl rfl) e,ih q⟩
 | tbl ps=>
  have e:h.get? a=some { cls:=.none,data:=.fields ps }:=x
  show h'.get? a=some { cls:=.none,data:=.fields ps }
  exact k a _ (.inl rfl) e
 | met f y=>
  have e:h.get? a=some (Sb (.ref f) (.ref y)):=x
  show h'.get? a=some (Sb (.ref f) (.ref y))
  exact k a _ (.inl rfl) e
 | ext φ=>obtain ⟨p,⟨o,e⟩,st⟩:=x; exact ⟨st _ _ p fun o q=>k _ _ (.inl rfl) q,⟨o,k _ _ (.inl rfl) e⟩,st⟩
theorem HOk.lt (x:HOk P w H h) (e:H a=some o):a < h.objs.size:=(x a o e).lt
theorem HOk.fresh (x:HOk P w H h) (e:h.objs.size<=a):H a=none:=by
 cases q:H a with
 | none=>rfl
 | some u=>exact absurd (Nv (x.lt q) e) (OQ _)
theorem HOk.kept (x:HOk P w H h) (k:∀ b u,h.get? b=some u->h'.get? b=some u):HOk P w H h':=fun a o e=>
 (x a o e).stay (fun b u _ q=>k b u q) (fun _ q=>q) fun _ _ q=>q
theorem HOk.laid (x:HOk P w H h) (k:∀ b u,h.get? b=some u->h'.get? b=some u) (hp:h.objs.size<=a) (new:bZ P w (upd H a o) h' a o):HOk P w (upd H a o) h':=fun b u e=>by
 have hn:=x.fresh hp
 by_cases hb:b=a
 ·subst hb; rw [az] at e; cases e; exact new
 ·rw [aS hb] at e
  exact (x b u e).stay (fun c v _ q=>k c v q) (fun c q=>by rw [aS (bn q hn)]; exact q) fun c xs q=>by rw [aS (bn q hn)]; exact q
end
noncomputable def Rd (H:Hp) (a:Addr) (u:HO):Prop:=H a=some u\/∃ o,H a=some (.frz o u)
theorem Rd.ok {P:Program} {w:World} {H:Hp} {h:Heap} {a:Addr} {u:HO} (r:Rd H a u) (x:HOk P w H h):bZ P w H h a u:=by
 rcases r with r | ⟨o,r⟩
 ·exact x a u r
 ·obtain ⟨_,q⟩:=x a _ r
  exact q
noncomputable def Mut:Option HO->Prop
 | some (.lst _)=>True
 | some (.dK _)=>True
 | some (.dT _)=>True
 | some (.set _ _)=>True
 | some (.ins _ _ _)=>True
 | some (.ext _)=>True
 | _=>False
section
variable {P:Program} {w:World} {H:Hp} {h h':Heap} {x e:Addr} {o':HO}
theorem HOk.write (ok:HOk P w H h) (mu:Mut (H x)) (he:e=x\/H e=some (.own x)) (k:∀ b u,b≠e->h.get? b=some u->h'.get? b=some u) (heo:∃ u,h'.get? e=some u)
  (new:bZ P w (upd H x o') h' x o'):HOk P w (upd H x o') h':=fun b u q=>by
 have nown:∀ c y,H c=some (.own y)->c≠x:=fun c y r z=>by subst z; rw [r] at mu; exact mu
 have ntup:∀ c xs,H c=some (.tup xs)->c≠x:=fun c xs r z=>by subst z; rw [r] at mu; exact mu
 by_cases hb:b=x
 ·subst hb; rw [az] at q; cases q; exact new
 ·rw [aS hb] at q
  by_cases hbe:b=e
  ·have q':H b=some (.own x):=by
    rcases he with z | z
    ·exact absurd (hbe.trans z) hb
    ·rw [hbe]; exact z
   rw [q] at q'; cases q'
   obtain ⟨v,hv⟩:=heo
   exact ⟨v,by rw [hbe]; exact hv⟩
  ·refine (ok b u q).stay (fun c v hc r=>k c v ?_ r) (fun c r=>by rw [aS (nown c b r)]; exact r) fun c xs r=>by rw [aS (ntup c xs r)]; exact r
   rcases hc with rfl | hc
   ·exact hbe
   ·rintro rfl
    rcases he with z | z
    ·exact nown c b hc z
    ·rw [hc] at z; cases z; exact hb rfl
end
structure Un (fs ex:List Addr) (H H':Hp) (h h':Heap):Prop where
 keep:∀ b o,h.get? b=some o->H b=none->b∉fs->b∉ex->h'.get? b=some o
 slot:∀ b o,h.get? b=some o->H b=none->b∈fs->b∉ex->∃ sl,h'.get? b=some { o with slots:=sl }
 free:∀ b o,h.get? b=some o->H b=none->b∉ex->H' b=none
 there:∀ b o,h.get? b=some o->b∉ex->∃ o',h'.get? b=some o'
 tups:∀ b xs,H b=some (.tup xs)->H' b=some (.tup xs)
 frzs:∀ b o u,H b=some (.frz o u)->H' b=some (.frz o u)
 tbls:∀ b ps,H b=some (.tbl ps)->∃ more,H' b=some (.tbl (ps++more))
section
variable {fs fs' ex ex':List Addr} {H H1 H2:Hp} {h h1 h2 h':Heap} {a x e:Addr} {o:HO}
theorem Un.any (u:Un fs ex H H1 h h1) {b:Addr} {ob:Obj} (q:h.get? b=some ob) (n:H b=none) (hx:b∉ex):∃ sl,h1.get? b=some { ob with slots:=sl }:=by
 by_cases hb:b∈fs
 ·exact u.slot b ob q n hb hx
 ·exact ⟨ob.slots,u.keep b ob q n hb hx⟩
theorem Un.kept (k:∀ b u,h.get? b=some u->h'.get? b=some u):Un fs ex H H h h':=
 ⟨fun b ob q _ _ _=>k b ob q,fun b ob q _ _ _=>⟨ob.slots,k b ob q⟩,fun _ _ _ n _=>n,fun b ob q _=>⟨ob,k b ob q⟩,fun _ _ q=>q,fun _ _ _ q=>q,fun _ ps q=>⟨#[],by rw [q]; simp⟩⟩
theorem Un.refl:Un fs ex H H h h:=Un.kept fun _ _ q=>q
theorem Un.laid (k:∀ b u,h.get? b=some u->h'.get? b=some u) (hp:h.objs.size<=a) (hn:H a=none):Un fs ex H (upd H a o) h h' where
 keep:=fun b u q _ _ _=>k b u q
 slot:=fun b u q _ _ _=>⟨u.slots,k b u q⟩
 free:=fun b u q n _=>by rw [aS (NF (Nv (Na q) hp))]; exact n
 there:=fun b u q _=>⟨u,k b u q⟩
 tups:=fun b xs q=>by rw [aS (bn q hn)]; exact q
 frzs:=fun b u xs q=>by rw [aS (bn q hn)]; exact q
 tbls:=fun b ps q=>⟨#[],by rw [aS (bn q hn),q]; simp⟩
theorem Un.write (mu:Mut (H x)) (he:e=x\/H e=some (.own x)) (k:∀ b u,b≠e->h.get? b=some u->h'.get? b=some u) (heo:∃ u,h'.get? e=some u):Un fs ex H (upd H x o) h h':=by
 have hx:∀ b,H b=none->b≠x:=fun b n z=>by subst z; rw [n] at mu; exact mu
 have hb:∀ b,H b=none->b≠e:=fun b n z=>by
  subst z
  rcases he with r | r
  ·exact hx b n r
  ·rw [n] at r; cases r
 have hm:∀ b u,H b=some u->¬ Mut (some u)->b≠x:=fun b u q nm z=>by subst z; rw [q] at mu; exact nm mu
 refine ⟨fun b u q n _ _=>k b u (hb b n) q,fun b u q n _ _=>⟨u.slots,k b u (hb b n) q⟩,fun b u q n _=>by rw [aS (hx b n)]; exact n,fun b u q _=>?_,
  fun b xs q=>by rw [aS (hm b _ q fun z=>z)]; exact q,fun b u xs q=>by rw [aS (hm b _ q fun z=>z)]; exact q,fun b ps q=>⟨#[],by rw [aS (hm b _ q fun z=>z),q]; simp⟩⟩
 by_cases hbe:b=e
 ·subst hbe; exact heo
 ·exact ⟨u,k b u hbe q⟩
end
noncomputable def trk (h:Heap) (H:Hp):List Addr:=(Nw h.objs.size).filter fun a=>(H a).isSome
noncomputable def pM (h:Heap) (H:Hp):Heap:=PySem.W.hideAll h (trk h H)
theorem FH (h:Heap) (H:Hp):(pM h H).objs.size=h.objs.size:=PySem.W.hideAll_size _ _
theorem Hg {h:Heap} {H:Hp} {b:Addr} {o:Obj} (e:h.get? b=some o) (n:H b=none):(pM h H).get? b=some o:=
 PySem.W.hideAll_get _ e fun hm=>by
  have q:(H b).isSome=true:=(Pp.mp hm).2
  rw [n] at q; simp at q
theorem JM {h:Heap} {H:Hp} {b:Addr} {o:Obj} (e:(pM h H).get? b=some o):h.get? b=some o/\H b=none:=by
 have e':h.get? b=some o:=PySem.W.of_hideAll (trk h H) e
 refine ⟨e',?_⟩
 cases q:H b with
 | none=>rfl
 | some x=>
  have hm:b∈trk h H:=Pp.mpr ⟨OT.mpr (Na e'),by simp [q]⟩
  have z:(pM h H).get? b=none:=PySem.W.hideAll_none (trk h H) hm
  rw [z] at e; cases e
noncomputable def JN (g h:Heap) (L:Addr):List (Addr×Obj):=(Nw h.objs.size).filterMap fun a=>if a=L\/(g.get? a).isSome=true then none else (h.get? a).map fun o=>(a,o)
noncomputable def dw (g h:Heap) (L d:Addr):List (Addr×Obj):=(JN g h L).filter fun p=>decide (p.1≠d)
end L2
namespace L2
open PySem PySem.Spec PyProof.Rows
structure Mod (K:Fg) (mg:Str->Option Value) (base:Heap):Prop where
 kin:K.In base
 glob:base.Ns NB mg
 blt:∃ mb,base.Ns Vy mb/\∀ x:Str,x≠"__name__"->mb x=QJ x
 nolimit:base.NoLimit
set_option genInjectivity false in
structure Cx where
 prog:Program
 w:World
 K:Fg
 mg:Str->Option Value
 base:Heap
 A:Around
 N:List Str
 s₀:Shared
 H₀:Hp
 env:Env
 outer:List Env
 stack:List Env
 ex:List Addr
 fn:Str->Bool
 calm:Bool
 pn:List (Addr×Obj)
 xe:Value->Shared->Prop
noncomputable def frs (l:List Env):List Addr:=l.filterMap (·.frame)
noncomputable abbrev Cx.fs (X:Cx):List Addr:=frs X.outer
noncomputable def Vis (sc:Scope) (x:Str):Prop:=sc.names.lookup x=some .local\/sc.names.lookup x=some .cell\/sc.names.lookup x=some .free
noncomputable def Loc (sc:Scope) (x:Str):Prop:=sc.names.lookup x=some .local\/sc.names.lookup x=some .cell
noncomputable def KY (env:Env) (h:Heap) (m:Str->Option Value) (x:Str) (u:Value):Prop:=
 (env.kindOf x=some .local/\m x=some u)\/((env.kindOf x=some .cell\/env.kindOf x=some .free)/\∃ c,env.cells.lookup x=some c/\h.IsCell c (some u))
structure Cx.Ok (X:Cx):Prop where
 mod:Mod X.K X.mg X.base
 kind:X.env.scope.kind=.function
 glob:X.env.globals=NB
 blt:X.env.builtins=Vy
 above:X.s₀.heap.objs.size<=X.env.locals
 inj:∀ x y c,X.env.cells.lookup x=some c->X.env.cells.lookup y=some c->x=y
 has:∀ x,(X.env.kindOf x=some .cell\/X.env.kindOf x=some .free)->∃ c,X.env.cells.lookup x=some c
 cab:∀ x c,X.fn x=true->X.env.cells.lookup x=some c->X.s₀.heap.objs.size<=c
 hd:X.calm=true->X.A.handled=none
 frames:X.A.frames=some X.stack
 stk:X.stack=X.outer\/(X.stack=X.env :: X.outer/\X.env.frame=some X.env.locals)
 exf:∀ b∈X.ex,b≠X.env.locals/\∀ x c,X.env.cells.lookup x=some c->c≠b
 bs:∀ b o,X.base.get? b=some o->X.s₀.heap.get? b=some o/\X.H₀ b=none
 bsz:X.base.objs.size<=X.s₀.heap.objs.size
 noex:∀ b o,X.base.get? b=some o->b∉X.ex
 exfs:∀ b∈X.ex,b∉X.fs
 funs:X.s₀.heap.FunFrames X.base X.outer
 frf:∀ b∈X.fs,X.H₀ b=none
structure Inv (X:Cx) (pins:List (Addr×Obj)) (σ:List (Option V)) (H:Hp) (s:Shared):Prop where
 ok:X.Ok
 os:s.os=X.s₀.os
 bare:AllBare s.gens
 base:Un X.fs X.ex X.H₀ H X.s₀.heap s.heap
 loc:∃ m,s.heap.Ns X.env.locals m/\∀ (i:Nat) (x:Str) (v:V),X.N[i]?=some x->σ[i]?=some (some v)->Vis X.env.scope x->∃ u,aM v u/\KY X.env s.heap m x u
 cell:∀ x c,X.env.cells.lookup x=some c->∃ v,s.heap.IsCell c v
 free:H X.env.locals=none
 freeC:∀ x c,X.env.cells.lookup x=some c->H c=none
 pin:∀ p∈X.pn++pins,s.heap.get? p.1=some p.2/\H p.1=none/\p.1≠X.env.locals/\p.1∉X.fs/\∀ v,p.2.data≠.cell v
 hok:HOk X.prog X.w H s.heap
 len:σ.length=X.N.length
section
variable {X:Cx} {pins:List (Addr×Obj)} {σ:List (Option V)} {H H':Hp} {s:Shared} {h':Heap}
theorem Cx.Ok.nofr (ok:X.Ok) {b:Addr} {o:Obj} (e:X.base.get? b=some o):b∉X.fs:=fun hb=>by
 have:=(ok.funs.mem hb).1
 rw [e] at this; cases this
theorem Inv.bs (I:Inv X pins σ H s):∀ b o,X.base.get? b=some o->s.heap.get? b=some o/\H b=none:=fun b o e=>
 ⟨I.base.keep b o (I.ok.bs b o e).1 (I.ok.bs b o e).2 (I.ok.nofr e) (I.ok.noex b o e),I.base.free b o (I.ok.bs b o e).1 (I.ok.bs b o e).2 (I.ok.noex b o e)⟩
theorem Inv.bk (I:Inv X pins σ H s):∀ b o,X.base.get? b=some o->s.heap.get? b=some o:=fun b o e=>(I.bs b o e).1
theorem Inv.mod (I:Inv X pins σ H s):Mod X.K X.mg X.base:=I.ok.mod
theorem Inv.kIn (I:Inv X pins σ H s):X.K.In s.heap:=I.ok.mod.kin.keeps I.bk
theorem Inv.lt (I:Inv X pins σ H s):X.env.locals < s.heap.objs.size:=let ⟨_,hn,_⟩:=I.loc; hn.lt
theorem Inv.sz (I:Inv X pins σ H s):X.s₀.heap.objs.size<=s.heap.objs.size:=NH I.ok.above (N4 I.lt)
theorem Inv.nofs (I:Inv X pins σ H s) {a:Addr} (h:s.heap.objs.size<=a):a∉X.fs:=fun hb=>by
 obtain ⟨_,o,ho,_⟩:=I.ok.funs.mem hb
 exact absurd (Nv (Na ho) (NH I.sz h)) (OQ _)
theorem Inv.cne (I:Inv X pins σ H s):∀ x c,X.env.cells.lookup x=some c->c≠X.env.locals:=fun x c e z=>by
 obtain ⟨v,o,ho,hd⟩:=I.cell x c e
 obtain ⟨m,⟨o',es,ep,ho',hd',_⟩,_⟩:=I.loc
 rw [z,ho'] at ho; cases ho; rw [hd'] at hd; cases hd
theorem Inv.funs (I:Inv X pins σ H s):s.heap.FunFrames X.base X.outer:=by
 have all:∀ (l:List Env),(∀ b∈frs l,b∈X.fs)->X.s₀.heap.FunFrames X.base l->s.heap.FunFrames X.base l:=by
  intro l
  induction l with
  | nil=>intro _ _; trivial
  | cons env r ih=>
   intro hs hl
   obtain ⟨hk,⟨L,o,hf,hn,ho,hd⟩,hr⟩:=hl
   have hL:L∈X.fs:=hs L (by unfold frs; rw [QE,hf]; exact M7)
   obtain ⟨sl,e⟩:=I.base.slot L o ho (I.ok.frf L hL) hL fun z=>I.ok.exfs L z hL
   exact ⟨hk,⟨L,_,hf,hn,e,hd⟩,ih (fun b hb=>hs b (by unfold frs; rw [QE,hf]; exact Nh _ hb)) hr⟩
 exact all X.outer (fun _ hb=>hb) I.ok.funs
theorem Inv.stack (I:Inv X pins σ H s):s.heap.FunFrames X.base X.stack:=by
 rcases I.ok.stk with e | ⟨e,hf⟩
 ·rw [e]; exact I.funs
 ·rw [e]
  obtain ⟨m,hn,_⟩:=I.loc
  refine .cons (by rw [I.ok.kind]; decide) hf hn ?_ I.funs
  exact Heap.get?_none_of_le (NH I.ok.bsz I.ok.above)
theorem Inv.stkSub (I:Inv X pins σ H s):∀ b∈frs X.stack,b∈X.env.locals :: X.fs:=fun b hb=>by
 rcases I.ok.stk with e | ⟨e,hf⟩
 ·rw [e] at hb; exact Nh _ hb
 ·rw [e] at hb
  unfold frs at hb
  rw [QE,hf] at hb
  exact hb
theorem Inv.stkFree (I:Inv X pins σ H s):∀ b∈frs X.stack,H b=none:=fun b hb=>by
 rcases M6.mp (I.stkSub b hb) with e | hb
 ·rw [e]; exact I.free
 ·obtain ⟨_,o,ho,_⟩:=I.ok.funs.mem hb
  exact I.base.free b o ho (I.ok.frf b hb) fun z=>I.ok.exfs b z hb
theorem Inv.step {g':Array TH} {t':Nat} {d':Drawn} {ch:List Addr} (I:Inv X pins σ H s)
  (hch:∀ b∈ch,(b∈X.ex\/X.s₀.heap.objs.size<=b)/\b≠X.env.locals/\(∀ x c,X.env.cells.lookup x=some c->c≠b)/\∀ p∈X.pn++pins,p.1≠b)
  (keep:∀ b o,b≠X.env.locals->b∉X.fs->b∉ch->s.heap.get? b=some o->H b=none->h'.get? b=some o)
  (slot:∀ b o,b≠X.env.locals->b∈X.fs->b∉ch->s.heap.get? b=some o->H b=none->∃ sl,h'.get? b=some { o with slots:=sl }) (free:∀ b o,b∉ch->s.heap.get? b=some o->H b=none->H' b=none)
  (there:∀ b o,b∉ch->s.heap.get? b=some o->∃ o',h'.get? b=some o')
  (tups:∀ b xs,H b=some (.tup xs)->H' b=some (.tup xs)) (frzs:∀ b o u,H b=some (.frz o u)->H' b=some (.frz o u)) (tbls:∀ b ps,H b=some (.tbl ps)->∃ more,H' b=some (.tbl (ps++more)))
  (ns:∀ m,s.heap.Ns X.env.locals m->h'.Ns X.env.locals m) (hok:HOk X.prog X.w H' h') (hg:AllBare g'):
  Inv X pins σ H' { s with heap:=h',gens:=g',drawn:=d',toks:=t' }:=by
 have neL:∀ b o,X.s₀.heap.get? b=some o->b≠X.env.locals:=fun b o e=>NF (Nv (Na e) I.ok.above)
 have neC:∀ b o,X.s₀.heap.get? b=some o->b∉X.ex->b∉ch:=fun b o e hx hb=>by
  rcases (hch b hb).1 with z | z
  ·exact hx z
  ·exact absurd (Nv (Na e) z) (OQ _)
 have cellK:∀ x c,X.env.cells.lookup x=some c->∀ v,s.heap.IsCell c v->h'.IsCell c v:=fun x c e v ⟨o,ho,hd⟩=>by
  have nch:c∉ch:=fun z=>(hch c z).2.2.1 x c e rfl
  by_cases hc:c∈X.fs
  ·obtain ⟨sl,q⟩:=slot c o (I.cne x c e) hc nch ho (I.freeC x c e)
   exact ⟨_,q,hd⟩
  ·exact ⟨o,keep c o (I.cne x c e) hc nch ho (I.freeC x c e),hd⟩
 refine ⟨I.ok,I.os,hg,⟨fun b o e n hb hx=>?_,fun b o e n hb hx=>?_,fun b o e n hx=>?_,fun b o e hx=>?_,fun b xs e=>tups b xs (I.base.tups b xs e),fun b o xs e=>frzs b o xs (I.base.frzs b o xs e),fun b ps e=>?_⟩,?_,fun x c e=>?_,?_,fun x c e=>?_,fun p hp=>?_,hok,I.len⟩
 ·exact keep b o (neL b o e) hb (neC b o e hx) (I.base.keep b o e n hb hx) (I.base.free b o e n hx)
 ·obtain ⟨sl,e1⟩:=I.base.slot b o e n hb hx
  obtain ⟨sl',e2⟩:=slot b _ (neL b o e) hb (neC b o e hx) e1 (I.base.free b o e n hx)
  exact ⟨sl',e2⟩
 ·obtain ⟨o',e1⟩:=I.base.there b o e hx
  exact free b o' (neC b o e hx) e1 (I.base.free b o e n hx)
 ·obtain ⟨o',e1⟩:=I.base.there b o e hx
  exact there b o' (neC b o e hx) e1
 ·obtain ⟨m1,e1⟩:=I.base.tbls b ps e
  obtain ⟨m2,e2⟩:=tbls b _ e1
  exact ⟨m1++m2,by rw [e2,Array.append_assoc]⟩
 ·obtain ⟨m,hn,hl⟩:=I.loc
  refine ⟨m,ns m hn,fun i x v e1 e2 e3=>?_⟩
  obtain ⟨u,r,l⟩:=hl i x v e1 e2 e3
  refine ⟨u,r,?_⟩
  rcases l with l | ⟨k,c,e,z⟩
  ·exact .inl l
  ·exact .inr ⟨k,c,e,cellK x c e _ z⟩
 ·obtain ⟨v,z⟩:=I.cell x c e
  exact ⟨v,cellK x c e v z⟩
 ·obtain ⟨m,⟨o,_,_,ho,_⟩,_⟩:=I.loc
  exact free _ o (fun z=>(hch _ z).2.1 rfl) ho I.free
 ·obtain ⟨v,o,ho,hd⟩:=I.cell x c e
  exact free c o (fun z=>(hch c z).2.2.1 x c e rfl) ho (I.freeC x c e)
 ·obtain ⟨e,n,ne,nf,d⟩:=I.pin p hp
  have nch:p.1∉ch:=fun z=>(hch p.1 z).2.2.2 p hp rfl
  exact ⟨keep p.1 p.2 ne nf nch e n,free p.1 p.2 nch e n,ne,nf,d⟩
theorem Inv.un {t':Nat} (I:Inv X pins σ H s) (u:Un X.fs [] H H' s.heap h') (hok:HOk X.prog X.w H' h'):Inv X pins σ H' { s with heap:=h',toks:=t' }:=by
 obtain ⟨m,⟨o,es,ep,ho,r⟩,_⟩:=id I.loc
 obtain ⟨sl,hL⟩:=u.any ho I.free (by simp)
 exact I.step (g':=s.gens) (d':=s.drawn) (ch:=[]) (fun _ z=>nomatch z) (fun b o _ hb _ e n=>u.keep b o e n hb (by simp)) (fun b o _ hb _ e n=>u.slot b o e n hb (by simp)) (fun b o _ e n=>u.free b o e n (by simp)) (fun b o _ e=>u.there b o e (by simp)) u.tups u.frzs u.tbls (fun m' hm=>by
  obtain ⟨o',es',ep',ho',r'⟩:=hm
  rw [ho] at ho'; cases ho'
  exact ⟨_,es',ep',hL,r'⟩) hok I.bare
theorem Inv.call {g':Array TH} {t':Nat} {d':Drawn} {ch:List Addr} (I:Inv X pins σ H s) (u:Un (frs X.stack) ch H H' s.heap h') (hok:HOk X.prog X.w H' h') (hg:AllBare g')
  (hch:∀ b∈ch,(b∈X.ex\/X.s₀.heap.objs.size<=b)/\b≠X.env.locals/\(∀ x c,X.env.cells.lookup x=some c->c≠b)/\∀ p∈X.pn++pins,p.1≠b):
  Inv X pins σ H' { s with heap:=h',gens:=g',drawn:=d',toks:=t' }:=by
 obtain ⟨m,⟨o,es,ep,ho,r⟩,_⟩:=id I.loc
 obtain ⟨sl,hL⟩:=u.any ho I.free fun z=>(hch _ z).2.1 rfl
 exact I.step (ch:=ch) hch (fun b o hL hb hc e n=>u.keep b o e n (fun z=>(M6.mp (I.stkSub b z)).elim hL hb) hc) (fun b o _ _ hc e n=>u.any e n hc) (fun b o hc e n=>u.free b o e n hc) (fun b o hc e=>u.there b o e hc) u.tups u.frzs u.tbls (fun m' hm=>by
  obtain ⟨o',es',ep',ho',r'⟩:=hm
  rw [ho] at ho'; cases ho'
  exact ⟨_,es',ep',hL,r'⟩) hok hg
theorem Inv.turned {t':Nat} {it:Addr} (I:Inv X pins σ H s) (k:∀ b o,b≠it->s.heap.get? b=some o->h'.get? b=some o) (hn:H it=none) (hL:it≠X.env.locals)
  (h1:it∈X.ex\/X.s₀.heap.objs.size<=it) (h2:∀ x c,X.env.cells.lookup x=some c->c≠it) (h3:∀ p∈X.pn++pins,p.1≠it):Inv X pins σ H { s with heap:=h',toks:=t' }:=by
 have nit:∀ b u,H b=some u->b≠it:=fun b u e z=>by rw [z,hn] at e; cases e
 refine I.step (g':=s.gens) (d':=s.drawn) (ch:=[it]) (fun b hb=>?_) (fun b o _ _ hc e _=>k b o (fun z=>hc (by simp [z])) e) (fun b o _ _ hc e _=>⟨o.slots,k b o (fun z=>hc (by simp [z])) e⟩) (fun _ _ _ _ n=>n)
  (fun b o hc e=>⟨o,k b o (fun z=>hc (by simp [z])) e⟩) (fun _ _ e=>e) (fun _ _ _ e=>e) (fun b ps e=>⟨#[],by rw [e]; simp⟩) (fun m hm=>?_) (fun b u e=>?_) I.bare
 ·have e:b=it:=by simpa using hb
  subst e
  exact ⟨h1,hL,h2,h3⟩
 ·obtain ⟨o,es,ep,ho,r⟩:=hm
  exact ⟨o,es,ep,k _ o (OC hL) ho,r⟩
 ·refine (I.hok b u e).stay (fun c v hc q=>k c v ?_ q) (fun _ q=>q) fun _ _ q=>q
  rcases hc with z | z
  ·rw [z]; exact nit b u e
  ·exact nit c _ z
theorem Inv.tok (I:Inv X pins σ H s) (t:Nat):Inv X pins σ H { s with toks:=t }:=I.un (h':=s.heap) (t':=t) Un.refl I.hok
theorem Inv.kept {t':Nat} (I:Inv X pins σ H s) (k:∀ b u,s.heap.get? b=some u->h'.get? b=some u):Inv X pins σ H { s with heap:=h',toks:=t' }:=I.un (Un.kept k) (I.hok.kept k)
theorem Inv.laid {a:Addr} {o:HO} {t':Nat} (I:Inv X pins σ H s) (k:∀ b u,s.heap.get? b=some u->h'.get? b=some u) (hp:s.heap.objs.size<=a) (new:bZ X.prog X.w (upd H a o) h' a o):
  Inv X pins σ (upd H a o) { s with heap:=h',toks:=t' }:=I.un (Un.laid k hp (I.hok.fresh hp)) (I.hok.laid k hp new)
theorem Inv.write {x e:Addr} {o:HO} {t':Nat} (I:Inv X pins σ H s) (mu:Mut (H x)) (he:e=x\/H e=some (.own x)) (k:∀ b u,b≠e->s.heap.get? b=some u->h'.get? b=some u) (heo:∃ u,h'.get? e=some u)
  (new:bZ X.prog X.w (upd H x o) h' x o):Inv X pins σ (upd H x o) { s with heap:=h',toks:=t' }:=I.un (Un.write mu he k heo) (I.hok.write mu he k heo new)
theorem Inv.pins_of {pins':List (Addr×Obj)} (I:Inv X pins σ H s) (h:∀ p∈pins',s.heap.get? p.1=some p.2/\H p.1=none/\p.1≠X.env.locals/\p.1∉X.fs/\∀ v,p.2.data≠.cell v):Inv X pins' σ H s:=
 ⟨I.ok,I.os,I.bare,I.base,I.loc,I.cell,I.free,I.freeC,fun p hp=>(NL.mp hp).elim (fun z=>I.pin p (OL _ z)) (h p),I.hok,I.len⟩
theorem AY {N:List Str} (hN:N.Nodup) {i j:Nat} {x:Str} (a:N[i]?=some x) (b:N[j]?=some x):i=j:=by
 obtain ⟨h1,e1⟩:=M4.mp a
 obtain ⟨h2,e2⟩:=M4.mp b
 exact (List.getElem_inj hN).mp (e1.trans e2.symm)
theorem zb {M:Model} {A:Around} {E:Value->Shared->Prop} {i:Nat} {x:Str} {v:V} {u:Value} {Q:Unit->Shared->Prop} (I:Inv X pins σ H s) (hN:X.N.Nodup) (hi:X.N[i]?=some x) (hx:Loc X.env.scope x) (r:aM v u)
  (h:∀ s',Inv X pins (σ.set i (some v)) H s'->(∃ a,Nn a s.heap s'.heap/\(a=X.env.locals\/X.env.cells.lookup x=some a))->Q () s') (hf:X.fn x=true\/X.env.scope.names.lookup x=some .local:=by first | exact .inl rfl | exact .inr rfl | assumption):wpAny M A (storeName X.env x u) Q E s:=by
 obtain ⟨m,hn,hl⟩:=id I.loc
 have hcls:(X.env.scope.kind == .class || (X.env.scope.kind == .module && X.env.locals != X.env.globals))=false:=by rw [I.ok.kind]; rfl
 have hiσ:i < σ.length:=by rw [I.len]; exact (M4.mp hi).1
 have cne:=I.cne
 have tracked:∀ {a:Addr} {h':Heap},(∃ o,s.heap.get? a=some o/\H a=none)->Nn a s.heap h'->HOk X.prog X.w H h':=fun {a h'} ha hs b ob e=>by
  obtain ⟨_,_,hfree⟩:=ha
  refine (I.hok b ob e).stay (fun c w' hc q=>(hs.2 c ?_).trans q) (fun _ q=>q) fun _ _ q=>q
  rintro rfl
  rcases hc with rfl | hc
  ·rw [hfree] at e; cases e
  ·rw [hfree] at hc; cases hc
 rcases hx with hk | hk
 ·refine wpAny_storeName_local hk hn (fun h' hn' hs=>?_) hcls
  obtain ⟨oL,_,_,hoL,_⟩:=id hn
  refine h _ ⟨I.ok,I.os,I.bare,⟨fun b o e n hb hx=>?_,fun b o e n hb hx=>?_,I.base.free,fun b o e hx=>?_,I.base.tups,I.base.frzs,I.base.tbls⟩,⟨_,hn',fun j y v' e1 e2 e3=>?_⟩,fun y c e=>?_,I.free,I.freeC,fun p hp=>?_,tracked ⟨oL,hoL,I.free⟩ hs,by simpa using I.len⟩ ⟨_,hs,.inl rfl⟩
  ·exact (hs.2 b (NF (Nv (Na e) I.ok.above))).trans (I.base.keep b o e n hb hx)
  ·obtain ⟨sl,e1⟩:=I.base.slot b o e n hb hx
   exact ⟨sl,(hs.2 b (NF (Nv (Na e) I.ok.above))).trans e1⟩
  ·obtain ⟨o',e1⟩:=I.base.there b o e hx
   exact ⟨o',(hs.2 b (NF (Nv (Na e) I.ok.above))).trans e1⟩
  ·by_cases hj:j=i
   ·subst hj
    rw [hi] at e1; cases e1
    rw [Tc hiσ] at e2
    cases e2
    exact ⟨u,r,.inl ⟨hk,by simp⟩⟩
   ·rw [TJ (OC hj)] at e2
    obtain ⟨u',r',q⟩:=hl j y v' e1 e2 e3
    refine ⟨u',r',?_⟩
    rcases q with ⟨k,e⟩ | ⟨k,c,e,z⟩
    ·refine .inl ⟨k,?_⟩
     have:y≠x:=fun e=>hj (AY hN e1 (e ▸ hi))
     simp [this,e]
    ·exact .inr ⟨k,c,e,z.sameBut hs (cne y c e)⟩
  ·obtain ⟨w',z⟩:=I.cell y c e
   exact ⟨w',z.sameBut hs (cne y c e)⟩
  ·obtain ⟨e,n,ne,nf,d⟩:=I.pin p hp
   exact ⟨(hs.2 p.1 ne).trans e,n,ne,nf,d⟩
 ·have hfn:X.fn x=true:=by
   rcases hf with z | z
   ·exact z
   ·rw [z] at hk; cases hk
  obtain ⟨c,hc⟩:=I.ok.has x (.inl hk)
  obtain ⟨w',z⟩:=I.cell x c hc
  refine wpAny_storeName_cell I.ok.kind hk hc z (fun h' hc' hs=>?_)
  obtain ⟨oc,hoc,hocd⟩:=id z
  refine h { s with heap:=h' } ⟨I.ok,I.os,I.bare,⟨fun b o e n hb hx=>?_,fun b o e n hb hx=>?_,I.base.free,fun b o e hx=>?_,I.base.tups,I.base.frzs,I.base.tbls⟩,⟨m,hn.sameBut hs (OC (cne x c hc)),fun j y v' e1 e2 e3=>?_⟩,fun y c' e=>?_,I.free,I.freeC,fun p hp=>?_,tracked ⟨oc,hoc,I.freeC x c hc⟩ hs,by simpa using I.len⟩ ⟨c,hs,.inr hc⟩
  ·exact (hs.2 b (NF (Nv (Na e) (I.ok.cab x c hfn hc)))).trans (I.base.keep b o e n hb hx)
  ·obtain ⟨sl,e1⟩:=I.base.slot b o e n hb hx
   exact ⟨sl,(hs.2 b (NF (Nv (Na e) (I.ok.cab x c hfn hc)))).trans e1⟩
  ·obtain ⟨o',e1⟩:=I.base.there b o e hx
   exact ⟨o',(hs.2 b (NF (Nv (Na e) (I.ok.cab x c hfn hc)))).trans e1⟩
  ·by_cases hj:j=i
   ·subst hj
    rw [hi] at e1; cases e1
    rw [Tc hiσ] at e2
    cases e2
    exact ⟨u,r,.inr ⟨.inl hk,c,hc,hc'⟩⟩
   ·rw [TJ (OC hj)] at e2
    obtain ⟨u',r',q⟩:=hl j y v' e1 e2 e3
    refine ⟨u',r',?_⟩
    rcases q with q | ⟨k,c',e,z'⟩
    ·exact .inl q
    ·refine .inr ⟨k,c',e,z'.sameBut hs ?_⟩
     rintro rfl
     exact hj (AY hN e1 (I.ok.inj _ _ _ e hc ▸ hi))
  ·by_cases hcc:c'=c
   ·subst hcc; exact ⟨_,hc'⟩
   ·obtain ⟨w2,z2⟩:=I.cell y c' e
    exact ⟨w2,z2.sameBut hs hcc⟩
  ·obtain ⟨e,n,ne,nf,d⟩:=I.pin p hp
   refine ⟨(hs.2 p.1 ?_).trans e,n,ne,nf,d⟩
   intro q
   rw [q,hoc] at e
   have q':oc=p.2:=Nf e
   exact d w' (by rw [<-q']; exact hocd)
theorem AZ {M:Model} {A:Around} {E:Value->Shared->Prop} {i:Nat} {x:Str} {v:V} {u:Value} {Q:Unit->Shared->Prop} (I:Inv X pins σ H s) (hN:X.N.Nodup) (hi:X.N[i]?=some x) (hx:Loc X.env.scope x) (r:aM v u)
  (h:∀ s',Inv X pins (σ.set i (some v)) H s'->Q () s') (hf:X.fn x=true\/X.env.scope.names.lookup x=some .local:=by first | exact .inl rfl | exact .inr rfl | assumption):wpAny M A (storeName X.env x u) Q E s:=
 zb I hN hi hx r (fun s' I' _=>h s' I') hf
theorem Inv.call' {s':Shared} {ch:List Addr} (I:Inv X pins σ H s) (ho:s'.os=s.os) (u:Un (frs X.stack) ch H H' s.heap s'.heap) (hok:HOk X.prog X.w H' s'.heap) (hg:AllBare s'.gens)
  (hch:∀ b∈ch,(b∈X.ex\/X.s₀.heap.objs.size<=b)/\b≠X.env.locals/\(∀ x c,X.env.cells.lookup x=some c->c≠b)/\∀ p∈X.pn++pins,p.1≠b):Inv X pins σ H' s':=by
 obtain ⟨h',g',d',t',o'⟩:=s'
 have e:o'=s.os:=ho
 subst e
 exact I.call (g':=g') (t':=t') (d':=d') u hok hg hch
end
noncomputable abbrev XK:=Value->Option Addr->Hp->Prop
noncomputable abbrev St:=List (Option V)
noncomputable abbrev VK:=V->Hp->Prop
noncomputable abbrev TE:=St->Hp->VK->Prop
noncomputable abbrev TT:=St->Hp->(Bool->Hp->Prop)->Prop
noncomputable abbrev TA:=St->Hp->(List V->Hp->Prop)->Prop
set_option genInjectivity false in
structure kf where
 nx:St->Hp->Prop
 rt:VK
 bk:St->Hp->Prop:=fun _ _=>False
 ct:St->Hp->Prop:=fun _ _=>False
noncomputable abbrev TS:=kf->St->Hp->Prop
noncomputable def EP (X:Cx) (pins:List (Addr×Obj)) (σ:St) (Q:VK) (u:Value) (s':Shared):Prop:=∃ v H',Inv X pins σ H' s'/\aM v u/\Q v H'
noncomputable def TP (X:Cx) (pins:List (Addr×Obj)) (σ:St) (Q:Bool->Hp->Prop) (b:Bool) (s':Shared):Prop:=∃ H',Inv X pins σ H' s'/\Q b H'
noncomputable def AP (X:Cx) (pins:List (Addr×Obj)) (σ:St) (Q:List V->Hp->Prop) (us:List Value) (s':Shared):Prop:=∃ vs H',Inv X pins σ H' s'/\aK vs us/\Q vs H'
noncomputable def SP (X:Cx) (pins:List (Addr×Obj)) (D:kf) (f:Flow) (s':Shared):Prop:=
 match f with
 | .next=>∃ σ' H',Inv X pins σ' H' s'/\D.nx σ' H'
 | .brk=>∃ σ' H',Inv X pins σ' H' s'/\D.bk σ' H'
 | .cont=>∃ σ' H',Inv X pins σ' H' s'/\D.ct σ' H'
 | .ret u=>∃ v σ' H',Inv X pins σ' H' s'/\aM v u/\D.rt v H'
noncomputable def PE (X:Cx) (e:Expr) (t:TE):Prop:=
 ∀ (pins:List (Addr×Obj)) (s:Shared) (σ:St) (H:Hp) (Q:VK),Inv X pins σ H s->t σ H Q->wpAny (model X.prog X.w) X.A (eval e X.env) (EP X pins σ Q) X.xe s
noncomputable def PT (X:Cx) (e:Expr) (t:TT):Prop:=
 ∀ (pins:List (Addr×Obj)) (s:Shared) (σ:St) (H:Hp) (Q:Bool->Hp->Prop),Inv X pins σ H s->t σ H Q->wpAny (model X.prog X.w) X.A (isTrue e X.env (eval e X.env)) (TP X pins σ Q) X.xe s
noncomputable def PW (X:Cx) (e:Expr) (t:TT):Prop:=
 ∀ (whole:Sem Value) (pins:List (Addr×Obj)) (s:Shared) (σ:St) (H:Hp) (Q:Bool->Hp->Prop),Inv X pins σ H s->t σ H Q->wpAny (model X.prog X.w) X.A (isTrue e X.env whole) (TP X pins σ Q) X.xe s
theorem PW.pt {X:Cx} {e:Expr} {t:TT} (h:PW X e t):PT X e t:=h _
noncomputable def PA (X:Cx) (es:List Expr) (t:TA):Prop:=
 ∀ (pos:Pos) (pins:List (Addr×Obj)) (s:Shared) (σ:St) (H:Hp) (Q:List V->Hp->Prop),Inv X pins σ H s->t σ H Q->wpAny (model X.prog X.w) X.A (spliced (backTo pos (Nu es X.env))) (AP X pins σ Q) X.xe s
noncomputable def PS (X:Cx) (st:Stmt) (t:TS):Prop:=
 ∀ (pins:List (Addr×Obj)) (s:Shared) (σ:St) (H:Hp) (D:kf),Inv X pins σ H s->t D σ H->wpAny (model X.prog X.w) X.A (exec st X.env) (SP X pins D) X.xe s
noncomputable def PSs (X:Cx) (st:List Stmt) (t:TS):Prop:=
 ∀ (pins:List (Addr×Obj)) (s:Shared) (σ:St) (H:Hp) (D:kf),Inv X pins σ H s->t D σ H->wpAny (model X.prog X.w) X.A (execs st X.env) (SP X pins D) X.xe s
theorem thn {α:Type} {t:Sem α} {Q Q':α->Shared->Prop} {M:Model} {A:Around} {E:Value->Shared->Prop} {s:Shared} (h:wpAny M A t Q E s) (hQ:∀ a s,Q a s->Q' a s):wpAny M A t Q' E s:=OX h hQ fun _ _ x=>x
end L2
namespace L2
open PySem PySem.Spec PyProof.Rows
section
variable {X:Cx}
noncomputable def aa (i:Nat):TE:=fun σ H Q=>∃ v,σ[i]?=some (some v)/\Q v H
noncomputable def tC (v:V):TE:=fun _ H Q=>Q v H
theorem FI {i:Nat} {x:Str} {pos:Pos} (hN:X.N[i]?=some x) (hv:Vis X.env.scope x) (hd:(x == ("__debug__":Str))=false:=by decide) (hcd:(x == ("__classdict__":Str))=false:=by decide):PE X (.Name x pos) (aa i):=by
 intro pins s σ H Q I h
 obtain ⟨v,e,h⟩:=h
 obtain ⟨m,hn,hl⟩:=I.loc
 obtain ⟨u,r,l⟩:=hl i x v hN e hv
 have fin:EP X pins σ Q u s:=⟨v,H,I,r,h⟩
 rcases l with ⟨hk,hm⟩ | ⟨hk,c,hc,hcell⟩
 ·exact Vz (wpAny_loadName_local I.ok.kind hk hn hm fin) hd
 ·rcases hk with hk | hk
  ·exact Vz (wpAny_loadName_cell I.ok.kind hk hc hcell fin) hd
  ·exact Vz (wpAny_loadName_free I.ok.kind hk hc hcell fin hcd) hd
theorem ao {i j pos}:PE X (.Constant (.int i) j pos) (tC (.int i)):=fun _ _ _ H _ I h=>wpAny_Constant_int ⟨.int i,H,I.tok _,⟨_,rfl⟩,h⟩
theorem cf {b j pos}:PE X (.Constant (.bool b) j pos) (tC (.bl b)):=fun _ _ _ H _ I h=>Constant_bool ⟨.bl b,H,I,rfl,h⟩
theorem KZ {j pos}:PE X (.Constant .none j pos) (tC .non):=fun _ _ _ H _ I h=>Constant_none ⟨.non,H,I,rfl,h⟩
theorem bh {x j pos}:PE X (.Constant (.str x) j pos) (tC (.str x)):=fun _ _ _ H _ I h=>Calls.Constant_str ⟨.str x,H,I.tok _,⟨_,rfl⟩,h⟩
noncomputable def Gl (X:Cx) (x:Str):Prop:=X.env.kindOf x=some .globalImplicit
theorem yf {E:Value->Shared->Prop} {pins:List (Addr×Obj)} {s:Shared} {σ:St} {H:Hp} {x:Str} {u:Value} {pos:Pos} {Q:Value->Shared->Prop} (I:Inv X pins σ H s) (hg:Gl X x) (hm:X.mg x=some u) (h:Q u s)
  (hd:(x == ("__debug__":Str))=false:=by decide):wpAny (model X.prog X.w) X.A (eval (.Name x pos) X.env) Q E s:=
 RX I.ok.kind hg (Calls.loadGlobal_global (by rw [I.ok.glob]; exact I.mod.glob.keeps I.bk) hm h) hd
theorem iR {E:Value->Shared->Prop} {pins:List (Addr×Obj)} {s:Shared} {σ:St} {H:Hp} {x:Str} {u:Value} {pos:Pos} {Q:Value->Shared->Prop} (I:Inv X pins σ H s) (hg:Gl X x) (hm:X.mg x=none) (hv:QJ x=some u) (h:Q u s)
  (hn:x≠"__name__":=by decide) (hd:(x == ("__debug__":Str))=false:=by decide):wpAny (model X.prog X.w) X.A (eval (.Name x pos) X.env) Q E s:=by
 obtain ⟨mb,h1,h2⟩:=I.mod.blt
 exact RX I.ok.kind hg (Calls.loadGlobal_builtin (by rw [I.ok.glob]; exact I.mod.glob.keeps I.bk) hm (by rw [I.ok.blt]; exact h1.keeps I.bk) ((h2 x hn).trans hv) h) hd
theorem kg {x:Str} {v:V} {u:Value} {pos:Pos} (hg:Gl X x) (hm:X.mg x=some u) (r:aM v u) (hd:(x == ("__debug__":Str))=false:=by decide):PE X (.Name x pos) (tC v):=
 fun _ _ _ H _ I h=>yf I hg hm ⟨v,H,I,r,h⟩ hd
theorem dR {x:Str} {v:V} {u:Value} {pos:Pos} (hg:Gl X x) (hm:X.mg x=none) (hv:QJ x=some u) (r:aM v u) (hn:x≠"__name__":=by decide) (hd:(x == ("__debug__":Str))=false:=by decide):PE X (.Name x pos) (tC v):=
 fun _ _ _ H _ I h=>iR I hg hm hv ⟨v,H,I,r,h⟩ hn hd
variable {a b:Expr} {ta tb:TE} {pos:Pos}
noncomputable def tB (t:TE):TT:=fun σ H Q=>t σ H fun x H1=>∃ c,x=.bl c/\Q c H1
theorem bG {e:Expr} {t:TE} (h:PE X e t) (he:∀ whole,isTrue e X.env whole=(do let v <-whole; standAt e.pos; holding [v] (truthy v)):=by intro _; rfl):PT X e (tB t):=by
 intro pins s σ H Q I hw
 refine isTrue_plain (thn (h pins s σ H _ I hw) fun v s1 ⟨x,H1,I1,r1,q1⟩=>?_) (he _)
 obtain ⟨d,rfl,q⟩:=q1
 cases r1
 exact Pa ⟨H1,I1,q⟩
variable {tA tB':TT} {dw:List Expr}
noncomputable def A0 (t u:TT):TT:=fun σ H Q=>t σ H fun c H1=>if c=true then u σ H1 Q else Q false H1
noncomputable def tOr (t u:TT):TT:=fun σ H Q=>t σ H fun c H1=>if c=true then Q true H1 else u σ H1 Q
noncomputable def dq (t:TT):TT:=fun σ H Q=>t σ H fun c H1=>Q (!c) H1
theorem Dd (ha:PT X a tA):PW X (.BoolOp .And [a] pos) tA:=by
 intro wh pins s σ H Q I h
 refine isTrue_and (thn (ha pins s σ H Q I h) fun c s1 e=>?_)
 cases c with
 | true=>exact isTrue_and_nil e
 | false=>exact e
theorem jw (ha:PT X a tA):PW X (.BoolOp .Or [a] pos) tA:=by
 intro wh pins s σ H Q I h
 refine isTrue_or (thn (ha pins s σ H Q I h) fun c s1 e=>?_)
 cases c with
 | false=>exact isTrue_or_nil e
 | true=>exact e
theorem A1 (ha:PT X a tA) (hb:PW X (.BoolOp .And (b :: dw) pos) tB'):PW X (.BoolOp .And (a :: b :: dw) pos) (A0 tA tB'):=by
 intro wh pins s σ H Q I h
 refine isTrue_and (thn (ha pins s σ H _ I h) fun c s1 ⟨H1,I1,q1⟩=>?_)
 cases c with
 | true=>exact hb wh pins s1 σ H1 Q I1 q1
 | false=>exact ⟨H1,I1,q1⟩
theorem mj (ha:PT X a tA) (hb:PW X (.BoolOp .Or (b :: dw) pos) tB'):PW X (.BoolOp .Or (a :: b :: dw) pos) (tOr tA tB'):=by
 intro wh pins s σ H Q I h
 refine isTrue_or (thn (ha pins s σ H _ I h) fun c s1 ⟨H1,I1,q1⟩=>?_)
 cases c with
 | true=>exact ⟨H1,I1,q1⟩
 | false=>exact hb wh pins s1 σ H1 Q I1 q1
theorem bU (ha:PT X a tA):PT X (.UnaryOp .Not a pos) (dq tA):=by
 intro pins s σ H Q I h
 exact isTrue_not (ha pins s σ H (fun c H1=>Q (!c) H1) I h)
noncomputable def ie (ta tb:TE):TE:=fun σ H Q=>ta σ H fun x H1=>∃ c,x=.bl c/\if c=true then tb σ H1 Q else Q (.bl false) H1
noncomputable def yg (ta tb:TE):TE:=fun σ H Q=>ta σ H fun x H1=>∃ c,x=.bl c/\if c=true then Q (.bl true) H1 else tb σ H1 Q
noncomputable def vV (ta:TE):TE:=fun σ H Q=>ta σ H fun x H1=>∃ c,x=.bl c/\Q (.bl (!c)) H1
theorem gX {op} {t:TE} (h:PE X a t):PE X (.BoolOp op [a] pos) t:=fun pins s σ H Q I hw=>BoolOp_one (h pins s σ H Q I hw)
theorem jx (ha:PE X a ta) (hb:PE X (.BoolOp .And (b :: dw) pos) tb):PE X (.BoolOp .And (a :: b :: dw) pos) (ie ta tb):=by
 intro pins s σ H Q I h
 refine BoolOp_and (thn (ha pins s σ H _ I h) fun v s1 ⟨x,H1,I1,r1,q1⟩=>?_)
 obtain ⟨c,rfl,q1⟩:=q1
 cases r1
 refine Pa ?_
 cases c with
 | true=>exact hb pins s1 σ H1 Q I1 q1
 | false=>exact ⟨.bl false,H1,I1,rfl,q1⟩
theorem Jq (ha:PE X a ta) (hb:PE X (.BoolOp .Or (b :: dw) pos) tb):PE X (.BoolOp .Or (a :: b :: dw) pos) (yg ta tb):=by
 intro pins s σ H Q I h
 refine BoolOp_or (thn (ha pins s σ H _ I h) fun v s1 ⟨x,H1,I1,r1,q1⟩=>?_)
 obtain ⟨c,rfl,q1⟩:=q1
 cases r1
 refine Pa ?_
 cases c with
 | false=>exact hb pins s1 σ H1 Q I1 q1
 | true=>exact ⟨.bl true,H1,I1,rfl,q1⟩
theorem A2 (ha:PE X a ta):PE X (.UnaryOp .Not a pos) (vV ta):=by
 intro pins s σ H Q I h
 refine UnaryOp_ (thn (ha pins s σ H _ I h) fun v s1 ⟨x,H1,I1,r1,q1⟩=>?_)
 obtain ⟨c,rfl,q1⟩:=q1
 cases r1
 exact not_of (Pa ⟨.bl (!c),H1,I1,rfl,q1⟩)
noncomputable def tIf (t:TT) (ta tb:TE):TE:=fun σ H Q=>t σ H fun c H1=>if c=true then ta σ H1 Q else tb σ H1 Q
end
end L2
namespace L2
open PySem PySem.Spec PyProof.Rows
noncomputable def SqL (K:Fg) (H:Hp) (a:Addr) (xs:List V):Prop:=
 Rd H a (.lst xs)\/
  ∃ (o:Obj) (its:Array Value) (n:Nat),K.lookup a=some o/\o.cls=.type "list"/\o.dict=none/\o.data=.seq its n/\its.size<=Nb/\aK xs its.toList
noncomputable def SqT (K:Fg) (H:Hp) (a:Addr) (xs:List V):Prop:=
 Rd H a (.tup xs)\/
  ∃ (o:Obj) (its:Array Value) (n:Nat),K.lookup a=some o/\o.cls=.type "tuple"/\o.data=.seq its n/\its.size<=Nb/\aK xs its.toList
noncomputable def MF:Value->Option V
 | .none=>some .non
 | .bool b=>some (.bl b)
 | .int i _=>some (.int i)
 | .str x _=>some (.str x)
 | .bytes b _=>some (.byt b)
 | .float b _=>some (.flt b)
 | .ref a=>some (.ref a)
 | .type n=>some (.ty n)
 | _=>none
theorem aM.abs {x:V} {u:Value} (r:aM x u):MF u=some x:=by
 cases x with
 | non=>cases r; rfl
 | bl _=>cases r; rfl
 | int _=>obtain ⟨t,rfl⟩:=r; rfl
 | str _=>obtain ⟨t,rfl⟩:=r; rfl
 | byt _=>obtain ⟨t,rfl⟩:=r; rfl
 | flt _=>obtain ⟨t,rfl⟩:=r; rfl
 | ref _=>cases r; rfl
 | ty _=>cases r; rfl
theorem aM.inj {x y:V} {u:Value} (r:aM x u) (q:aM y u):x=y:=Nf (r.abs.symm.trans q.abs)
theorem aK.inj {xs ys:List V} {us:List Value} (h:aK xs us):aK ys us->xs=ys:=by
 induction h generalizing ys with
 | nil=>intro h; cases h; rfl
 | cons r t ih=>intro h; cases h with
  | cons r' t'=>rw [r.inj r',ih t']
section
variable {X:Cx} {pins:List (Addr×Obj)} {σ:St} {H:Hp} {s:Shared} {a:Addr} {xs ys:List V}
theorem SqL.of {K:Fg} (h:H a=some (.lst xs)):SqL K H a xs:=.inl (.inl h)
theorem SqT.of {K:Fg} (h:H a=some (.tup xs)):SqT K H a xs:=.inl (.inl h)
theorem Inv.list (I:Inv X pins σ H s) (h:SqL X.K H a xs):∃ its:List Value,aK xs its/\PlainL s.heap a its.toArray/\xs.length<=Nb:=by
 rcases h with h | ⟨o,its,n,hk,hc,hd,hs,hz,r⟩
 ·obtain ⟨z,its,n,r,e⟩:=h.ok I.hok
  exact ⟨its,r,⟨_,n,e,rfl,rfl,rfl⟩,z⟩
 ·refine ⟨its.toList,r,⟨o,n,I.kIn a o hk,hc,hd,by simpa using hs⟩,?_⟩
  have e:=r.length
  simp only [NK] at e
  omega
theorem Inv.tuple (I:Inv X pins σ H s) (h:SqT X.K H a xs):∃ its:List Value,aK xs its/\IsTup s.heap a its.toArray/\xs.length<=Nb:=by
 rcases h with h | ⟨o,its,n,hk,hc,hs,hz,r⟩
 ·obtain ⟨z,its,r,p⟩:=h.ok I.hok
  exact ⟨its,r,p.tup,z⟩
 ·refine ⟨its.toList,r,⟨o,I.kIn a o hk,hc,n,by simpa using hs⟩,?_⟩
  have e:=r.length
  simp only [NK] at e
  omega
theorem Inv.list_inj (I:Inv X pins σ H s) (h:SqL X.K H a xs) (h':SqL X.K H a ys):xs=ys:=by
 obtain ⟨its,r,⟨o,n,e,_,_,d⟩,_⟩:=I.list h
 obtain ⟨its',r',⟨o',n',e',_,_,d'⟩,_⟩:=I.list h'
 rw [e] at e'; cases e'
 rw [d] at d'
 injection d' with d1 _
 have:its=its':=by simpa using congrArg Array.toList d1
 subst this
 exact r.inj r'
theorem Inv.tuple_inj (I:Inv X pins σ H s) (h:SqT X.K H a xs) (h':SqT X.K H a ys):xs=ys:=by
 obtain ⟨its,r,⟨o,e,_,n,d⟩,_⟩:=I.tuple h
 obtain ⟨its',r',⟨o',e',_,n',d'⟩,_⟩:=I.tuple h'
 rw [e] at e'; cases e'
 rw [d] at d'
 injection d' with d1 _
 have:its=its':=by simpa using congrArg Array.toList d1
 subst this
 exact r.inj r'
end
noncomputable abbrev Cx.wish (X:Cx) (E:Value->Shared->Prop):Cx:={ X with xe:=E }
noncomputable abbrev Cx.nox (X:Cx):Cx:=X.wish fun _ _=>False
theorem Cx.Ok.wish {X:Cx} (ok:X.Ok) (E:Value->Shared->Prop):(X.wish E).Ok:=
 ⟨ok.mod,ok.kind,ok.glob,ok.blt,ok.above,ok.inj,ok.has,ok.cab,ok.hd,ok.frames,ok.stk,ok.exf,ok.bs,ok.bsz,ok.noex,ok.exfs,ok.funs,ok.frf⟩
theorem Cx.Ok.unwish {X:Cx} {E:Value->Shared->Prop} (ok:(X.wish E).Ok):X.Ok:=
 ⟨ok.mod,ok.kind,ok.glob,ok.blt,ok.above,ok.inj,ok.has,ok.cab,ok.hd,ok.frames,ok.stk,ok.exf,ok.bs,ok.bsz,ok.noex,ok.exfs,ok.funs,ok.frf⟩
section
variable {X:Cx} {pins:List (Addr×Obj)} {σ:St} {H:Hp} {s:Shared} {E:Value->Shared->Prop}
theorem Inv.wish (I:Inv X pins σ H s) (E:Value->Shared->Prop):Inv (X.wish E) pins σ H s:=⟨I.ok.wish E,I.os,I.bare,I.base,I.loc,I.cell,I.free,I.freeC,I.pin,I.hok,I.len⟩
theorem Inv.unwish (I:Inv (X.wish E) pins σ H s):Inv X pins σ H s:=⟨I.ok.unwish,I.os,I.bare,I.base,I.loc,I.cell,I.free,I.freeC,I.pin,I.hok,I.len⟩
theorem SP.unwish {D:kf} {f:Flow} {s':Shared} (h:SP (X.wish E) pins D f s'):SP X pins D f s':=by
 cases f with
 | next=>obtain ⟨σ',H',I,q⟩:=h; exact ⟨σ',H',I.unwish,q⟩
 | brk=>obtain ⟨σ',H',I,q⟩:=h; exact ⟨σ',H',I.unwish,q⟩
 | cont=>obtain ⟨σ',H',I,q⟩:=h; exact ⟨σ',H',I.unwish,q⟩
 | ret u=>obtain ⟨v,σ',H',I,r,q⟩:=h; exact ⟨v,σ',H',I.unwish,r,q⟩
theorem PSs.nox {st:List Stmt} {t:TS} (h:PSs X.nox st t):PSs X st t:=fun pins s σ H D I hw=>
 OX (h pins s σ H D (I.wish _) hw) (fun _ _ q=>q.unwish) fun _ _ z=>Ph z
end
section
variable {X:Cx} {st:Stmt} {dw:List Stmt} {t u:TS} {e:Expr} {te:TE} {pos:Pos}
noncomputable def aY:TS:=fun D σ H=>D.nx σ H
noncomputable def ap (t u:TS):TS:=fun D σ H=>t { D with nx:=u D } σ H
theorem aI:PSs X [] aY:=fun _ _ σ H _ I h=>Re ⟨σ,H,I,h⟩
theorem af (h1:PS X st t) (h2:PSs X dw u):PSs X (st :: dw) (ap t u):=by
 intro pins s σ H D I h
 refine Vf (thn (h1 pins s σ H { D with nx:=u D } I h) fun f s1 q=>?_)
 cases f with
 | next=>
  obtain ⟨σ',H',I',q⟩:=q
  exact h2 pins s1 σ' H' D I' q
 | ret v=>exact q
 | brk=>exact q
 | cont=>exact q
theorem ai (h1:PS X st t):PSs X [st] t:=by
 intro pins s σ H D I h
 refine Vf (thn (h1 pins s σ H D I h) fun f s1 q=>?_)
 cases f with
 | next=>exact Re q
 | ret v=>exact q
 | brk=>exact q
 | cont=>exact q
noncomputable def K0:TS:=fun D σ H=>D.bk σ H
noncomputable def LY:TS:=fun D σ H=>D.ct σ H
theorem Inv.quiet {pins:List (Addr×Obj)} {σ:St} {H:Hp} {s:Shared} (I:Inv X pins σ H s):interactive X.env=false:=by simp [interactive,I.ok.kind]
noncomputable def dG (te:TE):TS:=fun D σ H=>te σ H fun _ H1=>D.nx σ H1
theorem cx (he:PE X e te) (hs:Uo e none pos.line X.env=pure false:=by rfl):PS X (.Expr e pos) (dG te):=by
 intro pins s σ H D I h
 exact wpAny_Expr_any (thn (he pins s σ H _ I h) fun v s1 ⟨x,H1,I1,r1,q1⟩=>⟨σ,H1,I1,q1⟩) I.quiet hs
noncomputable def aJ (te:TE):TS:=fun D σ H=>te σ H D.rt
theorem aw (he:PE X e te):PS X (.Return (some e) pos) (aJ te):=by
 intro pins s σ H D I h
 exact wpAny_Return_some (thn (he pins s σ H _ I h) fun v s1 ⟨x,H1,I1,r1,q1⟩=>⟨x,σ,H1,I1,r1,q1⟩)
noncomputable def LZ:TS:=fun D _ H=>D.rt .non H
noncomputable def bp (c:TT) (t u:TS):TS:=fun D σ H=>c σ H fun b H1=>if b=true then t D σ H1 else u D σ H1
theorem bd {c:Expr} {a b:List Stmt} {tc:TT} (hc:PT X c tc) (ha:PSs X a t) (hb:PSs X b u):PS X (.If c a b pos) (bp tc t u):=by
 intro pins s σ H D I h
 refine wpAny_If (thn (hc pins s σ H _ I h) fun d s1 ⟨H1,I1,q1⟩=>?_)
 cases d with
 | true=>exact ha pins s1 σ H1 D I1 q1
 | false=>exact hb pins s1 σ H1 D I1 q1
noncomputable def rq:TS:=fun _ _ _=>False
theorem pO:PS X st rq:=fun _ _ _ _ _ _ h=>h.elim
end
noncomputable abbrev TG:=V->St->Hp->(St->Hp->Prop)->Prop
noncomputable abbrev TGs:=List V->St->Hp->(St->Hp->Prop)->Prop
noncomputable def PG (X:Cx) (target:Expr) (t:TG):Prop:=
 ∀ (pins:List (Addr×Obj)) (s:Shared) (σ:St) (H:Hp) (v:V) (u:Value) (Q:St->Hp->Prop),Inv X pins σ H s->aM v u->t v σ H Q->
  wpAny (model X.prog X.w) X.A (assign target X.env u) (fun _ s'=>∃ σ' H',Inv X pins σ' H' s'/\Q σ' H') X.xe s
noncomputable def PGs (X:Cx) (ts:List Expr) (t:TGs):Prop:=
 ∀ (pins:List (Addr×Obj)) (s:Shared) (σ:St) (H:Hp) (vs:List V) (us:List Value) (Q:St->Hp->Prop),Inv X pins σ H s->aK vs us->t vs σ H Q->
  wpAny (model X.prog X.w) X.A (assignInOrder ((Rf ts X.env).map (·.2)) us) (fun _ s'=>∃ σ' H',Inv X pins σ' H' s'/\Q σ' H') X.xe s
noncomputable abbrev A3:=V->V->V->Hp->(Hp->Prop)->Prop
noncomputable def DT (X:Cx) (t:A3):Prop:=
 ∀ (pins:List (Addr×Obj)) (s:Shared) (σ:St) (H:Hp) (o i v:V) (ov iv u:Value) (Q:Hp->Prop),Inv X pins σ H s->aM o ov->aM i iv->aM v u->t o i v H Q->
  wpAny (model X.prog X.w) X.A (setItem ov iv u) (fun _ s'=>∃ H',Inv X pins σ H' s'/\Q H') X.xe s
section
variable {X:Cx} {pos:Pos}
noncomputable def aj (i:Nat):TG:=fun v σ H Q=>Q (σ.set i (some v)) H
theorem aq {i:Nat} {x:Str} (hN:X.N.Nodup) (hi:X.N[i]?=some x) (hx:Loc X.env.scope x) (hf:X.fn x=true\/X.env.scope.names.lookup x=some .local:=by first | exact .inl rfl | exact .inr rfl | assumption):PG X (.Name x pos) (aj i):=by
 intro pins s σ H v u Q I r h
 exact UF (AZ I hN hi hx r (fun s' I'=>⟨_,H,I',h⟩) hf)
noncomputable def cY:TGs:=fun vs σ H Q=>vs=[]/\Q σ H
noncomputable def aW (t:TG) (u:TGs):TGs:=fun vs σ H Q=>∃ v r,vs=v :: r/\t v σ H fun σ' H'=>u r σ' H' Q
theorem b7:PGs X [] cY:=by
 intro pins s σ H vs us Q I r h
 obtain ⟨e,h⟩:=h
 subst e
 cases r
 exact assignInOrder_nil ⟨σ,H,I,h⟩
theorem aN {e:Expr} {es:List Expr} {t:TG} {u:TGs} (h1:PG X e t) (h2:PGs X es u)
  (hs:(Rf (e :: es) X.env).map (·.2)=assign e X.env :: (Rf es X.env).map (·.2):=by rfl):PGs X (e :: es) (aW t u):=by
 intro pins s σ H vs us Q I r h
 obtain ⟨v,vr,e1,h⟩:=h
 subst e1
 cases r with
 | cons r rr=>
  rw [hs]
  refine assignInOrder_cons (thn (h1 pins s σ H _ _ _ I r h) fun _ s1 ⟨σ1,H1,I1,q1⟩=>?_)
  exact h2 pins s1 σ1 H1 _ _ Q I1 rr q1
noncomputable def cZ (K:Fg) (n:Nat) (t:TGs):TG:=fun v σ H Q=>∃ a xs,v=.ref a/\SqT K H a xs/\xs.length=n/\t xs σ H Q
theorem cH {es:List Expr} {k:Nat} {t:TGs} {n:Nat} (hc:X.calm=true) (h:PGs X es t)
  (hn:(Rf es X.env).length=n:=by rfl) (hst:(Rf es X.env).findIdx? (·.1)=none:=by rfl):PG X (.Tuple es k pos) (cZ X.K n t):=by
 intro pins s σ H v u Q I r hw
 obtain ⟨a,xs,e1,hq,hl,hw⟩:=hw
 subst e1
 cases r
 obtain ⟨its,rv,ht,hz⟩:=I.tuple hq
 refine assign_Tuple_tuple (I.ok.hd hc) ht (by simp [hn,<-hl,rv.length]) hst fun h' hx=>?_
 have I1:Inv X pins σ H { s with heap:=h' }:=I.kept (t':=s.toks) fun b o e=>hx b o (NF (Na e)) e
 exact h pins _ σ H xs _ Q I1 (by simpa using rv) hw
noncomputable def kh (to ti:TE) (t:A3):TG:=fun v σ H Q=>to σ H fun o H1=>ti σ H1 fun i H2=>t o i v H2 fun H3=>Q σ H3
theorem iS {o i:Expr} {to ti:TE} {t:A3} (ho:PE X o to) (hi:PE X i ti) (hs:DT X t)
  (ha:∀ v,assign (.Subscript o i pos) X.env v=(do
   let ov <-holding [v] (eval o X.env)
   let iv <-holding [v,ov] (eval i X.env)
   standAt pos
   holding [v,ov,iv] (setItem ov iv v)
   release [v,ov,iv] []):=by intro _; rfl):PG X (.Subscript o i pos) (kh to ti t):=by
 intro pins s σ H v u Q I r h
 rw [ha]
 refine MV (Og (thn (ho pins s σ H _ I h) fun ov s1 ⟨x,H1,I1,r1,q1⟩=>?_))
 refine MV (Og (thn (hi pins s1 σ H1 _ I1 q1) fun iv s2 ⟨y,H2,I2,r2,q2⟩=>?_))
 refine MV (T6 (MV (Og (thn (hs pins s2 σ H2 x y v ov iv u _ I2 r1 r2 r q2) fun _ s3 ⟨H3,I3,q3⟩=>?_))))
 exact wpAny_release ⟨σ,H3,I3,q3⟩
noncomputable def aH (te:TE) (g:TG):TS:=fun D σ H=>te σ H fun x H1=>g x σ H1 D.nx
theorem gY {tg e:Expr} {te:TE} {g:TG} (he:PE X e te) (hg:PG X tg g) (hs:swapsWithSole [tg] e pos.line X.env=pure false:=by rfl) (hw:swappedStores [tg] e X.env=pure none:=by rfl)
  (h1:(Rf [tg] X.env).map (·.2)=[assign tg X.env]:=by rfl):PS X (.Assign [tg] e pos) (aH te g):=by
 intro pins s σ H D I h
 refine wpAny_Assign_stores (thn (he pins s σ H _ I h) fun v s1 ⟨x,H1,I1,r1,q1⟩=>?_) hs hw
 rw [h1]
 exact thn (hg pins s1 σ H1 x v _ I1 r1 q1) fun _ s2 q=>q
theorem ay {i:Nat} {x:Str} {e:Expr} {te:TE} {pos':Pos} (hN:X.N.Nodup) (hi:X.N[i]?=some x) (hx:Loc X.env.scope x) (he:PE X e te) (hs:Uo e (some (.Name x pos')) pos.line X.env=pure false:=by rfl) (hf:X.fn x=true\/X.env.scope.names.lookup x=some .local:=by first | exact .inl rfl | exact .inr rfl | assumption):
  PS X (.Assign [.Name x pos'] e pos) (aH te (aj i)):=by
 intro pins s σ H D I h
 refine wpAny_Assign_Name (thn (he pins s σ H _ I h) fun v s1 ⟨y,H1,I1,r1,q1⟩=>?_) hs
 exact AZ I1 hN hi hx r1 (fun s2 I2=>⟨_,H1,I2,q1⟩) hf
end
section
variable {X:Cx} {pos:Pos}
noncomputable def mO (c:TT) (tb:TS):TS:=fun D σ H=>∃ W:Nat->St->Hp->Prop,(∃ m,W m σ H)/\∀ m σ H,W m σ H->
 c σ H fun b H1=>if b=true then ∃ N:St->Hp->Prop,(∀ σ' H',N σ' H'->∃ m',m' < m/\W m' σ' H')/\tb { D with nx:=N,ct:=N,bk:=D.nx } σ H1 else D.nx σ H1
theorem pP {c:Expr} {body:List Stmt} {tc:TT} {tb:TS} (hp:NO (model X.prog X.w) X.A X.env X.xe) (hc:PT X c tc) (hb:PSs X body tb):PS X (.While c body [] pos) (mO tc tb):=by
 intro pins s σ H D I h
 obtain ⟨W,⟨m0,w0⟩,turn⟩:=h
 refine wpAny_While (codeAny_whileLoop (fun n s'=>∃ σ' H',Inv X pins σ' H' s'/\W n σ' H') ?_ m0 ⟨σ,H,I,w0⟩)
 rintro n s1 ⟨σ1,H1,I1,w1⟩
 refine PL hp (thn (hc pins s1 σ1 H1 _ I1 (turn n σ1 H1 w1)) fun b s2 ⟨H2,I2,q2⟩=>?_)
 cases b with
 | true=>
  obtain ⟨N,hN,q2⟩:=q2
  rw [if_pos rfl]
  refine PL hp (thn (hb pins s2 σ1 H2 _ I2 q2) fun f s3 q3=>?_)
  cases f with
  | next=>
   obtain ⟨σ3,H3,I3,n3⟩:=q3
   obtain ⟨m',hm,w3⟩:=hN σ3 H3 n3
   exact ⟨m',hm,σ3,H3,I3,w3⟩
  | cont=>
   obtain ⟨σ3,H3,I3,n3⟩:=q3
   obtain ⟨m',hm,w3⟩:=hN σ3 H3 n3
   exact ⟨m',hm,σ3,H3,I3,w3⟩
  | brk=>exact q3
  | ret v=>exact q3
 | false=>
  rw [if_neg Nd]
  exact Re ⟨σ1,H2,I2,q2⟩
end
set_option genInjectivity false in
structure It where
 go:Nat->Hp->Prop
 yld:Nat->Hp->V->Hp->Prop
 stop:Nat->Hp->Prop
noncomputable def lJ (X:Cx) (pins:List (Addr×Obj)) (H:Hp) (b:Addr):Prop:=
 H b=none/\b≠X.env.locals/\b∉X.fs/\(b∈X.ex\/X.s₀.heap.objs.size<=b)/\(∀ x c,X.env.cells.lookup x=some c->c≠b)/\∀ p∈X.pn++pins,p.1≠b
theorem Inv.fpOk {X:Cx} {pins:List (Addr×Obj)} {σ:St} {H H':Hp} {s:Shared} {b:Addr} (I:Inv X pins σ H s) (hb:s.heap.objs.size<=b) (hn:H' b=none):lJ X pins H' b:=by
 refine ⟨hn,Pe (Nv I.lt hb),I.nofs hb,.inr (NH I.sz hb),fun x c e z=>?_,fun p hp z=>?_⟩
 ·obtain ⟨v,q⟩:=I.cell x c e
  exact absurd (Nv q.lt (by rw [z]; exact hb)) (OQ _)
 ·exact absurd (Nv (Na (I.pin p hp).1) (by rw [z]; exact hb)) (OQ _)
structure uW (P:Program) (w:World) (K:Fg) (tg:Expr) (J:It) (fp:List Addr) (it:Addr) (tn:Nat->Heap->Prop):Prop where
 mem:it∈fp
 obj:∀ i h,tn i h->∀ b∈fp,∃ o,h.get? b=some o/\∀ v,o.data≠.cell v
 keep:∀ i h h',tn i h->(∀ b∈fp,∀ o,h.get? b=some o->h'.get? b=some o)->tn i h'
 item:∀ (X:Cx),X.prog=P->X.w=w->X.K=K->X.calm=true->∀ (i:Nat) (pins:List (Addr×Obj)) (s:Shared) (σ:St) (H:Hp) (E:Value->Shared->Prop),Inv X pins σ H s->(∀ b∈fp,lJ X pins H b)->tn i s.heap->J.go i H->
  wpAny (model P w) X.A (pyNext (.ref it)) (fun r s1=>∃ u,r=some u/\
   wpAny (model P w) X.A (Rg tg (.ref it) u) (fun _ s2=>∃ x H',Inv X pins σ H' s2/\aM x u/\J.yld i H x H'/\tn (i + 1) s2.heap/\∀ b∈fp,H' b=none) E s1) E s
 done:∀ (X:Cx),X.prog=P->X.w=w->X.K=K->X.calm=true->∀ (i:Nat) (pins:List (Addr×Obj)) (s:Shared) (σ:St) (H:Hp) (E:Value->Shared->Prop),Inv X pins σ H s->(∀ b∈fp,lJ X pins H b)->tn i s.heap->J.stop i H->
  wpAny (model P w) X.A (pyNext (.ref it)) (fun r s1=>r=none/\Inv X pins σ H s1) E s
 self:∀ (A:Around) (i:Nat) (s:Shared) (Q:Value->Shared->Prop) (E:Value->Shared->Prop),tn i s.heap->Q (.ref it) s->wpAny (model P w) A (pyIter (.ref it)) Q E s
noncomputable abbrev TI:=St->Hp->(It->Hp->Prop)->Prop
noncomputable def PIE (X:Cx) (pins:List (Addr×Obj)) (σ:St) (tg:Expr) (R:It->Hp->Prop) (itv:Value) (s2:Shared):Prop:=
 ∃ (it:Addr) (fp:List Addr) (tn:Nat->Heap->Prop) (J:It) (H':Hp),itv=.ref it/\Inv X pins σ H' s2/\uW X.prog X.w X.K tg J fp it tn/\tn 0 s2.heap/\(∀ b∈fp,lJ X pins H' b)/\R J H'
noncomputable def PI (X:Cx) (tg iter:Expr) (wi:TI):Prop:=
 ∀ (pins:List (Addr×Obj)) (s:Shared) (σ:St) (H:Hp) (R:It->Hp->Prop),Inv X pins σ H s->wi σ H R->
  wpAny (model X.prog X.w) X.A (eval iter X.env) (fun v s1=>wpAny (model X.prog X.w) X.A (pyIter v) (PIE X pins σ tg R) X.xe s1) X.xe s
theorem DU {M : Model} {A : Around} {E : Value → Shared → Prop} {s : Shared} {tg : Expr} {it : Addr} {u : Value} {o : Obj} {n : String} {vs : Array Value} {Q : Unit → Shared → Prop} (ho : s.heap.get? it = some o) (hc : o.cls = .type n) (hd : o.data = .fields vs)
    (hn : ["enumerate", "zip", "dict_itemiterator", "dict_reverseitemiterator", "odict_iterator", "itertools.zip_longest", "itertools.pairwise"].contains n = false) (hQ : Q () s) : wpAny M A (Rg tg (.ref it) u) Q E s := by
  unfold Rg
  cases tg <;> first
    | exact MX hQ
    | (cases u <;> first
        | exact MX hQ
        | (refine MV (VA ho ?_)
           rw [hc, hd]
           show wpAny M A (if (["enumerate", "zip", "dict_itemiterator", "dict_reverseitemiterator", "odict_iterator", "itertools.zip_longest", "itertools.pairwise"].contains n && vs[0]? == some (rawInt _)) = true then _ else _) Q E s
           rw [if_neg (by intro h; rw [hn, Rz] at h; cases h)]
           exact MX hQ))
noncomputable def Itl (K:Fg) (a:Addr):It:=
 ⟨fun i H=>∃ xs x,SqL K H a xs/\xs[i]?=some x,fun i H x H'=>H'=H/\∀ xs,SqL K H a xs->xs[i]?=some x,fun i H=>∃ xs,SqL K H a xs/\xs.length<=i⟩
noncomputable def Itt (K:Fg) (a:Addr):It:=
 ⟨fun i H=>∃ xs x,SqT K H a xs/\xs[i]?=some x,fun i H x H'=>H'=H/\∀ xs,SqT K H a xs->xs[i]?=some x,fun i H=>∃ xs,SqT K H a xs/\xs.length<=i⟩
noncomputable def Itr (lo:Int) (n:Nat):It:=⟨fun i _=>i < n,fun i H x H'=>H'=H/\x=.int (lo + i),fun i _=>n<=i⟩
theorem FJ {P:Program} {w:World} {K:Fg} {tg:Expr} (a it:Addr):uW P w K tg (Itl K a) [it] it (fun i h=>h.IsListIter it a i) where
 mem:=by simp
 obj:=fun i h st b hb=>by
  have e:b=it:=by simpa using hb
  subst e
  obtain ⟨o,e,c,d⟩:=st
  exact ⟨o,e,fun v z=>by rw [d] at z; cases z⟩
 keep:=fun i h h' st k=>st.at fun o e=>k it (by simp) o e
 item:=by
  intro X hP hw hK hc i pins s σ H E I hf st hg
  subst hP hw hK
  obtain ⟨xs,x,hq,hx⟩:=hg
  obtain ⟨its,rv,p,hz⟩:=I.list hq
  obtain ⟨u,hu,ru⟩:=rv.get hx
  obtain ⟨f0,f1,f2,f3,f4,f5⟩:=hf it (by simp)
  refine wpAny_pyNext_list_item st p.isList (x:=u) (by simpa using hu) fun h' st' sb=>?_
  have I1:Inv X pins σ H { s with heap:=h' }:=I.turned (t':=s.toks) (fun b o hb e=>(sb.2 b hb).trans e) f0 f1 f3 f4 f5
  obtain ⟨o,e,c,d⟩:=id st'
  exact ⟨u,rfl,DU (s:={ s with heap:=h' }) e c d (by decide) ⟨x,H,I1,ru,⟨rfl,fun ys hy=>by rw [I.list_inj hy hq]; exact hx⟩,st',fun b hb=>(hf b hb).1⟩⟩
 done:=by
  intro X hP hw hK hc i pins s σ H E I hf st hg
  subst hP hw hK
  obtain ⟨xs,hq,hx⟩:=hg
  obtain ⟨its,rv,p,hz⟩:=I.list hq
  obtain ⟨f0,f1,f2,f3,f4,f5⟩:=hf it (by simp)
  have hl:=rv.length
  exact wpAny_pyNext_list_end (I.ok.hd hc) st p.isList (by simp; omega) fun h' eb=>⟨rfl,I.turned (t':=s.toks) (fun b o hb e=>eb b o hb e) f0 f1 f3 f4 f5⟩
 self:=fun _ _ _ _ _ st h=>wpAny_pyIter_listiter st h
theorem DV {P:Program} {w:World} {K:Fg} {tg:Expr} (a it:Addr):uW P w K tg (Itt K a) [it] it (fun i h=>h.IsTupleIter it a i) where
 mem:=by simp
 obj:=fun i h st b hb=>by
  have e:b=it:=by simpa using hb
  subst e
  obtain ⟨o,e,c,d⟩:=st
  exact ⟨o,e,fun v z=>by rw [d] at z; cases z⟩
 keep:=fun i h h' st k=>st.at fun o e=>k it (by simp) o e
 item:=by
  intro X hP hw hK hc i pins s σ H E I hf st hg
  subst hP hw hK
  obtain ⟨xs,x,hq,hx⟩:=hg
  obtain ⟨its,rv,p,hz⟩:=I.tuple hq
  obtain ⟨u,hu,ru⟩:=rv.get hx
  obtain ⟨f0,f1,f2,f3,f4,f5⟩:=hf it (by simp)
  refine wpAny_pyNext_tuple_item st (show s.heap.IsTuple a its.toArray from p) (x:=u) (by simpa using hu) fun h' st' sb=>?_
  have I1:Inv X pins σ H { s with heap:=h' }:=I.turned (t':=s.toks) (fun b o hb e=>(sb.2 b hb).trans e) f0 f1 f3 f4 f5
  obtain ⟨o,e,c,d⟩:=id st'
  exact ⟨u,rfl,DU (s:={ s with heap:=h' }) e c d (by decide) ⟨x,H,I1,ru,⟨rfl,fun ys hy=>by rw [I.tuple_inj hy hq]; exact hx⟩,st',fun b hb=>(hf b hb).1⟩⟩
 done:=by
  intro X hP hw hK hc i pins s σ H E I hf st hg
  subst hP hw hK
  obtain ⟨xs,hq,hx⟩:=hg
  obtain ⟨its,rv,p,hz⟩:=I.tuple hq
  obtain ⟨f0,f1,f2,f3,f4,f5⟩:=hf it (by simp)
  have hl:=rv.length
  exact wpAny_pyNext_tuple_end (I.ok.hd hc) st (show s.heap.IsTuple a its.toArray from p) (by simp; omega) fun h' eb=>⟨rfl,I.turned (t':=s.toks) (fun b o hb e=>eb b o hb e) f0 f1 f3 f4 f5⟩
 self:=fun _ _ _ _ _ st h=>wpAny_pyIter_tupleiter st h
theorem DW {P:Program} {w:World} {K:Fg} {tg:Expr} (it:Addr) (lo:Int) (n:Nat):uW P w K tg (Itr lo n) [it] it (fun i h=>IsRangeIter h it (lo + (i:Nat) * 1) ((n:Int) - (i:Nat)) 1) where
 mem:=by simp
 obj:=fun i h st b hb=>by
  have e:b=it:=by simpa using hb
  subst e
  exact ⟨_,st,fun v z=>by
   have z':Data.fields _=Data.cell v:=z
   cases z'⟩
 keep:=fun i h h' st k=>k it (by simp) _ st
 item:=by
  intro X hP hw hK hc i pins s σ H E I hf st hg
  subst hP hw hK
  obtain ⟨f0,f1,f2,f3,f4,f5⟩:=hf it (by simp)
  have W:=Walks.range (prog:=X.prog) (w:=X.w) (I.ok.hd hc) it lo 1 n
  refine W.item i s _ _ hg st fun v h' tk hv st' kk=>?_
  obtain ⟨t,rfl⟩:=hv
  have I1:Inv X pins σ H { s with heap:=h',toks:=tk }:=I.turned (fun b o hb e=>kk b o (by simpa using hb) e) f0 f1 f3 f4 f5
  refine ⟨_,rfl,DU (s:={ s with heap:=h',toks:=tk }) (n:="range_iterator") st' rfl rfl (by decide) ⟨.int (lo + i),H,I1,⟨t,?_⟩,⟨rfl,rfl⟩,st',fun b hb=>(hf b hb).1⟩⟩
  rw [Int.mul_one]
 done:=by
  intro X hP hw hK hc i pins s σ H E I hf st hg
  subst hP hw hK
  obtain ⟨f0,f1,f2,f3,f4,f5⟩:=hf it (by simp)
  exact wpAny_pyNext_range_end (I.ok.hd hc) st (by have:n<=i:=hg; omega) fun h' eb=>⟨rfl,I.turned (t':=s.toks) (fun b o hb e=>eb b o hb e) f0 f1 f3 f4 f5⟩
 self:=fun _ _ _ _ _ st h=>wpAny_pyIter_rangeiter st h
end L2
namespace L2
open PySem PySem.Spec PyProof.Rows
section
variable {X:Cx} {tg:Expr}
noncomputable def cc (K:Fg) (tl:TE):TI:=fun σ H R=>tl σ H fun x H1=>∃ a,x=.ref a/\(∃ xs,SqL K H1 a xs)/\R (Itl K a) H1
noncomputable def rA (K:Fg) (tl:TE):TI:=fun σ H R=>tl σ H fun x H1=>∃ a,x=.ref a/\(∃ xs,SqT K H1 a xs)/\R (Itt K a) H1
theorem bC {l:Expr} {tl:TE} (hl:PE X l tl):PI X tg l (cc X.K tl):=by
 intro pins s σ H R I h
 refine thn (hl pins s σ H _ I h) fun v s1 ⟨x,H1,I1,r1,q1⟩=>?_
 obtain ⟨a,e,⟨xs,hq⟩,q⟩:=q1
 subst e
 cases r1
 obtain ⟨its,rv,p,hz⟩:=I1.list hq
 refine Qp p.isList ?_
 refine ⟨s1.heap.objs.size,[s1.heap.objs.size],_,_,H1,rfl,I1.kept (t':=s1.toks) fun b o e=>MW _ e,FJ a _,⟨_,Nc _ rfl,rfl,rfl⟩,fun b hb=>?_,q⟩
 have e:b=s1.heap.objs.size:=by simpa using hb
 subst e
 exact I1.fpOk (M1 _) (I1.hok.fresh (M1 _))
theorem oQ {l:Expr} {tl:TE} (hl:PE X l tl):PI X tg l (rA X.K tl):=by
 intro pins s σ H R I h
 refine thn (hl pins s σ H _ I h) fun v s1 ⟨x,H1,I1,r1,q1⟩=>?_
 obtain ⟨a,e,⟨xs,hq⟩,q⟩:=q1
 subst e
 cases r1
 obtain ⟨its,rv,p,hz⟩:=I1.tuple hq
 refine Up (show s1.heap.IsTuple a its.toArray from p) ?_
 refine ⟨s1.heap.objs.size,[s1.heap.objs.size],_,_,H1,rfl,I1.kept (t':=s1.toks) fun b o e=>MW _ e,DV a _,⟨_,Nc _ rfl,rfl,rfl⟩,fun b hb=>?_,q⟩
 have e:b=s1.heap.objs.size:=by simpa using hb
 subst e
 exact I1.fpOk (M1 _) (I1.hok.fresh (M1 _))
theorem Hh {pins:List (Addr×Obj)} {σ:St} {H:Hp} {s:Shared} {R:It->Hp->Prop} {E:Value->Shared->Prop} {lo hi:Int} {t u v:Tok} {tk:Nat} (I:Inv X pins σ H s) (h1:-(2 ^ 62)<=lo) (h2:lo < 2 ^ 62) (h3:-(2 ^ 62)<=hi) (h4:hi < 2 ^ 62)
  (q:R (Itr lo (hi - lo).toNat) H):wpAny (model X.prog X.w) X.A (pyIter (.ref s.heap.objs.size)) (PIE X pins σ tg R) E { s with heap:=s.heap.push { cls:=.type "range",data:=.fields #[.int lo t,.int hi u,.int 1 v] },toks:=tk }:=by
 refine wpAny_pyIter_range (IsRange.new ..) (small_one h1 h2 h3 h4) ?_
 have I1:Inv X pins σ H { s with heap:=s.heap.push { cls:=.type "range",data:=.fields #[.int lo t,.int hi u,.int 1 v] },toks:=tk }:=I.kept fun b o e=>MW _ e
 refine ⟨(s.heap.push { cls:=.type "range",data:=.fields #[.int lo t,.int hi u,.int 1 v] }).objs.size,[(s.heap.push { cls:=.type "range",data:=.fields #[.int lo t,.int hi u,.int 1 v] }).objs.size],_,_,H,rfl,
  I1.kept (t':=tk) fun b o e=>MW _ e,DW _ lo (hi - lo).toNat,?_,fun b hb=>?_,q⟩
 ·have e1:lo + ((0:Nat):Int) * 1=lo:=by simp
  have e2:(((hi - lo).toNat:Nat):Int) - ((0:Nat):Int)=Builtin.Range.rangeSize lo hi 1:=by rw [rangeSize_one]; split <;> omega
  show IsRangeIter _ _ (lo + ((0:Nat):Int) * 1) ((((hi - lo).toNat:Nat):Int) - ((0:Nat):Int)) 1
  rw [e1,e2]
  exact Nc _ rfl
 ·have e:b=(s.heap.push { cls:=.type "range",data:=.fields #[.int lo t,.int hi u,.int 1 v] }).objs.size:=by simpa using hb
  subst e
  exact I1.fpOk (M1 _) (I1.hok.fresh (M1 _))
noncomputable def fZ (ta:TA):TI:=fun σ H R=>ta σ H fun vs H1=>∃ j:Int,vs=[.int j]/\-(2 ^ 62)<=j/\j < 2 ^ 62/\R (Itr 0 j.toNat) H1
noncomputable def L8 (ta:TA):TI:=fun σ H R=>ta σ H fun vs H1=>∃ i j:Int,vs=[.int i,.int j]/\(-(2 ^ 62)<=i/\i < 2 ^ 62/\-(2 ^ 62)<=j/\j < 2 ^ 62)/\R (Itr i (j - i).toNat) H1
theorem cN {a:Expr} {ta:TA} {p pos:Pos} (hg:Gl X "range") (hm:X.mg "range"=none) (ha:PA X [a] ta) (hs:Nu [a] X.env=[(false,eval a X.env)]:=by rfl):PI X tg (.Call (.Name "range" p) [a] [] pos) (fZ ta):=by
 intro pins s σ H R I h
 refine Call_ (iR I hg hm boot_range (Oq (thn (ha pos pins s σ H _ I h) fun us s1 ⟨vs,H1,I1,r1,q1⟩=>?_) hs rfl))
 obtain ⟨j,e,q1,q2,q⟩:=q1
 subst e
 cases r1 with
 | cons r rr=>
  cases rr
  obtain ⟨t,rfl⟩:=r
  exact call_range_1 (Hh I1 (by omega) (by omega) q1 q2 (by simpa using q))
noncomputable def cU (wi:TI) (g:TG) (tb:TS):TS:=fun D σ H=>wi σ H fun J H1=>∃ W:Nat->Nat->St->Hp->Prop,(∃ m,W 0 m σ H1)/\∀ i m σ H,W i m σ H->
 (J.stop i H/\D.nx σ H)\/(J.go i H/\∃ N:St->Hp->Prop,(∀ σ' H',N σ' H'->∃ m',m' < m/\W (i + 1) m' σ' H')/\∀ x H',J.yld i H x H'->g x σ H' fun σ2 H2=>tb { D with nx:=N,ct:=N,bk:=D.nx } σ2 H2)
noncomputable def rB (fp:List Addr) (h:Heap):List (Addr×Obj):=fp.filterMap fun b=>(h.get? b).map fun o=>(b,o)
theorem mn {fp:List Addr} {h:Heap} {b:Addr} {o:Obj} (hb:b∈fp) (e:h.get? b=some o):(b,o)∈rB fp h:=RJ.mpr ⟨b,hb,by rw [e]; rfl⟩
theorem FK {fp:List Addr} {h:Heap} {p:Addr×Obj} (hp:p∈rB fp h):p.1∈fp/\h.get? p.1=some p.2:=by
 obtain ⟨b,hb,e⟩:=RJ.mp hp
 cases q:h.get? b with
 | none=>rw [q] at e; cases e
 | some o=>
  rw [q] at e
  have e':(b,o)=p:=Nf e
  subst e'
  exact ⟨hb,q⟩
theorem Inv.pinned {pins:List (Addr×Obj)} {σ:St} {H:Hp} {s:Shared} {fp:List Addr} (I:Inv X pins σ H s) (hf:∀ b∈fp,lJ X pins H b) (ho:∀ b∈fp,∃ o,s.heap.get? b=some o/\∀ v,o.data≠.cell v):Inv X (pins++rB fp s.heap) σ H s:=
 I.pins_of fun p hp=>(NL.mp hp).elim (fun z=>I.pin p (NU _ z)) fun z=>by
  obtain ⟨hb,e⟩:=FK z
  obtain ⟨f0,f1,f2,_⟩:=hf p.1 hb
  obtain ⟨o,e',d⟩:=ho p.1 hb
  rw [e] at e'; cases e'
  exact ⟨e,f0,f1,f2,d⟩
theorem Inv.unpinned {pins pl:List (Addr×Obj)} {σ:St} {H:Hp} {s:Shared} (I:Inv X (pins++pl) σ H s):Inv X pins σ H s:=I.pins_of fun p hp=>I.pin p (NU _ (OL _ hp))
theorem bL {iter:Expr} {body:List Stmt} {wi:TI} {g:TG} {tb:TS} {pos:Pos} (hp:NO (model X.prog X.w) X.A X.env X.xe) (hc:X.calm=true) (hi:PI X tg iter wi) (hg:PG X tg g) (hb:PSs X body tb)
  (hs:∀ x,Sd iter X.env x=pure x:=by intro _; rfl):PS X (.For tg iter body [] pos) (cU wi g tb):=by
 intro pins s σ H D I h
 refine wpAny_For (thn (hi pins s σ H _ I h) fun v s1 h1=>thn h1 fun itv s2 h2=>?_) hs
 obtain ⟨it,fp,tn,J,H2,e,I2,T,st2,f2,W,⟨m0,w0⟩,turn⟩:=h2
 subst e
 have stat:∀ {H':Hp},(∀ b∈fp,H' b=none)->∀ b∈fp,lJ X pins H' b:=fun hn b hb=>⟨hn b hb,(f2 b hb).2⟩
 refine codeAny_forLoop_any (fun n s'=>∃ i σ' H',Inv X pins σ' H' s'/\tn i s'.heap/\(∀ b∈fp,H' b=none)/\W i n σ' H') ?_ m0 ⟨0,σ,H2,I2,st2,fun b hb=>(f2 b hb).1,w0⟩
 rintro n s3 ⟨i,σ3,H3,I3,st3,fr3,w3⟩
 rcases turn i n σ3 H3 w3 with ⟨stop,qn⟩ | ⟨go,N,hN,step⟩
 ·refine PL hp (thn (T.done X rfl rfl rfl hc i pins s3 σ3 H3 X.xe I3 (stat fr3) st3 stop) fun r s4 ⟨hr,I4⟩=>?_)
  subst hr
  exact Re ⟨σ3,H3,I4,qn⟩
 ·refine PL hp (thn (T.item X rfl rfl rfl hc i pins s3 σ3 H3 X.xe I3 (stat fr3) st3 go) fun r s4 ⟨u,hr,h4⟩=>?_)
  subst hr
  refine PL hp (thn h4 fun _ s5 ⟨x,H5,I5,r5,y5,st5,fr5⟩=>?_)
  have I5':=I5.pinned (stat fr5) (T.obj _ _ st5)
  refine PL hp (thn (hg _ s5 σ3 H5 x u _ I5' r5 (step x H5 y5)) fun _ s6 ⟨σ6,H6,I6,q6⟩=>?_)
  refine PL hp (thn (hb _ s6 σ6 H6 _ I6 q6) fun f s7 q7=>?_)
  have again:∀ {σ7:St} {H7:Hp},Inv X (pins++rB fp s5.heap) σ7 H7 s7->N σ7 H7->∃ m,m < n/\∃ i σ' H',Inv X pins σ' H' s7/\tn i s7.heap/\(∀ b∈fp,H' b=none)/\W i m σ' H':=fun {σ7 H7} I7 n7=>by
   obtain ⟨m',hm,w7⟩:=hN σ7 H7 n7
   refine ⟨m',hm,i + 1,σ7,H7,I7.unpinned,T.keep _ _ _ st5 fun b hb o e=>(I7.pin (b,o) (NU _ (NU _ (mn hb e)))).1,fun b hb=>?_,w7⟩
   obtain ⟨o,e,d⟩:=T.obj _ _ st5 b hb
   exact (I7.pin (b,o) (NU _ (NU _ (mn hb e)))).2.1
  cases f with
  | next=>obtain ⟨σ7,H7,I7,n7⟩:=q7; exact again I7 n7
  | cont=>obtain ⟨σ7,H7,I7,n7⟩:=q7; exact again I7 n7
  | brk=>obtain ⟨σ7,H7,I7,q7⟩:=q7; exact ⟨σ7,H7,I7.unpinned,q7⟩
  | ret v=>obtain ⟨x7,σ7,H7,I7,r7,q7⟩:=q7; exact ⟨x7,σ7,H7,I7.unpinned,r7,q7⟩
end
theorem uX {K:Fg} {a:Addr} {xs:List V} {g:TG} {tb:TS} {D:kf} {σ:St} {H:Hp} (Pv:Nat->St->Hp->Prop) (h0:Pv 0 σ H) (hl:∀ i σ H,i<=xs.length->Pv i σ H->SqL K H a xs)
  (hs:∀ i x σ H,xs[i]?=some x->Pv i σ H->g x σ H fun σ2 H2=>tb { D with nx:=Pv (i + 1),ct:=Pv (i + 1),bk:=D.nx } σ2 H2) (hd:∀ σ H,Pv xs.length σ H->D.nx σ H):
  ∃ W:Nat->Nat->St->Hp->Prop,(∃ m,W 0 m σ H)/\∀ i m σ H,W i m σ H->
   ((Itl K a).stop i H/\D.nx σ H)\/((Itl K a).go i H/\∃ N:St->Hp->Prop,(∀ σ' H',N σ' H'->∃ m',m' < m/\W (i + 1) m' σ' H')/\∀ x H',(Itl K a).yld i H x H'->g x σ H' fun σ2 H2=>tb { D with nx:=N,ct:=N,bk:=D.nx } σ2 H2):=by
 refine ⟨fun i m σ H=>m=xs.length - i/\i<=xs.length/\Pv i σ H,⟨xs.length,by simp,N3 _,h0⟩,?_⟩
 rintro i m σ H ⟨rfl,hi,p⟩
 have q:=hl i σ H hi p
 by_cases hlt:i < xs.length
 ·refine .inr ⟨⟨xs,xs[i],q,by simp [hlt]⟩,Pv (i + 1),fun σ' H' p'=>⟨xs.length - (i + 1),by omega,rfl,hlt,p'⟩,fun x H' y=>?_⟩
  obtain ⟨e,y⟩:=y
  subst e
  exact hs i x σ _ (y xs q) p
 ·have e:i=xs.length:=by omega
  subst e
  exact .inl ⟨⟨xs,q,M1 _⟩,hd σ H p⟩
theorem JO {K:Fg} {a:Addr} {xs:List V} {g:TG} {tb:TS} {D:kf} {σ:St} {H:Hp} (Pv:Nat->St->Hp->Prop) (h0:Pv 0 σ H) (hl:∀ i σ H,i<=xs.length->Pv i σ H->SqT K H a xs)
  (hs:∀ i x σ H,xs[i]?=some x->Pv i σ H->g x σ H fun σ2 H2=>tb { D with nx:=Pv (i + 1),ct:=Pv (i + 1),bk:=D.nx } σ2 H2) (hd:∀ σ H,Pv xs.length σ H->D.nx σ H):
  ∃ W:Nat->Nat->St->Hp->Prop,(∃ m,W 0 m σ H)/\∀ i m σ H,W i m σ H->
   ((Itt K a).stop i H/\D.nx σ H)\/((Itt K a).go i H/\∃ N:St->Hp->Prop,(∀ σ' H',N σ' H'->∃ m',m' < m/\W (i + 1) m' σ' H')/\∀ x H',(Itt K a).yld i H x H'->g x σ H' fun σ2 H2=>tb { D with nx:=N,ct:=N,bk:=D.nx } σ2 H2):=by
 refine ⟨fun i m σ H=>m=xs.length - i/\i<=xs.length/\Pv i σ H,⟨xs.length,by simp,N3 _,h0⟩,?_⟩
 rintro i m σ H ⟨rfl,hi,p⟩
 have q:=hl i σ H hi p
 by_cases hlt:i < xs.length
 ·refine .inr ⟨⟨xs,xs[i],q,by simp [hlt]⟩,Pv (i + 1),fun σ' H' p'=>⟨xs.length - (i + 1),by omega,rfl,hlt,p'⟩,fun x H' y=>?_⟩
  obtain ⟨e,y⟩:=y
  subst e
  exact hs i x σ _ (y xs q) p
 ·have e:i=xs.length:=by omega
  subst e
  exact .inl ⟨⟨xs,q,M1 _⟩,hd σ H p⟩
theorem rC {lo:Int} {n:Nat} {g:TG} {tb:TS} {D:kf} {σ:St} {H:Hp} (Pv:Nat->St->Hp->Prop) (h0:Pv 0 σ H)
  (hs:∀ i σ H,i < n->Pv i σ H->g (.int (lo + i)) σ H fun σ2 H2=>tb { D with nx:=Pv (i + 1),ct:=Pv (i + 1),bk:=D.nx } σ2 H2) (hd:∀ σ H,Pv n σ H->D.nx σ H):
  ∃ W:Nat->Nat->St->Hp->Prop,(∃ m,W 0 m σ H)/\∀ i m σ H,W i m σ H->
   ((Itr lo n).stop i H/\D.nx σ H)\/((Itr lo n).go i H/\∃ N:St->Hp->Prop,(∀ σ' H',N σ' H'->∃ m',m' < m/\W (i + 1) m' σ' H')/\∀ x H',(Itr lo n).yld i H x H'->g x σ H' fun σ2 H2=>tb { D with nx:=N,ct:=N,bk:=D.nx } σ2 H2):=by
 refine ⟨fun i m σ H=>m=n - i/\i<=n/\Pv i σ H,⟨n,by simp,N3 _,h0⟩,?_⟩
 rintro i m σ H ⟨rfl,hi,p⟩
 by_cases hlt:i < n
 ·refine .inr ⟨hlt,Pv (i + 1),fun σ' H' p'=>⟨n - (i + 1),by omega,rfl,hlt,p'⟩,fun x H' y=>?_⟩
  obtain ⟨e,y⟩:=y
  subst e y
  exact hs i σ _ hlt p
 ·have e:i=n:=by omega
  subst e
  exact .inl ⟨M1 _,hd σ H p⟩
end L2
namespace L2
open PySem PySem.Spec PyProof.Rows
noncomputable abbrev R2:=V->V->Hp->VK->Prop
noncomputable def OpR (X:Cx) (f:Value->Value->Sem Value) (r:R2):Prop:=
 ∀ (pins:List (Addr×Obj)) (s:Shared) (σ:St) (H:Hp) (x y:V) (v u:Value) (Q:VK),Inv X pins σ H s->aM x v->aM y u->r x y H Q->
  wpAny (model X.prog X.w) X.A (f v u) (EP X pins σ Q) X.xe s
noncomputable def UnR (X:Cx) (f:Value->Sem Value) (r:V->Hp->VK->Prop):Prop:=
 ∀ (pins:List (Addr×Obj)) (s:Shared) (σ:St) (H:Hp) (x:V) (v:Value) (Q:VK),Inv X pins σ H s->aM x v->r x H Q->
  wpAny (model X.prog X.w) X.A (f v) (EP X pins σ Q) X.xe s
noncomputable def dS (X:Cx) (f:Value) (r:List V->Hp->VK->Prop):Prop:=
 ∀ (pins:List (Addr×Obj)) (s:Shared) (σ:St) (H:Hp) (xs:List V) (us:List Value) (Q:VK),Inv X pins σ H s->aK xs us->r xs H Q->
  wpAny (model X.prog X.w) X.A (call f us) (EP X pins σ Q) X.xe s
noncomputable def tOp (r:R2) (ta tb:TE):TE:=fun σ H Q=>ta σ H fun x H1=>tb σ H1 fun y H2=>r x y H2 Q
noncomputable def tUn (r:V->Hp->VK->Prop) (ta:TE):TE:=fun σ H Q=>ta σ H fun x H1=>r x H1 Q
noncomputable def rI (C:Int->Int->Prop) (g:Int->Int->V):R2:=fun x y H Q=>∃ i j,x=.int i/\y=.int j/\C i j/\Q (g i j) H
noncomputable def rI0 (g:Int->Int->V):R2:=fun x y H Q=>∃ i j,x=.int i/\y=.int j/\Q (g i j) H
noncomputable def rU (g:Int->V):V->Hp->VK->Prop:=fun x H Q=>∃ i,x=.int i/\Q (g i) H
section
variable {X:Cx} {a b c:Expr} {ta tb tc:TE} {pos:Pos}
theorem Hi (ha:PE X a ta) (hb:PE X b tb) {pins:List (Addr×Obj)} {s:Shared} {σ:St} {H:Hp} {R:V->V->Hp->Prop} (I:Inv X pins σ H s)
  (h:ta σ H fun x H1=>tb σ H1 fun y H2=>R x y H2) {Q:Value->Shared->Prop} {f:Value->Value->Sem Value}
  (hf:∀ v u s2 x y H2,Inv X pins σ H2 s2->aM x v->aM y u->R x y H2->wpAny (model X.prog X.w) X.A (f v u) Q X.xe s2):
  wpAny (model X.prog X.w) X.A (eval a X.env) (fun v s₁=>wpAny (model X.prog X.w) X.A (eval b X.env) (fun u s₂=>wpAny (model X.prog X.w) X.A (f v u) Q X.xe s₂) X.xe s₁) X.xe s:=by
 refine thn (ha pins s σ H _ I h) fun v s1 ⟨x,H1,I1,r1,q1⟩=>?_
 refine thn (hb pins s1 σ H1 _ I1 q1) fun u s2 ⟨y,H2,I2,r2,q2⟩=>?_
 exact hf v u s2 x y H2 I2 r1 r2 q2
theorem ax {op:Operator} {r:R2} (ho:OpR X (PU op) r) (ha:PE X a ta) (hb:PE X b tb):PE X (.BinOp a op b pos) (tOp r ta tb):=by
 intro pins s σ H Q I h
 exact wpAny_BinOp (Hi ha hb I h fun v u s2 x y H2 I2 rx ry q=>ho pins s2 σ H2 x y v u Q I2 rx ry q)
theorem DX {op:UnaryOp} {r:V->Hp->VK->Prop} (ho:UnR X (unaryOp op) r) (ha:PE X a ta):PE X (.UnaryOp op a pos) (tUn r ta):=by
 intro pins s σ H Q I h
 exact UnaryOp_ (thn (ha pins s σ H _ I h) fun v s1 ⟨x,H1,I1,r1,q1⟩=>ho pins s1 σ H1 x v Q I1 r1 q1)
theorem opI {f:Value->Value->Sem Value} {C:Int->Int->Prop} {g:Int->Int->Int}
  (rule:∀ (i j:Int) (t u:Tok) (s:Shared) (Q:Value->Shared->Prop) (E:Value->Shared->Prop),C i j->Q (.int (g i j) s.toks) { s with toks:=s.toks + 1 }->wpAny (model X.prog X.w) X.A (f (.int i t) (.int j u)) Q E s):
  OpR X f (rI C fun i j=>.int (g i j)):=by
 intro pins s σ H x y v u Q I rx ry h
 obtain ⟨i,j,rfl,rfl,hc,q⟩:=h
 obtain ⟨t,rfl⟩:=rx
 obtain ⟨t',rfl⟩:=ry
 exact rule i j t t' s _ _ hc ⟨.int (g i j),H,I.tok _,⟨_,rfl⟩,q⟩
theorem K1 {f:Value->Value->Sem Value} {g:Int->Int->Int}
  (rule:∀ (i j:Int) (t u:Tok) (s:Shared) (Q:Value->Shared->Prop) (E:Value->Shared->Prop),Q (.int (g i j) s.toks) { s with toks:=s.toks + 1 }->wpAny (model X.prog X.w) X.A (f (.int i t) (.int j u)) Q E s):
  OpR X f (rI0 fun i j=>.int (g i j)):=by
 intro pins s σ H x y v u Q I rx ry h
 obtain ⟨i,j,rfl,rfl,q⟩:=h
 obtain ⟨t,rfl⟩:=rx
 obtain ⟨t',rfl⟩:=ry
 exact rule i j t t' s _ _ ⟨.int (g i j),H,I.tok _,⟨_,rfl⟩,q⟩
theorem Hj {f:Value->Value->Sem Value} {g:Int->Int->Bool}
  (rule:∀ (i j:Int) (t u:Tok) (s:Shared) (Q:Value->Shared->Prop) (E:Value->Shared->Prop),Q (.bool (g i j)) s->wpAny (model X.prog X.w) X.A (f (.int i t) (.int j u)) Q E s):
  OpR X f (rI0 fun i j=>.bl (g i j)):=by
 intro pins s σ H x y v u Q I rx ry h
 obtain ⟨i,j,rfl,rfl,q⟩:=h
 obtain ⟨t,rfl⟩:=rx
 obtain ⟨t',rfl⟩:=ry
 exact rule i j t t' s _ _ ⟨.bl (g i j),H,I,rfl,q⟩
noncomputable def ga (i j:Int):Prop:=0 < j/\j < 1073741824
theorem bN:OpR X (PU .Add) (rI0 fun i j=>.int (i + j)):=K1 fun _ _ _ _ _ _ _ q=>add_int q
theorem iT:OpR X (PU .Sub) (rI0 fun i j=>.int (i - j)):=K1 fun _ _ _ _ _ _ _ q=>sub_int q
theorem cD:OpR X (PU .FloorDiv) (rI ga fun i j=>.int (i / j)):=opI fun i j _ _ _ _ _ hc q=>by
 have h1:(0:Int) < j:=hc.1
 have h2:j < 1073741824:=hc.2
 exact floordiv_int (by omega) (by rw [Int.fdiv_eq_ediv_of_nonneg i (by omega)]; exact q) (.inl (PyProof.noPylong_small (by omega)))
theorem bV:OpR X (PU .Mod) (rI (fun _ j=>0 < j) fun i j=>.int (i % j)):=opI fun i j _ _ _ _ _ hc q=>by
 have h1:(0:Int) < j:=hc
 exact mod_int' (by omega) (by rw [Int.fmod_eq_emod_of_nonneg i (by omega)]; exact q)
theorem unI {f:Value->Sem Value} {g:Int->Int}
  (rule:∀ (i:Int) (t:Tok) (s:Shared) (Q:Value->Shared->Prop) (E:Value->Shared->Prop),Q (.int (g i) s.toks) { s with toks:=s.toks + 1 }->wpAny (model X.prog X.w) X.A (f (.int i t)) Q E s):
  UnR X f (rU fun i=>.int (g i)):=by
 intro pins s σ H x v Q I rx h
 obtain ⟨i,rfl,q⟩:=h
 obtain ⟨t,rfl⟩:=rx
 exact rule i t s _ _ ⟨.int (g i),H,I.tok _,⟨_,rfl⟩,q⟩
theorem A4:UnR X (unaryOp .USub) (rU fun i=>.int (-i)):=unI fun _ _ _ _ _ q=>neg_int q
end
noncomputable def K2:V->V->Bool
 | .non,.non=>true | .non,.int _=>true | .int _,.non=>true | .non,.bl _=>true | .bl _,.non=>true | .non,.str _=>true | .str _,.non=>true
 | .int _,.int _=>true | .bl _,.bl _=>true | .str _,.str _=>true | .byt _,.byt _=>true
 | .int _,.str _=>true | .str _,.int _=>true | .bl _,.str _=>true | .str _,.bl _=>true
 | _,_=>false
noncomputable def rEq:R2:=fun x y H Q=>K2 x y=true/\Q (.bl (decide (x=y))) H
noncomputable def rNe:R2:=fun x y H Q=>K2 x y=true/\Q (.bl (!decide (x=y))) H
theorem De {i j:Int}:decide (V.int i=V.int j)=(i == j):=by
 rw [Rh]
 simp
theorem FL {i j:Bool}:decide (V.bl i=V.bl j)=(i == j):=by
 rw [Rh]
 simp
theorem Df {i j:Str}:decide (V.str i=V.str j)=(i == j):=by
 rw [Rh]
 simp
theorem Dg {i j:Array UInt8}:decide (V.byt i=V.byt j)=(i.toList == j.toList):=by
 rw [Rh]
 cases i
 cases j
 simp
section
variable {X:Cx} {a b c:Expr} {ta tb tc:TE} {pos:Pos}
theorem bH {pins:List (Addr×Obj)} {σ:St} {H:Hp} {s:Shared} {Q:VK} {k k':Bool} (I:Inv X pins σ H s) (q:Q (.bl k) H) (e:k=k'):EP X pins σ Q (.bool k') s:=by
 subst e
 exact ⟨.bl k,H,I,rfl,q⟩
theorem bW:OpR X (OU .Eq) rEq:=by
 intro pins s σ H x y v u Q I rx ry h
 obtain ⟨hs,q⟩:=h
 cases x with
 | non=>
  cases rx
  cases y with
  | non=>cases ry; exact PySem.EqNone.eq_none_none (bH I q (by simp))
  | bl j=>cases ry; exact PySem.EqNone.eq_none_bool (bH I q (by simp))
  | int j=>obtain ⟨t',rfl⟩:=ry; exact PySem.EqNone.eq_none_int (bH I q (by simp))
  | str j=>obtain ⟨t',rfl⟩:=ry; exact PySem.EqNone.eq_none_str (bH I q (by simp))
  | _=>exact absurd (show false=true from hs) Nd
 | bl i=>
  cases rx
  cases y with
  | non=>cases ry; exact PySem.EqNone.eq_bool_none (bH I q (by simp))
  | bl j=>cases ry; exact eq_bool (bH I q FL)
  | str j=>obtain ⟨t',rfl⟩:=ry; exact PySem.EqMixed.eq_bool_str (bH I q (by simp))
  | _=>exact absurd (show false=true from hs) Nd
 | int i=>
  obtain ⟨t,rfl⟩:=rx
  cases y with
  | non=>cases ry; exact PySem.EqNone.eq_int_none (bH I q (by simp))
  | int j=>obtain ⟨t',rfl⟩:=ry; exact eq_int (bH I q De)
  | str j=>obtain ⟨t',rfl⟩:=ry; exact PySem.EqMixed.eq_int_str (bH I q (by simp))
  | _=>exact absurd (show false=true from hs) Nd
 | str i=>
  obtain ⟨t,rfl⟩:=rx
  cases y with
  | non=>cases ry; exact PySem.EqNone.eq_str_none (bH I q (by simp))
  | bl j=>cases ry; exact PySem.EqMixed.eq_str_bool (bH I q (by simp))
  | int j=>obtain ⟨t',rfl⟩:=ry; exact PySem.EqMixed.eq_str_int (bH I q (by simp))
  | str j=>obtain ⟨t',rfl⟩:=ry; exact eq_str (bH I q Df)
  | _=>exact absurd (show false=true from hs) Nd
 | byt i=>
  obtain ⟨t,rfl⟩:=rx
  cases y with
  | byt j=>obtain ⟨t',rfl⟩:=ry; exact PySem.W.eq_bytes (bH I q Dg)
  | _=>exact absurd (show false=true from hs) Nd
 | _=>cases y <;> exact absurd (show false=true from hs) Nd
theorem Jr:OpR X (OU .NotEq) rNe:=by
 intro pins s σ H x y v u Q I rx ry h
 obtain ⟨hs,q⟩:=h
 cases x with
 | non=>
  cases rx
  cases y with
  | non=>cases ry; exact PySem.EqNone.ne_none_none (bH I q (by simp))
  | bl j=>cases ry; exact PySem.EqNone.ne_none_bool (bH I q (by simp))
  | int j=>obtain ⟨t',rfl⟩:=ry; exact PySem.EqNone.ne_none_int (bH I q (by simp))
  | str j=>obtain ⟨t',rfl⟩:=ry; exact PySem.EqNone.ne_none_str (bH I q (by simp))
  | _=>exact absurd (show false=true from hs) Nd
 | bl i=>
  cases rx
  cases y with
  | non=>cases ry; exact PySem.EqNone.ne_bool_none (bH I q (by simp))
  | bl j=>cases ry; exact ne_bool (bH I q (congrArg not FL))
  | str j=>obtain ⟨t',rfl⟩:=ry; exact PySem.EqMixed.ne_bool_str (bH I q (by simp))
  | _=>exact absurd (show false=true from hs) Nd
 | int i=>
  obtain ⟨t,rfl⟩:=rx
  cases y with
  | non=>cases ry; exact PySem.EqNone.ne_int_none (bH I q (by simp))
  | int j=>obtain ⟨t',rfl⟩:=ry; exact ne_int (bH I q (congrArg not De))
  | str j=>obtain ⟨t',rfl⟩:=ry; exact PySem.EqMixed.ne_int_str (bH I q (by simp))
  | _=>exact absurd (show false=true from hs) Nd
 | str i=>
  obtain ⟨t,rfl⟩:=rx
  cases y with
  | non=>cases ry; exact PySem.EqNone.ne_str_none (bH I q (by simp))
  | bl j=>cases ry; exact PySem.EqMixed.ne_str_bool (bH I q (by simp))
  | int j=>obtain ⟨t',rfl⟩:=ry; exact PySem.EqMixed.ne_str_int (bH I q (by simp))
  | str j=>obtain ⟨t',rfl⟩:=ry; exact ne_str (bH I q (congrArg not Df))
  | _=>exact absurd (show false=true from hs) Nd
 | byt i=>
  obtain ⟨t,rfl⟩:=rx
  cases y with
  | byt j=>obtain ⟨t',rfl⟩:=ry; exact PySem.W.ne_bytes (bH I q (congrArg not Dg))
  | _=>exact absurd (show false=true from hs) Nd
 | _=>cases y <;> exact absurd (show false=true from hs) Nd
theorem Js:OpR X (OU .Lt) (rI0 fun i j=>.bl (decide (i < j))):=Hj fun _ _ _ _ _ _ _ q=>lt_int q
theorem Az:OpR X (OU .LtE) (rI0 fun i j=>.bl (decide (i<=j))):=Hj fun _ _ _ _ _ _ _ q=>le_int q
theorem nL:OpR X (OU .Gt) (rI0 fun i j=>.bl (decide (j < i))):=Hj fun _ _ _ _ _ _ _ q=>gt_int q
theorem aO (b:Expr) {op:CmpOp} (h:op≠.In:=by decide) (h2:op≠.NotIn:=by decide):RY op b=false:=by
 have e1:(op == CmpOp.In)=false:=by cases op <;> first | rfl | exact absurd rfl h
 have e2:(op == CmpOp.NotIn)=false:=by cases op <;> first | rfl | exact absurd rfl h2
 cases b <;> simp [RY,e1,e2]
theorem eX {op:CmpOp} {r:R2} (ho:OpR X (OU op) r) (ha:PE X a ta) (hb:PE X b tb) (hm:RY op b=false):PE X (.Compare a [op] [b] pos) (tOp r ta tb):=by
 intro pins s σ H Q I h
 exact wpAny_Compare1 (Hi ha hb I h fun v u s2 x y H2 I2 rx ry q=>ho pins s2 σ H2 x y v u Q I2 rx ry q) hm
noncomputable def be (t:TE):TT:=fun σ H Q=>t σ H fun x H'=>∃ k,x=.bl k/\Q k H'
theorem aP {op:CmpOp} {r:R2} (ho:OpR X (OU op) r) (ha:PE X a ta) (hb:PE X b tb) (hm:RY op b=false):PT X (.Compare a [op] [b] pos) (be (tOp r ta tb)):=by
 intro pins s σ H Q I h
 refine wpAny_isTrue_Compare1 (thn (ha pins s σ H _ I h) fun v s1 ⟨x,H1,I1,r1,q1⟩=>thn (hb pins s1 σ H1 _ I1 q1) fun u s2 ⟨y,H2,I2,r2,q2⟩=>
  thn (ho pins s2 σ H2 x y v u _ I2 r1 r2 q2) fun c s3 ⟨z,H3,I3,r3,k,e,q3⟩=>?_) hm
 subst e
 cases r3
 exact Pa ⟨H3,I3,q3⟩
noncomputable def A5 (r r':R2) (ta tb tc:TE):TE:=fun σ H Q=>ta σ H fun x H1=>tb σ H1 fun y H2=>r x y H2 fun z H3=>∃ k,z=.bl k/\
 (if k=true then tc σ H3 fun w' H4=>r' y w' H4 Q else Q (.bl false) H3)
theorem Hk {op op':CmpOp} {r r':R2} (ho:OpR X (OU op) r) (ho':OpR X (OU op') r') (ha:PE X a ta) (hb:PE X b tb) (hc:PE X c tc)
  (hm:lastMarks [op,op'] [b,c]=false:=by with_unfolding_all rfl):PE X (.Compare a [op,op'] [b,c] pos) (A5 r r' ta tb tc):=by
 intro pins s σ H Q I h
 refine Compare_chain (thn (ha pins s σ H _ I h) fun v s1 ⟨x,H1,I1,r1,q1⟩=>chain_link (thn (hb pins s1 σ H1 _ I1 q1) fun u s2 ⟨y,H2,I2,r2,q2⟩=>
  thn (ho pins s2 σ H2 x y v u _ I2 r1 r2 q2) fun d s3 ⟨z,H3,I3,r3,k,e,q3⟩=>?_)) hm
 subst e
 cases r3
 refine Pa ?_
 cases k with
 | false=>exact ite_ff ⟨.bl false,H3,I3,rfl,q3⟩
 | true=>exact ite_tt (chain_last (thn (hc pins s3 σ H3 _ I3 q3) fun w' s4 ⟨z',H4,I4,r4,q4⟩=>ho' pins s4 σ H4 y z' u w' Q I4 r2 r4 q4))
theorem vW:(Nb:Nat) < 2 ^ 63:=by rw [M8]; decide
theorem pQ {x:V} {us:List Value} (r:aK [x] us):∃ u,us=[u]/\aM x u:=by
 cases r with
 | cons r1 r2=>cases r2; exact ⟨_,rfl,r1⟩
theorem Jt {x y:V} {us:List Value} (r:aK [x,y] us):∃ u w',us=[u,w']/\aM x u/\aM y w':=by
 cases r with
 | cons r1 r2=>
  cases r2 with
  | cons r3 r4=>cases r4; exact ⟨_,_,rfl,r1,r3⟩
theorem FM (hc:X.calm=true):dS X (.builtin "max") (fun xs H Q=>∃ i j,xs=[.int i,.int j]/\Q (.int (if j > i then j else i)) H):=by
 intro pins s σ H xs us Q I r h
 obtain ⟨i,j,rfl,q⟩:=h
 obtain ⟨u,w',rfl,⟨t,rfl⟩,⟨t',rfl⟩⟩:=Jt r
 refine max_two_ints (I.ok.hd hc) fun h' tk k=>⟨_,H,I.kept k,?_,q⟩
 by_cases hj:j > i
 ·rw [if_pos hj,if_pos hj]; exact ⟨_,rfl⟩
 ·rw [if_neg hj,if_neg hj]; exact ⟨_,rfl⟩
theorem zc (hc:X.calm=true):dS X (.builtin "min") (fun xs H Q=>∃ i j,xs=[.int i,.int j]/\Q (.int (if j < i then j else i)) H):=by
 intro pins s σ H xs us Q I r h
 obtain ⟨i,j,rfl,q⟩:=h
 obtain ⟨u,w',rfl,⟨t,rfl⟩,⟨t',rfl⟩⟩:=Jt r
 refine min_two_ints (I.ok.hd hc) fun h' tk k=>⟨_,H,I.kept k,?_,q⟩
 by_cases hj:j < i
 ·rw [if_pos hj,if_pos hj]; exact ⟨_,rfl⟩
 ·rw [if_neg hj,if_neg hj]; exact ⟨_,rfl⟩
theorem zd:dS X (.type "int") (fun xs H Q=>(∃ i,xs=[.int i]/\Q (.int i) H)\/∃ k,xs=[.bl k]/\Q (.int (if k then 1 else 0)) H):=by
 intro pins s σ H xs us Q I r h
 rcases h with ⟨i,rfl,q⟩ | ⟨k,rfl,q⟩
 ·obtain ⟨u,rfl,t,rfl⟩:=pQ r
  exact call_int_int ⟨.int i,H,I,⟨_,rfl⟩,q⟩
 ·obtain ⟨u,rfl,r1⟩:=pQ r
  cases r1
  exact call_int_bool ⟨.int (if k then 1 else 0),H,I.tok _,⟨_,rfl⟩,q⟩
end
end L2
namespace L2
open PySem PySem.Spec PyProof.Rows
structure uY (h:Heap) (x dx C:Addr) (mA:Str->Option Value):Prop where
 obj:h.get? x=some (Po C dx)
 ns:h.Ns1 dx mA
 ne:dx≠x
theorem FN {h:Heap} {dx:Addr} {mA:Str->Option Value} (n:h.Ns1 dx mA):∃ od,h.get? dx=some od/\∀ name,RA name od=some (mA name):=by
 obtain ⟨o,es,ep,ho,hd,hk,_,hm⟩:=n
 refine ⟨o,ho,fun name=>?_⟩
 have e:=hm name
 unfold nsFind findBy at e
 rw [<-Array.find?_toList] at e
 unfold RA
 rw [hd]
 dsimp only
 split
 ·rename_i y q
  rw [q] at e
  exact congrArg some e
 ·rename_i q
  rw [q] at e
  have a:es.toList.any (·.refKey)=false:=by
   rw [List.any_eq_false]
   intro y hy
   obtain ⟨z,t,hkey⟩:=hk y (Array.mem_toList_iff.mp hy)
   simp [Uq.refKey,hkey]
  have a':¬ es.toList.any (·.refKey)=true:=by rw [a]; exact Nd
  rw [if_neg a']
  exact congrArg some e
theorem uY.look {h:Heap} {x dx C:Addr} {mA:Str->Option Value} (I:uY h x dx C mA):∃ od,PySem.W.InstAt h x (Po C dx) C (some od)/\∀ name,RA name od=some (mA name):=
 let ⟨od,ho,hl⟩:=FN I.ns
 ⟨od,⟨I.obj,rfl,rfl,ho⟩,hl⟩
section
variable {prog:Program} {w:World} {A:Around} {E:Value->Shared->Prop} {s:Shared} {K:Fg} {x dx C f:Addr} {mA:Str->Option Value} {name:Str} {v:Value}
theorem JP {expr:Bool} {Q:Value->Shared->Prop} (X:K.In s.heap) (I:uY s.heap x dx C mA) (hg:Q5 K C name=true) (hh:Se K C=true)
  (ha:O7 K (.ref C) name=some none) (hv:mA name=some v) (hv':Vg v=true) (h:Q v { s with toks:=s.toks + 1 }):
  wpAny (model prog w) A (getAttr (.ref x) name expr) Q E s:=by
 obtain ⟨od,J,hl⟩:=I.look
 exact PySem.W.get_value X J (Rw hg).1 (PySem.W.findObj_own hh ha rfl (by rw [hl,hv])) hv' h
theorem Hl {pl:Sem Bool} {Q:Value×List Value->Shared->Prop} (X:K.In s.heap) (I:uY s.heap x dx C mA) (hg:Q5 K C name=true)
  (hf:O7 K (.ref C) name=some (some (.ref f))) (ht:Ur K (.ref f)=true) (hv:mA name=none) (h:Q (.ref f,[.ref x]) s):
  wpAny (model prog w) A (RK (.ref x) name pl) Q E s:=by
 obtain ⟨od,J,hl⟩:=I.look
 exact PySem.W.method_fn X J (Rw hg).1 (Rw hg).2 hf (beq_iff_eq.mp ht) (by show (RA name od).map (·.isSome)=some false; rw [hl,hv]; rfl) h
theorem JQ {ns:List Str} {Q:Unit->Shared->Prop} (X:K.In s.heap) (I:uY s.heap x dx C mA)
  (hs:O7 K (.ref C) "__setattr__"=some (some (.builtin "object.__setattr__"))) (hp:UG K C=true) (ht:S3 K C name=some none) (hh:Se K C=true)
  (hw:Sw mA ns) (hsz:ns.length<=Nb)
  (h:∀ h',uY h' x dx C (fun y=>if y=name then some v else mA y)->Nn dx s.heap h'->Q () { s with heap:=h',toks:=s.toks + 2 }):
  wpAny (model prog w) A (setAttr (.ref x) name v) Q E s:=by
 obtain ⟨od,J,hl⟩:=I.look
 refine PySem.W.set_plain X J hs (PySem.W.osa_open (s:={ s with toks:=s.toks + 1 }) (r:=none) X J hp ht fun b=>?_)
 obtain ⟨cd,hc,hd'⟩:=PySem.W.any_some hh
 have hx:s.heap.get? x=some ⟨.ref C,some dx,.plain,#[]⟩:=I.obj
 refine MV (MX (MV (MV (wpAny_loadPart hx (MV (PySem.W.Looks.here (s:={ s with toks:=s.toks + 1 }) (PySem.W.looks_clsIn X hc) ?_))))))
 rw [hd']
 refine MX (a:=some dx) (MV (MX (MV ?_)))
 refine wpAny_nsSet1 (s:={ s with toks:=s.toks + 1 }) I.ns fun h' hn2 hs2=>?_
 obtain ⟨oD,esD,epD,hoD,hdD,hcD⟩:=hn2.count (Sw.cons name v hw)
 refine MV (wpAny_lookBehind hoD (by rw [hdD]; exact pastItsLine_dict (NH hcD (by rw [NC]; omega))) ?_)
 exact MX (h _ ⟨(hs2.2 _ (OC I.ne)).trans I.obj,hn2,I.ne⟩ hs2)
theorem Hn {R:Result->Shared->Prop} {vs:List Value} {kw:List (Str×Value)} (X:K.In s.heap) (hm:VB K C=true)
  (hi:O7 K (.ref C) "__init__"=some (some (.ref f))) (hf:PySem.W.typeIn K (.ref f)=some (.type "function"))
  (h:codeAny (model prog w) (A.under (.builtin "type.__call__" ⟨.ref C :: vs,kw⟩)) (.call (.ref f) ⟨.ref (s.heap.objs.size + 1) :: vs,kw⟩) (PySem.W.InitBack (s.heap.objs.size + 1) R)
   { s with heap:=(s.heap.push OV).push (Po C s.heap.objs.size) }):
  codeAny (model prog w) A (.call (.ref C) ⟨vs,kw⟩) R s:=by
 obtain ⟨hh,g,d,t,os⟩:=s
 exact PySem.W.make_core (PySem.W.makes_of X hm) (PySem.W.looks_findIn X hi) (fun self=>PySem.W.bind_fn X self hf) (.inl rfl) h
end
noncomputable def gZ (f:Str) (v:V):List (Str×V)->List (Str×V)
 | []=>[(f,v)]
 | (g,x) :: r=>if g=f then (g,v) :: r else (g,x) :: gZ f v r
theorem uC (f g:Str) (v:V):∀ fs:List (Str×V),(gZ f v fs).lookup g=if g=f then some v else fs.lookup g
 | []=>by
  show Qk g [(f,v)]=_
  by_cases h:g=f
  ·have hb:(g == f)=true:=beq_iff_eq.mpr h
   simp only [Qk,hb,if_pos h]
  ·have hb:(g == f)=false:=beq_eq_false_iff_ne.mpr h
   simp only [Qk,hb,if_neg h]
 | (k,x) :: r=>by
  have ih:=uC f g v r
  rw [show gZ f v ((k,x) :: r)=(if k=f then (k,v) :: r else (k,x) :: gZ f v r) from rfl]
  by_cases hk:k=f
  ·rw [if_pos hk]
   by_cases h:g=k
   ·have hb:(g == k)=true:=beq_iff_eq.mpr h
    simp only [Qk,hb,if_pos (h.trans hk)]
   ·have hb:(g == k)=false:=beq_eq_false_iff_ne.mpr h
    simp only [Qk,hb,if_neg (fun e:g=f=>h (e.trans hk.symm))]
  ·rw [if_neg hk]
   by_cases h:g=k
   ·have hb:(g == k)=true:=beq_iff_eq.mpr h
    simp only [Qk,hb,if_neg (fun e:g=f=>hk (h.symm.trans e))]
   ·have hb:(g == k)=false:=beq_eq_false_iff_ne.mpr h
    simp only [Qk,hb]
    exact ih
theorem rD (f:Str) (v:V):∀ fs:List (Str×V),f∈(gZ f v fs).map (·.1)/\∀ g,g∈fs.map (·.1)->g∈(gZ f v fs).map (·.1)
 | []=>⟨by simp [gZ],fun g h=>by simp at h⟩
 | (k,x) :: r=>by
  obtain ⟨i1,i2⟩:=rD f v r
  rw [show gZ f v ((k,x) :: r)=(if k=f then (k,v) :: r else (k,x) :: gZ f v r) from rfl]
  by_cases hk:k=f
  ·rw [if_pos hk]
   subst hk
   exact ⟨by simp,fun g h=>by simpa using h⟩
  ·rw [if_neg hk]
   refine ⟨?_,fun g h=>?_⟩
   ·rw [Np]
    exact Nh _ i1
   ·rw [Np] at h ⊢
    rcases M6.mp h with e | e
    ·exact M6.mpr (.inl e)
    ·exact Nh _ (i2 g e)
theorem uD (f:Str) (v:V):∀ fs:List (Str×V),(gZ f v fs).length<=fs.length + 1
 | []=>by simp [gZ]
 | (k,x) :: r=>by
  have ih:=uD f v r
  rw [show gZ f v ((k,x) :: r)=(if k=f then (k,v) :: r else (k,x) :: gZ f v r) from rfl]
  by_cases hk:k=f
  ·rw [if_pos hk,NC,NC]; omega
  ·rw [if_neg hk,NC,NC]; omega
theorem iL.some_of {v:V} {o:Option Value} (r:iL (some v) o):∃ u,o=some u/\aM v u:=by
 cases o with
 | none=>exact (show False from r).elim
 | some u=>exact ⟨u,rfl,r⟩
theorem iL.none_of {o:Option Value} (r:iL none o):o=none:=by
 cases o with
 | none=>rfl
 | some u=>exact (show False from r).elim
theorem FO {v:V} {u:Value} (r:aM v u):Vg u=true:=by
 cases v with
 | non=>cases (show u=Ol from r); rfl
 | bl b=>cases (show u=N7 b from r); rfl
 | int i=>obtain ⟨t,e⟩:=(show ∃ t,u=P3 i t from r); cases e; rfl
 | str x=>obtain ⟨t,e⟩:=(show ∃ t,u=S0 x t from r); cases e; rfl
 | byt b=>obtain ⟨t,e⟩:=(show ∃ t,u=Value.bytes b t from r); cases e; rfl
 | flt b=>obtain ⟨t,e⟩:=(show ∃ t,u=UW b t from r); cases e; rfl
 | ref a=>cases (show u=NA a from r); rfl
 | ty n=>cases (show u=Om n from r); rfl
section
variable {P:Program} {w:World} {H H':Hp} {h h':Heap} {a C dx:Addr} {fs fs':List (Str×V)}
theorem tF (hok:HOk P w H h) (e:H a=some (.ins C dx fs)):∃ mA,uY h a dx C mA/\(∀ f,iL (fs.lookup f) (mA f))/\Sw mA (fs.map (·.1))/\fs.length<=1000/\H dx=some (.own a):=by
 obtain ⟨d,z,ne,ob,mA,n,r,q⟩:=(show bZ P w H h a (.ins C dx fs) from hok a _ e)
 exact ⟨mA,⟨ob,n,ne⟩,r,q,z,d⟩
end
structure Cls (K:Fg) (C:Addr):Prop where
 pg:Q5 K C VY=true
 hd:Se K C=true
 po:UG K C=true
 sa:O7 K (.ref C) "__setattr__"=some (some (.builtin "object.__setattr__"))
theorem Cls.get {K:Fg} {C:Addr} (c:Cls K C) (f:Str):Q5 K C f=true:=c.pg
noncomputable def fh (K:Fg) (C:Addr) (f:Str):Prop:=O7 K (.ref C) f=some none
theorem fh.taker {K:Fg} {C:Addr} {f:Str} (n:fh K C f):S3 K C f=some none:=by
 unfold S3
 rw [show O7 K (.ref C) f=some none from n]
 rfl
structure A6 (K:Fg) (C:Addr) (m:Str) (f:Addr):Prop where
 at_:O7 K (.ref C) m=some (some (.ref f))
 fn:Ur K (.ref f)=true
 kp:Qs K (.ref f)=true
section
variable {X:Cx} {pins:List (Addr×Obj)} {σ:St} {H:Hp} {s:Shared} {a C dx:Addr} {fs:List (Str×V)} {f:Str} {v:V} {A:Around} {E:Value->Shared->Prop}
theorem DY {b:Bool} {Q:Value->Shared->Prop} (I:Inv X pins σ H s) (e:H a=some (.ins C dx fs)) (c:Cls X.K C) (n:fh X.K C f) (l:fs.lookup f=some v)
  (h:∀ u s',Inv X pins σ H s'->aM v u->Q u s'):wpAny (model X.prog X.w) A (getAttr (.ref a) f b) Q E s:=by
 obtain ⟨mA,O,r,_,_,_⟩:=tF I.hok e
 obtain ⟨u,hu,ru⟩:=iL.some_of (v:=v) (o:=mA f) (by rw [<-l]; exact r f)
 exact JP I.kIn O (c.get f) c.hd n hu (FO ru) (h u _ (I.tok _) ru)
theorem vX {m:Str} {g:Addr} {pl:Sem Bool} {Q:Value×List Value->Shared->Prop} (I:Inv X pins σ H s) (e:H a=some (.ins C dx fs)) (c:Cls X.K C) (k:A6 X.K C m g) (l:fs.lookup m=none)
  (h:Q (.ref g,[.ref a]) s):wpAny (model X.prog X.w) A (RK (.ref a) m pl) Q E s:=by
 obtain ⟨mA,O,r,_,_,_⟩:=tF I.hok e
 have hn:mA m=none:=iL.none_of (by rw [<-l]; exact r m)
 exact Hl I.kIn O (c.get m) k.at_ k.fn hn h
theorem DZ {y:V} {u:Value} {Q:Unit->Shared->Prop} (I:Inv X pins σ H s) (e:H a=some (.ins C dx fs)) (c:Cls X.K C) (n:fh X.K C f) (hl:fs.length < 1000) (ry:aM y u)
  (h:∀ s',Inv X pins σ (upd H a (.ins C dx (gZ f y fs))) s'->Q () s'):wpAny (model X.prog X.w) A (setAttr (.ref a) f u) Q E s:=by
 obtain ⟨mA,O,r,wi,_,ho⟩:=tF I.hok e
 have hz:(fs.map (·.1)).length<=Nb:=by rw [MY,M8]; omega
 refine JQ I.kIn O c.sa c.po n.taker c.hd wi hz fun h' O' sb=>h _ ?_
 have hd:∃ o,h'.get? dx=some o:=let ⟨o,_,_,e',_⟩:=O'.ns; ⟨o,e'⟩
 refine I.write (x:=a) (e:=dx) (by rw [e]; exact PC) (.inr ho) (fun b q hb z=>(sb.2 b hb).trans z) hd ?_
 refine ⟨by rw [aS O.ne]; exact ho,?_,O.ne,O'.obj,_,O'.ns,fun g=>?_,fun g hg=>?_⟩
 ·have:=uD f y fs; omega
 ·show iL ((gZ f y fs).lookup g) (if g=f then some u else mA g)
  rw [uC]
  by_cases q:g=f
  ·rw [if_pos q,if_pos q]; exact ry
  ·rw [if_neg q,if_neg q]; exact r g
 ·by_cases q:g=f
  ·rw [q]; exact (rD f y fs).1
  ·refine (rD f y fs).2 g (wi g fun z=>hg ?_)
   show (if g=f then some u else mA g)=none
   rw [if_neg q]; exact z
theorem Inv.made (I:Inv X pins σ H s):Inv X pins σ (upd (upd H s.heap.objs.size (.own (s.heap.objs.size + 1))) (s.heap.objs.size + 1) (.ins C s.heap.objs.size []))
  { s with heap:=(s.heap.push OV).push (Po C s.heap.objs.size) }:=by
 have e1:(s.heap.push OV).get? s.heap.objs.size=some OV:=Nc s.heap rfl
 have e2:((s.heap.push OV).push (Po C s.heap.objs.size)).get? (s.heap.objs.size + 1)=some (Po C s.heap.objs.size):=by
  have:=Nc (s.heap.push OV) (o:=Po C s.heap.objs.size) rfl
  rwa [NV] at this
 have e3:(s.heap.push OV).Ns s.heap.objs.size (fun _=>none):=⟨OV,#[],_,e1,rfl,(fun e he=>absurd he (by simp)),fun _=>rfl⟩
 have I1:=I.laid (a:=s.heap.objs.size) (o:=.own (s.heap.objs.size + 1)) (h':=s.heap.push OV) (t':=s.toks) (fun b u q=>MW _ q) (M1 _) ⟨_,e1⟩
 refine I1.laid (a:=s.heap.objs.size + 1) (o:=.ins C s.heap.objs.size []) (t':=s.toks) (fun b u q=>MW _ q) (Ri (NV _ _)) ?_
 have ne:s.heap.objs.size≠s.heap.objs.size + 1:=NF (OA _)
 refine ⟨by rw [aS ne,az],N3 _,ne,e2,fun _=>none,(Heap.Ns1.of_empty e3).at fun o q=>MW _ q,fun _=>PC,fun y hy=>absurd rfl hy⟩
theorem JR {prog:Program} {w:World} {env:Env} {e:Expr} {f:Str} {pos:Pos} {s:Shared} {Q:Value->Shared->Prop} (hb:Qd e f env (eval e env)=eval e env)
  (h:wpAny (model prog w) A (eval e env) (fun o s₁=>wpAny (model prog w) A (getAttr o f true) Q E s₁) E s):wpAny (model prog w) A (eval (.Attribute e f pos) env) Q E s:=
 Attribute_any_ h (by rw [arm_eval_Attribute,hb])
end
noncomputable def gb (K:Fg) (ta:TE) (f:Str):TE:=fun σ H Q=>ta σ H fun x H1=>∃ a C dx fs v,x=.ref a/\H1 a=some (.ins C dx fs)/\Cls K C/\fh K C f/\fs.lookup f=some v/\Q v H1
noncomputable def rE (K:Fg) (ta tv:TE) (f:Str):TS:=fun D σ H=>tv σ H fun y H1=>ta σ H1 fun x H2=>∃ a C dx fs,x=.ref a/\H2 a=some (.ins C dx fs)/\Cls K C/\fh K C f/\fs.length < 1000/\
 D.nx σ (upd H2 a (.ins C dx (gZ f y fs)))
section
variable {X:Cx} {o e value:Expr} {f:Str} {pos pos' tpos:Pos} {ta tv:TE}
theorem dJ (he:PE X e ta) (hb:Qd e f X.env (eval e X.env)=eval e X.env):PE X (.Attribute e f pos) (gb X.K ta f):=by
 intro pins s σ H Q I h
 refine JR hb (thn (he pins s σ H _ I h) fun u s1 ⟨x,H1,I1,rx,a,C,dx,fs,v,ex,ea,c,n,l,q⟩=>?_)
 subst ex
 obtain rfl:u=NA a:=rx
 exact DY I1 ea c n l fun u' s2 I2 ru=>⟨v,H1,I2,ru,q⟩
theorem oR (ha:PE X o ta) (hv:PE X value tv) (hs:Uo value (some (.Attribute o f pos')) pos.line X.env=pure false):PS X (.Assign [.Attribute o f pos'] value pos) (rE X.K ta tv f):=by
 intro pins s σ H D I h
 refine plainObj_wpAny_Assign_Attribute (thn (hv pins s σ H _ I h) fun u s1 ⟨y,H1,I1,ry,q⟩=>thn (ha pins s1 σ H1 _ I1 q) fun ov s2 ⟨x,H2,I2,rx,a,C,dx,fs,ex,ea,c,n,l,q2⟩=>?_) hs
 subst ex
 obtain rfl:ov=NA a:=rx
 exact DZ I2 ea c n l ry fun s3 I3=>⟨σ,_,I3,q2⟩
end
section
variable {X:Cx} {pins:List (Addr×Obj)} {σ:St} {H:Hp} {s:Shared} {A:Around} {E:Value->Shared->Prop} {Q:Value->Shared->Prop} {c:Value} {b:Bool}
inductive gc (K:Fg) (H:Hp):V->Value->Prop where
 | non:gc K H .non (.type "NoneType")
 | bl (x:Bool):gc K H (.bl x) (.type "bool")
 | int (i:Int):gc K H (.int i) (.type "int")
 | str (x:Str):gc K H (.str x) (.type "str")
 | flt (x:UInt64):gc K H (.flt x) (.type "float")
 | lst {a:Addr} {xs:List V} (e:H a=some (.lst xs)):gc K H (.ref a) (.type "list")
 | frz {a:Addr} {o:Obj} {xs:List V} (e:H a=some (.frz o (.lst xs))):gc K H (.ref a) (.type "list")
 | tup {a:Addr} {xs:List V} (e:H a=some (.tup xs)):gc K H (.ref a) (.type "tuple")
 | dK {a:Addr} {kvs:List (Key×V)} (e:H a=some (.dK kvs)):gc K H (.ref a) (.type "dict")
 | dT {a:Addr} {kvs:List (List Key×V)} (e:H a=some (.dT kvs)):gc K H (.ref a) (.type "dict")
 | ins {a C dx:Addr} {fs:List (Str×V)} (e:H a=some (.ins C dx fs)) (cl:Cls K C) (ha:O7 K (.ref C) "__class__"=some (some (.builtin "object.__class__")))
   (hn:PySem.W.specialIn K (.builtin "object.__class__") "__get__"=some (some (.builtin "getset_descriptor.__get__"))) (htk:PySem.W.takesIn K (.builtin "object.__class__")=some true)
   (hm:PySem.W.mroIn K C (.type "object")=some true):gc K H (.ref a) (.ref C)
theorem FP {x:V} {u t:Value} (I:Inv X pins σ H s) (rx:aM x u) (ty:gc X.K H x t) (e:NR X.K t c=some b) (h:∀ tk,Q (.bool b) { s with toks:=tk }):
  wpAny (model X.prog X.w) A (call (.builtin "isinstance") [u,c]) Q E s:=by
 cases ty with
 | non=>cases (show u=Ol from rx); exact OJ PySem.W.kitx_none I.kIn PC e (fun z=>nomatch z) h
 | bl y=>cases (show u=N7 y from rx); exact OJ PySem.W.kitx_bool I.kIn PC e (fun z=>nomatch z) h
 | int i=>obtain ⟨t,q⟩:=(show ∃ t,u=P3 i t from rx); cases q; exact OJ PySem.W.kitx_int I.kIn PC e (fun z=>nomatch z) h
 | str y=>obtain ⟨t,q⟩:=(show ∃ t,u=S0 y t from rx); cases q; exact OJ PySem.W.kitx_str I.kIn PC e (fun z=>nomatch z) h
 | flt y=>obtain ⟨t,q⟩:=(show ∃ t,u=UW y t from rx); cases q; exact OJ PySem.W.kitx_float I.kIn PC e (fun z=>nomatch z) h
 | @lst a xs ea=>
  cases (show u=NA a from rx)
  obtain ⟨_,_,n,_,h1⟩:=(show bZ X.prog X.w H s.heap a (.lst xs) from I.hok a _ ea)
  exact OJ UH I.kIn ⟨_,h1,rfl⟩ e (fun z=>nomatch z) h
 | @frz a ob xs ea=>
  cases (show u=NA a from rx)
  obtain ⟨_,_,_,n,_,h1⟩:=(show bZ X.prog X.w H s.heap a (.frz ob (.lst xs)) from I.hok a _ ea)
  exact OJ UH I.kIn ⟨_,h1,rfl⟩ e (fun z=>nomatch z) h
 | @tup a xs ea=>
  cases (show u=NA a from rx)
  obtain ⟨_,_,_,p⟩:=(show bZ X.prog X.w H s.heap a (.tup xs) from I.hok a _ ea)
  obtain ⟨o,h1,h2,_⟩:=p
  exact OJ PySem.W.kitx_tuple I.kIn ⟨o,h1,h2⟩ e (fun z=>nomatch z) h
 | @dK a kvs ea=>
  cases (show u=NA a from rx)
  obtain ⟨_,_,vs,_,p⟩:=(show bZ X.prog X.w H s.heap a (.dK kvs) from I.hok a _ ea)
  obtain ⟨o,es,ep,h1,h2,_⟩:=p
  exact OJ UI I.kIn ⟨o,h1,h2.1⟩ e (fun z=>nomatch z) h
 | @dT a kvs ea=>
  cases (show u=NA a from rx)
  obtain ⟨_,_,xs,_,o,es,ep,h1,h2,_⟩:=(show bZ X.prog X.w H s.heap a (.dT kvs) from I.hok a _ ea)
  exact OJ UI I.kIn ⟨o,h1,h2.1⟩ e (fun z=>nomatch z) h
 | @ins a C dx fs ea cl ha hn htk hm=>
  cases (show u=NA a from rx)
  obtain ⟨mA,O,_⟩:=tF I.hok ea
  obtain ⟨od,J,_⟩:=O.look
  exact OJ (PySem.W.kitx_own (cl.get _) cl.hd ha hn htk hm) I.kIn J e (fun z=>nomatch z) h
end
end L2
namespace L2
open PySem PySem.Spec PyProof.Rows
structure cg (k:Nat) (A:Around):Prop where
 hd:A.handled=none
 dp:A.depth + 3 * k + 5 < recursionLimit
 un:A.units + 16 * k + 200 < cLine
theorem cg.mono {j k:Nat} {A:Around} (r:cg k A) (h:j<=k):cg j A:=⟨r.hd,by have:=r.dp; omega,by have:=r.un; omega⟩
theorem cg.deeper {k:Nat} {A:Around} (r:cg (k + 1) A) (env:Env):cg k (A.deeper env):=
 ⟨r.hd,by have:=r.dp; show A.depth + 1 + 3 * k + 5 < _; omega,by have:=r.un; show A.units + 3 + 16 * k + 200 < _; omega⟩
theorem D0 {A:Around} {C:Addr} {us:List Value} {kw:List (Str×Value)}:(A.under (.builtin "type.__call__" ⟨.ref C :: us,kw⟩)).depth=A.depth + 1:=by
 first | rfl | simp [Us,Code.weight,Code.isCreation,Code.isGuard,Code.isCaller,Code.frames,Ut,guardIds]
theorem Ea {A:Around} {C:Addr} {us:List Value} {kw:List (Str×Value)}:(A.under (.builtin "type.__call__" ⟨.ref C :: us,kw⟩)).units=A.units + 1:=by
 first | rfl | simp [Us,Code.cUnits,Code.frames,Ut]
theorem cg.make {k:Nat} {A:Around} (r:cg (k + 1) A) (C:Addr) (us:List Value) (kw:List (Str×Value)):cg k (A.under (.builtin "type.__call__" ⟨.ref C :: us,kw⟩)):=
 ⟨r.hd,by have:=r.dp; rw [D0]; omega,by have:=r.un; rw [Ea]; omega⟩
theorem cg.depth {k:Nat} {A:Around} (r:cg k A):A.depth < recursionLimit:=by have:=r.dp; omega
theorem cg.units0 {k:Nat} {A:Around} (r:cg k A):A.units < cLine:=by have:=r.un; omega
noncomputable def ag:TA:=fun _ H Q=>Q [] H
noncomputable def ac (ta:TE) (tr:TA):TA:=fun σ H Q=>ta σ H fun x H1=>tr σ H1 fun xs H2=>Q (x :: xs) H2
section
variable {X:Cx} {e:Expr} {es:List Expr} {te:TE} {t:TA} {pos:Pos}
theorem ae:PA X [] ag:=fun _ _ _ _ H Q I h=>Sf ⟨[],H,I,.nil,h⟩
theorem gG (ha:PE X e te) (hr:PA X es t) (hs:Nu (e :: es) X.env=(false,eval e X.env) :: Nu es X.env:=by rfl):PA X (e :: es) (ac te t):=by
 intro pos pins s σ H Q I h
 rw [hs]
 show wpAny _ _ (spliced ((false,eval e X.env) :: backTo pos (Nu es X.env))) _ _ s
 refine RL (thn (ha pins s σ H _ I h) fun u s1 ⟨x,H1,I1,r1,q1⟩=>?_)
 exact thn (hr pos pins s1 σ H1 _ I1 q1) fun us s2 ⟨xs,H2,I2,r2,q2⟩=>⟨x :: xs,H2,I2,.cons r1 r2,q2⟩
noncomputable def Eb (t:TA):TE:=fun σ H Q=>t σ H fun xs H1=>xs.length<=Nb/\∀ p,H1 p=none->Q (.ref p) (upd H1 p (.tup xs))
noncomputable def A7 (t:TA):TE:=fun σ H Q=>t σ H fun xs H1=>xs.length<=Nb/\∀ p,H1 p=none->Q (.ref p) (upd H1 p (.lst xs))
theorem FQ {x1} (h:PA X es t):PE X (.Tuple es x1 pos) (Eb t):=by
 intro pins s σ H Q I hq
 refine Ud (thn (h pos pins s σ H _ I hq) fun us s1 ⟨xs,H1,I1,r,z,q⟩=>⟨by rw [<-r.length]; exact z,?_⟩)
 have hf:H1 s1.heap.objs.size=none:=I1.hok.fresh (M1 _)
 refine ⟨.ref s1.heap.objs.size,upd H1 s1.heap.objs.size (.tup xs),I1.laid (t':=s1.toks) (fun b u e=>MW _ e) (M1 _) ?_,rfl,q _ hf⟩
 exact ⟨z,us,r,gn.new _ _⟩
theorem A8 (h:PA X es t):PE X (.List es pos) (A7 t):=by
 intro pins s σ H Q I hq
 refine Uu (thn (h pos pins s σ H _ I hq) fun us s1 ⟨xs,H1,I1,r,z,q⟩=>⟨by rw [<-r.length]; exact z,?_⟩)
 have hf:H1 s1.heap.objs.size=none:=I1.hok.fresh (M1 _)
 refine ⟨.ref s1.heap.objs.size,upd H1 s1.heap.objs.size (.lst xs),I1.laid (t':=s1.toks) (fun b u e=>MW _ e) (M1 _) ?_,rfl,q _ hf⟩
 exact ⟨z,us,0,r,Nc _ rfl⟩
end
noncomputable abbrev Sp:=List V->Hp->VK->XK->Prop
noncomputable abbrev CXT:=List Env->Hp->Shared->XK->Value->Shared->Prop
structure uZ (P:Program) (w:World) (K:Fg) (mg:Str->Option Value) (base:Heap) (A:Around) (outer:List Env) (s:Shared) (H:Hp):Prop where
 frames:A.frames=some outer
 mod:Mod K mg base
 bs:∀ b o,base.get? b=some o->s.heap.get? b=some o/\H b=none
 bsz:base.objs.size<=s.heap.objs.size
 funs:s.heap.FunFrames base outer
 frf:∀ b∈frs outer,H b=none
 hok:HOk P w H s.heap
 bare:AllBare s.gens
noncomputable def CE (outer:List Env) (P:Program) (w:World) (H:Hp) (s:Shared) (Q:VK) (u:Value) (s':Shared):Prop:=
 ∃ v H',s'.os=s.os/\AllBare s'.gens/\Un (frs outer) [] H H' s.heap s'.heap/\HOk P w H' s'.heap/\aM v u/\Q v H'
noncomputable def CR (CX:CXT) (outer:List Env) (P:Program) (w:World) (H:Hp) (s:Shared) (Q:VK) (E:XK) (r:Result) (s':Shared):Prop:=
 match r with
 | .ok (.ret u)=>CE outer P w H s Q u s'
 | .ok _=>False
 | .error e=>CX outer H s E e s'
structure iM (P:Program) (w:World) (K:Fg) (mg:Str->Option Value) (base:Heap) (CX:CXT) (k:Nat) (f:Addr) (fd:Nk) (ps:List Str) (sp:Sp):Prop where
 len:∀ vs H Q E,sp vs H Q E->vs.length=ps.length
 run:∀ (A:Around) (outer:List Env) (s:Shared) (H:Hp) (args:Args) (us:List Value) (vs:List V) (Q:VK) (E:XK),cg k A->uZ P w K mg base A outer s H->BindsTo s fd args (ps.zip us)->aK vs us->sp vs H Q E->
  codeAny (model P w) A (.call (.ref f) args) (CR CX outer P w H s Q E) s
theorem uZ.make {P:Program} {w:World} {K:Fg} {mg:Str->Option Value} {base:Heap} {A:Around} {outer:List Env} {s:Shared} {H:Hp} (e:uZ P w K mg base A outer s H) (C:Addr) (us:List Value) (kw:List (Str×Value)):
  uZ P w K mg base (A.under (.builtin "type.__call__" ⟨.ref C :: us,kw⟩)) outer s H:=⟨by first | exact e.frames | (simpa [Us,Code.envs,Ut,pushEnvs] using e.frames),e.mod,e.bs,e.bsz,e.funs,e.frf,e.hok,e.bare⟩
section
variable {X:Cx} {pins:List (Addr×Obj)} {σ:St} {H:Hp} {s s':Shared}
theorem Inv.env0 (I:Inv X pins σ H s):uZ X.prog X.w X.K X.mg X.base X.A X.stack s H:=
 ⟨I.ok.frames,I.ok.mod,I.bs,NH I.ok.bsz I.sz,I.stack,I.stkFree,I.hok,I.bare⟩
theorem Inv.after {Q:VK} {u:Value} (I:Inv X pins σ H s) (h:CE X.stack X.prog X.w H s Q u s'):EP X pins σ Q u s':=by
 obtain ⟨v,H',os,bare,un,hok,r,q⟩:=h
 obtain ⟨hh,g,d,t,os'⟩:=s'
 obtain rfl:os'=s.os:=os
 exact ⟨v,H',I.call (h':=hh) (g':=g) (d':=d) (t':=t) (ch:=[]) un hok bare (fun b z=>absurd z (by simp)),r,q⟩
end
noncomputable def av (sp:Sp) (dvs:List V) (E:XK) (t:TA):TE:=fun σ H Q=>t σ H fun vs H1=>sp (vs++dvs) H1 Q E
noncomputable def gd (C:Addr) (m:Str) (sp:Sp) (dvs:List V) (E:XK) (ta:TE) (t:TA):TE:=fun σ H Q=>ta σ H fun x H1=>∃ a dx fs,x=.ref a/\H1 a=some (.ins C dx fs)/\fs.lookup m=none/\
 t σ H1 fun vs H2=>sp (x :: (vs++dvs)) H2 Q E
noncomputable def AA (C:Addr) (sp:Sp) (dvs:List V) (E:XK) (t:TA):TE:=fun σ H Q=>t σ H fun vs H1=>∀ x dx,H1 x=none->H1 dx=none->dx≠x->
 sp (.ref x :: (vs++dvs)) (upd (upd H1 dx (.own x)) x (.ins C dx [])) (fun v H2=>v=.non/\Q (.ref x) H2) E
noncomputable def gf (K:Fg) (fd:Nk) (ps:List Str) (ds:List Value):Prop:=
 ∀ (s:Shared) (us:List Value),K.In s.heap->(us++ds).length=ps.length->BindsTo s fd ⟨us,[]⟩ (ps.zip (us++ds))
theorem gf.all {K:Fg} {fd:Nk} {ps:List Str} (h:∀ us:List Value,us.length=ps.length->bindArgs fd ⟨us,[]⟩=pure (ps.zip us)):gf K fd ps []:=fun s us _ hl=>by
 rw [OY] at hl ⊢
 exact .of_eq (h us hl)
noncomputable def mP (CX:CXT) (X:Cx) (E:XK):Prop:=∀ (pins:List (Addr×Obj)) (σ:St) (H:Hp) (s:Shared) (e:Value) (s':Shared),Inv X pins σ H s->CX X.stack H s E e s'->X.xe e s'
section
variable {X:Cx} {CX:CXT} {k:Nat} {f C:Addr} {fd:Nk} {ps:List Str} {sp:Sp} {dvs:List V} {ds:List Value} {E:XK} {x m:Str} {p pos apos:Pos} {e o:Expr} {es:List Expr} {ta:TE} {t:TA}
theorem A9 {pins:List (Addr×Obj)} {σ:St} {H:Hp} {s:Shared} {Q:VK} {us:List Value} {vs:List V} (F:iM X.prog X.w X.K X.mg X.base CX k f fd ps sp) (hr:cg k X.A) (hb:gf X.K fd ps ds) (hd:aK dvs ds) (hx:mP CX X E)
  (I:Inv X pins σ H s) (r:aK vs us) (h:sp (vs++dvs) H Q E):wpAny (model X.prog X.w) X.A (call (.ref f) us) (EP X pins σ Q) X.xe s:=by
 have r2:aK (vs++dvs) (us++ds):=r.append hd
 have hl:(us++ds).length=ps.length:=by rw [<-r2.length]; exact F.len _ _ _ _ h
 refine VC (Qt (F.run X.A X.stack s H ⟨us,[]⟩ (us++ds) (vs++dvs) Q E hr I.env0 (hb s us I.kIn hl) r2 h) fun r s' hq=>?_)
 cases r with
 | error e=>exact hx pins σ H s e s' I hq
 | ok fl=>
  cases fl with
  | ret u=>exact I.after hq
  | next=>exact Ph hq
  | brk=>exact Ph hq
  | cont=>exact Ph hq
theorem JS (F:iM X.prog X.w X.K X.mg X.base CX k f fd ps sp) (hr:cg k X.A) (hg:Gl X x) (hm:X.mg x=some (.ref f)) (hk:Qs X.K (.ref f)=true) (hb:gf X.K fd ps ds) (hd:aK dvs ds) (hx:mP CX X E)
  (ha:PA X (e :: es) t) (hdb:(x == ("__debug__":Str))=false:=by decide) (he:Nu (e :: es) X.env=(false,eval e X.env) :: Nu es X.env:=by rfl) (hpl:(backTo pos (Nu es X.env)).any (·.1)=false:=by rfl):
  PE X (.Call (.Name x p) (e :: es) [] pos) (av sp dvs E t):=by
 intro pins s σ H Q I h
 refine Pk (yf I hg hm ?_ hdb)
 refine RM (h₀:=X.base) I.ok.mod.kin hk (thn (ha pos pins s σ H _ I h) fun us s1 ⟨vs,H1,I1,r,q⟩=>⟨I1.kIn,?_⟩) he hpl
 exact A9 F hr hb hd hx I1 r q
theorem JT {pl:Sem Bool} (he:PE X o ta) (c:Cls X.K C) (hm:A6 X.K C m f) (F:iM X.prog X.w X.K X.mg X.base CX k f fd ps sp) (hr:cg k X.A) (hb:gf X.K fd ps ds) (hd:aK dvs ds) (hx:mP CX X E) (ha:PA X (e :: es) t)
  (hst:Nu (e :: es) X.env=(false,eval e X.env) :: Nu es X.env:=by rfl) (hpl:(backTo pos (Nu es X.env)).any (·.1)=false:=by rfl)
  (ht:eval (.Call (.Attribute o m apos) (e :: es) [] pos) X.env=(do
   let ov <-eval o X.env
   standAt apos.atName
   let (f,first) <-holding [ov] (RK ov m pl)
   Vh pos f first (backTo pos (Nu (e :: es) X.env)) (Q6 pos (Ql [] X.env))):=by rfl):
  PE X (.Call (.Attribute o m apos) (e :: es) [] pos) (gd C m sp dvs E ta t):=by
 intro pins s σ H Q I h
 refine Tp (pl:=pl) (thn (he pins s σ H _ I h) fun u s1 ⟨x,H1,I1,rx,a,dx,fs,ex,ea,l,q⟩=>?_) ht
 subst ex
 obtain rfl:u=NA a:=rx
 refine vX I1 ea c hm l ?_
 refine RM (first:=[.ref a]) (h₀:=X.base) I.ok.mod.kin hm.kp (thn (ha pos pins s1 σ H1 _ I1 q) fun us s2 ⟨vs,H2,I2,r,q2⟩=>⟨I2.kIn,?_⟩) hst hpl
 exact A9 (us:=.ref a :: us) (vs:=.ref a :: vs) F hr hb hd hx I2 (.cons rfl r) q2
theorem Ho {pl:Sem Bool} (he:PE X o ta) (c:Cls X.K C) (hm:A6 X.K C m f) (F:iM X.prog X.w X.K X.mg X.base CX k f fd ps sp) (hr:cg k X.A) (hb:gf X.K fd ps ds) (hd:aK dvs ds) (hx:mP CX X E)
  (ht:eval (.Call (.Attribute o m apos) [] [] pos) X.env=(do
   let ov <-eval o X.env
   standAt apos.atName
   let (f,first) <-holding [ov] (RK ov m pl)
   Vh pos f first (backTo pos (Nu [] X.env)) (Q6 pos (Ql [] X.env))):=by rfl):
  PE X (.Call (.Attribute o m apos) [] [] pos) (gd C m sp dvs E ta ag):=by
 intro pins s σ H Q I h
 refine Tp (pl:=pl) (thn (he pins s σ H _ I h) fun u s1 ⟨x,H1,I1,rx,a,dx,fs,ex,ea,l,q⟩=>?_) ht
 subst ex
 obtain rfl:u=NA a:=rx
 refine vX I1 ea c hm l ?_
 exact PySem.W.callWith_K0 (first:=[.ref a]) I1.kIn hm.kp (A9 (us:=[.ref a]) (vs:=[.ref a]) F hr hb hd hx I1 (.cons rfl .nil) q)
structure Mk (K:Fg) (C f:Addr):Prop where
 makes:VB K C=true
 init:O7 K (.ref C) "__init__"=some (some (.ref f))
 fn:Ur K (.ref f)=true
 kp:Qs K (.ref C)=true
theorem Hq {pins:List (Addr×Obj)} {σ:St} {H:Hp} {s:Shared} {Q:VK} {us:List Value} {vs:List V} (M:Mk X.K C f) (F:iM X.prog X.w X.K X.mg X.base CX k f fd ps sp) (hr:cg (k + 1) X.A) (hb:gf X.K fd ps ds) (hd:aK dvs ds)
  (hx:mP CX X E) (I:Inv X pins σ H s) (r:aK vs us)
  (h:∀ x dx,H x=none->H dx=none->dx≠x->sp (.ref x :: (vs++dvs)) (upd (upd H dx (.own x)) x (.ins C dx [])) (fun v H2=>v=.non/\Q (.ref x) H2) E):
  wpAny (model X.prog X.w) X.A (call (.ref C) us) (EP X pins σ Q) X.xe s:=by
 have hq:=h (s.heap.objs.size + 1) s.heap.objs.size (I.hok.fresh (Pf _)) (I.hok.fresh (M1 _)) (NF (OA _))
 have I2:=Inv.made (C:=C) I
 have r2:aK (V.ref (s.heap.objs.size + 1) :: (vs++dvs)) (NA (s.heap.objs.size + 1) :: (us++ds)):=.cons rfl (r.append hd)
 have hl:(NA (s.heap.objs.size + 1) :: us++ds).length=ps.length:=by
  have e:=r2.length
  rw [F.len _ _ _ _ hq] at e
  exact e.symm
 refine VC (Hn (f:=f) I.kIn M.makes M.init (beq_iff_eq.mp M.fn) (Qt (F.run _ X.stack _ _ ⟨NA (s.heap.objs.size + 1) :: us,[]⟩ (NA (s.heap.objs.size + 1) :: (us++ds)) _ _ E (hr.make C us [])
  (I2.env0.make C us []) (hb _ (NA (s.heap.objs.size + 1) :: us) I2.kIn hl) r2 hq) fun r s' hq'=>?_))
 cases r with
 | error e=>exact hx pins σ _ _ e s' I2 hq'
 | ok fl=>
  cases fl with
  | ret u=>
   obtain ⟨v,H',I3,rv,ev,q3⟩:=I2.after hq'
   subst ev
   exact ⟨rv,⟨V.ref (s.heap.objs.size + 1),H',I3,rfl,q3⟩⟩
  | next=>exact Ph hq'
  | brk=>exact Ph hq'
  | cont=>exact Ph hq'
theorem JU (M:Mk X.K C f) (F:iM X.prog X.w X.K X.mg X.base CX k f fd ps sp) (hr:cg (k + 1) X.A) (hg:Gl X x) (hm:X.mg x=some (.ref C)) (hb:gf X.K fd ps ds) (hd:aK dvs ds) (hx:mP CX X E)
  (ha:PA X (e :: es) t) (hdb:(x == ("__debug__":Str))=false:=by decide) (he:Nu (e :: es) X.env=(false,eval e X.env) :: Nu es X.env:=by rfl) (hpl:(backTo pos (Nu es X.env)).any (·.1)=false:=by rfl):
  PE X (.Call (.Name x p) (e :: es) [] pos) (AA C sp dvs E t):=by
 intro pins s σ H Q I h
 refine Pk (yf I hg hm ?_ hdb)
 refine RM (h₀:=X.base) I.ok.mod.kin M.kp (thn (ha pos pins s σ H _ I h) fun us s1 ⟨vs,H1,I1,r,q⟩=>⟨I1.kIn,?_⟩) he hpl
 exact Hq M F hr hb hd hx I1 r q
end
section
variable {X:Cx} {CX:CXT} {k:Nat} {f C:Addr} {fd:Nk} {ps ks:List Str} {sp:Sp} {E:XK} {x m:Str} {p pos apos kpos:Pos} {e o:Expr} {es:List Expr} {kws:List Keyword} {te ta:TE} {t tk:TA} {nm:Option Str}
variable {g:List Value->List Value->List Value} {gV:List V->List V->List V}
end
structure aA (N P:List Str) (sc:Scope):Prop where
 kind:sc.kind=.function
 co:sc.isCoroutine=false
 gen:sc.isGenerator=false
 nd:N.Nodup
 pre:N.take P.length=P
 par:∀ x∈P,sc.names.lookup x=some .local\/sc.names.lookup x=some .cell
 nofree:∀ y∈sc.names,y.2≠.free
theorem ze {kindOf:Str->Option NS} {x:Str}:∀ {binds:List (Str×Value)} {m:Str->Option Value},(∀ v,(x,v)∉binds)->bindL kindOf binds m x=m x
 | [],_,_=>rfl
 | (n,v) :: r,m,h=>by
  unfold bindL
  rw [ze fun w hw=>h w (Nh _ hw)]
  split
  ·have:x≠n:=by rintro rfl; exact h v M7
   simp [this]
  ·rfl
theorem zf {kindOf:Str->Option NS} {x:Str}:∀ {binds:List (Str×Value)} {m:Str->Option Value},(∀ v,(x,v)∉binds)->bindC kindOf binds m x=m x
 | [],_,_=>rfl
 | (n,v) :: r,m,h=>by
  unfold bindC
  rw [zf fun w hw=>h w (Nh _ hw)]
  split
  ·rfl
  ·have:x≠n:=by rintro rfl; exact h v M7
   simp [this]
theorem zg {kindOf:Str->Option NS} {x:Str} {v:Value}:∀ {P:List Str} {vs:List Value} {i:Nat} {m:Str->Option Value},P.Nodup->P[i]?=some x->vs[i]?=some v->kindOf x=some .local->
  bindL kindOf (P.zip vs) m x=some v
 | [],_,_,_,_,h,_,_=>by simp at h
 | _ :: _,[],_,_,_,_,h,_=>by simp at h
 | p :: P,w :: vs,0,m,nd,h1,h2,hk=>by
  simp at h1 h2; subst h1; subst h2
  show bindL kindOf ((p,w) :: P.zip vs) m p=_
  unfold bindL
  rw [ze fun v hv=>(PM.mp nd).1 (S4 hv).1,if_pos hk]
  simp
 | p :: P,w :: vs,i + 1,m,nd,h1,h2,hk=>by
  show bindL kindOf ((p,w) :: P.zip vs) m x=_
  unfold bindL
  exact zg (i:=i) (PM.mp nd).2 (by simpa using h1) (by simpa using h2) hk
theorem zh {kindOf:Str->Option NS} {x:Str} {v:Value}:∀ {P:List Str} {vs:List Value} {i:Nat} {m:Str->Option Value},P.Nodup->P[i]?=some x->vs[i]?=some v->kindOf x≠some .local->
  bindC kindOf (P.zip vs) m x=some v
 | [],_,_,_,_,h,_,_=>by simp at h
 | _ :: _,[],_,_,_,_,h,_=>by simp at h
 | p :: P,w :: vs,0,m,nd,h1,h2,hk=>by
  simp at h1 h2; subst h1; subst h2
  show bindC kindOf ((p,w) :: P.zip vs) m p=_
  unfold bindC
  rw [zf fun v hv=>(PM.mp nd).1 (S4 hv).1,if_neg hk]
  simp
 | p :: P,w :: vs,i + 1,m,nd,h1,h2,hk=>by
  show bindC kindOf ((p,w) :: P.zip vs) m x=_
  unfold bindC
  exact zh (i:=i) (PM.mp nd).2 (by simpa using h1) (by simpa using h2) hk
noncomputable def start (N:List Str) (vs:List V):St:=vs.map some++NN (N.length - vs.length) none
noncomputable def pR (CX:CXT) (P:Program) (w:World) (K:Fg) (mg:Str->Option Value) (base:Heap) (N:List Str) (qual:Str) (scope:Scope) (f:Addr) (cd:Value) (A:Around) (outer:List Env) (s:Shared) (H:Hp) (E:XK):Cx where
 prog:=P
 w:=w
 K:=K
 mg:=mg
 base:=base
 A:=A.deeper (envOfC qual scope s.heap.objs.size f cd)
 N:=N
 s₀:=s
 H₀:=H
 env:=envOfC qual scope s.heap.objs.size f cd
 outer:=outer
 stack:=envOfC qual scope s.heap.objs.size f cd :: outer
 ex:=[]
 calm:=true
 fn:=fun _=>true
 pn:=[]
 xe:=fun e s'=>wpAny (model P w) (A.deeper (envOfC qual scope s.heap.objs.size f cd)) («leaving» (envOfC qual scope s.heap.objs.size f cd) e) (fun _ s''=>CX outer H s E e s'') (fun e' s''=>CX outer H s E e' s'') s'
theorem Ba {sc:Scope} {n:Nat} {x:Str} (h:sc.names.lookup x=some .cell):∃ c,(VZ n sc.names []).lookup x=some c:=by
 have q:=Td sc.names n [] (.inl h)
 exact Sx.mp q
theorem FR {CX:CXT} {P:Program} {w:World} {K:Fg} {mg:Str->Option Value} {base:Heap} {N ps:List Str} {qual:Str} {scope:Scope} {f:Addr} {cd:Value} {A:Around} {outer:List Env} {s s1:Shared} {H:Hp} {E:XK} {us:List Value} {vs:List V}
  (S:aA N ps scope) (hd:A.handled=none) (e0:uZ P w K mg base A outer s H) (hl:vs.length=ps.length) (r:aK vs us)
  (x:InCallC s s.heap.objs.size (bindL (envOfC qual scope s.heap.objs.size f cd).kindOf (ps.zip us) fun _=>none) (VZ (s.heap.objs.size + 1) scope.names []) (bindC (envOfC qual scope s.heap.objs.size f cd).kindOf (ps.zip us) fun _=>none) s1):
  Inv (pR CX P w K mg base N qual scope f cd A outer s H E) [] (start N vs) H s1:=by
 have hpl:ps.length<=N.length:=by have:=congrArg List.length S.pre; rw [OM] at this; omega
 obtain ⟨h1,tk,rfl,hk⟩:=x.done
 have noA:∀ b:Addr,b∉(pR CX P w K mg base N qual scope f cd A outer s H E).ex:=fun b z=>absurd (show b∈([]:List Addr) from z) (by simp)
 refine ⟨⟨e0.mod,S.kind,rfl,rfl,M1 _,fun y z c h1 h2=>?_,fun y hy=>?_,fun y c _ h=>?_,fun _=>hd,Around.frames_deeper e0.frames,.inr ⟨rfl,rfl⟩,fun b z=>absurd z (noA b),e0.bs,e0.bsz,fun b _ _=>noA b,fun b z=>absurd z (noA b),e0.funs,e0.frf⟩,
  rfl,e0.bare,Un.kept hk,⟨_,x.toInCall.ns,fun i y v h1 h2 h3=>?_⟩,fun y c h=>⟨_,x.cell y c h⟩,e0.hok.fresh (M1 _),fun y c h=>?_,fun p hp=>absurd (show p∈([]:List (Addr×Obj)) from hp) (by simp),e0.hok.kept hk,?_⟩
 ·exact name_of_addr x.apart (Of h1) (Of h2)
 ·have hy:scope.names.lookup y=some .cell\/scope.names.lookup y=some .free:=hy
  rcases hy with hy | hy
  ·exact Ba hy
  ·exact absurd rfl (S.nofree _ (Of hy))
 ·exact N4 (x.above y c (Of h))
 ·have hi:i < vs.length:=by
   unfold start at h2
   by_cases hi:i < vs.length
   ·exact hi
   ·rw [RZ (by simpa using hi)] at h2
    rw [List.getElem?_replicate] at h2
    split at h2 <;> cases h2
  have ha:vs[i]?=some v:=by
   unfold start at h2
   rw [QF (by simpa using hi),Ng] at h2
   cases e:vs[i]? with
   | none=>rw [e] at h2; cases h2
   | some a=>rw [e] at h2; cases h2; rfl
  obtain ⟨u,hu,rv⟩:=r.get ha
  have hp:ps[i]?=some y:=by
   rw [<-S.pre,Sz (by omega)]; exact h1
  have ndP:ps.Nodup:=by rw [<-S.pre]; exact S.nd.sublist (List.take_sublist _ _)
  refine ⟨u,rv,?_⟩
  rcases S.par y (M9 hp) with k | k
  ·exact .inl ⟨k,zg ndP hp hu k⟩
  ·obtain ⟨c,e⟩:=Ba (n:=s.heap.objs.size + 1) k
   refine .inr ⟨.inl k,c,e,?_⟩
   have q:=x.cell y c e
   rw [zh ndP hp hu (by show scope.names.lookup y≠_; rw [k]; decide)] at q
   exact q
 ·exact e0.hok.fresh (N4 (x.above y c (Of h)))
 ·unfold start
  show _=N.length
  rw [Nq,MY,List.length_replicate]
  omega
theorem L9 {CX:CXT} {P:Program} {w:World} {K:Fg} {mg:Str->Option Value} {base:Heap} {k:Nat} {f:Addr} {name qual:Str} {params:Arguments} {body:List Stmt} {scope:Scope} {dV kV doc pm cdv ct oc:Value} {an od:Option Addr}
  {osl:Array (Option Value)} {N ps:List Str} {sp:Sp} (lk:K.lookup f=some ⟨oc,od,.func (QK name qual params body scope dV kV doc pm an cdv ct),osl⟩) (hcd:Tq K cdv qual=true) (S:aA N ps scope)
  (len:∀ vs H Q E,sp vs H Q E->vs.length=ps.length)
  (hbody:∀ (A:Around) (outer:List Env) (s:Shared) (H:Hp) (vs:List V) (Q:VK) (E:XK),cg k (A.deeper (envOfC qual scope s.heap.objs.size f cdv))->sp vs H Q E->
   ∃ t,PSs (pR CX P w K mg base N qual scope f cdv A outer s H E) body t/\t { nx:=fun _ H'=>Q .non H',rt:=Q } (start N vs) H):
  iM P w K mg base CX (k + 1) f (QK name qual params body scope dV kV doc pm an cdv ct) ps sp:=by
 refine ⟨len,fun A outer s H args us vs Q E hr e0 hb r hsp=>?_⟩
 have hl:=len _ _ _ _ hsp
 have KX:K.In s.heap:=e0.mod.kin.keeps fun b o e=>(e0.bs b o e).1
 have lim:s.heap.NoLimit:=e0.mod.nolimit.keeps fun b o e=>(e0.bs b o e).1
 have hkind:∀ y∈ps.zip us,scope.names.lookup y.1=some .local\/(scope.names.lookup y.1=some .cell/\((VZ (s.heap.objs.size + 1) scope.names []).lookup y.1).isSome=true):=fun ⟨n,v⟩ hy=>by
  rcases S.par n (S4 hy).1 with q | q
  ·exact .inl q
  ·exact .inr ⟨q,Td _ _ _ (.inl q)⟩
 refine codeAny_call_function hr.depth (KX _ _ lk) rfl S.co S.gen rfl (PySem.W.codeRec_of KX hcd) (hb _ _ _ _ ?_)
 refine wpAny_newFunctionEnv_cells S.kind hkind fun env he s1 x=>?_
 subst he
 refine ⟨lim.keeps x.toInCall.keep,codeAny_func ?_⟩
 obtain ⟨t,ht,hq⟩:=hbody A outer s H vs Q E (hr.deeper _) hsp
 have I:Inv (pR CX P w K mg base N qual scope f cdv A outer s H E) [] (start N vs) H s1:=FR S hr.hd e0 hl r x
 refine OX (ht [] s1 (start N vs) H _ I hq) (fun fl s' hs=>?_) fun e s' hs=>hs
 have fin:∀ {σ':St} {H':Hp} {v:V} {u:Value},Inv (pR CX P w K mg base N qual scope f cdv A outer s H E) [] σ' H' s'->aM v u->Q v H'->CE outer P w H s Q u s':=
  fun {σ' H' v u} J rv q=>⟨v,H',J.os,J.bare,J.base,J.hok,rv,q⟩
 cases fl with
 | ret u=>
  obtain ⟨v,σ',H',J,rv,q⟩:=hs
  exact fin J rv q
 | next=>
  obtain ⟨σ',H',J,q⟩:=hs
  exact fin (v:=V.non) (u:=Ol) J rfl q
 | brk=>
  obtain ⟨_,_,_,q⟩:=hs
  exact Ph q
 | cont=>
  obtain ⟨_,_,_,q⟩:=hs
  exact Ph q
end L2
namespace L2
open PySem PySem.Spec PyProof.Rows
section
variable {X:Cx} {x:Str} {p pos:Pos} {e:Expr} {es:List Expr} {t:TA} {id T:String} {r:List V->Hp->VK->Prop}
noncomputable def tCB (r:List V->Hp->VK->Prop) (t:TA):TE:=fun σ H Q=>t σ H fun vs H1=>r vs H1 Q
theorem aG (hc:dS X (.builtin id) r) (hg:Gl X x) (hm:X.mg x=none) (hv:QJ x=some (.builtin id)) (ha:PA X (e :: es) t) (hn:x≠"__name__":=by decide) (hdb:(x == ("__debug__":Str))=false:=by decide)
  (he:Nu (e :: es) X.env=(false,eval e X.env) :: Nu es X.env:=by rfl) (hpl:(backTo pos (Nu es X.env)).any (·.1)=false:=by rfl):PE X (.Call (.Name x p) (e :: es) [] pos) (tCB r t):=by
 intro pins s σ H Q I h
 refine Pk (iR I hg hm hv ?_ hn hdb)
 exact Rj (thn (ha pos pins s σ H _ I h) fun us s1 ⟨vs,H1,I1,r1,q1⟩=>hc pins s1 σ H1 vs us Q I1 r1 q1) he hpl
theorem cO (hc:dS X (.type T) r) (hg:Gl X x) (hm:X.mg x=none) (hv:QJ x=some (.type T)) (ha:PA X (e :: es) t) (hn:x≠"__name__":=by decide) (hdb:(x == ("__debug__":Str))=false:=by decide)
  (he:Nu (e :: es) X.env=(false,eval e X.env) :: Nu es X.env:=by rfl) (hpl:(backTo pos (Nu es X.env)).any (·.1)=false:=by rfl):PE X (.Call (.Name x p) (e :: es) [] pos) (tCB r t):=by
 intro pins s σ H Q I h
 refine Pk (iR I hg hm hv ?_ hn hdb)
 exact Oq (thn (ha pos pins s σ H _ I h) fun us s1 ⟨vs,H1,I1,r1,q1⟩=>hc pins s1 σ H1 vs us Q I1 r1 q1) he hpl
end
end L2
namespace HT
open PySem PyProof.Rows
section
open PySem.SeqAt
open PySem.AutoSeq1 (wpAny_loadPart')
open PySem.MeetsSeq PySem.MeetsSeq2 PySem.MeetsSeq3
end
section
variable {prog:Program} {w:World} {A:Around} {E:Value->Shared->Prop} {s:Shared}
theorem JV {t b:Addr} {vs ws:List Value} {Q:Value->Shared->Prop} (ht:IsTup s.heap t vs.toArray) (hb:IsTup s.heap b ws.toArray) (hv:vs≠[])
  (h1:ws=[]->Q (.ref t) s) (h2:ws≠[]->Q (.ref s.heap.objs.size) { s with heap:=s.heap.push { cls:=.type "tuple",data:=.seq (vs++ws).toArray } })
  (hsz:vs.length + ws.length<=Nb):wpAny (model prog w) A (PU .Add (.ref t) (.ref b)) Q E s:=by
 obtain ⟨⟨cls,dd,data,sl⟩,ho,hc,n,hd⟩:=id ht
 obtain ⟨⟨cls2,dd2,data2,sl2⟩,ho2,hc2,n2,hd2⟩:=id hb
 simp only at hc hd hc2 hd2
 subst hc hd hc2 hd2
 have e:vs.toArray++ws.toArray=(vs++ws).toArray:=by simp
 by_cases hw:ws=[]
 ·exact Uv ⟨_,ho,rfl⟩ ⟨_,ho2,rfl⟩ SB T7 Q0 QT (QL _ _)
   (tuple_addW1 t b vs.toArray ws.toArray n n2 dd dd2 sl sl2 (by simpa using hv) (by simp [hw])) ⟨ho,ho2,h1 hw⟩
 ·refine Uv ⟨_,ho,rfl⟩ ⟨_,ho2,rfl⟩ SB T7 Q0 QT (QL _ _)
   (tuple_addW2 t b vs.toArray ws.toArray n n2 dd dd2 sl sl2 (by simpa using hv) (by simpa using hw) (by rw [Nj,Nj]; exact hsz)) ⟨ho,ho2,?_⟩
  rw [e]
  exact h2 hw
noncomputable def sIx (n d:Nat):Option Int->Nat
 | none=>d
 | some v=>if v < 0 then (v + (n:Int)).toNat else min v.toNat n
theorem K3 (n d:Nat) (hd:d<=n) (o:Option Int):sIx n d o<=n:=by
 cases o with
 | none=>exact hd
 | some v=>
  show (if v < 0 then (v + (n:Int)).toNat else min v.toNat n)<=n
  by_cases hv:v < 0
  ·rw [if_pos hv]; omega
  ·rw [if_neg hv]; exact Nat.min_le_right _ _
theorem Dh (v:Int) (n d:Nat):(if v < 0 then max (v + (n:Int)) 0 else min v (n:Int))=((sIx n d (some v):Nat):Int):=by
 show (if v < 0 then max (v + (n:Int)) 0 else min v (n:Int))=(((if v < 0 then (v + (n:Int)).toNat else min v.toNat n):Nat):Int)
 by_cases hv:v < 0
 ·simp only [if_pos hv]; omega
 ·simp only [if_neg hv]; omega
theorem Ec (lo hi:Option Int) (n:Nat):QG lo hi 1 (n:Int)=(((sIx n 0 lo:Nat):Int),((sIx n n hi:Nat):Int)):=by
 have h1:¬ ((1:Int) < 0):=by omega
 unfold QG
 simp only [h1,if_false]
 refine Prod.ext ?_ ?_
 ·cases lo with
  | none=>rfl
  | some v=>exact Dh v n 0
 ·cases hi with
  | none=>rfl
  | some v=>exact Dh v n n
theorem Ed (i j:Nat):PZ (i:Int) (j:Int) 1=j - i:=by
 unfold PZ
 have h1:(1:Int) > 0:=by omega
 simp only [h1,if_true,Int.ediv_one]
 split <;> omega
theorem vY {v:Value} {o:Option Int} {Q:Option Int->Shared->Prop} (p:IsPart v o) (h:Q o s):wpAny (model prog w) A (Builtin.Slice.slicePartIndex v) Q E s:=by
 cases p with
 | none=>exact slicePart_none h
 | int i t=>exact slicePart_int h
theorem va {sl:Addr} {vl vu:Value} {lo hi:Option Int} {n:Nat} {Q:Int×Int×Nat->Shared->Prop} (hs:s.heap.IsSliceOf sl vl vu .none) (pl:IsPart vl lo) (pu:IsPart vu hi)
  (h:Q (((sIx n 0 lo:Nat):Int),1,sIx n n hi - sIx n 0 lo) s):wpAny (model prog w) A (R3 (.ref sl) (pure (n:Int))) Q E s:=by
 obtain ⟨os,hos,hcs,hds⟩:=id hs
 unfold R3 Builtin.Slice.sliceFields
 refine MV (MV (N6 hos hds (x:=vl) rfl (MV (N6 hos hds (x:=vu) rfl (MV (N6 hos hds (x:=.none) rfl (MX ?_)))))))
 refine MV (slicePart_none ?_)
 show wpAny _ _ (if ((1:Int) == 0)=true then _ else _) _ _ s
 rw [if_neg (by decide)]
 refine MV (vY pl (MV (vY pu (MV (MX ?_)))))
 show wpAny _ _ (match QG lo hi 1 (n:Int) with | (lo,hi)=>pure (lo,(1:Int),PZ lo hi 1)) _ _ s
 rw [Ec lo hi n]
 show wpAny _ _ (pure (((sIx n 0 lo:Nat):Int),(1:Int),PZ ((sIx n 0 lo:Nat):Int) ((sIx n n hi:Nat):Int) 1)) _ _ s
 rw [Ed]
 exact MX h
theorem Hr (xs:Array Value) (i k:Nat):((Nw k).filterMap fun (m:Nat)=>xs[((i:Int) + (m:Int) * 1).toNat]?).toArray=((xs.toList.drop i).take k).toArray:=by
 have e:(fun (m:Nat)=>xs[((i:Int) + (m:Int) * 1).toNat]?)=fun m=>xs[i + m]?:=by
  funext m
  have:((i:Int) + (m:Int) * 1).toNat=i + m:=by omega
  rw [this]
 rw [e]
 have:=pick_run xs i k
 rw [List.filterMap_map] at this
 have e2:((fun x=>xs[x]?) ∘ fun x=>i + x)=fun m=>xs[i + m]?:=rfl
 rw [e2] at this
 rw [this]
theorem uv {t sl:Addr} {items:Array Value} {vl vu:Value} {lo hi:Option Int} {Q:Value->Shared->Prop} (ht:IsTup s.heap t items) (hs:s.heap.IsSliceOf sl vl vu .none) (pl:IsPart vl lo) (pu:IsPart vu hi)
  (hw:¬ (sIx items.size 0 lo=0/\sIx items.size items.size hi=items.size))
  (h:Q (.ref s.heap.objs.size) { s with heap:=s.heap.push { cls:=.type "tuple",data:=.seq ((items.toList.drop (sIx items.size 0 lo)).take (sIx items.size items.size hi - sIx items.size 0 lo)).toArray } })
  (hsz:items.size<=Nb):wpAny (model prog w) A (getItem (.ref t) (.ref sl)) Q E s:=by
 have htake:sizeOk (.seq ((items.toList.drop (sIx items.size 0 lo)).take (sIx items.size items.size hi - sIx items.size 0 lo)).toArray):=by
  show ((items.toList.drop (sIx items.size 0 lo)).take (sIx items.size items.size hi - sIx items.size 0 lo)).toArray.size<=Nb
  rw [Nj,OM,Vi,NK]
  omega
 have hj:sIx items.size items.size hi<=items.size:=K3 _ _ (M1 _) hi
 obtain ⟨os,hos,hcs,hds⟩:=id hs
 have hTs:s.TypeIs (.ref sl) "slice":=⟨os,hos,hcs⟩
 unfold getItem
 try with_reducible refine Og ?_
 first | refine MV (MX ?_) | skip
 refine MV (wpAny_sequenceKey ht.typeIs (by decide) ?_)
 refine MV (NY (name:=O1 "__getitem__") ht.typeIs Qb
  (NP Qb ht.typeIs entry_tuple_getitem ?_ (args_tuple_getitem _ _)))
 show wpAny _ _ (R5 (.ref t) >>= _) _ _ s
 refine MV (tupleItemsOf_ ht ?_)
 refine MV (SC hTs ?_)
 rw [if_pos (by decide)]
 refine MV (va hs pl pu ?_)
 have hno:¬ ((((sIx items.size 0 lo:Nat):Int) == 0 && (1:Int) == 1 && (sIx items.size items.size hi - sIx items.size 0 lo) == items.size)=true):=by
  intro q
  rw [ON,ON] at q
  have q1:((sIx items.size 0 lo:Nat):Int)=0:=eq_of_beq q.1.1
  have q2:sIx items.size items.size hi - sIx items.size 0 lo=items.size:=eq_of_beq q.2
  exact hw ⟨by omega,by omega⟩
 show wpAny _ _ (if (((sIx items.size 0 lo:Nat):Int) == 0 && (1:Int) == 1 && (sIx items.size items.size hi - sIx items.size 0 lo) == items.size)=true then _ else _) _ _ s
 rw [if_neg hno,Hr]
 first
  | exact MV (m:=P6 _) (Oa (MX ⟨_,rfl,MX h⟩) htake)
  | exact MV (m:=P6 _) (Oa (MV (MX (MX ⟨_,rfl,MX h⟩))) htake)
  | exact MV (MV (m:=P6 _) (Oa (MX (MX ⟨_,rfl,MX h⟩)) htake))
  | exact MV (MV (m:=P6 _) (Oa (MX ⟨_,rfl,MX h⟩) htake))
end
end HT
namespace L2
open PySem PySem.Spec PyProof.Rows
noncomputable abbrev TO:=St->Hp->(Option Int->Hp->Prop)->Prop
noncomputable def PO (X:Cx) (e:Option Expr) (t:TO):Prop:=
 ∀ (pins:List (Addr×Obj)) (s:Shared) (σ:St) (H:Hp) (Q:Option Int->Hp->Prop),Inv X pins σ H s->t σ H Q->
  wpAny (model X.prog X.w) X.A (evalPart e X.env) (fun u s'=>∃ o H',Inv X pins σ H' s'/\IsPart u o/\Q o H') X.xe s
noncomputable def oS:TO:=fun _ H Q=>Q none H
noncomputable def vZ (t:TE):TO:=fun σ H Q=>t σ H fun x H1=>∃ i,x=.int i/\Q (some i) H1
theorem pT {ns:List Int}:∀ {us:List Value},aK (ns.map V.int) us->IntsAre us ns:=by
 induction ns with
 | nil=>intro us r; rw [Qu] at r; cases r; exact .nil
 | cons n ns ih=>
  intro us r
  rw [Np] at r
  cases r with
  | cons r1 r2=>
   obtain ⟨t,e⟩:=r1
   subst e
   exact .cons n t (ih r2)
section
variable {X:Cx} {e:Expr} {te:TE} {lo hi:Option Expr} {tl th:TO} {pos p2:Pos}
theorem yh:PO X none oS:=by
 intro pins s σ H Q I h
 rw [evalPart_none]
 exact MX ⟨none,H,I,.none,h⟩
theorem yi (h:PE X e te):PO X (some e) (vZ te):=by
 intro pins s σ H Q I hw
 rw [evalPart_some]
 refine thn (h pins s σ H _ I hw) fun u s1 ⟨x,H1,I1,r1,q1⟩=>?_
 obtain ⟨i,rfl,q⟩:=q1
 obtain ⟨t,rfl⟩:=r1
 exact ⟨some i,H1,I1,.int i t,q⟩
noncomputable def SlR (X:Cx) (r:V->Option Int->Option Int->Hp->VK->Prop):Prop:=
 ∀ (pins:List (Addr×Obj)) (s:Shared) (σ:St) (H:Hp) (x:V) (v vl vu:Value) (lo hi:Option Int) (sl:Addr) (Q:VK),Inv X pins σ H s->aM x v->s.heap.IsSliceOf sl vl vu .none->IsPart vl lo->IsPart vu hi->r x lo hi H Q->
  ∃ T id,TK (.type T) "__getitem__"=pure (some (.builtin id))/\s.TypeIs v T/\wpAny (model X.prog X.w) X.A (getItem v (.ref sl)) (EP X pins σ Q) X.xe s
noncomputable def tSl (r:V->Option Int->Option Int->Hp->VK->Prop) (te:TE) (tl th:TO):TE:=fun σ H Q=>te σ H fun x H1=>tl σ H1 fun l H2=>th σ H2 fun u H3=>r x l u H3 Q
theorem vb {r:V->Option Int->Option Int->Hp->VK->Prop} (hr:SlR X r) (he:PE X e te) (hl:PO X lo tl) (hu:PO X hi th):PE X (.Subscript e (.Slice lo hi none p2) pos) (tSl r te tl th):=by
 intro pins s σ H Q I h
 refine VD (thn (he pins s σ H _ I h) fun v s1 ⟨x,H1,I1,r1,q1⟩=>?_)
 refine wpAny_Slice (thn (hl pins s1 σ H1 _ I1 q1) fun vl s2 ⟨l,H2,I2,pl,q2⟩=>thn (hu pins s2 σ H2 _ I2 q2) fun vu s3 ⟨u,H3,I3,pu,q3⟩=>?_)
 rw [evalPart_none]
 refine MX ?_
 have I4:Inv X pins σ H3 { s3 with heap:=s3.heap.push { cls:=.type "slice",data:=.fields #[vl,vu,.none] } }:=I3.kept (t':=s3.toks) fun b ob q=>MW _ q
 obtain ⟨T,id,hT,ht,hg⟩:=hr pins { s3 with heap:=s3.heap.push { cls:=.type "slice",data:=.fields #[vl,vu,.none] } } σ H3 x v vl vu l u s3.heap.objs.size Q I4 r1 (Heap.IsSliceOf.new ..) pl pu q3
 show wpAny (model X.prog X.w) X.A (T8 e (.Slice lo hi none p2) v (.ref s3.heap.objs.size)) (EP X pins σ Q) X.xe { s3 with heap:=s3.heap.push { cls:=.type "slice",data:=.fields #[vl,vu,.none] } }
 exact tail_any (ops:=[.ref s3.heap.objs.size,v]) ht hT hg (by with_unfolding_all rfl)
noncomputable def rF (xs:List V) (lo hi:Option Int):List V:=(xs.drop (HT.sIx xs.length 0 lo)).take (HT.sIx xs.length xs.length hi - HT.sIx xs.length 0 lo)
theorem CI (xs:List V) (lo hi:Option Int):(rF xs lo hi).length<=xs.length:=by
 unfold rF
 rw [OM,Vi]
 omega
noncomputable def MG (K:Fg):V->Option Int->Option Int->Hp->VK->Prop:=fun x lo hi H Q=>∃ a xs,x=.ref a/\SqT K H a xs/\
 ¬ (HT.sIx xs.length 0 lo=0/\HT.sIx xs.length xs.length hi=xs.length)/\∀ p,H p=none->Q (.ref p) (upd H p (.tup (rF xs lo hi)))
theorem K4:SlR X (MG X.K):=by
 intro pins s σ H x v vl vu lo hi sl Q I rx hs pl pu h
 obtain ⟨a,xs,rfl,hx,hw,q⟩:=h
 cases rx
 obtain ⟨its,r,ht,hz⟩:=I.tuple hx
 have hlen:its.toArray.size=xs.length:=by rw [Nj]; exact r.length.symm
 refine ⟨"tuple",_,Qb.lookup,ht.typeIs,?_⟩
 refine HT.uv ht hs pl pu (by rw [hlen]; exact hw) ?_ (by rw [hlen]; exact hz)
 rw [hlen]
 refine ⟨.ref s.heap.objs.size,_,I.laid (t':=s.toks) (o:=.tup (rF xs lo hi)) (fun b ob q=>MW _ q) (M1 _) ?_,rfl,q _ (I.hok.fresh (M1 _))⟩
 exact ⟨NH (CI xs lo hi) hz,_,(r.drop (HT.sIx xs.length 0 lo)).take (HT.sIx xs.length xs.length hi - HT.sIx xs.length 0 lo),gn.new _ _⟩
noncomputable def Ma (K:Fg):R2:=fun x y H Q=>∃ a b xs ys,x=.ref a/\y=.ref b/\SqT K H a xs/\SqT K H b ys/\xs≠[]/\xs.length + ys.length<=Nb/\
 (ys=[]->Q (.ref a) H)/\(ys≠[]->∀ p,H p=none->Q (.ref p) (upd H p (.tup (xs++ys))))
theorem aK.nil_iff {xs:List V} {us:List Value} (r:aK xs us):us=[]↔xs=[]:=by
 cases r with
 | nil=>simp
 | cons _ _=>simp
theorem JW:OpR X (PU .Add) (Ma X.K):=by
 intro pins s σ H x y v u Q I rx ry h
 obtain ⟨a,b,xs,ys,rfl,rfl,ha,hb,hx,hz,q1,q2⟩:=h
 cases rx
 cases ry
 obtain ⟨its,r1,p1,_⟩:=I.tuple ha
 obtain ⟨its2,r2,p2,_⟩:=I.tuple hb
 refine HT.JV p1 p2 (fun z=>hx (r1.nil_iff.mp z)) (fun z=>⟨.ref a,H,I,rfl,q1 (r2.nil_iff.mp z)⟩) (fun z=>?_) (by rw [<-r1.length,<-r2.length]; exact hz)
 refine ⟨.ref s.heap.objs.size,_,I.laid (t':=s.toks) (o:=.tup (xs++ys)) (fun b ob q=>MW _ q) (M1 _) ?_,rfl,q2 (fun w=>z (r2.nil_iff.mpr w)) _ (I.hok.fresh (M1 _))⟩
 exact ⟨by rw [Nq]; exact hz,_,r1.append r2,gn.new _ _⟩
end
end L2
namespace L2
open PySem PySem.Spec PyProof.Rows
noncomputable def ixN (n:Nat) (i:Int):Option Nat:=if 0<=i then (if i < n then some i.toNat else none) else if -(n:Int)<=i then some (i + n).toNat else none
noncomputable def atI {α:Type} (xs:List α) (i:Int):Option α:=(ixN xs.length i).bind fun j=>xs[j]?
theorem Di {n:Nat} {i:Int} {j:Nat} (h:ixN n i=some j):seqIndex? i n=some j/\j < n/\-(n:Int)<=i/\i < n:=by
 unfold ixN at h
 by_cases h0:0<=i
 ·rw [if_pos h0] at h
  by_cases h1:i < n
  ·rw [if_pos h1] at h
   have e:i.toNat=j:=Nf h
   exact ⟨by rw [UX h0 h1,e],by omega,by omega,h1⟩
  ·rw [if_neg h1] at h; cases h
 ·rw [if_neg h0] at h
  by_cases h1:-(n:Int)<=i
  ·rw [if_pos h1] at h
   have e:(i + n).toNat=j:=Nf h
   exact ⟨by rw [Uw (by omega) h1,e],by omega,h1,by omega⟩
  ·rw [if_neg h1] at h; cases h
theorem Dj {α:Type} {xs:List α} {i:Int} {v:α} (h:atI xs i=some v):∃ j,seqIndex? i xs.length=some j/\xs[j]?=some v/\j < xs.length/\-(xs.length:Int)<=i/\i < xs.length:=by
 unfold atI at h
 cases e:ixN xs.length i with
 | none=>rw [e] at h; cases h
 | some j=>
  rw [e] at h
  obtain ⟨h1,h2,h3,h4⟩:=Di e
  exact ⟨j,h1,h,h2,h3,h4⟩
theorem cP {α:Type} {xs:List α} {j:Nat} {v:α} (h:xs[j]?=some v):atI xs (j:Int)=some v:=by
 have hj:j < xs.length:=(M4.mp h).1
 have e:ixN xs.length (j:Int)=some j:=by
  unfold ixN
  rw [if_pos (by omega),if_pos (by omega)]; simp
 unfold atI; rw [e]; exact h
noncomputable def JX (b:Expr):Prop:=∀ o i,Te b false o i=operate [o,i] (getItem o i)
noncomputable def IxR (X:Cx) (r:R2):Prop:=
 ∀ (value slice:Expr) (pins:List (Addr×Obj)) (s:Shared) (σ:St) (H:Hp) (x y:V) (v u:Value) (Q:VK),Inv X pins σ H s->aM x v->aM y u->r x y H Q->
  Te slice false v u=operate [v,u] (getItem v u)->wpAny (model X.prog X.w) X.A (T8 value slice v u) (EP X pins σ Q) X.xe s
noncomputable def MtR (X:Cx) (id:String) (r:V->List V->Hp->VK->Prop):Prop:=
 ∀ (pins:List (Addr×Obj)) (s:Shared) (σ:St) (H:Hp) (x:V) (xs:List V) (v:Value) (us:List Value) (Q:VK),Inv X pins σ H s->aM x v->aK xs us->r x xs H Q->
  wpAny (model X.prog X.w) X.A (call (.builtin id) (v :: us)) (EP X pins σ Q) X.xe s
section
variable {X:Cx} {a b:Expr} {ta tb:TE} {pos:Pos}
theorem aL {r:R2} (hr:IxR X r) (ha:PE X a ta) (hb:PE X b tb) (hs:JX b):PE X (.Subscript a b pos) (tOp r ta tb):=by
 intro pins s σ H Q I h
 exact VD (Hi ha hb I h fun v u s2 x y H2 I2 rx ry q=>hr a b pins s2 σ H2 x y v u Q I2 rx ry q (hs _ _))
noncomputable def ca (K:Fg):R2:=fun x y H Q=>∃ p xs i v,x=.ref p/\y=.int i/\SqL K H p xs/\atI xs i=some v/\Q v H
noncomputable def bX (K:Fg):R2:=fun x y H Q=>∃ p xs i v,x=.ref p/\y=.int i/\SqT K H p xs/\atI xs i=some v/\Q v H
theorem bi:IxR X (ca X.K):=by
 intro value slice pins s σ H x y v u Q I rx ry h hs
 obtain ⟨p,xs,i,z,rfl,rfl,hq,he,q⟩:=h
 cases rx
 obtain ⟨t,rfl⟩:=ry
 obtain ⟨its,r,pl,hz⟩:=I.list hq
 obtain ⟨j,h1,h2,h3,h4,h5⟩:=Dj he
 obtain ⟨w,ew,rw'⟩:=r.get h2
 have hl:=r.length
 have hn:=vW
 have fin:EP X pins σ Q w s:=⟨z,H,I,rw',q⟩
 by_cases h0:0<=i
 ·have hj:i.toNat=j:=by
   rw [UX h0 h5] at h1
   exact Nf h1
  exact item_listR pl.isList h0 (by omega) (by rw [hj]; simpa using ew) fin hs
 ·have hj:(i + (its.toArray.size:Int)).toNat=j:=by
   rw [Uw (by omega) h4] at h1
   rw [Nj,<-hl]
   exact Nf h1
  exact Tf (x:=w) pl.isList.typeIs slot_list_getitem.lookup
   (wpAny_getItem_list_neg (Q:=fun r s'=>r=w/\EP X pins σ Q r s') pl.isList (by omega) (by rw [Nj] <;> omega) (by omega) (by rw [hj]; simpa using ew) ⟨rfl,fin⟩) hs
theorem bt:IxR X (bX X.K):=by
 intro value slice pins s σ H x y v u Q I rx ry h hs
 obtain ⟨p,xs,i,z,rfl,rfl,hq,he,q⟩:=h
 cases rx
 obtain ⟨t,rfl⟩:=ry
 obtain ⟨its,r,pl,hz⟩:=I.tuple hq
 obtain ⟨j,h1,h2,h3,h4,h5⟩:=Dj he
 obtain ⟨w,ew,rw'⟩:=r.get h2
 have hl:=r.length
 have hn:=vW
 have fin:EP X pins σ Q w s:=⟨z,H,I,rw',q⟩
 exact Tf (x:=w) pl.typeIs slot_tuple_getitem.lookup
  (getItem_tuple (j:=j) (Q:=fun r s'=>r=w/\EP X pins σ Q r s') pl (by omega) (by omega) (by rw [Nj,<-hl]; exact h1) (by simpa using ew) ⟨rfl,fin⟩) hs
theorem Ee (its:List Value) (n j:Nat) (u:Value):On (·.setIfInBounds j u) { cls:=.type "list",data:=.seq its.toArray n }={ cls:=.type "list",data:=.seq (its.set j u).toArray n }:=by
 simp [On]
theorem Inv.lst {pins:List (Addr×Obj)} {σ:St} {H:Hp} {s:Shared} {p:Addr} {xs:List V} (I:Inv X pins σ H s) (h:H p=some (.lst xs)):
  ∃ (its:List Value) (n:Nat),aK xs its/\s.heap.get? p=some { cls:=.type "list",data:=.seq its.toArray n }/\xs.length<=Nb:=by
 obtain ⟨z,its,n,r,e⟩:=I.hok p _ h
 exact ⟨its,n,r,e,z⟩
theorem Inv.lstUpd {pins:List (Addr×Obj)} {σ:St} {H:Hp} {s:Shared} {p:Addr} {xs ys:List V} {its its':List Value} {n n':Nat} {f:Obj->Obj} (I:Inv X pins σ H s) (h:H p=some (.lst xs))
  (ho:s.heap.get? p=some { cls:=.type "list",data:=.seq its.toArray n }) (hf:f { cls:=.type "list",data:=.seq its.toArray n }={ cls:=.type "list",data:=.seq its'.toArray n' }) (r:aK ys its') (hz:ys.length<=Nb) (t:Nat):
  Inv X pins σ (upd H p (.lst ys)) { s with heap:=s.heap.update p f,toks:=t }:=by
 have e:(s.heap.update p f).get? p=some { cls:=.type "list",data:=.seq its'.toArray n' }:=by
  rw [N1 f ho (by rw [hf] <;> rfl),hf]
 refine I.write (x:=p) (e:=p) (by rw [h]; trivial) (.inl rfl) (fun b u hb q=>(OB _ _ (OC hb)).trans q) ⟨_,e⟩ ?_
 exact ⟨hz,its',n',r,e⟩
noncomputable def kP:V->V->V->Hp->(Hp->Prop)->Prop:=fun o i v H Q=>∃ p xs k j,o=.ref p/\i=.int k/\H p=some (.lst xs)/\ixN xs.length k=some j/\Q (upd H p (.lst (xs.set j v)))
theorem ji:DT X kP:=by
 intro pins s σ H o i v ov iv u Q I ro ri rv h
 obtain ⟨p,xs,k,j,rfl,rfl,hp,hj,q⟩:=h
 cases ro
 obtain ⟨t,rfl⟩:=ri
 obtain ⟨its,n,r,ho,hz⟩:=I.lst hp
 obtain ⟨h1,h2,h3,h4⟩:=Di hj
 have hl:=r.length
 have hn:=vW
 have I':Inv X pins σ (upd H p (.lst (xs.set j v))) { s with heap:=s.heap.update p (On (·.setIfInBounds j u)) }:=
  I.lstUpd hp ho (Ee its n j u) (r.set rv j) (by rw [Pc]; exact hz) s.toks
 by_cases h0:0<=k
 ·have hk:k.toNat=j:=by
   rw [UX h0 h4] at h1
   exact Nf h1
  exact PySem.W.ki_setAt ho h0 (by omega) (by rw [Nj,<-hl]; exact h4) (by rw [hk]; exact ⟨_,I',q⟩)
 ·have hk:(k + (its.toArray.size:Int)).toNat=j:=by
   rw [Uw (by omega) h3] at h1
   rw [Nj,<-hl]
   exact Nf h1
  exact PySem.W.ki_setBack ho (by omega) (by rw [Nj,<-hl]; exact h3) (by omega) (by rw [hk]; exact ⟨_,I',q⟩)
noncomputable def ig:V->Bool
 | .non=>true
 | .bl _=>true
 | .int _=>true
 | .str _=>true
 | _=>false
noncomputable def eqV:V->V->Bool
 | .non,.non=>true
 | .bl a,.bl b=>a == b
 | .bl a,.int b=>(if a then 1 else 0) == b
 | .int a,.bl b=>a == (if b then 1 else 0)
 | .int a,.int b=>a == b
 | .str a,.str b=>a == b
 | _,_=>false
theorem FS {A:Around} {s:Shared} {y x:V} {u v:Value} (ry:aM y u) (rx:aM x v) (fy:ig y=true) (fx:ig x=true):ND A s u v (eqV y x):=by
 cases y with
 | non=>
  cases ry
  cases x with
  | non=>cases rx; exact S5 _
  | bl b=>cases rx; exact TL b
  | int b=>obtain ⟨t,rfl⟩:=rx; exact Ue b t
  | str b=>obtain ⟨t,rfl⟩:=rx; exact ND.none_str b t
  | _=>exact absurd (show false=true from fx) Nd
 | bl a=>
  cases ry
  cases x with
  | non=>cases rx; exact TN a
  | bl b=>cases rx; exact TQ a b
  | int b=>obtain ⟨t,rfl⟩:=rx; exact Ug a b t
  | str b=>obtain ⟨t,rfl⟩:=rx; exact ND.bool_str a b t
  | _=>exact absurd (show false=true from fx) Nd
 | int a=>
  obtain ⟨t',rfl⟩:=ry
  cases x with
  | non=>cases rx; exact Uh a t'
  | bl b=>cases rx; exact Ui a t' b
  | int b=>obtain ⟨t,rfl⟩:=rx; exact Ux a t' b t
  | str b=>obtain ⟨t,rfl⟩:=rx; exact Ul a t' b t
  | _=>exact absurd (show false=true from fx) Nd
 | str a=>
  obtain ⟨t',rfl⟩:=ry
  cases x with
  | non=>cases rx; exact ND.str_none a t'
  | bl b=>cases rx; exact ND.str_bool a t' b
  | int b=>obtain ⟨t,rfl⟩:=rx; exact Um a t' b t
  | str b=>obtain ⟨t,rfl⟩:=rx; exact ND.str_str a t' b t
  | _=>exact absurd (show false=true from fx) Nd
 | _=>exact absurd (show false=true from fy) Nd
noncomputable def eqU (x:V) (u:Value):Bool:=match u with
 | .none=>eqV .non x
 | .bool b=>eqV (.bl b) x
 | .int i _=>eqV (.int i) x
 | .str z _=>eqV (.str z) x
 | _=>false
theorem FT {x y:V} {u:Value} (r:aM y u) (f:ig y=true):eqU x u=eqV y x:=by
 cases y with
 | non=>cases r; rfl
 | bl b=>cases r; rfl
 | int i=>obtain ⟨t,rfl⟩:=r; rfl
 | str z=>obtain ⟨t,rfl⟩:=r; rfl
 | _=>exact absurd (show false=true from f) Nd
theorem vc {A:Around} {s:Shared} {x:V} {v:Value} (rx:aM x v) (fx:ig x=true):∀ {xs:List V} {us:List Value},aK xs us->xs.all ig=true->∀ u∈us,ND A s u v (eqU x u)
 | _,_,.nil,_=>fun u hu=>by cases hu
 | y :: xs,u :: us,.cons r t,f=>fun u' hu=>by
  rw [QA,ON] at f
  rcases M6.mp hu with rfl | hu
  ·rw [FT r f.1]; exact FS r rx f.1 fx
  ·exact vc rx fx t f.2 u' hu
theorem bj:dS X (.builtin "len") (fun xs H Q=>∃ p ys,xs=[.ref p]/\(SqL X.K H p ys\/SqT X.K H p ys)/\Q (.int ys.length) H):=by
 intro pins s σ H xs us Q I r h
 obtain ⟨p,ys,rfl,hq,q⟩:=h
 obtain ⟨u,rfl,rx⟩:=pQ r
 cases rx
 have hn:=vW
 rcases hq with hq | hq
 ·obtain ⟨its,r',pl,hz⟩:=I.list hq
  have hlen:=r'.length
  exact Calls.call_len_list pl.isList (by simp only [Nj] <;> omega) ⟨.int ys.length,H,I.tok _,⟨s.toks + 1,by rw [Nj,hlen]⟩,q⟩
 ·obtain ⟨its,r',pl,hz⟩:=I.tuple hq
  have hlen:=r'.length
  exact len_tuple pl (by simp only [Nj] <;> omega) ⟨.int ys.length,H,I.tok _,⟨s.toks + 1,by rw [Nj,hlen]⟩,q⟩
theorem Bb:dS X (.type "list") (fun xs H Q=>∃ p ys,xs=[.ref p]/\(SqL X.K H p ys\/SqT X.K H p ys)/\∀ l,H l=none->Q (.ref l) (upd H l (.lst ys))):=by
 intro pins s σ H xs us Q I r h
 obtain ⟨p,ys,rfl,hq,q⟩:=h
 obtain ⟨u,rfl,rx⟩:=pQ r
 cases rx
 have fin:∀ (its:List Value),aK ys its->ys.length<=Nb->∀ (h':Heap) (c':Nat),(∀ b o',s.heap.get? b=some o'->h'.get? b=some o')->
   h'.get? s.heap.objs.size=some { cls:=.type "list",dict:=none,data:=.seq its.toArray c',slots:=#[] }->EP X pins σ Q (.ref s.heap.objs.size) { s with heap:=h' }:=fun its r' hz h' c' kp e=>
  ⟨.ref s.heap.objs.size,_,I.laid (t':=s.toks) kp (M1 _) (show bZ X.prog X.w _ h' _ (.lst ys) from ⟨hz,its,c',r',e⟩),rfl,q _ (I.hok.fresh (M1 _))⟩
 rcases hq with hq | hq
 ·obtain ⟨its,r',pl,hz⟩:=I.list hq
  have hlen:=r'.length
  obtain ⟨o,ho,hc,n,hd⟩:=pl.isList
  exact call_list_seq p (.inl rfl) ho hc hd (fun h' c' kp e=>fin its r' hz h' c' kp e) (by simp only [Nj] <;> omega)
 ·obtain ⟨its,r',pl,hz⟩:=I.tuple hq
  have hlen:=r'.length
  obtain ⟨o,ho,hc,n,hd⟩:=pl
  exact call_list_seq p (.inr rfl) ho hc hd (fun h' c' kp e=>fin its r' hz h' c' kp e) (by simp only [Nj] <;> omega)
theorem qH:dS X (.type "tuple") (fun xs H Q=>∃ p ys,xs=[.ref p]/\((SqL X.K H p ys/\∀ l,H l=none->Q (.ref l) (upd H l (.tup ys)))\/(SqT X.K H p ys/\Q (.ref p) H))):=by
 intro pins s σ H xs us Q I r h
 obtain ⟨p,ys,rfl,h⟩:=h
 obtain ⟨u,rfl,rx⟩:=pQ r
 cases rx
 rcases h with ⟨hq,q⟩ | ⟨hq,q⟩
 ·obtain ⟨its,r',pl,hz⟩:=I.list hq
  have hlen:=r'.length
  refine call_tuple_list pl.isList (fun h' kp=>?_) (by simp only [Nj] <;> omega)
  have I1:Inv X pins σ H { s with heap:=h' }:=I.kept (t':=s.toks) kp
  have I2:Inv X pins σ (upd H h'.objs.size (.tup ys)) { s with heap:=h'.push { cls:=.type "tuple",data:=.seq its.toArray } }:=
   I1.laid (t':=s.toks) (fun b o e=>MW _ e) (M1 _) (show bZ X.prog X.w _ _ _ (.tup ys) from ⟨hz,its,r',gn.new _ _⟩)
  exact ⟨.ref h'.objs.size,_,I2,rfl,q _ (I1.hok.fresh (M1 _))⟩
 ·obtain ⟨its,r',pl,hz⟩:=I.tuple hq
  exact call_tuple_same pl ⟨.ref p,H,I,rfl,q⟩
noncomputable def tyV (K:Fg) (T:String) (x:V) (H:Hp):Prop:=match x with
 | .str _=>T="str"
 | .int _=>T="int"
 | .ref p=>(T="list"/\∃ xs,SqL K H p xs)\/(T="tuple"/\∃ o,K.lookup p=some o/\o.cls=.type "tuple"/\o.dict=none)\/
   (T="dict"/\((∃ kvs,H p=some (.dK kvs))\/∃ kvs,H p=some (.dT kvs)))\/(T="set"/\∃ S n,H p=some (.set S n))
 | _=>False
theorem FU {pins:List (Addr×Obj)} {σ:St} {H:Hp} {s:Shared} {T:String} {x:V} {v:Value} (I:Inv X pins σ H s) (r:aM x v) (ty:tyV X.K T x H):
  s.TypeIs v T/\∀ a,v=.ref a->∃ ob,s.heap.get? a=some ob/\ob.dict=none:=by
 cases x with
 | str z=>
  obtain ⟨t,rfl⟩:=r
  cases (show T="str" from ty)
  exact ⟨typeIs_str s z t,fun _ e=>nomatch e⟩
 | int i=>
  obtain ⟨t,rfl⟩:=r
  cases (show T="int" from ty)
  exact ⟨VE s i t,fun _ e=>nomatch e⟩
 | ref p=>
  cases r
  rcases ty with ⟨rfl,xs,hq⟩ | ⟨rfl,o,hk,hc,hd⟩ | ⟨rfl,hk⟩ | ⟨rfl,S,n,hk⟩
  ·obtain ⟨its,_,pl,_⟩:=I.list hq
   refine ⟨pl.isList.typeIs,fun a e=>?_⟩
   cases e
   obtain ⟨o,n,e,c,hd,_⟩:=pl
   exact ⟨o,e,hd⟩
  ·refine ⟨⟨o,I.kIn p o hk,hc⟩,fun a e=>?_⟩
   cases e
   exact ⟨o,I.kIn _ o hk,hd⟩
  ·have z:∃ o,s.heap.get? p=some o/\o.ExactDict:=by
    rcases hk with ⟨kvs,hk⟩ | ⟨kvs,hk⟩
    ·obtain ⟨_,_,_,_,o,_,_,e,ex,_⟩:=I.hok p _ hk
     exact ⟨o,e,ex⟩
    ·obtain ⟨_,_,_,_,o,_,_,e,ex,_⟩:=I.hok p _ hk
     exact ⟨o,e,ex⟩
   obtain ⟨o,e,ex⟩:=z
   refine ⟨⟨o,e,ex.1⟩,fun a e2=>?_⟩
   cases e2
   exact ⟨o,e,ex.2.1⟩
  ·obtain ⟨o,_,_,_,e,ex,_⟩:=I.hok p _ hk
   refine ⟨⟨o,e,ex.1⟩,fun a e2=>?_⟩
   cases e2
   exact ⟨o,e,ex.2.1⟩
 | _=>exact Ph ty
noncomputable def Ef (K:Fg) (T:String) (r:V->List V->Hp->VK->Prop) (to:TE):TE:=fun σ H Q=>to σ H fun x H1=>tyV K T x H1/\r x [] H1 Q
noncomputable def tBM (K:Fg) (T:String) (r:V->List V->Hp->VK->Prop) (to:TE) (t:TA):TE:=fun σ H Q=>to σ H fun x H1=>tyV K T x H1/\t σ H1 fun xs H2=>r x xs H2 Q
variable {o e:Expr} {es:List Expr} {to:TE} {t:TA} {name:Str} {apos cpos:Pos} {T id:String} {r:V->List V->Hp->VK->Prop}
theorem FV (pa:VF T) (slot:Slot T name id) (hty:typeOf (.builtin id)=pure (.type "method_descriptor")) (hm:MtR X id r) (ho:PE X o to)
  (hbase:Qd o name X.env (eval o X.env)=eval o X.env:=by rfl) (hline:(apos.endLine == cpos.line)=true:=by rfl):PE X (.Call (.Attribute o name apos) [] [] cpos) (Ef X.K T r to):=by
 intro pins s σ H Q I h
 refine wpAny_Call_method0_late hbase hline (thn (ho pins s σ H _ I h) fun v s1 ⟨x,H1,I1,r1,ty,q1⟩=>?_)
 obtain ⟨h1,h2⟩:=FU I1 r1 ty
 exact ⟨T,id,pa,slot,hty,h1,h2,Qm rfl (PySem.evalArgs_none (hm pins s1 σ H1 x [] v [] Q I1 r1 .nil q1))⟩
theorem mq (pa:VF T) (slot:Slot T name id) (hty:typeOf (.builtin id)=pure (.type "method_descriptor")) (hm:MtR X id r) (ho:PE X o to) (ha:PA X (e :: es) t)
  (hbase:Qd o name X.env (eval o X.env)=eval o X.env:=by rfl)
  (hfew:((backTo cpos (Nu (e :: es) X.env)).all (fun x=>!x.1) && (Q6 cpos (Ql [] X.env)).all (fun x=>x.1.isSome)
   && decide ((e :: es).length + ([]:List Keyword).length + (if ([]:List Keyword).isEmpty then 0 else 1) < 30))=true:=by rfl)
  (hline:(apos.endLine == cpos.line)=true:=by rfl) (hs:Nu (e :: es) X.env=(false,eval e X.env) :: Nu es X.env:=by rfl) (hplain:(backTo cpos (Nu es X.env)).any (·.1)=false:=by rfl):
  PE X (.Call (.Attribute o name apos) (e :: es) [] cpos) (tBM X.K T r to t):=by
 intro pins s σ H Q I h
 refine Q1 hbase hfew hline rfl (thn (ho pins s σ H _ I h) fun v s1 ⟨x,H1,I1,r1,ty,q1⟩=>?_)
 obtain ⟨h1,h2⟩:=FU I1 r1 ty
 refine ⟨T,id,pa,slot,hty,h1,h2,?_⟩
 have hA:=ha cpos pins s1 σ H1 _ I1 q1
 rw [hs] at hA ⊢
 refine Qm (by show (false || (backTo cpos (Nu es X.env)).any (·.1))=false; rw [hplain] <;> rfl) (Rk ?_)
 exact thn hA fun us s2 ⟨vs,H2,I2,r2,q2⟩=>hm pins s2 σ H2 x vs v us Q I2 r1 r2 q2
end
end L2
namespace L2
open PySem PySem.Spec PyProof.Rows
noncomputable def MtM (X:Cx) (id:String) (r:V->List V->Hp->VK->Prop):Prop:=
 ∀ (pins:List (Addr×Obj)) (s:Shared) (σ:St) (H:Hp) (x:V) (xs:List V) (v:Value) (us:List Value) (Q:VK),Inv X pins σ H s->aM x v->aK xs us->r x xs H Q->
  wpAny (model X.prog X.w) X.A (call (.builtin id) (v :: us)) (EP X pins σ Q) X.xe s
theorem aK.one {x:V} {us:List Value} (h:aK [x] us):∃ u,us=[u]/\aM x u:=by
 cases h with
 | cons r t=>cases t; exact ⟨_,rfl,r⟩
theorem aK.two {x y:V} {us:List Value} (h:aK [x,y] us):∃ u v,us=[u,v]/\aM x u/\aM y v:=by
 cases h with
 | cons r t=>cases t with
  | cons q z=>cases z; exact ⟨_,_,rfl,r,q⟩
theorem aK.zero:∀ {us:List Value},aK [] us->us=[]
 | _,.nil=>rfl
theorem aK.rep {xs:List V} {us:List Value} (h:aK xs us):∀ k:Nat,aK (NN k xs).flatten (NN k us).flatten
 | 0=>.nil
 | k + 1=>by
  rw [Qa,Qa,QV,QV]
  exact aK.append h (aK.rep h k)
theorem zi (its:List Value):∀ (k:Nat) (acc:List Value),
  VG (fun x1 x2=>x1++x2) acc.toArray (NN k its.toArray)=(acc++(NN k its).flatten).toArray
 | 0,acc=>by simp
 | k + 1,acc=>by
  have e:acc.toArray++its.toArray=(acc++its).toArray:=by simp
  have e2:(acc++its)++(NN k its).flatten=acc++(NN (k + 1) its).flatten:=by
   rw [Qa,QV,Sg]
  rw [<-e2,<-zi its k (acc++its),<-e,Qa,VH]
section
variable {X:Cx} {pins:List (Addr×Obj)} {σ:St} {H:Hp} {s:Shared} {l b:Addr} {xs ys zs:List V}
theorem Inv.lset {its its':List Value} {n:Nat} {f:Array Value->Array Value} {t':Nat} (I:Inv X pins σ H s) (hH:H l=some (.lst xs))
  (e:s.heap.get? l=some { cls:=.type "list",data:=.seq its.toArray n }) (hf:f its.toArray=its'.toArray) (hv:aK ys its') (hz:ys.length<=Nb):
  Inv X pins σ (upd H l (.lst ys)) { s with heap:=s.heap.update l (On f),toks:=t' }:=by
 have q:=PySem.IsL.update e f
 rw [hf] at q
 refine I.write (x:=l) (e:=l) (by rw [hH]; exact trivial) (.inl rfl) (fun b' u hb hu=>(OB s.heap (On f) (OC hb)).trans hu) ⟨_,q⟩ ?_
 exact ⟨hz,its',_,hv,q⟩
theorem Inv.lnew {its:List Value} {t':Nat} (I:Inv X pins σ H s) (hv:aK ys its) (hz:ys.length<=Nb):
  Inv X pins σ (upd H s.heap.objs.size (.lst ys)) { s with heap:=s.heap.push { cls:=.type "list",data:=.seq its.toArray },toks:=t' }:=
 I.laid (fun _ _ q=>MW _ q) (M1 _) ⟨hz,its,0,hv,Nc _ rfl⟩
theorem Inv.fresh (I:Inv X pins σ H s):H s.heap.objs.size=none:=I.hok.fresh (M1 _)
theorem Inv.lstM (I:Inv X pins σ H s) (hH:H l=some (.lst xs)):xs.length<=Nb/\∃ (its:List Value) (n:Nat),aK xs its/\xs.length=its.length/\s.heap.get? l=some { cls:=.type "list",data:=.seq its.toArray n }:=by
 obtain ⟨z,its,n,r,e⟩:=I.hok l _ hH
 exact ⟨z,its,n,r,r.length,e⟩
theorem Bc {n:Nat} (h:n<=Nb):P7 n=false:=by
 unfold P7
 exact decide_eq_false (by omega)
end
section
variable {X:Cx}
noncomputable def ii:V->List V->Hp->VK->Prop:=fun x vs H Q=>∃ l xs y,x=.ref l/\vs=[y]/\H l=some (.lst xs)/\xs.length < Nb/\Q .non (upd H l (.lst (xs++[y])))
theorem fX:MtM X "list.append" ii:=by
 intro pins s σ H x vs v us Q I rx rv h
 obtain ⟨l,xs,y,rfl,rfl,hH,hz,q⟩:=h
 cases rx
 obtain ⟨u,rfl,ru⟩:=rv.one
 obtain ⟨z,its,n,r,hl,e⟩:=I.lstM hH
 refine QQ F.slot_list_append ⟨_,e,rfl⟩ F.entry_list_append (F.args_list_append_2 _ _) (PySem.list_append l its.toArray n u (by rw [Nj]; omega)) ⟨e,?_⟩
 refine ⟨.non,_,I.lset (its':=its++[u]) hH e (by simp) (r.append (.cons ru .nil)) ?_,rfl,q⟩
 rw [Nq,Tr]
 omega
noncomputable def yj:V->List V->Hp->VK->Prop:=fun x vs H Q=>∃ l b xs zs,x=.ref l/\vs=[.ref b]/\H l=some (.lst xs)/\H b=some (.lst zs)/\xs.length + zs.length<=Nb/\Q .non (upd H l (.lst (xs++zs)))
theorem FW:MtM X "list.extend" yj:=by
 intro pins s σ H x vs v us Q I rx rv h
 obtain ⟨l,b,xs,zs,rfl,rfl,hH,hB,hz,q⟩:=h
 cases rx
 obtain ⟨u,rfl,ru⟩:=rv.one
 cases ru
 obtain ⟨z,its,n,r,hl,e⟩:=I.lstM hH
 obtain ⟨z2,its2,n2,r2,hl2,e2⟩:=I.lstM hB
 have hsz:its.toArray.size + its2.toArray.size<=Nb:=by rw [Nj,Nj]; omega
 have hlong:¬ (!its.toArray.isEmpty && P7 (its.toArray.size + its2.toArray.size))=true:=by
  rw [Bc hsz,RB]
  exact Nd
 refine QQ F.slot_list_extend ⟨_,e,rfl⟩ F.entry_list_extend (F.args_list_extend_2 _ _)
  (AutoSeq1.list_extend_list_list_0 l its.toArray n b its2.toArray n2 hlong (by rw [Nj]; omega) (by omega)) ⟨e,e2,?_⟩
 refine ⟨.non,_,I.lset (its':=its++its2) hH e (by simp) (r.append r2) ?_,rfl,q⟩
 rw [Nq]
 omega
noncomputable def v2:V->List V->Hp->VK->Prop:=fun x vs H Q=>∃ l xs,x=.ref l/\vs=[]/\H l=some (.lst xs)/\Q .non (upd H l (.lst []))
theorem Bd:MtM X "list.clear" v2:=by
 intro pins s σ H x vs v us Q I rx rv h
 obtain ⟨l,xs,rfl,rfl,hH,q⟩:=h
 cases rx
 have hus:=rv.zero
 subst hus
 obtain ⟨z,its,n,r,hl,e⟩:=I.lstM hH
 refine QQ F.slot_list_clear ⟨_,e,rfl⟩ F.entry_list_clear (F.args_list_clear_1 _) (AutoSeq1.list_clear_list_0 l its.toArray n (by rw [Nj]; omega)) ⟨e,?_⟩
 exact ⟨.non,_,I.lset (its':=[]) (ys:=[]) hH e rfl .nil (N3 _),rfl,q⟩
noncomputable def K5:R2:=fun x y H Q=>∃ l b xs zs,x=.ref l/\y=.ref b/\H l=some (.lst xs)/\H b=some (.lst zs)/\xs.length + zs.length<=Nb/\∀ p,H p=none->Q (.ref p) (upd H p (.lst (xs++zs)))
theorem FX:OpR X (PU .Add) K5:=by
 intro pins s σ H x y v u Q I rx ry h
 obtain ⟨l,b,xs,zs,rfl,rfl,hH,hB,hz,q⟩:=h
 cases rx
 cases ry
 obtain ⟨z,its,n,r,hl,e⟩:=I.lstM hH
 obtain ⟨z2,its2,n2,r2,hl2,e2⟩:=I.lstM hB
 refine PySem.P.add_list e e2 ?_ (by rw [Nj,Nj]; omega)
 have ea:its.toArray++its2.toArray=(its++its2).toArray:=by simp
 rw [ea]
 exact ⟨.ref _,_,I.lnew (t':=s.toks) (r.append r2) (by rw [Nq]; omega),rfl,q _ I.fresh⟩
noncomputable def MH:R2:=fun x y H Q=>∃ l k xs,x=.ref l/\y=.int k/\H l=some (.lst xs)/\-(2 ^ 63)<=k/\k < 2 ^ 63/\xs.length * k.toNat<=Nb/\
 ∀ p,H p=none->Q (.ref p) (upd H p (.lst (NN k.toNat xs).flatten))
theorem JY {α:Type} (xs:List α) (k:Nat):(NN k xs).flatten.length=k * xs.length:=by
 induction k with
 | zero=>simp
 | succ k ih=>rw [Qa,QV,Nq,ih,Nat.succ_mul,Nat.add_comm]
theorem K6:OpR X (PU .Mult) MH:=by
 intro pins s σ H x y v u Q I rx ry h
 obtain ⟨l,k,xs,rfl,rfl,hH,h1,h2,hz,q⟩:=h
 cases rx
 obtain ⟨t,rfl⟩:=ry
 obtain ⟨z,its,n,r,hl,e⟩:=I.lstM hH
 have hlen:its.toArray.size * k.toNat<=Nb:=by rw [Nj,<-hl]; exact hz
 have hcap:¬ its.toArray.size * k.toNat > (2 ^ 63 - 1) / 8:=by
  have:(Nb:Nat)<=(2 ^ 63 - 1) / 8:=by decide
  omega
 have hfit:¬ (!Builtin.List.listFitsIndex k)=true:=by
  rw [fitsIndex_both h1 h2]
  exact Nd
 have hlong:¬ P7 (its.toArray.size * k.toNat)=true:=by
  rw [Bc hlen]
  exact Nd
 have hnew:VG (fun x1 x2=>x1++x2) #[] (NN (if its.toArray.isEmpty=true then 0 else k.toNat) its.toArray)=(NN k.toNat its).flatten.toArray:=by
  have f0:∀ m:Nat,VG (fun x1 x2=>x1++x2) #[] (NN m its.toArray)=(NN m its).flatten.toArray:=fun m=>by
   have:=zi its m []
   rw [List.nil_append] at this
   exact this
  rw [f0]
  cases its with
  | nil=>simp
  | cons a r'=>rw [if_neg (by simp)]
 refine wpAny_binaryOp_repeat_ref (T:="list") (U:="int") (by decide) ⟨_,e,rfl⟩ (fun s'=>VE s' k t) noFill_list_mul F.fills_int_mul VI repeat_list F.slot_int_index.lookup
  (QQ VI (VE s k t) F.entry_int_rmul (F.args_int_rmul_2 _ _) (int___rmul___int_list k t l its.toArray n)
   ⟨e,rfl,⟨_,e,rfl⟩,QQ F.slot_list_mul ⟨_,e,rfl⟩ F.entry_list_mul (F.args_list_mul_2 _ _) (AutoListH.list___mul___list_int_3 l its.toArray n k t hfit hcap hlong) ⟨e,?_⟩⟩)
 rw [hnew]
 exact ⟨.ref _,_,I.lnew (t':=s.toks) (r.rep k.toNat) (by rw [JY,O2]; exact hz),rfl,q _ I.fresh⟩
end
section
variable {prog:Program} {w:World} {A:Around} {E:Value->Shared->Prop} {s:Shared}
end
section
variable {X:Cx}
end
end L2
namespace Att
open PySem PySem.W PySem.Calls PyProof.Rows
theorem v3 {P:Params} {h:Heap}:∀ (ns:List Int) (vs:List Value),WellAll P h vs (ns.map WData.int)->IntsAre vs ns:=by
 intro ns
 induction ns with
 | nil=>
  intro vs w
  rw [Qu] at w
  cases w
  exact .nil
 | cons n ns ih=>
  intro vs w
  rw [Np] at w
  cases w with
  | cons a b=>
   cases a
   exact .cons _ _ (ih _ b)
theorem FY {l:OpenLaw} {n:Nat} (hn:l.most=some n) {P:Params} {h:Heap} {args:List WData} {vals:List Value}
  (hpre:l.row.toRowW.claim.pre args=true) (hwl:WellAll P h vals args):
  ∃ a vs ns,vals=[NA a]/\args=[WData.list (ns.map WData.int)]/\h.get? a=some { cls:=.type "list",data:=.seq vs.toArray }/\IntsAre vs ns/\ns.length<=n:=by
 have hsh:WShape.hasAll [] args [.list .int]=true:=(pre_splitW hpre).1
 have hc:l.pre.holds [] { args:=args }=true:=(pre_splitW hpre).2
 obtain ⟨d,r,rfl,h1,h2⟩:=hasAllW_cons hsh
 obtain rfl:=hasAllW_nil h2
 obtain ⟨xs,rfl,h3⟩:=hasW_list h1
 obtain ⟨ns,rfl⟩:=items_int h3
 have hlen:ns.length<=n:=by
  unfold OpenLaw.pre at hc
  have h4:(WTm.not (.lt (.lit (.int (n:Int))) (.len (.arg 0)))).holds [] { args:=[.list (ns.map .int)] }=true:=by
   have h4:=(holds_andW hc).1
   rw [hn] at h4
   exact h4
  have h5:=condW_of h4 (w_not (w_lt w_lit (w_len_list (w_arg rfl))))
  rw [MY] at h5
  refine Vj fun q=>?_
  have q':(n:Int) < ((ns.length:Nat):Int):=by omega
  first
   | (rw [decide_eq_true q'] at h5; exact absurd h5 (by decide))
   | (simp at h5; omega)
 cases hwl with
 | cons w1 w2=>
  cases w2
  cases w1 with
  | list ho hall=>exact ⟨_,_,ns,rfl,rfl,ho,v3 ns _ hall,hlen⟩
theorem FZ (l:OpenLaw) (args:List WData):l.row.toRowW.claim.post args (.bool true) args=true:=
 postW_of (r:=l.row.toRowW) (X:=(true == true))
  (show WShape.has [] (.bool true) .bool=true by first | rfl | decide | simp [WShape.has,WShape.arms,WShape.armsAll])
  (show (WTm.eq .res (.lit (.bool true))).value [] { args:=args,res:=some (.bool true),after:=args }=some (.bool (true == true)) from w_eq_bool (w_res rfl) w_lit) rfl
section
variable {prog:Program} {w:World} {A:Around} {E:Value->Shared->Prop} {s:Shared} {K:Frag}
end
end Att
namespace L2
open PySem PySem.Spec PyProof.Rows
theorem rG:∀ {vs:List Value} {ns:List Int},IntsAre vs ns->aK (ns.map V.int) vs
 | _,_,.nil=>.nil
 | _,_,.cons n t h=>.cons ⟨t,rfl⟩ (rG h)
noncomputable def K7 (H:Hp):Prop:=∀ b,H b=none\/∃ o xs,H b=some (.frz o (.lst xs))
theorem Hs {P:Program} {w:World} {K:Fg} {mg mb:Str->Option Value} {CX:CXT} {k:Nat} {fa a:Addr} {fd:Nk} {x:Str} {sp:Sp} {s₁:Shared} {vs:List Value} {ns:List Int}
  (KX:K.In s₁.heap) (hns:s₁.heap.Ns NB mg) (hb:s₁.heap.Ns Vy mb) (hbb:∀ x:Str,x≠"__name__"->mb x=QJ x) (hlim:s₁.heap.NoLimit) (hg:s₁.gens=#[])
  (ha:s₁.heap.get? a=some { cls:=.type "list",data:=.seq vs.toArray }) (hi:IntsAre vs ns) (hl:ns.length<=Nb) (hr:cg k callerA)
  (F:∀ base:Heap,K.In base->base.Ns NB mg->iM P w K mg base CX k fa fd [x] sp) (hbind:∀ (s:Shared) (u:Value),BindsTo s fd ⟨[u],[]⟩ [(x,u)])
  (hsp:∀ H:Hp,K7 H->SqL K H a (ns.map V.int)->sp [.ref a] H (fun v _=>v=.bl true) fun _ _ _=>False)
  (hCX:∀ H e s',CX [] H s₁ (fun _ _ _=>False) e s'->False):
  codeAny (model P w) callerA (.call (.ref fa) ⟨[.ref a],[]⟩) (fun r s'=>r=.ok (.ret (.bool true))/\OldK s₁.heap s'.heap/\s'.os=s₁.os/\AllBare s'.gens) s₁:=by
 have rv:=rG hi
 have lenV:=hi.length
 have core:∀ H:Hp,K7 H->SqL K H a (ns.map V.int)->HOk P w H s₁.heap->(∀ b,H b≠none->b=a)->(H a≠none->K.lookup a=none)->
   codeAny (model P w) callerA (.call (.ref fa) ⟨[.ref a],[]⟩) (fun r s'=>r=.ok (.ret (.bool true))/\OldK s₁.heap s'.heap/\s'.os=s₁.os/\AllBare s'.gens) s₁:=by
  intro H hO hS hok hA hK
  have base_of:∀ {b:Addr} {o:Obj},s₁.heap.get? b=some o->H b=none->(pM s₁.heap H).get? b=some o:=fun e n=>Hg e n
  have noA:∀ {b:Addr} {o:Obj} {es:Array Uq} {ep:Nat},s₁.heap.get? b=some o->o.data=.dict es ep->H b=none:=fun {b o es ep} e d=>by
   cases q:H b with
   | none=>rfl
   | some u=>
    have e':b=a:=hA b (by rw [q]; simp)
    subst e'
    rw [ha] at e; cases e
    have d':Data.seq vs.toArray _=Data.dict es ep:=d
    cases d'
  have nsK:∀ {b:Addr} {m:Str->Option Value},s₁.heap.Ns b m->(pM s₁.heap H).Ns b m:=fun {b m} ⟨o,es,ep,e,d,r⟩=>⟨o,es,ep,base_of e (noA e d),d,r⟩
  have hKb:K.In (pM s₁.heap H):=fun b o e=>base_of (KX b o e) (by
   cases q:H b with
   | none=>rfl
   | some u=>
    have e':b=a:=hA b (by rw [q]; simp)
    subst e'
    rw [hK (by rw [q]; simp)] at e; cases e)
  have hM:Mod K mg (pM s₁.heap H):=⟨hKb,nsK hns,⟨mb,nsK hb,hbb⟩,let ⟨mc,h1,h2⟩:=hlim; ⟨mc,nsK h1,h2⟩⟩
  have e0:uZ P w K mg (pM s₁.heap H) callerA [] s₁ H:=⟨rfl,hM,fun b o e=>JM e,Ri (FH _ _),trivial,fun b hb=>absurd (show b∈([]:List Addr) from hb) (by simp),hok,.of_eq hg⟩
  refine Qt ((F _ hKb (nsK hns)).run callerA [] s₁ H ⟨[.ref a],[]⟩ [.ref a] [.ref a] _ _ hr e0 (hbind s₁ (.ref a)) (.cons rfl .nil) (hsp H hO hS)) fun r s' h=>?_
  cases r with
  | error e=>exact (hCX H e s' h).elim
  | ok fl=>
   cases fl with
   | next=>exact Ph h
   | brk=>exact Ph h
   | cont=>exact Ph h
   | ret u=>
    obtain ⟨v,H',os,bare,un,hok',r',q⟩:=h
    have q':v=.bl true:=q
    subst q'
    obtain rfl:u=N7 true:=r'
    refine ⟨rfl,OldK.of_keep fun b o e=>?_,os,bare⟩
    cases q:H b with
    | none=>exact un.keep b o e q (by intro z; exact absurd (show b∈([]:List Addr) from z) (by simp)) (by simp)
    | some u=>
     rcases hO b with z | ⟨ob,xs,z⟩
     ·rw [q] at z; cases z
     ·have z2:=un.frzs b ob _ z
      obtain ⟨e1,_⟩:=hok b _ z
      obtain ⟨e2,_⟩:=hok' b _ z2
      rw [e] at e1; cases e1
      exact e2
 cases hk:K.lookup a with
 | some o=>
  have e:=KX a o hk
  rw [ha] at e
  cases e
  refine core (fun _=>none) (fun _=>.inl rfl) (.inr ⟨_,vs.toArray,_,hk,rfl,rfl,rfl,by rw [Nj,lenV]; exact hl,by simpa using rv⟩) (fun b u z=>by have z':(none:Option HO)=some u:=z; cases z') (fun b z=>absurd rfl z) fun z=>absurd rfl z
 | none=>
  refine core (fun b=>if b=a then some (.frz { cls:=.type "list",data:=.seq vs.toArray } (.lst (ns.map V.int))) else none) (fun b=>?_) (.inl (.inr ⟨{ cls:=.type "list",data:=.seq vs.toArray },if_pos rfl⟩)) (fun b u z=>?_) (fun b z=>?_) fun _=>hk
  ·by_cases hb:b=a
   ·exact .inr ⟨_,_,if_pos hb⟩
   ·exact .inl (if_neg hb)
  ·by_cases hb:b=a
   ·have z':=(if_pos hb).symm.trans z
    cases z'
    subst hb
    exact ⟨ha,by rw [MY]; exact hl,vs,_,rv,ha⟩
   ·have z':=(if_neg hb).symm.trans z
    cases z'
  ·by_cases hb:b=a
   ·exact hb
   ·exact absurd (if_neg hb) z
end L2
namespace L2
open PySem PySem.Spec PyProof.Rows
end L2
namespace L2
open PySem PySem.Spec PyProof.Rows
noncomputable def ki (s:Stmt) (j:Nat):Stmt:=match s with
 | .ClassDef _ _ _ body _ _ _ _ _ _ _=>body.getD j (.Pass ⟨0,0,0,0⟩)
 | _=>.Pass ⟨0,0,0,0⟩
noncomputable def kj (s:Stmt):Arguments:=match s with
 | .FunctionDef _ a _ _ _ _ _ _ _ _=>a
 | _=>{ posonlyargs:=[],args:=[],vararg:=none,kwonlyargs:=[],kw_defaults:=[],kwarg:=none,defaults:=[] }
noncomputable def fK (s:Stmt):List Stmt:=match s with
 | .FunctionDef _ _ b _ _ _ _ _ _ _=>b
 | _=>[]
noncomputable def ab (s:Stmt):Scope:=match s with
 | .FunctionDef _ _ _ _ _ _ sc _ _ _=>sc
 | _=>{ kind:=.function,names:=[],isGenerator:=false,isCoroutine:=false }
noncomputable abbrev CX0:CXT:=fun _ _ _ _ _ _=>False
noncomputable abbrev E0:XK:=fun _ _ _=>False
theorem AB {X:Cx}:mP CX0 X E0:=fun _ _ _ _ _ _ _ h=>h.elim
structure Fun (K:Fg) (x qual:Str) (st:Stmt) (f:Addr) (fd:Nk):Prop where
 ex:∃ (oc:Value) (od:Option Addr) (kV doc pm:Value) (an:Option Addr) (cdv ct:Value) (osl:Array (Option Value)),
  fd=QK x qual (kj st) (fK st) (ab st) .none kV doc pm an cdv ct/\K.lookup f=some ⟨oc,od,.func fd,osl⟩/\Tq K cdv qual=true
 kp:Qs K (.ref f)=true
section
variable {P:Program} {w:World} {K:Fg} {mg:Str->Option Value} {base:Heap}
theorem Fun.ok {x qual:Str} {st:Stmt} {f:Addr} {fd:Nk} {N ps:List Str} {k:Nat} {sp:Sp} (F:Fun K x qual st f fd) (S:aA N ps (ab st)) (len:∀ vs H Q E,sp vs H Q E->vs.length=ps.length)
  (hbody:∀ (cdv:Value) (A:Around) (outer:List Env) (s:Shared) (H:Hp) (vs:List V) (Q:VK) (E:XK),cg k (A.deeper (envOfC qual (ab st) s.heap.objs.size f cdv))->sp vs H Q E->
   ∃ t,PSs (pR CX0 P w K mg base N qual (ab st) f cdv A outer s H E).nox (fK st) t/\t { nx:=fun _ H'=>Q .non H',rt:=Q } (start N vs) H):iM P w K mg base CX0 (k + 1) f fd ps sp:=by
 obtain ⟨oc,od,kV,doc,pm,an,cdv,ct,osl,rfl,lk,hcd⟩:=F.ex
 refine L9 lk hcd S len fun A outer s H vs Q E hr hsp=>?_
 obtain ⟨t,h,q⟩:=hbody cdv A outer s H vs Q E hr hsp
 exact ⟨t,h.nox,q⟩
theorem Fun.binds {x qual:Str} {st:Stmt} {f:Addr} {fd:Nk} {ps:List Str} (F:Fun K x qual st f fd)
  (h:∀ (kV doc pm:Value) (an:Option Addr) (cdv ct:Value) (us:List Value),us.length=ps.length->bindArgs (QK x qual (kj st) (fK st) (ab st) .none kV doc pm an cdv ct) ⟨us,[]⟩=pure (ps.zip us)):gf K fd ps []:=by
 obtain ⟨oc,od,kV,doc,pm,an,cdv,ct,osl,rfl,lk,hcd⟩:=F.ex
 exact .all (h kV doc pm an cdv ct)
theorem F0 {x qual:Str} {st:Stmt} {f:Addr} {oc:Value} {od an:Option Addr} {osl:Array (Option Value)} {kV doc pm cdv ct:Value} (l:K.lookup f=some ⟨oc,od,.func (QK x qual (kj st) (fK st) (ab st) .none kV doc pm an cdv ct),osl⟩)
  (c:Tq K cdv qual=true) (k:Qs K (.ref f)=true):Fun K x qual st f (QK x qual (kj st) (fK st) (ab st) .none kV doc pm an cdv ct):=⟨⟨oc,od,kV,doc,pm,an,cdv,ct,osl,rfl,l,c⟩,k⟩
end
theorem F1 {n:Nat} (h:n<=1000):n < Nb:=Qf h (by decide)
section
variable {X:Cx}
theorem pv (i:Nat) {x:Str} {pos:Pos} (hN:X.N[i]?=some x:=by rfl) (hv:Vis X.env.scope x:=by first | exact M5 rfl | exact Pq (M5 rfl) | exact Pq (Pq rfl)) (hd:(x == ("__debug__":Str))=false:=by decide)
  (hcd:(x == ("__classdict__":Str))=false:=by decide):PE X (.Name x pos) (aa i):=FI hN hv hd hcd
end
theorem lK {A B:Prop} (h:B):if false=true then A else B:=by
 rw [if_neg Nd]
 exact h
theorem lL {A B:Prop} (h:A):if true=true then A else B:=by
 rw [if_pos rfl]
 exact h
noncomputable def am (H H':Hp):Prop:=∀ b o,H b=some o->H' b=some o
theorem am.refl (H:Hp):am H H:=fun _ _ h=>h
theorem am.trans {H H1 H2:Hp} (a:am H H1) (b:am H1 H2):am H H2:=fun c o h=>b c o (a c o h)
theorem am.free {H H':Hp} (e:am H H') {l:Addr} (h:H' l=Option.none):H l=Option.none:=by
 cases q:H l with
 | none=>rfl
 | some o=>
  rw [e l o q] at h
  cases h
theorem am.seq {K:Fg} {H H':Hp} {a:Addr} {xs:List V} (e:am H H') (h:SqL K H a xs):SqL K H' a xs:=by
 rcases h with (h | ⟨o,h⟩) | h
 ·exact .inl (.inl (e _ _ h))
 ·exact .inl (.inr ⟨o,e _ _ h⟩)
 ·exact .inr h
end L2
end
namespace L2
open PySem PyProof.Rows
section
open PySem.Spec
theorem pV {a b:Addr} {n:Nat} (h:a < n) (h':n<=b):a≠b:=NF (Nv h h')
theorem K8 {a b:Addr} {n:Nat} (h:n<=a) (h':b < n):a≠b:=Pe (Nv h' h)
noncomputable def fL (env:Env):List (Str×NS)->List (Str×Addr)->List (Str×Addr)
 | [],acc=>acc
 | (n,k) :: r,acc=>if k=.free then (match env.cells.lookup n with | some c=>fL env r ((n,c) :: acc) | none=>fL env r acc) else fL env r acc
theorem mr {env:Env}:∀ (ns:List (Str×NS)) (acc:List (Str×Addr)),(∀ p∈acc,env.cells.lookup p.1=some p.2)->∀ p∈fL env ns acc,env.cells.lookup p.1=some p.2
 | [],acc,h=>by intro p hp; exact h p hp
 | (n,k) :: r,acc,h=>by
  intro p hp
  rw [fL] at hp
  split at hp
  ·split at hp
   ·rename_i c hc
    refine mr r _ (fun q hq=>?_) p hp
    rcases M6.mp hq with rfl | hq
    ·exact hc
    ·exact h q hq
   ·exact mr r acc h p hp
  ·exact mr r acc h p hp
theorem pW {env:Env}:∀ (ns:List (Str×NS)) (acc:List (Str×Addr)),∀ p∈acc,p∈fL env ns acc
 | [],acc=>fun p hp=>hp
 | (n,k) :: r,acc=>fun p hp=>by
  rw [fL]
  split
  ·split
   ·exact pW r _ p (Nh _ hp)
   ·exact pW r acc p hp
  ·exact pW r acc p hp
theorem pX {env:Env}:∀ (ns:List (Str×NS)) (acc:List (Str×Addr)) (x:Str) (c:Addr),(x,Ow)∈ns->env.cells.lookup x=some c->(x,c)∈fL env ns acc
 | [],acc,x,c=>fun h _=>(nomatch h)
 | (n,k) :: r,acc,x,c=>fun h hc=>by
  rw [fL]
  rcases M6.mp h with e | h
  ·cases e
   rw [if_pos rfl,hc]
   exact pW r _ _ M7
  ·split
   ·split
    ·exact pX r _ x c h hc
    ·exact pX r acc x c h hc
   ·exact pX r acc x c h hc
theorem qI {α:Type} {x:Str} {c:α}:∀ {l:List (Str×α)},(x,c)∈l->∃ d,l.lookup x=some d
 | (y,d) :: r,h=>by
  rw [Oh]
  cases e:x == y with
  | true=>exact ⟨d,rfl⟩
  | false=>
   rcases M6.mp h with q | q
   ·cases q
    rw [beq_self_eq_true] at e
    cases e
   ·exact qI q
theorem gH {env:Env} {ns:List (Str×NS)} {x:Str} {c:Addr} (h:(fL env ns []).lookup x=some c):env.cells.lookup x=some c:=
 mr ns [] (fun _ hp=>(nomatch hp)) (x,c) (Of h)
theorem zj {env:Env} {ns:List (Str×NS)} {x:Str} {c:Addr} (hm:(x,Ow)∈ns) (hc:env.cells.lookup x=some c):(fL env ns []).lookup x=some c:=by
 obtain ⟨d,hd⟩:=qI (pX ns [] x c hm hc)
 have e:=gH hd
 rw [hc] at e
 cases e
 exact hd
theorem v4 {scope:Scope} {env:Env} (h:∀ y∈scope.names,y.2=.free->∃ c,env.cells.lookup y.1=some c):TU scope env=pure (fL env scope.names []):=by
 have go:∀ (ns:List (Str×NS)) (acc:List (Str×Addr)),(∀ y∈ns,y.2=.free->∃ c,env.cells.lookup y.1=some c)->
   (forIn ns acc fun (x:Str×NS) (cs:List (Str×Addr))=>(match x with
    | (name,kind)=>if (kind == Ow)=true then (do let c <-cellOf env name; pure (Qg ((name,c) :: cs))) else pure (Qg cs):Sem (ForInStep (List (Str×Addr)))))=(pure (fL env ns acc):Sem (List (Str×Addr))):=by
  intro ns
  induction ns with
  | nil=>intro acc _; rfl
  | cons y r ih=>
   intro acc hy
   obtain ⟨n,k⟩:=y
   have ih':=fun acc=>ih acc fun z hz=>hy z (Nh _ hz)
   rw [QH,fL]
   by_cases hk:k=.free
   ·subst hk
    obtain ⟨c,hc⟩:=hy (n,.free) M7 rfl
    have hc':env.cells.lookup n=some c:=hc
    simp only [beq_self_eq_true,if_true,cellOf,hc',pure_bind]
    exact ih' _
   ·have hb:(k == Ow)=false:=by simpa using hk
    simp only [hb,Oc,if_false,pure_bind,if_neg hk]
    exact ih' _
 unfold TU
 have g:=go scope.names [] h
 simp only [bind_pure]
 exact g
structure rH (sc scope:Scope) (NX N:List Str) (ix:List (Option Nat)):Prop where
 kind:scope.kind=.function
 nocell:∀ y∈scope.names,y.2≠.cell
 names:∀ y∈scope.names,y.2=.local->scope.names.lookup y.1=some .local
 free:∀ y∈scope.names,y.2=.free->sc.names.lookup y.1=some .cell\/sc.names.lookup y.1=some .free
 nd:N.Nodup
 len:ix.length=N.length
 at_:∀ p∈N.zip ix,∀ i∈p.2,NX[i]?=some p.1/\scope.names.lookup p.1=some .free
noncomputable def sub (ix:List (Option Nat)) (σ:St):St:=ix.map fun o=>match o with | some i=>(match σ[i]? with | some v=>v | none=>none) | none=>none
noncomputable def cQ (X:Cx) (N:List Str) (scope:Scope) (C:Addr) (s:Shared) (H:Hp) (fp:List Addr):Cx where
 prog:=X.prog
 w:=X.w
 K:=X.K
 mg:=X.mg
 base:=X.base
 A:=X.A
 N:=N
 s₀:=s
 H₀:=H
 env:=TV scope (fL X.env scope.names []) C X.env
 outer:=X.stack
 stack:=X.stack
 ex:=fp
 fn:=fun _=>false
 calm:=X.calm
 pn:=[]
 xe:=fun _ _=>False
theorem rJ {scope:Scope} {env:Env} {x:Str} {k:NS} (h:(relabel scope env).names.lookup x=some k):scope.names.lookup x=some k\/(k=.cell/\scope.names.lookup x=some .free):=by
 have go:∀ ns:List (Str×NS),(ns.map fun (n,k)=>if (k == Ow && env.scope.kind == .function && env.kindOf n == some .cell) then (n,Q3) else (n,k)).lookup x=some k->
   ns.lookup x=some k\/(k=.cell/\ns.lookup x=some .free):=by
  intro ns
  induction ns with
  | nil=>intro q; simp at q
  | cons y r ih=>
   obtain ⟨n,k'⟩:=y
   intro q
   rw [Np] at q
   by_cases hc:(k' == Ow && env.scope.kind == .function && env.kindOf n == some .cell)=true
   ·simp only [hc,if_true] at q
    have hk':k'=.free:=by
     have:=(ON _ _ ▸ hc)
     have h1:=(ON _ _ ▸ this.1)
     exact eq_of_beq h1.1
    subst hk'
    rw [Oh] at q ⊢
    cases e:x == n with
    | true=>
     rw [e] at q
     cases q
     exact .inr ⟨rfl,rfl⟩
    | false=>
     rw [e] at q
     exact ih q
   ·simp only [hc] at q
    rw [if_neg (by simp)] at q
    rw [Oh] at q ⊢
    cases e:x == n with
    | true=>rw [e] at q; exact .inl q
    | false=>rw [e] at q; exact ih q
 exact go scope.names h
theorem Be {scope:Scope} {env:Env} {x:Str} (h:scope.names.lookup x=some .free):(relabel scope env).names.lookup x=some .cell\/(relabel scope env).names.lookup x=some .free:=by
 have go:∀ ns:List (Str×NS),ns.lookup x=some .free->
   (ns.map fun (n,k)=>if (k == Ow && env.scope.kind == .function && env.kindOf n == some .cell) then (n,Q3) else (n,k)).lookup x=some .cell\/
   (ns.map fun (n,k)=>if (k == Ow && env.scope.kind == .function && env.kindOf n == some .cell) then (n,Q3) else (n,k)).lookup x=some .free:=by
  intro ns
  induction ns with
  | nil=>intro q; simp at q
  | cons y r ih=>
   obtain ⟨n,k'⟩:=y
   intro q
   rw [Np]
   rw [Oh] at q
   cases e:x == n with
   | true=>
    rw [e] at q
    cases q
    by_cases hc:(Ow == Ow && env.scope.kind == .function && env.kindOf n == some .cell)=true
    ·simp only [hc,if_true]
     rw [Oh,e]
     exact .inl rfl
    ·simp only [hc]
     rw [if_neg (by simp),Oh,e]
     exact .inr rfl
   | false=>
    rw [e] at q
    have z:=ih q
    by_cases hc:(k' == Ow && env.scope.kind == .function && env.kindOf n == some .cell)=true
    ·simp only [hc,if_true]
     rw [Oh,e]
     exact z
    ·simp only [hc]
     rw [if_neg (by simp),Oh,e]
     exact z
 exact go scope.names h
theorem Inv.gone {X:Cx} {pins:List (Addr×Obj)} {σ σ₂:St} {H H₂:Hp} {s s₂:Shared} {C:Addr} {h'':Heap} (I:Inv X pins σ H s) (I2:Inv X pins σ₂ H₂ s₂) (hC:s₂.heap.objs.size<=C) (hn:H C=none) (hs:Nn C s.heap h''):Inv X pins σ H { s with heap:=h'' }:=
 I.turned (t':=s.toks) (it:=C) (fun b o hb e=>hs.extBut b o hb e) hn (Pe (Nv I2.lt hC)) (.inr (NH I2.sz hC))
  (fun x c e=>by
   obtain ⟨v,o,ho,_⟩:=I2.cell x c e
   exact pV (Na ho) hC) fun q hq=>pV (Na (I2.pin q hq).1) hC
noncomputable def PTL (X:Cx) (ifs:List Expr) (t:TT):Prop:=
 ∀ (pins:List (Addr×Obj)) (s:Shared) (σ:St) (H:Hp) (Q:Bool->Hp->Prop),Inv X pins σ H s->t σ H Q->
  wpAny (model X.prog X.w) X.A (forIn ifs true fun c r=>if r=true then do let ok <-isTrue c X.env (eval c X.env); pure (Qg ok) else pure (Qg r)) (TP X pins σ Q) X.xe s
noncomputable def aV:TT:=fun _ H Q=>Q true H
theorem bq {X:Cx}:PTL X [] aV:=fun _ _ _ H _ I h=>wpAny_tests_nil ⟨H,I,h⟩
theorem kl {X:Cx} {c:Expr} {t:TT} (h:PT X c t):PTL X [c] t:=fun pins s σ H Q I q=>wpAny_tests_one (h pins s σ H Q I q)
noncomputable def bO (J:It) (g:TG) (tt:TT) (te:TE) (σ₀:St) (p:Addr) (Q:VK) (W:Nat->Nat->List V->Hp->Prop):Prop:=
 ∀ i m acc H,W i m acc H->H p=some (.lst acc)/\
  ((J.stop i H/\Q (.ref p) H)\/(J.go i H/\acc.length < Nb/\∃ N:List V->Hp->Prop,(∀ acc' H',N acc' H'->∃ m',m' < m/\W (i + 1) m' acc' H')/\
   ∀ x H1,J.yld i H x H1->g x σ₀ H1 fun σ2 H2=>tt σ2 H2 fun b H3=>if b=true then te σ2 H3 fun y H4=>H4 p=some (.lst acc)/\N (acc++[y]) (upd H4 p (.lst (acc++[y]))) else N acc H3))
noncomputable abbrev CF (α:Type):=Addr->Shared->Hp->List Addr->α
noncomputable def bu (wi:TI) (g:CF TG) (tt:CF TT) (te:CF TE) (ix:List (Option Nat)):TE:=fun σ H Q=>wi σ H fun J H1=>∀ p,H1 p=none->
 ∃ W:Nat->Nat->List V->Hp->Prop,(∃ m,W 0 m [] (upd H1 p (.lst [])))/\∀ C s' H' fp,bO J (g C s' H' fp) (tt C s' H' fp) (te C s' H' fp) (sub ix σ) p Q W
section
variable {X:Cx} {elt tg iter:Expr} {ifs:List Expr} {scope sc:Scope} {pos:Pos} {NX N:List Str} {ix:List (Option Nat)} {wi:TI} {g:CF TG} {tt:CF TT} {te:CF TE}
theorem F2 {prog:Program} {w:World} {A:Around} {R:Result->Shared->Prop} {s:Shared} {it acc:Value} {env:Env} (I:Nat->Shared->Prop)
  (turn:∀ n s,I n s->wpAny (model prog w) A (pyNext it) (fun r s₁=>match r with
   | none=>R (.ok .next) s₁
   | some v=>wpAny (model prog w) A (Rg tg it v) (fun _ s₁'=>wpAny (model prog w) A (assign tg env v) (fun _ s₂=>
     wpAny (model prog w) A (forIn ifs true fun c r=>if r=true then do let ok <-isTrue c env (eval c env); pure (Qg ok) else pure (Qg r)) (fun ok s₃=>
      if ok=true then wpAny (model prog w) A (eval elt env) (fun x s₄=>
       wpAny (model prog w) A (call (.builtin "list.append") [acc,x]) (fun _ s₅=>∃ m,m < n/\I m s₅) (fun _ _=>False) s₄) (fun _ _=>False) s₃
      else ∃ m,m < n/\I m s₃) (fun _ _=>False) s₂) (fun _ _=>False) s₁') (fun _ _=>False) s₁) (fun _ _=>False) s)
  (n:Nat) (h:I n s):codeAny (model prog w) A (.compLoop (.ListComp elt [⟨tg,iter,ifs,0⟩] scope pos) 0 it acc env) R s:=by
 refine codeAny_loop rfl I (fun n s hI=>?_) n h
 show wpAny _ A ((compTurn (.ListComp elt [⟨tg,iter,ifs,0⟩] scope pos) 0 it acc env).onRaise (fun x=>do noteFrame x env; theTreesLotGoes x)) _ _ s
 refine wpAny_noted ?_
 rw [compTurn_list]
 refine MV (T6 (MV (OX (turn n s hI) (fun r s₁ h₁=>?_) fun _ _ z=>z.elim)))
 cases r with
 | none=>exact MX h₁
 | some v=>
  refine MV (OX h₁ (fun _ s₁' h₁'=>?_) fun _ _ z=>z.elim)
  refine MV (OX h₁' (fun _ s₂ h₂=>MV (OX h₂ (fun ok s₃ h₃=>?_) fun _ _ z=>z.elim)) fun _ _ z=>z.elim)
  cases ok with
  | false=>exact MX ⟨rfl,h₃⟩
  | true=>exact MV (MV (OX h₃ (fun x s₄ h₄=>MV (OX h₄ (fun _ s₅ h₅=>MX (MX ⟨rfl,h₅⟩)) fun _ _ z=>z.elim)) fun _ _ z=>z.elim))
theorem wa {pins:List (Addr×Obj)} {σ:St} {H:Hp} {s:Shared} {fp:List Addr} {it:Addr} {J:It} {tn:Nat->Heap->Prop} {Q:VK} {E:Value->Shared->Prop} {RR:Value->Addr->Result->Shared->Prop}
  (hc:X.calm=true) (hsc:X.env.scope=sc) (hNX:X.N=NX) (S:rH sc scope NX N ix)
  (hg:∀ C s H fp,PG (cQ X N scope C s H fp) tg (g C s H fp)) (ht:∀ C s H fp,PTL (cQ X N scope C s H fp) ifs (tt C s H fp)) (he:∀ C s H fp,PE (cQ X N scope C s H fp) elt (te C s H fp))
  (I:Inv X pins σ H s) (T:uW X.prog X.w X.K tg J fp it tn) (st:tn 0 s.heap) (hf:∀ b∈fp,lJ X pins H b)
  (hq:∀ p,H p=none->∃ W:Nat->Nat->List V->Hp->Prop,(∃ m,W 0 m [] (upd H p (.lst [])))/\∀ C s' H' fp,bO J (g C s' H' fp) (tt C s' H' fp) (te C s' H' fp) (sub ix σ) p Q W)
  (hR:∀ p C s' H' m,s.heap.objs.size<=p->s.heap.objs.size<=C->s'.heap.Ns C m->H' C=none->Q (.ref p) H'->Inv X pins σ H' s'->RR (.ref p) C (.ok .next) s'):
  wpAny (model X.prog X.w) X.A (newList []) (fun acc s₃=>wpAny (model X.prog X.w) X.A (newFunctionEnv scope X.env.globals (fL X.env scope.names []) [] X.env.qual none .none (some X.env)) (fun cenv s₄=>
   codeAny (model X.prog X.w) X.A (.compStart (.ListComp elt [⟨tg,iter,ifs,0⟩] scope pos) 0 (.ref it) acc { cenv with scope:=relabel scope X.env }) (RR acc cenv.locals) s₄) E s₃) E s:=by
 refine Oa (wpAny_newFunctionEnv S.nocell (by intro y hy; simp at hy) (fun h₁ hns₁ hsb₁=>?_) S.kind)
 dsimp only at hns₁ hsb₁ ⊢
 have hsz:(s.heap.push { cls:=.type "list",dict:=none,data:=.seq ([]:List Value).toArray }).objs.size=s.heap.objs.size + 1:=NV ..
 generalize hC:(s.heap.push { cls:=.type "list",dict:=none,data:=.seq ([]:List Value).toArray }).objs.size=C at hns₁ hsb₁ ⊢
 rw [hsz] at hC
 generalize hp:s.heap.objs.size=p at hC
 have pC:p≠C:=by omega
 have old:∀ b o,s.heap.get? b=some o->h₁.get? b=some o:=fun b o e=>hsb₁.extBut b o (pV (Na e) (by omega)) (MW _ (MW _ e))
 have hnew:h₁.get? p=some { cls:=.type "list",data:=.seq ([]:List Value).toArray }:=hsb₁.extBut _ _ pC (MW _ (by rw [<-hp]; exact Nc _ rfl))
 have hfp:H p=none:=I.hok.fresh (by omega)
 have hfC:H C=none:=I.hok.fresh (by omega)
 have lt:∀ b∈fp,b < p:=fun b hb=>by
  obtain ⟨o,e,_⟩:=T.obj 0 _ st b hb
  rw [<-hp]
  exact Na e
 have hcells:∀ y∈scope.names,y.2=.free->∃ c,X.env.cells.lookup y.1=some c:=fun y hy hk=>by
  refine I.ok.has y.1 ?_
  show X.env.scope.names.lookup y.1=some .cell\/X.env.scope.names.lookup y.1=some .free
  rw [hsc]
  exact S.free y hy hk
 have noown:∀ x,scope.names.lookup x≠some .cell:=fun x e=>S.nocell _ (Of e) rfl
 have hok:(cQ X N scope C s H fp).Ok:=by
  refine ⟨I.ok.mod,S.kind,I.ok.glob,I.ok.blt,by show s.heap.objs.size<=C; omega,fun x y c h1 h2=>I.ok.inj x y c (gH h1) (gH h2),fun x hx=>?_,fun x c z=>(by cases z),I.ok.hd,I.ok.frames,.inl rfl,fun b hb=>?_,I.bs,NH I.ok.bsz I.sz,fun b o e hb=>?_,fun b hb z=>?_,I.stack,I.stkFree⟩
  ·have hx':scope.names.lookup x=some .free:=by
    rcases hx with hx | hx
    ·rcases rJ hx with q | q
     ·exact absurd q (noown x)
     ·exact q.2
    ·rcases rJ hx with q | q
     ·exact q
     ·exact q.2
   obtain ⟨c,hc'⟩:=hcells _ (Of hx') rfl
   exact ⟨c,zj (Of hx') hc'⟩
  ·refine ⟨?_,fun x c e=>(hf b hb).2.2.2.2.1 x c (gH e)⟩
   show b≠C
   exact pV (lt b hb) (by omega)
  ·rcases (hf b hb).2.2.2.1 with z | z
   ·exact I.ok.noex b o e z
   ·exact absurd (Nv (Na e) (NH I.ok.bsz z)) (OQ _)
  ·rcases M6.mp (I.stkSub b z) with q | q
   ·exact (hf b hb).2.1 q
   ·exact (hf b hb).2.2.1 q
 have locs:∀ h':Heap,(∀ x c o,X.env.cells.lookup x=some c->s.heap.get? c=some o->∃ sl,h'.get? c=some { o with slots:=sl })->
   ∀ (i:Nat) (x:Str) (v:V),N[i]?=some x->(sub ix σ)[i]?=some (some v)->∃ u,aM v u/\∀ m,KY (TV scope (fL X.env scope.names []) C X.env) h' m x u:=by
  intro h' hk i x v h1 h2
  obtain ⟨k,hk',hv⟩:∃ k,ix[i]?=some (some k)/\σ[k]?=some (some v):=by
   unfold sub at h2
   rw [Ng] at h2
   cases e:ix[i]? with
   | none=>rw [e] at h2; cases h2
   | some o=>
    rw [e] at h2
    cases o with
    | none=>cases h2
    | some k=>
     refine ⟨k,rfl,?_⟩
     have h2':(match σ[k]? with | some v=>v | none=>none)=some v:=Nf h2
     cases e2:σ[k]? with
     | none=>rw [e2] at h2'; cases h2'
     | some z=>
      rw [e2] at h2'
      rw [show z=some v from h2']
  have hm:(x,some k)∈N.zip ix:=by
   refine M9 (i:=i) ?_
   rw [Pn]
   exact ⟨h1,hk'⟩
  obtain ⟨a1,a2⟩:=S.at_ _ hm k (by simp)
  have hX:=S.free _ (Of a2) rfl
  have hvis:Vis X.env.scope x:=by
   show _\/_\/_
   rw [hsc]
   exact .inr hX
  obtain ⟨m,hn,hl⟩:=I.loc
  obtain ⟨u,r,l⟩:=hl k x v (by rw [hNX]; exact a1) hv hvis
  refine ⟨u,r,fun m'=>.inr ⟨Be a2,?_⟩⟩
  rcases l with ⟨l,_⟩ | ⟨_,c,e,z⟩
  ·have l':X.env.scope.names.lookup x=some .local:=l
   rw [hsc] at l'
   rcases hX with q | q <;> (rw [q] at l'; cases l')
  ·obtain ⟨o,ho,hd⟩:=z
   obtain ⟨sl,e'⟩:=hk x c o e ho
   exact ⟨c,zj (Of a2) e,_,e',hd⟩
 have hlen:(sub ix σ).length=N.length:=by
  unfold sub
  rw [MY]
  exact S.len
 have I1:Inv (cQ X N scope C s H fp) [] (sub ix σ) (upd H p (.lst [])) { s with heap:=h₁,toks:=s.toks + ([]:List (Str×Value)).length }:=by
  refine ⟨hok,rfl,I.bare,Un.laid old (Ri hp) hfp,⟨_,hns₁,fun i x v h1 h2 h3=>?_⟩,fun x c e=>?_,?_,fun x c e=>?_,fun q hq=>(nomatch hq),I.hok.laid old (Ri hp) ⟨N3 _,[],0,.nil,hnew⟩,hlen⟩
  ·obtain ⟨u,r,l⟩:=locs h₁ (fun y c o _ ho=>⟨o.slots,old c o ho⟩) i x v h1 h2
   exact ⟨u,r,l _⟩
  ·obtain ⟨v,o,ho,hd⟩:=I.cell x c (gH e)
   exact ⟨v,o,old c o ho,hd⟩
  ·show upd H p _ C=none
   rw [aS (OC pC)]
   exact hfC
  ·have e':=gH e
   obtain ⟨v,o,ho,hd⟩:=I.cell x c e'
   rw [aS (pV (Na ho) (Ri hp))]
   exact I.freeC x c e'
 have back:∀ {pl:List (Addr×Obj)} {σ':St} {H':Hp} {s':Shared},Inv (cQ X N scope C s H fp) pl σ' H' s'->Inv (cQ X N scope C s H fp) pl (sub ix σ) H' s':=fun {pl σ' H' s'} J=>by
  obtain ⟨m,hn,_⟩:=J.loc
  refine ⟨J.ok,J.os,J.bare,J.base,⟨m,hn,fun i x v h1 h2 h3=>?_⟩,J.cell,J.free,J.freeC,J.pin,J.hok,hlen⟩
  obtain ⟨u,r,l⟩:=locs s'.heap (fun y c o hc' ho=>J.base.any ho (I.freeC y c hc') fun hb=>(hf c hb).2.2.2.2.1 y c hc' rfl) i x v h1 h2
  exact ⟨u,r,l _⟩
 obtain ⟨W,⟨m0,w0⟩,turn⟩:=hq p hfp
 have st1:tn 0 h₁:=T.keep 0 _ _ st fun b _ o e=>old b o e
 have fp1:∀ {H':Hp},(∀ b∈fp,H' b=none)->∀ b∈fp,lJ (cQ X N scope C s H fp) [] H' b:=fun {H'} hn b hb=>
  ⟨hn b hb,(hok.exf b hb).1,hok.exfs b hb,.inl hb,(hok.exf b hb).2,fun q hq=>(nomatch hq)⟩
 have loop:codeAny (model X.prog X.w) X.A (.compLoop (.ListComp elt [⟨tg,iter,ifs,0⟩] scope pos) 0 (.ref it) (.ref p) (TV scope (fL X.env scope.names []) C X.env)) (RR (.ref p) C) { s with heap:=h₁,toks:=s.toks + ([]:List (Str×Value)).length }:=by
  refine F2 (fun n s'=>∃ i acc H',Inv (cQ X N scope C s H fp) [] (sub ix σ) H' s'/\tn i s'.heap/\(∀ b∈fp,H' b=none)/\W i n acc H') ?_ m0
   ⟨0,[],_,I1,st1,fun b hb=>by rw [aS (pV (lt b hb) (M1 _))]; exact (hf b hb).1,w0⟩
  rintro n s3 ⟨i,acc,H3,I3,st3,fr3,w3⟩
  obtain ⟨hacc,w4⟩:=turn C s H fp i n acc H3 w3
  rcases w4 with ⟨stop,qn⟩ | ⟨go,hln,N',hN',step⟩
  ·refine thn (T.done (cQ X N scope C s H fp) rfl rfl rfl hc i [] s3 _ H3 (fun _ _=>False) I3 (fp1 fr3) st3 stop) fun r s4 ⟨hr,I4⟩=>?_
   subst hr
   obtain ⟨m,hn,_⟩:=I4.loc
   refine hR p C s4 H3 m (by omega) (by omega) hn I4.free qn ?_
   exact I.call' I4.os I4.base I4.hok I4.bare fun b hb=>⟨(hf b hb).2.2.2.1,(hf b hb).2.1,(hf b hb).2.2.2.2.1,(hf b hb).2.2.2.2.2⟩
  ·refine thn (T.item (cQ X N scope C s H fp) rfl rfl rfl hc i [] s3 _ H3 (fun _ _=>False) I3 (fp1 fr3) st3 go) fun r s4 ⟨u,hr,h4⟩=>?_
   subst hr
   refine thn h4 fun _ s5 ⟨x,H5,I5,r5,y5,st5,fr5⟩=>?_
   have I5':=I5.pinned (fp1 fr5) (T.obj _ _ st5)
   refine thn (hg C s H fp _ s5 _ H5 x u _ I5' r5 (step x H5 y5)) fun _ s6 ⟨σ6,H6,I6,q6⟩=>?_
   have later:∀ {s7:Shared} {H7:Hp} {acc':List V} {σ7:St},Inv (cQ X N scope C s H fp) ([]++rB fp s5.heap) σ7 H7 s7->(∃ m',m' < n/\W (i + 1) m' acc' H7)->
     ∃ m,m < n/\∃ i acc H',Inv (cQ X N scope C s H fp) [] (sub ix σ) H' s7/\tn i s7.heap/\(∀ b∈fp,H' b=none)/\W i m acc H':=fun {s7 H7 acc' σ7} I7 ⟨m',hm,w7⟩=>by
    refine ⟨m',hm,i + 1,acc',H7,back (I7.unpinned (pins:=[])),T.keep _ _ _ st5 fun b hb o e=>(I7.pin (b,o) (NU _ (NU _ (mn hb e)))).1,fun b hb=>?_,w7⟩
    obtain ⟨o,e,d⟩:=T.obj _ _ st5 b hb
    exact (I7.pin (b,o) (NU _ (NU _ (mn hb e)))).2.1
   refine thn (ht C s H fp _ s6 σ6 H6 _ I6 q6) fun ok s7 ⟨H7,I7,q7⟩=>?_
   cases ok with
   | false=>exact later I7 (hN' _ _ q7)
   | true=>
    refine thn (he C s H fp _ s7 σ6 H7 _ I7 q7) fun y s8 ⟨v8,H8,I8,r8,hacc8,w8⟩=>?_
    refine thn (fX (X:=cQ X N scope C s H fp) _ s8 σ6 H8 (.ref p) [v8] (.ref p) [y] (fun _ H9=>H9=upd H8 p (.lst (acc++[v8]))) I8 rfl (.cons r8 .nil) ⟨p,acc,v8,rfl,rfl,hacc8,hln,rfl⟩) fun _ s9 ⟨_,H9,I9,_,e9⟩=>?_
    subst e9
    exact later I9 (hN' _ _ w8)
 exact codeAny_compStart_list loop (T.self _ 0 _ _ _ st1 loop)
theorem bo (hc:X.calm=true) (S:rH sc scope NX N ix) (hi:PI X tg iter wi)
  (hg:∀ C s H fp,PG (cQ X N scope C s H fp) tg (g C s H fp)) (ht:∀ C s H fp,PTL (cQ X N scope C s H fp) ifs (tt C s H fp)) (he:∀ C s H fp,PE (cQ X N scope C s H fp) elt (te C s H fp))
  (hsc:X.env.scope=sc:=by rfl) (hNX:X.N=NX:=by rfl) (hs:∀ x,Sd iter X.env x=pure x:=by intro _; rfl):
  PE X (.ListComp elt [⟨tg,iter,ifs,0⟩] scope pos) (bu wi g tt te ix):=by
 intro pins s σ H Q I h
 rw [eval_ListComp]
 have hcells:TU scope X.env=pure (fL X.env scope.names []):=v4 fun y hy hk=>by
  refine I.ok.has y.1 ?_
  show X.env.scope.names.lookup y.1=some .cell\/X.env.scope.names.lookup y.1=some .free
  rw [hsc]
  exact S.free y hy hk
 refine SD (use:=none) rfl hs hcells S.kind S.names (thn (hi pins s σ H _ I h) fun v s1 h1=>thn h1 fun itv s2 h2=>?_)
 obtain ⟨it,fp,tn,J,H2,e,I2,T,st2,f2,hq⟩:=h2
 subst e
 refine wa (Q:=Q) (RR:=fun acc C=>compPost (model X.prog X.w) X.A X.xe none (EP X pins σ Q) acc C) hc hsc hNX S hg ht he I2 T st2 f2 hq ?_
 intro p C s' H' m hp hC hn hfree q I'
 exact ⟨m,hn,fun h'' hs''=>⟨.ref p,H',I'.gone I2 hC hfree hs'',rfl,q⟩⟩
theorem jy {i:Nat} {y:Str} {py spos:Pos} (hN:X.N.Nodup) (hy:X.N[i]?=some y) (hl:X.env.scope.names.lookup y=some .local) (hc:X.calm=true) (S:rH sc scope NX N ix) (hi:PI X tg iter wi)
  (hg:∀ C s H fp,PG (cQ X N scope C s H fp) tg (g C s H fp)) (ht:∀ C s H fp,PTL (cQ X N scope C s H fp) ifs (tt C s H fp)) (he:∀ C s H fp,PE (cQ X N scope C s H fp) elt (te C s H fp))
  (hsw:Uo (.ListComp elt [⟨tg,iter,ifs,0⟩] scope pos) (some (.Name y py)) spos.line X.env=pure true:=by rfl)
  (hsc:X.env.scope=sc:=by rfl) (hNX:X.N=NX:=by rfl) (hs:∀ x,Sd iter X.env x=pure x:=by intro _; rfl):
  PS X (.Assign [.Name y py] (.ListComp elt [⟨tg,iter,ifs,0⟩] scope pos) spos) (aH (bu wi g tt te ix) (aj i)):=by
 intro pins s σ H D I h
 rw [exec_Assign_Name_used _ _ _ _ hsw]
 have hcells:TU scope X.env=pure (fL X.env scope.names []):=v4 fun z hz hk=>by
  refine I.ok.has z.1 ?_
  show X.env.scope.names.lookup z.1=some .cell\/X.env.scope.names.lookup z.1=some .free
  rw [hsc]
  exact S.free z hz hk
 refine MV (T6 (MV ?_))
 show wpAny _ X.A (do let _ <-comprehension (.ListComp elt [⟨tg,iter,ifs,0⟩] scope pos) scope X.env _ (newList []) false (eval iter X.env) (some (assign (.Name y py) X.env))) _ _ s
 refine MV (thn (SD (use:=some (assign (.Name y py) X.env)) (Q:=fun _ s'=>SP X pins D .next s') rfl hs hcells S.kind S.names (thn (hi pins s σ H _ I h) fun v s1 h1=>thn h1 fun itv s2 h2=>?_)) fun _ s' q=>MX (MX q))
 obtain ⟨it,fp,tn,J,H2,e,I2,T,st2,f2,hq⟩:=h2
 subst e
 refine wa (Q:=fun x H1=>aj i x σ H1 D.nx) (RR:=fun acc C=>compPost (model X.prog X.w) X.A X.xe (some (assign (.Name y py) X.env)) (fun _ s'=>SP X pins D .next s') acc C) hc hsc hNX S hg ht he I2 T st2 f2 hq ?_
 intro p C s' H' m hp hC hn hfree q I'
 refine UF (zb (v:=.ref p) I' hN hy (.inl hl) rfl (fun s'' I'' ⟨a,hsb,ha⟩=>?_) (.inr hl))
 have ne:C≠a:=by
  rcases ha with rfl | ha
  ·exact Pe (Nv I2.lt hC)
  ·obtain ⟨v,o,ho,_⟩:=I2.cell y a ha
   exact Pe (Nv (Na ho) hC)
 exact ⟨m,hn.sameBut hsb ne,fun h'' hs''=>⟨_,H',I''.gone I2 hC hfree hs'',q⟩⟩
end
section
variable {g:CF TG} {tt:CF TT} {te:CF TE} {σ₀:St} {p:Addr} {Q:VK} {H:Hp}
theorem oT {J:It} {n:Nat} {Y:Nat->Hp->V->Hp->Prop} (Pv:Nat->List V->Hp->Prop) (h0:Pv 0 [] (upd H p (.lst []))) (hp:∀ i acc H,i<=n->Pv i acc H->H p=some (.lst acc)/\acc.length<=i) (hz:n<=Nb)
  (hgo:∀ i acc H,i < n->Pv i acc H->J.go i H) (hst:∀ acc H,Pv n acc H->J.stop n H) (hy:∀ i acc H x H1,i < n->Pv i acc H->J.yld i H x H1->Y i H x H1)
  (hs:∀ C s' H' fp,∀ i x acc H H1,i < n->Pv i acc H->Y i H x H1->g C s' H' fp x σ₀ H1 fun σ2 H2=>tt C s' H' fp σ2 H2 fun b H3=>if b=true then te C s' H' fp σ2 H3 fun y H4=>H4 p=some (.lst acc)/\Pv (i + 1) (acc++[y]) (upd H4 p (.lst (acc++[y]))) else Pv (i + 1) acc H3)
  (hd:∀ acc H,Pv n acc H->Q (.ref p) H):
  ∃ W:Nat->Nat->List V->Hp->Prop,(∃ m,W 0 m [] (upd H p (.lst [])))/\∀ C s' H' fp,bO J (g C s' H' fp) (tt C s' H' fp) (te C s' H' fp) σ₀ p Q W:=by
 refine ⟨fun i m acc H=>m=n - i/\i<=n/\Pv i acc H,⟨n,by simp,N3 _,h0⟩,?_⟩
 rintro C s' H' fp i m acc H ⟨rfl,hi,w⟩
 obtain ⟨h1,h2⟩:=hp i acc H hi w
 refine ⟨h1,?_⟩
 by_cases hlt:i < n
 ·exact .inr ⟨hgo i acc H hlt w,by omega,Pv (i + 1),fun acc' H' q=>⟨n - (i + 1),by omega,rfl,hlt,q⟩,fun x H1 y=>hs C s' H' fp i x acc H H1 hlt w (hy i acc H x H1 hlt w y)⟩
 ·have e:i=n:=by omega
  subst e
  exact .inl ⟨hst acc H w,hd acc H w⟩
theorem zk {K:Fg} {a:Addr} {xs:List V} (Pv:Nat->List V->Hp->Prop) (h0:Pv 0 [] (upd H p (.lst []))) (hp:∀ i acc H,i<=xs.length->Pv i acc H->H p=some (.lst acc)/\acc.length<=i) (hl:∀ i acc H,i<=xs.length->Pv i acc H->SqL K H a xs) (hz:xs.length<=Nb)
  (hs:∀ C s' H' fp,∀ i x acc H,xs[i]?=some x->Pv i acc H->g C s' H' fp x σ₀ H fun σ2 H2=>tt C s' H' fp σ2 H2 fun b H3=>if b=true then te C s' H' fp σ2 H3 fun y H4=>H4 p=some (.lst acc)/\Pv (i + 1) (acc++[y]) (upd H4 p (.lst (acc++[y]))) else Pv (i + 1) acc H3)
  (hd:∀ acc H,Pv xs.length acc H->Q (.ref p) H):
  ∃ W:Nat->Nat->List V->Hp->Prop,(∃ m,W 0 m [] (upd H p (.lst [])))/\∀ C s' H' fp,bO (Itl K a) (g C s' H' fp) (tt C s' H' fp) (te C s' H' fp) σ₀ p Q W:=
 oT (Y:=fun i H x H1=>H1=H/\xs[i]?=some x) Pv h0 hp hz (fun i acc H hi w=>⟨xs,xs[i],hl i acc H (N4 hi) w,by simp [hi]⟩) (fun acc H w=>⟨xs,hl _ acc H (M1 _) w,M1 _⟩)
  (fun i acc H x H1 hi w y=>⟨y.1,y.2 xs (hl i acc H (N4 hi) w)⟩) (fun C s' H' fp i x acc H H1 hi w y=>by
   obtain ⟨e,y⟩:=y
   subst e
   exact hs C s' H' fp i x acc _ y w) hd
theorem Ht {K:Fg} {a:Addr} {xs:List V} (Pv:Nat->List V->Hp->Prop) (h0:Pv 0 [] (upd H p (.lst []))) (hp:∀ i acc H,i<=xs.length->Pv i acc H->H p=some (.lst acc)/\acc.length<=i) (hl:∀ i acc H,i<=xs.length->Pv i acc H->SqT K H a xs) (hz:xs.length<=Nb)
  (hs:∀ C s' H' fp,∀ i x acc H,xs[i]?=some x->Pv i acc H->g C s' H' fp x σ₀ H fun σ2 H2=>tt C s' H' fp σ2 H2 fun b H3=>if b=true then te C s' H' fp σ2 H3 fun y H4=>H4 p=some (.lst acc)/\Pv (i + 1) (acc++[y]) (upd H4 p (.lst (acc++[y]))) else Pv (i + 1) acc H3)
  (hd:∀ acc H,Pv xs.length acc H->Q (.ref p) H):
  ∃ W:Nat->Nat->List V->Hp->Prop,(∃ m,W 0 m [] (upd H p (.lst [])))/\∀ C s' H' fp,bO (Itt K a) (g C s' H' fp) (tt C s' H' fp) (te C s' H' fp) σ₀ p Q W:=
 oT (Y:=fun i H x H1=>H1=H/\xs[i]?=some x) Pv h0 hp hz (fun i acc H hi w=>⟨xs,xs[i],hl i acc H (N4 hi) w,by simp [hi]⟩) (fun acc H w=>⟨xs,hl _ acc H (M1 _) w,M1 _⟩)
  (fun i acc H x H1 hi w y=>⟨y.1,y.2 xs (hl i acc H (N4 hi) w)⟩) (fun C s' H' fp i x acc H H1 hi w y=>by
   obtain ⟨e,y⟩:=y
   subst e
   exact hs C s' H' fp i x acc _ y w) hd
theorem pY {lo:Int} {n:Nat} (Pv:Nat->List V->Hp->Prop) (h0:Pv 0 [] (upd H p (.lst []))) (hp:∀ i acc H,i<=n->Pv i acc H->H p=some (.lst acc)/\acc.length<=i) (hz:n<=Nb)
  (hs:∀ C s' H' fp,∀ i acc H,i < n->Pv i acc H->g C s' H' fp (.int (lo + i)) σ₀ H fun σ2 H2=>tt C s' H' fp σ2 H2 fun b H3=>if b=true then te C s' H' fp σ2 H3 fun y H4=>H4 p=some (.lst acc)/\Pv (i + 1) (acc++[y]) (upd H4 p (.lst (acc++[y]))) else Pv (i + 1) acc H3)
  (hd:∀ acc H,Pv n acc H->Q (.ref p) H):
  ∃ W:Nat->Nat->List V->Hp->Prop,(∃ m,W 0 m [] (upd H p (.lst [])))/\∀ C s' H' fp,bO (Itr lo n) (g C s' H' fp) (tt C s' H' fp) (te C s' H' fp) σ₀ p Q W:=
 oT (Y:=fun i H x H1=>H1=H/\x=.int (lo + i)) Pv h0 hp hz (fun i acc H hi w=>hi) (fun acc H w=>M1 _) (fun i acc H x H1 hi w y=>y) (fun C s' H' fp i x acc H H1 hi w y=>by
   obtain ⟨e,e2⟩:=y
   subst e e2
   exact hs C s' H' fp i acc _ hi w) hd
end
end
section
open PySem.Spec
section
variable {prog:Program} {w:World} {A:Around} {E:Value->Shared->Prop} {s:Shared}
theorem wb {jt t:Addr} {i:Nat} {its:Array Value} {y:Value} {Q:Value->Shared->Prop} (h1:s.heap.IsTupleIter jt t i) (h2:s.heap.IsTuple t its) (hy:its[i]?=some y)
  (k:∀ h',h'.IsTupleIter jt t (i + 1)->Nn jt s.heap h'->Q y { s with heap:=h' }):wpAny (model prog w) A (NQ (.ref jt)) Q E s:=by
 obtain ⟨o,ho,hc,hd⟩:=id h1
 obtain ⟨ot,hot,_,nt,hdt⟩:=h2
 unfold NQ
 refine MV (NY (name:=O1 "__next__") h1.typeIs PV (NP PV h1.typeIs RN ?_ (RC _)))
 show wpAny _ _ (field (.ref jt) 0 >>= _) _ _ s
 refine MV (N6 ho hd (x:=.ref t) rfl ?_)
 show wpAny _ _ (if (NA t == Ol)=true then _ else _) _ _ s
 rw [if_neg (show ¬ ((NA t == Ol)=true) from Nd)]
 show wpAny _ _ (field (.ref jt) 1 >>= _) _ _ s
 refine MV (N6 ho hd (x:=.int i 0) rfl ?_)
 show wpAny _ _ (seqItems? (.ref t) >>= _) _ _ s
 refine MV (Od hot hdt ?_)
 simp only [Qq,hy]
 refine MV (PB ho hd (by simp) (MX ⟨y,rfl,MX (k _ ?_ (N2 ..))⟩))
 exact ⟨_,N1 _ ho (Q9 (PF hd _)),(Sh ..).trans hc,by rw [PF hd]; simp [rawInt]⟩
theorem yk {jt t:Addr} {i:Nat} {its:Array Value} {Q:Value->Shared->Prop} (hh:A.handled=none) (h1:s.heap.IsTupleIter jt t i) (h2:s.heap.IsTuple t its) (hy:its[i]?=none)
  (k:∀ h' e,QD jt s.heap h'->(∃ o,h'.get? e=some o/\o.cls=.type "StopIteration")->E (.ref e) { s with heap:=h' }):wpAny (model prog w) A (NQ (.ref jt)) Q E s:=by
 obtain ⟨o,ho,hc,hd⟩:=id h1
 obtain ⟨ot,hot,_,nt,hdt⟩:=h2
 unfold NQ
 refine MV (NY (name:=O1 "__next__") h1.typeIs PV (NP PV h1.typeIs RN ?_ (RC _)))
 show wpAny _ _ (field (.ref jt) 0 >>= _) _ _ s
 refine MV (N6 ho hd (x:=.ref t) rfl ?_)
 show wpAny _ _ (if (NA t == Ol)=true then _ else _) _ _ s
 rw [if_neg (show ¬ ((NA t == Ol)=true) from Nd)]
 show wpAny _ _ (field (.ref jt) 1 >>= _) _ _ s
 refine MV (N6 ho hd (x:=.int i 0) rfl ?_)
 show wpAny _ _ (seqItems? (.ref t) >>= _) _ _ s
 refine MV (Od hot hdt ?_)
 simp only [Qq,hy]
 refine MV (Pi (MV (PB ho hd (by simp) ?_)))
 show wpAny _ _ (newExc (.type "StopIteration") [] >>= _) _ _ _
 refine MV ?_
 simp only [newExc,Vk]
 refine MV (Oa ?_ (by size_fits))
 refine MV (m:=firstArgMember _ _) (Tg (a:=Ol) (by first | rfl | (simp only [firstArgMember]; rfl)) ?_)
 refine Oa ?_ (by size_fits)
 simp only [raiseNew]
 refine MV (T9 ?_)
 first | rw [show A.in1.handled=none from hh] | rw [hh]
 refine MV (MX (UY ?_))
 exact k _ _ (((N2 ..).extBut.push _).push _) ⟨_,Nc _ rfl,rfl⟩
end
theorem CJ {prog:Program} {w:World} {A:Around} (hh:A.handled=none) (jt t:Addr) (hne:t≠jt) (its:Array Value):
  Draws prog w A jt [jt,t] its.size (fun i v=>its[i]?=some v) (fun i h=>h.IsTupleIter jt t i/\h.IsTuple t its) where
 live:=fun _ _ st=>let ⟨o,ho,_⟩:=st.1; ⟨o,ho⟩
 frame:=fun _ _ _ st hk=>⟨st.1.at fun o e=>hk jt (by simp) o e,let ⟨o,ho,r⟩:=st.2; ⟨o,hk t (by simp) o ho,r⟩⟩
 item:=fun i s Q E hi st hQ=>wb st.1 st.2 (y:=its[i]) (by simp [hi]) fun h' a b=>hQ _ h' s.toks (by simp [hi]) ⟨a,st.2.extBut b.extBut hne⟩ b
 done:=fun s Q E st hE=>yk hh st.1 st.2 (by simp) hE
theorem Inv.offBase {X:Cx} {pins:List (Addr×Obj)} {σ:St} {H:Hp} {s:Shared} {c:Addr} {o:Obj} (I:Inv X pins σ H s) (f:lJ X pins H c) (e:X.base.get? c=some o):False:=by
 rcases f.2.2.2.1 with z | z
 ·exact I.ok.noex c o e z
 ·exact absurd (Nv (Na e) (NH I.ok.bsz z)) (OQ _)
set_option genInjectivity false in
structure Src where
 Sq:Fg->Hp->Addr->List V->Prop
 Is:Heap->Addr->Array Value->Prop
 It:Heap->Addr->Addr->Nat->Prop
 icls:String
 get:∀ {X:Cx} {pins:List (Addr×Obj)} {σ:St} {H:Hp} {s:Shared} {a:Addr} {xs:List V},Inv X pins σ H s->Sq X.K H a xs->∃ its:List Value,aK xs its/\Is s.heap a its.toArray/\xs.length<=Nb
 inj:∀ {X:Cx} {pins:List (Addr×Obj)} {σ:St} {H:Hp} {s:Shared} {a:Addr} {xs ys:List V},Inv X pins σ H s->Sq X.K H a xs->Sq X.K H a ys->xs=ys
 off:∀ {X:Cx} {pins:List (Addr×Obj)} {σ:St} {H:Hp} {s:Shared} {a c:Addr} {xs:List V},Inv X pins σ H s->Sq X.K H a xs->lJ X pins H c->c≠a
 isSeq:∀ {h:Heap} {a:Addr} {its:Array Value},Is h a its->∃ o n,h.get? a=some o/\o.data=.seq its n
 isIt:∀ {h:Heap} {jt a:Addr} {i:Nat},It h jt a i->∃ o,h.get? jt=some o/\o.cls=.type icls/\o.data=.fields #[.ref a,.int i 0]
 mkI:∀ {h:Heap} {jt a:Addr} {i:Nat} {o:Obj},h.get? jt=some o->o.cls=.type icls->o.data=.fields #[.ref a,.int i 0]->It h jt a i
 itKeep:∀ {h h':Heap} {jt a:Addr} {i:Nat},It h jt a i->(∀ o,h.get? jt=some o->h'.get? jt=some o)->It h' jt a i
 isKeep:∀ {h h':Heap} {a:Addr} {its:Array Value},Is h a its->(∀ o,h.get? a=some o->h'.get? a=some o)->Is h' a its
 draws:∀ {prog:Program} {w:World} {A:Around},A.handled=none->∀ (jt a:Addr),a≠jt->∀ its:Array Value,Draws prog w A jt [jt,a] its.size (fun i v=>its[i]?=some v) (fun i h=>It h jt a i/\Is h a its)
 iter:∀ {prog:Program} {w:World} {A:Around} {E:Value->Shared->Prop} {s:Shared} {a:Addr} {its:Array Value} {Q:Value->Shared->Prop},Is s.heap a its->
  Q (.ref s.heap.objs.size) { s with heap:=s.heap.push { cls:=.type icls,data:=.fields #[.ref a,.int 0 0] } }->wpAny (model prog w) A (pyIter (.ref a)) Q E s
noncomputable def aQ:Src where
 Sq:=SqL
 Is:=fun h a its=>h.IsList a its
 It:=fun h jt a i=>h.IsListIter jt a i
 icls:="list_iterator"
 get:=fun I h=>let ⟨its,r,p,z⟩:=I.list h; ⟨its,r,p.isList,z⟩
 inj:=fun I h h'=>I.list_inj h h'
 off:=fun {X pins σ H s a c xs} I h f e=>by
  subst e
  rcases h with (h | ⟨o,h⟩) | ⟨o,its,n,hk,_⟩
  ·rw [f.1] at h; cases h
  ·rw [f.1] at h; cases h
  ·exact I.offBase f (I.ok.mod.kin _ _ hk)
 isSeq:=fun h=>let ⟨o,ho,_,n,hd⟩:=h; ⟨o,n,ho,hd⟩
 isIt:=fun h=>h
 mkI:=fun h1 h2 h3=>⟨_,h1,h2,h3⟩
 itKeep:=fun h k=>h.at k
 isKeep:=fun h k=>h.at k
 draws:=fun hh jt a hne its=>Draws.list hh jt a hne its
 iter:=fun h q=>Qp h q
noncomputable def ek:Src where
 Sq:=SqT
 Is:=fun h a its=>h.IsTuple a its
 It:=fun h jt a i=>h.IsTupleIter jt a i
 icls:="tuple_iterator"
 get:=fun I h=>let ⟨its,r,p,z⟩:=I.tuple h; ⟨its,r,p,z⟩
 inj:=fun I h h'=>I.tuple_inj h h'
 off:=fun {X pins σ H s a c xs} I h f e=>by
  subst e
  rcases h with (h | ⟨o,h⟩) | ⟨o,its,n,hk,_⟩
  ·rw [f.1] at h; cases h
  ·rw [f.1] at h; cases h
  ·exact I.offBase f (I.ok.mod.kin _ _ hk)
 isSeq:=fun h=>let ⟨o,ho,_,n,hd⟩:=h; ⟨o,n,ho,hd⟩
 isIt:=fun h=>h
 mkI:=fun h1 h2 h3=>⟨_,h1,h2,h3⟩
 itKeep:=fun h k=>h.at k
 isKeep:=fun h k=>let ⟨o,ho,r⟩:=h; ⟨o,k o ho,r⟩
 draws:=fun hh jt a hne its=>CJ hh jt a hne its
 iter:=fun h q=>Up h q
theorem Inv.turns {X:Cx} {pins:List (Addr×Obj)} {σ:St} {H:Hp} {s:Shared} {h':Heap} {t':Nat} {ch:List Addr} {T:Addr} {o:HO} (I:Inv X pins σ H s) (hf:∀ b∈ch,lJ X pins H b)
  (k:∀ b ob,b∉ch->s.heap.get? b=some ob->h'.get? b=some ob) (hT:s.heap.objs.size<=T) (new:bZ X.prog X.w (upd H T o) h' T o):Inv X pins σ (upd H T o) { s with heap:=h',toks:=t' }:=by
 have hn:H T=none:=I.hok.fresh hT
 have nc:∀ b u,H b=some u->b∉ch:=fun b u e z=>by
  have:=(hf b z).1
  rw [e] at this
  cases this
 refine I.step (g':=s.gens) (d':=s.drawn) (ch:=ch) (fun b hb=>⟨(hf b hb).2.2.2.1,(hf b hb).2.1,(hf b hb).2.2.2.2.1,(hf b hb).2.2.2.2.2⟩) (fun b ob _ _ hc e _=>k b ob hc e) (fun b ob _ _ hc e _=>⟨ob.slots,k b ob hc e⟩)
  (fun b ob _ e n=>?_) (fun b ob hc e=>⟨ob,k b ob hc e⟩) (fun b xs e=>?_) (fun b ob xs e=>?_) (fun b ps e=>⟨#[],?_⟩) (fun m hm=>?_) (fun b u e=>?_) I.bare
 ·rw [aS (pV (Na e) hT)]
  exact n
 ·rw [aS (bn e hn)]
  exact e
 ·rw [aS (bn e hn)]
  exact e
 ·rw [aS (bn e hn),e]
  simp
 ·obtain ⟨ob,es,ep,ho,r⟩:=hm
  exact ⟨ob,es,ep,k _ ob (fun z=>(hf _ z).2.1 rfl) ho,r⟩
 ·by_cases hb:b=T
  ·subst hb
   rw [az] at e
   cases e
   exact new
  ·rw [aS hb] at e
   refine (I.hok b u e).stay (fun c v hc q=>k c v ?_ q) (fun c q=>by rw [aS (bn q hn)]; exact q) fun c xs q=>by rw [aS (bn q hn)]; exact q
   rcases hc with z | z
   ·rw [z]; exact nc b u e
   ·exact nc c _ z
theorem Inv.turnsN {X:Cx} {pins:List (Addr×Obj)} {σ:St} {H:Hp} {s:Shared} {h':Heap} {t':Nat} {ch:List Addr} (I:Inv X pins σ H s) (hf:∀ b∈ch,lJ X pins H b)
  (k:∀ b ob,b∉ch->s.heap.get? b=some ob->h'.get? b=some ob):Inv X pins σ H { s with heap:=h',toks:=t' }:=by
 have nc:∀ b u,H b=some u->b∉ch:=fun b u e z=>by
  have:=(hf b z).1
  rw [e] at this
  cases this
 refine I.step (g':=s.gens) (d':=s.drawn) (ch:=ch) (fun b hb=>⟨(hf b hb).2.2.2.1,(hf b hb).2.1,(hf b hb).2.2.2.2.1,(hf b hb).2.2.2.2.2⟩) (fun b ob _ _ hc e _=>k b ob hc e) (fun b ob _ _ hc e _=>⟨ob.slots,k b ob hc e⟩)
  (fun b ob _ e n=>n) (fun b ob hc e=>⟨ob,k b ob hc e⟩) (fun b xs e=>e) (fun b ob xs e=>e) (fun b ps e=>⟨#[],by rw [e]; simp⟩) (fun m hm=>?_) (fun b u e=>?_) I.bare
 ·obtain ⟨ob,es,ep,ho,r⟩:=hm
  exact ⟨ob,es,ep,k _ ob (fun z=>(hf _ z).2.1 rfl) ho,r⟩
 ·refine (I.hok b u e).stay (fun c v hc q=>k c v ?_ q) (fun c q=>q) fun c xs q=>q
  rcases hc with z | z
  ·rw [z]; exact nc b u e
  ·exact nc c _ z
noncomputable def Ite (S:Src) (K:Fg) (a:Addr):It:=
 ⟨fun i H=>∃ xs x,S.Sq K H a xs/\xs[i]?=some x,fun i H x H'=>∃ T v,H T=none/\x=.ref T/\H'=upd H T (.tup [.int i,v])/\∀ xs,S.Sq K H a xs->xs[i]?=some v,fun i H=>∃ xs,S.Sq K H a xs/\xs.length=i⟩
theorem F3 {P:Program} {w:World} {K:Fg} {elts:List Expr} {k0:Nat} {pos:Pos} (S:Src) (a e it:Addr) (hl:S.icls≠"enumerate"):
  uW P w K (.Tuple elts k0 pos) (Ite S K a) [e,it] e (fun i h=>(∃ old,IsEnum h e it i old)/\S.It h it a i) where
 mem:=by simp
 obj:=fun i h st b hb=>by
  obtain ⟨⟨old,he⟩,hi⟩:=st
  rcases M6.mp hb with rfl | hb
  ·exact ⟨_,he,fun v z=>nomatch z⟩
  ·obtain rfl:=M0.mp hb
   obtain ⟨o,ho,_,hd⟩:=S.isIt hi
   exact ⟨o,ho,fun v z=>by rw [hd] at z; cases z⟩
 keep:=fun i h h' st k=>by
  obtain ⟨⟨old,he⟩,hi⟩:=st
  exact ⟨⟨old,k e (by simp) _ he⟩,S.itKeep hi fun o q=>k it (by simp) o q⟩
 item:=by
  intro X hP hw hK hc i pins s σ H E I hf st hg
  subst hP hw hK
  obtain ⟨xs,x,hq,hx⟩:=hg
  obtain ⟨its,rv,p,hz⟩:=S.get I hq
  obtain ⟨⟨old,he⟩,hi⟩:=st
  obtain ⟨u,hu,ru⟩:=rv.get hx
  obtain ⟨oa,na,hoa,hda⟩:=S.isSeq p
  obtain ⟨oi,hoi,hci,hdi⟩:=S.isIt hi
  have nei:e≠it:=fun z=>by
   have he':s.heap.get? e=some _:=he
   rw [z,hoi] at he'
   cases he'
   exact hl (by simpa using hci.symm)
  have nae:e≠a:=S.off I hq (hf e (by simp))
  have nai:a≠it:=fun z=>by
   rw [z,hoi] at hoa
   cases hoa
   rw [hdi] at hda
   cases hda
  have hlt:i < its.toArray.size:=by
   have:=(M4.mp hu).1
   simpa using this
  refine wpAny_pyNext_enum_itemD (S.draws (A:=X.A.in1) (show X.A.in1.handled=none from I.ok.hd hc) it a nai its.toArray) he ⟨hi,p⟩ hlt nei (by simp [nei,nae]) fun y h1 tk hP ho hs1 hT hsz hk=>⟨_,rfl,?_⟩
  have hy:y=u:=by
   have:its.toArray[i]?=some u:=by simpa using hu
   rw [this] at hP
   exact (Nf hP).symm
  subst hy
  refine wpAny_letOwnedTupleGo_enum ho fun h2 he2 hs2=>?_
  have elt:e < s.heap.objs.size:=Na he
  have hT2:h2.get? s.heap.objs.size=some { cls:=.type "tuple",data:=.seq #[.int i tk,y] }:=hs2.extBut _ _ (K8 (M1 _) elt) hT
  have kept:∀ b ob,b∉[e,it]->s.heap.get? b=some ob->h2.get? b=some ob:=fun b ob hb q=>by
   have h1':b≠e:=fun z=>hb (by simp [z])
   exact hs2.extBut _ _ h1' (hk b ob h1' (fun z=>hb (by simp [z])) q)
  refine ⟨.ref s.heap.objs.size,upd H s.heap.objs.size (.tup [.int i,x]),?_,rfl,⟨_,x,I.fresh,rfl,rfl,fun ys hy=>by rw [S.inj I hy hq]; exact hx⟩,⟨⟨_,he2⟩,S.itKeep hs1.1 fun o q=>hs2.extBut _ _ (OC nei) q⟩,fun b hb=>?_⟩
  ·refine I.turns (t':=tk + 1) hf kept (M1 _) ⟨(by show 2<=Nb; decide),[.int i tk,y],.cons ⟨tk,rfl⟩ (.cons ru .nil),_,hT2,rfl,⟨0,rfl⟩,rfl⟩
  ·have lt:b < s.heap.objs.size:=by
    rcases M6.mp hb with rfl | hb
    ·exact elt
    ·obtain rfl:=M0.mp hb
     exact Na hoi
   rw [aS (pV lt (M1 _))]
   exact (hf b hb).1
 done:=by
  intro X hP hw hK hc i pins s σ H E I hf st hg
  subst hP hw hK
  obtain ⟨xs,hq,hx⟩:=hg
  obtain ⟨its,rv,p,hz⟩:=S.get I hq
  obtain ⟨⟨old,he⟩,hi⟩:=st
  obtain ⟨oa,na,hoa,hda⟩:=S.isSeq p
  obtain ⟨oi,hoi,hci,hdi⟩:=S.isIt hi
  have nai:a≠it:=fun z=>by
   rw [z,hoi] at hoa
   cases hoa
   rw [hdi] at hda
   cases hda
  have hsz:i=its.toArray.size:=by
   have:=rv.length
   simp only [Nj]
   omega
  subst hsz
  exact wpAny_pyNext_enum_endD (S.draws (A:=X.A.in1) (show X.A.in1.handled=none from I.ok.hd hc) it a nai its.toArray) he ⟨hi,p⟩ fun h' hx'=>⟨rfl,I.turnsN (t':=s.toks) hf fun b ob hb q=>hx' b ob (fun z=>hb (by simp [z])) q⟩
 self:=fun _ _ _ _ _ st h=>by
  obtain ⟨⟨old,he⟩,_⟩:=st
  exact UJ he h
section
variable {X:Cx} {elts:List Expr} {k0:Nat} {tpos:Pos}
theorem Hu (S:Src) (l:Addr) (its:Array Value):
  Meets (Builtin.«enumerate.__new__» ⟨[.type "enumerate",.ref l],[]⟩) (fun _ R s=>S.Is s.heap l its/\
   R (.ok (.ret (.ref (s.heap.push { cls:=.type S.icls,data:=.fields #[.ref l,.int 0 0] }).objs.size)))
    { s with heap:=(s.heap.push { cls:=.type S.icls,data:=.fields #[.ref l,.int 0 0] }).push { cls:=.type "enumerate",data:=.fields #[.none,.bool false,.ref s.heap.objs.size,rawInt 0,.none,.none] } }):=
 .of_wp fun prog w A R s h=>by
  obtain ⟨hp,g,d,tk,os⟩:=s
  obtain ⟨hl,h⟩:=h
  have hsub:=sub_enumerate
  have hL:S.Is (UZ ⟨hp,g,d,tk,os⟩) l its:=hl
  wp_walk
  refine wpAny_stack_any fun st=>MX ?_
  split
  ·rename_i c _ _ _ _ _
   cases (c == Om "enumerate")
   ·wp_walk using S.iter hL
    exact ⟨_,rfl,h⟩
   ·wp_walk using S.iter hL
    exact ⟨_,rfl,h⟩
  ·wp_walk using S.iter hL
   exact ⟨_,rfl,h⟩
theorem F4 (S:Src) {prog:Program} {w:World} {A:Around} {E:Value->Shared->Prop} {s:Shared} {l:Addr} {its:Array Value} {Q:Value->Shared->Prop} (hL:S.Is s.heap l its)
  (h:∀ h',IsEnum h' (s.heap.objs.size + 1) s.heap.objs.size 0 .none->S.It h' s.heap.objs.size l 0->(∀ b o,s.heap.get? b=some o->h'.get? b=some o)->Q (.ref (s.heap.objs.size + 1)) { s with heap:=h' }):
  wpAny (model prog w) A (call (.type "enumerate") [.ref l]) Q E s:=by
 refine Uy F.called_enumerate (by decide) (F.typeCall_enumerate_1 _) (F.newCall_enumerate_1 _) (fun obj=>F.args_object_init_2 obj _) F.entry_enumerate_new (Hu S l its) ⟨hL,?_⟩
 have hz:(s.heap.push { cls:=.type S.icls,data:=.fields #[.ref l,.int 0 0] }).objs.size=s.heap.objs.size + 1:=NV ..
 show _/\_
 rw [hz]
 have he:=Nc (s.heap.push { cls:=.type S.icls,data:=.fields #[.ref l,.int 0 0] }) (o:={ cls:=.type "enumerate",data:=.fields #[.none,.bool false,.ref s.heap.objs.size,rawInt 0,.none,.none] }) rfl
 rw [hz] at he
 exact ⟨⟨_,he,rfl⟩,h _ he (S.mkI (MW _ (Nc _ rfl)) rfl rfl) fun b o q=>MW _ (MW _ q)⟩
noncomputable def iZ (S:Src) (K:Fg) (ta:TA):TI:=fun σ H R=>ta σ H fun vs H1=>∃ a xs,vs=[.ref a]/\S.Sq K H1 a xs/\R (Ite S K a) H1
theorem gI (S:Src) {a:Expr} {ta:TA} {p pos:Pos} (hg:Gl X "enumerate") (hm:X.mg "enumerate"=none) (hS:S.icls≠"enumerate") (ha:PA X [a] ta) (hs:Nu [a] X.env=[(false,eval a X.env)]:=by rfl):
  PI X (.Tuple elts k0 tpos) (.Call (.Name "enumerate" p) [a] [] pos) (iZ S X.K ta):=by
 intro pins s σ H R I h
 refine Call_ (iR I hg hm boot_enumerate (Oq (thn (ha pos pins s σ H _ I h) fun us s1 ⟨vs,H1,I1,r1,q1⟩=>?_) hs rfl))
 obtain ⟨l,xs,e,hq,q⟩:=q1
 subst e
 obtain ⟨u,rfl,ru⟩:=r1.one
 cases ru
 obtain ⟨its,rv,p',hz⟩:=S.get I1 hq
 refine F4 S p' fun h' he hi kp=>UJ he ?_
 have I2:Inv X pins σ H1 { s1 with heap:=h' }:=I1.kept (t':=s1.toks) kp
 refine ⟨s1.heap.objs.size + 1,[s1.heap.objs.size + 1,s1.heap.objs.size],_,_,H1,rfl,I2,F3 S l _ _ hS,⟨⟨_,he⟩,hi⟩,fun b hb=>?_,q⟩
 have hb':s1.heap.objs.size<=b:=by
  rcases M6.mp hb with rfl | hb
  ·exact Pf _
  ·obtain rfl:=M0.mp hb
   exact M1 _
 exact I1.fpOk hb' (I1.hok.fresh hb')
end
end
section
open PySem.Spec
section
variable {X:Cx}
noncomputable def iN (K:Fg):List V->Hp->VK->Prop:=fun xs H Q=>∃ x T t b,xs=[x,.ty T]/\gc K H x t/\NR K t (.type T)=some b/\Q (.bl b) H
theorem da:dS X (.builtin "isinstance") (iN X.K):=by
 intro pins s σ H xs us Q I r h
 obtain ⟨x,T,t,b,rfl,ty,e,q⟩:=h
 obtain ⟨u,v,rfl,ru,rv⟩:=r.two
 cases (show v=Om T from rv)
 exact FP I ru ty e fun tk=>⟨.bl b,H,I.tok tk,rfl,q⟩
theorem uE (K:Fg):NR K (.type "int") (.type "int")=some true:=by unfold NR; rw [if_pos (beq_self_eq_true _)]
theorem rK (K:Fg):NR K (.type "int") (.type "bool")=some false:=by show (if (Om "int" == Om "bool")=true then some true else if S6 "bool"=true then (Ts "int").map (·.contains (.type "bool")) else none)=some false; decide +kernel
theorem zE (K:Fg):NR K (.type "bool") (.type "bool")=some true:=by unfold NR; rw [if_pos (beq_self_eq_true _)]
theorem kQ (K:Fg):NR K (.type "tuple") (.type "tuple")=some true:=by unfold NR; rw [if_pos (beq_self_eq_true _)]
theorem kS (K:Fg):NR K (.type "list") (.type "list")=some true:=by unfold NR; rw [if_pos (beq_self_eq_true _)]
theorem JZ:∀ (bs:List Bool),(Nw bs.length).all (fun i=>bs.getD i false)=bs.all id:=by
 intro bs
 induction bs with
 | nil=>rfl
 | cons b r ih=>
  rw [NC,Th,QA,Rl,QA]
  show (b && _)=(b && _)
  rw [<-ih]
  rfl
theorem J0 {bs:List Bool} {us:List Value} (r:aK (bs.map V.bl) us):us=bs.map N7:=by
 induction bs generalizing us with
 | nil=>cases r; rfl
 | cons b t ih=>
  cases r with
  | cons q r'=>
   rw [Np,<-ih r',show _=N7 b from q]
theorem Inv.walked {pins:List (Addr×Obj)} {σ:St} {H:Hp} {s:Shared} {h':Heap} {tk:Nat} {o:Obj} (I:Inv X pins σ H s) (hk:∀ b ob,b∉[s.heap.objs.size]->(s.heap.push o).get? b=some ob->h'.get? b=some ob):Inv X pins σ H { s with heap:=h',toks:=tk }:=
 I.kept fun b ob e=>hk b ob (fun z=>absurd (M0.mp z) (NF (Na e))) (MW _ e)
theorem nM (hc:X.calm=true):dS X (.builtin "all") (fun xs H Q=>∃ (p:Addr) (bs:List Bool),xs=[.ref p]/\SqL X.K H p (bs.map V.bl)/\Q (.bl (bs.all id)) H):=by
 intro pins s σ H xs us Q I r h
 obtain ⟨p,bs,rfl,hq,q⟩:=h
 obtain ⟨u,rfl,rx⟩:=r.one
 cases rx
 obtain ⟨its,rv,pl,hz⟩:=I.list hq
 have e:=J0 rv
 subst e
 refine call_all_walk (Qp pl.isList ⟨s.heap.objs.size,_,_,_,_,_,fun i=>bs.getD i false,rfl,VJ (show X.A.in1.handled=none from I.ok.hd hc) _ p (by obtain ⟨o,ho,_⟩:=pl.isList; exact NF (Na ho)) (bs.map N7).toArray,
  ⟨⟨_,Nc _ rfl,rfl,rfl⟩,pl.isList.push _⟩,?_,fun h' tk hk=>?_⟩)
 ·intro i v s' Q' E' hP hQ
  have hP':(bs.map N7)[i]?=some v:=by simpa using hP
  rw [Ng] at hP'
  cases e:bs[i]? with
  | none=>rw [e] at hP'; cases hP'
  | some b=>
   rw [e] at hP'
   cases hP'
   have:bs.getD i false=b:=by rw [Ni,e]; rfl
   have hQ':Q' (bs.getD i false) s':=hQ
   rw [this] at hQ'
   exact Pa hQ'
 ·refine ⟨.bl (bs.all id),H,I.walked hk,?_,q⟩
  show N7 _=N7 _
  rw [<-JZ]
  simp
theorem CK (ns:List Int):∀ k,k<=ns.length->preSum (fun i=>ns.getD i 0) k=(ns.take k).sum:=by
 intro k
 induction k with
 | zero=>intro _; simp [preSum]
 | succ k ih=>
  intro hk
  have hlt:k < ns.length:=hk
  rw [preSum,ih (N4 hlt),OF,Ox,MZ hlt,Ni,MZ hlt]
  simp
theorem lz (hc:X.calm=true):dS X (.builtin "sum") (fun xs H Q=>∃ (p:Addr) (ns:List Int),xs=[.ref p]/\SqL X.K H p (ns.map V.int)/\Q (.int ns.sum) H):=by
 intro pins s σ H xs us Q I r h
 obtain ⟨p,ns,rfl,hq,q⟩:=h
 obtain ⟨u,rfl,rx⟩:=r.one
 cases rx
 obtain ⟨its,rv,pl,hz⟩:=I.list hq
 have hlen:ns.length=its.length:=by have:=rv.length; simpa using this
 have ia:=pT rv
 refine call_sum_walkG (Qp pl.isList ⟨s.heap.objs.size,_,_,_,_,_,fun i=>ns.getD i 0,rfl,VJ (show X.A.in1.handled=none from I.ok.hd hc) _ p (by obtain ⟨o,ho,_⟩:=pl.isList; exact NF (Na ho)) its.toArray,
  ⟨⟨_,Nc _ rfl,rfl,rfl⟩,pl.isList.push _⟩,fun b hb=>?_,?_,fun h' tk t' hk=>?_⟩)
 ·have hp:p < s.heap.objs.size:=by
   obtain ⟨o,ho,_⟩:=pl.isList
   exact Na ho
  show b < (s.heap.push _).objs.size
  rw [NV]
  rcases M6.mp hb with rfl | hb
  ·exact OA _
  ·obtain rfl:=M0.mp hb
   exact Ou hp
 ·intro i v hP
  have hP':its[i]?=some v:=by simpa using hP
  have hlt:i < ns.length:=by
   have:=(M4.mp hP').1
   omega
  obtain ⟨u',hu',ru'⟩:=rv.get (x:=.int ns[i]) (i:=i) (by rw [Ng,MZ hlt] <;> rfl)
  rw [hP'] at hu'
  cases hu'
  obtain ⟨t,e⟩:=(show ∃ t,v=P3 ns[i] t from ru')
  refine ⟨t,?_⟩
  show v=P3 (ns.getD i 0) t
  rw [e,Ni,MZ hlt]
  rfl
 ·refine ⟨.int ns.sum,H,I.walked hk,⟨t',?_⟩,q⟩
  rw [show its.toArray.size=ns.length by simp; omega,CK ns _ (M1 _),NI]
noncomputable def EqE (x y:V) (b:Bool):Prop:=(ig x=true/\ig y=true/\b=eqV x y)\/(∃ a,x=.ref a/\y=.ref a/\b=true)
theorem EqE.at {A:Around} {s:Shared} {x y:V} {b:Bool} {u v:Value} (h:EqE x y b) (ru:aM x u) (rv:aM y v):ND A s u v b:=by
 rcases h with ⟨f1,f2,rfl⟩ | ⟨a,rfl,rfl,rfl⟩
 ·exact FS ru rv f1 f2
 ·cases ru
  cases rv
  exact S5 _
noncomputable def Eg (xs ys:List V) (e:Nat->Bool):Prop:=∀ j x y,xs[j]?=some x->ys[j]?=some y->EqE x y (e j)
theorem yl {A:Around} {s:Shared} {xs ys:List V} {e:Nat->Bool} {us vs:List Value} (h:Eg xs ys e) (ru:aK xs us) (rv:aK ys vs):
  ∀ j (h1:j < us.toArray.size) (h2:j < vs.toArray.size),ND A s us.toArray[j] vs.toArray[j] (e j):=by
 intro j h1 h2
 have h1':j < xs.length:=by rw [ru.length]; simpa using h1
 have h2':j < ys.length:=by rw [rv.length]; simpa using h2
 obtain ⟨u,eu,r1⟩:=ru.get (MZ h1')
 obtain ⟨v,ev,r2⟩:=rv.get (MZ h2')
 have q:=(h j _ _ (MZ h1') (MZ h2')).at (A:=A) (s:=s) r1 r2
 have e1:us.toArray[j]=u:=by
  have:=(M4.mp eu).2
  simpa using this
 have e2:vs.toArray[j]=v:=by
  have:=(M4.mp ev).2
  simpa using this
 rw [e1,e2]
 exact q
noncomputable def gP (xs ys:List V) (e:Nat->Bool):Bool:=(Nw (min xs.length ys.length)).all e && xs.length == ys.length
noncomputable def jz (Sq:Hp->Addr->List V->Prop) (neg:Bool):R2:=fun x y H Q=>∃ a b xs ys e,x=.ref a/\y=.ref b/\Sq H a xs/\Sq H b ys/\Eg xs ys e/\Q (.bl (if neg then !gP xs ys e else gP xs ys e)) H
theorem K9 (hu:X.A.units < cLine):OpR X (OU .Eq) (jz (SqT X.K) false):=by
 intro pins s σ H x y v u Q I r1 r2 h
 obtain ⟨a,b,xs,ys,e,rfl,rfl,ha,hb,he,q⟩:=h
 cases r1
 cases r2
 obtain ⟨us,ru,pu,_⟩:=I.tuple ha
 obtain ⟨vs,rv,pv,_⟩:=I.tuple hb
 refine SeqAt.eq_tupleAt (e:=e) pu pv hu (yl he ru rv) ⟨.bl (gP xs ys e),H,I,?_,q⟩
 show N7 _=N7 _
 unfold gP
 rw [Nj,Nj,ru.length,rv.length]
theorem F5 (hu:X.A.units < cLine):OpR X (OU .NotEq) (jz (SqT X.K) true):=by
 intro pins s σ H x y v u Q I r1 r2 h
 obtain ⟨a,b,xs,ys,e,rfl,rfl,ha,hb,he,q⟩:=h
 cases r1
 cases r2
 obtain ⟨us,ru,pu,_⟩:=I.tuple ha
 obtain ⟨vs,rv,pv,_⟩:=I.tuple hb
 refine SeqAt.RcNeAt.tuples (e:=e) pu pv hu (yl he ru rv) _ _ _ _ ⟨.bl (!gP xs ys e),H,I,?_,q⟩
 show N7 _=N7 _
 unfold gP
 rw [Nj,Nj,ru.length,rv.length]
theorem Bf (hu:X.A.units < cLine):OpR X (OU .Eq) (jz (SqL X.K) false):=by
 intro pins s σ H x y v u Q I r1 r2 h
 obtain ⟨a,b,xs,ys,e,rfl,rfl,ha,hb,he,q⟩:=h
 cases r1
 cases r2
 obtain ⟨us,ru,pu,_⟩:=I.list ha
 obtain ⟨vs,rv,pv,_⟩:=I.list hb
 have h1:=ru.length
 have h2:=rv.length
 by_cases hl:xs.length=ys.length
 ·refine SeqAt.eq_listAt (e:=e) pu.isList pv.isList (by simp only [Nj]; omega) hu (yl he ru rv) ⟨.bl (gP xs ys e),H,I,?_,q⟩
  show N7 _=N7 _
  unfold gP
  rw [Nj,<-h1,hl,PH,beq_self_eq_true,Bool.and_true]
 ·refine SeqAt.eq_list_lengthsAt pu.isList pv.isList (by simp only [Nj,bne_iff_ne]; omega) hu ⟨.bl (gP xs ys e),H,I,?_,q⟩
  show N7 _=N7 _
  unfold gP
  rw [beq_eq_false_iff_ne.mpr hl,RB]
end
theorem rL (ns ms:List Int):Eg (ns.map V.int) (ms.map V.int) (fun j=>decide (ns[j]?=ms[j]?)):=by
 intro j x y hx hy
 rw [Ng] at hx hy
 cases e1:ns[j]? with
 | none=>rw [e1] at hx; cases hx
 | some n=>
  cases e2:ms[j]? with
  | none=>rw [e2] at hy; cases hy
  | some m=>
   rw [e1] at hx
   rw [e2] at hy
   cases hx
   cases hy
   refine .inl ⟨rfl,rfl,?_⟩
   show decide (ns[j]?=ms[j]?)=(n == m)
   rw [e1,e2]
   by_cases h:n=m
   ·subst h; simp
   ·simp [h]
theorem pZ (ns ms:List Int):gP (ns.map V.int) (ms.map V.int) (fun j=>decide (ns[j]?=ms[j]?))=decide (ns=ms):=by
 unfold gP
 rw [MY,MY]
 by_cases h:ns=ms
 ·subst h
  simp
 ·rw [decide_eq_false h]
  by_cases hl:ns.length=ms.length
  ·rw [Bool.and_eq_false_iff]
   left
   rw [<-Vl,SE]
   intro q
   apply h
   apply Px
   intro j
   by_cases hj:j < ns.length
   ·have:=q j (by rw [OT]; omega)
    exact of_decide_eq_true this
   ·rw [NJ (by omega),NJ (by omega)]
  ·rw [beq_eq_false_iff_ne.mpr hl,RB]
end
section
open PySem.Spec
noncomputable def FnB (P:Program) (w:World) (K:Fg) (mg:Str->Option Value) (base:Heap) (k:Nat) (x:Str) (ps:List Str) (sp:Sp):Prop:=
 ∃ f fd,iM P w K mg base CX0 k f fd ps sp/\mg x=some (.ref f)/\Qs K (.ref f)=true/\gf K fd ps []
theorem ak {X:Cx} {k:Nat} {x:Str} {ps:List Str} {sp:Sp} {p pos:Pos} {e:Expr} {es:List Expr} {t:TA} (F:FnB X.prog X.w X.K X.mg X.base k x ps sp) (hr:cg k X.A) (ha:PA X (e :: es) t) (hg:Gl X x:=by rfl)
  (hdb:(x == ("__debug__":Str))=false:=by decide) (he:Nu (e :: es) X.env=(false,eval e X.env) :: Nu es X.env:=by rfl) (hpl:(backTo pos (Nu es X.env)).any (·.1)=false:=by rfl):
  PE X (.Call (.Name x p) (e :: es) [] pos) (av sp [] E0 t):=by
 obtain ⟨f,fd,ok,m,kp,b⟩:=F
 exact JS ok hr hg m kp b .nil AB ha hdb he hpl
structure Def (K:Fg) (mg:Str->Option Value) (x:Str) (st:Stmt) (ps:List Str) (f:Addr) (fd:Nk):Prop where
 fn:Fun K x x st f fd
 m:mg x=some (.ref f)
 b:gf K fd ps []
theorem Def.ok {P:Program} {w:World} {K:Fg} {mg:Str->Option Value} {base:Heap} {x:Str} {st:Stmt} {N ps:List Str} {f:Addr} {fd:Nk} {k:Nat} {sp:Sp} (D:Def K mg x st ps f fd) (S:aA N ps (ab st)) (len:∀ vs H Q E,sp vs H Q E->vs.length=ps.length)
  (hbody:∀ (cdv:Value) (A:Around) (outer:List Env) (s:Shared) (H:Hp) (vs:List V) (Q:VK) (E:XK),cg k (A.deeper (envOfC x (ab st) s.heap.objs.size f cdv))->sp vs H Q E->
   ∃ t,PSs (pR CX0 P w K mg base N x (ab st) f cdv A outer s H E).nox (fK st) t/\t { nx:=fun _ H'=>Q .non H',rt:=Q } (start N vs) H):FnB P w K mg base (k + 1) x ps sp:=
 ⟨f,fd,D.fn.ok S len hbody,D.m,D.fn.kp,D.b⟩
theorem fM {X:Cx}:OpR X (PU .Mult) (rI P8 fun i j=>.int (i * j)):=opI fun _ _ _ _ _ _ _ hc q=>mul_int q hc
theorem wc:∀ (ns:List Int),∀ n∈ns,NW n<=SQ (ns.map QW)
 | [],n,h=>(nomatch h)
 | m :: r,n,h=>by
  rw [Np,SQ]
  have e:Qy (.int m)=NW m:=by
   rw [Qy]
   rfl
  rw [e]
  rcases M6.mp h with rfl | h
  ·omega
  ·have:=wc r n h
   omega
theorem CL {ns:List Int} (h:SF [RO (ns.map QW)]=true):∀ n∈ns,NW n<=1048576:=by
 intro n hn
 have h1:Tt (RO (ns.map QW))=true:=by
  unfold SF at h
  rw [QA,ON] at h
  exact h.1
 unfold Tt at h1
 rw [ON] at h1
 have h2:Qy (RO (ns.map QW))<=2 ^ 20:=of_decide_eq_true h1.2
 rw [Qy] at h2
 have h3:=wc ns n hn
 have e:(2:Nat) ^ 20=1048576:=by decide
 omega
noncomputable def g0 (K:Fg) (H:Hp) (a:Addr) (ns:List Int):Prop:=SqL K H a (ns.map V.int)/\ns.length<=63/\∀ n∈ns,NW n<=1048576
noncomputable def we (K:Fg):Sp:=fun vs H Q _=>∃ (a:Addr) (ns:List Int),vs=[.ref a]/\g0 K H a ns/\∀ H',Q (.bl true) H'
theorem Hv {l:PySem.W.OpenLaw} {k:Nat} {q:Program} {loose:List Str} {XP:(Str->Option Value)->Heap->Prop} {YP:World->Heap->Prop} {d:DefRec} {K:Params->Fg} {x:Str}
  (hn:l.most=some 63) (hdf:d.params.defaults=[]) (hr:cg k callerA) (hY:∀ (w:World) (h:Heap),YP w h->(K w.params).In h)
  (F:∀ (w:World) (mg:Str->Option Value) (fa:Addr) (h:Heap),(K w.params).In h->h.Ns NB mg->mg d.name=some (.ref fa)->
   ∃ fd:Nk,(∀ (s:Shared) (u:Value),BindsTo s fd ⟨[u],[]⟩ [(x,u)])/\
    ∀ base:Heap,(K w.params).In base->base.Ns NB mg->iM l.prog w (K w.params) mg base CX0 k fa fd [x] (we (K w.params))):
  PySem.W.WalkO q loose XP YP l.row.toRowW d [] (fun f vs=>PySem.call f vs):=by
 intro w s₀ s₁ mg mb G Y fa o pm cd doc dV kV ho hd hcd hD hmg hg args vals as hpre hlay hrd hwl hlo
 obtain rfl:dV=.none:=PySem.W.Dflts.none hD hdf
 obtain rfl:kV=.none:=PySem.W.Dflts.noKw hD
 obtain ⟨a,vs,ns,rfl,rfl,hobj,hints,hlen⟩:=Att.FY hn hpre hwl
 have hbits:=CL hlay
 have KX:=hY w _ Y
 obtain ⟨fd,hb,hF⟩:=F w mg fa _ KX G.T.g hmg
 have c:=Hs KX G.T.g G.T.b G.T.builtins G.T.nolimit hg hobj hints (NH hlen (by decide)) hr hF hb (fun H hO hS=>⟨a,ns,rfl,⟨hS,hlen,hbits⟩,fun _=>rfl⟩) fun H e s' z=>z
 refine PySem.W.enter_call (Qt c fun r s' hq=>?_)
 obtain ⟨rfl,h2,h3,h4⟩:=hq
 exact ⟨.inl ⟨.bool true,.bool true,[],rfl,fun _=>rfl,.bool true,Att.FZ l _,fun _=>⟨List.Pairwise.nil,fun _ hm=>(nomatch hm)⟩⟩,h2,h3,h4⟩
theorem F6 {J:It} {n:Nat} {g:TG} {tb:TS} {D:kf} {σ:St} {H:Hp} {Y:Nat->Hp->V->Hp->Prop} (Pv:Nat->St->Hp->Prop) (h0:Pv 0 σ H) (hgo:∀ i σ H,i < n->Pv i σ H->J.go i H) (hst:∀ σ H,Pv n σ H->J.stop n H)
  (hy:∀ i σ H x H1,i < n->Pv i σ H->J.yld i H x H1->Y i H x H1) (hs:∀ i x σ H H1,i < n->Pv i σ H->Y i H x H1->g x σ H1 fun σ2 H2=>tb { D with nx:=Pv (i + 1),ct:=Pv (i + 1),bk:=D.nx } σ2 H2) (hd:∀ σ H,Pv n σ H->D.nx σ H):
  ∃ W:Nat->Nat->St->Hp->Prop,(∃ m,W 0 m σ H)/\∀ i m σ H,W i m σ H->
   (J.stop i H/\D.nx σ H)\/(J.go i H/\∃ N:St->Hp->Prop,(∀ σ' H',N σ' H'->∃ m',m' < m/\W (i + 1) m' σ' H')/\∀ x H',J.yld i H x H'->g x σ H' fun σ2 H2=>tb { D with nx:=N,ct:=N,bk:=D.nx } σ2 H2):=by
 refine ⟨fun i m σ H=>m=n - i/\i<=n/\Pv i σ H,⟨n,by simp,N3 _,h0⟩,?_⟩
 rintro i m σ H ⟨rfl,hi,p⟩
 by_cases hlt:i < n
 ·exact .inr ⟨hgo i σ H hlt p,Pv (i + 1),fun σ' H' p'=>⟨n - (i + 1),by omega,rfl,hlt,p'⟩,fun x H' y=>hs i x σ H H' hlt p (hy i σ H x H' hlt p y)⟩
 ·have e:i=n:=by omega
  subst e
  exact .inl ⟨hst σ H p,hd σ H p⟩
theorem Bg {S:Src} {K:Fg} {a:Addr} {xs:List V} {g:TG} {tb:TS} {D:kf} {σ:St} {H:Hp} (Pv:Nat->St->Hp->Prop) (h0:Pv 0 σ H) (hl:∀ i σ H,i<=xs.length->Pv i σ H->S.Sq K H a xs)
  (hs:∀ i x T σ H,xs[i]?=some x->Pv i σ H->H T=none->g (.ref T) σ (upd H T (.tup [.int i,x])) fun σ2 H2=>tb { D with nx:=Pv (i + 1),ct:=Pv (i + 1),bk:=D.nx } σ2 H2) (hd:∀ σ H,Pv xs.length σ H->D.nx σ H):
  ∃ W:Nat->Nat->St->Hp->Prop,(∃ m,W 0 m σ H)/\∀ i m σ H,W i m σ H->
   ((Ite S K a).stop i H/\D.nx σ H)\/((Ite S K a).go i H/\∃ N:St->Hp->Prop,(∀ σ' H',N σ' H'->∃ m',m' < m/\W (i + 1) m' σ' H')/\∀ x H',(Ite S K a).yld i H x H'->g x σ H' fun σ2 H2=>tb { D with nx:=N,ct:=N,bk:=D.nx } σ2 H2):=
 F6 (J:=Ite S K a) (n:=xs.length) (Y:=fun i H x H1=>∃ T v,H T=none/\x=.ref T/\H1=upd H T (.tup [.int i,v])/\xs[i]?=some v) Pv h0 (fun i σ H hi w=>⟨xs,xs[i],hl i σ H (N4 hi) w,by simp [hi]⟩) (fun σ H w=>⟨xs,hl _ σ H (M1 _) w,rfl⟩)
  (fun i σ H x H1 hi w y=>by
   obtain ⟨T,v,e1,e2,e3,e4⟩:=y
   exact ⟨T,v,e1,e2,e3,e4 xs (hl i σ H (N4 hi) w)⟩) (fun i x σ H H1 hi w y=>by
   obtain ⟨T,v,e1,rfl,rfl,e4⟩:=y
   exact hs i v T σ H e4 w e1) hd
theorem zl {S:Src} {K:Fg} {a:Addr} {xs:List V} {g:CF TG} {tt:CF TT} {te:CF TE} {σ₀:St} {p:Addr} {Q:VK} {H:Hp} (Pv:Nat->List V->Hp->Prop) (h0:Pv 0 [] (upd H p (.lst []))) (hp:∀ i acc H,i<=xs.length->Pv i acc H->H p=some (.lst acc)/\acc.length<=i) (hl:∀ i acc H,i<=xs.length->Pv i acc H->S.Sq K H a xs) (hz:xs.length<=Nb)
  (hs:∀ C s' H' fp,∀ i x T acc H,xs[i]?=some x->Pv i acc H->H T=none->g C s' H' fp (.ref T) σ₀ (upd H T (.tup [.int i,x])) fun σ2 H2=>tt C s' H' fp σ2 H2 fun b H3=>if b=true then te C s' H' fp σ2 H3 fun y H4=>H4 p=some (.lst acc)/\Pv (i + 1) (acc++[y]) (upd H4 p (.lst (acc++[y]))) else Pv (i + 1) acc H3)
  (hd:∀ acc H,Pv xs.length acc H->Q (.ref p) H):
  ∃ W:Nat->Nat->List V->Hp->Prop,(∃ m,W 0 m [] (upd H p (.lst [])))/\∀ C s' H' fp,bO (Ite S K a) (g C s' H' fp) (tt C s' H' fp) (te C s' H' fp) σ₀ p Q W:=
 oT (Y:=fun i H x H1=>∃ T v,H T=none/\x=.ref T/\H1=upd H T (.tup [.int i,v])/\xs[i]?=some v) Pv h0 hp hz (fun i acc H hi w=>⟨xs,xs[i],hl i acc H (N4 hi) w,by simp [hi]⟩) (fun acc H w=>⟨xs,hl _ acc H (M1 _) w,rfl⟩)
  (fun i acc H x H1 hi w y=>by
   obtain ⟨T,v,e1,e2,e3,e4⟩:=y
   exact ⟨T,v,e1,e2,e3,e4 xs (hl i acc H (N4 hi) w)⟩) (fun C s' H' fp i x acc H H1 hi w y=>by
   obtain ⟨T,v,e1,rfl,rfl,e4⟩:=y
   exact hs C s' H' fp i v T acc H e4 w e1) hd
theorem bg {H:Hp} {p:Addr} (h:H p=none) (o:HO):am H (upd H p o):=fun b u q=>by rw [aS (bn q h)]; exact q
theorem am.upd {H H':Hp} {p:Addr} (s:am H H') (h:H p=none) (o:HO):am H (upd H' p o):=fun b u q=>by rw [aS (bn q h)]; exact s b u q
theorem am.tup {K:Fg} {H H':Hp} {a:Addr} {xs:List V} (e:am H H') (h:SqT K H a xs):SqT K H' a xs:=by
 rcases h with (h | ⟨o,h⟩) | h
 ·exact .inl (.inl (e _ _ h))
 ·exact .inl (.inr ⟨o,e _ _ h⟩)
 ·exact .inr h
theorem small {n:Nat} (h:n<=1000):n<=Nb:=N4 (F1 h)
theorem Bh {ns:List Int} {k:Int} (h0:0<=k) (h1:k < (ns.length:Int)):atI (ns.map V.int) k=some (.int (ns.getD k.toNat 0)):=by
 have hk:k.toNat < ns.length:=by omega
 have e:k=((k.toNat:Nat):Int):=by omega
 have q:atI (ns.map V.int) ((k.toNat:Nat):Int)=some (.int (ns.getD k.toNat 0)):=cP (by rw [Ng,MZ hk,Ni,MZ hk] <;> rfl)
 rw [<-e] at q
 exact q
theorem jA {c:Bool} {A B:Prop} (h1:c=true->A) (h2:c=false->B):if c=true then A else B:=by
 cases c with
 | true=>rw [if_pos rfl]; exact h1 rfl
 | false=>rw [if_neg Nd]; exact h2 rfl
noncomputable def cz (ns:List Int) (k:Int):Int:=
 if k < (ns.length:Int) then ns.getD k.toNat 0 else
  let n0:=if 0 < (ns.length:Int) then ns.getD ((k * 7) % (ns.length:Int)).toNat 0 * 48271 + k * 7919 else k * 7919 + 5
  let n1:=n0 * n0 % 2147483629
  (n1 + k) * (n1 + 69621) % 2147483587
noncomputable def La (K:Fg):Sp:=fun vs H Q _=>∃ (a:Addr) (ns:List Int) (k:Int),vs=[.ref a,.int k]/\g0 K H a ns/\0<=k/\k<=1000000/\Q (.int (cz ns k)) H
theorem g0.same {K:Fg} {H H':Hp} {a:Addr} {ns:List Int} (h:g0 K H a ns) (s:am H H'):g0 K H' a ns:=⟨s.seq h.1,h.2⟩
structure Blt (mg:Str->Option Value):Prop where
 len:mg "len"=none
 range:mg "range"=none
 tuple:mg "tuple"=none
 list:mg "list"=none
 int:mg "int"=none
 bool:mg "bool"=none
 str:mg "str"=none
 dict:mg "dict"=none
 sum:mg "sum"=none
 all:mg "all"=none
 min:mg "min"=none
 max:mg "max"=none
 sorted:mg "sorted"=none
 enumerate:mg "enumerate"=none
 zip:mg "zip"=none
 isinstance:mg "isinstance"=none
theorem F7 {ns:List Int} (h:∀ n∈ns,NW n<=1048576) (i:Nat):NW (ns.getD i 0)<=1048576:=by
 rw [Ni]
 cases e:ns[i]? with
 | none=>show NW 0<=_; decide
 | some n=>exact h n (M9 e)
end
section
open PySem.Spec
structure jB (z TI TO j1 j2:Addr) (fp1 fp2:List Addr):Prop where
 a1:TI≠z
 a2:TO≠z
 a3:j1≠z
 a4:j2≠z
 a5:TI≠TO
 a6:TI≠j1
 a7:TI≠j2
 a8:TO≠j1
 a9:TO≠j2
 b0:j1≠j2
 b1:z∉fp1
 b2:TO∉fp1
 b3:j2∉fp1
 b4:z∉fp2
 b5:TO∉fp2
 b6:j1∉fp2
section
variable {prog:Program} {w:World} {A:Around} {E:Value->Shared->Prop} {s:Shared}
theorem _root_.PySem.Draws.but {it:Addr} {fp:List Addr} {n i:Nat} {P:Nat->Value->Prop} {St:Nat->Heap->Prop} {h h':Heap} {c:Addr} (D:Draws prog w A it fp n P St) (hst:St i h) (hs:Nn c h h') (hc:c∉fp):St i h':=
 D.frame i _ _ hst fun b hb o e=>hs.extBut b o (fun z=>hc (by rw [<-z]; exact hb)) e
theorem zm {z TI TO j1 j2:Addr} {fp1 fp2:List Addr} {n1 n2 k:Nat} {P1 P2:Nat->Value->Prop} {S1 S2:Nat->Heap->Prop} {a b:Value} {Q:Value->Shared->Prop} (Z:jB z TI TO j1 j2 fp1 fp2)
  (D1:Draws prog w A j1 fp1 n1 P1 S1) (D2:Draws prog w A j2 fp2 n2 P2 S2) (hz:IsZip s.heap z TI TO .none) (hTI:IsPair s.heap TI (.ref j1) (.ref j2)) (hTO:IsPair s.heap TO a b) (h1:S1 k s.heap) (h2:S2 k s.heap) (l1:k < n1) (l2:k < n2)
  (hQ:∀ x y h' tk,P1 k x->P2 k y->IsZip h' z TI TO (rawInt s.heap.objs.size)->(∃ a b,IsPair h' TO a b)->S1 (k + 1) h'->S2 (k + 1) h'->IsPair h' s.heap.objs.size x y->
   (∀ c o,c∉[z,TI,TO,j1,j2]->s.heap.get? c=some o->h'.get? c=some o)->IsPair h' TI (.ref j1) (.ref j2)->Q (.ref s.heap.objs.size) { s with heap:=h',toks:=tk }):
  wpAny (model prog w) A (Builtin.«zip.__next__» ⟨[.ref z],[]⟩) (fun fin s'=>∃ v,fin=.done (.ret v)/\Q v s') E s:=by
 obtain ⟨hp,g,d,tk₀,os⟩:=s
 show wpAny _ _ (field (.ref z) 2 >>= _) _ _ _
 refine MV (N6 hz rfl (x:=.bool false) rfl ?_)
 show wpAny _ _ (field (.ref z) 3 >>= _) _ _ _
 refine MV (N6 hz rfl (x:=.ref TI) rfl ?_)
 refine MV (Od hTI rfl ?_)
 show wpAny _ _ (NT (.ref z) >>= _) _ _ _
 refine MV ?_
 unfold NT
 refine MV (N6 hz rfl (x:=.none) rfl (MX ?_))
 simp only [if_true]
 refine MV (Pi ?_)
 refine MV (N6 hz rfl (x:=.ref TO) rfl ?_)
 refine MV (Pl hz (by simp) fun g1 hz1 hs1=>?_)
 replace hz1:IsZip g1 z TI TO .ellipsis:=hz1
 replace hs1:Nn z hp g1:=hs1
 refine MV ?_
 simp only [Vm,VL,QH,RD]
 refine MV (MV (R6 ?_))
 show wpAny _ _ (NQ (.ref j1) >>= _) _ _ _
 refine MV (D1.item k ⟨g1,g,d,tk₀,os⟩ _ _ l1 (D1.but h1 hs1 Z.b1) fun x g2 tk1 px st1 hs2=>MX ?_)
 replace hs2:Nn j1 g1 g2:=hs2
 have hTO2:IsPair g2 TO a b:=hs2.extBut _ _ Z.a8 (hs1.extBut _ _ Z.a2 hTO)
 refine MV (Od hTO2 rfl ?_)
 refine MV (Rm hTO2 fun g3 hTO3 hs3=>?_)
 replace hTO3:IsPair g3 TO x b:=hTO3
 replace hs3:Nn TO g2 g3:=hs3
 refine MV (Ti (MX ?_))
 refine MV (MV (R6 ?_))
 show wpAny _ _ (NQ (.ref j2) >>= _) _ _ _
 refine MV (D2.item k ⟨g3,g,d,tk1,os⟩ _ _ l2 (D2.but (D2.but (D2.but h2 hs1 Z.b4) hs2 Z.b6) hs3 Z.b5) fun y g4 tk2 py st2 hs4=>MX ?_)
 replace hs4:Nn j2 g3 g4:=hs4
 have hTO4:IsPair g4 TO x b:=hs4.extBut _ _ Z.a9 hTO3
 refine MV (Od hTO4 rfl ?_)
 refine MV (Rm hTO4 fun g5 hTO5 hs5=>?_)
 replace hTO5:IsPair g5 TO x y:=hTO5
 replace hs5:Nn TO g4 g5:=hs5
 refine MV (Ti (MX (MX ?_)))
 refine MV (Od hTO5 rfl ?_)
 refine MV (Tu ?_)
 have hsz:g5.objs.size=hp.objs.size:=by rw [hs5.1,hs4.1,hs3.1,hs2.1,hs1.1]
 have hz5:IsZip g5 z TI TO .ellipsis:=hs5.extBut _ _ Z.a2.symm (hs4.extBut _ _ Z.a4.symm (hs3.extBut _ _ Z.a2.symm (hs2.extBut _ _ Z.a3.symm hz1)))
 have k5:∀ c o,c≠z->c≠TO->c≠j1->c≠j2->hp.get? c=some o->g5.get? c=some o:=fun c o c1 c2 c3 c4 e=>
  hs5.extBut _ _ c2 (hs4.extBut _ _ c4 (hs3.extBut _ _ c2 (hs2.extBut _ _ c3 (hs1.extBut _ _ c1 e))))
 have st15:S1 (k + 1) g5:=D1.but (D1.but (D1.but st1 hs3 Z.b2) hs4 Z.b3) hs5 Z.b2
 have st25:S2 (k + 1) g5:=D2.but st2 hs5 Z.b5
 have zlt:z < g5.objs.size:=Na hz5
 show wpAny _ _ (QM (.ref z) (.ref g5.objs.size) >>= _) _ _ _
 refine MV ?_
 unfold QM
 have hz6:IsZip (g5.push { cls:=.type "tuple",data:=.seq #[x,y] }) z TI TO .ellipsis:=MW _ hz5
 refine MV (Pl hz6 (by simp) fun g7 hz7 hs7=>?_)
 replace hz7:IsZip g7 z TI TO (rawInt g5.objs.size):=hz7
 refine Pl hz7 (by simp) fun g8 hz8 hs8=>?_
 replace hz8:IsZip g8 z TI TO (rawInt g5.objs.size):=hz8
 have up:∀ c o,c≠z->g5.get? c=some o->g8.get? c=some o:=fun c o c1 e=>hs8.extBut _ _ c1 (hs7.extBut _ _ c1 (MW _ e))
 have hT8:IsPair g8 g5.objs.size x y:=hs8.extBut _ _ (Pe zlt) (hs7.extBut _ _ (Pe zlt) (Nc _ rfl))
 rw [hsz] at hz8 hT8
 refine MX ⟨_,rfl,?_⟩
 show Q (.ref g5.objs.size) _
 rw [hsz]
 exact hQ x y g8 tk2 px py hz8 ⟨x,y,up _ _ Z.a2 hTO5⟩ (D1.frame _ _ _ st15 fun c hc o e=>up c o (fun q=>Z.b1 (by rw [<-q]; exact hc)) e) (D2.frame _ _ _ st25 fun c hc o e=>up c o (fun q=>Z.b4 (by rw [<-q]; exact hc)) e) hT8
  (fun c o hc e=>by
   simp only [M6,N5,or_false,not_or] at hc
   exact up c o hc.1 (k5 c o hc.1 hc.2.2.1 hc.2.2.2.1 hc.2.2.2.2 e)) (up _ _ Z.a1 (k5 _ _ Z.a1 Z.a5 Z.a6 Z.a7 hTI))
theorem Bi {z TI TO j1 j2:Addr} {fp1 fp2:List Addr} {n1 n2 k:Nat} {P1 P2:Nat->Value->Prop} {S1 S2:Nat->Heap->Prop} {a b:Value} {Q:Fin->Shared->Prop} (Z:jB z TI TO j1 j2 fp1 fp2)
  (D1:Draws prog w A j1 fp1 n1 P1 S1) (D2:Draws prog w A j2 fp2 n2 P2 S2) (hz:IsZip s.heap z TI TO .none) (hTI:IsPair s.heap TI (.ref j1) (.ref j2)) (hTO:IsPair s.heap TO a b) (h1:S1 k s.heap) (h2:S2 k s.heap) (l:k=min n1 n2)
  (hE:∀ h' e tk,(∀ c o,c∉[z,TI,TO,j1,j2]->s.heap.get? c=some o->h'.get? c=some o)->(∃ o,h'.get? e=some o/\o.cls=.type "StopIteration")->E (.ref e) { s with heap:=h',toks:=tk }):
  wpAny (model prog w) A (Builtin.«zip.__next__» ⟨[.ref z],[]⟩) Q E s:=by
 obtain ⟨hp,g,d,tk₀,os⟩:=s
 have kp:∀ {h':Heap},(∀ c o,c≠z->c≠TO->c≠j1->c≠j2->hp.get? c=some o->h'.get? c=some o)->∀ c o,c∉[z,TI,TO,j1,j2]->hp.get? c=some o->h'.get? c=some o:=fun {h'} q c o hc e=>by
  simp only [M6,N5,or_false,not_or] at hc
  exact q c o hc.1 hc.2.2.1 hc.2.2.2.1 hc.2.2.2.2 e
 show wpAny _ _ (field (.ref z) 2 >>= _) _ _ _
 refine MV (N6 hz rfl (x:=.bool false) rfl ?_)
 show wpAny _ _ (field (.ref z) 3 >>= _) _ _ _
 refine MV (N6 hz rfl (x:=.ref TI) rfl ?_)
 refine MV (Od hTI rfl ?_)
 show wpAny _ _ (NT (.ref z) >>= _) _ _ _
 refine MV ?_
 unfold NT
 refine MV (N6 hz rfl (x:=.none) rfl (MX ?_))
 simp only [if_true]
 refine MV (Pi ?_)
 refine MV (N6 hz rfl (x:=.ref TO) rfl ?_)
 refine MV (Pl hz (by simp) fun g1 hz1 hs1=>?_)
 replace hz1:IsZip g1 z TI TO .ellipsis:=hz1
 replace hs1:Nn z hp g1:=hs1
 refine MV ?_
 simp only [Vm,VL,QH,RD]
 refine MV (MV (R6 ?_))
 show wpAny _ _ (NQ (.ref j1) >>= _) _ _ _
 by_cases hk:k=n1
 ·subst hk
  refine MV (D1.done ⟨g1,g,d,tk₀,os⟩ _ _ (D1.but h1 hs1 Z.b1) fun g2 e hs2 he=>?_)
  replace hs2:QD j1 g1 g2:=hs2
  obtain ⟨oe,hoe,hce⟩:=he
  have hz2:IsZip g2 z TI TO .ellipsis:=hs2 _ _ Z.a3.symm hz1
  have nez:e≠z:=fun q=>by
   subst q
   rw [hz2] at hoe
   cases hoe
   simp at hce
  refine Pl hz2 (by simp) fun g3 _ hs3=>hE g3 e tk₀ (kp fun c o c1 _ c3 _ q=>hs3.extBut _ _ c1 (hs2 _ _ c3 (hs1.extBut _ _ c1 q))) ⟨oe,hs3.extBut _ _ nez hoe,hce⟩
 ·have hlt:k < n1:=by omega
  have hk2:k=n2:=by omega
  refine MV (D1.item k ⟨g1,g,d,tk₀,os⟩ _ _ hlt (D1.but h1 hs1 Z.b1) fun x g2 tk1 px st1 hs2=>MX ?_)
  replace hs2:Nn j1 g1 g2:=hs2
  have hTO2:IsPair g2 TO a b:=hs2.extBut _ _ Z.a8 (hs1.extBut _ _ Z.a2 hTO)
  refine MV (Od hTO2 rfl ?_)
  refine MV (Rm hTO2 fun g3 hTO3 hs3=>?_)
  replace hs3:Nn TO g2 g3:=hs3
  refine MV (Ti (MX ?_))
  refine MV (MV (R6 ?_))
  show wpAny _ _ (NQ (.ref j2) >>= _) _ _ _
  subst hk2
  refine MV (D2.done ⟨g3,g,d,tk1,os⟩ _ _ (D2.but (D2.but (D2.but h2 hs1 Z.b4) hs2 Z.b6) hs3 Z.b5) fun g4 e hs4 he=>?_)
  replace hs4:QD j2 g3 g4:=hs4
  obtain ⟨oe,hoe,hce⟩:=he
  have hz4:IsZip g4 z TI TO .ellipsis:=hs4 _ _ Z.a4.symm (hs3.extBut _ _ Z.a2.symm (hs2.extBut _ _ Z.a3.symm hz1))
  have nez:e≠z:=fun q=>by
   subst q
   rw [hz4] at hoe
   cases hoe
   simp at hce
  refine Pl hz4 (by simp) fun g5 _ hs5=>hE g5 e tk1 (kp fun c o c1 c2 c3 c4 q=>hs5.extBut _ _ c1 (hs4 _ _ c4 (hs3.extBut _ _ c2 (hs2.extBut _ _ c3 (hs1.extBut _ _ c1 q))))) ⟨oe,hs5.extBut _ _ nez hoe,hce⟩
end
noncomputable abbrev zh1 (S1:Src) (h:Heap) (l1:Addr):Heap:=h.push { cls:=.type S1.icls,data:=.fields #[.ref l1,.int 0 0] }
noncomputable abbrev zh2 (S1 S2:Src) (h:Heap) (l1 l2:Addr):Heap:=(zh1 S1 h l1).push { cls:=.type S2.icls,data:=.fields #[.ref l2,.int 0 0] }
noncomputable abbrev zh3 (S1 S2:Src) (h:Heap) (l1 l2:Addr):Heap:=(zh2 S1 S2 h l1 l2).push { cls:=.type "tuple",data:=.seq #[.ref h.objs.size,.ref (zh1 S1 h l1).objs.size] }
noncomputable abbrev zh4 (S1 S2:Src) (h:Heap) (l1 l2:Addr):Heap:=(zh3 S1 S2 h l1 l2).push { cls:=.type "tuple",data:=.seq #[.none,.none] }
noncomputable abbrev zh5 (S1 S2:Src) (h:Heap) (l1 l2:Addr):Heap:=(zh4 S1 S2 h l1 l2).push { cls:=.type "zip",data:=.fields #[.none,.bool false,.bool false,.ref (zh2 S1 S2 h l1 l2).objs.size,.ref (zh3 S1 S2 h l1 l2).objs.size] }
theorem Dk (S1 S2:Src) (l1 l2:Addr) (xs ys:Array Value):
  Meets (Builtin.«zip.__new__» ⟨[.type "zip",.ref l1,.ref l2],[]⟩) (fun _ R s=>S1.Is s.heap l1 xs/\S2.Is s.heap l2 ys/\R (.ok (.ret (.ref (zh4 S1 S2 s.heap l1 l2).objs.size))) { s with heap:=zh5 S1 S2 s.heap l1 l2 }):=
 .of_wp fun prog w A R s h=>by
  obtain ⟨hp,g,d,tk,os⟩:=s
  obtain ⟨q1,q2,h⟩:=h
  have hsub:=sub_zip
  have hL1:S1.Is (UZ ⟨hp,g,d,tk,os⟩) l1 xs:=q1
  have hL2:S2.Is (UZ ⟨zh1 S1 hp l1,g,d,tk,os⟩) l2 ys:=S2.isKeep q2 fun o e=>MW _ e
  wp_walk using S1.iter hL1,S2.iter hL2
  exact ⟨_,rfl,h⟩
noncomputable def Itz (S1 S2 : Src) (K : Fg) (a b : Addr) : It :=
  ⟨fun i H => ∃ xs ys x y, S1.Sq K H a xs ∧ S2.Sq K H b ys ∧ xs[i]? = some x ∧ ys[i]? = some y,
   fun i H x H' => ∃ T u v, H T = none ∧ x = .ref T ∧ H' = upd H T (.tup [u, v]) ∧ ∀ xs ys, S1.Sq K H a xs → S2.Sq K H b ys → xs[i]? = some u ∧ ys[i]? = some v,
   fun i H => ∃ xs ys, S1.Sq K H a xs ∧ S2.Sq K H b ys ∧ min xs.length ys.length = i⟩
theorem zap {z TI TO j1 j2 a b:Addr} (nd:[z,TI,TO,j1,j2].Nodup) (h1:∀ c∈[z,TI,TO,j1,j2],c≠a) (h2:∀ c∈[z,TI,TO,j1,j2],c≠b):jB z TI TO j1 j2 [j1,a] [j2,b]:=by
 simp only [PM,M6,N5,or_false,not_or] at nd
 obtain ⟨⟨c1,c2,c3,c4⟩,⟨c5,c6,c7⟩,⟨c8,c9⟩,c10,_⟩:=nd
 have g1:=h1 z (by simp)
 have g2:=h1 TO (by simp)
 have g3:=h1 j2 (by simp)
 have g4:=h2 z (by simp)
 have g5:=h2 TO (by simp)
 have g6:=h2 j1 (by simp)
 exact ⟨OC c1,OC c2,OC c3,OC c4,c5,c6,c7,c8,c9,c10,by simp [c3,g1],by simp [c8,g2],by simp [OC c10,g3],by simp [c4,g4],by simp [c9,g5],by simp [c10,g6]⟩
theorem Hw {P:Program} {w:World} {K:Fg} {elts:List Expr} {k0:Nat} {pos:Pos} (S1 S2:Src) (a b z TI TO j1 j2:Addr) (nd:[z,TI,TO,j1,j2].Nodup):
  uW P w K (.Tuple elts k0 pos) (Itz S1 S2 K a b) [z,TI,TO,j1,j2] z (fun i h=>IsZip h z TI TO .none/\IsPair h TI (.ref j1) (.ref j2)/\(∃ u v,IsPair h TO u v)/\S1.It h j1 a i/\S2.It h j2 b i) where
 mem:=by simp
 obj:=fun i h st c hc=>by
  obtain ⟨q1,q2,⟨u,v,q3⟩,q4,q5⟩:=st
  simp only [M6,N5,or_false] at hc
  rcases hc with rfl | rfl | rfl | rfl | rfl
  ·exact ⟨_,q1,fun v z=>nomatch z⟩
  ·exact ⟨_,q2,fun v z=>nomatch z⟩
  ·exact ⟨_,q3,fun v z=>nomatch z⟩
  ·obtain ⟨o,ho,_,hd⟩:=S1.isIt q4
   exact ⟨o,ho,fun v z=>by rw [hd] at z; cases z⟩
  ·obtain ⟨o,ho,_,hd⟩:=S2.isIt q5
   exact ⟨o,ho,fun v z=>by rw [hd] at z; cases z⟩
 keep:=fun i h h' st k=>by
  obtain ⟨q1,q2,⟨u,v,q3⟩,q4,q5⟩:=st
  exact ⟨k z (by simp) _ q1,k TI (by simp) _ q2,⟨u,v,k TO (by simp) _ q3⟩,S1.itKeep q4 fun o q=>k j1 (by simp) o q,S2.itKeep q5 fun o q=>k j2 (by simp) o q⟩
 item:=by
  intro X hP hw hK hc i pins s σ H E I hf st hg
  subst hP hw hK
  obtain ⟨xs,ys,x,y,hq1,hq2,hx,hy⟩:=hg
  obtain ⟨us,r1,p1,_⟩:=S1.get I hq1
  obtain ⟨vs,r2,p2,_⟩:=S2.get I hq2
  obtain ⟨q1,q2,⟨u0,v0,q3⟩,q4,q5⟩:=st
  obtain ⟨u,hu,ru⟩:=r1.get hx
  obtain ⟨v,hv,rv⟩:=r2.get hy
  have Z:=zap nd (fun c hc'=>S1.off I hq1 (hf c hc')) (fun c hc'=>S2.off I hq2 (hf c hc'))
  have hh:X.A.in1.handled=none:=I.ok.hd hc
  have n1:a≠j1:=OC (S1.off I hq1 (hf j1 (by simp)))
  have n2:b≠j2:=OC (S2.off I hq2 (hf j2 (by simp)))
  have l1:i < us.toArray.size:=by have:=(M4.mp hu).1; simpa using this
  have l2:i < vs.toArray.size:=by have:=(M4.mp hv).1; simpa using this
  have hT:s.TypeIs (.ref z) "zip":=⟨_,q1,rfl⟩
  unfold pyNext
  refine MV (PX (NY (name:=O1 "__next__") hT Pr (NP Pr hT Q7
   (zm (A:=X.A.in1) Z (S1.draws hh j1 a n1 us.toArray) (S2.draws hh j2 b n2 vs.toArray) q1 q2 q3 ⟨q4,p1⟩ ⟨q5,p2⟩ l1 l2 fun x' y' h' tk px py z1 z2 z3 z4 z5 z6 z7=>MX ?_) (QX _))))
  have ex:x'=u:=by
   have:us.toArray[i]?=some u:=by simpa using hu
   rw [this] at px
   exact (Nf px).symm
  have ey:y'=v:=by
   have:vs.toArray[i]?=some v:=by simpa using hv
   rw [this] at py
   exact (Nf py).symm
  subst ex ey
  refine ⟨_,rfl,wpAny_letOwnedTupleGo_zip z1 fun h2 w1 hs2=>?_⟩
  have nz:∀ c,c∈[TI,TO,j1,j2]->c≠z:=fun c hc' e=>by
   subst e
   exact (PM.mp nd).1 hc'
  have zlt:z < s.heap.objs.size:=Na q1
  have hT2:h2.get? s.heap.objs.size=some { cls:=.type "tuple",data:=.seq #[x',y'] }:=hs2.extBut _ _ (K8 (M1 _) zlt) z5
  have kept:∀ c ob,c∉[z,TI,TO,j1,j2]->s.heap.get? c=some ob->h2.get? c=some ob:=fun c ob hc' q=>hs2.extBut _ _ (fun e=>hc' (by simp [e])) (z6 c ob hc' q)
  obtain ⟨u1,v1,z2⟩:=z2
  refine ⟨.ref s.heap.objs.size,upd H s.heap.objs.size (.tup [x,y]),?_,rfl,⟨_,x,y,I.fresh,rfl,rfl,fun xs' ys' h1 h2=>by rw [S1.inj I h1 hq1,S2.inj I h2 hq2]; exact ⟨hx,hy⟩⟩,
   ⟨w1,hs2.extBut _ _ (nz TI (by simp)) z7,⟨u1,v1,hs2.extBut _ _ (nz TO (by simp)) z2⟩,S1.itKeep z3.1 fun o q=>hs2.extBut _ _ (nz j1 (by simp)) q,S2.itKeep z4.1 fun o q=>hs2.extBut _ _ (nz j2 (by simp)) q⟩,fun c hc'=>?_⟩
  ·exact I.turns (t':=tk) hf kept (M1 _) ⟨(by show 2<=Nb; decide),[x',y'],.cons ru (.cons rv .nil),_,hT2,rfl,⟨0,rfl⟩,rfl⟩
  ·have lt:c < s.heap.objs.size:=by
    have st':IsZip s.heap z TI TO .none/\IsPair s.heap TI (.ref j1) (.ref j2)/\(∃ u v,IsPair s.heap TO u v)/\S1.It s.heap j1 a i/\S2.It s.heap j2 b i:=⟨q1,q2,⟨u0,v0,q3⟩,q4,q5⟩
    simp only [M6,N5,or_false] at hc'
    rcases hc' with rfl | rfl | rfl | rfl | rfl
    ·exact zlt
    ·exact Na q2
    ·exact Na q3
    ·obtain ⟨o,ho,_⟩:=S1.isIt q4
     exact Na ho
    ·obtain ⟨o,ho,_⟩:=S2.isIt q5
     exact Na ho
   rw [aS (pV lt (M1 _))]
   exact (hf c hc').1
 done:=by
  intro X hP hw hK hc i pins s σ H E I hf st hg
  subst hP hw hK
  obtain ⟨xs,ys,hq1,hq2,hi⟩:=hg
  obtain ⟨us,r1,p1,_⟩:=S1.get I hq1
  obtain ⟨vs,r2,p2,_⟩:=S2.get I hq2
  obtain ⟨q1,q2,⟨u0,v0,q3⟩,q4,q5⟩:=st
  have Z:=zap nd (fun c hc'=>S1.off I hq1 (hf c hc')) (fun c hc'=>S2.off I hq2 (hf c hc'))
  have hh:X.A.in1.handled=none:=I.ok.hd hc
  have n1:a≠j1:=OC (S1.off I hq1 (hf j1 (by simp)))
  have n2:b≠j2:=OC (S2.off I hq2 (hf j2 (by simp)))
  have hT:s.TypeIs (.ref z) "zip":=⟨_,q1,rfl⟩
  have hl:i=min us.toArray.size vs.toArray.size:=by
   have:=r1.length
   have:=r2.length
   simp only [Nj]
   omega
  unfold pyNext
  refine MV (PX (NY (name:=O1 "__next__") hT Pr (NP Pr hT Q7
   (Bi (A:=X.A.in1) Z (S1.draws hh j1 a n1 us.toArray) (S2.draws hh j2 b n2 vs.toArray) q1 q2 q3 ⟨q4,p1⟩ ⟨q5,p2⟩ hl fun h' e tk kp he=>?_) (QX _))))
  obtain ⟨o,ho,hcl⟩:=he
  refine MV (O3 (T:="StopIteration") (b:=true) ⟨o,ho,hcl⟩ QR ?_)
  exact MX ⟨rfl,I.turnsN (t':=tk) hf kp⟩
 self:=fun _ _ _ _ _ st h=>SG st.1 h
section
variable {X:Cx} {elts:List Expr} {k0:Nat} {tpos:Pos}
noncomputable def lM (S1 S2:Src) (K:Fg) (ta:TA):TI:=fun σ H R=>ta σ H fun vs H1=>∃ a b xs ys,vs=[.ref a,.ref b]/\S1.Sq K H1 a xs/\S2.Sq K H1 b ys/\R (Itz S1 S2 K a b) H1
theorem iU (S1 S2:Src) {a b:Expr} {ta:TA} {p pos:Pos} (hg:Gl X "zip") (hm:X.mg "zip"=none) (ha:PA X [a,b] ta) (hs:Nu [a,b] X.env=[(false,eval a X.env),(false,eval b X.env)]:=by rfl) (hs2:Nu [b] X.env=[(false,eval b X.env)]:=by rfl):
  PI X (.Tuple elts k0 tpos) (.Call (.Name "zip" p) [a,b] [] pos) (lM S1 S2 X.K ta):=by
 intro pins s σ H R I h
 refine Call_ (iR I hg hm boot_zip (Oq (thn (ha pos pins s σ H _ I h) fun us s1 ⟨vs,H1,I1,r1,q1⟩=>?_) (by rw [hs,hs2]) (by rw [hs2]; rfl)))
 obtain ⟨l1,l2,xs,ys,e,hq1,hq2,q⟩:=q1
 subst e
 obtain ⟨u,v,rfl,ru,rv⟩:=r1.two
 cases ru
 cases rv
 obtain ⟨us1,_,p1,_⟩:=S1.get I1 hq1
 obtain ⟨us2,_,p2,_⟩:=S2.get I1 hq2
 refine Uy F.called_zip (by decide) (Vn _ _) (VM _ _) (fun obj=>TX obj _ _) VN (Dk S1 S2 l1 l2 us1.toArray us2.toArray) ⟨p1,p2,?_⟩
 generalize hn:s1.heap.objs.size=n
 have z1:(zh1 S1 s1.heap l1).objs.size=n + 1:=by rw [NV,hn]
 have z2:(zh2 S1 S2 s1.heap l1 l2).objs.size=n + 2:=by rw [NV,z1]
 have z3:(zh3 S1 S2 s1.heap l1 l2).objs.size=n + 3:=by rw [NV,z2]
 have z4:(zh4 S1 S2 s1.heap l1 l2).objs.size=n + 4:=by rw [NV,z3]
 have g5:(zh5 S1 S2 s1.heap l1 l2).get? (zh4 S1 S2 s1.heap l1 l2).objs.size=some _:=Nc _ rfl
 have g4:(zh5 S1 S2 s1.heap l1 l2).get? (zh3 S1 S2 s1.heap l1 l2).objs.size=some _:=MW _ (Nc _ rfl)
 have g3:(zh5 S1 S2 s1.heap l1 l2).get? (zh2 S1 S2 s1.heap l1 l2).objs.size=some _:=MW _ (MW _ (Nc _ rfl))
 have g2:(zh5 S1 S2 s1.heap l1 l2).get? (zh1 S1 s1.heap l1).objs.size=some _:=MW _ (MW _ (MW _ (Nc _ rfl)))
 have g1:(zh5 S1 S2 s1.heap l1 l2).get? s1.heap.objs.size=some _:=MW _ (MW _ (MW _ (MW _ (Nc _ rfl))))
 have kp:∀ c o,s1.heap.get? c=some o->(zh5 S1 S2 s1.heap l1 l2).get? c=some o:=fun c o e=>
  MW _ (MW _ (MW _ (MW _ (MW _ e))))
 show _/\_
 rw [z2,z3,z4] at g5
 rw [z1,z2,hn] at g3
 rw [z3] at g4
 rw [z1] at g2
 rw [hn] at g1
 rw [z4]
 refine ⟨⟨_,g5,rfl⟩,SG g5 ?_⟩
 have I2:Inv X pins σ H1 { s1 with heap:=zh5 S1 S2 s1.heap l1 l2 }:=I1.kept (t':=s1.toks) kp
 refine ⟨n + 4,[n + 4,n + 2,n + 3,n,n + 1],_,_,H1,rfl,I2,Hw S1 S2 l1 l2 _ _ _ _ _ (by simp),⟨g5,g3,⟨_,_,g4⟩,S1.mkI g1 rfl rfl,S2.mkI g2 rfl rfl⟩,fun c hc=>?_,q⟩
 have hc':s1.heap.objs.size<=c:=by
  rw [hn]
  simp only [M6,N5,or_false] at hc
  rcases hc with rfl | rfl | rfl | rfl | rfl
  ·exact OO _ _
  ·exact OO _ _
  ·exact OO _ _
  ·exact M1 _
  ·exact OO _ _
 exact I1.fpOk hc' (I1.hok.fresh hc')
end
end
section
open PySem.Spec
section
variable {X:Cx}
noncomputable def Ju (K:Fg):R2:=fun x y H Q=>∃ a b xs ys,x=.ref a/\y=.ref b/\SqT K H a xs/\SqT K H b ys/\xs.length + ys.length<=Nb/\
 (xs=[]->Q (.ref b) H)/\(xs≠[]->ys=[]->Q (.ref a) H)/\(xs≠[]->ys≠[]->∀ p,H p=none->Q (.ref p) (upd H p (.tup (xs++ys))))
theorem J1:OpR X (PU .Add) (Ju X.K):=by
 intro pins s σ H x y v u Q I rx ry h
 obtain ⟨a,b,xs,ys,rfl,rfl,ha,hb,hz,q0,q1,q2⟩:=h
 by_cases hx:xs=[]
 ·cases rx
  cases ry
  obtain ⟨its,r1,p1,_⟩:=I.tuple ha
  obtain ⟨its2,r2,p2,_⟩:=I.tuple hb
  obtain ⟨⟨cls,dd,data,sl⟩,ho,hc,n,hd⟩:=id p1
  obtain ⟨⟨cls2,dd2,data2,sl2⟩,ho2,hc2,n2,hd2⟩:=id p2
  simp only at hc hd hc2 hd2
  subst hc hd hc2 hd2
  have e:its=[]:=r1.nil_iff.mpr hx
  exact Uv ⟨_,ho,rfl⟩ ⟨_,ho2,rfl⟩ SB T7 Q0 QT (QL _ _)
   (tuple_addW0 a b its.toArray its2.toArray n n2 dd dd2 sl sl2 (by simp [e])) ⟨ho,ho2,⟨.ref b,H,I,rfl,q0 hx⟩⟩
 ·exact JW pins s σ H _ _ v u Q I rx ry ⟨a,b,xs,ys,rfl,rfl,ha,hb,hx,hz,q1 hx,q2 hx⟩
theorem zn {x:V}:∀ {xs:List V} {us:List Value},aK xs us->xs.all ig=true->us.countP (eqU x)=xs.countP fun y=>eqV y x
 | _,_,.nil,_=>rfl
 | y :: xs,u :: us,.cons r t,f=>by
  rw [QA,ON] at f
  rw [Vo,Vo,FT r f.1,zn t f.2]
noncomputable def tBT (r:V->List V->Hp->VK->Prop) (to:TE) (t:TA):TE:=fun σ H Q=>to σ H fun x H1=>(∃ a xs,x=.ref a/\H1 a=some (.tup xs))/\t σ H1 fun xs H2=>r x xs H2 Q
theorem Mb {o e:Expr} {es:List Expr} {to:TE} {t:TA} {name:Str} {apos cpos:Pos} {id:String} {r:V->List V->Hp->VK->Prop} (pa:VF "tuple") (slot:Slot "tuple" name id) (hty:typeOf (.builtin id)=pure (.type "method_descriptor")) (hm:MtR X id r) (ho:PE X o to) (ha:PA X (e :: es) t)
  (hbase:Qd o name X.env (eval o X.env)=eval o X.env:=by rfl)
  (hfew:((backTo cpos (Nu (e :: es) X.env)).all (fun x=>!x.1) && (Q6 cpos (Ql [] X.env)).all (fun x=>x.1.isSome)
   && decide ((e :: es).length + ([]:List Keyword).length + (if ([]:List Keyword).isEmpty then 0 else 1) < 30))=true:=by rfl)
  (hline:(apos.endLine == cpos.line)=true:=by rfl) (hs:Nu (e :: es) X.env=(false,eval e X.env) :: Nu es X.env:=by rfl) (hplain:(backTo cpos (Nu es X.env)).any (·.1)=false:=by rfl):
  PE X (.Call (.Attribute o name apos) (e :: es) [] cpos) (tBT r to t):=by
 intro pins s σ H Q I h
 refine Q1 hbase hfew hline rfl (thn (ho pins s σ H _ I h) fun v s1 ⟨x,H1,I1,r1,ty,q1⟩=>?_)
 obtain ⟨a,xs,rfl,hx⟩:=ty
 cases r1
 obtain ⟨_,its,_,o',ho',hc',_,hd'⟩:=I1.hok a _ hx
 refine ⟨"tuple",id,pa,slot,hty,⟨o',ho',hc'⟩,fun b e=>?_,?_⟩
 ·cases e
  exact ⟨o',ho',hd'⟩
 have hA:=ha cpos pins s1 σ H1 _ I1 q1
 rw [hs] at hA ⊢
 refine Qm (by show (false || (backTo cpos (Nu es X.env)).any (·.1))=false; rw [hplain] <;> rfl) (Rk ?_)
 exact thn hA fun us s2 ⟨vs,H2,I2,r2,q2⟩=>hm pins s2 σ H2 (.ref a) vs (.ref a) us Q I2 rfl r2 q2
noncomputable def Dl:V->List V->Hp->VK->Prop:=fun x vs H Q=>∃ l xs y,x=.ref l/\vs=[y]/\H l=some (.tup xs)/\ig y=true/\xs.all ig=true/\Q (.int (xs.countP fun z=>eqV z y:Nat)) H
theorem F8:MtR X "tuple.count" Dl:=by
 intro pins s σ H x vs v us Q I rx rv h
 obtain ⟨l,xs,y,rfl,rfl,hH,fy,fx,q⟩:=h
 cases rx
 obtain ⟨u,rfl,ru⟩:=rv.one
 obtain ⟨_,its,r,⟨cls,dd,data,sl⟩,ho,hc,⟨n,hd⟩,hdd⟩:=I.hok l _ hH
 simp only at hc hd hdd
 subst hc hd hdd
 refine QQ SI ⟨_,ho,rfl⟩ PySem.F.entry_tuple_count (PySem.F.args_tuple_count_2 _ _) (SeqAt.tuple_countAt l its.toArray n none sl u (eqU y)) ⟨ho,fun z hz=>vc ru fy r fx z (by simpa using hz),?_⟩
 refine ⟨.int (xs.countP fun z=>eqV z y:Nat),H,I.tok _,⟨s.toks,?_⟩,q⟩
 show P3 ((its.toArray.toList.countP (eqU y):Nat):Int) s.toks=_
 rw [show its.toArray.toList=its from rfl,zn r fx]
theorem rM (hc:X.calm=true):dS X (.builtin "max") (fun xs H Q=>∃ (p:Addr) (ns:List Int),xs=[.ref p]/\SqL X.K H p (ns.map V.int)/\ns≠[]/\∀ M,M∈ns->(∀ a∈ns,a<=M)->Q (.int M) H):=by
 intro pins s σ H xs us Q I r h
 obtain ⟨p,ns,rfl,hq,hne,q⟩:=h
 obtain ⟨u,rfl,rx⟩:=r.one
 cases rx
 obtain ⟨its,rv,pl,hz⟩:=I.list hq
 have hi:=pT rv
 obtain ⟨zs,ez⟩:=(hi.allInts).items
 have hl:s.heap.IsList p (intItems zs):=by rw [<-ez]; exact pl.isList
 have hnum:zs.toList.map (·.1)=ns:=by
  rw [<-nums_intItems,<-ez]
  exact hi.numsOf
 have hsz:zs.size=ns.length:=by rw [<-hnum]; simp
 have hpos:0 < zs.size:=by
  rw [hsz]
  exact Rx.mpr hne
 refine max_intList (I.ok.hd hc) hl hpos fun v h' tk hv hk=>?_
 obtain ⟨t,rfl⟩:=intItems_at hv
 obtain ⟨h1,h2⟩:=argBest_gt (numAt zs) (zs.size - 1)
 refine ⟨.int _,H,I.kept hk,⟨t,rfl⟩,q _ ?_ fun a ha=>?_⟩
 ·rw [numAt_eq,hnum]
  exact getD_mem (by omega)
 ·rw [<-hnum] at ha
  obtain ⟨j,hj,rfl⟩:=mem_getD ha
  rw [MY,NK] at hj
  rw [<-numAt_eq]
  exact h2 j (by omega)
noncomputable def Bj:V->List V->Hp->VK->Prop:=fun x vs H Q=>∃ (l:Addr) (ns:List Int) (m:Int) (j:Nat),x=.ref l/\vs=[.int m]/\H l=some (.lst (ns.map V.int))/\ns[j]?=some m/\(∀ i,i < j->ns[i]?≠some m)/\j<=1000/\Q (.int j) H
theorem Hx:MtR X "list.index" Bj:=by
 intro pins s σ H x vs v us Q I rx rv h
 obtain ⟨l,ns,m,j,rfl,rfl,hH,hj,hno,h1000,q⟩:=h
 cases rx
 obtain ⟨u,rfl,t,rfl⟩:=rv.one
 obtain ⟨z,its,n,r,hl,e⟩:=I.lstM hH
 have at_:∀ (i:Nat) (hi:i < its.toArray.size),∃ k t',ns[i]?=some k/\its.toArray[i]=.int k t':=fun i hi=>by
  have hi':i < ns.length:=by
   rw [MY] at hl
   have:i < its.length:=by simpa using hi
   omega
  obtain ⟨w',hw,rw'⟩:=r.get (i:=i) (x:=.int ns[i]) (by rw [Ng,MZ hi'] <;> rfl)
  obtain ⟨t',e'⟩:=(show ∃ t',w'=P3 ns[i] t' from rw')
  have:=(M4.mp hw).2
  exact ⟨ns[i],t',MZ hi',by rw [<-e']; simpa using this⟩
 have hjs:j < its.toArray.size:=by
  have:=(M4.mp hj).1
  rw [MY] at hl
  simp only [Nj]
  omega
 refine QQ SS ⟨_,e,rfl⟩ PySem.F.entry_list_index (PySem.F.args_list_index_2 _ _) (SeqAt.list_indexAt l its.toArray n none #[] (.int m t) (eqU (.int m)) j hjs (by omega) ?_ ?_) ⟨e,fun y hy=>?_,?_⟩
 ·obtain ⟨k,t',e1,e2⟩:=at_ j hjs
  rw [e2]
  rw [hj] at e1
  cases e1
  exact beq_self_eq_true m
 ·intro i hi hlt
  obtain ⟨k,t',e1,e2⟩:=at_ i hi
  rw [e2]
  show (k == m)=false
  exact beq_eq_false_iff_ne.mpr fun z=>hno i hlt (by rw [e1,z])
 ·exact vc (x:=.int m) ⟨t,rfl⟩ rfl r (by rw [Rl]; simp [ig]) y (by simpa using hy)
 ·exact ⟨.int j,H,I.tok _,⟨_,rfl⟩,q⟩
end
end
end L2
section
namespace L2
open PySem
section
variable {σ:St} {H:Hp} {Q:VK} {D:kf} {K:Fg}
theorem bA {t u:TS} (h:t { nx:=u D,rt:=D.rt,bk:=D.bk,ct:=D.ct } σ H):ap t u D σ H:=h
theorem km {t u:TS} (h:∀ NX:St->Hp->Prop,(∀ σ H,u D σ H->NX σ H)->t { nx:=NX,rt:=D.rt,bk:=D.bk,ct:=D.ct } σ H):ap t u D σ H:=h _ fun _ _ h=>h
theorem F9 (h:D.nx σ H):aY D σ H:=h
theorem nN {te:TE} {g:TG} (h:te σ H fun x H1=>g x σ H1 D.nx):aH te g D σ H:=h
theorem Mc {te:TE} (h:te σ H D.rt):aJ te D σ H:=h
theorem Lb (h:D.rt .non H):LZ D σ H:=h
theorem Lc {te:TE} (h:te σ H fun _ H1=>D.nx σ H1):dG te D σ H:=h
theorem Jv {c:TT} {t u:TS} (h:c σ H fun b H1=>if b=true then t D σ H1 else u D σ H1):bp c t u D σ H:=h
theorem J2 (h:D.bk σ H):K0 D σ H:=h
theorem Ld (h:D.ct σ H):LY D σ H:=h
theorem jC {i:Nat} {v:V} {R:St->Hp->Prop} (h:R (σ.set i (some v)) H):aj i v σ H R:=h
theorem Le {to ti:TE} {t:A3} {v:V} {R:St->Hp->Prop} (h:to σ H fun o H1=>ti σ H1 fun i H2=>t o i v H2 fun H3=>R σ H3):kh to ti t v σ H R:=h
theorem mQ {p:Addr} {xs:List V} {k:Int} {v:V} {R:Hp->Prop} {j:Nat} (e:H p=some (.lst xs)) (hj:ixN xs.length k=some j) (h:R (upd H p (.lst (xs.set j v)))):kP (.ref p) (.int k) v H R:=⟨p,xs,k,j,rfl,rfl,e,hj,h⟩
theorem p0 {i:Nat} {v:V} (e:σ[i]?=some (some v)) (h:Q v H):aa i σ H Q:=⟨v,e,h⟩
theorem r_c {v:V} (h:Q v H):tC v σ H Q:=h
theorem vd {r:R2} {ta tb:TE} (h:ta σ H fun x H1=>tb σ H1 fun y H2=>r x y H2 Q):tOp r ta tb σ H Q:=h
theorem MI {r:V->Hp->VK->Prop} {ta:TE} (h:ta σ H fun x H1=>r x H1 Q):tUn r ta σ H Q:=h
theorem MJ {g:Int->Int->V} {i j:Int} (h:Q (g i j) H):rI0 g (.int i) (.int j) H Q:=⟨i,j,rfl,rfl,h⟩
theorem r_I {C:Int->Int->Prop} {g:Int->Int->V} {i j:Int} (c:C i j) (h:Q (g i j) H):rI C g (.int i) (.int j) H Q:=⟨i,j,rfl,rfl,c,h⟩
theorem r_U {g:Int->V} {i:Int} (h:Q (g i) H):rU g (.int i) H Q:=⟨i,rfl,h⟩
theorem Md {i j:Int} (h:Q (.bl (decide (i=j))) H):rEq (.int i) (.int j) H Q:=⟨rfl,by rw [show decide (V.int i=V.int j)=decide (i=j) from decide_eq_decide.mpr ⟨fun e=>by injection e,fun e=>by rw [e]⟩]; exact h⟩
theorem Me {i j:Int} (h:Q (.bl (!decide (i=j))) H):rNe (.int i) (.int j) H Q:=⟨rfl,by rw [show decide (V.int i=V.int j)=decide (i=j) from decide_eq_decide.mpr ⟨fun e=>by injection e,fun e=>by rw [e]⟩]; exact h⟩
theorem Mf {i j:Bool} (h:Q (.bl (i == j)) H):rEq (.bl i) (.bl j) H Q:=⟨rfl,by rw [show decide (V.bl i=V.bl j)=(i == j) by cases i <;> cases j <;> rfl]; exact h⟩
theorem Mg {i j:Bool} (h:Q (.bl (!(i == j))) H):rNe (.bl i) (.bl j) H Q:=⟨rfl,by rw [show decide (V.bl i=V.bl j)=(i == j) by cases i <;> cases j <;> rfl]; exact h⟩
theorem Lf {t:TE} {R:Bool->Hp->Prop} (h:t σ H fun x H'=>∃ k,x=.bl k/\R k H'):be t σ H R:=h
theorem ML {t:TE} {R:Bool->Hp->Prop} (h:t σ H fun x H'=>∃ k,x=.bl k/\R k H'):tB t σ H R:=h
theorem Lg {b:Bool} {R:Bool->Prop} (h:R b):∃ k,V.bl b=.bl k/\R k:=⟨b,rfl,h⟩
theorem Mh {t u:TT} {R:Bool->Hp->Prop} (h:t σ H fun c H1=>if c=true then u σ H1 R else R false H1):A0 t u σ H R:=h
theorem MM {t u:TT} {R:Bool->Hp->Prop} (h:t σ H fun c H1=>if c=true then R true H1 else u σ H1 R):tOr t u σ H R:=h
theorem Mi {t:TT} {R:Bool->Hp->Prop} (h:t σ H fun c H1=>R (!c) H1):dq t σ H R:=h
theorem Lh {ta tb:TE} (h:ta σ H fun x H1=>∃ c,x=.bl c/\if c=true then tb σ H1 Q else Q (.bl false) H1):ie ta tb σ H Q:=h
theorem Mj {ta tb:TE} (h:ta σ H fun x H1=>∃ c,x=.bl c/\if c=true then Q (.bl true) H1 else tb σ H1 Q):yg ta tb σ H Q:=h
theorem Li {ta:TE} (h:ta σ H fun x H1=>∃ c,x=.bl c/\Q (.bl (!c)) H1):vV ta σ H Q:=h
theorem MN {t:TT} {ta tb:TE} (h:t σ H fun c H1=>if c=true then ta σ H1 Q else tb σ H1 Q):tIf t ta tb σ H Q:=h
theorem J3 {r r':R2} {ta tb tc:TE} (h:ta σ H fun x H1=>tb σ H1 fun y H2=>r x y H2 fun z H3=>∃ k,z=.bl k/\(if k=true then tc σ H3 fun w' H4=>r' y w' H4 Q else Q (.bl false) H3)):A5 r r' ta tb tc σ H Q:=h
theorem Jw {R:List V->Hp->Prop} (h:R [] H):ag σ H R:=h
theorem Ga {ta:TE} {tr:TA} {R:List V->Hp->Prop} (h:ta σ H fun x H1=>tr σ H1 fun xs H2=>R (x :: xs) H2):ac ta tr σ H R:=h
theorem Lj {sp:Sp} {E:XK} {t:TA} (h:t σ H fun vs H1=>sp vs H1 Q E):av sp [] E t σ H Q:=by
 show t σ H fun vs H1=>sp (vs++[]) H1 Q E
 simpa only [OY] using h
theorem MO {r:List V->Hp->VK->Prop} {t:TA} (h:t σ H fun vs H1=>r vs H1 Q):tCB r t σ H Q:=h
theorem MP {T:String} {r:V->List V->Hp->VK->Prop} {to:TE} {t:TA} (h:to σ H fun x H1=>tyV K T x H1/\t σ H1 fun xs H2=>r x xs H2 Q):tBM K T r to t σ H Q:=h
theorem Ml {T:String} {r:V->List V->Hp->VK->Prop} {to:TE} (h:to σ H fun x H1=>tyV K T x H1/\r x [] H1 Q):Ef K T r to σ H Q:=h
theorem MQ {r:V->List V->Hp->VK->Prop} {to:TE} {t:TA} (h:to σ H fun x H1=>(∃ a xs,x=.ref a/\H1 a=some (.tup xs))/\t σ H1 fun xs H2=>r x xs H2 Q):tBT r to t σ H Q:=h
theorem MR {r:V->Option Int->Option Int->Hp->VK->Prop} {te:TE} {tl th:TO} (h:te σ H fun x H1=>tl σ H1 fun l H2=>th σ H2 fun u H3=>r x l u H3 Q):tSl r te tl th σ H Q:=h
theorem Hy {R:Option Int->Hp->Prop} (h:R none H):oS σ H R:=h
theorem Lk {t:TE} {R:Option Int->Hp->Prop} (h:t σ H fun x H1=>∃ i,x=.int i/\R (some i) H1):vZ t σ H R:=h
theorem Mm {i:Int} {R:Int->Prop} (h:R i):∃ j,V.int i=.int j/\R j:=⟨i,rfl,h⟩
theorem Mn {wi:TI} {g:TG} {tb:TS} (h:wi σ H fun J H1=>∃ W:Nat->Nat->St->Hp->Prop,(∃ m,W 0 m σ H1)/\∀ i m σ H,W i m σ H->
  (J.stop i H/\D.nx σ H)\/(J.go i H/\∃ N:St->Hp->Prop,(∀ σ' H',N σ' H'->∃ m',m' < m/\W (i + 1) m' σ' H')/\∀ x H',J.yld i H x H'->g x σ H' fun σ2 H2=>tb { D with nx:=N,ct:=N,bk:=D.nx } σ2 H2)):cU wi g tb D σ H:=h
theorem Ll {wi:TI} {g:CF TG} {tt:CF TT} {te:CF TE} {ix:List (Option Nat)} (h:wi σ H fun J H1=>∀ p,H1 p=none->
  ∃ W:Nat->Nat->List V->Hp->Prop,(∃ m,W 0 m [] (upd H1 p (.lst [])))/\∀ C s' H' fp,bO J (g C s' H' fp) (tt C s' H' fp) (te C s' H' fp) (sub ix σ) p Q W):bu wi g tt te ix σ H Q:=h
section
variable {R:It->Hp->Prop}
theorem J4 {tl:TE} (h:tl σ H fun x H1=>∃ a,x=.ref a/\(∃ xs,SqL K H1 a xs)/\R (Itl K a) H1):cc K tl σ H R:=h
theorem Lm {tl:TE} (h:tl σ H fun x H1=>∃ a,x=.ref a/\(∃ xs,SqT K H1 a xs)/\R (Itt K a) H1):rA K tl σ H R:=h
theorem J5 {ta:TA} (h:ta σ H fun vs H1=>∃ j:Int,vs=[.int j]/\-(2 ^ 62)<=j/\j < 2 ^ 62/\R (Itr 0 j.toNat) H1):fZ ta σ H R:=h
theorem J6 {ta:TA} (h:ta σ H fun vs H1=>∃ i j:Int,vs=[.int i,.int j]/\(-(2 ^ 62)<=i/\i < 2 ^ 62/\-(2 ^ 62)<=j/\j < 2 ^ 62)/\R (Itr i (j - i).toNat) H1):L8 ta σ H R:=h
theorem J7 {S:Src} {ta:TA} (h:ta σ H fun vs H1=>∃ a xs,vs=[.ref a]/\S.Sq K H1 a xs/\R (Ite S K a) H1):iZ S K ta σ H R:=h
theorem Ln {S1 S2:Src} {ta:TA} (h:ta σ H fun vs H1=>∃ a b xs ys,vs=[.ref a,.ref b]/\S1.Sq K H1 a xs/\S2.Sq K H1 b ys/\R (Itz S1 S2 K a b) H1):lM S1 S2 K ta σ H R:=h
end
noncomputable def Off (l:Addr) (H H':Hp):Prop:=∀ b,b≠l->H' b=H b
theorem ij {l:Addr} {o:HO}:Off l H (upd H l o):=fun b hb=>aS hb
theorem am.off {H0 H':Hp} {l:Addr} (s:am H0 H) (h:H0 l=none) (o:Off l H H'):am H0 H':=fun b u q=>by rw [o b (bn q h)]; exact s b u q
noncomputable def iO (H H':Hp):Prop:=∀ b xs,H b=some (.tup xs)->H' b=some (.tup xs)
theorem am.keep {H':Hp} (s:am H H'):iO H H':=fun b _ h=>s b _ h
theorem Off.keep {H':Hp} {l:Addr} {xs:List V} (o:Off l H H') (e:H l=some (.lst xs)):iO H H':=fun b ys q=>by
 rw [o b (Ay q e (by intro z; cases z))]
 exact q
theorem Lo {t:TA} (h:t σ H fun xs H1=>xs.length<=Nb/\∀ p,H1 p=none->Q (.ref p) (upd H1 p (.tup xs))):Eb t σ H Q:=h
theorem Lp {t:TA} (h:t σ H fun xs H1=>xs.length<=Nb/\∀ p,H1 p=none->Q (.ref p) (upd H1 p (.lst xs))):A7 t σ H Q:=h
theorem kn {l:Addr} {xs:List V} {y:V} (e:H l=some (.lst xs)) (hz:xs.length < Nb) (h:∀ H',Off l H H'->H' l=some (.lst (xs++[y]))->Q .non H'):ii (.ref l) [y] H Q:=⟨l,xs,y,rfl,rfl,e,hz,h _ ij az⟩
theorem p6 {l:Addr} {xs:List V} (e:H l=some (.lst xs)):tyV K "list" (.ref l) H:=.inl ⟨rfl,xs,SqL.of e⟩
theorem bI {l:Addr} {xs:List V} {i:Int} {v:V} (e:SqL K H l xs) (hv:atI xs i=some v) (h:Q v H):ca K (.ref l) (.int i) H Q:=⟨l,xs,i,v,rfl,rfl,e,hv,h⟩
theorem aD {l:Addr} {xs:List V} {i:Int} {v:V} (e:SqT K H l xs) (hv:atI xs i=some v) (h:Q v H):bX K (.ref l) (.int i) H Q:=⟨l,xs,i,v,rfl,rfl,e,hv,h⟩
end
theorem dy {p A B:Prop} [Decidable p] (h1:p->A) (h2:¬ p->B):if decide p=true then A else B:=by
 by_cases h:p
 ·rw [if_pos (decide_eq_true h)]; exact h1 h
 ·rw [if_neg (by rw [decide_eq_false h]; exact Nd)]; exact h2 h
theorem ve {p A B:Prop} [Decidable p] (h1:¬ p->A) (h2:p->B):if (!decide p)=true then A else B:=by
 by_cases h:p
 ·rw [if_neg (by rw [decide_eq_true h]; exact Nd)]; exact h2 h
 ·rw [if_pos (by rw [decide_eq_false h]; rfl)]; exact h1 h
theorem cE {p A B:Prop} [Decidable p] (h:p) (h1:A):if decide p=true then A else B:=dy (fun _=>h1) (fun n=>absurd h n)
theorem aB {p A B:Prop} [Decidable p] (h:¬ p) (h1:B):if decide p=true then A else B:=dy (fun n=>absurd n h) (fun _=>h1)
theorem Eh {A B:Prop} (h:B):if (!true)=true then A else B:=by exact lK h
theorem Mo {A B:Prop} (h:A):if (!false)=true then A else B:=by exact lL h
theorem Bk {σ:St} {H:Hp} {R:Bool->Hp->Prop} (h:R true H):aV σ H R:=h
theorem AC {B:(St->Hp->Prop)->Prop} {R:St->Hp->Prop} (h:B R):∃ N:St->Hp->Prop,(∀ σ' H',N σ' H'->R σ' H')/\B N:=⟨R,fun _ _ h=>h,h⟩
theorem AD {c:TT} {tb:TS} {D:kf} {σ:St} {H:Hp} (W:Nat->St->Hp->Prop) (m:Nat) (h0:W m σ H) (h:∀ m σ H,W m σ H->c σ H fun b H1=>if b=true then ∃ N:St->Hp->Prop,(∀ σ' H',N σ' H'->∃ m',m' < m/\W m' σ' H')/\tb { D with nx:=N,ct:=N,bk:=D.nx } σ H1 else D.nx σ H1):
  mO c tb D σ H:=⟨W,⟨m,h0⟩,h⟩
noncomputable def eW (K:Fg):List V->Hp->VK->Prop:=fun xs H Q=>∃ p ys,xs=[.ref p]/\(SqL K H p ys\/SqT K H p ys)/\Q (.int ys.length) H
noncomputable def vf (K:Fg):List V->Hp->VK->Prop:=fun xs H Q=>∃ (p:Addr) (ns:List Int),xs=[.ref p]/\SqL K H p (ns.map V.int)/\Q (.int ns.sum) H
noncomputable def Ei (K:Fg):List V->Hp->VK->Prop:=fun xs H Q=>∃ (p:Addr) (bs:List Bool),xs=[.ref p]/\SqL K H p (bs.map V.bl)/\Q (.bl (bs.all id)) H
noncomputable def ym (K:Fg):List V->Hp->VK->Prop:=fun xs H Q=>∃ (p:Addr) (ns:List Int),xs=[.ref p]/\SqL K H p (ns.map V.int)/\ns≠[]/\∀ M,M∈ns->(∀ a∈ns,a<=M)->Q (.int M) H
noncomputable def Ej:List V->Hp->VK->Prop:=fun xs H Q=>∃ i j,xs=[.int i,.int j]/\Q (.int (if j < i then j else i)) H
noncomputable def Jx:List V->Hp->VK->Prop:=fun xs H Q=>∃ i j,xs=[.int i,.int j]/\Q (.int (if j > i then j else i)) H
noncomputable def Ek:List V->Hp->VK->Prop:=fun xs H Q=>(∃ i,xs=[.int i]/\Q (.int i) H)\/∃ k,xs=[.bl k]/\Q (.int (if k then 1 else 0)) H
noncomputable def Lq (K:Fg):List V->Hp->VK->Prop:=fun xs H Q=>∃ p ys,xs=[.ref p]/\((SqL K H p ys/\∀ l,H l=none->Q (.ref l) (upd H l (.tup ys)))\/(SqT K H p ys/\Q (.ref p) H))
section
variable {K:Fg} {H:Hp} {Q:VK}
theorem tI {l:Addr} {ys:List V} (e:SqL K H l ys) (h:Q (.int ys.length) H):eW K [.ref l] H Q:=⟨l,ys,rfl,.inl e,h⟩
theorem Dm {l:Addr} {ys:List V} (e:SqT K H l ys) (h:Q (.int ys.length) H):eW K [.ref l] H Q:=⟨l,ys,rfl,.inr e,h⟩
theorem El {l:Addr} {ns:List Int} (e:SqL K H l (ns.map V.int)) (h:Q (.int ns.sum) H):vf K [.ref l] H Q:=⟨l,ns,rfl,e,h⟩
theorem Lr {i j:Int} (h:Q (.int (if j < i then j else i)) H):Ej [.int i,.int j] H Q:=⟨i,j,rfl,h⟩
theorem Ls {i j:Int} (h:Q (.int (if j > i then j else i)) H):Jx [.int i,.int j] H Q:=⟨i,j,rfl,h⟩
theorem Lu {i:Int} (h:Q (.int i) H):Ek [.int i] H Q:=.inl ⟨i,rfl,h⟩
theorem Lv {k:Bool} (h:Q (.int (if k then 1 else 0)) H):Ek [.bl k] H Q:=.inr ⟨k,rfl,h⟩
end
noncomputable def New (H:Hp) (o:HO) (Q:Addr->Hp->Prop):Prop:=∀ p H',H p=none->am H H'->H' p=some o->Q p H'
theorem New.upd {H:Hp} {o:HO} {Q:Addr->Hp->Prop} (h:New H o Q):∀ p,H p=none->Q p (upd H p o):=fun p hp=>h p _ hp (bg hp _) az
noncomputable def dL (t:TA):TE:=fun σ H Q=>t σ H fun xs H1=>xs.length<=Nb/\New H1 (.tup xs) fun p H2=>Q (.ref p) H2
noncomputable def dZ (t:TA):TE:=fun σ H Q=>t σ H fun xs H1=>xs.length<=Nb/\New H1 (.lst xs) fun p H2=>Q (.ref p) H2
noncomputable def vg:R2:=fun x y H Q=>∃ l b xs zs,x=.ref l/\y=.ref b/\H l=some (.lst xs)/\H b=some (.lst zs)/\xs.length + zs.length<=Nb/\New H (.lst (xs++zs)) fun p H2=>Q (.ref p) H2
noncomputable def Hz:R2:=fun x y H Q=>∃ l k xs,x=.ref l/\y=.int k/\H l=some (.lst xs)/\-(2 ^ 63)<=k/\k < 2 ^ 63/\xs.length * k.toNat<=Nb/\New H (.lst (NN k.toNat xs).flatten) fun p H2=>Q (.ref p) H2
noncomputable def mR (K:Fg):List V->Hp->VK->Prop:=fun xs H Q=>∃ p ys,xs=[.ref p]/\(SqL K H p ys\/SqT K H p ys)/\New H (.lst ys) fun l H2=>Q (.ref l) H2
noncomputable def oU (K:Fg):List V->Hp->VK->Prop:=fun xs H Q=>∃ p ys,xs=[.ref p]/\SqL K H p ys/\New H (.tup ys) fun l H2=>Q (.ref l) H2
section
variable {σ:St} {H:Hp} {Q:VK} {K:Fg}
theorem Mp {t:TA} (h:t σ H fun xs H1=>xs.length<=Nb/\New H1 (.tup xs) fun p H2=>Q (.ref p) H2):dL t σ H Q:=h
theorem tK {t:TA} (h:t σ H fun xs H1=>xs.length<=Nb/\New H1 (.lst xs) fun p H2=>Q (.ref p) H2):dZ t σ H Q:=h
theorem wf {l b:Addr} {xs zs:List V} (h1:H l=some (.lst xs)) (h2:H b=some (.lst zs)) (hz:xs.length + zs.length<=Nb) (h:∀ p H',H p=none->am H H'->H' p=some (.lst (xs++zs))->Q (.ref p) H'):vg (.ref l) (.ref b) H Q:=⟨l,b,xs,zs,rfl,rfl,h1,h2,hz,h⟩
theorem rN {p:Addr} {ys:List V} (e:SqL K H p ys) (h:∀ l H',H l=none->am H H'->H' l=some (.lst ys)->Q (.ref l) H'):mR K [.ref p] H Q:=⟨p,ys,rfl,.inl e,h⟩
theorem yn {p:Addr} {ys:List V} (e:SqL K H p ys) (h:∀ l H',H l=none->am H H'->H' l=some (.tup ys)->Q (.ref l) H'):oU K [.ref p] H Q:=⟨p,ys,rfl,e,h⟩
end
section
variable {g:TG} {tb:TS} {NX:St->Hp->Prop} {RT:VK} {σ:St} {H:Hp} {K:Fg}
theorem ko {j:Int} (n:Nat) (hn:j.toNat=n) (hj:j<=1000000000) (hj0:-1000000000<=j) (Pv:Nat->St->Hp->Prop) (h0:Pv 0 σ H) (hs:∀ i σ H,i < n->Pv i σ H->g (.int i) σ H fun σ2 H2=>tb { nx:=Pv (i + 1),rt:=RT,bk:=NX,ct:=Pv (i + 1) } σ2 H2) (hd:∀ σ H,Pv n σ H->NX σ H):
  ∃ j':Int,[V.int j]=[.int j']/\-(2 ^ 62)<=j'/\j' < 2 ^ 62/\∃ W:Nat->Nat->St->Hp->Prop,(∃ m,W 0 m σ H)/\∀ i m σ H,W i m σ H->
   ((Itr 0 j'.toNat).stop i H/\NX σ H)\/((Itr 0 j'.toNat).go i H/\∃ N:St->Hp->Prop,(∀ σ' H',N σ' H'->∃ m',m' < m/\W (i + 1) m' σ' H')/\∀ x H',(Itr 0 j'.toNat).yld i H x H'->g x σ H' fun σ2 H2=>tb { nx:=N,rt:=RT,bk:=NX,ct:=N } σ2 H2):=by
 refine ⟨j,rfl,by omega,by omega,?_⟩
 subst hn
 exact rC (lo:=0) (D:={ nx:=NX,rt:=RT }) Pv h0 (fun i σ H hi p=>by rw [SK]; exact hs i σ H hi p) hd
theorem oV {a:Addr} (xs:List V) (hx:SqL K H a xs) (Pv:Nat->St->Hp->Prop) (h0:Pv 0 σ H) (hl:∀ i σ H,i<=xs.length->Pv i σ H->SqL K H a xs) (hs:∀ i x σ H,xs[i]?=some x->Pv i σ H->g x σ H fun σ2 H2=>tb { nx:=Pv (i + 1),rt:=RT,bk:=NX,ct:=Pv (i + 1) } σ2 H2) (hd:∀ σ H,Pv xs.length σ H->NX σ H):
  ∃ a',V.ref a=.ref a'/\(∃ xs,SqL K H a' xs)/\∃ W:Nat->Nat->St->Hp->Prop,(∃ m,W 0 m σ H)/\∀ i m σ H,W i m σ H->
   ((Itl K a').stop i H/\NX σ H)\/((Itl K a').go i H/\∃ N:St->Hp->Prop,(∀ σ' H',N σ' H'->∃ m',m' < m/\W (i + 1) m' σ' H')/\∀ x H',(Itl K a').yld i H x H'->g x σ H' fun σ2 H2=>tb { nx:=N,rt:=RT,bk:=NX,ct:=N } σ2 H2):=
 ⟨a,rfl,⟨xs,hx⟩,uX (D:={ nx:=NX,rt:=RT }) Pv h0 hl hs hd⟩
theorem rO {a:Addr} (xs:List V) (hx:SqT K H a xs) (Pv:Nat->St->Hp->Prop) (h0:Pv 0 σ H) (hl:∀ i σ H,i<=xs.length->Pv i σ H->SqT K H a xs) (hs:∀ i x σ H,xs[i]?=some x->Pv i σ H->g x σ H fun σ2 H2=>tb { nx:=Pv (i + 1),rt:=RT,bk:=NX,ct:=Pv (i + 1) } σ2 H2) (hd:∀ σ H,Pv xs.length σ H->NX σ H):
  ∃ a',V.ref a=.ref a'/\(∃ xs,SqT K H a' xs)/\∃ W:Nat->Nat->St->Hp->Prop,(∃ m,W 0 m σ H)/\∀ i m σ H,W i m σ H->
   ((Itt K a').stop i H/\NX σ H)\/((Itt K a').go i H/\∃ N:St->Hp->Prop,(∀ σ' H',N σ' H'->∃ m',m' < m/\W (i + 1) m' σ' H')/\∀ x H',(Itt K a').yld i H x H'->g x σ H' fun σ2 H2=>tb { nx:=N,rt:=RT,bk:=NX,ct:=N } σ2 H2):=
 ⟨a,rfl,⟨xs,hx⟩,JO (D:={ nx:=NX,rt:=RT }) Pv h0 hl hs hd⟩
theorem mJ {S:Src} {a:Addr} (xs:List V) (hx:S.Sq K H a xs) (Pv:Nat->St->Hp->Prop) (h0:Pv 0 σ H) (hl:∀ i σ H,i<=xs.length->Pv i σ H->S.Sq K H a xs)
  (hs:∀ i x T σ H H',xs[i]?=some x->Pv i σ H->H T=none->am H H'->H' T=some (.tup [.int i,x])->g (.ref T) σ H' fun σ2 H2=>tb { nx:=Pv (i + 1),rt:=RT,bk:=NX,ct:=Pv (i + 1) } σ2 H2) (hd:∀ σ H,Pv xs.length σ H->NX σ H):
  ∃ a' xs',[V.ref a]=[.ref a']/\S.Sq K H a' xs'/\∃ W:Nat->Nat->St->Hp->Prop,(∃ m,W 0 m σ H)/\∀ i m σ H,W i m σ H->
   ((Ite S K a').stop i H/\NX σ H)\/((Ite S K a').go i H/\∃ N:St->Hp->Prop,(∀ σ' H',N σ' H'->∃ m',m' < m/\W (i + 1) m' σ' H')/\∀ x H',(Ite S K a').yld i H x H'->g x σ H' fun σ2 H2=>tb { nx:=N,rt:=RT,bk:=NX,ct:=N } σ2 H2):=
 ⟨a,xs,rfl,hx,Bg (D:={ nx:=NX,rt:=RT }) Pv h0 hl (fun i x T σ H e p hT=>hs i x T σ H _ e p hT (bg hT _) az) hd⟩
end
theorem Bl {α:Type} [DecidableEq α]:∀ {xs:List α} {m:α},m∈xs->∃ j:Nat,xs[j]?=some m/\∀ i:Nat,i < j->xs[i]?≠some m
 | x :: r,m,h=>by
  by_cases e:x=m
  ·exact ⟨0,by rw [e]; rfl,fun i hi=>absurd hi (by omega)⟩
  ·have hm:m∈r:=by
    rcases M6.mp h with h | h
    ·exact absurd h.symm e
    ·exact h
   obtain ⟨j,h1,h2⟩:=Bl hm
   refine ⟨j + 1,h1,fun i hi=>?_⟩
   cases i with
   | zero=>intro z; exact e (Nf z)
   | succ i=>exact h2 i (by omega)
theorem dM {K:Fg} {i j:Nat} {a:Addr} {x y:V} {σ:St} {H:Hp} {R:St->Hp->Prop} (e:SqT K H a [x,y]) (h:R ((σ.set i (some x)).set j (some y)) H):cZ K 2 (aW (aj i) (aW (aj j) cY)) (.ref a) σ H R:=
 ⟨a,[x,y],rfl,e,rfl,x,[y],rfl,y,[],rfl,rfl,h⟩
noncomputable def bf (H:Hp) (p:Addr) (R:Nat->List V->Hp->Prop) (i:Nat) (acc:List V) (H2:Hp):Prop:=am H H2/\H2 p=some (.lst acc)/\acc.length<=i/\R i acc H2
theorem bf.put {H H4:Hp} {p:Addr} {R:Nat->List V->Hp->Prop} {i:Nat} {acc:List V} {y:V} (hp:H p=none) (st:∀ i acc H H',R i acc H->iO H H'->R i acc H') (s:am H H4) (e:H4 p=some (.lst acc)) (l:acc.length<=i) (r:R (i + 1) (acc++[y]) H4):
  H4 p=some (.lst acc)/\bf H p R (i + 1) (acc++[y]) (upd H4 p (.lst (acc++[y]))):=
 ⟨e,s.upd hp _,az,by rw [Nq]; exact TY l 1,st _ _ _ _ r (ij.keep e)⟩
theorem bf.skip {H H4:Hp} {p:Addr} {R:Nat->List V->Hp->Prop} {i:Nat} {acc:List V} (s:am H H4) (e:H4 p=some (.lst acc)) (l:acc.length<=i) (r:R (i + 1) acc H4):bf H p R (i + 1) acc H4:=⟨s,e,by omega,r⟩
section
variable {g:CF TG} {tt:CF TT} {te:CF TE} {σ₀:St} {Q:VK} {H:Hp} {K:Fg}
theorem vh {j:Int} (n:Nat) (hn:j.toNat=n) (hj:j<=1000000) (hj0:-1000000<=j) (R:Nat->List V->Hp->Prop) (h0:∀ H',am H H'->R 0 [] H')
  (hs:∀ p,H p=none->∀ C s' H' fp,∀ i acc H2,i < n->bf H p R i acc H2->g C s' H' fp (.int i) σ₀ H2 fun σ2 H3=>tt C s' H' fp σ2 H3 fun b H4=>if b=true then te C s' H' fp σ2 H4 fun y H5=>H5 p=some (.lst acc)/\bf H p R (i + 1) (acc++[y]) (upd H5 p (.lst (acc++[y]))) else bf H p R (i + 1) acc H4)
  (hd:∀ p acc H2,H p=none->am H H2->H2 p=some (.lst acc)->R n acc H2->Q (.ref p) H2):
  ∃ j':Int,[V.int j]=[.int j']/\-(2 ^ 62)<=j'/\j' < 2 ^ 62/\∀ p,H p=none->∃ W:Nat->Nat->List V->Hp->Prop,(∃ m,W 0 m [] (upd H p (.lst [])))/\∀ C s' H' fp,bO (Itr 0 j'.toNat) (g C s' H' fp) (tt C s' H' fp) (te C s' H' fp) σ₀ p Q W:=by
 refine ⟨j,rfl,by omega,by omega,fun p hp=>?_⟩
 subst hn
 exact pY (lo:=0) (bf H p R) ⟨bg hp _,az,M1 _,h0 _ (bg hp _)⟩ (fun i acc H2 _ c=>⟨c.2.1,c.2.2.1⟩) (by rw [M8]; omega) (fun C s' H' fp i acc H2 hi c=>by rw [SK]; exact hs p hp C s' H' fp i acc H2 hi c) fun acc H2 c=>hd p acc H2 hp c.1 c.2.1 c.2.2.2
theorem cF {a:Addr} (xs:List V) (hx:SqL K H a xs) (hz:xs.length<=1000000) (R:Nat->List V->Hp->Prop) (h0:∀ H',am H H'->R 0 [] H')
  (hs:∀ p,H p=none->∀ C s' H' fp,∀ i x acc H2,xs[i]?=some x->bf H p R i acc H2->g C s' H' fp x σ₀ H2 fun σ2 H3=>tt C s' H' fp σ2 H3 fun b H4=>if b=true then te C s' H' fp σ2 H4 fun y H5=>H5 p=some (.lst acc)/\bf H p R (i + 1) (acc++[y]) (upd H5 p (.lst (acc++[y]))) else bf H p R (i + 1) acc H4)
  (hd:∀ p acc H2,H p=none->am H H2->H2 p=some (.lst acc)->R xs.length acc H2->Q (.ref p) H2):
  ∃ a',V.ref a=.ref a'/\(∃ xs,SqL K H a' xs)/\∀ p,H p=none->∃ W:Nat->Nat->List V->Hp->Prop,(∃ m,W 0 m [] (upd H p (.lst [])))/\∀ C s' H' fp,bO (Itl K a') (g C s' H' fp) (tt C s' H' fp) (te C s' H' fp) σ₀ p Q W:=
 ⟨a,rfl,⟨xs,hx⟩,fun p hp=>zk (bf H p R) ⟨bg hp _,az,M1 _,h0 _ (bg hp _)⟩ (fun i acc H2 _ c=>⟨c.2.1,c.2.2.1⟩) (fun i acc H2 _ c=>c.1.seq hx) (by rw [M8]; omega) (fun C s' H' fp i x acc H2 hi c=>hs p hp C s' H' fp i x acc H2 hi c) fun acc H2 c=>hd p acc H2 hp c.1 c.2.1 c.2.2.2⟩
end
section
variable {g:TG} {tb:TS} {NX:St->Hp->Prop} {RT:VK} {σ:St} {H:Hp} {K:Fg}
theorem Lw {S1 S2:Src} {a b:Addr} (xs ys:List V) (hx:S1.Sq K H a xs) (hy:S2.Sq K H b ys) (Pv:Nat->St->Hp->Prop) (h0:Pv 0 σ H) (hl:∀ i σ H,Pv i σ H->S1.Sq K H a xs/\S2.Sq K H b ys)
  (hs:∀ i x y T σ H H',xs[i]?=some x->ys[i]?=some y->Pv i σ H->H T=none->am H H'->H' T=some (.tup [x,y])->g (.ref T) σ H' fun σ2 H2=>tb { nx:=Pv (i + 1),rt:=RT,bk:=NX,ct:=Pv (i + 1) } σ2 H2) (hd:∀ σ H,Pv (min xs.length ys.length) σ H->NX σ H):
  ∃ a' b' xs' ys',[V.ref a,V.ref b]=[.ref a',.ref b']/\S1.Sq K H a' xs'/\S2.Sq K H b' ys'/\∃ W:Nat->Nat->St->Hp->Prop,(∃ m,W 0 m σ H)/\∀ i m σ H,W i m σ H->
   ((Itz S1 S2 K a' b').stop i H/\NX σ H)\/((Itz S1 S2 K a' b').go i H/\∃ N:St->Hp->Prop,(∀ σ' H',N σ' H'->∃ m',m' < m/\W (i + 1) m' σ' H')/\∀ x H',(Itz S1 S2 K a' b').yld i H x H'->g x σ H' fun σ2 H2=>tb { nx:=N,rt:=RT,bk:=NX,ct:=N } σ2 H2):=by
 refine ⟨a,b,xs,ys,rfl,hx,hy,F6 (J:=Itz S1 S2 K a b) (n:=min xs.length ys.length) (D:={ nx:=NX,rt:=RT }) (Y:=fun i H x H1=>∃ T u v,H T=none/\x=.ref T/\H1=upd H T (.tup [u,v])/\xs[i]?=some u/\ys[i]?=some v) Pv h0 (fun i σ H hi w=>?_) (fun σ H w=>?_) (fun i σ H x H1 hi w y=>?_) (fun i x σ H H1 hi w y=>?_) hd⟩
 ·obtain ⟨q1,q2⟩:=hl i σ H w
  exact ⟨xs,ys,xs[i],ys[i],q1,q2,by simp [show i < xs.length by omega],by simp [show i < ys.length by omega]⟩
 ·obtain ⟨q1,q2⟩:=hl _ σ H w
  exact ⟨xs,ys,q1,q2,rfl⟩
 ·obtain ⟨T,u,v,e1,e2,e3,e4⟩:=y
  obtain ⟨q1,q2⟩:=hl _ σ H w
  obtain ⟨e5,e6⟩:=e4 xs ys q1 q2
  exact ⟨T,u,v,e1,e2,e3,e5,e6⟩
 ·obtain ⟨T,u,v,e1,rfl,rfl,e4,e5⟩:=y
  exact hs i u v T σ H _ e4 e5 w e1 (bg e1 _) az
end
section
variable {K:Fg} {H:Hp} {Q:VK} {a b:Addr} {ns ms:List Int}
theorem Jy (h1:SqL K H a (ns.map V.int)) (h2:SqL K H b (ms.map V.int)) (h:Q (.bl (decide (ns=ms))) H):jz (SqL K) false (.ref a) (.ref b) H Q:=⟨a,b,_,_,_,rfl,rfl,h1,h2,rL ns ms,by rw [pZ]; exact h⟩
theorem Mq (h1:SqT K H a (ns.map V.int)) (h2:SqT K H b (ms.map V.int)) (h:Q (.bl (decide (ns=ms))) H):jz (SqT K) false (.ref a) (.ref b) H Q:=⟨a,b,_,_,_,rfl,rfl,h1,h2,rL ns ms,by rw [pZ]; exact h⟩
theorem Mr (h1:SqT K H a (ns.map V.int)) (h2:SqT K H b (ms.map V.int)) (h:Q (.bl (!decide (ns=ms))) H):jz (SqT K) true (.ref a) (.ref b) H Q:=⟨a,b,_,_,_,rfl,rfl,h1,h2,rL ns ms,by rw [pZ]; exact h⟩
theorem gQ {x:V} {T:String} {t:Value} {c:Bool} (ty:gc K H x t) (e:NR K t (.type T)=some c) (h:Q (.bl c) H):iN K [x,.ty T] H Q:=⟨x,T,t,c,rfl,ty,e,h⟩
end
section
variable {g:CF TG} {tt:CF TT} {te:CF TE} {σ₀:St} {Q:VK} {H:Hp} {K:Fg}
theorem mS {S1 S2:Src} {a b:Addr} (xs ys:List V) (hx:S1.Sq K H a xs) (hy:S2.Sq K H b ys) (kx:∀ H',am H H'->S1.Sq K H' a xs) (ky:∀ H',am H H'->S2.Sq K H' b ys) (hz:xs.length<=1000000) (R:Nat->List V->Hp->Prop) (h0:∀ H',am H H'->R 0 [] H')
  (hs:∀ p,H p=none->∀ C s' H' fp,∀ i x y T acc H2 H3,xs[i]?=some x->ys[i]?=some y->bf H p R i acc H2->H2 T=none->am H2 H3->H3 T=some (.tup [x,y])->H3 p=some (.lst acc)->g C s' H' fp (.ref T) σ₀ H3 fun σ2 H3=>tt C s' H' fp σ2 H3 fun b H4=>if b=true then te C s' H' fp σ2 H4 fun y H5=>H5 p=some (.lst acc)/\bf H p R (i + 1) (acc++[y]) (upd H5 p (.lst (acc++[y]))) else bf H p R (i + 1) acc H4)
  (hd:∀ p acc H2,H p=none->am H H2->H2 p=some (.lst acc)->R (min xs.length ys.length) acc H2->Q (.ref p) H2):
  ∃ a' b' xs' ys',[V.ref a,V.ref b]=[.ref a',.ref b']/\S1.Sq K H a' xs'/\S2.Sq K H b' ys'/\∀ p,H p=none->∃ W:Nat->Nat->List V->Hp->Prop,(∃ m,W 0 m [] (upd H p (.lst [])))/\∀ C s' H' fp,bO (Itz S1 S2 K a' b') (g C s' H' fp) (tt C s' H' fp) (te C s' H' fp) σ₀ p Q W:=by
 refine ⟨a,b,xs,ys,rfl,hx,hy,fun p hp=>oT (n:=min xs.length ys.length) (Y:=fun i H x H1=>∃ T u v,H T=none/\x=.ref T/\H1=upd H T (.tup [u,v])/\xs[i]?=some u/\ys[i]?=some v) (bf H p R)
  ⟨bg hp _,az,M1 _,h0 _ (bg hp _)⟩ (fun i acc H2 _ c=>⟨c.2.1,c.2.2.1⟩) (by rw [M8]; omega) (fun i acc H2 hi c=>?_) (fun acc H2 c=>?_) (fun i acc H2 x H3 hi c y=>?_) (fun C s' H' fp i x acc H2 H3 hi c y=>?_) fun acc H2 c=>hd p acc H2 hp c.1 c.2.1 c.2.2.2⟩
 ·exact ⟨xs,ys,xs[i],ys[i],kx _ c.1,ky _ c.1,by simp [show i < xs.length by omega],by simp [show i < ys.length by omega]⟩
 ·exact ⟨xs,ys,kx _ c.1,ky _ c.1,rfl⟩
 ·obtain ⟨T,u,v,e1,e2,e3,e4⟩:=y
  obtain ⟨e5,e6⟩:=e4 xs ys (kx _ c.1) (ky _ c.1)
  exact ⟨T,u,v,e1,e2,e3,e5,e6⟩
 ·obtain ⟨T,u,v,e1,rfl,rfl,e4,e5⟩:=y
  exact hs p hp C s' H' fp i u v T acc H2 _ e4 e5 c e1 (bg e1 _) az (by rw [aS (bn c.2.1 e1)]; exact c.2.1)
noncomputable def Bm (K:Fg):V->Option Int->Option Int->Hp->VK->Prop:=fun x lo hi H Q=>∃ a xs,x=.ref a/\SqT K H a xs/\¬ (HT.sIx xs.length 0 lo=0/\HT.sIx xs.length xs.length hi=xs.length)/\New H (.tup (rF xs lo hi)) fun p H2=>Q (.ref p) H2
theorem Em {a:Addr} {xs:List V} {lo hi:Option Int} (e:SqT K H a xs) (hn:¬ (HT.sIx xs.length 0 lo=0/\HT.sIx xs.length xs.length hi=xs.length)) (h:∀ p H',H p=none->am H H'->H' p=some (.tup (rF xs lo hi))->Q (.ref p) H'):Bm K (.ref a) lo hi H Q:=⟨a,xs,rfl,e,hn,h⟩
theorem vi (x:V) (xs:List V):rF (x :: xs) (some 1) none=xs:=by
 unfold rF
 have e:HT.sIx (x :: xs).length 0 (some 1)=min 1 (x :: xs).length:=rfl
 rw [e,show min 1 (x :: xs).length=1 by simp]
 show ((x :: xs).drop 1).take ((x :: xs).length - 1)=xs
 rw [PD (by simp)]
 rfl
theorem oB (x:V) (xs:List V):¬ (HT.sIx (x :: xs).length 0 (some 1)=0/\HT.sIx (x :: xs).length (x :: xs).length none=(x :: xs).length):=fun h=>by
 have e:HT.sIx (x :: xs).length 0 (some 1)=min 1 (x :: xs).length:=rfl
 rw [e,show min 1 (x :: xs).length=1 by simp] at h
 exact absurd h.1 (by decide)
theorem Ms {x y:Str} (h:Q (.bl (decide (x=y))) H):rEq (.str x) (.str y) H Q:=⟨rfl,by rw [show decide (V.str x=V.str y)=decide (x=y) from decide_eq_decide.mpr ⟨fun e=>by injection e,fun e=>by rw [e]⟩]; exact h⟩
theorem Mt {x y:Str} (h:Q (.bl (!decide (x=y))) H):rNe (.str x) (.str y) H Q:=⟨rfl,by rw [show decide (V.str x=V.str y)=decide (x=y) from decide_eq_decide.mpr ⟨fun e=>by injection e,fun e=>by rw [e]⟩]; exact h⟩
noncomputable def En (kvs:List (Str×V)) (a:Addr):R2:=fun x y H Q=>x=.ref a/\∃ k v,y=.str k/\kvs.lookup k=some v/\Q v H
theorem Jz {kvs:List (Str×V)} {a:Addr} {k:Str} {v:V} (e:kvs.lookup k=some v) (h:Q v H):En kvs a (.ref a) (.str k) H Q:=⟨rfl,k,v,rfl,e,h⟩
noncomputable def Bn (kvs:List (Str×V)) (a:Addr) (neg:Bool):R2:=fun x y H Q=>y=.ref a/\∃ k,x=.str k/\Q (.bl (if neg then !(kvs.lookup k).isSome else (kvs.lookup k).isSome)) H
end
noncomputable def lN (K:Fg) (a:Addr) (xs:List V):Prop:=∃ (o:Obj) (its:Array Value) (n:Nat),K.lookup a=some o/\o.cls=.type "tuple"/\o.data=.seq its n/\its.size<=Nb/\aK xs its.toList
theorem lN.sq {K:Fg} {a:Addr} {xs:List V} (h:lN K a xs) (H:Hp):SqT K H a xs:=.inr h
section
variable {H:Hp} {Q:VK} {K:Fg}
theorem HL {l b:Addr} {xs zs:List V} (e:H l=some (.lst xs)) (eb:H b=some (.lst zs)) (hz:xs.length + zs.length<=Nb) (h:∀ H',Off l H H'->H' l=some (.lst (xs++zs))->Q .non H'):yj (.ref l) [.ref b] H Q:=⟨l,b,xs,zs,rfl,rfl,e,eb,hz,h _ ij az⟩
end
theorem Gb (xs:List V) (z:Int) {m:Nat} (hl:xs.length=m) (hm:0 < m):∃ x,atI xs (z % (m:Int))=some x/\x∈xs:=by
 have m1:=PN z (b:=(m:Int)) (by omega)
 have m2:=Pm z (b:=(m:Int)) (by omega)
 have hk:(z % (m:Int)).toNat < xs.length:=by omega
 refine ⟨xs[(z % (m:Int)).toNat],?_,Pj hk⟩
 have e:z % (m:Int)=(((z % (m:Int)).toNat:Nat):Int):=by omega
 have q:atI xs (((z % (m:Int)).toNat:Nat):Int)=some xs[(z % (m:Int)).toNat]:=cP (MZ hk)
 rw [<-e] at q
 exact q
noncomputable def Mu:R2:=fun x y H Q=>∃ a b,x=.bl a/\y=.bl b/\Q (.bl (!(a == b))) H
theorem Lx {a b:Bool} {H:Hp} {Q:VK} (h:Q (.bl (!(a == b))) H):Mu (.bl a) (.bl b) H Q:=⟨a,b,rfl,rfl,h⟩
end L2
end
local macro_rules | `(tactic| walk_at "rb1")=>`(tactic| first
 | ((with_reducible refine' L2.p0 (v:=?v) ?e ?h); (case e=>exact rfl))
 | (with_reducible first | refine L2.F9 ?_ | refine L2.nN ?_ | refine L2.Mc ?_ | refine L2.Lb ?_ | refine L2.Lc ?_ | refine L2.J2 ?_ | refine L2.Ld ?_ | refine L2.jC ?_ | refine L2.Le ?_ | refine L2.r_c ?_ | refine L2.vd ?_ | refine L2.MI ?_ | refine L2.MJ ?_ | refine L2.r_U ?_ | refine L2.Md ?_ | refine L2.Me ?_ | refine L2.Ms ?_ | refine L2.Mt ?_ | refine L2.Mf ?_ | refine L2.Mg ?_ | refine L2.Lx ?_ | refine L2.Lf ?_ | refine L2.ML ?_ | refine L2.Lg ?_ | refine L2.Mm ?_ | refine L2.Mh ?_ | refine L2.MM ?_ | refine L2.Mi ?_ | refine L2.Lh ?_ | refine L2.Mj ?_ | refine L2.Li ?_ | refine L2.MN ?_ | refine L2.J3 ?_ | refine L2.Jw ?_ | refine L2.Ga ?_ | refine L2.Lj ?_ | refine L2.MO ?_ | refine L2.MP ?_ | refine L2.Ml ?_ | refine L2.MQ ?_ | refine L2.MR ?_ | refine L2.Hy ?_ | refine L2.Lk ?_ | refine L2.Mn ?_ | refine L2.Ll ?_ | refine L2.J4 ?_ | refine L2.Lm ?_ | refine L2.J5 ?_ | refine L2.J6 ?_ | refine L2.J7 ?_ | refine L2.Ln ?_ | refine L2.Lo ?_ | refine L2.Lp ?_ | refine L2.Mp ?_ | refine L2.tK ?_ | refine L2.Lr ?_ | refine L2.Ls ?_ | refine L2.Lu ?_ | refine L2.Lv ?_ | refine L2.lL ?_ | refine L2.lK ?_ | refine L2.Eh ?_ | refine L2.Mo ?_ | refine L2.Bk ?_)
 | ((with_reducible refine L2.r_I ?_ ?_); (first | (show (0:Int) < _; omega) | (show (0:Int) < _; decide) | exact ⟨by decide,by decide,by decide⟩ | exact And.intro (by omega) (by omega) | exact (PySem.IntMulOk.of_right (Uj (by omega) (by omega))) | exact (PySem.IntMulOk.of_left (Uj (by omega) (by omega)))))
 | ((with_reducible refine' L2.tI (ys:=?y) ?e ?h); (case e=>first | assumption | exact L2.SqL.of (by assumption)))
 | ((with_reducible refine' L2.Dm (ys:=?y) ?e ?h); (case e=>first | assumption | exact L2.SqT.of (by assumption)))
 | dsimp only [O4,O5,L2.sub,Np,Qu,List.getElem?_cons_zero,List.getElem?_cons_succ])
local macro_rules | `(tactic| walk_at "rd")=>`(tactic| repeat (first | (with_reducible first | refine L2.bA ?_ | refine L2.Jv ?_) | walk_at "rb1"))
local macro_rules | `(tactic| walk_at "rs")=>`(tactic| repeat (first | (with_reducible refine L2.Jv ?_) | walk_at "rb1"))
local macro_rules | `(tactic| walk_at "ra")=>`(tactic| repeat (walk_at "rb1"))
namespace L2
open PySem PyProof.Rows
noncomputable abbrev IA:=Option Int
noncomputable abbrev IK:=Sum IA (List IA)
noncomputable abbrev MK:=Sum IA (List IK)
noncomputable def iaV:V->Option IA
 | .non=>some none
 | .bl b=>some (some (if b then 1 else 0))
 | .int i=>some (some i)
 | _=>none
noncomputable def nO (H:Hp) (x:V):IK->Prop
 | .inl a=>iaV x=some a
 | .inr as=>∃ c ys,x=.ref c/\H c=some (.tup ys)/\ys.map iaV=as.map some
noncomputable def ci (H:Hp) (x:V):MK->Prop
 | .inl a=>iaV x=some a
 | .inr is=>∃ c xs,x=.ref c/\H c=some (.tup xs)/\Paired (nO H) xs is
noncomputable def gh:MK->Bool
 | .inl _=>false
 | .inr _=>true
theorem nO.keep {H H':Hp} {x:V} {k:IK} (h:nO H x k) (kp:iO H H'):nO H' x k:=by
 cases k with
 | inl a=>exact h
 | inr as=>obtain ⟨c,ys,e,q,r⟩:=h; exact ⟨c,ys,e,kp _ _ q,r⟩
theorem ci.keep {H H':Hp} {x:V} {k:MK} (h:ci H x k) (kp:iO H H'):ci H' x k:=by
 cases k with
 | inl a=>exact h
 | inr as=>obtain ⟨c,xs,e,q,r⟩:=h; exact ⟨c,xs,e,kp _ _ q,Paired.mapP r fun _ _ z=>nO.keep z kp⟩
theorem zo {H H':Hp} {xs:List V} {ks:List MK} (h:Paired (ci H) xs ks) (kp:iO H H'):Paired (ci H') xs ks:=Paired.mapP h fun _ _ z=>ci.keep z kp
theorem bx {α β:Type} {F:α->β->Prop}:∀ {xs:List α} {ys:List β} {i:Nat} {x:α},Paired F xs ys->xs[i]?=some x->∃ y,ys[i]?=some y/\F x y
 | _,_,_,_,.nil,e=>by simp at e
 | _,_,0,_,.cons r _,e=>by simp at e; subst e; exact ⟨_,rfl,r⟩
 | _,_,i + 1,x,.cons _ t,e=>by
  obtain ⟨u,h1,h2⟩:=bx (i:=i) (x:=x) t (by simpa using e)
  exact ⟨u,by simpa using h1,h2⟩
theorem wg (H:Hp):∀ ns:List Int,Paired (nO H) (ns.map V.int) (ns.map fun n=>(Pw (some n):IK))
 | []=>.nil
 | n :: r=>.cons rfl (wg H r)
theorem Dn {H:Hp} {c:Addr} {ns:List Int} (e:H c=some (.tup (ns.map V.int))):ci H (.ref c) (.inr (ns.map fun n=>(Pw (some n):IK))):=⟨c,_,rfl,e,wg H ns⟩
theorem Off.keepD {H H':Hp} {l:Addr} (o:Off l H H') (h:∀ xs,H l≠some (.tup xs)):iO H H':=fun b ys q=>by
 rw [o b (fun z=>by subst z; exact h _ q)]
 exact q
noncomputable def bm {α:Type} [DecidableEq α] (ks:List α):List Nat:=ks.map fun k=>ks.idxOf k
theorem cR {α:Type} [DecidableEq α] (ks:List α):(bm ks).length=ks.length:=MY _
theorem Eo {α:Type} [DecidableEq α] {ks:List α} {i:Nat} {k:α} (h:k∈ks.take i):(ks.take i).idxOf k=ks.idxOf k:=by
 have:=UK (l₁:=ks.take i) (l₂:=ks.drop i) (a:=k)
 rw [Qv,if_pos h] at this
 exact this.symm
theorem zp {α:Type} [DecidableEq α] {ks:List α} {i:Nat} {k:α} (hk:ks[i]?=some k) (h:k∉ks.take i):ks.idxOf k=i:=by
 obtain ⟨hi,e⟩:=M4.mp hk
 have e1:ks=ks.take i++(k :: ks.drop (i + 1)):=by
  rw [<-e,List.getElem_cons_drop,Qv]
 have:=UK (l₁:=ks.take i) (l₂:=k :: ks.drop (i + 1)) (a:=k)
 rw [<-e1,if_neg h,List.idxOf_cons_self,OM] at this
 omega
theorem b9 {α:Type} {ks:List α} {i:Nat} {k:α} (hk:ks[i]?=some k):ks.take (i + 1)=ks.take i++[k]:=by
 rw [OF,hk]; rfl
theorem uF {α β:Type} [DecidableEq α] [DecidableEq β] {f:α->β} (inj:∀ a b,f a=f b->a=b) (ks:List α):bm (ks.map f)=bm ks:=by
 unfold bm
 rw [PJ]
 refine Pd fun k hk=>?_
 show (ks.map f).idxOf (f k)=ks.idxOf k
 clear hk
 induction ks with
 | nil=>rfl
 | cons a r ih=>
  rw [Np,VO,VO,ih]
  by_cases e:a=k
  ·rw [e,beq_self_eq_true,beq_self_eq_true]
  ·rw [beq_eq_false_iff_ne.mpr e,beq_eq_false_iff_ne.mpr (fun z=>e (inj _ _ z))]
theorem wk {α:Type} [DecidableEq α] {ks:List α} {i:Nat} {z:Nat} (h:(bm ks)[i]?=some z):∃ k,ks[i]?=some k/\z=ks.idxOf k/\z<=i:=by
 unfold bm at h
 rw [Ng] at h
 cases e:ks[i]? with
 | none=>rw [e] at h; cases h
 | some k=>
  rw [e] at h
  refine ⟨k,rfl,(Nf h).symm,?_⟩
  rw [<-Nf h]
  show ks.idxOf k<=i
  by_cases q:k∈ks.take i
  ·have:=RP q
   rw [Eo q,OM] at this
   omega
  ·rw [zp e q]; exact M1 _
section
open PySem.Spec
section
variable {κ:Type} [DecidableEq κ]
noncomputable def gO (kvs:List (κ×V)) (k:κ):Option V:=(kvs.find? fun kv=>decide (kv.1=k)).map (·.2)
noncomputable def p8 (kvs:List (κ×V)) (k:κ) (v:V):List (κ×V):=
 if (kvs.any fun kv=>decide (kv.1=k))=true then kvs.map (fun kv=>if kv.1=k then (kv.1,v) else kv) else kvs++[(k,v)]
theorem fD {p:κ×V} {r:List (κ×V)} {k:κ} (e:p.1=k):gO (p :: r) k=some p.2:=by simp [gO,NM,e]
theorem fE {p:κ×V} {r:List (κ×V)} {k:κ} (e:¬ p.1=k):gO (p :: r) k=gO r k:=by simp [gO,NM,e]
theorem vk (k:κ):∀ kvs:List (κ×V),(kvs.any fun kv=>decide (kv.1=k))=(gO kvs k).isSome
 | []=>rfl
 | p :: r=>by
  rw [Ua]
  by_cases e:p.1=k
  ·simp only [fD e,decide_eq_true e,Bool.true_or,Option.isSome_some]
  ·rw [fE e,decide_eq_false e,Bool.false_or]; exact vk k r
theorem Bo (k j:κ) (y:V):∀ kvs:List (κ×V),gO (kvs.map fun kv=>if kv.1=k then (kv.1,y) else kv) j=(gO kvs j).map fun x=>if j=k then y else x
 | []=>rfl
 | p :: r=>by
  have ih:=Bo k j y r
  rw [Np]
  by_cases h:p.1=k
  ·rw [if_pos h]
   by_cases e:p.1=j
   ·rw [fD (p:=(p.1,y)) e,fD e,Rn,if_pos (e.symm.trans h)]
   ·rw [fE (p:=(p.1,y)) e,fE e,ih]
  ·rw [if_neg h]
   by_cases e:p.1=j
   ·rw [fD (p:=p) e,fD e,Rn,if_neg (fun z=>h (e.trans z))]
   ·rw [fE (p:=p) e,fE e,ih]
theorem zq (k j:κ) (y:V):∀ kvs:List (κ×V),gO kvs k=none->gO (kvs++[(k,y)]) j=if j=k then some y else gO kvs j
 | [],_=>by
  by_cases e:k=j
  ·rw [if_pos e.symm]; exact fD (p:=(k,y)) e
  ·rw [if_neg (fun z=>e z.symm)]; exact fE (p:=(k,y)) e
 | p :: r,hn=>by
  rw [Vp]
  have hk:¬ p.1=k:=fun z=>by rw [fD z] at hn; cases hn
  rw [fE hk] at hn
  have ih:=zq k j y r hn
  by_cases e:p.1=j
  ·rw [fD e,fD e,if_neg (fun z=>hk (e.trans z))]
  ·rw [fE e,fE e,ih]
theorem HM (kvs:List (κ×V)) (k j:κ) (y:V):gO (p8 kvs k y) j=if j=k then some y else gO kvs j:=by
 unfold p8
 by_cases a:(kvs.any fun kv=>decide (kv.1=k))=true
 ·rw [if_pos a,Bo]
  rw [vk] at a
  by_cases e:j=k
  ·obtain ⟨x,hx⟩:=Sx.mp a
   rw [if_pos e,e,hx,Rn,if_pos rfl]
  ·rw [if_neg e]
   cases gO kvs j with
   | none=>rfl
   | some x=>rw [Rn,if_neg e]
 ·rw [if_neg a]
  refine zq k j y kvs ?_
  rw [vk] at a
  cases q:gO kvs k with
  | none=>rfl
  | some x=>rw [q] at a; exact (a rfl).elim
theorem oC (kvs:List (κ×V)) (k:κ) (v:V):(p8 kvs k v).length<=kvs.length + 1:=by
 unfold p8
 split
 ·rw [MY]; omega
 ·rw [Nq,NC,VP]; omega
theorem iL.isSome_eq {o:Option V} {u:Option Value} (r:iL o u):o.isSome=u.isSome:=by
 cases o with
 | none=>cases u with
  | none=>rfl
  | some _=>exact (show False from r).elim
 | some _=>cases u with
  | none=>exact (show False from r).elim
  | some _=>rfl
theorem KV.val {kvs:List (κ×V)} {vs:List (κ×Value)} (r:KV kvs vs) (k:κ):iL (gO kvs k) (valueAt vs k):=by
 unfold KV at r
 induction r with
 | nil=>exact PC
 | @cons p q ps qs h t ih=>
  obtain ⟨h1,h2⟩:=h
  by_cases e:p.1=k
  ·have e':q.1=k:=h1.symm.trans e
   have b:valueAt (q :: qs) k=some q.2:=by simp [valueAt,NM,e']
   rw [fD e,b]; exact h2
  ·have e':¬ q.1=k:=fun z=>e (h1.trans z)
   have b:valueAt (q :: qs) k=valueAt qs k:=by simp [valueAt,NM,e']
   rw [fE e,b]; exact ih
theorem KV.any {kvs:List (κ×V)} {vs:List (κ×Value)} (r:KV kvs vs) (k:κ):(kvs.any fun kv=>decide (kv.1=k))=vs.any fun kv=>decide (kv.1=k):=by
 unfold KV at r
 induction r with
 | nil=>rfl
 | cons h t ih=>rw [Ua,Ua,ih,h.1]
theorem KV.repl {kvs:List (κ×V)} {vs:List (κ×Value)} (r:KV kvs vs) (k:κ) {y:V} {u:Value} (ry:aM y u):
  KV (kvs.map fun kv=>if kv.1=k then (kv.1,y) else kv) (vs.map fun kv=>if kv.1=k then (kv.1,u) else kv):=by
 unfold KV at r ⊢
 induction r with
 | nil=>exact .nil
 | @cons p q ps qs h t ih=>
  rw [Np,Np]
  refine .cons ?_ ih
  obtain ⟨h1,h2⟩:=h
  by_cases e:p.1=k
  ·rw [if_pos e,if_pos (h1.symm.trans e)]; exact ⟨h1,ry⟩
  ·rw [if_neg e,if_neg (fun z=>e (h1.trans z))]; exact ⟨h1,h2⟩
theorem KV.put {kvs:List (κ×V)} {vs:List (κ×Value)} (r:KV kvs vs) (k:κ) {y:V} {u:Value} (ry:aM y u):KV (p8 kvs k y) (stored vs k u):=by
 unfold p8 stored
 rw [r.any k]
 by_cases e:(vs.any fun kv=>decide (kv.1=k))=true
 ·rw [if_pos e,if_pos e]; exact r.repl k ry
 ·rw [if_neg e,if_neg e]; exact Paired.snoc r ⟨rfl,ry⟩
theorem KV.length {kvs:List (κ×V)} {vs:List (κ×Value)} (r:KV kvs vs):kvs.length=vs.length:=NG r
end
theorem JA {P:Program} {w:World} {k:Key} {u:Value} (r:aM (kV k) u):(js P w).is k u=true:=by
 cases k with
 | inl i=>obtain ⟨t,e⟩:=(show ∃ t,u=P3 i t from r); subst e; exact CH P w i t
 | inr x=>obtain ⟨t,e⟩:=(show ∃ t,u=S0 x t from r); subst e; exact bB P w x t
section
variable {P:Program} {w:World} {H:Hp} {h:Heap} {a:Addr}
end
section
variable {X:Cx} {pins:List (Addr×Obj)} {σ:St} {H:Hp} {s:Shared} {a:Addr} {y v:V} {u r:Value} {o:Option V} {A:Around} {E:Value->Shared->Prop}
theorem Inv.big (I:Inv X pins σ H s):OW < s.heap.objs.size:=by
 have h:NB < s.heap.objs.size:=(I.mod.glob.keeps I.bk).lt
 exact Nat.lt_trans (by decide) h
theorem Do {h':Heap} {t':Nat} {ob:HO} (I:Inv X pins σ H s) (mu:Mut (H a)) (hs:Nn a s.heap h') (he:∃ q,h'.get? a=some q) (new:bZ X.prog X.w (upd H a ob) h' a ob):
  Inv X pins σ (upd H a ob) { s with heap:=h',toks:=t' }:=
 I.write (x:=a) (e:=a) mu (.inl rfl) (fun b q hb z=>(hs.2 b hb).trans z) he new
end
section
variable {X:Cx} {pins:List (Addr×Obj)} {σ:St} {H:Hp} {s:Shared} {a:Addr} {kvs:List (Key×V)} {k:Key} {u:Value} {A:Around} {E:Value->Shared->Prop}
end
noncomputable def HQ (i:Expr):Prop:=∀ ov iv,Te i false ov iv=operate [ov,iv] (getItem ov iv)
theorem Dp {prog:Program} {w:World} {A:Around} {E:Value->Shared->Prop} {s:Shared} {env:Env} {value slice:Expr} {pos:Pos} {T id:String} {Q:Value->Shared->Prop}
  (hl:TK (.type T) "__getitem__"=pure (some (.builtin id))) (hs:HQ slice)
  (h:wpAny (model prog w) A (eval value env) (fun o s₁=>wpAny (model prog w) A (eval slice env) (fun i s₂=>s₂.TypeIs o T/\wpAny (model prog w) A (getItem o i) Q E s₂) E s₁) E s):
  wpAny (model prog w) A (eval (.Subscript value slice pos) env) Q E s:=by
 refine VD (OX h (fun o s₁ h₁=>OX h₁ (fun i s₂ h₂=>?_) fun _ _ x=>x) fun _ _ x=>x)
 obtain ⟨hT,h₂⟩:=h₂
 unfold T8
 refine MV ?_
 rw [getitemInPython_of_ne hT.not_modules]
 refine MV (Oy hT hl ?_)
 have fin:wpAny (model prog w) A (Te slice false o i) (fun r s₃=>wpAny (model prog w) A (letTemporaryGo value o r >>= fun _=>pure r) Q E s₃) E s₂:=by
  rw [hs o i]
  exact wpAny_operating (OX h₂ (fun r s₃ h₃=>MV (wpAny_letTemporaryGo (MX h₃))) fun _ _ x=>x)
 first
  | exact MX (MV fin)
  | exact MV (MX (MV fin))
  | exact MV fin
section
variable {X:Cx} {o i e value:Expr} {pos pos' tpos:Pos} {td ty tv:TE}
end
section
variable {X:Cx} {pos:Pos}
end
structure M2 (X:Cx) (o:Expr) (m:Str) (apos:Pos) (e f:Expr) (cpos:Pos):Prop where
 base:Qd o m X.env (eval o X.env)=eval o X.env
 few:((backTo cpos (Nu [e,f] X.env)).all (fun x=>!x.1) && (Q6 cpos (Ql [] X.env)).all (fun x=>x.1.isSome)
  && decide (([e,f]:List Expr).length + ([]:List Keyword).length + (if ([]:List Keyword).isEmpty then 0 else 1) < 30))=true
 line:(apos.endLine == cpos.line)=true
 trees:backTo cpos (Nu [e,f] X.env)=[(false,eval e X.env),(false,eval f X.env)]
section
variable {X:Cx} {pins:List (Addr×Obj)} {σ:St} {H:Hp} {s:Shared} {a:Addr} {y d:V} {u r:Value} {o:Option V} {A:Around} {E:Value->Shared->Prop}
end
section
variable {X:Cx} {o e f:Expr} {apos cpos:Pos} {td ty tx:TE}
end
section
variable {X:Cx} {pins:List (Addr×Obj)} {σ:St} {H:Hp} {s:Shared} {a:Addr} {kvs:List (Key×V)} {A:Around} {E:Value->Shared->Prop}
end
section
variable {X:Cx} {pins:List (Addr×Obj)} {σ:St} {H:Hp} {s:Shared} {a:Addr} {y:V} {u:Value} {A:Around} {E:Value->Shared->Prop}
end
end
section
open PySem.Spec
section
variable {prog:Program} {w:World} {A:Around} {E:Value->Shared->Prop} {s:Shared}
theorem uw {b:Bool} {Q:Int->Shared->Prop} (h:Q (hashInt (if b then 1 else 0)) { s with toks:=s.toks + 1 }):wpAny (model prog w) A (pyHash (.bool b)) Q E s:=by
 have hr:=rawHash_range (if b then 1 else 0)
 unfold pyHash
 have hv:[N7 b].any Value.onHeap=false:=rfl
 refine MV ?_
 rw [cRoomFor,if_neg (by rw [hv]; exact Nd)]; refine MX ?_
 have hT:s.TypeIs (.bool b) "bool":=rfl
 refine MV (Oy hT Qn.lookup ?_)
 show wpAny _ _ (if (some (Ub "int.__hash__") == some Ol)=true then _ else _) Q E s
 rw [if_neg (by rw [SL]; exact Nd)]
 refine MV (Oy hT Qn.lookup ?_)
 show wpAny _ _ (Qo (.bool b) "__hash__" _ >>= _) Q E s
 refine MV (Pt hT Qn (NP Qn hT entry_int_hash ?_ (args_int_hash _)))
 cases b with
 | true=>
  refine (show wpAny _ _ (do ret (<-mkInt (rawHash 1))) _ _ s from Ro ?_)
  show wpAny _ _ (if (decide (-(2:Int) ^ 63<=rawHash 1) && decide (rawHash 1 < 2 ^ 63))=true then _ else _) Q E _
  rw [if_pos (by decide)]
  exact MX h
 | false=>
  refine (show wpAny _ _ (do ret (<-mkInt (rawHash 0))) _ _ s from Ro ?_)
  show wpAny _ _ (if (decide (-(2:Int) ^ 63<=rawHash 0) && decide (rawHash 0 < 2 ^ 63))=true then _ else _) Q E _
  rw [if_pos (by decide)]
  exact MX h
theorem ux {Q:Int->Shared->Prop} (h:Q 4238894112 { s with toks:=s.toks + 1 }):wpAny (model prog w) A (pyHash .none) Q E s:=by
 unfold pyHash
 have hv:[Ol].any Value.onHeap=false:=rfl
 refine MV ?_
 rw [cRoomFor,if_neg (by rw [hv]; exact Nd)]; refine MX ?_
 have hT:s.TypeIs .none "NoneType":=rfl
 refine MV (Oy hT PY.lookup ?_)
 show wpAny _ _ (if (some (Ub "NoneType.__hash__") == some Ol)=true then _ else _) Q E s
 rw [if_neg (by rw [SL]; exact Nd)]
 refine MV (Oy hT PY.lookup ?_)
 show wpAny _ _ (Qo .none "__hash__" _ >>= _) Q E s
 refine MV (Pt hT PY (NP PY hT PySem.F.entry_NoneType_hash ?_ (PySem.F.args_NoneType_hash_1 _)))
 refine (show wpAny _ _ (do ret (<-mkInt 4238894112)) _ _ s from Ro ?_)
 show wpAny _ _ (if (decide (-(2:Int) ^ 63<=4238894112) && decide ((4238894112:Int) < 2 ^ 63))=true then _ else _) Q E _
 rw [if_pos (by decide)]
 exact MX h
end
noncomputable def Bp:IA->Int
 | none=>4238894112
 | some i=>hashInt i
noncomputable def p9:IA->Value->Bool
 | none,.none=>true
 | some i,.int j _=>i == j
 | some i,.bool b=>i == (if b then 1 else 0)
 | _,_=>false
theorem em {k:IA} {v:Value} (h:p9 k v=true):(k=none/\v=.none)\/(∃ i t,k=some i/\v=.int i t)\/∃ b,k=some (if b then 1 else 0)/\v=.bool b:=by
 rcases k with _ | i <;> cases v <;> (delta p9 at h; simp at h)
 ·exact .inl ⟨rfl,rfl⟩
 ·subst h; exact .inr (.inr ⟨_,rfl,rfl⟩)
 ·subst h; exact .inr (.inl ⟨_,_,rfl,rfl⟩)
noncomputable def db (prog:Program) (w:World):PySem.KeyKind prog w IA where
 is:=p9
 hash:=Bp
 inj:=fun v a b ha hb=>by
  rcases em ha with ⟨rfl,rfl⟩ | ⟨i,t,rfl,rfl⟩ | ⟨c,rfl,rfl⟩ <;> rcases em hb with ⟨rfl,e⟩ | ⟨j,u,rfl,e⟩ | ⟨d,rfl,e⟩ <;> first | rfl | (cases e; rfl) | cases e
 byValue:=fun k v h=>by
  rcases em h with ⟨rfl,rfl⟩ | ⟨i,t,rfl,rfl⟩ | ⟨c,rfl,rfl⟩ <;> rfl
 pyHash:=fun hv h=>by
  rcases em hv with ⟨rfl,rfl⟩ | ⟨i,t,rfl,rfl⟩ | ⟨c,rfl,rfl⟩
  ·exact ux h
  ·exact Ve h
  ·exact uw h
 eqBool:=fun {A E s a b u v Q} hu hv h=>by
  rcases em hu with ⟨rfl,rfl⟩ | ⟨i,t,rfl,rfl⟩ | ⟨c,rfl,rfl⟩ <;> rcases em hv with ⟨rfl,rfl⟩ | ⟨j,u,rfl,rfl⟩ | ⟨d,rfl,rfl⟩
  ·exact S5 _ _ _ _ _ (by simpa using h)
  ·exact Ue _ _ _ _ _ _ (by simpa using h)
  ·exact TL _ _ _ _ _ (by simpa using h)
  ·exact Uh _ _ _ _ _ _ (by simpa using h)
  ·exact Ux _ _ _ _ _ _ _ _ (by simpa [Ra] using h)
  ·exact Ui _ _ _ _ _ _ _ (by simpa [Ra] using h)
  ·exact TN _ _ _ _ _ (by simpa using h)
  ·exact Ug _ _ _ _ _ _ _ (by simpa [Ra] using h)
  ·refine TQ _ _ _ _ _ _ ?_
   cases c <;> cases d <;> simpa using h
 «strs»:=fun k x t v h=>by
  rcases em h with ⟨rfl,e⟩ | ⟨i,u,rfl,e⟩ | ⟨c,rfl,e⟩ <;> cases e
noncomputable def mT:IK->Int
 | .inl a=>Bp a
 | .inr as=>VQ (OD (as.map Bp))
noncomputable def AE (is:List IK):Int:=VQ (OD (is.map mT))
noncomputable def oW:IK->Nat
 | .inl _=>1
 | .inr as=>as.length + 1
section
variable (prog:Program) (w:World)
noncomputable def dt (h:Heap):IK->Value->Prop
 | .inl a,v=>p9 a v=true
 | .inr as,v=>∃ b,v=.ref b/\VR (db prog w) h as b
noncomputable def iP (h:Heap) (is:List IK) (a:Addr):Prop:=∃ o items n,h.get? a=some o/\o.cls=.type "tuple"/\o.data=.seq items n/\Paired (dt prog w h) is items.toList
end
section
variable {prog:Program} {w:World}
theorem dt.inj {h:Heap} {x y:IK} {v:Value} (hx:dt prog w h x v) (hy:dt prog w h y v):x=y:=by
 cases x with
 | inl a=>cases y with
  | inl b=>rw [(db prog w).inj v a b hx hy]
  | inr bs=>
   obtain ⟨c,rfl,_⟩:=hy
   rcases em hx with ⟨_,e⟩ | ⟨_,_,_,e⟩ | ⟨_,_,e⟩ <;> cases e
 | inr as=>cases y with
  | inl b=>
   obtain ⟨c,rfl,_⟩:=hx
   rcases em hy with ⟨_,e⟩ | ⟨_,_,_,e⟩ | ⟨_,_,e⟩ <;> cases e
  | inr bs=>
   obtain ⟨c,rfl,h1⟩:=hx
   obtain ⟨d,e,h2⟩:=hy
   cases e
   rw [h1.inj h2]
theorem Gc {h:Heap} {xs ys:List IK} {vs:List Value} (p:Paired (dt prog w h) xs vs):Paired (dt prog w h) ys vs->xs=ys:=by
 induction p generalizing ys with
 | nil=>intro q; cases q; rfl
 | cons a t ih=>intro q; cases q with
  | cons b u=>rw [a.inj b,ih u]
theorem iP.inj {h:Heap} {a:Addr} {x y:List IK} (hx:iP prog w h x a) (hy:iP prog w h y a):x=y:=by
 obtain ⟨o,items,n,ho,_,hd,hi⟩:=hx
 obtain ⟨o',items',n',ho',_,hd',hi'⟩:=hy
 obtain rfl:o=o':=Nf (ho.symm.trans ho')
 rw [hd] at hd'
 injection hd' with h1 _
 subst h1
 exact Gc hi hi'
theorem dt.keeps {h h':Heap} {k:IK} {v:Value} {d:Addr} {o:Obj} {es ep} (x:dt prog w h k v) (ho:h.get? d=some o) (hd:o.data=.dict es ep) (hs:Nn d h h'):dt prog w h' k v:=by
 cases k with
 | inl a=>exact x
 | inr as=>obtain ⟨b,e,q⟩:=x; exact ⟨b,e,q.keeps ho hd hs⟩
theorem iP.keeps {h h':Heap} {ks:List IK} {a d:Addr} {o:Obj} {es ep} (x:iP prog w h ks a) (ho:h.get? d=some o) (hd:o.data=.dict es ep) (hs:Nn d h h'):iP prog w h' ks a:=by
 obtain ⟨o',items,n,ho',hc,hd',hi⟩:=x
 have hne:a≠d:=by
  rintro rfl
  obtain rfl:o'=o:=Nf (ho'.symm.trans ho)
  rw [hd] at hd'; exact nomatch hd'
 exact ⟨o',items,n,(hs.2 a hne).trans ho',hc,hd',Paired.mapP hi fun _ _ z=>z.keeps ho hd hs⟩
theorem iP.typeIs {s:Shared} {ks:List IK} {a:Addr} (x:iP prog w s.heap ks a):s.TypeIs (.ref a) "tuple":=let ⟨o,_,_,ho,hc,_⟩:=x; ⟨o,ho,hc⟩
theorem wl {h:Heap} {ks:List IA} {a:Addr} (x:VR (db prog w) h ks a):∃ items,h.IsTuple a items:=let ⟨o,items,n,h1,h2,h3,_⟩:=x; ⟨items,o,h1,h2,n,h3⟩
variable {A:Around} {E:Value->Shared->Prop} {s:Shared}
theorem Gd {k:IK} {v:Value} {Q:Int->Shared->Prop} (hu:A.units < cLine) (hk:dt prog w s.heap k v) (h:Q (mT k) { s with toks:=s.toks + oW k }):wpAny (model prog w) A (pyHash v) Q E s:=by
 cases k with
 | inl a=>exact (db prog w).pyHash (k:=a) hk h
 | inr as=>
  obtain ⟨b,rfl,q⟩:=hk
  exact wpAny_pyHash_tuple (knd:=db prog w) hu q h
theorem HV {a:IA} {v:Value} {b:Addr} {items:Array Value} {Q:Bool->Shared->Prop} (hu:A.units < cLine) (hk:p9 a v=true) (ht:s.heap.IsTuple b items) (h:Q false s):wpAny (model prog w) A (Uz v (.ref b)) Q E s:=by
 rcases em hk with ⟨rfl,rfl⟩ | ⟨i,t,rfl,rfl⟩ | ⟨c,rfl,rfl⟩
 ·exact ND.none_tuple ht hu _ _ _ _ h
 ·exact ND.int_tuple _ _ ht hu _ _ _ _ h
 ·exact ND.bool_tuple _ ht hu _ _ _ _ h
theorem HX {a:IA} {v:Value} {b:Addr} {items:Array Value} {Q:Bool->Shared->Prop} (hu:A.units < cLine) (hk:p9 a v=true) (ht:s.heap.IsTuple b items) (h:Q false s):wpAny (model prog w) A (Uz (.ref b) v) Q E s:=by
 rcases em hk with ⟨rfl,rfl⟩ | ⟨i,t,rfl,rfl⟩ | ⟨c,rfl,rfl⟩
 ·exact ND.tuple_none ht hu _ _ _ _ h
 ·exact ND.tuple_int _ _ ht hu _ _ _ _ h
 ·exact ND.tuple_bool _ ht hu _ _ _ _ h
theorem J8 {x y:IK} {u v:Value} {Q:Bool->Shared->Prop} (hu:A.units < cLine) (hx:dt prog w s.heap x u) (hy:dt prog w s.heap y v) (h:Q (decide (x=y)) s):wpAny (model prog w) A (Uz u v) Q E s:=by
 cases x with
 | inl a=>cases y with
  | inl b=>
   refine (db prog w).eqBool (a:=a) (b:=b) hx hy ?_
   rw [show decide (a=b)=decide ((Pw a:IK)=Pw b) from decide_eq_decide.mpr ⟨fun e=>by rw [e],fun e=>UV e⟩]
   exact h
  | inr bs=>
   obtain ⟨c,rfl,q⟩:=hy
   obtain ⟨items,ht⟩:=wl q
   refine HV hu hx ht ?_
   rw [decide_eq_false (fun e=>nomatch e)] at h
   exact h
 | inr as=>cases y with
  | inl b=>
   obtain ⟨c,rfl,q⟩:=hx
   obtain ⟨items,ht⟩:=wl q
   refine HX hu hy ht ?_
   rw [decide_eq_false (fun e=>nomatch e)] at h
   exact h
  | inr bs=>
   obtain ⟨c,rfl,q⟩:=hx
   obtain ⟨d,rfl,q'⟩:=hy
   refine wpAny_eqBool_tuple (knd:=db prog w) hu q q' ?_
   rw [show decide (as=bs)=decide ((OS as:IK)=OS bs) from decide_eq_decide.mpr ⟨fun e=>by rw [e],fun e=>QC e⟩]
   exact h
noncomputable def Bq (ks:List IK):Nat:=(ks.map oW).sum + 1
theorem Ge {ks:List IK} {a:Addr} {Q:Int->Shared->Prop} (hu:A.units + 1 < cLine) (hk:iP prog w s.heap ks a) (h:Q (AE ks) { s with toks:=s.toks + Bq ks }):
  wpAny (model prog w) A (pyHash (.ref a)) Q E s:=by
 have hT:=hk.typeIs
 obtain ⟨o,items,n,ho,_,hd,hi⟩:=hk
 have hu0:A.units < cLine:=by omega
 unfold pyHash
 first | unfold pyHashByItsType | skip
 first | refine MV (wpAny_cRoomFor_or (.inr hu0) ?_) | skip
 refine MV (Oy hT QY.lookup ?_)
 show wpAny _ _ (if (some (Ub "tuple.__hash__") == some Ol)=true then _ else _) Q E s
 rw [if_neg (by rw [SL]; exact Nd)]
 refine MV (Oy hT QY.lookup ?_)
 show wpAny _ _ (Qo (.ref a) "__hash__" _ >>= _) Q E s
 refine MV (Pt hT QY (NP QY hT F.entry_tuple_hash ?_ (F.args_tuple_hash_1 _)))
 show wpAny _ _ (R5 (.ref a) >>= _) _ _ s
 refine MV (RQ ho hd ?_)
 refine MV ?_
 rw [<-Qh]
 refine Q8 _
  (fun dw (b:Array Int) s'=>∃ done left,ks=done++left/\Paired (dt prog w s.heap) left dw/\b.toList=done.map mT/\s'={ s with toks:=s.toks + (done.map oW).sum })
  _ ?_ ?_ _ _ ⟨[],ks,rfl,hi,rfl,rfl⟩
 ·rintro x dw b s' ⟨done,left,rfl,hl,hb,rfl⟩
  cases hl with
  | @cons k _ ks' _ h1 hl'=>
   refine MV (Gd (k:=k) hu h1 ?_)
   have e:(done.map oW).sum + oW k=((done++[k]).map oW).sum:=by simp
   first
    | exact MX ⟨done++[k],ks',by simp,hl',by simp [hb],by rw [<-e]; simp [R7]⟩
    | exact MV (MX (MX ⟨done++[k],ks',by simp,hl',by simp [hb],by rw [<-e]; simp [R7]⟩))
 ·rintro b s' ⟨done,left,rfl,hl,hb,rfl⟩
  cases hl
  rw [OY] at h
  show wpAny _ _ (retInt (OD b.toList)) _ _ _
  rw [hb]
  refine Ro ?_
  show wpAny _ _ (if (decide (-(2:Int) ^ 63<=OD (done.map mT)) && decide (OD (done.map mT) < 2 ^ 63))=true then _ else _) Q E _
  unfold AE VQ Bq at h
  by_cases hr:(decide (-(2:Int) ^ 63<=OD (done.map mT)) && decide (OD (done.map mT) < 2 ^ 63))=true
  ·rw [if_pos hr]
   rw [if_pos hr] at h
   exact MX (by simpa [R7] using h)
  ·rw [if_neg hr]
   rw [if_neg hr] at h
   exact MV (Pi (MX (by simpa [R7] using h)))
theorem Ep {x y:List IK} {a b:Addr} {P:Fin->Shared->Prop} (hu:A.units < cLine) (hx:iP prog w s.heap x a) (hy:iP prog w s.heap y b) (h:P (.done (.ret (.bool (decide (x=y))))) s):
  wpAny (model prog w) A (Builtin.«tuple.__eq__» ⟨[.ref a,.ref b],[]⟩) P E s:=by
 have hTb:=hy.typeIs
 obtain ⟨oa,xs,na,hoa,_,hda,hia⟩:=hx
 obtain ⟨ob,ys,nb,hob,_,hdb,hib⟩:=hy
 show wpAny _ _ (VS (.ref b) (.type "tuple") >>= _) _ _ s
 refine MV (O3 hTb Rb ?_)
 simp only [QB,Oc,if_false]
 refine MV (RQ hoa hda ?_)
 refine MV (RQ hob hdb ?_)
 refine MV ?_
 refine Q8 _
  (fun dw r s'=>r.1=none/\s'=s/\∃ x' y' xs' ys',dw=List.zip xs' ys'/\Paired (dt prog w s.heap) x' xs'/\Paired (dt prog w s.heap) y' ys'/\decide (x'=y')=decide (x=y)/\(xs'.length == ys'.length)=(xs.size == ys.size))
  _ ?_ ?_ _ _ ⟨rfl,rfl,x,y,xs.toList,ys.toList,rfl,hia,hib,rfl,by simp⟩
 ·rintro ⟨u,v⟩ dw r s' ⟨hr,rfl,x',y',xs',ys',hz,hx',hy',hdec,hlen⟩
  cases hx' with
  | nil=>simp at hz
  | @cons k1 u' x'' xs'' h1 hx''=>
   cases hy' with
   | nil=>simp at hz
   | @cons k2 v' y'' ys'' h2 hy''=>
    simp only [Oz,List.cons.injEq,Prod.mk.injEq] at hz
    obtain ⟨⟨rfl,rfl⟩,rfl⟩:=hz
    refine MV (J8 (x:=k1) (y:=k2) hu h1 h2 ?_)
    by_cases hk:k1=k2
    ·subst hk
     rw [decide_eq_true rfl]
     simp only [QB,Oc,if_false]
     refine MX ⟨rfl,rfl,x'',y'',xs'',ys'',rfl,hx'',hy'',?_,by simpa using hlen⟩
     rw [<-hdec]
     by_cases hxy:x''=y''
     ·simp [hxy]
     ·simp [hxy]
    ·rw [decide_eq_false hk]
     simp only [Bool.not_false,if_true]
     have hf:decide (x=y)=false:=by rw [<-hdec]; simp [hk]
     rw [hf] at h
     exact MV (MX (MX (MX h)))
 ·rintro ⟨r1,r2⟩ s' ⟨hr,rfl,x',y',xs',ys',hz,hx',hy',hdec,hlen⟩
  simp only at hr
  subst hr
  refine MX ?_
  have hfin:(xs.size == ys.size)=decide (x=y):=by
   rw [<-hdec,<-hlen]
   cases hx' with
   | nil=>
    cases hy' with
    | nil=>simp
    | cons _ _=>simp
   | cons _ _=>
    cases hy' with
    | nil=>simp
    | cons _ _=>simp at hz
  show P (.done (.ret (.bool (xs.size == ys.size)))) s'
  rw [hfin]; exact h
theorem Gf {x y:List IK} {a b:Addr} {Q:Bool->Shared->Prop} (hu:A.units + 1 < cLine) (hx:iP prog w s.heap x a) (hy:iP prog w s.heap y b) (h:Q (decide (x=y)) s):
  wpAny (model prog w) A (eqBool (.ref a) (.ref b)) Q E s:=by
 unfold eqBool
 try with_reducible refine Og ?_
 show wpAny _ _ (if (NA a == NA b)=true then _ else _) Q E s
 by_cases hab:(NA a == NA b)=true
 ·rw [if_pos hab]
  have e:a=b:=by have:=eq_of_beq hab; injection this
  subst e
  obtain rfl:=hx.inj hy
  exact MV (Pi (MX (by simpa using h)))
 ·rw [if_neg hab]
  exact MV (wpAny_richCompare_same_room (op:=.Eq) hx.typeIs hy.typeIs Rp
   (NP Rp hx.typeIs F.entry_tuple_eq (Ep hu hx hy ⟨_,rfl,(fun e=>nomatch e),Pa h⟩) (F.args_tuple_eq_2 _ _)) (by omega))
theorem CM {n:Nat} {ks:List IA} {a:Addr} {Q:Bool->Shared->Prop} (hk:VR (db prog w) s.heap ks a) (h:Q true s):wpAny (model prog w) A (S7 (n + 1) (.ref a)) Q E s:=by
 have hT:=hk.typeIs
 obtain ⟨o,items,_,ho,_,hd,hi⟩:=hk
 unfold S7
 refine MV (Oy hT Rp.lookup ?_)
 show wpAny _ _ (VS (.ref a) (.type "tuple") >>= _) _ _ s
 refine MV (O3 hT Rb ?_)
 simp only [QB,Oc,if_false]
 refine MV (Od ho hd ?_)
 refine MV ?_
 show wpAny _ _ (forIn items _ _) _ _ s
 rw [<-Qh]
 refine Q8 _ (fun dw r s'=>r.1=none/\s'=s/\∀ v∈dw,carriedByValue v=true) _ ?_ ?_ _ _ ⟨rfl,rfl,hi.byValue⟩
 ·rintro v dw r s' ⟨hr,rfl,hall⟩
  rw [UL _ (hall v M7)]
  refine MV (MX ?_)
  simp only [QB,Oc,if_false]
  exact MX ⟨rfl,rfl,fun u hu'=>hall u (Nh _ hu')⟩
 ·rintro ⟨r1,r2⟩ s' ⟨hr,rfl,_⟩
  simp only at hr
  subst hr
  exact MX h
theorem HY {ks:List IK} {a:Addr} {Q:Bool->Shared->Prop} (hk:iP prog w s.heap ks a) (h:Q true s):wpAny (model prog w) A (S7 8 (.ref a)) Q E s:=by
 have hT:=hk.typeIs
 obtain ⟨o,items,n,ho,_,hd,hi⟩:=hk
 unfold S7
 refine MV (Oy hT Rp.lookup ?_)
 show wpAny _ _ (VS (.ref a) (.type "tuple") >>= _) _ _ s
 refine MV (O3 hT Rb ?_)
 simp only [QB,Oc,if_false]
 refine MV (Od ho hd ?_)
 refine MV ?_
 show wpAny _ _ (forIn items _ _) _ _ s
 rw [<-Qh]
 refine Q8 _ (fun dw r s'=>r.1=none/\s'=s/\∃ ks,Paired (dt prog w s.heap) ks dw) _ ?_ ?_ _ _ ⟨rfl,rfl,ks,hi⟩
 ·rintro v dw r s' ⟨hr,rfl,ks,hall⟩
  cases hall with
  | @cons k _ ks' _ h1 hl=>
   refine MV ?_
   have fin:wpAny (model prog w) A (S7 7 v) (fun b s2=>b=true/\s2=s') E s':=by
    cases k with
    | inl a'=>rw [UL _ ((db prog w).byValue _ _ h1)]; exact MX ⟨rfl,rfl⟩
    | inr as=>obtain ⟨b,rfl,q⟩:=h1; exact CM (n:=6) q ⟨rfl,rfl⟩
   refine OX fin (fun b s2 ⟨e1,e2⟩=>?_) fun _ _ x=>x
   subst e1 e2
   simp only [QB,Oc,if_false]
   exact MX ⟨rfl,rfl,ks',hl⟩
 ·rintro ⟨r1,r2⟩ s' ⟨hr,rfl,_⟩
  simp only at hr
  subst hr
  exact MX h
end
noncomputable def mU (prog:Program) (w:World):HeapKind prog w (List IK) where
 is:=iP prog w
 hash:=AE
 draws:=Bq
 room:=fun A=>A.units + 1 < cLine
 inj:=fun hx hy=>hx.inj hy
 keeps:=fun x ho hd hs=>x.keeps ho hd hs
 pyHash:=fun hu hk h=>Ge hu hk h
 eqBool:=fun hu hx hy h=>Gf hu hx hy h
 quiet:=fun hk h=>HY hk h
noncomputable def DA (a:Addr) (kvs:List (IA×V)) (h:Heap):Prop:=kvs.length<=Nb/\(a == OW)=false/\∃ (P:Program) (w:World) (vs:List (IA×Value)),KV kvs vs/\h.DictOf (db P w) a vs
noncomputable def ZX:List (List IK×Addr×V)->List (List IK×Addr×Value)->Prop:=Paired fun z x=>z.1=x.1/\z.2.1=x.2.1/\aM z.2.2 x.2.2
noncomputable def DB (a:Addr) (zs:List (List IK×Addr×V)) (h:Heap):Prop:=zs.length<=Nb/\(a == OW)=false/\∃ xs:List (List IK×Addr×Value),ZX zs xs/\
 ∃ o es ep,h.get? a=some o/\o.ExactDict/\o.data=.dict es ep/\es.toList=xs.map (fun x=>⟨AE x.1,.ref x.2.1,x.2.2⟩)/\(xs.map (·.1)).Nodup
noncomputable def dA (a:Addr) (kvs:List (IA×V)):HO:=.ext (DA a kvs)
noncomputable def dB (a:Addr) (zs:List (List IK×Addr×V)):HO:=.ext (DB a zs)
noncomputable def atZ (zs:List (List IK×Addr×V)) (k:List IK):Option V:=(zs.find? fun p=>decide (p.1=k)).map (·.2.2)
noncomputable def Dx (H:Hp) (a:Addr) (s:Bool) (f:MK->Option V) (n:Nat):Prop:=
 (s=false/\∃ kvs,H a=some (dA a kvs)/\(∀ k,gO kvs k=f (.inl k))/\kvs.length<=n)\/
 (s=true/\∃ zs,H a=some (dB a zs)/\(∀ z∈zs,ci H (.ref z.2.1) (.inr z.1))/\(∀ k,atZ zs k=f (.inr k))/\zs.length<=n)
section
variable {H H':Hp} {a b:Addr} {s:Bool} {f g:MK->Option V} {n m:Nat}
theorem Dx.ext (h:Dx H a s f n):∃ φ,H a=some (.ext φ):=by
 rcases h with ⟨_,kvs,e,_⟩ | ⟨_,zs,e,_⟩
 ·exact ⟨_,e⟩
 ·exact ⟨_,e⟩
theorem Dx.keep (h:Dx H a s f n) (e:H' a=H a) (kp:iO H H'):Dx H' a s f n:=by
 rcases h with ⟨hs,kvs,h1,h2⟩ | ⟨hs,zs,h1,h2,h3⟩
 ·exact .inl ⟨hs,kvs,e.trans h1,h2⟩
 ·exact .inr ⟨hs,zs,e.trans h1,fun z hz=>(h2 z hz).keep kp,h3⟩
theorem Dx.same (h:Dx H a s f n) (q:am H H'):Dx H' a s f n:=by
 obtain ⟨φ,h1⟩:=h.ext
 exact h.keep ((q _ _ h1).trans h1.symm) q.keep
theorem Dx.ne_lst {xs:List V} (h:Dx H a s f n) (e:H b=some (.lst xs)):b≠a:=by
 obtain ⟨φ,h1⟩:=h.ext
 exact Ay e h1 (fun z=>nomatch z)
theorem Dx.ne_tup {xs:List V} (h:Dx H a s f n) (e:H b=some (.tup xs)):b≠a:=by
 obtain ⟨φ,h1⟩:=h.ext
 exact Ay e h1 (fun z=>nomatch z)
theorem Dx.le (h:Dx H a s f n) (e:n<=m):Dx H a s f m:=by
 rcases h with ⟨hs,kvs,h1,h2,h3⟩ | ⟨hs,zs,h1,h2,h3,h4⟩
 ·exact .inl ⟨hs,kvs,h1,h2,NH h3 e⟩
 ·exact .inr ⟨hs,zs,h1,h2,h3,NH h4 e⟩
theorem Dx.congr (h:Dx H a s f n) (e:∀ k,f k=g k):Dx H a s g n:=by
 rcases h with ⟨hs,kvs,h1,h2,h3⟩ | ⟨hs,zs,h1,h2,h3,h4⟩
 ·exact .inl ⟨hs,kvs,h1,fun k=>(h2 k).trans (e _),h3⟩
 ·exact .inr ⟨hs,zs,h1,h2,fun k=>(h3 k).trans (e _),h4⟩
end
end
theorem Dx.offK {H H':Hp} {a:Addr} {s:Bool} {f:MK->Option V} {n:Nat} (h:Dx H a s f n) (o:Off a H H'):iO H H':=o.keepD fun xs e=>h.ne_tup e rfl
noncomputable def oX:TE:=fun _ H Q=>∃ s,∀ p H',H p=none->am H H'->Dx H' p s (fun _=>none) 0->Q (.ref p) H'
theorem tL {σ:St} {H:Hp} {Q:VK} (s:Bool) (h:∀ p H',H p=none->am H H'->Dx H' p s (fun _=>none) 0->Q (.ref p) H'):oX σ H Q:=⟨s,h⟩
noncomputable def vm (neg:Bool):R2:=fun y x H Q=>∃ a s f n k,x=.ref a/\Dx H a s f n/\ci H y k/\gh k=s/\Q (.bl (if neg then (f k).isNone else (f k).isSome)) H
noncomputable def AF:R2:=fun x y H Q=>∃ a s f n k v,x=.ref a/\Dx H a s f n/\ci H y k/\gh k=s/\f k=some v/\Q v H
noncomputable def i3 (f:MK->Option V) (k:MK) (v:V):MK->Option V:=fun j=>if j=k then some v else f j
noncomputable def wm:A3:=fun o i v H R=>∃ a s f n k,o=.ref a/\Dx H a s f n/\ci H i k/\gh k=s/\n < Nb/\∀ H',Off a H H'->Dx H' a s (i3 f k v) (n + 1)->R H'
noncomputable def Br:V->List V->Hp->VK->Prop:=fun x ys H Q=>∃ a s f n k y v,x=.ref a/\ys=[y,v]/\Dx H a s f n/\ci H y k/\gh k=s/\n < Nb/\(∀ u,f k=some u->Q u H)/\
 (f k=none->∀ H',Off a H H'->Dx H' a s (i3 f k v) (n + 1)->Q v H')
noncomputable def tXM (r:V->List V->Hp->VK->Prop) (to:TE) (t:TA):TE:=fun σ H Q=>to σ H fun x H1=>(∃ a s f n,x=.ref a/\Dx H1 a s f n)/\t σ H1 fun ys H2=>r x ys H2 Q
section
variable {σ:St} {H:Hp} {Q:VK} {a:Addr} {s:Bool} {f:MK->Option V} {n:Nat} {k:MK} {y v:V}
theorem Bs (d:Dx H a s f n) (hk:ci H y k) (hs:gh k=s) (h:Q (.bl (f k).isNone) H):vm true y (.ref a) H Q:=⟨a,s,f,n,k,rfl,d,hk,hs,h⟩
theorem Gg (d:Dx H a s f n) (hk:ci H y k) (hs:gh k=s) (e:f k=some v) (h:Q v H):AF (.ref a) y H Q:=⟨a,s,f,n,k,v,rfl,d,hk,hs,e,h⟩
theorem Bt {R:Hp->Prop} (d:Dx H a s f n) (hk:ci H y k) (hs:gh k=s) (hn:n < Nb) (h:∀ H',Off a H H'->Dx H' a s (i3 f k v) (n + 1)->R H'):wm (.ref a) y v H R:=⟨a,s,f,n,k,rfl,d,hk,hs,hn,h⟩
theorem J9 (d:Dx H a s f n) (hk:ci H y k) (hs:gh k=s) (hn:n < Nb) (h1:∀ u,f k=some u->Q u H) (h2:f k=none->∀ H',Off a H H'->Dx H' a s (i3 f k v) (n + 1)->Q v H'):Br (.ref a) [y,v] H Q:=⟨a,s,f,n,k,y,v,rfl,rfl,d,hk,hs,hn,h1,h2⟩
theorem MS {r:V->List V->Hp->VK->Prop} {to:TE} {t:TA} (h:to σ H fun x H1=>(∃ a s f n,x=.ref a/\Dx H1 a s f n)/\t σ H1 fun ys H2=>r x ys H2 Q):tXM r to t σ H Q:=h
end
section
variable {α:Type} [DecidableEq α] {ks:List α} {i:Nat} {k:α}
noncomputable def gq (ks:List α) (i:Nat):α->Option V:=fun k=>if k∈ks.take i then some (.int (ks.idxOf k:Nat)) else none
theorem wn (hk:ks[i]?=some k) (h:k∈ks.take i) (j:α):gq ks i j=gq ks (i + 1) j:=by
 unfold gq
 rw [b9 hk]
 by_cases q:j∈ks.take i
 ·rw [if_pos q,if_pos (OL _ q)]
 ·rw [if_neg q,if_neg]
  intro z
  rcases NL.mp z with z | z
  ·exact q z
  ·rw [M0.mp z] at q; exact q h
theorem wo (hk:ks[i]?=some k) (h:k∉ks.take i) (j:α):(if j=k then some (V.int (i:Nat)) else gq ks i j)=gq ks (i + 1) j:=by
 unfold gq
 rw [b9 hk]
 by_cases q:j=k
 ·subst q
  rw [if_pos rfl,if_pos (by simp),zp hk h]
 ·rw [if_neg q]
  by_cases z:j∈ks.take i
  ·rw [if_pos z,if_pos (OL _ z)]
  ·rw [if_neg z,if_neg]
   intro w
   rcases NL.mp w with w | w
   ·exact z w
   ·exact q (M0.mp w)
theorem nP (h:k∈ks.take i):gq ks i k=some (.int (ks.idxOf k:Nat)):=if_pos h
theorem uG (h:k∉ks.take i):gq ks i k=none:=if_neg h
theorem CN (hk:ks[i]?=some k):k∈ks.take (i + 1):=by rw [b9 hk]; simp
theorem uH (k:α):none=gq ks 0 k:=(if_neg (by simp)).symm
theorem rP (hk:ks[i]?=some k):(bm ks).take (i + 1)=(bm ks).take i++[ks.idxOf k]:=b9 (by unfold bm; rw [Ng,hk]; rfl)
end
end L2
section
namespace KM
noncomputable def bc:Nat->Nat
 | 0=>1
 | n + 1=>bc n * (n + 1)
noncomputable def choose:Nat->Nat->Nat
 | _,0=>1
 | 0,_ + 1=>0
 | n + 1,k + 1=>choose n k + choose n (k + 1)
theorem g9:∀ n,0 < bc n
 | 0=>by decide
 | n + 1=>Va (g9 n) (UA n)
theorem kT (n:Nat):choose n 0=1:=by cases n <;> rfl
theorem nQ:∀ (n k:Nat),n < k->choose n k=0
 | _,0,h=>absurd h (Rq _)
 | 0,_ + 1,_=>rfl
 | n + 1,k + 1,h=>by rw [choose,nQ n k (by omega),nQ n (k + 1) (by omega)]
theorem uI:∀ n,choose n n=1
 | 0=>rfl
 | n + 1=>by rw [choose,uI n,nQ n (n + 1) (by omega)]
theorem iV:∀ (n k:Nat),k<=n->choose n k * (bc k * bc (n - k))=bc n
 | n,0,_=>by rw [kT,bc,Nat.sub_zero,Vb,Vb]
 | 0,_ + 1,h=>absurd h (by omega)
 | n + 1,k + 1,h=>by
  rw [choose,Vc]
  by_cases hk:k=n
  ·subst hk
   rw [uI,nQ k (k + 1) (by omega),UB]
   simp [bc]
  ·have hk':k + 1<=n:=by omega
   have e1:=iV n k (by omega)
   have e2:=iV n (k + 1) hk'
   have s1:n + 1 - (k + 1)=n - k:=by omega
   have s2:n - k=(n - (k + 1)) + 1:=by omega
   rw [s1]
   have a1:choose n k * (bc (k + 1) * bc (n - k))=(k + 1) * bc n:=by
    rw [<-e1,bc]
    simp only [OR,O2,Py]
   have a2:choose n (k + 1) * (bc (k + 1) * bc (n - k))=(n - k) * bc n:=by
    have s3:bc (n - k)=bc (n - (k + 1)) * (n - k):=by
     rw [s2,bc,<-s2]
    rw [<-e2,s3]
    simp only [OR,O2,Py]
   rw [a1,a2,<-Vc,bc,O2]
   congr 1
   omega
theorem CO (n k:Nat) (h:k + 1<=n):choose n k * (n - k) / (k + 1)=choose n (k + 1):=by
 have e1:=iV n k (by omega)
 have e2:=iV n (k + 1) h
 have s2:n - k=(n - (k + 1)) + 1:=by omega
 have p:0 < bc k * bc (n - (k + 1)):=Va (g9 _) (g9 _)
 have q:choose n k * (n - k)=choose n (k + 1) * (k + 1):=by
  have:choose n k * (n - k) * (bc k * bc (n - (k + 1)))=choose n (k + 1) * (k + 1) * (bc k * bc (n - (k + 1))):=by
   have l:choose n k * (n - k) * (bc k * bc (n - (k + 1)))=bc n:=by
    rw [<-e1,show bc (n - k)=bc (n - (k + 1)) * (n - k) by rw [s2,bc,<-s2]]
    simp only [OR,O2,Py]
   have r:choose n (k + 1) * (k + 1) * (bc k * bc (n - (k + 1)))=bc n:=by
    rw [<-e2,bc]
    simp only [OR,O2,Py]
   rw [l,r]
  exact R8 p this
 rw [q,Nat.mul_div_cancel _ (UA k)]
noncomputable def cA:Nat->List Nat->Nat
 | _,[]=>1
 | n,s :: r=>choose n s * cA (n - s) r
theorem qa:∀ (ss:List Nat) (n:Nat),ss.sum<=n->cA n ss * ((ss.map bc).foldr (· * ·) 1 * bc (n - ss.sum))=bc n
 | [],n,_=>by simp [cA]
 | s :: r,n,h=>by
  rw [Nz] at h
  have ih:=qa r (n - s) (by omega)
  have c:=iV n s (by omega)
  rw [cA,Np,List.foldr_cons,Nz,<-c,<-ih,Nat.sub_sub]
  simp only [OR,O2,Py]
end KM
end
section
namespace KM
noncomputable def tM (room:List Nat) (w:List Nat):List Nat:=(Nw room.length).filter fun j=>decide (w.count j < room.getD j 0)
noncomputable def grow (room:List Nat) (ws:List (List Nat)):List (List Nat):=ws.flatMap fun w=>(tM room w).map fun j=>w++[j]
noncomputable def bQ (room:List Nat):Nat->List (List Nat)
 | 0=>[[]]
 | i + 1=>grow room (bQ room i)
noncomputable def words:Nat->List Nat->Nat
 | 0,_=>1
 | n + 1,r=>(((Nw r.length).filter fun j=>decide (0 < r.getD j 0)).map fun j=>words n (r.set j (r.getD j 0 - 1))).sum
noncomputable def left (room w:List Nat):List Nat:=(Nw room.length).map fun j=>room.getD j 0 - w.count j
theorem mV (room w:List Nat):(left room w).length=room.length:=by unfold left; rw [MY,OG]
theorem Bu (room w:List Nat) (j:Nat) (h:j < room.length):(left room w).getD j 0=room.getD j 0 - w.count j:=by
 unfold left
 rw [Ni,Ng,OE h]
 rfl
theorem Gh (room w:List Nat) (j:Nat) (h:j < room.length):left room (w++[j])=(left room w).set j ((left room w).getD j 0 - 1):=by
 apply Px
 intro k
 by_cases hk:k < room.length
 ·have e1:(left room (w++[j]))[k]?=some (room.getD k 0 - (w++[j]).count k):=by
   unfold left
   rw [Ng,OE hk]
   rfl
  rw [e1,Qr,Bu room w j h,mV]
  by_cases hjk:j=k
  ·subst hjk
   rw [if_pos rfl,if_pos h,Si]
   simp
   omega
  ·rw [if_neg hjk]
   unfold left
   rw [Ng,OE hk,Si]
   simp [VT,hjk]
 ·rw [NJ (by rw [mV]; omega),NJ (by rw [Pc,mV]; omega)]
theorem Er (room w:List Nat):tM room w=(Nw (left room w).length).filter fun j=>decide (0 < (left room w).getD j 0):=by
 unfold tM
 rw [mV]
 apply List.filter_congr
 intro j hj
 rw [OT] at hj
 rw [Bu room w j hj]
 by_cases h:w.count j < room.getD j 0
 ·simp [h]
  omega
 ·simp [h]
  omega
noncomputable def tN (room:List Nat):Nat->List (List Nat)->List (List Nat)
 | 0,ws=>ws
 | n + 1,ws=>tN room n (grow room ws)
theorem oE (room:List Nat):∀ n i,tN room n (bQ room i)=bQ room (i + n)
 | 0,i=>rfl
 | n + 1,i=>by
  rw [tN,show grow room (bQ room i)=bQ room (i + 1) from rfl,oE room n (i + 1)]
  congr 1
  omega
theorem nR (f:List Nat->Nat) (room:List Nat):∀ ws:List (List Nat),((grow room ws).map f).sum=(ws.map fun w=>((tM room w).map fun j=>f (w++[j])).sum).sum
 | []=>rfl
 | w :: r=>by
  have ih:=nR f room r
  unfold grow at ih ⊢
  rw [Sj,Nr,Ox,ih,Np,Nz,PJ]
  rfl
theorem rQ (room:List Nat):∀ (n:Nat) (ws:List (List Nat)),(tN room n ws).length=(ws.map fun w=>words n (left room w)).sum
 | 0,ws=>by
  rw [tN]
  induction ws with
  | nil=>rfl
  | cons w r ih=>rw [NC,ih,Np,Nz,words]; omega
 | n + 1,ws=>by
  rw [tN,rQ room n,nR]
  congr 1
  apply Pd
  intro w _
  rw [words,Er]
  congr 1
  apply Pd
  intro j hj
  have hj':=Pp.mp hj
  rw [OT,mV] at hj'
  rw [Gh room w j hj'.1]
noncomputable def dc (r:List Nat):Nat:=(r.map bc).foldr (· * ·) 1
theorem ik (a:Nat) (r:List Nat):dc (a :: r)=bc a * dc r:=rfl
theorem zr:∀ r,0 < dc r
 | []=>by decide
 | a :: r=>Va (g9 a) (zr r)
theorem zt:∀ (r:List Nat) (j:Nat),j < r.length->0 < r.getD j 0->dc r=dc (r.set j (r.getD j 0 - 1)) * r.getD j 0
 | [],j,h,_=>absurd h (by simp)
 | a :: r,0,_,h=>by
  have h':0 < a:=h
  show dc (a :: r)=dc ((a - 1) :: r) * a
  rw [ik,ik]
  obtain ⟨b,rfl⟩:∃ b,a=b + 1:=⟨a - 1,by omega⟩
  rw [show b + 1 - 1=b by omega,bc]
  simp only [OR,O2,Py]
 | a :: r,j + 1,h,hp=>by
  have ih:=zt r j (by simpa using h) hp
  show dc (a :: r)=dc (a :: r.set j (r.getD j 0 - 1)) * r.getD j 0
  rw [ik,ik,ih]
  simp only [OR,O2,Py]
theorem yo:∀ (r:List Nat) (j:Nat),j < r.length->0 < r.getD j 0->(r.set j (r.getD j 0 - 1)).sum + 1=r.sum
 | [],j,h,_=>absurd h (by simp)
 | a :: r,0,_,h=>by
  have h':0 < a:=h
  show ((a - 1) :: r).sum + 1=(a :: r).sum
  rw [Nz,Nz]
  omega
 | a :: r,j + 1,h,hp=>by
  have ih:=yo r j (by simpa using h) hp
  show (a :: r.set j (r.getD j 0 - 1)).sum + 1=(a :: r).sum
  rw [Nz,Nz]
  omega
theorem yp (c:Nat) (f:Nat->Nat):∀ l:List Nat,(l.map f).sum * c=(l.map fun j=>f j * c).sum
 | []=>by simp
 | a :: r=>by rw [Np,Nz,Vc,yp c f r,Np,Nz]
theorem Bv (r:List Nat):(((Nw r.length).filter fun j=>decide (0 < r.getD j 0)).map fun j=>r.getD j 0).sum=r.sum:=by
 have go:∀ (l:List Nat) (g:Nat->Nat),((l.filter fun j=>decide (0 < g j)).map g).sum=(l.map g).sum:=by
  intro l g
  induction l with
  | nil=>rfl
  | cons a t ih=>
   rw [O6]
   by_cases h:0 < g a
   ·rw [if_pos (by simpa using h),Np,Nz,ih,Np,Nz]
   ·rw [if_neg (by simpa using h),ih,Np,Nz]
    omega
 rw [go]
 congr 1
 apply Px
 intro k
 rw [Ng]
 by_cases hk:k < r.length
 ·rw [OE hk,MZ hk]
  show some (r.getD k 0)=some r[k]
  rw [Ni,MZ hk]
  rfl
 ·rw [NJ (by simpa using hk),NJ (by simpa using hk)]
  rfl
theorem qb:∀ (n:Nat) (r:List Nat),r.sum=n->words n r * dc r=bc n
 | 0,r,h=>by
  have:dc r=1:=by
   induction r with
   | nil=>rfl
   | cons a t ih=>
    rw [Nz] at h
    have ha:a=0:=by omega
    subst ha
    rw [ik,ih (by omega)]
    rfl
  rw [words,this]
  rfl
 | n + 1,r,h=>by
  rw [words,yp]
  have e:((Nw r.length).filter fun j=>decide (0 < r.getD j 0)).map (fun j=>words n (r.set j (r.getD j 0 - 1)) * dc r)=((Nw r.length).filter fun j=>decide (0 < r.getD j 0)).map (fun j=>r.getD j 0 * bc n):=by
   apply Pd
   intro j hj
   have hj':=Pp.mp hj
   rw [OT] at hj'
   have hp:0 < r.getD j 0:=of_decide_eq_true hj'.2
   rw [zt r j hj'.1 hp,<-OR,qb n _ (by have:=yo r j hj'.1 hp; omega),O2]
  rw [e,<-yp,Bv,h,bc,O2]
theorem HZ (room:List Nat):left room []=room:=by
 apply Px
 intro k
 unfold left
 rw [Ng]
 by_cases hk:k < room.length
 ·rw [OE hk,MZ hk]
  show some (room.getD k 0 - ([]:List Nat).count k)=some room[k]
  rw [Ni,MZ hk]
  simp
 ·rw [NJ (by simpa using hk),NJ (by simpa using hk)]
  rfl
theorem Gi (room:List Nat):(bQ room room.sum).length * dc room=bc room.sum:=by
 have e:=oE room room.sum 0
 rw [Nat.zero_add] at e
 rw [<-e,rQ]
 show (List.map (fun w=>words room.sum (left room w)) [[]]).sum * dc room=bc room.sum
 rw [Np,Qu,Nz,Qw,HZ,Nat.add_zero]
 exact qb _ _ rfl
structure JB (room:List Nat) (i:Nat) (w:List Nat):Prop where
 len:w.length=i
 all:∀ j∈w,j < room.length
 cnt:∀ j,j < room.length->w.count j<=room.getD j 0
theorem gJ (room:List Nat):∀ i,∀ w∈bQ room i,JB room i w
 | 0,w,h=>by
  have:w=[]:=by simpa [bQ] using h
  subst this
  exact ⟨rfl,fun _ h=>(nomatch h),fun j _=>by simp⟩
 | i + 1,w,h=>by
  rw [bQ,grow,Vq] at h
  obtain ⟨v,hv,h⟩:=h
  obtain ⟨j,hj,rfl⟩:=Oo.mp h
  have b:=gJ room i v hv
  have hj':=Pp.mp hj
  rw [OT] at hj'
  have hc:v.count j < room.getD j 0:=of_decide_eq_true hj'.2
  refine ⟨by rw [Nq,b.len]; rfl,fun k hk=>?_,fun k hk=>?_⟩
  ·rcases NL.mp hk with hk | hk
   ·exact b.all k hk
   ·rw [M0] at hk
    omega
  ·rw [Si]
   by_cases e:j=k
   ·subst e
    rw [List.count_singleton_self]
    omega
   ·have:=b.cnt k hk
    rw [List.count_singleton,if_neg (by simpa using e)]
    omega
theorem wp:∀ (n:Nat) (w:List Nat),(∀ j∈w,j < n)->((Nw n).map fun j=>w.count j).sum=w.length
 | n,[] , _=>by
  have:((Nw n).map fun j=>([]:List Nat).count j)=(Nw n).map fun _=>0:=by simp
  rw [this]
  have go:∀ m,((Nw m).map fun _=>0).sum=0:=by
   intro m
   induction m with
   | zero=>rfl
   | succ m ih=>rw [PP,Nr,Ox,ih]; rfl
  exact go n
 | n,a :: w,h=>by
  have ih:=wp n w fun j hj=>h j (Nh _ hj)
  have ha:a < n:=h a M7
  rw [NC,<-ih]
  clear ih h
  have go:∀ m,((Nw m).map fun j=>(a :: w).count j).sum=((Nw m).map fun j=>w.count j).sum + (if a < m then 1 else 0):=by
   intro m
   induction m with
   | zero=>simp
   | succ m ih=>
    rw [PP,Nr,Ox,Nr,Ox,ih]
    simp only [Np,Qu,Nz,Qw,VT]
    by_cases e:a=m
    ·subst e
     rw [if_neg (OQ a),if_pos (OA a),if_pos (beq_self_eq_true a)]
     omega
    ·rw [if_neg (show ¬ (a == m)=true by simpa using e)]
     by_cases hl:a < m
     ·rw [if_pos hl,if_pos (show a < m + 1 by omega)]
      omega
     ·rw [if_neg hl,if_neg (show ¬ a < m + 1 by omega)]
      omega
  rw [go,if_pos ha]
theorem qc (room:List Nat):(Nw room.length).map (fun j=>room.getD j 0)=room:=by
 apply Px
 intro k
 rw [Ng]
 by_cases hk:k < room.length
 ·rw [OE hk,MZ hk]
  show some (room.getD k 0)=some room[k]
  rw [Ni,MZ hk]
  rfl
 ·rw [NJ (by simpa using hk),NJ (by simpa using hk)]
  rfl
end KM
end
section
namespace KM
theorem Gj (n k:Nat):choose n k<=2 ^ n:=by
 induction n generalizing k with
 | zero=>cases k <;> simp [choose]
 | succ n ih=>
  cases k with
  | zero=>rw [kT]; exact Nat.one_le_two_pow
  | succ k=>
   rw [choose,Nat.pow_succ]
   have:=ih k
   have:=ih (k + 1)
   omega
theorem Bw {n i:Nat} (h:i + 1<=n):((choose n i:Nat):Int) * ((n:Int) - (0 + (i:Int))) / (0 + (i:Int) + 1)=((choose n (i + 1):Nat):Int):=by
 have e1:(n:Int) - (0 + (i:Int))=((n - i:Nat):Int):=by omega
 have e2:(0 + (i:Int) + 1)=((i + 1:Nat):Int):=by omega
 rw [e1,e2,<-S8,<-Vr,CO n i h]
theorem uJ (n:Nat) (ss:List Nat) (h:ss.sum<=n):cA n ss * dc (ss++[n - ss.sum])=bc n:=by
 have e:dc (ss++[n - ss.sum])=(ss.map bc).foldr (· * ·) 1 * bc (n - ss.sum):=by
  generalize n - ss.sum=k
  induction ss with
  | nil=>simp [dc]
  | cons a r ih=>
   have hr:r.sum<=n:=by rw [Nz] at h; omega
   show bc a * dc (r++[k])=bc a * (r.map bc).foldr (· * ·) 1 * bc k
   rw [ih hr,OR]
 rw [e]
 exact qa ss n h
theorem kU {n:Nat} {ss:List Nat} (h:ss.sum<=n):(bQ (ss++[n - ss.sum]) n).length=cA n ss:=by
 have e1:=uJ n ss h
 have hs:(ss++[n - ss.sum]).sum=n:=by
  rw [Ox,Nz,Qw]
  omega
 have e2:=Gi (ss++[n - ss.sum])
 rw [hs] at e2
 exact R8 (zr _) (e2.trans e1.symm)
theorem words_pos (n:Nat) (r:List Nat) (h:r.sum=n):0 < words n r:=by
 have e:=qb n r h
 have f:=g9 n
 rcases Qi (words n r) with z | z
 ·rw [z,Nat.zero_mul] at e
  omega
 ·exact z
theorem Ia {room w:List Nat} {i:Nat} (h:JB room i w):(left room w).sum + i=room.sum:=by
 have go:∀ m,m<=room.length->((Nw m).map fun j=>room.getD j 0 - w.count j).sum + ((Nw m).map fun j=>w.count j).sum=((Nw m).map fun j=>room.getD j 0).sum:=by
  intro m
  induction m with
  | zero=>intro _; rfl
  | succ m ih=>
   intro hm
   have:=ih (by omega)
   have:=h.cnt m (by omega)
   simp only [PP,Nr,Ox,Np,Qu,Nz,Qw] at *
   omega
 have e:=go room.length (M1 _)
 rw [wp room.length w h.all,qc,h.len] at e
 exact e
theorem Ib {room:List Nat} {i:Nat} (h:i<=room.sum):(bQ room i).length<=(bQ room room.sum).length:=by
 have e:=oE room (room.sum - i) i
 rw [show i + (room.sum - i)=room.sum by omega] at e
 rw [<-e,rQ]
 have hb:=gJ room i
 generalize bQ room i=ws at hb
 induction ws with
 | nil=>exact N3 _
 | cons w r ih=>
  rw [Np,Nz,NC]
  have:=ih fun v hv=>hb v (Nh _ hv)
  have:=words_pos (room.sum - i) (left room w) (by have:=Ia (hb w M7); omega)
  omega
theorem Ly:∀ (rs:List Nat) (m:Nat),rs.foldl (fun f s=>f / bc s) (m * dc rs)=m
 | [],m=>by simp [dc]
 | a :: r,m=>by
  rw [VH,ik]
  have e:m * (bc a * dc r) / bc a=m * dc r:=by
   rw [<-OR,O2 m,OR,Nat.mul_div_cancel_left _ (g9 a)]
  rw [e]
  exact Ly r m
noncomputable def fN (room w:List Nat) (k:Nat):List Nat:=(Nw k).filter fun j=>decide (w.count j < room.getD j 0)
theorem uK (room w:List Nat):fN room w room.length=tM room w:=rfl
theorem Bx (room w:List Nat) (k:Nat):fN room w (k + 1)=fN room w k++(if w.count k < room.getD k 0 then [k] else []):=by
 unfold fN
 rw [PP,RS]
 by_cases h:w.count k < room.getD k 0
 ·rw [if_pos h,N8 (by simpa using h)]
  rfl
 ·rw [if_neg h,Oi (by simpa using h)]
  rfl
theorem Gk (room:List Nat) (ws:List (List Nat)) (i:Nat) (w:List Nat) (h:ws[i]?=some w):grow room (ws.take (i + 1))=grow room (ws.take i)++(tM room w).map fun j=>w++[j]:=by
 unfold grow
 rw [OF,h,Ry]
 simp
theorem By (room:List Nat) (ws:List (List Nat)) (i:Nat):(grow room (ws.take i)).length<=(grow room ws).length:=by
 have:grow room ws=grow room (ws.take i)++grow room (ws.drop i):=by
  unfold grow
  rw [<-Ry,Qv]
 rw [this,Nq]
 omega
end KM
end
namespace L2
open PySem PyProof.Rows
section
variable {K:Fg} {vs:List V} {H:Hp} {Q:VK} {E:XK}
noncomputable def Gm:V->Bool
 | .int _=>true
 | _=>false
noncomputable def cS:V->Int->Int->Bool
 | .int i,lo,hi=>decide (lo<=i) && decide (i<=hi)
 | _,_,_=>false
noncomputable def fI (K:Fg) (H:Hp) (x:V):Prop:=∃ t b1 b2,gc K H x t/\NR K t (.type "int")=some b1/\NR K t (.type "bool")=some b2/\(b1 && !b2)=Gm x
theorem fI.int {K:Fg} {H:Hp} (i:Int):fI K H (.int i):=⟨_,_,_,.int i,uE K,rK K,rfl⟩
theorem Gn {K:Fg} {H H':Hp} {x:V} {t:Value} (h:gc K H x t) (s:am H H'):gc K H' x t:=by
 cases h with
 | non=>exact .non
 | bl b=>exact .bl b
 | int i=>exact .int i
 | str x=>exact .str x
 | flt x=>exact .flt x
 | lst e=>exact .lst (s _ _ e)
 | frz e=>exact .frz (s _ _ e)
 | tup e=>exact .tup (s _ _ e)
 | dK e=>exact .dK (s _ _ e)
 | dT e=>exact .dT (s _ _ e)
 | ins e cl ha hn htk hm=>exact .ins (s _ _ e) cl ha hn htk hm
theorem fI.same {K:Fg} {H H':Hp} {x:V} (h:fI K H x) (s:am H H'):fI K H' x:=by
 obtain ⟨t,b1,b2,ty,r⟩:=h
 exact ⟨t,b1,b2,Gn ty s,r⟩
noncomputable def Ka (K:Fg):Sp:=fun vs H Q _=>∃ x,vs=[x]/\fI K H x/\Q (.bl (Gm x)) H
noncomputable abbrev iW (K:Fg):Sp:=Ka K
noncomputable def wq (K:Fg):TS:=(aJ (ie (tCB (iN K) (ac (aa 0) (ac (tC (.ty "int")) ag))) (vV (tCB (iN K) (ac (aa 0) (ac (tC (.ty "bool")) ag))))))
theorem CP (h:iW K vs H Q E):wq K { nx:=fun _ H'=>Q .non H',rt:=Q } (start ["thing"] vs) H:=by
 obtain ⟨x,rfl,⟨t,b1,b2,ty,k1,k2,e⟩,q⟩:=h
 refine ⟨_,rfl,_,_,_,_,rfl,ty,k1,_,rfl,jA (fun c=>?_) (fun c=>?_)⟩
 ·subst c
  refine ⟨_,rfl,_,_,_,_,rfl,ty,k2,_,rfl,?_⟩
  rw [<-e,Q4] at q
  exact q
 ·subst c
  rw [<-e,Rz] at q
  exact q
noncomputable def Ic (K:Fg):Sp:=fun vs H Q _=>∃ x lo hi,vs=[x,.int lo,.int hi]/\fI K H x/\Q (.bl (cS x lo hi)) H
noncomputable abbrev eD (K:Fg):Sp:=Ic K
noncomputable def uL (K:Fg):TS:=(aJ (ie (av (iW K) [] E0 (ac (aa 0) ag)) (A5 (rI0 fun i j=>.bl (decide (i<=j))) (rI0 fun i j=>.bl (decide (i<=j))) (aa 1) (aa 0) (aa 2))))
theorem Bz (h:eD K vs H Q E):uL K { nx:=fun _ H'=>Q .non H',rt:=Q } (start ["thing","least","most"] vs) H:=by
 obtain ⟨x,lo,hi,rfl,pl,q⟩:=h
 refine ⟨_,rfl,x,rfl,pl,_,rfl,jA (fun c=>?_) (fun c=>?_)⟩
 ·cases x with
  | int i=>
   refine ⟨_,rfl,_,rfl,_,_,rfl,rfl,_,rfl,jA (fun d=>?_) (fun d=>?_)⟩
   ·refine ⟨_,rfl,_,_,rfl,rfl,?_⟩
    have q':Q (.bl (decide (lo<=i) && decide (i<=hi))) H:=q
    rw [d,Q4] at q'
    exact q'
   ·have q':Q (.bl (decide (lo<=i) && decide (i<=hi))) H:=q
    rw [d,Rz] at q'
    exact q'
  | _=>cases c
 ·cases x with
  | int i=>cases c
  | _=>exact q
noncomputable def oF (zs:List V):Int:=(zs.map fun z=>match z with | .int i=>i | _=>0).sum
noncomputable def JC (x:V) (zs:List V):Bool:=match x with
 | .int c=>(decide (0<=c) && decide (c<=12)) && (decide (1<=zs.length) && decide (zs.length<=5)) && zs.all (fun z=>cS z 0 c) && decide (oF zs<=c)
 | _=>false
theorem yq {zs:List V} {lo hi:Int} (h:zs.all (fun z=>cS z lo hi)=true):∃ ns:List Int,zs=ns.map V.int/\oF zs=ns.sum:=by
 induction zs with
 | nil=>exact ⟨[],rfl,rfl⟩
 | cons z r ih=>
  rw [QA,ON] at h
  obtain ⟨ns,e,es⟩:=ih h.2
  cases z with
  | int i=>
   refine ⟨i :: ns,by rw [e]; rfl,?_⟩
   show i + oF r=(i :: ns).sum
   rw [es,Nz]
  | _=>exact absurd h.1 Nd
noncomputable def JD (K:Fg) (H:Hp) (y:V) (zs:Option (List V)):Prop:=match zs with
 | some zs=>∃ a,y=.ref a/\(H a=some (.lst zs)\/∃ o,H a=some (.frz o (.lst zs)))/\zs.length<=1000/\∀ z∈zs,fI K H z
 | none=>∃ t,gc K H y t/\NR K t (.type "list")=some false
noncomputable def wt (x:V):Option (List V)->Bool
 | some zs=>JC x zs
 | none=>false
noncomputable def Lz (K:Fg):Sp:=fun vs H Q _=>∃ x y zs,vs=[x,y]/\fI K H x/\JD K H y zs/\∀ H',am H H'->Q (.bl (wt x zs)) H'
noncomputable abbrev qd (K:Fg):Sp:=Lz K
noncomputable def zu (K:Fg):TS:=(ap (bp (dq (tB (av (eD K) [] E0 (ac (aa 0) (ac (tC (.int 0)) (ac (tC (.int 12)) ag)))))) (aJ (tC (.bl false))) aY)
 (ap (bp (tOr (dq (tB (tCB (iN K) (ac (aa 1) (ac (tC (.ty "list")) ag))))) (dq (tB (av (eD K) [] E0 (ac (tCB (eW K) (ac (aa 1) ag)) (ac (tC (.int 1)) (ac (tC (.int 5)) ag))))))) (aJ (tC (.bl false))) aY)
 (aJ (ie (tCB (Ei K) (ac (bu (cc K (aa 1)) (fun _ _ _ _=>(aj 0)) (fun _ _ _ _=>aV) (fun _ _ _ _=>(av (eD K) [] E0 (ac (aa 0) (ac (tC (.int 0)) (ac (aa 1) ag))))) [none,some 0]) ag)) (tOp (rI0 fun i j=>.bl (decide (i<=j))) (tCB (vf K) (ac (aa 1) ag)) (aa 0))))))
theorem Es (h:qd K vs H Q E):zu K { nx:=fun _ H'=>Q .non H',rt:=Q } (start ["cards","sizes"] vs) H:=by
 obtain ⟨x,y,zs,rfl,px,hz,q⟩:=h
 refine ⟨_,rfl,x,0,12,rfl,px,_,rfl,jA (fun c=>?_) (fun c=>?_)⟩
 ·
  have e:wt x zs=false:=by
   have c':cS x 0 12=false:=by simpa using c
   cases zs with
   | none=>rfl
   | some zs=>
    cases x with
    | int i=>
     show ((decide (0<=i) && decide (i<=12)) && (decide (1<=zs.length) && decide (zs.length<=5)) && zs.all (fun z=>cS z 0 i) && decide (oF zs<=i))=false
     rw [show (decide (0<=i) && decide (i<=12))=false from c']
     rfl
    | _=>rfl
  have:=q H (am.refl H)
  rw [e] at this
  exact this
 ·have c':cS x 0 12=true:=by simpa using c
  cases x with
  | int i=>
   cases zs with
   | none=>
    obtain ⟨t,ty,k⟩:=hz
    refine ⟨_,rfl,_,_,_,_,rfl,ty,k,_,rfl,lL (lL ?_)⟩
    exact q H (am.refl H)
   | some zs=>
    obtain ⟨a,rfl,ha,hlen,hp⟩:=hz
    have hS:SqL K H a zs:=ha.elim (fun h=>.inl (.inl h)) (fun h=>.inl (.inr h))
    have ty:gc K H (.ref a) (.type "list"):=ha.elim (fun h=>.lst h) (fun ⟨o,h⟩=>.frz h)
    refine ⟨_,rfl,_,_,_,_,rfl,ty,kS K,_,rfl,lK ?_⟩
    refine ⟨_,rfl,a,_,rfl,.inl hS,_,1,5,rfl,fI.int _,_,rfl,jA (fun d=>?_) (fun d=>?_)⟩
    ·have e:wt (.int i) (some zs)=false:=by
      have d0:cS (.int (zs.length:Int)) 1 5=false:=by simpa using d
      have d':(decide ((1:Int)<=(zs.length:Int)) && decide ((zs.length:Int)<=5))=false:=d0
      show ((decide (0<=i) && decide (i<=12)) && (decide (1<=zs.length) && decide (zs.length<=5)) && zs.all (fun z=>cS z 0 i) && decide (oF zs<=i))=false
      have e1:decide (1<=zs.length)=decide ((1:Int)<=(zs.length:Int)):=decide_eq_decide.mpr (by omega)
      have e2:decide (zs.length<=5)=decide ((zs.length:Int)<=5):=decide_eq_decide.mpr (by omega)
      rw [e1,e2,d',RB]
      rfl
     have:=q H (am.refl H)
     rw [e] at this
     exact this
    ·have d0:cS (.int (zs.length:Int)) 1 5=true:=by simpa using d
     have d':(decide ((1:Int)<=(zs.length:Int)) && decide ((zs.length:Int)<=5))=true:=d0
     have e0:wt (.int i) (some zs)=(zs.all (fun z=>cS z 0 i) && decide (oF zs<=i)):=by
      show ((decide (0<=i) && decide (i<=12)) && (decide (1<=zs.length) && decide (zs.length<=5)) && zs.all (fun z=>cS z 0 i) && decide (oF zs<=i))=_
      have e1:decide (1<=zs.length)=decide ((1:Int)<=(zs.length:Int)):=decide_eq_decide.mpr (by omega)
      have e2:decide (zs.length<=5)=decide ((zs.length:Int)<=5):=decide_eq_decide.mpr (by omega)
      rw [e1,e2,d',show (decide (0<=i) && decide (i<=12))=true from c',Q4,Q4]
     rw [e0] at q
     refine ⟨_,rfl,a,rfl,⟨_,hS⟩,fun p hp'=>zk (K:=K) (a:=a) (xs:=zs) (fun k acc H2=>acc=((zs.take k).map fun z=>cS z 0 i).map V.bl/\am H H2/\H2 p=some (.lst acc)) ⟨rfl,bg hp' _,az⟩ ?_ ?_ (small hlen) ?_ ?_⟩
     ·rintro k acc H2 hk ⟨rfl,s2,e2⟩
      exact ⟨e2,by rw [MY,MY,OM]; omega⟩
     ·rintro k acc H2 hk ⟨rfl,s2,e2⟩
      exact s2.seq hS
     ·rintro _ _ _ _ k z acc H2 hzk ⟨rfl,s2,e2⟩
      refine ⟨_,rfl,_,rfl,z,0,i,rfl,(hp z (M9 hzk)).same s2,e2,?_,s2.upd hp' _,az⟩
      rw [OF,hzk,Nr,Nr]
      rfl
     ·rintro acc H2 ⟨rfl,s2,e2⟩
      rw [NI] at e2
      refine ⟨p,_,rfl,SqL.of e2,_,rfl,?_⟩
      have ea:(zs.map fun z=>cS z 0 i).all id=zs.all fun z=>cS z 0 i:=by
       rw [Rl]
       rfl
      rw [ea]
      refine jA (fun g=>?_) (fun g=>?_)
      ·obtain ⟨ns,en,es⟩:=yq g
       rw [g,Q4,es] at q
       refine ⟨_,rfl,a,ns,rfl,by rw [<-en]; exact s2.seq hS,_,rfl,_,_,rfl,rfl,?_⟩
       exact q H2 s2
      ·rw [g,Rz] at q
       exact q H2 s2
  | _=>exact absurd c' Nd
noncomputable def Go:Sp:=fun vs H Q _=>∃ n k:Nat,vs=[.int n,.int k]/\k<=n/\n<=50/\Q (.int (KM.choose n k:Nat)) H
noncomputable abbrev qe (K:Fg):Sp:=Go
noncomputable def zv (K:Fg):TS:=(ap (aH (tC (.int 1)) (aj 2))
 (ap (cU (fZ (ac (aa 1) ag)) (aj 3) (aH (tOp (rI ga fun i j=>.int (i / j)) (tOp (rI P8 fun i j=>.int (i * j)) (aa 2) (tOp (rI0 fun i j=>.int (i - j)) (aa 0) (aa 3))) (tOp (rI0 fun i j=>.int (i + j)) (aa 3) (tC (.int 1)))) (aj 2)))
 (aJ (aa 2))))
theorem Et (h:qe K vs H Q E):zv K { nx:=fun _ H'=>Q .non H',rt:=Q } (start ["many","taken","ways","step"] vs) H:=by
 obtain ⟨n,k,rfl,hk,hn,q⟩:=h
 refine ⟨_,rfl,_,rfl,by omega,by omega,rC (lo:=0) (n:=((k:Nat):Int).toNat) (fun i σ H2=>∃ st,σ=[some (.int n),some (.int k),some (.int (KM.choose n i:Nat)),st]/\H2=H) ⟨none,by rw [KM.kT]; rfl,rfl⟩ ?_ ?_⟩
 ·rintro i σ H2 hi ⟨st,rfl,rfl⟩
  have hi':i + 1<=n:=by omega
  refine ⟨_,rfl,_,rfl,_,rfl,_,_,rfl,rfl,_,_,rfl,rfl,.of_right (intBits_le_64 (by omega) (by omega)),_,rfl,_,_,rfl,rfl,_,_,rfl,rfl,⟨by omega,by omega⟩,?_⟩
  dsimp only
  rw [KM.Bw hi']
  exact ⟨_,rfl,rfl⟩
 ·rintro σ H2 ⟨st,rfl,rfl⟩
  refine ⟨_,rfl,?_⟩
  rw [show ((k:Nat):Int).toNat=k by omega]
  exact q
structure rR (c:Nat) (ss:List Nat):Prop where
 c12:c<=12
 l1:1<=ss.length
 l5:ss.length<=5
 sum:ss.sum<=c
noncomputable def au (ss:List Nat):List V:=ss.map fun (s:Nat)=>V.int ((s:Nat):Int)
theorem dk (ss:List Nat):au ss=(ss.map fun (s:Nat)=>((s:Nat):Int)).map V.int:=by unfold au; rw [PJ]; rfl
theorem aR (ss:List Nat):(au ss).length=ss.length:=MY _
theorem jj:∀ ss:List Nat,(ss.map fun (s:Nat)=>((s:Nat):Int)).sum=((ss.sum:Nat):Int)
 | []=>rfl
 | a :: r=>by rw [Np,Nz,Nz,jj r]; omega
theorem jD:∀ {ss:List Nat} {s:Nat},s∈ss->s<=ss.sum
 | a :: r,s,h=>by
  rw [Nz]
  rcases M6.mp h with rfl | h
  ·omega
  ·have:=jD h
   omega
theorem Id {c:Nat} {ss:List Nat} (p:rR c ss):JC (.int c) (au ss)=true:=by
 have h1:=p.c12
 have h2:=p.l1
 have h3:=p.l5
 have h4:=p.sum
 show ((decide ((0:Int)<=(c:Int)) && decide ((c:Int)<=12)) && (decide (1<=(au ss).length) && decide ((au ss).length<=5)) && (au ss).all (fun z=>cS z 0 c) && decide (oF (au ss)<=c))=true
 have e1:(au ss).all (fun z=>cS z 0 c)=true:=by
  unfold au
  rw [Rl,SE]
  intro s hs
  have:=jD hs
  show (decide ((0:Int)<=(s:Int)) && decide ((s:Int)<=(c:Int)))=true
  rw [decide_eq_true (by omega),decide_eq_true (by omega)]
  rfl
 have e2:oF (au ss)=((ss.sum:Nat):Int):=by
  rw [<-jj]
  unfold oF au
  rw [PJ]
  rfl
 rw [e1,e2,aR,decide_eq_true (by omega),decide_eq_true (by omega),decide_eq_true h2,decide_eq_true h3,decide_eq_true (by omega)]
 rfl
theorem Ie {K:Fg} {H:Hp} {a:Addr} {ss:List Nat} (h:H a=some (.lst (au ss))) (hl:ss.length<=1000):JD K H (.ref a) (some (au ss)):=
 ⟨a,rfl,.inl h,by rw [aR]; exact hl,fun z hz=>by
  obtain ⟨s,_,rfl⟩:=Oo.mp hz
  exact fI.int _⟩
noncomputable def Mv (K:Fg):Sp:=fun vs H Q _=>∃ (c:Nat) (a:Addr) (ss:List Nat),vs=[.int c,.ref a]/\H a=some (.lst (au ss))/\rR c ss/\∀ H',am H H'->Q (.int (KM.cA c ss:Nat)) H'
noncomputable abbrev oH (K:Fg):Sp:=Mv K
noncomputable def wu (K:Fg):TS:=(ap (bp (dq (tB (av (qd K) [] E0 (ac (aa 0) (ac (aa 1) ag))))) rq aY)
 (ap (aH (tC (.int 1)) (aj 2))
 (ap (aH (aa 0) (aj 3))
 (ap (cU (cc K (aa 1)) (aj 4) (ap (aH (tOp (rI P8 fun i j=>.int (i * j)) (aa 2) (av (qe K) [] E0 (ac (aa 3) (ac (aa 4) ag)))) (aj 2))
 (aH (tOp (rI0 fun i j=>.int (i - j)) (aa 3) (aa 4)) (aj 3))))
 (aJ (aa 2))))))
theorem CQ (h:oH K vs H Q E):wu K { nx:=fun _ H'=>Q .non H',rt:=Q } (start ["cards","sizes","many","left","size"] vs) H:=by
 obtain ⟨c,a,ss,rfl,ha,p,q⟩:=h
 have h12:=p.c12
 have h5:=p.l5
 refine ⟨_,rfl,_,rfl,_,_,some (au ss),rfl,fI.int _,Ie ha (by omega),fun H1 s1=>⟨_,rfl,?_⟩⟩
 rw [show wt (.int c) (some (au ss))=true from Id p]
 refine lK ?_
 refine ⟨_,rfl,?_⟩
 refine ⟨_,rfl,a,rfl,⟨_,SqL.of (s1 _ _ ha)⟩,uX (K:=K) (a:=a) (xs:=au ss) (fun i σ H2=>∃ (m l:Nat) (st:Option V),σ=[some (.int c),some (.ref a),some (.int m),some (.int l),st]/\H2=H1/\m * KM.cA l (ss.drop i)=KM.cA c ss/\(ss.drop i).sum<=l/\l<=12)
  ⟨1,c,none,rfl,rfl,by rw [Vb]; rfl,p.sum,h12⟩ (fun i σ H2 _ ⟨_,_,_,_,e,_⟩=>by subst e; exact SqL.of (s1 _ _ ha)) ?_ ?_⟩
 ·rintro i x σ H2 hx ⟨m,l,st,rfl,rfl,hm,hs,hl⟩
  obtain ⟨z,hz,rfl⟩:∃ z:Nat,ss[i]?=some z/\x=.int (z:Int):=by
   unfold au at hx
   rw [Ng] at hx
   cases e:ss[i]? with
   | none=>rw [e] at hx; cases hx
   | some z=>rw [e] at hx; exact ⟨z,rfl,(Nf hx).symm⟩
  have hd:ss.drop i=z :: ss.drop (i + 1):=by
   obtain ⟨h1,h2⟩:=M4.mp hz
   rw [Sn h1,h2]
  rw [hd,Nz] at hs
  rw [hd,KM.cA] at hm
  have hle:=KM.Gj l z
  have h2:(2:Nat) ^ l<=2 ^ 12:=Nat.pow_le_pow_right (by decide) hl
  refine ⟨_,rfl,_,rfl,_,rfl,l,z,rfl,by omega,by omega,_,_,rfl,rfl,.of_right (intBits_le_64 (by omega) (by omega)),?_⟩
  refine ⟨_,rfl,_,rfl,_,_,rfl,rfl,m * KM.choose l z,l - z,some (.int (z:Int)),?_,rfl,by rw [OR]; exact hm,by omega,by omega⟩
  have e1:((m:Nat):Int) * ((KM.choose l z:Nat):Int)=((m * KM.choose l z:Nat):Int):=(S8 _ _).symm
  have e2:((l:Nat):Int) - ((z:Nat):Int)=((l - z:Nat):Int):=by omega
  dsimp only
  rw [e1,e2]
  rfl
 ·rintro σ H2 ⟨m,l,st,rfl,rfl,hm,hs,hl⟩
  refine ⟨_,rfl,?_⟩
  rw [aR,List.drop_length,KM.cA,Nat.mul_one] at hm
  rw [hm]
  exact q _ s1
noncomputable def ba (H:Hp) (p:Addr) (ws:List (List Nat)):Prop:=∃ rs:List Addr,H p=some (.lst (rs.map V.ref))/\Paired (fun (a:Addr) (w:List Nat)=>H a=some (.tup (au w))) rs ws
theorem kW {H H':Hp} {rs:List Addr} {ws:List (List Nat)} (h:Paired (fun (a:Addr) (w:List Nat)=>H a=some (.tup (au w))) rs ws) (s:∀ a xs,H a=some (.tup xs)->H' a=some (.tup xs)):Paired (fun (a:Addr) (w:List Nat)=>H' a=some (.tup (au w))) rs ws:=
 Paired.mapP h fun a w e=>s _ _ e
theorem mw {α β:Type} {F:α->β->Prop}:∀ {l:List α} {m:List β} {i:Nat} {a:α},Paired F l m->l[i]?=some a->∃ b,m[i]?=some b/\F a b
 | _,_,_,_,.nil,h=>by simp at h
 | _,_,0,_,.cons r _,h=>by simp at h; subst h; exact ⟨_,rfl,r⟩
 | _,_,i + 1,a,.cons _ t,h=>by
  obtain ⟨b,h1,h2⟩:=mw (i:=i) (a:=a) t (by simpa using h)
  exact ⟨b,by simpa using h1,h2⟩
theorem qf {α β:Type} {F:α->β->Prop}:∀ {l:List α} {m:List β} {l':List α} {m':List β},Paired F l m->Paired F l' m'->Paired F (l++l') (m++m')
 | _,_,_,_,.nil,h=>h
 | _,_,_,_,.cons r t,h=>.cons r (qf t h)
theorem Eu (w:List Nat) (j:Nat):(au w).countP (fun z=>eqV z (.int (j:Int)))=w.count j:=by
 unfold au
 rw [List.countP_map,List.count_eq_countP]
 congr 1
 funext k
 show ((k:Int) == (j:Int))=(k == j)
 by_cases h:k=j
 ·subst h; simp
 ·rw [beq_eq_false_iff_ne.mpr h,beq_eq_false_iff_ne.mpr (by omega)]
theorem Gp (w:List Nat):(au w).all ig=true:=by unfold au; rw [Rl]; simp [ig]
noncomputable def LB (K:Fg):Sp:=fun vs H Q _=>∃ (b r:Addr) (ws:List (List Nat)) (room:List Nat),vs=[.ref b,.ref r]/\ba H b ws/\H r=some (.lst (au room))/\room.length<=6/\(KM.grow room ws).length<=2000/\(∀ w∈ws,w.length<=12)/\
 ∀ (p:Addr) (H':Hp),am H H'->H p=none->ba H' p (KM.grow room ws)->Q (.ref p) H'
noncomputable abbrev jk (K:Fg):Sp:=LB K
noncomputable def nU (K:Fg):TS:=(ap (aH (A7 ag) (aj 2))
 (ap (cU (cc K (aa 0)) (aj 3) (cU (iZ aQ K (ac (aa 1) ag)) (cZ K 2 (aW (aj 4) (aW (aj 5) cY))) (bp (be (tOp (rI0 fun i j=>.bl (decide (i < j))) (tBT Dl (aa 3) (ac (aa 4) ag)) (aa 5))) (dG (tBM K "list" ii (aa 2) (ac (tOp (Ju K) (aa 3) (Eb (ac (aa 4) ag))) ag))) aY)))
 (aJ (aa 2))))
theorem vn (h:jk K vs H Q E):nU K { nx:=fun _ H'=>Q .non H',rt:=Q } (start ["begun","room","longer","deal","who","most"] vs) H:=by
 obtain ⟨b,r,ws,room,rfl,⟨rs,hb,hp⟩,hrm,h6,h2000,h12,q⟩:=h
 refine ⟨(by show 0<=Nb; decide),fun l hl=>?_⟩
 have sl:am H (upd H l (.lst [])):=bg hl _
 have hrl:ws.length=rs.length:=hp.length.symm
 refine ⟨_,rfl,b,rfl,⟨_,SqL.of (sl _ _ hb)⟩,uX (K:=K) (a:=b) (xs:=rs.map V.ref)
  (fun i σ H2=>∃ d wh mo:Option V,σ=[some (.ref b),some (.ref r),some (.ref l),d,wh,mo]/\am H H2/\ba H2 l (KM.grow room (ws.take i)))
  ⟨none,none,none,rfl,sl,[],by rw [az]; rfl,.nil⟩ (fun i σ H2 _ ⟨_,_,_,_,s2,_⟩=>SqL.of (s2 _ _ hb)) ?_ ?_⟩
 ·rintro i x σ H2 hx ⟨d,wh,mo,rfl,s2,D2⟩
  obtain ⟨a,ea,rfl⟩:∃ a,rs[i]?=some a/\x=.ref a:=by
   rw [Ng] at hx
   cases e:rs[i]? with
   | none=>rw [e] at hx; cases hx
   | some a=>rw [e] at hx; exact ⟨a,rfl,(Nf hx).symm⟩
  obtain ⟨u,hu,ha⟩:=mw hp ea
  have hu12:=h12 u (M9 hu)
  have gt:=KM.Gk room ws i u hu
  have gle:=KM.By room ws (i + 1)
  refine ⟨_,rfl,r,_,rfl,SqL.of (s2 _ _ hrm),Bg (S:=aQ) (K:=K) (a:=r) (xs:=au room)
   (fun j σ H3=>∃ wh mo:Option V,σ=[some (.ref b),some (.ref r),some (.ref l),some (.ref a),wh,mo]/\am H H3/\ba H3 l (KM.grow room (ws.take i)++(KM.fN room u j).map fun k=>u++[k]))
   ⟨wh,mo,rfl,s2,by simpa [KM.fN] using D2⟩ (fun j σ H3 _ ⟨_,_,_,s3,_⟩=>SqL.of (s3 _ _ hrm)) ?_ ?_⟩
  ·rintro j x T σ H3 hxj ⟨wh',mo',rfl,s3,qs,hq,pq⟩ hT
   obtain ⟨m,hm,rfl⟩:∃ m:Nat,room[j]?=some m/\x=.int (m:Int):=by
    unfold au at hxj
    rw [Ng] at hxj
    cases e:room[j]? with
    | none=>rw [e] at hxj; cases hxj
    | some z=>rw [e] at hxj; exact ⟨z,rfl,(Nf hxj).symm⟩
   have hmD:room.getD j 0=m:=by rw [Ni,hm]; rfl
   have hjl:j < room.length:=(M4.mp hm).1
   have nT:H T=none:=s3.free hT
   have s4:am H (upd H3 T (.tup [.int (j:Int),.int (m:Int)])):=s3.upd nT _
   have a4:(upd H3 T (.tup [.int (j:Int),.int (m:Int)])) a=some (.tup (au u)):=s4 _ _ ha
   have nlT:l≠T:=bn hq hT
   have q4:(upd H3 T (.tup [.int (j:Int),.int (m:Int)])) l=some (.lst (qs.map V.ref)):=by rw [aS nlT]; exact hq
   have p4:Paired (fun (a:Addr) (w:List Nat)=>(upd H3 T (.tup [.int (j:Int),.int (m:Int)])) a=some (.tup (au w))) qs (KM.grow room (ws.take i)++(KM.fN room u j).map fun k=>u++[k]):=
    kW pq fun a xs e=>by rw [aS (bn e hT)]; exact e
   have hqlen:qs.length<=2000:=by
    have e1:=pq.length
    rw [Nq,MY] at e1
    rw [gt,Nq,MY,<-KM.uK] at gle
    have e3:(KM.fN room u j).length<=(KM.fN room u room.length).length:=by
     unfold KM.fN
     have:(Nw j).Sublist (Nw room.length):=List.range_sublist.mpr (by omega)
     exact (this.filter _).length_le
    omega
   have t4:(upd H3 T (.tup [.int (j:Int),.int (m:Int)])) T=some (.tup [.int (j:Int),.int (m:Int)]):=az
   generalize upd H3 T (.tup [.int (j:Int),.int (m:Int)])=H4 at s4 a4 q4 p4 t4
   have ns:=KM.Bx room u j
   rw [hmD] at ns
   refine ⟨T,_,rfl,SqT.of t4,rfl,_,_,rfl,_,_,rfl,rfl,?_⟩
   refine ⟨_,rfl,⟨a,_,rfl,a4⟩,_,rfl,a,_,_,rfl,rfl,a4,rfl,Gp u,_,rfl,_,_,rfl,rfl,_,rfl,?_⟩
   rw [Eu]
   refine jA (fun c=>?_) (fun c=>?_)
   ·have c':u.count j < m:=by have:=of_decide_eq_true c; omega
    rw [if_pos c'] at ns
    have fin:∀ (d:Addr) (H5:Hp),am H4 H5->H5 d=some (.tup (au (u++[j])))->∃ (l':Addr) (xs:List V) (y:V),V.ref l=.ref l'/\[V.ref d]=[y]/\H5 l'=some (.lst xs)/\xs.length < Nb/\
      ∃ wh mo:Option V,([some (.ref b),some (.ref r),some (.ref l),some (.ref a),some (.int (j:Int)),some (.int (m:Int))]:L2.St)=[some (.ref b),some (.ref r),some (.ref l),some (.ref a),wh,mo]/\am H (upd H5 l' (.lst (xs++[y])))/\
       ba (upd H5 l' (.lst (xs++[y]))) l (KM.grow room (ws.take i)++(KM.fN room u (j + 1)).map fun k=>u++[k]):=by
     intro d H5 s5 e5
     refine ⟨l,_,_,rfl,rfl,s5 _ _ q4,Qf (by rw [MY]; exact hqlen) (by decide),_,_,rfl,(s4.trans s5).upd hl _,qs++[d],by rw [az,Nr]; rfl,?_⟩
     have keep:∀ (c:Addr) (xs:List V),H5 c=some (.tup xs)->upd H5 l (.lst (qs.map V.ref++[V.ref d])) c=some (.tup xs):=fun c xs e=>by
      rw [aS (Ay e (s5 _ _ q4) (by intro z; cases z))]
      exact e
     rw [ns,Nr,<-Sg]
     exact qf (kW (kW p4 fun c xs e=>s5 _ _ e) keep) (.cons (keep _ _ e5) .nil)
    refine ⟨_,rfl,.inl ⟨rfl,_,SqL.of q4⟩,_,rfl,_,rfl,(by show 1<=Nb; decide),fun t ht=>?_⟩
    have st:am H4 (upd H4 t (.tup [.int (j:Int)])):=bg ht _
    have ej:au (u++[j])=au u++[.int (j:Int)]:=by unfold au; rw [Nr]; rfl
    refine ⟨a,t,au u,[.int (j:Int)],rfl,rfl,SqT.of (st _ _ a4),SqT.of az,small (by rw [aR]; show u.length + 1<=1000; omega),fun e0=>?_,fun _ e0=>(nomatch e0),fun _ _ p hp'=>?_⟩
    ·exact fin t _ st (by rw [az,ej,e0]; rfl)
    ·exact fin p _ (st.trans (bg hp' _)) (by rw [az,ej])
   ·have c':¬ u.count j < m:=by have:=of_decide_eq_false c; omega
    rw [if_neg c',OY] at ns
    exact ⟨_,_,rfl,s4,qs,q4,by rw [ns]; exact p4⟩
  ·rintro σ H3 ⟨wh',mo',rfl,s3,D3⟩
   rw [aR,KM.uK,<-gt] at D3
   exact ⟨_,_,_,rfl,s3,D3⟩
 ·rintro σ H2 ⟨d,wh,mo,rfl,s2,D2⟩
  refine ⟨_,rfl,?_⟩
  rw [MY,<-hrl,NI] at D2
  exact q l H2 s2 hl D2
noncomputable def Kb (K:Fg):Sp:=fun vs H Q _=>∃ (c:Nat) (a:Addr) (ss:List Nat),vs=[.int c,.ref a]/\H a=some (.lst (au ss))/\rR c ss/\KM.cA c ss<=2000/\
 ∀ (p:Addr) (H':Hp),am H H'->H p=none->ba H' p (KM.bQ (ss++[c - ss.sum]) c)->Q (.ref p) H'
theorem hJ (ss:List Nat) (c:Nat):au ss++[.int (c:Int)]=au (ss++[c]):=by unfold au; rw [Nr]; rfl
noncomputable abbrev kX (K:Fg):Sp:=Kb K
noncomputable def wv (K:Fg):TS:=(ap (bp (be (tOp (rI0 fun i j=>.bl (decide (j < i))) (av (oH K) [] E0 (ac (aa 0) (ac (aa 1) ag))) (tC (.int 2000)))) rq aY)
 (ap (aH (tOp K5 (aa 1) (A7 (ac (tOp (rI0 fun i j=>.int (i - j)) (aa 0) (tCB (vf K) (ac (aa 1) ag))) ag))) (aj 2))
 (ap (aH (A7 (ac (Eb ag) ag)) (aj 3))
 (ap (cU (fZ (ac (aa 0) ag)) (aj 4) (aH (av (jk K) [] E0 (ac (aa 3) (ac (aa 2) ag))) (aj 3)))
 (aJ (aa 3))))))
theorem CS (h:kX K vs H Q E):wv K { nx:=fun _ H'=>Q .non H',rt:=Q } (start ["cards","sizes","room","begun","card"] vs) H:=by
 obtain ⟨c,a,ss,rfl,ha,p,hm,q⟩:=h
 have h12:=p.c12
 have h5:=p.l5
 have hsum:=p.sum
 refine ⟨_,rfl,_,rfl,c,a,ss,rfl,ha,p,fun H1 s1=>?_⟩
 refine ⟨_,_,rfl,rfl,_,rfl,jA (fun k=>?_) (fun _=>?_)⟩
 ·have k':(2000:Int) < ((KM.cA c ss:Nat):Int):=of_decide_eq_true k
  omega
 have a1:=s1 _ _ ha
 refine ⟨_,rfl,_,rfl,_,rfl,a,_,rfl,by rw [<-dk]; exact SqL.of a1,_,_,rfl,rfl,(by show 1<=Nb; decide),fun l hl=>?_⟩
 have s2:am H (upd H1 l (.lst [.int ((c:Int) - (ss.map fun (s:Nat)=>((s:Nat):Int)).sum)])):=s1.trans (bg hl _)
 have e2:(upd H1 l (.lst [.int ((c:Int) - (ss.map fun (s:Nat)=>((s:Nat):Int)).sum)])) l=some (.lst [.int ((c:Int) - (ss.map fun (s:Nat)=>((s:Nat):Int)).sum)]):=az
 rw [show (c:Int) - (ss.map fun (s:Nat)=>((s:Nat):Int)).sum=((c - ss.sum:Nat):Int) by rw [jj]; omega] at s2 e2
 dsimp only
 rw [show (c:Int) - (ss.map fun (s:Nat)=>((s:Nat):Int)).sum=((c - ss.sum:Nat):Int) by rw [jj]; omega]
 generalize upd H1 l (.lst [.int ((c - ss.sum:Nat):Int)])=H2 at s2 e2
 refine ⟨a,l,_,_,rfl,rfl,s2 _ _ ha,e2,small (by rw [aR]; show ss.length + 1<=1000; omega),fun rm hrm=>?_⟩
 rw [hJ]
 have hRs:(ss++[c - ss.sum]).sum=c:=by rw [Ox,Nz,Qw]; omega
 have hRl:(ss++[c - ss.sum]).length<=6:=by rw [Nq]; show ss.length + 1<=6; omega
 have hlev:=KM.kU hsum
 have s3:am H (upd H2 rm (.lst (au (ss++[c - ss.sum])))):=s2.trans (bg hrm _)
 have e3:(upd H2 rm (.lst (au (ss++[c - ss.sum])))) rm=some (.lst (au (ss++[c - ss.sum]))):=az
 generalize ss++[c - ss.sum]=R at *
 generalize upd H2 rm (.lst (au R))=H3 at s3 e3
 refine ⟨(by show 0<=Nb; decide),fun t ht=>⟨(by show 1<=Nb; decide),fun b hb=>?_⟩⟩
 have s4:am H3 (upd (upd H3 t (.tup [])) b (.lst [.ref t])):=(bg ht _).trans (bg hb _)
 have D4:ba (upd (upd H3 t (.tup [])) b (.lst [.ref t])) b (KM.bQ R 0):=⟨[t],az,.cons (by rw [aS (bn (az (o:=HO.tup [])) hb)]; exact az) .nil⟩
 have f4:H b=none:=by
  have:H3 b=none:=(bg ht _).free hb
  exact s3.free this
 generalize upd (upd H3 t (.tup [])) b (.lst [.ref t])=H4 at s4 D4
 refine ⟨_,rfl,_,rfl,by omega,by omega,rC (lo:=0) (n:=((c:Nat):Int).toNat) (fun i σ H5=>∃ (b:Addr) (st:Option V),σ=[some (.int c),some (.ref a),some (.ref rm),some (.ref b),st]/\am H3 H5/\H b=none/\ba H5 b (KM.bQ R i)) ⟨b,none,rfl,s4,f4,D4⟩ ?_ ?_⟩
 ·rintro i σ H5 hi ⟨b',st,rfl,s5,f5,D5⟩
  have hi':i + 1<=c:=by omega
  refine ⟨_,rfl,_,rfl,b',rm,_,R,rfl,D5,s5 _ _ e3,hRl,?_,fun u hu=>?_,fun p' H6 s6 f6 D6=>?_⟩
  ·have h1:=KM.Ib (room:=R) (i:=i + 1) (by omega)
   rw [hRs,hlev] at h1
   exact NH h1 hm
  ·have:=(KM.gJ R i u hu).len
   omega
  ·exact ⟨p',_,rfl,s5.trans s6,(s3.trans s5).free f6,D6⟩
 ·rintro σ H5 ⟨b',st,rfl,s5,f5,D5⟩
  refine ⟨_,rfl,?_⟩
  rw [show ((c:Nat):Int).toNat=c by omega] at D5
  exact q b' H5 (s3.trans s5) f5 D5
noncomputable def oI (xs:List Int) (w:Int) (i:Nat):List Int:=((Nw i).filter fun j=>decide (xs[j]?=some w)).map fun (j:Nat)=>((j:Nat):Int)
theorem rS (xs:List Int) (w:Int) (i:Nat):oI xs w (i + 1)=oI xs w i++(if xs[i]?=some w then [(i:Int)] else []):=by
 unfold oI
 rw [PP,RS,Nr]
 by_cases h:xs[i]?=some w
 ·rw [if_pos h,N8 (by simpa using h)]
  rfl
 ·rw [if_neg h,Oi (by simpa using h)]
  rfl
theorem Ig (xs:List Int) (w:Int) (i:Nat):(oI xs w i).length<=i:=by
 unfold oI
 rw [MY]
 have h:=Tv (fun j=>decide (xs[j]?=some w)) (Nw i)
 rw [OG] at h
 exact h
noncomputable def Kc (K:Fg):Sp:=fun vs H Q _=>∃ (d:Addr) (xs:List Int) (v:Int),vs=[.ref d,.int v]/\SqT K H d (xs.map V.int)/\xs.length<=1000/\
 ∀ (r:Addr) (H':Hp),am H H'->H' r=some (.tup ((oI xs v xs.length).map V.int))->Q (.ref r) H'
theorem rT {xs:List Int} {i:Nat} {x:V} (h:(xs.map V.int)[i]?=some x):∃ z,xs[i]?=some z/\x=.int z:=by
 rw [Ng] at h
 cases e:xs[i]? with
 | none=>rw [e] at h; cases h
 | some z=>rw [e] at h; exact ⟨z,rfl,(Nf h).symm⟩
noncomputable abbrev kY (K:Fg):Sp:=Kc K
noncomputable def ww (K:Fg):TS:=(aJ (tCB (Lq K) (ac (bu (iZ ek K (ac (aa 0) ag)) (fun _ _ _ _=>(cZ K 2 (aW (aj 0) (aW (aj 1) cY)))) (fun _ _ _ _=>(be (tOp rEq (aa 1) (aa 2)))) (fun _ _ _ _=>(aa 0)) [none,none,some 1]) ag)))
theorem CT (h:kY K vs H Q E):ww K { nx:=fun _ H'=>Q .non H',rt:=Q } (start ["deal","who"] vs) H:=by
 obtain ⟨d,xs,v,rfl,hd,hlen,q⟩:=h
 have hl:(xs.map V.int).length=xs.length:=MY _
 refine ⟨_,rfl,d,_,rfl,hd,fun p hp=>zl (S:=ek) (K:=K) (a:=d) (xs:=xs.map V.int) (fun i acc H2=>acc=(oI xs v i).map V.int/\am H H2/\H2 p=some (.lst acc)) ⟨rfl,bg hp _,az⟩ ?_ ?_ ?_ ?_ ?_⟩
 ·rintro i acc H2 hi ⟨rfl,s2,e2⟩
  exact ⟨e2,by rw [MY]; exact Ig _ _ _⟩
 ·rintro i acc H2 hi ⟨rfl,s2,e2⟩
  exact s2.tup hd
 ·rw [hl]
  exact small hlen
 ·rintro _ _ _ _ i x T acc H2 hx ⟨rfl,s2,e2⟩ hT
  obtain ⟨z,hz,rfl⟩:=rT hx
  have nTp:p≠T:=bn e2 hT
  have nT:H T=none:=s2.free hT
  refine ⟨T,_,rfl,SqT.of az,rfl,_,_,rfl,_,_,rfl,rfl,_,rfl,_,rfl,rfl,_,rfl,?_⟩
  have eu:=rS xs v i
  refine jA (fun c=>?_) (fun c=>?_)
  ·have c':z=v:=by
    have:=of_decide_eq_true c
    injection this
   subst c'
   rw [if_pos hz] at eu
   refine ⟨_,rfl,by rw [aS nTp]; exact e2,?_,(s2.upd nT _).upd hp _,az⟩
   rw [eu,Nr]
   rfl
  ·have c':¬ xs[i]?=some v:=by
    rw [hz]
    intro e
    have:=of_decide_eq_false c
    exact this (by rw [Nf e])
   rw [if_neg c',OY] at eu
   exact ⟨by rw [eu],s2.upd nT _,by rw [aS nTp]; exact e2⟩
 ·rintro acc H2 ⟨rfl,s2,e2⟩
  rw [hl] at e2
  exact ⟨p,_,rfl,.inl ⟨SqL.of e2,fun t ht=>q t _ (s2.trans (bg ht _)) az⟩⟩
theorem eY {ss:List Nat} {i:Nat} {x:V} (hx:(au ss)[i]?=some x):∃ z:Nat,ss[i]?=some z/\x=.int (z:Int):=by
 unfold au at hx
 rw [Ng] at hx
 cases e:ss[i]? with
 | none=>rw [e] at hx; cases hx
 | some z=>rw [e] at hx; exact ⟨z,rfl,(Nf hx).symm⟩
end
section
variable {K:Fg} {vs:List V} {H:Hp} {Q:VK} {E:XK}
noncomputable abbrev bz (K:Fg):Sp:=La K
noncomputable def kZ (K:Fg):TS:=(ap (bp (be (tOp (rI0 fun i j=>.bl (decide (i < j))) (aa 1) (tCB (eW K) (ac (aa 0) ag)))) (aJ (tOp (ca K) (aa 0) (aa 1))) aY)
 (ap (aH (tOp (rI0 fun i j=>.int (i + j)) (tOp (rI P8 fun i j=>.int (i * j)) (aa 1) (tC (.int 7919))) (tC (.int 5))) (aj 2))
 (ap (bp (be (tOp (rI0 fun i j=>.bl (decide (j < i))) (tCB (eW K) (ac (aa 0) ag)) (tC (.int 0)))) (aH (tOp (rI0 fun i j=>.int (i + j)) (tOp (rI P8 fun i j=>.int (i * j)) (tOp (ca K) (aa 0) (tOp (rI (fun _ j=>0 < j) fun i j=>.int (i % j)) (tOp (rI P8 fun i j=>.int (i * j)) (aa 1) (tC (.int 7))) (tCB (eW K) (ac (aa 0) ag)))) (tC (.int 48271))) (tOp (rI P8 fun i j=>.int (i * j)) (aa 1) (tC (.int 7919)))) (aj 2)) aY)
 (ap (aH (tOp (rI (fun _ j=>0 < j) fun i j=>.int (i % j)) (tOp (rI P8 fun i j=>.int (i * j)) (aa 2) (aa 2)) (tC (.int 2147483629))) (aj 2))
 (aJ (tOp (rI (fun _ j=>0 < j) fun i j=>.int (i % j)) (tOp (rI P8 fun i j=>.int (i * j)) (tOp (rI0 fun i j=>.int (i + j)) (aa 2) (aa 1)) (tOp (rI0 fun i j=>.int (i + j)) (aa 2) (tC (.int 69621)))) (tC (.int 2147483587))))))))
theorem BA (h:bz K vs H Q E):kZ K { nx:=fun _ H'=>Q .non H',rt:=Q } (start ["_law_script","_law_k","_law_number"] vs) H:=by
 obtain ⟨a,ns,k,rfl,⟨hS,h63,hbits⟩,h0,h1,q⟩:=h
 show kZ K _ [some _,some _,none] _
 unfold kZ
 have hl:(ns.map V.int).length=ns.length:=MY _
 walk_at "rd"
 rw [hl]
 refine dy (fun c=>?_) (fun c=>?_)
 ·walk_at "rd"
  refine bI hS (Bh h0 c) ?_
  have e:cz ns k=ns.getD k.toNat 0:=by unfold cz; rw [if_pos c]
  rw [e] at q
  exact q
 ·refine F9 ?_
  dsimp only
  refine bA ?_
  walk_at "rs"
  refine km fun NX hNX=>?_
  have last:∀ n0:Int,NW n0<=1048600->cz ns k=((n0 * n0 % 2147483629) + k) * ((n0 * n0 % 2147483629) + 69621) % 2147483587->NX [some (.ref a),some (.int k),some (.int n0)] H:=by
   intro n0 hb e
   refine hNX _ _ ?_
   have z1:0<=n0 * n0 % 2147483629:=PN _ (by decide)
   have z2:n0 * n0 % 2147483629 < 2147483629:=Pm _ (by decide)
   refine bA ?_
   refine nN ?_
   refine vd ?_
   refine vd ?_
   refine p0 rfl ?_
   refine p0 rfl ?_
   refine r_I (.of_le hb hb (by decide)) ?_
   walk_at "rd"
   rw [e] at q
   exact q
  walk_at "rs"
  rw [hl]
  refine dy (fun d=>?_) (fun d=>?_)
  ·have m1:0<=k * 7 % (ns.length:Int):=PN _ (by omega)
   have m2:k * 7 % (ns.length:Int) < (ns.length:Int):=Pm _ d
   walk_at "rs"
   rw [hl]
   refine bI hS (Bh m1 m2) ?_
   walk_at "rs"
   refine last _ ?_ ?_
   ·have b1:=F7 hbits (k * 7 % (ns.length:Int)).toNat
    have b2:NW (48271:Int)<=16:=by decide
    have b3:NW k<=20:=intBits_le_iff.mpr (by have:(2:Nat) ^ 20=1048576:=(by decide); omega)
    have b4:NW (7919:Int)<=13:=by decide
    exact NH (intBits_add_le (Tw b1 b2) (Tw b3 b4)) (by decide)
   ·unfold cz
    rw [if_neg c,if_pos d]
  ·walk_at "rs"
   refine last _ ?_ ?_
   ·have b3:NW k<=20:=intBits_le_iff.mpr (by have:(2:Nat) ^ 20=1048576:=(by decide); omega)
    have b4:NW (7919:Int)<=13:=by decide
    have b5:NW (5:Int)<=3:=by decide
    exact NH (intBits_add_le (Tw b3 b4) b5) (by decide)
   ·unfold cz
    rw [if_neg c,if_neg d]
noncomputable def gR (_:Fg):Sp:=fun vs H Q _=>∃ n:Nat,vs=[.int n]/\n<=12/\Q (.int (KM.bc n:Nat)) H
noncomputable def im (K:Fg):TS:=(ap (aH (tC (.int 1)) (aj 1))
 (ap (cU (fZ (ac (aa 0) ag)) (aj 2) (aH (tOp (rI P8 fun i j=>.int (i * j)) (aa 1) (tOp (rI0 fun i j=>.int (i + j)) (aa 2) (tC (.int 1)))) (aj 1)))
 (aJ (aa 1))))
theorem KM.fact_le {n m : Nat} (h : n ≤ m) : KM.bc n ≤ KM.bc m := by
  induction m with
  | zero => have : n = 0 := by omega
            subst this; exact M1 _
  | succ m ih =>
    by_cases e : n = m + 1
    · subst e; exact M1 _
    · have := ih (by omega)
      rw [KM.bc]
      exact NH this (Nat.le_mul_of_pos_right _ (UA m))
theorem Gq {n:Nat} (h:n<=12):KM.bc n<=479001600:=NH (KM.fact_le h) (by decide)
theorem wx (h:gR K vs H Q E):im K { nx:=fun _ H'=>Q .non H',rt:=Q } (start ["_law_many","_law_found","_law_k"] vs) H:=by
 obtain ⟨n,rfl,hn,q⟩:=h
 show im K _ [some _,none,none] _
 unfold im
 walk_at "rd"
 refine ko n (by omega) (by omega) (by omega) (fun i σ H2=>∃ st,σ=[some (.int n),some (.int (KM.bc i:Nat)),st]/\H2=H) ⟨none,rfl,rfl⟩ ?_ ?_
 ·rintro i σ H2 hi ⟨st,rfl,rfl⟩
  have:=Gq (n:=i) (by omega)
  walk_at "rd"
  refine ⟨some (.int i),?_,rfl⟩
  rw [KM.bc,S8,show ((i:Int) + 1)=((i + 1:Nat):Int) by omega]
 ·rintro σ H2 ⟨st,rfl,rfl⟩
  walk_at "rd"
  exact q
noncomputable def i4 (_:Fg):Sp:=fun vs H Q _=>∃ (c:Nat) (a:Addr) (ss:List Nat),vs=[.int c,.ref a]/\H a=some (.lst (au ss))/\ss.sum<=c/\c<=12/\ss.length<=100/\∀ H',am H H'->Q (.int (KM.cA c ss:Nat)) H'
noncomputable def jE (K:Fg):TS:=(ap (aH (av (gR K) [] E0 (ac (aa 0) ag)) (aj 2))
 (ap (cU (cc K (tOp vg (aa 1) (dZ (ac (tOp (rI0 fun i j=>.int (i - j)) (aa 0) (tCB (vf K) (ac (aa 1) ag))) ag)))) (aj 3) (aH (tOp (rI ga fun i j=>.int (i / j)) (aa 2) (av (gR K) [] E0 (ac (aa 3) ag))) (aj 2)))
 (aJ (aa 2))))
theorem zF (h:i4 K vs H Q E):jE K { nx:=fun _ H'=>Q .non H',rt:=Q } (start ["_law_cards","_law_sizes","_law_found","_law_many"] vs) H:=by
 obtain ⟨c,a,ss,rfl,ha,hs,hc,hl,q⟩:=h
 show jE K _ [some _,some _,none,none] _
 unfold jE
 walk_at "rd"
 refine ⟨c,rfl,hc,?_⟩
 walk_at "rd"
 refine El (ns:=ss.map fun (s:Nat)=>((s:Nat):Int)) (SqL.of (by rw [<-dk]; exact ha)) ?_
 walk_at "rd"
 rw [jj,show (c:Int) - ((ss.sum:Nat):Int)=((c - ss.sum:Nat):Int) by omega]
 refine ⟨by simp [M8],fun b H1 hb s1 e1=>wf (s1 _ _ ha) e1 (by rw [aR,M8]; simp; omega) fun p H2 hp s2 e2=>?_⟩
 rw [hJ] at e2
 generalize hR:ss++[c - ss.sum]=R at e2
 have hRs:R.sum=c:=by rw [<-hR,Ox,Nz,Qw]; omega
 have hpf:KM.cA c ss * KM.dc R=KM.bc c:=by rw [<-hR]; exact KM.uJ c ss hs
 have hdv:R.foldl (fun f s=>f / KM.bc s) (KM.bc c)=KM.cA c ss:=by rw [<-hpf]; exact KM.Ly R _
 have s12:=s1.trans s2
 refine oV (au R) (SqL.of e2) (fun i σ H3=>∃ st,σ=[some (.int c),some (.ref a),some (.int (((R.take i).foldl (fun f s=>f / KM.bc s) (KM.bc c):Nat):Int)),st]/\H3=H2) ⟨none,rfl,rfl⟩ (fun i σ H3 _ ⟨_,_,e⟩=>by subst e; exact SqL.of e2) ?_ ?_
 ·rintro i x σ H3 hx ⟨st,rfl,rfl⟩
  obtain ⟨z,hz,rfl⟩:=eY hx
  have hz12:z<=12:=by
   have:=jD (M9 hz)
   omega
  walk_at "rd"
  refine ⟨z,rfl,hz12,?_⟩
  have h1:=KM.g9 z
  have h2:=Gq hz12
  walk_at "rd"
  refine ⟨some (.int z),?_,rfl⟩
  rw [OF,hz,UM,<-Vr]
  rfl
 ·rintro σ H3 ⟨st,rfl,rfl⟩
  walk_at "rd"
  rw [aR,NI,hdv]
  exact q _ s12
noncomputable def mW (K:Fg):Sp:=fun vs H Q _=>∃ (a:Addr) (ns:List Int) (at_ most:Int),vs=[.ref a,.int at_,.int most]/\g0 K H a ns/\0<=at_/\at_<=1000/\1<=most/\
 ∀ (c:Nat) (ss:List Nat) (p q:Addr) (H':Hp),am H H'->H p=none->H q=none->H' p=some (.tup [.int c,.ref q])->H' q=some (.lst (au ss))->rR c ss->((KM.cA c ss:Nat):Int)<=most->Q (.ref p) H'
theorem wz:∀ ss:List Nat,ss.sum<=0->KM.cA 0 ss=1
 | [],_=>rfl
 | a :: r,h=>by
  rw [Nz] at h
  have ha:a=0:=by omega
  subst ha
  rw [KM.cA,KM.kT,wz r (by omega)]
theorem vo (ss:List Nat) (j m:Nat):(au ss).set j (.int (m:Int))=au (ss.set j m):=by
 unfold au
 rw [UC]
theorem Ih {ss:List Nat} {M:Int} (h:M∈ss.map fun (s:Nat)=>((s:Nat):Int)):∃ m:Nat,m∈ss/\M=(m:Int):=by
 obtain ⟨m,hm,e⟩:=Oo.mp h
 exact ⟨m,hm,e.symm⟩
theorem Ii {ss:List Nat} {j m:Nat} (h:ss[j]?=some m) (hm:0 < m):(ss.set j (m - 1)).sum + 1=ss.sum:=by
 obtain ⟨h1,h2⟩:=M4.mp h
 have e:ss.getD j 0=m:=by rw [Ni,h]; rfl
 have:=KM.yo ss j h1 (by rw [e]; exact hm)
 rw [e] at this
 exact this
noncomputable def Dq (K:Fg):TS:=(ap (mO (be (tOp (rI0 fun i j=>.bl (decide (j < i))) (av (i4 K) [] E0 (ac (aa 3) (ac (aa 4) ag))) (aa 2))) (ap (bp (be (tOp (rI0 fun i j=>.bl (decide (j < i))) (tCB (ym K) (ac (aa 4) ag)) (tOp (rI0 fun i j=>.int (i - j)) (aa 3) (tCB (vf K) (ac (aa 4) ag))))) (aH (tOp (rI0 fun i j=>.int (i - j)) (tCB (ym K) (ac (aa 4) ag)) (tC (.int 1))) (kh (aa 4) (tBM K "list" Bj (aa 4) (ac (tCB (ym K) (ac (aa 4) ag)) ag)) kP)) aY)
 (aH (tOp (rI0 fun i j=>.int (i - j)) (aa 3) (tC (.int 1))) (aj 3))))
 (aJ (dL (ac (aa 3) (ac (aa 4) ag)))))
theorem Gr {K:Fg} {H0 H:Hp} {Q:VK} {NX:St->Hp->Prop} {x y:V} {most:Int} {c:Nat} {q:Addr} {ss:List Nat} {dw:St} (s0:am H0 H) (hq0:H0 q=none) (hq:H q=some (.lst (au ss))) (h1:1<=ss.length) (h5:ss.length<=5) (hs:ss.sum<=c) (hc:c<=12) (hm:1<=most)
  (g:∀ (c:Nat) (ss:List Nat) (p q:Addr) (H':Hp),am H0 H'->H0 p=none->H0 q=none->H' p=some (.tup [.int c,.ref q])->H' q=some (.lst (au ss))->rR c ss->((KM.cA c ss:Nat):Int)<=most->Q (.ref p) H'):
  Dq K { nx:=NX,rt:=Q } (some x :: some y :: some (.int most) :: some (.int c) :: some (.ref q) :: dw) H:=by
 unfold Dq
 refine bA ?_
 refine AD (fun m σ H2=>∃ (c:Nat) (ss:List Nat),σ=(some x :: some y :: some (.int most) :: some (.int c) :: some (.ref q) :: dw)/\am H0 H2/\H2 q=some (.lst (au ss))/\1<=ss.length/\ss.length<=5/\ss.sum<=c/\c<=12/\m=c) c ⟨c,ss,rfl,s0,hq,h1,h5,hs,hc,rfl⟩ ?_
 clear s0 hq h1 h5 hs hc
 rintro m σ H2 ⟨c,ss,rfl,s0,hq,h1,h5,hs,hc,hmc⟩
 have hmc':=hmc.symm
 subst hmc'
 walk_at "rd"
 refine ⟨c,q,ss,rfl,hq,hs,hc,by omega,fun H3 s3=>?_⟩
 have s3':=s0.trans s3
 have hq3:=s3 _ _ hq
 have hS:SqL K H3 q ((ss.map fun (s:Nat)=>((s:Nat):Int)).map V.int):=by rw [<-dk]; exact SqL.of hq3
 walk_at "rd"
 refine dy (fun hgt=>?_) (fun hle=>?_)
 ·have hc1:1<=c:=by
   rcases Qi c with z | z
   ·subst z
    rw [wz ss hs] at hgt
    omega
   ·exact z
  refine AC ?_
  walk_at "rd"
  have hne:(ss.map fun (s:Nat)=>((s:Nat):Int))≠[]:=by
   intro z
   have:=congrArg List.length z
   rw [MY] at this
   simp at this
   subst this
   simp at h1
  refine ⟨q,_,rfl,hS,hne,fun M hM hmax=>?_⟩
  obtain ⟨mx,hmx,rfl⟩:=Ih hM
  have hle:=jD hmx
  walk_at "rd"
  refine El hS ?_
  walk_at "rd"
  rw [jj]
  refine dy (fun hbig=>?_) (fun hsm=>?_)
  ·walk_at "rd"
   refine ⟨q,_,rfl,hS,hne,fun M2 hM2 hmax2=>?_⟩
   obtain rfl:M2=((mx:Nat):Int):=VU (hmax M2 hM2) (hmax2 _ hM)
   walk_at "rd"
   refine ⟨p6 hq3,?_⟩
   walk_at "rd"
   refine ⟨q,_,rfl,hS,hne,fun M3 hM3 hmax3=>?_⟩
   obtain rfl:M3=((mx:Nat):Int):=VU (hmax M3 hM3) (hmax3 _ hM)
   obtain ⟨j,hj,hfirst⟩:=Bl hM
   have hj':ss[j]?=some mx:=by
    rw [Ng] at hj
    cases e:ss[j]? with
    | none=>rw [e] at hj; cases hj
    | some z=>rw [e] at hj; have hzz:((z:Nat):Int)=(mx:Int):=Nf hj; rw [show z=mx by omega]
   have hjl:j < ss.length:=(M4.mp hj').1
   walk_at "rd"
   refine ⟨q,_,_,j,rfl,rfl,by rw [<-dk]; exact hq3,hj,hfirst,by omega,?_⟩
   walk_at "rd"
   refine mQ hq3 (j:=j) (by unfold ixN; rw [aR,if_pos (by omega),if_pos (by omega)]; simp) ?_
   walk_at "rd"
   have hss:=Ii hj' (by omega)
   refine ⟨c - 1,by omega,c - 1,ss.set j (mx - 1),?_,s3'.upd hq0 _,?_,by rw [Pc]; exact h1,by rw [Pc]; exact h5,by omega,by omega,rfl⟩
   ·rw [show (c:Int) - 1=((c - 1:Nat):Int) by omega]
   ·rw [az,show ((mx:Nat):Int) - 1=((mx - 1:Nat):Int) by omega,vo]
  ·walk_at "rd"
   refine ⟨c - 1,by omega,c - 1,ss,?_,s3',hq3,h1,h5,?_,by omega,rfl⟩
   ·rw [show (c:Int) - 1=((c - 1:Nat):Int) by omega]
   ·by_cases e:ss.sum=c
    ·have z:mx=0:=by omega
     have all0:∀ s∈ss,s=0:=fun s hs'=>by
      have:=hmax _ (Uk (f:=fun (s:Nat)=>((s:Nat):Int)) hs')
      have:(s:Int)<=(mx:Int):=this
      omega
     have:ss.sum=0:=by
      clear hmax hM hq hq3 hS hne hgt hsm hmx hle h1 h5 hs e
      induction ss with
      | nil=>rfl
      | cons b r ih=>rw [Nz,all0 b M7,ih fun s hs=>all0 s (Nh _ hs)]
     omega
    ·omega
 ·walk_at "rd"
  exact ⟨by simp [M8],fun p H4 hp s4 e4=>g c ss p q H4 (s3'.trans s4) (s3'.free hp) hq0 e4 (s4 _ _ hq3) ⟨hc,h1,h5,hs⟩ (by omega)⟩
end
section
variable {K:Fg} {vs:List V} {H:Hp} {Q:VK} {E:XK}
noncomputable def kr (_:Fg):Sp:=fun vs H Q _=>∃ (a:Addr) (ns:List Int),vs=[.ref a]/\H a=some (.lst (ns.map V.int))/\ns.length<=100000/\∀ H',am H H'->Q (.bl true) H'
noncomputable def i5 (K:Fg):TS:=(ap (bp (dq (tB (tCB (iN K) (ac (aa 0) (ac (tC (.ty "list")) ag))))) (aJ (tC (.bl false))) aY)
 (aJ (tOp (jz (SqL K) false) (bu (cc K (aa 0)) (fun _ _ _ _=>(aj 0)) (fun _ _ _ _=>(tOr (dq (tB (tCB (iN K) (ac (aa 0) (ac (tC (.ty "int")) ag))))) (tB (tCB (iN K) (ac (aa 0) (ac (tC (.ty "bool")) ag)))))) (fun _ _ _ _=>(aa 0)) [none]) (dZ ag))))
theorem yr (h:kr K vs H Q E):i5 K { nx:=fun _ H'=>Q .non H',rt:=Q } (start ["_law_found"] vs) H:=by
 obtain ⟨a,ns,rfl,e,hl,q⟩:=h
 show i5 K _ [some _] _
 unfold i5
 walk_at "rd"
 refine gQ (.lst e) (kS K) ?_
 walk_at "rd"
 refine cF (ns.map V.int) (SqL.of e) (by rw [MY]; omega) (fun i acc _=>acc=[]) (fun _ _=>rfl) ?_ ?_
 ·intro p hp C s' H' fp i x acc H2 hx ⟨s2,e2,l2,r2⟩
  obtain ⟨z,hz,rfl⟩:=rT hx
  subst r2
  walk_at "rd"
  refine gQ (.int _) (uE K) ?_
  walk_at "rd"
  refine gQ (.int _) (rK K) ?_
  walk_at "rd"
  exact bf.skip s2 e2 l2 rfl
 ·intro p acc H2 hp s2 e2 r2
  subst r2
  walk_at "rd"
  refine ⟨by simp [M8],fun p3 H3 hp3 s3 e3=>?_⟩
  refine Jy (ns:=[]) (ms:=[]) (SqL.of (s3 _ _ e2)) (SqL.of e3) ?_
  exact q _ (s2.trans s3)
end
section
variable {K:Fg} {vs:List V} {H:Hp} {Q:VK} {E:XK}
noncomputable def gu (K:Fg):Sp:=fun vs H Q _=>∃ (a:Addr) (xs:List V) (ks:List MK) (s:Bool),vs=[.ref a]/\H a=some (.lst xs)/\Paired (ci H) xs ks/\(∀ k∈ks,gh k=s)/\ks.length<=100000/\
 ∀ p H',H p=none->am H H'->H' p=some (.lst (au (bm ks)))->Q (.ref p) H'
noncomputable def jF (K:Fg):TS:=(ap (aH oX (aj 1))
 (ap (aH (dZ ag) (aj 2))
 (ap (cU (iZ aQ K (ac (aa 0) ag)) (cZ K 2 (aW (aj 3) (aW (aj 4) cY))) (ap (bp (be (tOp (vm true) (aa 4) (aa 1))) (aH (aa 3) (kh (aa 1) (aa 4) wm)) aY)
 (dG (tBM K "list" ii (aa 2) (ac (tOp AF (aa 1) (aa 4)) ag)))))
 (aJ (aa 2)))))
theorem zG (h:gu K vs H Q E):jF K { nx:=fun _ H'=>Q .non H',rt:=Q } (start ["_law_signs","_law_first","_law_found","_law_place","_law_sign"] vs) H:=by
 obtain ⟨a,xs,ks,s,rfl,e,hk,hs,hl,q⟩:=h
 show jF K _ [some _,none,none,none,none] _
 unfold jF
 have hlen:xs.length=ks.length:=NG hk
 walk_at "rd"
 refine tL s fun d H1 hd s1 dx1=>?_
 walk_at "rd"
 refine ⟨by simp [M8],fun f H2 hf s2 e2=>?_⟩
 walk_at "rd"
 refine mJ (S:=aQ) xs (SqL.of (s2 _ _ (s1 _ _ e))) (fun i σ H3=>∃ (u v:Option V),σ=[some (.ref a),some (.ref d),some (.ref f),u,v]/\am H H3/\Dx H3 d s (gq ks i) i/\H3 f=some (.lst (au ((bm ks).take i)))) ?_ ?_ ?_ ?_
 ·exact ⟨none,none,rfl,s1.trans s2,(dx1.congr uH).same s2,e2⟩
 ·rintro i σ H3 hi ⟨u,v,rfl,s3,dx3,e3⟩
  exact SqL.of (s3 _ _ e)
 ·rintro i x T σ H3 H4 hx ⟨u,v,rfl,s3,dx3,e3⟩ hT s4 eT
  obtain ⟨k,hki,hkv⟩:=bx hk hx
  have hks:=hs k (M9 hki)
  have hi:i < ks.length:=(M4.mp hki).1
  refine dM (SqT.of eT) ?_
  have hkv4:=hkv.keep (s3.trans s4).keep
  have dx4:=dx3.same s4
  have e4:=s4 _ _ e3
  have s34:=s3.trans s4
  have hfd:=dx4.ne_lst e4
  have hdH:H d=none:=hd
  have hfH:H f=none:=s1.free hf
  refine km fun NX hNX=>?_
  have key:∀ H5,am H H5->Dx H5 d s (gq ks (i + 1)) (i + 1)->H5 f=some (.lst (au ((bm ks).take i)))->ci H5 x k->NX [some (.ref a),some (.ref d),some (.ref f),some (.int (i:Nat)),some x] H5:=by
   intro H5 s5 dx5 e5 hk5
   refine hNX _ _ ?_
   walk_at "rd"
   refine ⟨p6 e5,?_⟩
   walk_at "rd"
   refine Gg dx5 hk5 hks (nP (CN hki)) ?_
   walk_at "rd"
   refine kn e5 (by rw [aR,OM,cR,M8]; omega) fun H6 o6 e6=>?_
   refine ⟨_,_,rfl,s5.off hfH o6,dx5.off e5 o6,?_⟩
   rw [e6,rP hki,hJ]
  walk_at "rd"
  refine Bs dx4 hkv4 hks ?_
  walk_at "rd"
  by_cases hm:k∈ks.take i
  ·rw [nP hm]
   refine lK ?_
   exact key H4 s34 ((dx4.congr (wn hki hm)).le (Pf i)) e4 hkv4
  ·rw [uG hm]
   refine lL ?_
   walk_at "rd"
   refine Bt dx4 hkv4 hks (by rw [M8]; omega) fun H5 o5 dx5=>?_
   have kp:=dx4.offK o5
   exact key H5 (s34.off hdH o5) (dx5.congr (wo hki hm)) (by rw [o5 _ hfd]; exact e4) (hkv4.keep kp)
 ·rintro σ H3 ⟨u,v,rfl,s3,dx3,e3⟩
  walk_at "rd"
  refine q _ _ (s1.free hf) s3 ?_
  rw [e3,PD (by rw [cR,hlen]; exact M1 _)]
end
section
variable {K:Fg} {vs:List V} {H:Hp} {Q:VK} {E:XK}
theorem jl {ss:List Nat} {j z:Nat} (h:ss[j]?=some z):atI (au ss) (j:Int)=some (.int (z:Int)):=cP (by unfold au; rw [Ng,h]; rfl)
end
noncomputable def wA:V->Bool
 | .non=>true
 | .bl _=>true
 | .int _=>true
 | _=>false
inductive ip (K:Fg) (H:Hp):Nat->V->V->Prop where
 | flat {n:Nat} {x:V} (h:wA x=true):ip K H n x x
 | lst {n:Nat} {a b:Addr} {xs ys:List V} (e1:SqL K H a xs) (e2:SqL K H b ys) (hl:xs.length=ys.length) (h:∀ (i:Nat) (x y:V),xs[i]?=some x->ys[i]?=some y->ip K H n x y):ip K H (n + 1) (.ref a) (.ref b)
 | tup {n:Nat} {a b:Addr} {xs ys:List V} (e1:SqT K H a xs) (e2:SqT K H b ys) (hl:xs.length=ys.length) (h:∀ (i:Nat) (x y:V),xs[i]?=some x->ys[i]?=some y->ip K H n x y):ip K H (n + 1) (.ref a) (.ref b)
noncomputable def mX (K:Fg) (neg:Bool):R2:=fun x y H Q=>∃ n,n<=30/\ip K H n x y/\Q (.bl (!neg)) H
section
variable {K:Fg} {H:Hp} {Q:VK}
theorem Kd {x y:V} (n:Nat) (hn:n<=30) (h:ip K H n x y) (q:Q (.bl true) H):mX K false x y H Q:=⟨n,hn,h,q⟩
theorem Dr {x y:V} (n:Nat) (hn:n<=30) (h:ip K H n x y) (q:Q (.bl false) H):mX K true x y H Q:=⟨n,hn,h,q⟩
theorem wB {a b:Addr} {xs:List V} (e1:SqL K H a xs) (e2:SqL K H b xs) (hf:∀ x∈xs,wA x=true):ip K H 1 (.ref a) (.ref b):=
 .lst e1 e2 rfl fun i x y hx hy=>by
  rw [hx] at hy
  cases hy
  exact .flat (hf x (M9 hx))
theorem Ev {a b:Addr} {xs:List V} (e1:SqT K H a xs) (e2:SqT K H b xs) (hf:∀ x∈xs,wA x=true):ip K H 1 (.ref a) (.ref b):=
 .tup e1 e2 rfl fun i x y hx hy=>by
  rw [hx] at hy
  cases hy
  exact .flat (hf x (M9 hx))
theorem zw (ns:List Int):∀ x∈ns.map V.int,wA x=true:=fun x hx=>by obtain ⟨n,_,rfl⟩:=Oo.mp hx; rfl
end
section
variable {g:CF TG} {tt:CF TT} {te:CF TE} {σ₀:St} {Q:VK} {H:Hp} {K:Fg}
theorem Ds {S:Src} {a:Addr} (xs:List V) (hx:S.Sq K H a xs) (kx:∀ H',am H H'->S.Sq K H' a xs) (hz:xs.length<=1000000) (R:Nat->List V->Hp->Prop) (h0:∀ H',am H H'->R 0 [] H')
  (hs:∀ p,H p=none->∀ C s' H' fp,∀ i x T acc H2 H3,xs[i]?=some x->bf H p R i acc H2->H2 T=none->am H2 H3->H3 T=some (.tup [.int i,x])->H3 p=some (.lst acc)->g C s' H' fp (.ref T) σ₀ H3 fun σ2 H4=>tt C s' H' fp σ2 H4 fun b H5=>if b=true then te C s' H' fp σ2 H5 fun y H6=>H6 p=some (.lst acc)/\bf H p R (i + 1) (acc++[y]) (upd H6 p (.lst (acc++[y]))) else bf H p R (i + 1) acc H5)
  (hd:∀ p acc H2,H p=none->am H H2->H2 p=some (.lst acc)->R xs.length acc H2->Q (.ref p) H2):
  ∃ a' xs',[V.ref a]=[.ref a']/\S.Sq K H a' xs'/\∀ p,H p=none->∃ W:Nat->Nat->List V->Hp->Prop,(∃ m,W 0 m [] (upd H p (.lst [])))/\∀ C s' H' fp,bO (Ite S K a') (g C s' H' fp) (tt C s' H' fp) (te C s' H' fp) σ₀ p Q W:=
 ⟨a,xs,rfl,hx,fun p hp=>zl (bf H p R) ⟨bg hp _,az,M1 _,h0 _ (bg hp _)⟩ (fun i acc H2 _ c=>⟨c.2.1,c.2.2.1⟩) (fun i acc H2 _ c=>kx _ c.1) (by rw [M8]; omega)
  (fun C s' H' fp i x T acc H2 hi c hT=>hs p hp C s' H' fp i x T acc H2 _ hi c hT (bg hT _) az (by rw [aS (bn c.2.1 hT)]; exact c.2.1)) fun acc H2 c=>hd p acc H2 hp c.1 c.2.1 c.2.2.2⟩
end
section
variable {K:Fg} {vs:List V} {H:Hp} {Q:VK} {E:XK}
noncomputable def fi (K:Fg):Sp:=fun vs H Q _=>∃ (a:Addr) (xs:List V) (ks:List MK) (s:Bool),vs=[.ref a]/\H a=some (.lst xs)/\Paired (ci H) xs ks/\(∀ k∈ks,gh k=s)/\ks.length<=100000/\
 ∀ p H',H p=none->am H H'->H' p=some (.lst (au (bm ks)))->Q (.ref p) H'
noncomputable def fJ (K:Fg):TS:=(ap (aH oX (aj 1))
 (ap (cU (iZ aQ K (ac (aa 0) ag)) (cZ K 2 (aW (aj 2) (aW (aj 3) cY))) (dG (tXM Br (aa 1) (ac (aa 3) (ac (aa 2) ag)))))
 (aJ (bu (cc K (aa 0)) (fun _ _ _ _=>(aj 0)) (fun _ _ _ _=>aV) (fun _ _ _ _=>(tOp AF (aa 1) (aa 0))) [none,some 1]))))
theorem rV (h:fi K vs H Q E):fJ K { nx:=fun _ H'=>Q .non H',rt:=Q } (start ["marks","firsts","thing","mark"] vs) H:=by
 obtain ⟨a,xs,ks,s,rfl,e,hk,hs,hl,q⟩:=h
 show fJ K _ [some _,none,none,none] _
 unfold fJ
 have hlen:xs.length=ks.length:=NG hk
 walk_at "rd"
 refine tL s fun d H1 hd s1 dx1=>?_
 walk_at "rd"
 refine mJ (S:=aQ) xs (SqL.of (s1 _ _ e)) (fun i σ H3=>∃ (u v:Option V),σ=[some (.ref a),some (.ref d),u,v]/\am H H3/\Dx H3 d s (gq ks i) i) ?_ ?_ ?_ ?_
 ·exact ⟨none,none,rfl,s1,dx1.congr uH⟩
 ·rintro i σ H3 hi ⟨u,v,rfl,s3,dx3⟩
  exact SqL.of (s3 _ _ e)
 ·rintro i x T σ H3 H4 hx ⟨u,v,rfl,s3,dx3⟩ hT s4 eT
  obtain ⟨k,hki,hkv⟩:=bx hk hx
  have hks:=hs k (M9 hki)
  have hi:i < ks.length:=(M4.mp hki).1
  refine dM (SqT.of eT) ?_
  have s34:=s3.trans s4
  have hkv4:=hkv.keep s34.keep
  have dx4:=dx3.same s4
  walk_at "rd"
  refine MS ?_
  walk_at "rd"
  refine ⟨⟨d,s,_,_,rfl,dx4⟩,?_⟩
  walk_at "rd"
  refine J9 dx4 hkv4 hks (by rw [M8]; omega) (fun w hw=>?_) (fun hn H5 o5 dx5=>?_)
  ·have hm:k∈ks.take i:=by
    by_cases q:k∈ks.take i
    ·exact q
    ·rw [uG q] at hw; cases hw
   exact ⟨_,_,rfl,s34,(dx4.congr (wn hki hm)).le (Pf i)⟩
  ·have hm:k∉ks.take i:=fun q=>by rw [nP q] at hn; cases hn
   exact ⟨_,_,rfl,s34.off hd o5,dx5.congr (wo hki hm)⟩
 ·rintro σ H3 ⟨u,v,rfl,s3,dx3⟩
  walk_at "rd"
  refine cF xs (SqL.of (s3 _ _ e)) (by omega) (fun i acc _=>acc=au ((bm ks).take i)) (fun H' _=>rfl) ?_ ?_
  ·rintro p hp C s' H' fp i x acc H4 hx ⟨s4,e4,l4,rfl⟩
   obtain ⟨k,hki,hkv⟩:=bx hk hx
   have hks:=hs k (M9 hki)
   have hi:i < ks.length:=(M4.mp hki).1
   walk_at "rd"
   refine Gg (dx3.same s4) (hkv.keep (s3.trans s4).keep) hks (nP (by rw [hlen,NI]; exact M9 hki)) ?_
   refine bf.put hp (fun _ _ _ _ r _=>r) s4 e4 l4 ?_
   rw [rP hki,hJ]
  ·rintro p acc H4 hp s4 e4 rfl
   refine q _ _ (s3.free hp) (s3.trans s4) ?_
   rw [e4,PD (by rw [cR,hlen]; exact M1 _)]
noncomputable def eQ (w:List Nat) (h:Int):List Int:=oI (w.map fun (s:Nat)=>((s:Nat):Int)) h w.length
noncomputable def vq (ns:List Int):MK:=.inr (ns.map fun n=>(Pw (some n):IK))
theorem Ij (a b:List Int) (e:vq a=vq b):a=b:=by
 have h:a.map (fun n=>(Pw (some n):IK))=b.map (fun n=>(Pw (some n):IK)):=QC e
 clear e
 induction a generalizing b with
 | nil=>cases b with
  | nil=>rfl
  | cons _ _=>simp at h
 | cons x r ih=>cases b with
  | nil=>simp at h
  | cons y t=>
   rw [Np,Np] at h
   injection h with h1 h2
   injection h1 with h1
   injection h1 with h1
   rw [h1,ih t h2]
noncomputable def lA (ws:List (List Nat)) (h:Int):List Nat:=bm (ws.map fun w=>eQ w h)
theorem uM (ws:List (List Nat)) (h:Int):bm (ws.map fun w=>vq (eQ w h))=lA ws h:=by
 unfold lA
 rw [<-uF (f:=vq) Ij,PJ]
 rfl
theorem ba.to' {H H':Hp} {p:Addr} {ws:List (List Nat)} (d:ba H p ws) (k:iO H H') (e:∀ rs:List Addr,H p=some (.lst (rs.map V.ref))->H' p=some (.lst (rs.map V.ref))):ba H' p ws:=by
 obtain ⟨rs,h1,h2⟩:=d
 exact ⟨rs,e rs h1,kW h2 fun a xs e=>k _ _ e⟩
theorem ba.same' {H H':Hp} {p:Addr} {ws:List (List Nat)} (d:ba H p ws) (s:am H H'):ba H' p ws:=d.to' s.keep fun rs e=>s _ _ e
theorem mY {rs:List Addr} {i:Nat} {x:V} (hx:(rs.map V.ref)[i]?=some x):∃ a,rs[i]?=some a/\x=.ref a:=by
 rw [Ng] at hx
 cases e:rs[i]? with
 | none=>rw [e] at hx; cases hx
 | some z=>rw [e] at hx; exact ⟨z,rfl,(Nf hx).symm⟩
noncomputable def lO (K:Fg):Sp:=fun vs H Q _=>∃ (a:Addr) (ws:List (List Nat)) (h:Int),vs=[.ref a,.int h]/\ba H a ws/\(∀ w∈ws,w.length<=1000)/\ws.length<=100000/\
 ∀ p H',H p=none->am H H'->H' p=some (.lst (au (lA ws h)))->Q (.ref p) H'
theorem Gs {H:Hp} {xs:List V} {ks:List MK} {x:V} {k:MK} (h:Paired (ci H) xs ks) (q:ci H x k):Paired (ci H) (xs++[x]) (ks++[k]):=by
 induction h with
 | nil=>exact .cons q .nil
 | cons r _ ih=>exact .cons r ih
noncomputable def jG (K:Fg):TS:=(aJ (av (fi K) [] E0 (ac (bu (cc K (aa 0)) (fun _ _ _ _=>(aj 0)) (fun _ _ _ _=>aV) (fun _ _ _ _=>(av (kY K) [] E0 (ac (aa 0) (ac (aa 1) ag)))) [none,some 1]) ag)))
theorem zH (h:lO K vs H Q E):jG K { nx:=fun _ H'=>Q .non H',rt:=Q } (start ["deals","hand"] vs) H:=by
 obtain ⟨a,ws,h,rfl,hD,hw,hl,q⟩:=h
 show jG K _ [some _,some _] _
 unfold jG
 obtain ⟨rs,e,hr⟩:=id hD
 have hlr:rs.length=ws.length:=NG hr
 walk_at "rd"
 refine cF (rs.map V.ref) (SqL.of e) (by rw [MY]; omega) (fun i acc H'=>Paired (ci H') acc ((ws.take i).map fun w=>vq (eQ w h))) (fun H' _=>.nil) ?_ ?_
 ·rintro p hp C s' H' fp i x acc H2 hx ⟨s2,e2,l2,r2⟩
  obtain ⟨b,hb,rfl⟩:=mY hx
  obtain ⟨w,hwi,ew⟩:=bx hr hb
  walk_at "rd"
  refine ⟨b,w.map fun (s:Nat)=>((s:Nat):Int),h,rfl,by rw [<-dk]; exact SqT.of (s2 _ _ ew),by rw [MY]; exact hw w (M9 hwi),fun r H3 s3 e3=>?_⟩
  rw [MY] at e3
  refine bf.put hp (fun _ _ _ _ r k=>zo r k) (s2.trans s3) (s3 _ _ e2) l2 ?_
  rw [b9 hwi,Nr]
  exact Gs (zo r2 s3.keep) (Dn (ns:=eQ w h) e3)
 ·rintro p acc H2 hp s2 e2 r2
  rw [MY,hlr,NI] at r2
  walk_at "rd"
  refine ⟨p,acc,_,true,rfl,e2,r2,?_,by rw [MY]; omega,fun p3 H3 hp3 s3 e3=>?_⟩
  ·intro k hk
   obtain ⟨w,_,rfl⟩:=Oo.mp hk
   rfl
  ·rw [uM] at e3
   exact q _ _ (s2.free hp3) (s2.trans s3) e3
end
noncomputable def JE:List V->Hp->VK->Prop:=fun xs H Q=>∃ n:Nat,xs=[.int (n:Int)]/\n<=1000000/\New H (.rng 0 (n:Int)) fun p H2=>Q (.ref p) H2
noncomputable def AG:List V->Hp->VK->Prop:=fun xs H Q=>∃ (p:Addr) (n:Nat),xs=[.ref p]/\H p=some (.rng 0 (n:Int))/\n<=1000000/\New H (.lst ((Nw n).map fun (i:Nat)=>V.int ((i:Nat):Int))) fun p H2=>Q (.ref p) H2
noncomputable def JF (ta:TA):TE:=tCB AG (ac (tCB JE ta) ag)
theorem Mw {H:Hp} {Q:VK} {n:Nat} (hn:n<=1000000) (h:New H (.lst ((Nw n).map fun (i:Nat)=>V.int ((i:Nat):Int))) fun p H2=>Q (.ref p) H2):New H (.rng 0 (n:Int)) fun p H2=>AG [.ref p] H2 Q:=
 fun p H' _ s e=>⟨p,n,rfl,e,hn,fun l H2 hl s2 e2=>h l H2 (s.free hl) (s.trans s2) e2⟩
noncomputable def mK (H:Hp) (ts:List Addr) (ps:List (V×V)):Prop:=Paired (fun (t:Addr) (p:V×V)=>H t=some (.tup [p.1,p.2])) ts ps
noncomputable def Ew (S1 S2:Src) (K:Fg) (ta:TA):TE:=fun σ H Q=>ta σ H fun vs H1=>∃ a b xs ys,vs=[.ref a,.ref b]/\S1.Sq K H1 a xs/\S2.Sq K H1 b ys/\xs.length<=1000000/\
 ∀ p H',H1 p=none->am H1 H'->(∃ ts:List Addr,H' p=some (.lst (ts.map V.ref))/\mK H' ts (xs.zip ys))->Q (.ref p) H'
section
variable {σ:St} {H:Hp} {Q:VK} {K:Fg}
theorem LC {ta:TA} (h:ta σ H fun vs H1=>∃ n:Nat,vs=[.int (n:Int)]/\n<=1000000/\New H1 (.rng 0 (n:Int)) fun p H2=>AG [.ref p] H2 Q):JF ta σ H Q:=h
theorem LD {S1 S2:Src} {ta:TA} (h:ta σ H fun vs H1=>∃ a b xs ys,vs=[.ref a,.ref b]/\S1.Sq K H1 a xs/\S2.Sq K H1 b ys/\xs.length<=1000000/\
 ∀ p H',H1 p=none->am H1 H'->(∃ ts:List Addr,H' p=some (.lst (ts.map V.ref))/\mK H' ts (xs.zip ys))->Q (.ref p) H'):Ew S1 S2 K ta σ H Q:=h
end
end L2
section
namespace KF
noncomputable def fj (ps:List Nat):Prop:=∀ x y:Nat,ps[x]?=some y->y<=x
inductive bD (ps:List Nat):Nat->Nat->Prop where
 | stop {x:Nat} (h:ps[x]?=some x):bD ps x x
 | step {x y r:Nat} (h:ps[x]?=some y) (hl:y < x) (t:bD ps y r):bD ps x r
theorem bD.inj {ps:List Nat} {x r r':Nat} (a:bD ps x r) (b:bD ps x r'):r=r':=by
 induction a with
 | stop h=>cases b with
  | stop _=>rfl
  | step h' hl _=>rw [h] at h'; cases h'; omega
 | step h hl _ ih=>cases b with
  | stop h'=>rw [h] at h'; cases h'; omega
  | step h' _ t=>rw [h] at h'; cases h'; exact ih t
theorem fj.root {ps:List Nat} (f:fj ps):∀ x,x < ps.length->∃ r,bD ps x r:=by
 intro x
 induction x using Nat.strongRecOn with
 | ind x ih=>
  intro hx
  have e:=MZ hx
  have hy:=f x _ e
  rcases QN hy with h | h
  ·obtain ⟨r,hr⟩:=ih _ h (by omega)
   exact ⟨r,.step e h hr⟩
  ·rw [h] at e
   exact ⟨x,.stop e⟩
theorem bD.le {ps:List Nat} {x r:Nat} (a:bD ps x r):r<=x:=by
 induction a with
 | stop _=>exact M1 _
 | step _ hl _ ih=>omega
theorem bD.self {ps:List Nat} {x r:Nat} (a:bD ps x r):ps[r]?=some r:=by
 induction a with
 | stop h=>exact h
 | step _ _ _ ih=>exact ih
theorem bD.lt {ps:List Nat} {x r:Nat} (a:bD ps x r):x < ps.length:=by
 cases a with
 | stop h=>exact (M4.mp h).1
 | step h _ _=>exact (M4.mp h).1
theorem fj.range (n:Nat):fj (Nw n):=fun x y h=>by
 obtain ⟨h1,h2⟩:=M4.mp h
 rw [RU] at h2
 omega
theorem bD.range {n x:Nat} (h:x < n):bD (Nw n) x x:=.stop (by rw [OE h])
theorem LE {ps:List Nat} {e g y z:Nat} (h:(ps.set e g)[y]?=some z):(y=e/\z=g)\/(y≠e/\ps[y]?=some z):=by
 rw [Qr] at h
 by_cases q:e=y
 ·rw [if_pos q] at h
  split at h
  ·cases h; exact .inl ⟨q.symm,rfl⟩
  ·cases h
 ·rw [if_neg q] at h
  exact .inr ⟨fun z=>q z.symm,h⟩
theorem oY {ps:List Nat} {e g y:Nat} (h:y≠e):(ps.set e g)[y]?=ps[y]?:=by
 rw [Qr,if_neg (fun z=>h z.symm)]
theorem lB {ps:List Nat} {e g:Nat} (h:e < ps.length):(ps.set e g)[e]?=some g:=by
 rw [Qr,if_pos rfl,if_pos h]
theorem fj.set {ps:List Nat} (f:fj ps) {e g:Nat} (h:g<=e):fj (ps.set e g):=fun x y q=>by
 rcases LE q with ⟨rfl,rfl⟩ | ⟨_,q⟩
 ·exact h
 ·exact f x y q
theorem bD.halve {ps:List Nat} (f:fj ps) {e p g:Nat} (h1:ps[e]?=some p) (h2:ps[p]?=some g) {y r:Nat} (a:bD ps y r):bD (ps.set e g) y r:=by
 have he:e < ps.length:=(M4.mp h1).1
 induction a with
 | @stop x h=>
  by_cases q:x=e
  ·subst q
   rw [h] at h1
   cases h1
   rw [h] at h2
   cases h2
   exact .stop (lB he)
  ·exact .stop (by rw [oY q]; exact h)
 | @step x y r h hl t ih=>
  by_cases q:x=e
  ·subst q
   rw [h] at h1
   cases h1
   have e1:(ps.set x g)[p]?=some g:=by rw [oY (by omega)]; exact h2
   cases ih with
   | stop h'=>
    rw [e1] at h'
    cases h'
    exact .step (lB he) hl (.stop e1)
   | step h' hl' t'=>
    rw [e1] at h'
    cases h'
    exact .step (lB he) (by omega) t'
  ·exact .step (by rw [oY q]; exact h) hl ih
theorem bD.link {ps:List Nat} {M m:Nat} (hM:ps[M]?=some M) (hm:ps[m]?=some m) (hle:m<=M) {y r:Nat} (a:bD ps y r):bD (ps.set M m) y (if r=M then m else r):=by
 have hMl:M < ps.length:=(M4.mp hM).1
 induction a with
 | @stop x h=>
  by_cases q:x=M
  ·subst q
   rw [if_pos rfl]
   rcases QN hle with l | l
   ·exact .step (lB hMl) l (.stop (by rw [oY (by omega)]; exact hm))
   ·subst l
    exact .stop (lB hMl)
  ·rw [if_neg q]
   exact .stop (by rw [oY q]; exact h)
 | @step x y r h hl t ih=>
  have q:x≠M:=by
   intro q
   subst q
   rw [h] at hM
   cases hM
   omega
  exact .step (by rw [oY q]; exact h) hl ih
inductive eF (P:Nat->Nat->Prop):Nat->Nat->Prop where
 | refl (x:Nat):eF P x x
 | one {x y:Nat} (h:P x y):eF P x y
 | symm {x y:Nat} (h:eF P x y):eF P y x
 | trans {x y z:Nat} (h:eF P x y) (t:eF P y z):eF P x z
theorem eF.mono {P P':Nat->Nat->Prop} (h:∀ x y,P x y->P' x y) {x y:Nat} (c:eF P x y):eF P' x y:=by
 induction c with
 | refl x=>exact .refl x
 | one q=>exact .one (h _ _ q)
 | symm _ ih=>exact .symm ih
 | trans _ _ a b=>exact .trans a b
noncomputable def i6 (n:Nat) (vs:List (List Nat)) (x y:Nat):Prop:=∃ v∈vs,x < n/\v[x]?=some y
structure rW (n:Nat) (P:Nat->Nat->Prop) (r:List Nat):Prop where
 len:r.length=n
 le:∀ i x:Nat,r[i]?=some x->x<=i
 conn:∀ i x:Nat,r[i]?=some x->eF P i x
 same:∀ i j:Nat,i < n->j < n->eF P i j->r[i]?=r[j]?
structure dN (n:Nat) (P:Nat->Nat->Prop) (ps:List Nat):Prop where
 len:ps.length=n
 forest:fj ps
 conn:∀ x r,bD ps x r->eF P x r
 same:∀ x y,P x y->∃ r,bD ps x r/\bD ps y r
theorem dN.join {n:Nat} {P:Nat->Nat->Prop} {ps r:List Nat} (t:dN n P ps) (hl:r.length=n) (hr:∀ i x:Nat,r[i]?=some x->bD ps i x):rW n P r where
 len:=hl
 le:=fun i x h=>(hr i x h).le
 conn:=fun i x h=>t.conn _ _ (hr i x h)
 same:=by
  have key:∀ i j,eF P i j->∀ x,(bD ps i x↔bD ps j x):=by
   intro i j c
   induction c with
   | refl x=>intro x; exact VX
   | one q=>
    intro x
    obtain ⟨r,h1,h2⟩:=t.same _ _ q
    exact ⟨fun a=>by rw [a.inj h1]; exact h2,fun a=>by rw [a.inj h2]; exact h1⟩
   | symm _ ih=>intro x; exact (ih x).symm
   | trans _ _ a b=>intro x; exact (a x).trans (b x)
  intro i j hi hj c
  have e1:=MZ (l:=r) (i:=i) (by rw [hl]; exact hi)
  have e2:=MZ (l:=r) (i:=j) (by rw [hl]; exact hj)
  have q1:=(key i j c _).mp (hr _ _ e1)
  rw [e1,e2,q1.inj (hr _ _ e2)]
theorem dN.start (n:Nat):dN n (fun _ _=>False) (Nw n) where
 len:=OG
 forest:=fj.range n
 conn:=fun x r h=>by
  have hx:x < n:=by have:=h.lt; rw [OG] at this; exact this
  rw [h.inj (bD.range hx)]
  exact .refl x
 same:=fun _ _ h=>h.elim
theorem dN.moved {n:Nat} {P:Nat->Nat->Prop} {ps ps':List Nat} (t:dN n P ps) (f:fj ps') (hl:ps'.length=n) (h:∀ y r,bD ps y r->bD ps' y r):dN n P ps' where
 len:=hl
 forest:=f
 conn:=fun x r a=>by
  obtain ⟨r',b⟩:=t.forest.root x (by rw [t.len,<-hl]; exact a.lt)
  rw [a.inj (h _ _ b)]
  exact t.conn _ _ b
 same:=fun x y q=>by
  obtain ⟨r,h1,h2⟩:=t.same x y q
  exact ⟨r,h _ _ h1,h _ _ h2⟩
theorem dN.link {n:Nat} {P P':Nat->Nat->Prop} {ps:List Nat} {a b ra rb M m:Nat} (t:dN n P ps) (ha:bD ps a ra) (hb:bD ps b rb) (hM:(M=ra/\m=rb)\/(M=rb/\m=ra)) (hle:m<=M)
  (h1:∀ x y,P x y->P' x y) (h2:∀ x y,P' x y->P x y\/(x=a/\y=b)) (h3:P' a b):dN n P' (ps.set M m):=by
 have sM:ps[M]?=some M:=by
  rcases hM with ⟨rfl,_⟩ | ⟨rfl,_⟩
  ·exact ha.self
  ·exact hb.self
 have sm:ps[m]?=some m:=by
  rcases hM with ⟨_,rfl⟩ | ⟨_,rfl⟩
  ·exact hb.self
  ·exact ha.self
 have cMm:eF P' M m:=by
  have c1:eF P' a ra:=(t.conn _ _ ha).mono h1
  have c2:eF P' b rb:=(t.conn _ _ hb).mono h1
  rcases hM with ⟨rfl,rfl⟩ | ⟨rfl,rfl⟩
  ·exact .trans (.symm c1) (.trans (.one h3) c2)
  ·exact .trans (.symm c2) (.trans (.symm (.one h3)) c1)
 have rt:∀ {y r:Nat},bD ps y r->bD (ps.set M m) y (if r=M then m else r):=fun q=>bD.link sM sm hle q
 refine ⟨by rw [Pc]; exact t.len,t.forest.set hle,fun x r q=>?_,fun x y q=>?_⟩
 ·obtain ⟨r',h⟩:=t.forest.root x (by have:=q.lt; rw [Pc] at this; exact this)
  rw [q.inj (rt h)]
  have c:eF P' x r':=(t.conn _ _ h).mono h1
  split
  ·rename_i e
   rw [e] at c
   exact .trans c cMm
  ·exact c
 ·rcases h2 x y q with q | ⟨rfl,rfl⟩
  ·obtain ⟨r,q1,q2⟩:=t.same x y q
   exact ⟨_,rt q1,rt q2⟩
  ·refine ⟨m,?_,?_⟩
   ·have:=rt ha
    rcases hM with ⟨e1,e2⟩ | ⟨e1,e2⟩
    ·rw [if_pos e1.symm] at this; exact this
    ·by_cases z:ra=M
     ·rw [if_pos z] at this; exact this
     ·rw [if_neg z,<-e2] at this; exact this
   ·have:=rt hb
    rcases hM with ⟨e1,e2⟩ | ⟨e1,e2⟩
    ·by_cases z:rb=M
     ·rw [if_pos z] at this; exact this
     ·rw [if_neg z,<-e2] at this; exact this
    ·rw [if_pos e1.symm] at this; exact this
end KF
end
namespace L2
open PySem PyProof.Rows
section
variable {K:Fg} {vs:List V} {H:Hp} {Q:VK} {E:XK}
open KF
section
variable {g:CF TG} {tt:CF TT} {te:CF TE} {σ₀:St} {Q:VK} {H:Hp} {K:Fg}
theorem Gu {j:Int} (n:Nat) (hn:j.toNat=n) (hj:j<=1000000) (hj0:-1000000<=j) (R:Addr->Nat->List V->Hp->Prop) (h0:∀ p H',H p=none->am H H'->H' p=some (.lst [])->R p 0 [] H')
  (hp:∀ p i acc H',R p i acc H'->H' p=some (.lst acc)/\acc.length<=i)
  (hs:∀ p,H p=none->∀ C s' H' fp,∀ i acc H2,i < n->R p i acc H2->g C s' H' fp (.int i) σ₀ H2 fun σ2 H3=>tt C s' H' fp σ2 H3 fun b H4=>if b=true then te C s' H' fp σ2 H4 fun y H5=>H5 p=some (.lst acc)/\R p (i + 1) (acc++[y]) (upd H5 p (.lst (acc++[y]))) else R p (i + 1) acc H4)
  (hd:∀ p acc H2,H p=none->R p n acc H2->Q (.ref p) H2):
  ∃ j':Int,[V.int j]=[.int j']/\-(2 ^ 62)<=j'/\j' < 2 ^ 62/\∀ p,H p=none->∃ W:Nat->Nat->List V->Hp->Prop,(∃ m,W 0 m [] (upd H p (.lst [])))/\∀ C s' H' fp,bO (Itr 0 j'.toNat) (g C s' H' fp) (tt C s' H' fp) (te C s' H' fp) σ₀ p Q W:=by
 refine ⟨j,rfl,by omega,by omega,fun p hpn=>?_⟩
 subst hn
 exact pY (lo:=0) (R p) (h0 p _ hpn (bg hpn _) az) (fun i acc H2 _ c=>hp p i acc H2 c) (by rw [M8]; omega) (fun C s' H' fp i acc H2 hi c=>by rw [SK]; exact hs p hpn C s' H' fp i acc H2 hi c) fun acc H2 c=>hd p acc H2 hpn c
end
theorem yt {n j:Nat} (h:j < n):ixN n (j:Int)=some j:=by unfold ixN; rw [if_pos (by omega),if_pos (by omega)]; simp
theorem Ex (n:Nat):(Nw n).map (fun (i:Nat)=>V.int ((i:Nat):Int))=au (Nw n):=rfl
noncomputable def lC (_:Fg):Sp:=fun vs H Q _=>∃ (p:Addr) (ps:List Nat) (x r:Nat),vs=[.ref p,.int (x:Int)]/\H p=some (.lst (au ps))/\fj ps/\bD ps x r/\
 ∀ H' ps',Off p H H'->H' p=some (.lst (au ps'))->ps'.length=ps.length->fj ps'->(∀ y s,bD ps y s->bD ps' y s)->Q (.int (r:Int)) H'
noncomputable def qg (K:Fg):TS:=(ap (aH (aa 1) (aj 2))
 (ap (mO (be (tOp rNe (tOp (ca K) (aa 0) (aa 2)) (aa 2))) (ap (aH (tOp (ca K) (aa 0) (tOp (ca K) (aa 0) (aa 2))) (kh (aa 0) (aa 2) kP))
 (aH (tOp (ca K) (aa 0) (aa 2)) (aj 2))))
 (aJ (aa 2))))
theorem Ik {p:Addr} {H:Hp}:Off p H H:=fun _ _=>rfl
theorem rX {p:Addr} {H H1 H2:Hp} (a:Off p H H1) (b:Off p H1 H2):Off p H H2:=fun c hc=>(b c hc).trans (a c hc)
theorem Gv (h:lC K vs H Q E):qg K { nx:=fun _ H'=>Q .non H',rt:=Q } (start ["points","thing","end"] vs) H:=by
 obtain ⟨p,ps,x,r,rfl,e,hf,hr,q⟩:=h
 show qg K _ [some _,some _,none] _
 unfold qg
 walk_at "rd"
 refine AD (fun m σ H1=>∃ (ps':List Nat),σ=[some (.ref p),some (.int (x:Int)),some (.int (m:Int))]/\Off p H H1/\H1 p=some (.lst (au ps'))/\ps'.length=ps.length/\fj ps'/\(∀ y s,bD ps y s->bD ps' y s)/\bD ps' m r) x ⟨ps,rfl,Ik,e,rfl,hf,fun _ _ h=>h,hr⟩ ?_
 rintro m σ H1 ⟨ps',rfl,o1,e1,hl,hf1,hk,hr1⟩
 have hm:=hr1.lt
 obtain ⟨y,hy⟩:∃ y,ps'[m]?=some y:=⟨_,MZ hm⟩
 walk_at "rd"
 refine bI (SqL.of e1) (jl hy) ?_
 walk_at "rd"
 refine ve (fun c=>?_) (fun c=>?_)
 ·have hym:y < m:=by have:=hf1 m y hy; omega
  obtain ⟨g,hg⟩:∃ g,ps'[y]?=some g:=⟨_,MZ (by omega)⟩
  have hgy:=hf1 y g hg
  refine AC ?_
  walk_at "rd"
  refine bI (SqL.of e1) (jl hy) ?_
  walk_at "rd"
  refine bI (SqL.of e1) (jl hg) ?_
  walk_at "rd"
  refine mQ e1 (yt (by rw [aR]; exact hm)) ?_
  rw [vo]
  walk_at "rd"
  refine bI (SqL.of az) (jl (z:=g) (lB hm)) ?_
  walk_at "rd"
  refine ⟨g,by omega,ps'.set m g,rfl,rX o1 ij,az,by rw [Pc]; exact hl,hf1.set (by omega),fun a s h=>bD.halve hf1 hy hg (hk a s h),?_⟩
  have:=bD.halve hf1 hy hg hr1
  cases this with
  | stop h=>
   rw [lB hm] at h
   cases h
   omega
  | step h _ t=>
   rw [lB hm] at h
   cases h
   exact t
 ·have:y=m:=by omega
  subst this
  walk_at "rd"
  have er:y=r:=(bD.stop hy).inj hr1
  rw [er]
  exact q H1 ps' o1 e1 hl hf1 hk
noncomputable def yu (_:Fg):Sp:=fun vs H Q _=>∃ (p:Addr) (ps:List Nat) (n:Nat) (P P':Nat->Nat->Prop) (a b:Nat),vs=[.ref p,.int (a:Int),.int (b:Int)]/\H p=some (.lst (au ps))/\dN n P ps/\a < n/\b < n/\
 (∀ x y,P x y->P' x y)/\(∀ x y,P' x y->P x y\/(x=a/\y=b))/\P' a b/\∀ H' ps',Off p H H'->H' p=some (.lst (au ps'))->dN n P' ps'->Q .non H'
noncomputable def wC (K:Fg):TS:=(ap (aH (av (lC K) [] E0 (ac (aa 0) (ac (aa 1) ag))) (aj 3))
 (ap (aH (av (lC K) [] E0 (ac (aa 0) (ac (aa 2) ag))) (aj 4))
 (aH (tCB Ej (ac (aa 3) (ac (aa 4) ag))) (kh (aa 0) (tCB Jx (ac (aa 3) (ac (aa 4) ag))) kP))))
theorem Ke (h:yu K vs H Q E):wC K { nx:=fun _ H'=>Q .non H',rt:=Q } (start ["points","one","other","first","second"] vs) H:=by
 obtain ⟨p,ps,n,P,P',a,b,rfl,e,ht,ha,hb,h1,h2,h3,q⟩:=h
 show wC K _ [some _,some _,some _,none,none] _
 unfold wC
 obtain ⟨ra,hra⟩:=ht.forest.root a (by rw [ht.len]; exact ha)
 walk_at "rd"
 refine ⟨p,ps,a,ra,rfl,e,ht.forest,hra,fun H1 ps1 o1 e1 l1 f1 k1=>?_⟩
 have ht1:=ht.moved f1 (by rw [l1]; exact ht.len) k1
 obtain ⟨rb,hrb⟩:=ht1.forest.root b (by rw [ht1.len]; exact hb)
 walk_at "rd"
 refine ⟨p,ps1,b,rb,rfl,e1,f1,hrb,fun H2 ps2 o2 e2 l2 f2 k2=>?_⟩
 have ht2:=ht1.moved f2 (by rw [l2]; exact ht1.len) k2
 have hra2:=k2 _ _ (k1 _ _ hra)
 have hrb2:=k2 _ _ hrb
 walk_at "rd"
 have la:=hra2.le
 have lb:=hrb2.le
 obtain ⟨M,m,hM,hm,hd,hle⟩:∃ M m:Nat,(if (rb:Int) > (ra:Int) then (rb:Int) else (ra:Int))=(M:Int)/\(if (rb:Int) < (ra:Int) then (rb:Int) else (ra:Int))=(m:Int)/\((M=ra/\m=rb)\/(M=rb/\m=ra))/\m<=M:=by
  by_cases c:rb < ra
  ·exact ⟨ra,rb,by rw [if_neg (by omega)],by rw [if_pos (by omega)],.inl ⟨rfl,rfl⟩,by omega⟩
  ·by_cases d:ra < rb
   ·exact ⟨rb,ra,by rw [if_pos (by omega)],by rw [if_neg (by omega)],.inr ⟨rfl,rfl⟩,by omega⟩
   ·exact ⟨ra,ra,by rw [if_neg (by omega)],by rw [if_neg (by omega)],.inr ⟨by omega,rfl⟩,M1 _⟩
 rw [hm,hM]
 have hMl:M < ps2.length:=by
  rw [ht2.len]
  rcases hd with ⟨rfl,_⟩ | ⟨rfl,_⟩ <;> omega
 refine mQ e2 (yt (by rw [aR]; exact hMl)) ?_
 rw [vo]
 exact q _ _ (rX (rX o1 o2) ij) az (ht2.link hra2 hrb2 hd hle h1 h2 h3)
noncomputable def ee (H:Hp) (a:Addr) (vs:List (List Nat)):Prop:=∃ rs:List Addr,H a=some (.lst (rs.map V.ref))/\Paired (fun (r:Addr) (v:List Nat)=>H r=some (.lst (au v))) rs vs
theorem ee.same {H H':Hp} {a:Addr} {vs:List (List Nat)} (h:ee H a vs) (s:am H H'):ee H' a vs:=by
 obtain ⟨rs,e,r⟩:=h
 exact ⟨rs,s _ _ e,Paired.mapP r fun _ _ q=>s _ _ q⟩
noncomputable def Within (n:Nat) (v:List Nat):Prop:=v.length=n/\∀ x∈v,x < n
theorem kt {rs:List Addr} {i:Nat} {x:V} (hx:(rs.map V.ref)[i]?=some x):∃ a,rs[i]?=some a/\x=.ref a:=by
 rw [Ng] at hx
 cases e:rs[i]? with
 | none=>rw [e] at hx; cases hx
 | some z=>rw [e] at hx; exact ⟨z,rfl,(Nf hx).symm⟩
noncomputable def rY (_:Fg):Sp:=fun vs H Q _=>∃ (n:Nat) (a:Addr) (ws:List (List Nat)),vs=[.int (n:Int),.ref a]/\ee H a ws/\(∀ v∈ws,Within n v)/\n<=100000/\
 ∀ r p H',rW n (i6 n ws) r->H p=none->am H H'->H' p=some (.lst (au r))->Q (.ref p) H'
noncomputable def qh (K:Fg):TS:=(ap (aH (JF (ac (aa 0) ag)) (aj 2))
 (ap (cU (cc K (aa 1)) (aj 3) (cU (iZ aQ K (ac (aa 3) ag)) (cZ K 2 (aW (aj 4) (aW (aj 5) cY))) (dG (av (yu K) [] E0 (ac (aa 2) (ac (aa 4) (ac (aa 5) ag)))))))
 (aJ (bu (fZ (ac (aa 0) ag)) (fun _ _ _ _=>(aj 0)) (fun _ _ _ _=>aV) (fun _ _ _ _=>(av (lC K) [] E0 (ac (aa 1) (ac (aa 0) ag)))) [none,some 2]))))
theorem Ey {n:Nat} {ws:List (List Nat)} {i:Nat} {v:List Nat} (hv:ws[i]?=some v) {x y:Nat}:i6 n (ws.take (i + 1)) x y↔i6 n (ws.take i) x y\/(x < n/\v[x]?=some y):=by
 unfold i6
 rw [b9 hv]
 constructor
 ·rintro ⟨w,hw,h1,h2⟩
  rcases NL.mp hw with hw | hw
  ·exact .inl ⟨w,hw,h1,h2⟩
  ·rw [M0.mp hw] at h2; exact .inr ⟨h1,h2⟩
 ·rintro (⟨w,hw,h1,h2⟩ | ⟨h1,h2⟩)
  ·exact ⟨w,OL _ hw,h1,h2⟩
  ·exact ⟨v,NU _ (M0.mpr rfl),h1,h2⟩
theorem _root_.KF.dN.congr {n:Nat} {P P':Nat->Nat->Prop} {ps:List Nat} (t:dN n P ps) (h:∀ x y,P x y↔P' x y):dN n P' ps:=by
 have e:P=P':=by funext x y; exact propext (h x y)
 rw [<-e]; exact t
theorem Gw (h:rY K vs H Q E):qh K { nx:=fun _ H'=>Q .non H',rt:=Q } (start ["many","views","points","view","thing","least"] vs) H:=by
 obtain ⟨n,a,ws,rfl,hV,hw,hn,q⟩:=h
 show qh K _ [some _,some _,none,none,none,none] _
 unfold qh
 obtain ⟨rs,ea,hr⟩:=id hV
 have hlr:rs.length=ws.length:=NG hr
 walk_at "rd"
 refine LC ?_
 walk_at "rd"
 refine ⟨n,rfl,by omega,Mw (by omega) fun p H1 hp s1 e1=>?_⟩
 rw [Ex] at e1
 walk_at "rd"
 refine oV (rs.map V.ref) (SqL.of (s1 _ _ ea)) (fun i σ H2=>∃ (u1 u2 u3:Option V) (ps:List Nat),σ=[some (.int (n:Int)),some (.ref a),some (.ref p),u1,u2,u3]/\am H H2/\H2 p=some (.lst (au ps))/\dN n (i6 n (ws.take i)) ps) ?_ ?_ ?_ ?_
 ·refine ⟨_,_,_,_,rfl,s1,e1,(dN.start n).congr fun x y=>⟨fun h=>h.elim,fun ⟨w,hw,_⟩=>by simp at hw⟩⟩
 ·rintro i σ H2 hi ⟨u1,u2,u3,ps,rfl,s2,e2,t2⟩
  exact SqL.of (s2 _ _ ea)
 ·rintro i x σ H2 hx ⟨u1,u2,u3,ps,rfl,s2,e2,t2⟩
  obtain ⟨b,hb,rfl⟩:=kt hx
  obtain ⟨v,hv,ev⟩:=bx hr hb
  obtain ⟨hvl,hvx⟩:=hw v (M9 hv)
  walk_at "rd"
  refine mJ (S:=aQ) (au v) (SqL.of (s2 _ _ ev)) (fun j σ H3=>∃ (u2 u3:Option V) (ps:List Nat),σ=[some (.int (n:Int)),some (.ref a),some (.ref p),some (.ref b),u2,u3]/\am H H3/\H3 p=some (.lst (au ps))/\dN n (fun x y=>i6 n (ws.take i) x y\/(x < j/\v[x]?=some y)) ps) ?_ ?_ ?_ ?_
  ·exact ⟨_,_,ps,rfl,s2,e2,t2.congr fun x y=>⟨.inl,fun h=>h.elim (fun h=>h) fun h=>absurd h.1 (by omega)⟩⟩
  ·rintro j σ H3 hj ⟨u2,u3,ps,rfl,s3,e3,t3⟩
   exact SqL.of (s3 _ _ ev)
  ·rintro j x T σ H3 H4 hx ⟨u2,u3,ps,rfl,s3,e3,t3⟩ hT s4 eT
   obtain ⟨z,hz,rfl⟩:=eY hx
   have hjl:j < v.length:=(M4.mp hz).1
   refine dM (SqT.of eT) ?_
   walk_at "rd"
   refine ⟨p,ps,n,_,(fun x y=>i6 n (ws.take i) x y\/(x < j + 1/\v[x]?=some y)),j,z,rfl,s4 _ _ e3,t3,by omega,hvx z (M9 hz),?_,?_,.inr ⟨by omega,hz⟩,fun H5 ps5 o5 e5 t5=>?_⟩
   ·rintro x y (h | h)
    ·exact .inl h
    ·exact .inr ⟨by omega,h.2⟩
   ·rintro x y (h | ⟨h1,h2⟩)
    ·exact .inl (.inl h)
    ·by_cases c:x=j
     ·subst c
      rw [hz] at h2
      cases h2
      exact .inr ⟨rfl,rfl⟩
     ·exact .inl (.inr ⟨by omega,h2⟩)
   ·exact ⟨_,_,ps5,rfl,(s3.trans s4).off hp o5,e5,t5⟩
  ·rintro σ H3 ⟨u2,u3,ps,rfl,s3,e3,t3⟩
   rw [aR] at t3
   exact ⟨_,_,_,ps,rfl,s3,e3,t3.congr fun x y=>by rw [Ey hv,hvl]⟩
 ·rintro σ H2 ⟨u1,u2,u3,ps,rfl,s2,e2,t2⟩
  rw [MY,hlr,NI] at t2
  walk_at "rd"
  refine Gu n (by omega) (by omega) (by omega) (fun l i acc H3=>∃ (ps' rr:List Nat),acc=au rr/\rr.length=i/\H3 l=some (.lst acc)/\l≠p/\H l=none/\am H H3/\H3 p=some (.lst (au ps'))/\dN n (i6 n ws) ps'/\(∀ y s,bD ps y s->bD ps' y s)/\∀ k x:Nat,rr[k]?=some x->bD ps k x) ?_ ?_ ?_ ?_
  ·intro l H3 hl s3 e3
   exact ⟨ps,[],rfl,rfl,e3,(bn e2 hl).symm,s2.free hl,s2.trans s3,s3 _ _ e2,t2,fun _ _ h=>h,fun k x h=>by simp at h⟩
  ·rintro l i acc H3 ⟨ps',rr,rfl,hl,e3,_⟩
   exact ⟨e3,by rw [aR]; omega⟩
  ·rintro l hl C s' H' fp i acc H3 hi ⟨ps',rr,rfl,hlr',e3,nl,hlH,s3,ep3,t3,k3,g3⟩
   obtain ⟨r,hr⟩:=t2.forest.root i (by rw [t2.len]; exact hi)
   walk_at "rd"
   refine ⟨p,ps',i,r,rfl,ep3,t3.forest,k3 _ _ hr,fun H4 ps4 o4 e4 l4 f4 k4=>?_⟩
   refine ⟨by rw [o4 l nl]; exact e3,ps4,rr++[r],hJ rr r,by simp [hlr'],az,nl,hlH,(s3.off hp o4).off hlH ij,by rw [aS nl.symm]; exact e4,t3.moved f4 (by rw [l4]; exact t3.len) k4,fun y s h=>k4 _ _ (k3 _ _ h),fun k x h=>?_⟩
   rw [List.getElem?_append] at h
   by_cases c:k < rr.length
   ·rw [if_pos c] at h
    exact g3 k x h
   ·rw [if_neg c] at h
    have hk:k=i:=by
     by_cases d:k - rr.length=0
     ·omega
     ·rw [NJ (by simp; omega)] at h; cases h
    subst hk
    rw [<-hlr',UB] at h
    cases h
    exact hr
  ·rintro l acc H3 hl ⟨ps',rr,rfl,hlr',e3,nl,hlH,s3,ep3,t3,k3,g3⟩
   exact q rr l H3 (t2.join hlr' g3) hlH s3 e3
end
section
variable {g:CF TG} {tt:CF TT} {te:CF TE} {σ₀:St} {Q:VK} {H:Hp} {K:Fg}
end
theorem mZ {H:Hp} {a:Addr} {fs:List (List Nat)} (h:ee H a fs):∃ rs:List Addr,H a=some (.lst (rs.map V.ref))/\rs.length=fs.length/\∀ (i:Nat) (r:Addr),rs[i]?=some r->∃ v,fs[i]?=some v/\H r=some (.lst (au v)):=by
 obtain ⟨rs,e,p⟩:=h
 exact ⟨rs,e,NG p,fun i r hr=>bx p hr⟩
end L2
section
namespace L2
open PySem PyProof.Rows
set_option genInjectivity false in
inductive Sy where
 | holds (w c:Nat) | sees (h:Nat) | not (s:Sy) | and (s t:Sy) | or (s t:Sy) | knows (h:Nat) (s:Sy) | all (g:List Nat) (s:Sy) | common (g:List Nat) (s:Sy)
namespace Sy
noncomputable def words:Sy->Nat
 | .holds _ _=>1 | .sees _=>1 | .not s=>s.words + 1 | .and s t=>s.words + t.words + 1 | .or s t=>s.words + t.words + 1 | .knows _ s=>s.words + 1 | .all _ s=>s.words + 1 | .common _ s=>s.words + 1
noncomputable def subs:Sy->List Sy
 | .holds _ _=>[] | .sees _=>[] | .not s=>[s] | .and s t=>[s,t] | .or s t=>[s,t] | .knows _ s=>[s] | .all _ s=>[s] | .common _ s=>[s]
noncomputable def word:Sy->Str
 | .holds _ _=>"holds" | .sees _=>"sees" | .not _=>"not" | .and _ _=>"and" | .or _ _=>"or" | .knows _ _=>"knows" | .all _ _=>"all" | .common _ _=>"common"
noncomputable def form:Sy->List Str
 | .holds _ _=>["holder","card"] | .sees _=>["hand"] | .not _=>["saying"] | .and _ _=>["saying","saying"] | .or _ _=>["saying","saying"] | .knows _ _=>["hand","saying"] | .all _ _=>["hands","saying"] | .common _ _=>["hands","saying"]
noncomputable def plain:Sy->Bool
 | .holds _ _=>true | .not _=>true | .and _ _=>true | .or _ _=>true | _=>false
noncomputable def Ok (cards hands:Nat):Sy->Prop
 | .holds w c=>w<=hands/\c < cards | .sees h=>h < hands | .not s=>s.Ok cards hands | .and s t=>s.Ok cards hands/\t.Ok cards hands | .or s t=>s.Ok cards hands/\t.Ok cards hands
 | .knows h s=>h < hands/\s.Ok cards hands | .all g s=>(g.Pairwise (· < ·)/\∀ k∈g,k < hands)/\s.Ok cards hands | .common g s=>(g.Pairwise (· < ·)/\∀ k∈g,k < hands)/\s.Ok cards hands
theorem words_pos (s:Sy):1<=s.words:=by cases s <;> simp [words]
theorem words_subs (s:Sy):s.words=1 + (s.subs.map words).sum:=by cases s <;> simp [words,subs] <;> omega
theorem sub_words {s t:Sy} (h:t∈s.subs):t.words + 1<=s.words:=by
 rw [words_subs s]
 have:=jD (Uk (f:=words) h)
 omega
end Sy
noncomputable def aU (H:Hp):V->Sy->Prop
 | v,.holds w c=>∃ a,v=.ref a/\H a=some (.tup [.str "holds",.int w,.int c])
 | v,.sees h=>∃ a,v=.ref a/\H a=some (.tup [.str "sees",.int h])
 | v,.not s=>∃ a x,v=.ref a/\H a=some (.tup [.str "not",x])/\aU H x s
 | v,.and s t=>∃ a x y,v=.ref a/\H a=some (.tup [.str "and",x,y])/\aU H x s/\aU H y t
 | v,.or s t=>∃ a x y,v=.ref a/\H a=some (.tup [.str "or",x,y])/\aU H x s/\aU H y t
 | v,.knows h s=>∃ a x,v=.ref a/\H a=some (.tup [.str "knows",.int h,x])/\aU H x s
 | v,.all g s=>∃ a b x,v=.ref a/\H a=some (.tup [.str "all",.ref b,x])/\H b=some (.tup (au g))/\aU H x s
 | v,.common g s=>∃ a b x,v=.ref a/\H a=some (.tup [.str "common",.ref b,x])/\H b=some (.tup (au g))/\aU H x s
theorem aU.keep {H H':Hp} (k:iO H H'):∀ {s:Sy} {v:V},aU H v s->aU H' v s
 | .holds _ _,_,⟨a,e,h⟩=>⟨a,e,k _ _ h⟩
 | .sees _,_,⟨a,e,h⟩=>⟨a,e,k _ _ h⟩
 | .not _,_,⟨a,x,e,h,r⟩=>⟨a,x,e,k _ _ h,aU.keep k r⟩
 | .and _ _,_,⟨a,x,y,e,h,r,q⟩=>⟨a,x,y,e,k _ _ h,aU.keep k r,aU.keep k q⟩
 | .or _ _,_,⟨a,x,y,e,h,r,q⟩=>⟨a,x,y,e,k _ _ h,aU.keep k r,aU.keep k q⟩
 | .knows _ _,_,⟨a,x,e,h,r⟩=>⟨a,x,e,k _ _ h,aU.keep k r⟩
 | .all _ _,_,⟨a,b,x,e,h,i,r⟩=>⟨a,b,x,e,k _ _ h,k _ _ i,aU.keep k r⟩
 | .common _ _,_,⟨a,b,x,e,h,i,r⟩=>⟨a,b,x,e,k _ _ h,k _ _ i,aU.keep k r⟩
noncomputable def jm (form:List Str) (items:List V):List V:=((form.zip items).filter fun p=>decide (p.1=("saying":Str))).map (·.2)
noncomputable def iq (H:Hp) (xs:List V) (ss:List Sy):Prop:=Paired (aU H) xs ss
theorem iq.keep {H H':Hp} (k:iO H H') {xs:List V} {ss:List Sy} (h:iq H xs ss):iq H' xs ss:=Paired.mapP h fun _ _ r=>r.keep k
theorem ns1:decide (("holder":Str)="saying")=false:=by decide +kernel
theorem ns2:decide (("card":Str)="saying")=false:=by decide +kernel
theorem ns3:decide (("hand":Str)="saying")=false:=by decide +kernel
theorem ns4:decide (("hands":Str)="saying")=false:=by decide +kernel
theorem Kf {H:Hp} {v:V} {s:Sy} (h:aU H v s):∃ a items,v=.ref a/\H a=some (.tup (.str s.word :: items))/\items.length=s.form.length/\iq H (jm s.form items) s.subs:=by
 cases s with
 | holds w c=>obtain ⟨a,e,h⟩:=h; exact ⟨a,_,e,h,rfl,by simp only [jm,Sy.form,Oz,Pb,O6,ns1,ns2]; exact .nil⟩
 | sees w=>obtain ⟨a,e,h⟩:=h; exact ⟨a,_,e,h,rfl,by simp only [jm,Sy.form,Oz,Pb,O6,ns3]; exact .nil⟩
 | not s=>obtain ⟨a,x,e,h,r⟩:=h; exact ⟨a,_,e,h,rfl,by simp only [jm,Sy.form,Oz,Pb,O6,decide_true]; exact .cons r .nil⟩
 | and s t=>obtain ⟨a,x,y,e,h,r,q⟩:=h; exact ⟨a,_,e,h,rfl,by simp only [jm,Sy.form,Oz,Pb,O6,decide_true]; exact .cons r (.cons q .nil)⟩
 | or s t=>obtain ⟨a,x,y,e,h,r,q⟩:=h; exact ⟨a,_,e,h,rfl,by simp only [jm,Sy.form,Oz,Pb,O6,decide_true]; exact .cons r (.cons q .nil)⟩
 | knows w s=>obtain ⟨a,x,e,h,r⟩:=h; exact ⟨a,_,e,h,rfl,by simp only [jm,Sy.form,Oz,Pb,O6,decide_true,ns3]; exact .cons r .nil⟩
 | all g s=>obtain ⟨a,b,x,e,h,i,r⟩:=h; exact ⟨a,_,e,h,rfl,by simp only [jm,Sy.form,Oz,Pb,O6,decide_true,ns4]; exact .cons r .nil⟩
 | common g s=>obtain ⟨a,b,x,e,h,i,r⟩:=h; exact ⟨a,_,e,h,rfl,by simp only [jm,Sy.form,Oz,Pb,O6,decide_true,ns4]; exact .cons r .nil⟩
set_option genInjectivity false in
structure Glo where
 forms:Addr
 cw:Addr
 f1:Addr
 f2:Addr
 f3:Addr
 f4:Addr
 f5:Addr
 f6:Addr
 f7:Addr
 f8:Addr
noncomputable def Glo.kvs (G:Glo):List (Str×V):=[("holds",.ref G.f1),("not",.ref G.f2),("and",.ref G.f3),("or",.ref G.f4),("knows",.ref G.f5),("all",.ref G.f6),("common",.ref G.f7),("sees",.ref G.f8)]
structure wD (K:Fg) (G:Glo):Prop where
 t1:lN K G.f1 [.str "holder",.str "card"]
 t2:lN K G.f2 [.str "saying"]
 t3:lN K G.f3 [.str "saying",.str "saying"]
 t4:lN K G.f4 [.str "saying",.str "saying"]
 t5:lN K G.f5 [.str "hand",.str "saying"]
 t6:lN K G.f6 [.str "hands",.str "saying"]
 t7:lN K G.f7 [.str "hands",.str "saying"]
 t8:lN K G.f8 [.str "hand"]
theorem wD.form {K:Fg} {G:Glo} (g:wD K G) (s:Sy):∃ f,G.kvs.lookup s.word=some (.ref f)/\lN K f (s.form.map V.str):=by
 cases s with
 | holds w c=>exact ⟨G.f1,rfl,g.t1⟩
 | sees w=>exact ⟨G.f8,rfl,g.t8⟩
 | not s=>exact ⟨G.f2,rfl,g.t2⟩
 | and s t=>exact ⟨G.f3,rfl,g.t3⟩
 | or s t=>exact ⟨G.f4,rfl,g.t4⟩
 | knows w s=>exact ⟨G.f5,rfl,g.t5⟩
 | all g' s=>exact ⟨G.f6,rfl,g.t6⟩
 | common g' s=>exact ⟨G.f7,rfl,g.t7⟩
theorem mL (x:V) (xs:List V):atI (x :: xs) 0=some x:=by
 have:atI (x :: xs) ((0:Nat):Int)=some x:=cP rfl
 exact this
theorem Gx (form:List Str) (items:List V) (i:Nat) (f:Str) (x:V) (hf:form[i]?=some f) (hx:items[i]?=some x):jm (form.take (i + 1)) (items.take (i + 1))=jm (form.take i) (items.take i)++(if f="saying" then [x] else []):=by
 unfold jm
 have e:(form.take (i + 1)).zip (items.take (i + 1))=(form.take i).zip (items.take i)++[(f,x)]:=by
  rw [OF,OF,hf,hx]
  rw [List.zip_append (by
   have h1:=(M4.mp hf).1
   have h2:=(M4.mp hx).1
   rw [OM,OM]
   omega)]
  rfl
 rw [e,RS,Nr]
 congr 1
 by_cases h:f="saying"
 ·rw [if_pos h,N8 (by simpa using h)]
  rfl
 ·rw [if_neg h,Oi (by simpa using h)]
  rfl
theorem Il (form:List Str) (items:List V):(jm form items).length<=form.length:=by
 unfold jm
 rw [MY]
 refine NH (Tv _ _) ?_
 rw [OK]
 omega
theorem Sy.form_len (s:Sy):s.form.length<=2:=by cases s <;> simp [Sy.form]
theorem nV {H:Hp} {xs:List V} {ss:List Sy} {i:Nat} {x:V} (h:iq H xs ss) (e:xs[i]?=some x):∃ s,ss[i]?=some s/\aU H x s:=mw h e
theorem hU {H:Hp} {xs:List V} {ss:List Sy} (h:iq H xs ss):xs.length=ss.length:=by
 induction h with
 | nil=>rfl
 | cons _ _ ih=>rw [NC,NC,ih]
end L2
end
section
namespace L2
open PySem
noncomputable def LF (t1 t2:String):Bool:=t1 == t2 || (t1 == "bool" && t2 == "int")
noncomputable def Gy:List String:=["NoneType","bool","int","str","tuple","list","dict"]
noncomputable def Dt:List String:=["bool","int","str","tuple","list"]
theorem BB (K:Fg) (t:String):NR K (.type t) (.type t)=some true:=by unfold NR; rw [if_pos (beq_self_eq_true _)]
theorem LI {K:Fg} {t1 t2:String} {b:Bool} (h:(if (Om t1 == Om t2)=true then some true else if S6 t2=true then (Ts t1).map (·.contains (.type t2)) else none)=some b):NR K (.type t1) (.type t2)=some b:=h
theorem Du (K:Fg):∀ t1∈Gy,∀ t2∈Dt,NR K (.type t1) (.type t2)=some (LF t1 t2):=by
 have go:∀ t1∈Gy,∀ t2∈Dt,(if (Om t1 == Om t2)=true then some true else if S6 t2=true then (Ts t1).map (·.contains (.type t2)) else none)=some (LF t1 t2):=by decide +kernel
 exact fun t1 h1 t2 h2=>LI (go t1 h1 t2 h2)
end L2
end
namespace L2
open PySem PyProof.Rows
section
variable {K:Fg} {vs:List V} {H:Hp} {Q:VK} {E:XK}
open KF
open Classical in
noncomputable def blV (n:Nat) (P:Nat->Prop):List V:=(Nw n).map fun i=>V.bl (decide (P i))
theorem cdf {p:Prop} (h:¬ p):false=@decide p (NZ p):=(@decide_eq_false p (NZ p) h).symm
theorem cdt {p:Prop} (h:p):true=@decide p (NZ p):=(@decide_eq_true p (NZ p) h).symm
theorem cde {p q:Prop} [i:Decidable p] (h:p↔q):decide p=@decide q (NZ q):=@decide_eq_decide p q i (NZ q) |>.mpr h
section
open Classical
variable {n i:Nat} {P P':Nat->Prop}
theorem br (n:Nat) (P:Nat->Prop):(blV n P).length=n:=by unfold blV; simp
theorem ku (h:i < n):(blV n P)[i]?=some (.bl (decide (P i))):=by unfold blV; rw [Ng,OE h]; rfl
theorem BC (h:i < n):atI (blV n P) (i:Int)=some (.bl (decide (P i))):=cP (ku h)
theorem eI {x:V} (h:(blV n P)[i]?=some x):i < n/\x=.bl (decide (P i)):=by
 have hi:i < n:=by have:=(M4.mp h).1; rw [br] at this; exact this
 rw [ku hi] at h
 exact ⟨hi,(Nf h).symm⟩
theorem lD (h:∀ i,i < n->(P i↔P' i)):blV n P=blV n P':=by
 unfold blV
 refine Pd fun i hi=>?_
 rw [show P i=P' i from propext (h i (OT.mp hi))]
theorem cb (n:Nat) (P:Nat->Prop):blV (n + 1) P=blV n P++[.bl (decide (P n))]:=by unfold blV; rw [PP,Nr]; rfl
theorem Kg (h:i < n) {b:Bool} (hb:∀ j,j < n->j≠i->(P j↔P' j)) (hi:b=decide (P' i)):(blV n P).set i (.bl b)=blV n P':=by
 refine Px fun k=>?_
 rw [Qr,br]
 by_cases e:i=k
 ·subst e
  rw [if_pos rfl,if_pos h,ku h,hi]
 ·rw [if_neg e]
  by_cases hk:k < n
  ·rw [ku hk,ku hk,show P k=P' k from propext (hb k hk (fun z=>e z.symm))]
  ·rw [NJ (by rw [br]; omega),NJ (by rw [br]; omega)]
theorem BD (n:Nat) (h:∀ i,P i):(NN n [V.bl true]).flatten=blV n P:=by
 induction n with
 | zero=>rfl
 | succ n ih=>
  rw [cb,<-ih,Qz,List.flatten_append,decide_eq_true (h n)]
  simp
theorem Im (n:Nat) (P:Nat->Prop):∀ x∈blV n P,wA x=true:=fun x hx=>by
 unfold blV at hx
 obtain ⟨i,_,rfl⟩:=Oo.mp hx
 rfl
end
noncomputable def tQ (_:Fg):Sp:=fun vs H Q _=>∃ (a b:Addr) (n:Nat) (P P':Nat->Prop),vs=[.ref a,.ref b]/\H a=some (.lst (blV n P))/\H b=some (.lst (blV n P'))/\n<=100000/\
 ∀ p H',H p=none->am H H'->H' p=some (.lst (blV n fun i=>P i/\P' i))->Q (.ref p) H'
noncomputable def wE (K:Fg):TS:=(aJ (bu (lM aQ aQ K (ac (aa 0) (ac (aa 1) ag))) (fun _ _ _ _=>(cZ K 2 (aW (aj 0) (aW (aj 1) cY)))) (fun _ _ _ _=>aV) (fun _ _ _ _=>(ie (aa 0) (aa 1))) [none,none]))
section
open Classical
theorem Kh (h:tQ K vs H Q E):wE K { nx:=fun _ H'=>Q .non H',rt:=Q } (start ["ones","others"] vs) H:=by
 obtain ⟨a,b,n,P,P',rfl,ea,eb,hn,q⟩:=h
 show wE K _ [some _,some _] _
 unfold wE
 walk_at "rd"
 refine mS (S1:=aQ) (S2:=aQ) _ _ (SqL.of ea) (SqL.of eb) (fun H' s=>s.seq (SqL.of ea)) (fun H' s=>s.seq (SqL.of eb)) (by rw [br]; omega) (fun i acc _=>acc=blV i fun i=>P i/\P' i) (fun _ _=>rfl) ?_ ?_
 ·rintro p hp C s' H' fp i x y T acc H2 H3 hx hy ⟨s2,e2,l2,rfl⟩ hT s3 e3 e4
  obtain ⟨hi,rfl⟩:=eI hx
  obtain ⟨_,rfl⟩:=eI hy
  walk_at "rd"
  refine dM (SqT.of e3) ?_
  walk_at "rd"
  by_cases h:P i
  ·rw [decide_eq_true h]
   refine lL ?_
   walk_at "rd"
   refine bf.put hp (fun _ _ _ _ r _=>r) (s2.trans s3) e4 l2 ?_
   rw [cb]
   congr 3
   exact decide_eq_decide.mpr ⟨fun q=>⟨h,q⟩,fun q=>q.2⟩
  ·rw [decide_eq_false h]
   refine lK ?_
   refine bf.put hp (fun _ _ _ _ r _=>r) (s2.trans s3) e4 l2 ?_
   rw [cb]
   congr 3
   exact cdf fun q=>h q.1
 ·rintro p acc H2 hp s2 e2 rfl
  rw [br,br,PH] at e2
  exact q _ _ hp s2 e2
end
noncomputable def rZ (_:Fg):Sp:=fun vs H Q _=>∃ (a b:Addr) (n:Nat) (P P':Nat->Prop),vs=[.ref a,.ref b]/\H a=some (.lst (blV n P))/\H b=some (.lst (blV n P'))/\n<=100000/\
 ∀ p H',H p=none->am H H'->H' p=some (.lst (blV n fun i=>P i\/P' i))->Q (.ref p) H'
noncomputable def qj (K:Fg):TS:=(aJ (bu (lM aQ aQ K (ac (aa 0) (ac (aa 1) ag))) (fun _ _ _ _=>(cZ K 2 (aW (aj 0) (aW (aj 1) cY)))) (fun _ _ _ _=>aV) (fun _ _ _ _=>(yg (aa 0) (aa 1))) [none,none]))
section
open Classical
theorem Gz (h:rZ K vs H Q E):qj K { nx:=fun _ H'=>Q .non H',rt:=Q } (start ["ones","others"] vs) H:=by
 obtain ⟨a,b,n,P,P',rfl,ea,eb,hn,q⟩:=h
 show qj K _ [some _,some _] _
 unfold qj
 walk_at "rd"
 refine mS (S1:=aQ) (S2:=aQ) _ _ (SqL.of ea) (SqL.of eb) (fun H' s=>s.seq (SqL.of ea)) (fun H' s=>s.seq (SqL.of eb)) (by rw [br]; omega) (fun i acc _=>acc=blV i fun i=>P i\/P' i) (fun _ _=>rfl) ?_ ?_
 ·rintro p hp C s' H' fp i x y T acc H2 H3 hx hy ⟨s2,e2,l2,rfl⟩ hT s3 e3 e4
  obtain ⟨hi,rfl⟩:=eI hx
  obtain ⟨_,rfl⟩:=eI hy
  walk_at "rd"
  refine dM (SqT.of e3) ?_
  walk_at "rd"
  by_cases h:P i
  ·rw [decide_eq_true h]
   refine lL ?_
   refine bf.put hp (fun _ _ _ _ r _=>r) (s2.trans s3) e4 l2 ?_
   rw [cb]
   congr 3
   exact cdt (.inl h)
  ·rw [decide_eq_false h]
   refine lK ?_
   walk_at "rd"
   refine bf.put hp (fun _ _ _ _ r _=>r) (s2.trans s3) e4 l2 ?_
   rw [cb]
   congr 3
   exact decide_eq_decide.mpr ⟨.inr,fun q=>q.resolve_left h⟩
 ·rintro p acc H2 hp s2 e2 rfl
  rw [br,br,PH] at e2
  exact q _ _ hp s2 e2
end
noncomputable def KN (n:Nat) (v:List Nat) (P:Nat->Prop) (i:Nat):Prop:=∀ j,j < n->v.getD j 0=v.getD i 0->P j
theorem dH {n:Nat} {v:List Nat} (h:Within n v) {i:Nat} (hi:i < n):v[i]?=some (v.getD i 0)/\v.getD i 0 < n:=by
 have hl:i < v.length:=by rw [h.1]; exact hi
 have e:v[i]?=some (v.getD i 0):=by rw [Ni,MZ hl]; rfl
 exact ⟨e,h.2 _ (M9 e)⟩
noncomputable def kB (_:Fg):Sp:=fun vs H Q _=>∃ (a b:Addr) (n:Nat) (v:List Nat) (P:Nat->Prop),vs=[.ref a,.ref b]/\H a=some (.lst (au v))/\H b=some (.lst (blV n P))/\Within n v/\n<=100000/\
 ∀ p H',H p=none->am H H'->H' p=some (.lst (blV n (KN n v P)))->Q (.ref p) H'
noncomputable def tS (K:Fg):TS:=(ap (aH (tOp Hz (dZ (ac (tC (.bl true)) ag)) (tCB (eW K) (ac (aa 0) ag))) (aj 2))
 (ap (cU (lM aQ aQ K (ac (aa 0) (ac (aa 1) ag))) (cZ K 2 (aW (aj 3) (aW (aj 4) cY))) (bp (dq (tB (aa 4))) (aH (tC (.bl false)) (kh (aa 2) (aa 3) kP)) aY))
 (aJ (bu (cc K (aa 0)) (fun _ _ _ _=>(aj 0)) (fun _ _ _ _=>aV) (fun _ _ _ _=>(tOp (ca K) (aa 1) (aa 0))) [none,some 2]))))
section
open Classical
theorem Io (h:kB K vs H Q E):tS K { nx:=fun _ H'=>Q .non H',rt:=Q } (start ["view","truths","sure","least","truth"] vs) H:=by
 obtain ⟨a,b,n,v,P,rfl,ea,eb,hv,hn,q⟩:=h
 show tS K _ [some _,some _,none,none,none] _
 unfold tS
 have hvl:=hv.1
 walk_at "rd"
 refine ⟨by simp [M8],fun l H1 hl s1 e1=>?_⟩
 walk_at "rd"
 refine tI (SqL.of (s1 _ _ ea)) ?_
 walk_at "rd"
 rw [aR,hvl]
 refine ⟨l,(n:Int),[.bl true],rfl,rfl,e1,by omega,by omega,by rw [M8]; simp; omega,fun p H2 hp s2 e2=>?_⟩
 rw [Qq,BD (P:=fun x=>∀ j,j < 0->v.getD j 0=x->P j) n (fun _ j h=>absurd h (by omega))] at e2
 have s02:=s1.trans s2
 have hpH:H p=none:=s1.free hp
 walk_at "rd"
 refine Lw (S1:=aQ) (S2:=aQ) (au v) (blV n P) (SqL.of (s02 _ _ ea)) (SqL.of (s02 _ _ eb)) (fun i σ H3=>∃ (u1 u2:Option V),σ=[some (.ref a),some (.ref b),some (.ref p),u1,u2]/\am H H3/\H3 p=some (.lst (blV n fun x=>∀ j,j < i->v.getD j 0=x->P j))) ?_ ?_ ?_ ?_
 ·exact ⟨_,_,rfl,s02,e2⟩
 ·rintro i σ H3 ⟨u1,u2,rfl,s3,e3⟩
  exact ⟨SqL.of (s3 _ _ ea),SqL.of (s3 _ _ eb)⟩
 ·rintro i x y T σ H3 H4 hx hy ⟨u1,u2,rfl,s3,e3⟩ hT s4 eT
  obtain ⟨hi,rfl⟩:=eI hy
  obtain ⟨z,hz,rfl⟩:=eY hx
  obtain ⟨hz',hzn⟩:=dH hv hi
  rw [hz] at hz'
  have ez:z=v.getD i 0:=Nf hz'
  refine dM (SqT.of eT) ?_
  walk_at "rd"
  by_cases h:P i
  ·rw [decide_eq_true h]
   walk_at "rd"
   refine ⟨_,_,rfl,s3.trans s4,?_⟩
   rw [s4 _ _ e3]
   congr 2
   refine lD fun x _=>⟨fun f j hj e=>?_,fun f j hj e=>f j (by omega) e⟩
   by_cases c:j=i
   ·rw [c]; exact h
   ·exact f j (by omega) e
  ·rw [decide_eq_false h]
   walk_at "rd"
   refine mQ (s4 _ _ e3) (yt (by rw [br,ez]; exact hzn)) ?_
   refine ⟨_,_,rfl,(s3.trans s4).off hpH ij,?_⟩
   rw [az]
   congr 2
   refine Kg (by rw [ez]; exact hzn) (fun x _ hxz=>⟨fun f j hj e=>?_,fun f j hj e=>f j (by omega) e⟩) ?_
   ·by_cases c:j=i
    ·subst c
     exact absurd (e.symm.trans ez.symm) hxz
    ·exact f j (by omega) e
   ·exact cdf fun f=>h (f i (by omega) ez.symm)
 ·rintro σ H3 ⟨u1,u2,rfl,s3,e3⟩
  rw [aR,br,hvl,PH] at e3
  walk_at "rd"
  refine cF (au v) (SqL.of (s3 _ _ ea)) (by rw [aR]; omega) (fun i acc _=>acc=blV i (KN n v P)) (fun _ _=>rfl) ?_ ?_
  ·rintro r hr C s' H' fp i x acc H4 hx ⟨s4,e4,l4,rfl⟩
   obtain ⟨z,hz,rfl⟩:=eY hx
   have hi:i < n:=by have:=(M4.mp hz).1; omega
   obtain ⟨hz',hzn⟩:=dH hv hi
   rw [hz] at hz'
   have ez:z=v.getD i 0:=Nf hz'
   walk_at "rd"
   refine bI (SqL.of (s4 _ _ e3)) (BC (by rw [ez]; exact hzn)) ?_
   refine bf.put hr (fun _ _ _ _ r _=>r) s4 e4 l4 ?_
   rw [cb]
   congr 3
   rw [ez]
   rfl
  ·rintro r acc H4 hr s4 e4 rfl
   rw [aR,hvl] at e4
   exact q _ _ (s3.free hr) (s3.trans s4) e4
end
noncomputable def jH (_:Fg):Sp:=fun vs H Q _=>∃ (a b:Addr) (n:Nat) (ws:List (List Nat)) (P:Nat->Prop),vs=[.ref a,.ref b]/\ee H a ws/\H b=some (.lst (blV n P))/\(∀ v∈ws,Within n v)/\n<=100000/\
 ∀ p H',H p=none->am H H'->H' p=some (.lst (blV n fun i=>∀ v∈ws,KN n v P i))->Q (.ref p) H'
noncomputable def ir (K:Fg):TS:=(ap (aH (tOp Hz (dZ (ac (tC (.bl true)) ag)) (tCB (eW K) (ac (aa 1) ag))) (aj 2))
 (ap (cU (cc K (aa 0)) (aj 3) (aH (av (tQ K) [] E0 (ac (aa 2) (ac (av (kB K) [] E0 (ac (aa 3) (ac (aa 1) ag))) ag))) (aj 2)))
 (aJ (aa 2))))
theorem wF (h:jH K vs H Q E):ir K { nx:=fun _ H'=>Q .non H',rt:=Q } (start ["views","truths","answers","view"] vs) H:=by
 obtain ⟨a,b,n,ws,P,rfl,hV,eb,hw,hn,q⟩:=h
 show ir K _ [some _,some _,none,none] _
 unfold ir
 obtain ⟨rs,ea,hlr,hr⟩:=mZ hV
 walk_at "rd"
 refine ⟨by simp [M8],fun l H1 hl s1 e1=>?_⟩
 walk_at "rd"
 refine tI (SqL.of (s1 _ _ eb)) ?_
 walk_at "rd"
 rw [br]
 refine ⟨l,(n:Int),[.bl true],rfl,rfl,e1,by omega,by omega,by rw [M8]; simp; omega,fun p H2 hp s2 e2=>?_⟩
 rw [Qq,BD (P:=fun i=>∀ v∈ws.take 0,KN n v P i) n (fun _ v h=>by simp at h)] at e2
 have s02:=s1.trans s2
 have hpH:H p=none:=s1.free hp
 walk_at "rd"
 refine oV (rs.map V.ref) (SqL.of (s02 _ _ ea)) (fun i σ H3=>∃ (u1:Option V) (p:Addr),σ=[some (.ref a),some (.ref b),some (.ref p),u1]/\H p=none/\am H H3/\H3 p=some (.lst (blV n fun k=>∀ v∈ws.take i,KN n v P k))) ?_ ?_ ?_ ?_
 ·exact ⟨_,p,rfl,hpH,s02,e2⟩
 ·rintro i σ H3 _ ⟨u1,p,rfl,hp,s3,e3⟩
  exact SqL.of (s3 _ _ ea)
 ·rintro i x σ H3 hx ⟨u1,p,rfl,hp,s3,e3⟩
  obtain ⟨c,hc,rfl⟩:=kt hx
  obtain ⟨v,hv,ev⟩:=hr i c hc
  walk_at "rd"
  refine ⟨c,b,n,v,P,rfl,s3 _ _ ev,s3 _ _ eb,hw v (M9 hv),hn,fun k H4 hk s4 e4=>?_⟩
  walk_at "rd"
  refine ⟨p,k,n,_,_,rfl,s4 _ _ e3,e4,hn,fun k2 H5 hk2 s5 e5=>?_⟩
  have s35:=s4.trans s5
  refine ⟨_,k2,rfl,s3.free (s4.free hk2),s3.trans s35,?_⟩
  rw [e5]
  congr 2
  refine lD fun i _=>?_
  rw [b9 hv]
  exact ⟨fun h w hw=>(NL.mp hw).elim (h.1 w) fun z=>by rw [M0.mp z]; exact h.2,fun h=>⟨fun w hw=>h w (OL _ hw),h v (by simp)⟩⟩
 ·rintro σ H3 ⟨u1,p,rfl,hp,s3,e3⟩
  rw [MY,hlr,NI] at e3
  walk_at "rd"
  exact q _ _ hp s3 e3
noncomputable def Dv (H:Hp) (a:Addr) (ps:List (List Int)):Prop:=∃ rs:List Addr,H a=some (.lst (rs.map V.ref))/\Paired (fun (r:Addr) (xs:List Int)=>H r=some (.tup (xs.map V.int))) rs ps
noncomputable def qk (n:Nat) (ps:List (List Int)) (v:List Nat) (j:Nat):Prop:=ps.getD j []=ps.getD (v.getD j 0) []
noncomputable def yv (_:Fg):Sp:=fun vs H Q _=>∃ (a b:Addr) (n:Nat) (v:List Nat) (ps:List (List Int)),vs=[.ref a,.ref b]/\Dv H a ps/\ps.length=n/\H b=some (.lst (au v))/\Within n v/\n<=100000/\
 ∀ p H',H p=none->am H H'->H' p=some (.lst (blV n (KN n v (qk n ps v))))->Q (.ref p) H'
theorem nW {H:Hp} {rs:List Addr} {ps:List (List Int)} (h:Paired (fun (r:Addr) (xs:List Int)=>H r=some (.tup (xs.map V.int))) rs ps) {i:Nat} (hi:i < ps.length):∃ r,rs[i]?=some r/\H r=some (.tup ((ps.getD i []).map V.int)):=by
 have hl:=NG h
 obtain ⟨r,hr⟩:∃ r,rs[i]?=some r:=⟨_,MZ (by omega)⟩
 obtain ⟨xs,hx,e⟩:=bx h hr
 refine ⟨r,hr,?_⟩
 rw [Ni,hx]
 exact e
noncomputable def wG (K:Fg):TS:=(aJ (av (kB K) [] E0 (ac (aa 1) (ac (bu (lM aQ aQ K (ac (aa 0) (ac (aa 1) ag))) (fun _ _ _ _=>(cZ K 2 (aW (aj 0) (aW (aj 1) cY)))) (fun _ _ _ _=>aV) (fun _ _ _ _=>(tOp (jz (SqT K) false) (aa 0) (tOp (ca K) (aa 2) (aa 1)))) [none,none,some 0]) ag))))
section
open Classical
theorem Ki (h:yv K vs H Q E):wG K { nx:=fun _ H'=>Q .non H',rt:=Q } (start ["piles","view"] vs) H:=by
 obtain ⟨a,b,n,v,ps,rfl,⟨rs,ea,hr⟩,hpl,eb,hv,hn,q⟩:=h
 show wG K _ [some _,some _] _
 unfold wG
 have hlr:rs.length=ps.length:=NG hr
 have hvl:=hv.1
 walk_at "rd"
 refine mS (S1:=aQ) (S2:=aQ) (rs.map V.ref) (au v) (SqL.of ea) (SqL.of eb) (fun H' s=>s.seq (SqL.of ea)) (fun H' s=>s.seq (SqL.of eb)) (by rw [MY]; omega) (fun i acc _=>acc=blV i (qk n ps v)) (fun _ _=>rfl) ?_ ?_
 ·rintro p hp C s' H' fp i x y T acc H2 H3 hx hy ⟨s2,e2,l2,rfl⟩ hT s3 e3 e4
  obtain ⟨c,hc,rfl⟩:=kt hx
  obtain ⟨z,hz,rfl⟩:=eY hy
  have hi:i < n:=by have:=(M4.mp hz).1; omega
  obtain ⟨hz',hzn⟩:=dH hv hi
  rw [hz] at hz'
  have ez:z=v.getD i 0:=Nf hz'
  obtain ⟨c',hc',ec⟩:=nW hr (i:=i) (by omega)
  rw [hc] at hc'
  cases hc'
  obtain ⟨d,hd,ed⟩:=nW hr (i:=z) (by omega)
  have s23:=s2.trans s3
  walk_at "rd"
  refine dM (SqT.of e3) ?_
  walk_at "rd"
  refine bI (SqL.of (s23 _ _ ea)) (v:=.ref d) (cP (by rw [Ng,hd]; rfl)) ?_
  walk_at "rd"
  refine Mq (SqT.of (s23 _ _ ec)) (SqT.of (s23 _ _ ed)) ?_
  refine bf.put hp (fun _ _ _ _ r _=>r) s23 e4 l2 ?_
  rw [cb]
  congr 3
  rw [ez]
  exact cde VX
 ·rintro p acc H2 hp s2 e2 rfl
  rw [MY,aR,hlr,hpl,hvl,PH] at e2
  walk_at "rd"
  exact ⟨b,p,n,v,_,rfl,s2 _ _ eb,e2,hv,hn,fun r H3 hr s3 e3=>q r H3 (s2.free hr) (s2.trans s3) e3⟩
end
end
section
open KF
noncomputable def TR (n:Nat) (ws vs:List (List Nat)):Sy->Nat->Prop
 | .holds w c,i=>(ws.getD i []).getD c 0=w
 | .sees h,i=>KN n (vs.getD h []) (qk n (ws.map fun w=>eQ w (vs.length:Nat)) (vs.getD h [])) i
 | .not s,i=>¬ TR n ws vs s i
 | .and s t,i=>TR n ws vs s i/\TR n ws vs t i
 | .or s t,i=>TR n ws vs s i\/TR n ws vs t i
 | .knows h s,i=>KN n (vs.getD h []) (TR n ws vs s) i
 | .all g s,i=>∀ v∈g.map (fun h=>vs.getD h []),KN n v (TR n ws vs s) i
 | .common g s,i=>∀ j,j < n->eF (i6 n (g.map fun h=>vs.getD h [])) i j->TR n ws vs s j
theorem wH {n:Nat} {P:Nat->Nat->Prop} {r:List Nat} (h:rW n P r) {i j:Nat} (hi:i < n) (hj:j < n):r.getD j 0=r.getD i 0↔eF P i j:=by
 have ei:r[i]?=some (r.getD i 0):=by rw [Ni,MZ (by rw [h.len]; exact hi)]; rfl
 have ej:r[j]?=some (r.getD j 0):=by rw [Ni,MZ (by rw [h.len]; exact hj)]; rfl
 constructor
 ·intro e
  have c1:=h.conn _ _ ei
  have c2:=h.conn _ _ ej
  rw [e] at c2
  exact .trans c1 (.symm c2)
 ·intro c
  have:=h.same i j hi hj c
  rw [ei,ej] at this
  exact (Nf this).symm
theorem CU {n:Nat} {P:Nat->Nat->Prop} {r:List Nat} (h:rW n P r):Within n r:=⟨h.len,fun x hx=>by
 obtain ⟨i,hi⟩:=Rc.mp hx
 have:=h.le i x hi
 have:=(M4.mp hi).1
 rw [h.len] at this
 omega⟩
theorem Kj {n:Nat} {P:Nat->Nat->Prop} {r:List Nat} (h:rW n P r) {F:Nat->Prop} {i:Nat} (hi:i < n):KN n r F i↔∀ j,j < n->eF P i j->F j:=
 ⟨fun k j hj c=>k j hj ((wH h hi hj).mpr c),fun k j hj e=>k j hj ((wH h hi hj).mp e)⟩
theorem wI:∀ {g:List Nat} {m:Nat},g.Pairwise (· < ·)->(∀ k∈g,k < m)->g.length<=m:=by
 intro g m hp hk
 have go:∀ (l:List Nat) (lo:Nat),l.Pairwise (· < ·)->(∀ k∈l,lo<=k/\k < m)->l.length + lo<=m\/l=[]:=by
  intro l
  induction l with
  | nil=>intro _ _ _; exact .inr rfl
  | cons x r ih=>
   intro lo hp hk
   obtain ⟨h1,h2⟩:=RV.mp hp
   have hx:=hk x (M7 ..)
   rcases ih (x + 1) h2 (fun k hkr=>⟨h1 k hkr,(hk k (Nh _ hkr)).2⟩) with h | h
   ·left; rw [NC]; omega
   ·left; rw [h]; simp; omega
 rcases go g 0 hp (fun k h=>⟨N3 _,hk k h⟩) with h | h
 ·omega
 ·rw [h]; simp
structure Table (H:Hp) (a b:Addr) (c n:Nat) (ws vs:List (List Nat)):Prop where
 deals:ba H a ws
 len:ws.length=n
 cards:∀ w∈ws,w.length=c
 small:n<=100000
 few:c<=1000
 views:ee H b vs
 win:∀ v∈vs,Within n v
 hands:vs.length<=1000
theorem Table.same {H H':Hp} {a b:Addr} {c n:Nat} {ws vs:List (List Nat)} (t:Table H a b c n ws vs) (s:am H H'):Table H' a b c n ws vs:=⟨t.deals.same' s,t.len,t.cards,t.small,t.few,t.views.same s,t.win,t.hands⟩
theorem gK {ws:List (List Nat)} {i:Nat} {w:List Nat} (h:ws[i]?=some w):ws.getD i []=w:=by rw [Ni,h]; rfl
theorem ju {H:Hp} {b:Addr} {vs:List (List Nat)} (h:ee H b vs) {k:Nat} (hk:k < vs.length):∃ (rs:List Addr) (r:Addr),H b=some (.lst (rs.map V.ref))/\atI (rs.map V.ref) (k:Int)=some (.ref r)/\H r=some (.lst (au (vs.getD k [])))/\vs.getD k []∈vs:=by
 obtain ⟨rs,e,hl,hr⟩:=mZ h
 obtain ⟨r,hrk⟩:∃ r,rs[k]?=some r:=⟨_,MZ (by omega)⟩
 obtain ⟨v,hv,ev⟩:=hr k r hrk
 refine ⟨rs,r,e,cP (by rw [Ng,hrk]; rfl),?_,?_⟩
 ·rw [gK hv]; exact ev
 ·rw [gK hv]; exact M9 hv
noncomputable def cj (_:Fg) (m:Nat):Sp:=fun vals H Q _=>∃ (a b:Addr) (x:V) (c n:Nat) (ws vs:List (List Nat)) (s:Sy),vals=[.ref a,.ref b,x]/\Table H a b c n ws vs/\aU H x s/\s.Ok c vs.length/\s.words<=m/\
 ∀ p H',H p=none->am H H'->H' p=some (.lst (blV n (TR n ws vs s)))->Q (.ref p) H'
noncomputable def k9 (K:Fg) (n:Nat):TS:=(ap (aH (tOp (bX K) (aa 2) (tC (.int 0))) (aj 3))
 (ap (bp (be (tOp rEq (aa 3) (tC (.str "holds")))) (aJ (bu (cc K (aa 0)) (fun _ _ _ _=>(aj 0)) (fun _ _ _ _=>aV) (fun _ _ _ _=>(tOp rEq (tOp (bX K) (aa 0) (tOp (bX K) (aa 1) (tC (.int 2)))) (tOp (bX K) (aa 1) (tC (.int 1))))) [none,some 2])) aY)
 (ap (bp (be (tOp rEq (aa 3) (tC (.str "sees")))) (aJ (av (yv K) [] E0 (ac (bu (cc K (aa 0)) (fun _ _ _ _=>(aj 0)) (fun _ _ _ _=>aV) (fun _ _ _ _=>(av (kY K) [] E0 (ac (aa 0) (ac (tCB (eW K) (ac (aa 1) ag)) ag)))) [none,some 1]) (ac (tOp (ca K) (aa 1) (tOp (bX K) (aa 2) (tC (.int 1)))) ag)))) aY)
 (ap (bp (be (tOp rEq (aa 3) (tC (.str "not")))) (aJ (bu (cc K (av (cj K n) [] E0 (ac (aa 0) (ac (aa 1) (ac (tOp (bX K) (aa 2) (tC (.int 1))) ag))))) (fun _ _ _ _=>(aj 0)) (fun _ _ _ _=>aV) (fun _ _ _ _=>(vV (aa 0))) [none])) aY)
 (ap (bp (be (tOp rEq (aa 3) (tC (.str "and")))) (aJ (av (tQ K) [] E0 (ac (av (cj K n) [] E0 (ac (aa 0) (ac (aa 1) (ac (tOp (bX K) (aa 2) (tC (.int 1))) ag)))) (ac (av (cj K n) [] E0 (ac (aa 0) (ac (aa 1) (ac (tOp (bX K) (aa 2) (tC (.int 2))) ag)))) ag)))) aY)
 (ap (bp (be (tOp rEq (aa 3) (tC (.str "or")))) (aJ (av (rZ K) [] E0 (ac (av (cj K n) [] E0 (ac (aa 0) (ac (aa 1) (ac (tOp (bX K) (aa 2) (tC (.int 1))) ag)))) (ac (av (cj K n) [] E0 (ac (aa 0) (ac (aa 1) (ac (tOp (bX K) (aa 2) (tC (.int 2))) ag)))) ag)))) aY)
 (ap (aH (av (cj K n) [] E0 (ac (aa 0) (ac (aa 1) (ac (tOp (bX K) (aa 2) (tC (.int 2))) ag)))) (aj 4))
 (ap (bp (be (tOp rEq (aa 3) (tC (.str "knows")))) (aJ (av (kB K) [] E0 (ac (tOp (ca K) (aa 1) (tOp (bX K) (aa 2) (tC (.int 1)))) (ac (aa 4) ag)))) aY)
 (ap (aH (bu (rA K (tOp (bX K) (aa 2) (tC (.int 1)))) (fun _ _ _ _=>(aj 0)) (fun _ _ _ _=>aV) (fun _ _ _ _=>(tOp (ca K) (aa 1) (aa 0))) [none,some 1]) (aj 5))
 (ap (bp (be (tOp rEq (aa 3) (tC (.str "all")))) (aJ (av (jH K) [] E0 (ac (aa 5) (ac (aa 4) ag)))) aY)
 (aJ (av (kB K) [] E0 (ac (av (rY K) [] E0 (ac (tCB (eW K) (ac (aa 0) ag)) (ac (aa 5) ag))) (ac (aa 4) ag))))))))))))))
noncomputable abbrev CV:List Str:=["deals","views","S","word","inner","some"]
theorem r9 {K:Fg} {vs:List V} {H:Hp} {Q:VK} {E:XK} (h:cj K 0 vs H Q E):False:=by
 obtain ⟨a,b,x,c,n,ws,vs,s,rfl,_,_,_,h,_⟩:=h
 have:=s.words_pos
 omega
theorem wJ {H:Hp} {rs:List Addr} {ps:List (List Int)} {r:Addr} {xs:List Int} (h:Paired (fun (r:Addr) (xs:List Int)=>H r=some (.tup (xs.map V.int))) rs ps) (e:H r=some (.tup (xs.map V.int))):Paired (fun (r:Addr) (xs:List Int)=>H r=some (.tup (xs.map V.int))) (rs++[r]) (ps++[xs]):=by
 induction h with
 | nil=>exact .cons e .nil
 | cons a _ ih=>exact .cons a ih
theorem Ez {H:Hp} {rs:List Addr} {vs:List (List Nat)} {r:Addr} {v:List Nat} (h:Paired (fun (r:Addr) (v:List Nat)=>H r=some (.lst (au v))) rs vs) (e:H r=some (.lst (au v))):Paired (fun (r:Addr) (v:List Nat)=>H r=some (.lst (au v))) (rs++[r]) (vs++[v]):=by
 induction h with
 | nil=>exact .cons e .nil
 | cons a _ ih=>exact .cons a ih
theorem GB {K:Fg} {H:Hp} {b e:Addr} {g:List Nat} {vs:List (List Nat)} {Q:VK} {σ₀:St} {gg:CF TG} {tt:CF TT} {te:CF TE} (hV:ee H b vs) (hg:∀ k∈g,k < vs.length) (hgl:g.length<=1000) (eg:H e=some (.tup (au g)))
  (hs:∀ C s' H' fp (k:Nat) (rs:List Addr) (r:Addr) H2 (R:V->Hp->Prop) (N:Hp->Prop),H2 b=some (.lst (rs.map V.ref))->atI (rs.map V.ref) (k:Int)=some (.ref r)->R (.ref r) H2->gg C s' H' fp (.int (k:Int)) σ₀ H2 fun σ2 H3=>tt C s' H' fp σ2 H3 fun c H4=>if c=true then te C s' H' fp σ2 H4 fun y H5=>R y H5 else N H4)
  (q:∀ p H',H p=none->am H H'->ee H' p (g.map fun h=>vs.getD h [])->Q (.ref p) H'):
  ∃ a',V.ref e=.ref a'/\(∃ xs,SqT K H a' xs)/\∀ p,H p=none->∃ W:Nat->Nat->List V->Hp->Prop,(∃ m,W 0 m [] (upd H p (.lst [])))/\∀ C s' H' fp,bO (Itt K a') (gg C s' H' fp) (tt C s' H' fp) (te C s' H' fp) σ₀ p Q W:=by
 obtain ⟨rs,eb,hl,hr⟩:=mZ hV
 refine ⟨e,rfl,⟨_,SqT.of eg⟩,fun p hp=>Ht (xs:=au g) (fun i acc H2=>am H H2/\H2 p=some (.lst acc)/\acc.length<=i/\∃ ts:List Addr,acc=ts.map V.ref/\Paired (fun (r:Addr) (v:List Nat)=>H r=some (.lst (au v))) ts ((g.take i).map fun h=>vs.getD h [])) ⟨bg hp _,az,M1 _,[],rfl,.nil⟩ (fun i acc H2 _ c=>⟨c.2.1,c.2.2.1⟩) (fun i acc H2 _ c=>c.1.tup (SqT.of eg)) (by rw [aR,M8]; omega) (fun C s' H' fp i x acc H2 hx c=>?_) fun acc H2 c=>?_⟩
 ·obtain ⟨k,hk,rfl⟩:=eY hx
  have hkm:=hg k (M9 hk)
  obtain ⟨r,hrk⟩:∃ r,rs[k]?=some r:=⟨_,MZ (by omega)⟩
  obtain ⟨v,hv,ev⟩:=hr k r hrk
  obtain ⟨s2,e2,l2,ts,rfl,ht⟩:=c
  refine hs C s' H' fp k rs r H2 _ _ (s2 _ _ eb) (cP (by rw [Ng,hrk]; rfl)) ⟨e2,s2.upd hp _,az,by simp at l2 ⊢; omega,ts++[r],by simp,?_⟩
  rw [b9 hk,Nr]
  exact Ez ht (by show H r=some (.lst (au (vs.getD k []))); rw [gK hv]; exact ev)
 ·obtain ⟨s2,e2,l2,ts,rfl,ht⟩:=c
  rw [aR,NI] at ht
  exact q p H2 hp s2 ⟨ts,e2,Paired.mapP ht fun r v h=>s2 _ _ h⟩
section
open Classical
theorem BE {K:Fg} {m:Nat} {vals:List V} {H:Hp} {Q:VK} {E:XK} (h:cj K (m + 1) vals H Q E):k9 K m { nx:=fun _ H'=>Q .non H',rt:=Q } (start CV vals) H:=by
 obtain ⟨a,b,x,c,n,ws,vs,s,rfl,T,hS,hok,hw,q⟩:=h
 show k9 K m _ [some _,some _,some _,none,none,none] _
 unfold k9
 obtain ⟨rs,ea,hr⟩:=id T.deals
 have hlr:rs.length=ws.length:=NG hr
 have hn:=T.small
 have hlen:=T.len
 cases s with
 | holds w k=>
  obtain ⟨t,rfl,et⟩:=hS
  obtain ⟨hwh,hkc⟩:=hok
  walk_at "rd"
  refine aD (SqT.of et) (i:=0) rfl ?_
  walk_at "rd"
  refine cE rfl ?_
  walk_at "rd"
  refine cF (rs.map V.ref) (SqL.of ea) (by rw [MY]; omega) (fun i acc _=>acc=blV i (TR n ws vs (.holds w k))) (fun _ _=>rfl) ?_ ?_
  ·rintro p hp C s' H' fp i x acc H2 hx ⟨s2,e2,l2,rfl⟩
   obtain ⟨d,hd,rfl⟩:=kt hx
   obtain ⟨u,hu,eu⟩:=bx hr hd
   have huc:=T.cards u (M9 hu)
   have e1:u[k]?=some (u.getD k 0):=by rw [Ni,MZ (by omega)]; rfl
   walk_at "rd"
   refine aD (SqT.of (s2 _ _ et)) (i:=2) rfl ?_
   walk_at "rd"
   refine aD (SqT.of (s2 _ _ eu)) (jl e1) ?_
   walk_at "rd"
   refine aD (SqT.of (s2 _ _ et)) (i:=1) rfl ?_
   walk_at "rd"
   refine bf.put hp (fun _ _ _ _ r _=>r) s2 e2 l2 ?_
   rw [cb]
   congr 3
   refine cde ?_
   show _↔(ws.getD i []).getD k 0=w
   rw [gK hu]
   omega
  ·rintro p acc H2 hp s2 e2 rfl
   rw [MY,hlr,hlen] at e2
   exact q _ _ hp s2 e2
 | sees k=>
  obtain ⟨t,rfl,et⟩:=hS
  have hk:k < vs.length:=hok
  walk_at "rd"
  refine aD (SqT.of et) (i:=0) rfl ?_
  walk_at "rd"
  refine aB (by decide) ?_
  walk_at "rd"
  refine cE rfl ?_
  walk_at "rd"
  obtain ⟨vrs,evb,hvl,_⟩:=mZ T.views
  refine cF (rs.map V.ref) (SqL.of ea) (by rw [MY]; omega) (fun i acc H2=>∃ ts:List Addr,acc=ts.map V.ref/\Paired (fun (r:Addr) (xs:List Int)=>H2 r=some (.tup (xs.map V.int))) ts ((ws.take i).map fun w=>eQ w (vs.length:Nat))) (fun _ _=>⟨[],rfl,.nil⟩) ?_ ?_
  ·rintro p hp C s' H' fp i x acc H2 hx ⟨s2,e2,l2,ts,rfl,ht⟩
   obtain ⟨d,hd,rfl⟩:=kt hx
   obtain ⟨u,hu,eu⟩:=bx hr hd
   have huc:=T.cards u (M9 hu)
   have:=T.few
   walk_at "rd"
   refine tI (SqL.of (s2 _ _ evb)) ?_
   walk_at "rd"
   rw [MY,hvl]
   refine ⟨d,u.map fun (s:Nat)=>((s:Nat):Int),(vs.length:Nat),rfl,by rw [<-dk]; exact SqT.of (s2 _ _ eu),by rw [MY]; omega,fun r H3 s3 e3=>?_⟩
   rw [MY] at e3
   refine bf.put hp (fun _ _ _ _ ⟨ts,e,r⟩ k=>⟨ts,e,Paired.mapP r fun _ _ z=>k _ _ z⟩) (s2.trans s3) (s3 _ _ e2) l2 ⟨ts++[r],by simp,?_⟩
   rw [b9 hu,Nr]
   exact wJ (Paired.mapP ht fun _ _ z=>s3 _ _ z) e3
  ·rintro p acc H2 hp s2 e2 ⟨ts,rfl,ht⟩
   rw [MY,hlr,NI] at ht
   walk_at "rd"
   refine aD (SqT.of (s2 _ _ et)) (i:=1) rfl ?_
   walk_at "rd"
   obtain ⟨vr,r,e1,e3,e4,e5⟩:=ju (T.views.same s2) hk
   refine bI (SqL.of e1) e3 ?_
   walk_at "rd"
   exact ⟨p,r,n,vs.getD k [],_,rfl,⟨ts,e2,ht⟩,by rw [MY]; exact hlen,e4,T.win _ e5,hn,fun p2 H3 hp2 s3 e6=>q p2 H3 (s2.free hp2) (s2.trans s3) e6⟩
 | not s=>
  obtain ⟨t,y,rfl,et,hy⟩:=hS
  have hw':s.words<=m:=by simp only [Sy.words] at hw; omega
  walk_at "rd"
  refine aD (SqT.of et) (i:=0) rfl ?_
  walk_at "rd"
  refine aB (by decide) ?_
  walk_at "rd"
  refine aB (by decide) ?_
  walk_at "rd"
  refine cE rfl ?_
  walk_at "rd"
  refine aD (SqT.of et) (i:=1) rfl ?_
  walk_at "rd"
  refine ⟨a,b,y,c,n,ws,vs,s,rfl,T,hy,hok,hw',fun l H1 hl s1 e1=>?_⟩
  walk_at "rd"
  refine cF _ (SqL.of e1) (by rw [br]; omega) (fun i acc _=>acc=blV i (TR n ws vs (.not s))) (fun _ _=>rfl) ?_ ?_
  ·rintro p hp C s' H' fp i x acc H2 hx ⟨s2,e2,l2,rfl⟩
   obtain ⟨hi,rfl⟩:=eI hx
   walk_at "rd"
   refine bf.put hp (fun _ _ _ _ r _=>r) s2 e2 l2 ?_
   rw [cb]
   congr 3
   by_cases z:TR n ws vs s i
   ·rw [decide_eq_true z]; exact cdf fun h=>h z
   ·rw [decide_eq_false z]; exact cdt z
  ·rintro p acc H2 hp s2 e2 rfl
   rw [br] at e2
   exact q _ _ (s1.free hp) (s1.trans s2) e2
 | and s t=>
  obtain ⟨u,y,z,rfl,et,hy,hz⟩:=hS
  have hw1:s.words<=m:=by simp only [Sy.words] at hw; omega
  have hw2:t.words<=m:=by simp only [Sy.words] at hw; omega
  walk_at "rd"
  refine aD (SqT.of et) (i:=0) rfl ?_
  walk_at "rd"
  refine aB (by decide) ?_
  walk_at "rd"
  refine aB (by decide) ?_
  walk_at "rd"
  refine aB (by decide) ?_
  walk_at "rd"
  refine cE rfl ?_
  walk_at "rd"
  refine aD (SqT.of et) (i:=1) rfl ?_
  walk_at "rd"
  refine ⟨a,b,y,c,n,ws,vs,s,rfl,T,hy,hok.1,hw1,fun l H1 hl s1 e1=>?_⟩
  walk_at "rd"
  refine aD (SqT.of (s1 _ _ et)) (i:=2) rfl ?_
  walk_at "rd"
  refine ⟨a,b,z,c,n,ws,vs,t,rfl,T.same s1,hz.keep s1.keep,hok.2,hw2,fun l2 H2 hl2 s2 e2=>?_⟩
  walk_at "rd"
  exact ⟨l,l2,n,_,_,rfl,s2 _ _ e1,e2,hn,fun p H3 hp s3 e3=>q p H3 (s1.free (s2.free hp)) ((s1.trans s2).trans s3) e3⟩
 | or s t=>
  obtain ⟨u,y,z,rfl,et,hy,hz⟩:=hS
  have hw1:s.words<=m:=by simp only [Sy.words] at hw; omega
  have hw2:t.words<=m:=by simp only [Sy.words] at hw; omega
  walk_at "rd"
  refine aD (SqT.of et) (i:=0) rfl ?_
  walk_at "rd"
  refine aB (by decide) ?_
  walk_at "rd"
  refine aB (by decide) ?_
  walk_at "rd"
  refine aB (by decide) ?_
  walk_at "rd"
  refine aB (by decide) ?_
  walk_at "rd"
  refine cE rfl ?_
  walk_at "rd"
  refine aD (SqT.of et) (i:=1) rfl ?_
  walk_at "rd"
  refine ⟨a,b,y,c,n,ws,vs,s,rfl,T,hy,hok.1,hw1,fun l H1 hl s1 e1=>?_⟩
  walk_at "rd"
  refine aD (SqT.of (s1 _ _ et)) (i:=2) rfl ?_
  walk_at "rd"
  refine ⟨a,b,z,c,n,ws,vs,t,rfl,T.same s1,hz.keep s1.keep,hok.2,hw2,fun l2 H2 hl2 s2 e2=>?_⟩
  walk_at "rd"
  exact ⟨l,l2,n,_,_,rfl,s2 _ _ e1,e2,hn,fun p H3 hp s3 e3=>q p H3 (s1.free (s2.free hp)) ((s1.trans s2).trans s3) e3⟩
 | knows k s=>
  obtain ⟨t,y,rfl,et,hy⟩:=hS
  have hw':s.words<=m:=by simp only [Sy.words] at hw; omega
  walk_at "rd"
  refine aD (SqT.of et) (i:=0) rfl ?_
  walk_at "rd"
  refine aB (by decide) ?_
  walk_at "rd"
  refine aB (by decide) ?_
  walk_at "rd"
  refine aB (by decide) ?_
  walk_at "rd"
  refine aB (by decide) ?_
  walk_at "rd"
  refine aB (by decide) ?_
  walk_at "rd"
  refine aD (SqT.of et) (i:=2) rfl ?_
  walk_at "rd"
  refine ⟨a,b,y,c,n,ws,vs,s,rfl,T,hy,hok.2,hw',fun l H1 hl s1 e1=>?_⟩
  walk_at "rd"
  refine cE rfl ?_
  walk_at "rd"
  refine aD (SqT.of (s1 _ _ et)) (i:=1) rfl ?_
  walk_at "rd"
  obtain ⟨vr,r,e2,e3,e4,e5⟩:=ju (T.views.same s1) hok.1
  refine bI (SqL.of e2) e3 ?_
  walk_at "rd"
  exact ⟨r,l,n,vs.getD k [],_,rfl,e4,e1,T.win _ e5,hn,fun p2 H3 hp2 s3 e6=>q p2 H3 (s1.free hp2) (s1.trans s3) e6⟩
 | all g s=>
  obtain ⟨t,u,y,rfl,et,eu,hy⟩:=hS
  have hw':s.words<=m:=by simp only [Sy.words] at hw; omega
  obtain ⟨⟨hpw,hg⟩,hok'⟩:=hok
  walk_at "rd"
  refine aD (SqT.of et) (i:=0) rfl ?_
  walk_at "rd"
  refine aB (by decide) ?_
  walk_at "rd"
  refine aB (by decide) ?_
  walk_at "rd"
  refine aB (by decide) ?_
  walk_at "rd"
  refine aB (by decide) ?_
  walk_at "rd"
  refine aB (by decide) ?_
  walk_at "rd"
  refine aD (SqT.of et) (i:=2) rfl ?_
  walk_at "rd"
  refine ⟨a,b,y,c,n,ws,vs,s,rfl,T,hy,hok',hw',fun l H1 hl s1 e1=>?_⟩
  walk_at "rd"
  refine aB (by decide) ?_
  walk_at "rd"
  refine aD (SqT.of (s1 _ _ et)) (i:=1) rfl ?_
  refine GB (T.views.same s1) hg (NH (wI hpw hg) T.hands) (s1 _ _ eu) ?_ ?_
  ·intro C s' H' fp k rs r H2 R N e2 e3 hR
   walk_at "rd"
   exact bI (SqL.of e2) e3 hR
  ·intro p H2 hp s2 V2
   walk_at "rd"
   refine cE rfl ?_
   walk_at "rd"
   refine ⟨p,l,n,_,_,rfl,V2,s2 _ _ e1,?_,hn,fun p2 H3 hp2 s3 e6=>q p2 H3 (s1.free (s2.free hp2)) ((s1.trans s2).trans s3) e6⟩
   intro v hv
   obtain ⟨k,hk,rfl⟩:=Oo.mp hv
   obtain ⟨_,_,_,_,_,e5⟩:=ju T.views (hg k hk)
   exact T.win _ e5
 | common g s=>
  obtain ⟨t,u,y,rfl,et,eu,hy⟩:=hS
  have hw':s.words<=m:=by simp only [Sy.words] at hw; omega
  obtain ⟨⟨hpw,hg⟩,hok'⟩:=hok
  walk_at "rd"
  refine aD (SqT.of et) (i:=0) rfl ?_
  walk_at "rd"
  refine aB (by decide) ?_
  walk_at "rd"
  refine aB (by decide) ?_
  walk_at "rd"
  refine aB (by decide) ?_
  walk_at "rd"
  refine aB (by decide) ?_
  walk_at "rd"
  refine aB (by decide) ?_
  walk_at "rd"
  refine aD (SqT.of et) (i:=2) rfl ?_
  walk_at "rd"
  refine ⟨a,b,y,c,n,ws,vs,s,rfl,T,hy,hok',hw',fun l H1 hl s1 e1=>?_⟩
  walk_at "rd"
  refine aB (by decide) ?_
  walk_at "rd"
  refine aD (SqT.of (s1 _ _ et)) (i:=1) rfl ?_
  refine GB (T.views.same s1) hg (NH (wI hpw hg) T.hands) (s1 _ _ eu) ?_ ?_
  ·intro C s' H' fp k rs r H2 R N e2 e3 hR
   walk_at "rd"
   exact bI (SqL.of e2) e3 hR
  ·intro p H2 hp s2 V2
   have s12:=s1.trans s2
   have hwin:∀ v∈g.map (fun h=>vs.getD h []),Within n v:=by
    intro v hv
    obtain ⟨k,hk,rfl⟩:=Oo.mp hv
    obtain ⟨_,_,_,_,_,e5⟩:=ju T.views (hg k hk)
    exact T.win _ e5
   walk_at "rd"
   refine aB (by decide) ?_
   walk_at "rd"
   refine tI (SqL.of (s12 _ _ ea)) ?_
   walk_at "rd"
   rw [MY,hlr,hlen]
   refine ⟨n,p,_,rfl,V2,hwin,hn,fun r j H3 hj hjn s3 e3=>?_⟩
   walk_at "rd"
   refine ⟨j,l,n,r,_,rfl,e3,s3 _ _ (s2 _ _ e1),CU hj,hn,fun p2 H4 hp2 s4 e4=>q p2 H4 (s1.free (s2.free (s3.free hp2))) ((s12.trans s3).trans s4) ?_⟩
   rw [e4]
   congr 2
   exact lD fun i hi=>Kj hj hi
end
end
section
variable {K:Fg} {vs:List V} {H:Hp} {Q:VK} {E:XK}
noncomputable def gx (v:List Nat) (as:List IA):List Nat:=bm (v.zip as)
noncomputable def BF (p:Nat×IA):MK:=.inr [.inl (some ((p.1:Nat):Int)),.inl p.2]
theorem Ip (a b:Nat×IA) (e:BF a=BF b):a=b:=by
 have h:=QC e
 injection h with h1 h2
 injection h1 with h1
 injection h1 with h1
 injection h2 with h2 _
 injection h2 with h2
 obtain ⟨a1,a2⟩:=a
 obtain ⟨b1,b2⟩:=b
 simp only at h1 h2
 rw [show a1=b1 by omega,h2]
theorem oJ (v:List Nat) (as:List IA):bm ((v.zip as).map BF)=gx v as:=uF (f:=BF) Ip _
noncomputable def vt (_:Fg):Sp:=fun vs H Q _=>∃ (a b:Addr) (v:List Nat) (ys:List V) (as:List IA),vs=[.ref a,.ref b]/\H a=some (.lst (au v))/\H b=some (.lst ys)/\ys.map iaV=as.map some/\v.length=as.length/\v.length<=100000/\
 ∀ p H',H p=none->am H H'->H' p=some (.lst (au (gx v as)))->Q (.ref p) H'
theorem ql {H:Hp}:∀ {ts:List Addr} {v:List Nat} {ys:List V} {as:List IA},mK H ts ((au v).zip ys)->ys.map iaV=as.map some->Paired (ci H) (ts.map V.ref) ((v.zip as).map BF)
 | ts,[],ys,as,h,_=>by
  have e:(au []).zip ys=[]:=rfl
  rw [e] at h
  cases h
  rw [show ([]:List Nat).zip as=[] from rfl]
  exact .nil
 | ts,x :: v,[],as,h,e=>by
  have z:(au (x :: v)).zip ([]:List V)=[]:=by simp
  rw [z] at h
  cases h
  have:as=[]:=by
   cases as with
   | nil=>rfl
   | cons _ _=>simp at e
  rw [this]
  simp only [List.zip_nil_right]
  exact .nil
 | ts,x :: v,y :: ys,as,h,e=>by
  cases as with
  | nil=>simp at e
  | cons a as=>
   rw [Np,Np] at e
   injection e with e1 e2
   have z:(au (x :: v)).zip (y :: ys)=(.int (x:Int),y) :: (au v).zip ys:=rfl
   rw [z] at h
   cases h with
   | cons h t=>
    rw [Oz,Np,Np]
    exact .cons ⟨_,_,rfl,h,.cons rfl (.cons e1 .nil)⟩ (ql t e2)
noncomputable def tT (K:Fg):TS:=(aJ (av (fi K) [] E0 (ac (Ew aQ aQ K (ac (aa 0) (ac (aa 1) ag))) ag)))
theorem Iq (h:vt K vs H Q E):tT K { nx:=fun _ H'=>Q .non H',rt:=Q } (start ["view","values"] vs) H:=by
 obtain ⟨a,b,v,ys,as,rfl,ea,eb,hi,hl,hn,q⟩:=h
 show tT K _ [some _,some _] _
 unfold tT
 walk_at "rd"
 refine LD ?_
 walk_at "rd"
 refine ⟨a,b,au v,ys,rfl,SqL.of ea,SqL.of eb,by rw [aR]; omega,fun p H1 hp s1 ⟨ts,e1,pt⟩=>?_⟩
 walk_at "rd"
 refine ⟨p,_,_,true,rfl,e1,ql pt hi,?_,by rw [MY,OK]; omega,fun p2 H2 hp2 s2 e2=>?_⟩
 ·intro k hk
  obtain ⟨w,_,rfl⟩:=Oo.mp hk
  rfl
 ·rw [oJ] at e2
  exact q _ _ (s1.free hp2) (s1.trans s2) e2
end
end L2
section
namespace L2
open KF
section
variable {α β γ:Type} [DecidableEq α] [DecidableEq β] [DecidableEq γ]
theorem sd {ks:List α} {i:Nat} {k:α} (h:ks[i]?=some k):ks[ks.idxOf k]?=some k:=by
 rw [MZ (RP (M9 h)),List.getElem_idxOf]
theorem lE {ks:List α} {i:Nat} {k:α} (h:ks[i]?=some k):(bm ks)[i]?=some (ks.idxOf k):=by unfold bm; rw [Ng,h]; rfl
theorem wK {ks:List α} {j:Nat} {k:α} (h:ks[j]?=some k):ks.idxOf k<=j:=by obtain ⟨_,_,_,hle⟩:=wk (lE h); exact hle
theorem lG {l:List α} {i:Nat} (h:i < l.length):∃ x,l[i]?=some x:=⟨_,MZ h⟩
theorem uN {ks:List α} {ls:List β} (hl:ks.length=ls.length) (h:∀ i j,i < ks.length->j < ks.length->(ks[i]?=ks[j]?↔ls[i]?=ls[j]?)):bm ks=bm ls:=by
 refine Px fun i=>?_
 by_cases hi:i < ks.length
 ·obtain ⟨k,hk⟩:=lG hi
  obtain ⟨l,hL⟩:=lG (l:=ls) (i:=i) (by omega)
  rw [lE hk,lE hL]
  have a1:=sd hk
  have b1:=sd hL
  have la:=wK hk
  have lb:=wK hL
  have e1:ls[ks.idxOf k]?=some l:=by rw [<-hL]; exact ((h _ _ (by omega) hi).mp (a1.trans hk.symm))
  have e2:ks[ls.idxOf l]?=some k:=by rw [<-hk]; exact ((h _ _ (by omega) hi).mpr (b1.trans hL.symm))
  have q1:=wK e1
  have q2:=wK e2
  congr 1
  omega
 ·rw [NJ (by rw [cR]; omega),NJ (by rw [cR]; omega)]
theorem GC {ks:List α} {i j:Nat} (hi:i < ks.length) (hj:j < ks.length):(bm ks)[i]?=(bm ks)[j]?↔ks[i]?=ks[j]?:=by
 obtain ⟨k,hk⟩:=lG hi
 obtain ⟨l,hL⟩:=lG hj
 rw [lE hk,lE hL,hk,hL]
 constructor
 ·intro e
  rw [<-sd hk,<-sd hL,Nf e]
 ·intro e
  rw [Nf e]
theorem uO (ks:List α):bm (bm ks)=bm ks:=uN (cR ks) fun i j hi hj=>by rw [cR] at hi hj; exact GC hi hj
theorem zx {ks:List α} {i m:Nat} (h:(bm ks)[i]?=some m):ks[m]?=ks[i]?/\m<=i/\i < ks.length:=by
 obtain ⟨k,hk,rfl,hle⟩:=wk h
 exact ⟨(sd hk).trans hk.symm,hle,(M4.mp hk).1⟩
theorem Dw {v:List α} {as:List β} (hl:v.length=as.length) {i j:Nat} (hi:i < v.length) (hj:j < v.length):(v.zip as)[i]?=(v.zip as)[j]?↔v[i]?=v[j]?/\as[i]?=as[j]?:=by
 obtain ⟨x,hx⟩:=lG hi
 obtain ⟨y,hy⟩:=lG hj
 obtain ⟨a,ha⟩:=lG (l:=as) (i:=i) (by omega)
 obtain ⟨b,hb⟩:=lG (l:=as) (i:=j) (by omega)
 have e1:(v.zip as)[i]?=some (x,a):=by rw [Pn]; exact ⟨hx,ha⟩
 have e2:(v.zip as)[j]?=some (y,b):=by rw [Pn]; exact ⟨hy,hb⟩
 rw [e1,e2,hx,hy,ha,hb]
 simp only [Nm.injEq,Prod.mk.injEq]
noncomputable def spl (v:List Nat) (as:List β):List Nat:=bm (v.zip as)
theorem LJ {v:List Nat} {w:List Nat} {as:List β} {bs:List γ} (h1:v.length=as.length) (h2:w.length=bs.length) (h3:v.length=w.length) (h:∀ i j,i < v.length->j < v.length->(v[i]?=v[j]?/\as[i]?=as[j]?↔w[i]?=w[j]?/\bs[i]?=bs[j]?)):spl v as=spl w bs:=by
 refine uN (by rw [OK,OK]; omega) fun i j hi hj=>?_
 rw [OK] at hi hj
 rw [Dw h1 (by omega) (by omega),Dw h2 (by omega) (by omega)]
 exact h i j (by omega) (by omega)
end
theorem GD {v:List Nat} (hv:bm v=v) {x y:Nat} (h:v[x]?=some y):v[x]?=v[y]?/\y<=x:=by
 have h':(bm v)[x]?=some y:=by rw [hv]; exact h
 obtain ⟨q,hle,_⟩:=zx h'
 exact ⟨q.symm,hle⟩
end L2
end
namespace L2
open PySem PyProof.Rows
section
open KF
open Classical in
noncomputable def blA (n:Nat) (P:Nat->Prop):List IA:=(Nw n).map fun i=>some (if decide (P i) then 1 else 0)
theorem tU (n:Nat) (P:Nat->Prop):(blA n P).length=n:=by unfold blA; simp
theorem BG (n:Nat) (P:Nat->Prop):(blV n P).map iaV=(blA n P).map some:=by
 unfold blV blA
 rw [PJ,PJ]
 exact Pd fun i _=>rfl
open Classical in
theorem Dy {n i:Nat} {P:Nat->Prop} (h:i < n):(blA n P)[i]?=some (some (if decide (P i) then 1 else 0)):=by unfold blA; rw [Ng,OE h]; rfl
theorem Kk {n i j:Nat} {P:Nat->Prop} (hi:i < n) (hj:j < n):(blA n P)[i]?=(blA n P)[j]?↔(P i↔P j):=by
 rw [Dy hi,Dy hj]
 by_cases a:P i <;> by_cases b:P j <;> simp [a,b]
theorem se {α:Type} [DecidableEq α] {ks:List α} {n:Nat} (h:ks.length=n):Within n (bm ks):=⟨by rw [cR,h],fun x hx=>by
 obtain ⟨i,hi⟩:=Rc.mp hx
 obtain ⟨_,h1,h2⟩:=zx hi
 omega⟩
theorem m5 {n:Nat} {v:List Nat} {as:List IA} (hv:Within n v) (hl:as.length=n):Within n (gx v as):=se (by rw [OK,hv.1,hl,PH])
theorem GG (v:List Nat) (as:List IA):bm (gx v as)=gx v as:=uO _
noncomputable def lrn (vw:List (List Nat)) (g:List Nat) (as:List IA):List (List Nat):=g.foldl (fun w h=>w.set h (gx (w.getD h []) as)) vw
theorem mM (as:List IA):∀ (g:List Nat) (vw:List (List Nat)),(lrn vw g as).length=vw.length
 | [],_=>rfl
 | h :: g,vw=>by
  show (lrn (vw.set h _) g as).length=_
  rw [mM as g,Pc]
theorem BH (vw:List (List Nat)) (g:List Nat) (h:Nat) (as:List IA):lrn vw (g++[h]) as=(lrn vw g as).set h (gx ((lrn vw g as).getD h []) as):=by
 unfold lrn
 rw [UM]
 rfl
theorem oZ {as:List IA} {P:List Nat->Prop} (hs:∀ v,P v->P (gx v as)):∀ (g:List Nat) (vw:List (List Nat)),(∀ h∈g,h < vw.length)->(∀ v∈vw,P v)->∀ v∈lrn vw g as,P v
 | [],_,_,h=>h
 | k :: g,vw,hk,h=>by
  show ∀ v∈lrn (vw.set k _) g as,P v
  refine oZ hs g _ (fun x hx=>by rw [Pc]; exact hk x (Nh _ hx)) fun v hv=>?_
  rcases List.mem_or_eq_of_mem_set hv with z | z
  ·exact h v z
  ·rw [z]
   have hl:=hk k M7
   refine hs _ (h _ ?_)
   rw [Ni,MZ hl]
   exact Pj hl
set_option genInjectivity false in
structure TM where
 c:Nat
 ss:List Nat
 vw:List (List Nat)
 ds:List (List Nat×List V)
noncomputable def TM.ws (T:TM):List (List Nat):=KM.bQ (T.ss++[T.c - T.ss.sum]) T.c
noncomputable def TM.n (T:TM):Nat:=T.ws.length
noncomputable def TM.k (T:TM):Nat:=T.ss.length
noncomputable def TM.tr (T:TM) (s:Sy):Nat->Prop:=TR T.n T.ws T.vw s
noncomputable def TM.learn (T:TM) (g:List Nat) (as:List IA) (ys:List V):TM:={ T with vw:=lrn T.vw g as,ds:=T.ds++[(g,ys)] }
noncomputable def TM.word (T:TM) (g:List Nat) (s:Sy):TM:=T.learn g (blA T.n (T.tr s)) (blV T.n (T.tr s))
noncomputable def TM.begun (c:Nat) (ss:List Nat):TM:=⟨c,ss,(Nw ss.length).map fun i=>lA (KM.bQ (ss++[c - ss.sum]) c) ((i:Nat):Int),[]⟩
structure TM.Ok (T:TM):Prop where
 pk:rR T.c T.ss
 few:KM.cA T.c T.ss<=2000
 len:T.vw.length=T.k
 win:∀ v∈T.vw,Within T.n v
 can:∀ v∈T.vw,bm v=v
theorem TM.Ok.n2 {T:TM} (h:T.Ok):T.n<=2000:=by
 show (KM.bQ _ _).length<=_
 rw [KM.kU h.pk.sum]
 exact h.few
theorem TM.Ok.cards {T:TM} (h:T.Ok):∀ w∈T.ws,w.length=T.c:=fun w hw=>(KM.gJ _ T.c w hw).len
theorem TM.Ok.begun {c:Nat} {ss:List Nat} (pk:rR c ss) (few:KM.cA c ss<=2000):(TM.begun c ss).Ok:=⟨pk,few,by show (List.map _ _).length=ss.length; rw [MY,OG],fun v hv=>by
 obtain ⟨i,_,rfl⟩:=Oo.mp hv
 exact se (by rw [MY]; rfl),fun v hv=>by
 obtain ⟨i,_,rfl⟩:=Oo.mp hv
 exact uO _⟩
theorem TM.Ok.learn {T:TM} (h:T.Ok) {g:List Nat} {as:List IA} {ys:List V} (hg:∀ x∈g,x < T.k) (hl:as.length=T.n):(T.learn g as ys).Ok:=
 ⟨h.pk,h.few,by show (lrn T.vw g as).length=_; rw [mM]; exact h.len,oZ (fun v hv=>m5 hv hl) g T.vw (by rw [h.len]; exact hg) h.win,oZ (fun v _=>GG v as) g T.vw (by rw [h.len]; exact hg) h.can⟩
theorem TM.Ok.word {T:TM} (h:T.Ok) {g:List Nat} {s:Sy} (hg:∀ x∈g,x < T.k):(T.word g s).Ok:=h.learn hg (tU _ _)
end
section
variable {K:Fg} {vs:List V} {H:Hp} {Q:VK} {E:XK}
theorem Kl {i lo hi:Int} (h1:lo<=i) (h2:i<=hi):cS (.int i) lo hi=true:=by
 show (decide (lo<=i) && decide (i<=hi))=true
 rw [decide_eq_true h1,decide_eq_true h2]
 rfl
noncomputable def dI (_:Fg):Sp:=fun vs H Q _=>∃ (i b:Int),vs=[.int i,.int b]/\Q (.bl (decide (0<=i) && decide (i<=b - 1))) H
noncomputable def mz (K:Fg):TS:=(aJ (av (eD K) [] E0 (ac (aa 0) (ac (tC (.int 0)) (ac (tOp (rI0 fun i j=>.int (i - j)) (aa 1) (tC (.int 1))) ag)))))
theorem CW (h:dI K vs H Q E):mz K { nx:=fun _ H'=>Q .non H',rt:=Q } (start ["thing","bound"] vs) H:=by
 obtain ⟨i,b,rfl,q⟩:=h
 show mz K _ [some _,some _] _
 unfold mz
 walk_at "rd"
 exact ⟨.int i,0,b - 1,rfl,fI.int _,q⟩
theorem hZ {i b:Int} (h1:0<=i) (h2:i<=b):(decide (0<=i) && decide (i<=b))=true:=by rw [decide_eq_true h1,decide_eq_true h2]; rfl
noncomputable def jI (_:Fg):Sp:=fun vs H Q _=>∃ (a:Addr) (g:List Nat) (h:Nat),vs=[.ref a,.int h]/\H a=some (.tup (au g))/\g.Pairwise (· < ·)/\(∀ k∈g,k < h)/\Q (.bl true) H
noncomputable def lc (K:Fg):TS:=(ap (bp (dq (tB (tCB (iN K) (ac (aa 0) (ac (tC (.ty "tuple")) ag))))) (aJ (tC (.bl false))) aY)
 (ap (aH (tC (.int 0)) (aj 2))
 (ap (cU (rA K (aa 0)) (aj 3) (ap (bp (dq (tB (av (eD K) [] E0 (ac (aa 3) (ac (aa 2) (ac (tOp (rI0 fun i j=>.int (i - j)) (aa 1) (tC (.int 1))) ag)))))) (aJ (tC (.bl false))) aY)
 (aH (tOp (rI0 fun i j=>.int (i + j)) (aa 3) (tC (.int 1))) (aj 2))))
 (aJ (tC (.bl true))))))
theorem BI (h:jI K vs H Q E):lc K { nx:=fun _ H'=>Q .non H',rt:=Q } (start ["thing","hands","least","hand"] vs) H:=by
 obtain ⟨a,g,h,rfl,e,pw,hg,q⟩:=h
 show lc K _ [some _,some _,none,none] _
 unfold lc
 walk_at "rd"
 refine gQ (.tup e) (kQ K) ?_
 walk_at "rd"
 refine rO (au g) (SqT.of e) (fun i σ H2=>∃ (lo:Int) (st:Option V),σ=[some (.ref a),some (.int h),some (.int lo),st]/\H2=H/\∀ k∈g.drop i,lo<=(k:Int)) ⟨0,none,rfl,rfl,fun k _=>by omega⟩ (fun i σ H2 _ ⟨_,_,_,eH,_⟩=>by subst eH; exact SqT.of e) ?_ ?_
 ·rintro i y σ H2 hy ⟨lo,st,rfl,rfl,hlo⟩
  obtain ⟨k,hk,rfl⟩:=eY hy
  obtain ⟨h1,h2⟩:=M4.mp hk
  have hd:g.drop i=k :: g.drop (i + 1):=by rw [Sn h1,h2]
  have hkh:=hg k (M9 hk)
  have pd:(g.drop i).Pairwise (· < ·):=pw.sublist (List.drop_sublist i g)
  rw [hd] at hlo pd
  have l1:=hlo k M7
  walk_at "rd"
  refine ⟨.int (k:Int),lo,(h:Int) - 1,rfl,fI.int _,?_⟩
  rw [Kl l1 (show (k:Int)<=(h:Int) - 1 by omega)]
  walk_at "rd"
  refine ⟨_,_,rfl,rfl,fun j hj=>?_⟩
  have:=(RV.mp pd).1 j hj
  omega
 ·rintro σ H2 ⟨lo,st,rfl,rfl,_⟩
  walk_at "rd"
  exact q
noncomputable def oK (_:Fg):Sp:=fun vs H Q _=>∃ (v:V) (s:Sy),vs=[v]/\aU H v s/\∀ (p:Addr) (xs:List V) (H':Hp),am H H'->H p=none->H' p=some (.lst xs)->iq H' xs s.subs->xs.length<=2->Q (.ref p) H'
noncomputable def mB (K:Fg) (G:Glo):TS:=(ap (aH (tOp (En G.kvs G.forms) (tC (.ref G.forms)) (tOp (bX K) (aa 0) (tC (.int 0)))) (aj 1))
 (aJ (bu (lM ek ek K (ac (aa 1) (ac (tSl (Bm K) (aa 0) (vZ (tC (.int 1))) oS) ag))) (fun _ _ _ _=>(cZ K 2 (aW (aj 0) (aW (aj 1) cY)))) (fun _ _ _ _=>(be (tOp rEq (aa 0) (tC (.str "saying"))))) (fun _ _ _ _=>(aa 1)) [none,none])))
theorem CY {K:Fg} {G:Glo} (g:wD K G) {vs:List V} {H:Hp} {Q:VK} {E:XK} (h:oK K vs H Q E):mB K G { nx:=fun _ H'=>Q .non H',rt:=Q } (start ["saying","form"] vs) H:=by
 obtain ⟨v,s,rfl,hs,q⟩:=h
 obtain ⟨a,items,rfl,ha,hl,hp⟩:=Kf hs
 obtain ⟨f,hf,tf⟩:=g.form s
 show mB K G _ [some _,none] _
 unfold mB
 walk_at "rd"
 refine aD (SqT.of ha) (mL _ _) ?_
 refine Jz hf ?_
 walk_at "rd"
 refine Em (SqT.of ha) (oB _ _) fun b H1 hb s1 e1=>?_
 rw [vi] at e1
 walk_at "rd"
 have hml:min (s.form.map V.str).length items.length=s.form.length:=by rw [MY,hl]; omega
 refine mS (S1:=ek) (S2:=ek) (s.form.map V.str) items (tf.sq _) (SqT.of e1) (fun H' _=>tf.sq _) (fun H' s'=>SqT.of (s' _ _ e1)) (by rw [MY]; have:=s.form_len; omega) (fun i acc _=>acc=jm (s.form.take i) (items.take i)) (fun _ _=>rfl) ?_ ?_
 ·intro p hp' C s' H' fp i x y T acc H2 H3 hx hy ⟨s2,e2,l2,r2⟩ hT s3 e3 e4
  obtain ⟨z,hz,rfl⟩:∃ z,s.form[i]?=some z/\x=.str z:=by
   rw [Ng] at hx
   cases e:s.form[i]? with
   | none=>rw [e] at hx; cases hx
   | some z=>rw [e] at hx; exact ⟨z,rfl,(Nf hx).symm⟩
  have pt:=Gx s.form items i z y hz hy
  subst r2
  refine dM (SqT.of e3) ?_
  walk_at "rd"
  refine dy (fun c=>?_) (fun c=>?_)
  ·walk_at "rd"
   rw [if_pos c] at pt
   exact bf.put hp' (fun _ _ _ _ r _=>r) (s2.trans s3) e4 l2 pt.symm
  ·rw [if_neg c,OY] at pt
   exact bf.skip (s2.trans s3) e4 l2 pt.symm
 ·intro p acc H2 hp' s2 e2 r2
  rw [hml,<-hl,NI,hl,NI] at r2
  subst r2
  refine q p _ H2 (s1.trans s2) (s1.free hp') e2 (hp.keep (s1.trans s2).keep) (NH (Il _ _) s.form_len)
noncomputable def jJ (H:Hp) (c h:Nat) (p:Str) (x:V):Prop:=(p="holder"/\∃ k:Nat,x=.int k/\k<=h)\/(p="card"/\∃ k:Nat,x=.int k/\k < c)\/(p="hand"/\∃ k:Nat,x=.int k/\k < h)\/(p="hands"/\∃ a g,x=.ref a/\H a=some (.tup (au g))/\g.Pairwise (· < ·)/\∀ k∈g,k < h)\/p="saying"
noncomputable def yw (_:Fg):Sp:=fun vs H Q _=>∃ (c h:Nat) (p:Str) (x:V),vs=[.int c,.int h,.str p,x]/\jJ H c h p x/\Q (.bl true) H
noncomputable def wL (K:Fg):TS:=(ap (bp (be (tOp rEq (aa 2) (tC (.str "holder")))) (aJ (av (dI K) [] E0 (ac (aa 3) (ac (tOp (rI0 fun i j=>.int (i + j)) (aa 1) (tC (.int 1))) ag)))) aY)
 (ap (bp (be (tOp rEq (aa 2) (tC (.str "card")))) (aJ (av (dI K) [] E0 (ac (aa 3) (ac (aa 0) ag)))) aY)
 (ap (bp (be (tOp rEq (aa 2) (tC (.str "hand")))) (aJ (av (dI K) [] E0 (ac (aa 3) (ac (aa 1) ag)))) aY)
 (ap (bp (be (tOp rEq (aa 2) (tC (.str "hands")))) (aJ (av (jI K) [] E0 (ac (aa 3) (ac (aa 1) ag)))) aY)
 (aJ (tC (.bl true)))))))
theorem Km (h:yw K vs H Q E):wL K { nx:=fun _ H'=>Q .non H',rt:=Q } (start ["cards","hands","place","part"] vs) H:=by
 obtain ⟨c,h,p,x,rfl,k,q⟩:=h
 show wL K _ [some _,some _,some _,some _] _
 unfold wL
 rcases k with ⟨rfl,k,rfl,hk⟩ | ⟨rfl,k,rfl,hk⟩ | ⟨rfl,k,rfl,hk⟩ | ⟨rfl,a,g,rfl,e,pw,hg⟩ | rfl
 ·walk_at "rd"
  refine cE rfl ?_
  walk_at "rd"
  refine ⟨_,_,rfl,?_⟩
  rw [hZ (by omega) (by omega)]
  exact q
 ·walk_at "rd"
  refine aB (by decide +kernel) ?_
  walk_at "rd"
  refine cE rfl ?_
  walk_at "rd"
  refine ⟨_,_,rfl,?_⟩
  rw [hZ (by omega) (by omega)]
  exact q
 ·walk_at "rd"
  refine aB (by decide +kernel) ?_
  walk_at "rd"
  refine aB (by decide +kernel) ?_
  walk_at "rd"
  refine cE rfl ?_
  walk_at "rd"
  refine ⟨_,_,rfl,?_⟩
  rw [hZ (by omega) (by omega)]
  exact q
 ·walk_at "rd"
  refine aB (by decide +kernel) ?_
  walk_at "rd"
  refine aB (by decide +kernel) ?_
  walk_at "rd"
  refine aB (by decide +kernel) ?_
  walk_at "rd"
  refine cE rfl ?_
  walk_at "rd"
  exact ⟨a,g,h,rfl,e,pw,hg,q⟩
 ·walk_at "rd"
  refine aB (by decide +kernel) ?_
  walk_at "rd"
  refine aB (by decide +kernel) ?_
  walk_at "rd"
  refine aB (by decide +kernel) ?_
  walk_at "rd"
  refine aB (by decide +kernel) ?_
  walk_at "rd"
  exact q
theorem Ir {H:Hp} {c h:Nat} {v:V} {s:Sy} (hs:aU H v s) (ok:s.Ok c h):∃ a items,v=.ref a/\H a=some (.tup (.str s.word :: items))/\items.length=s.form.length/\∀ (i:Nat) (p:Str) (x:V),s.form[i]?=some p->items[i]?=some x->jJ H c h p x:=by
 have one:∀ {p:Str} {x:V},jJ H c h p x->∀ (i:Nat) (p':Str) (x':V),[p][i]?=some p'->[x][i]?=some x'->jJ H c h p' x':=fun f i p' x' hp hx=>by
  match i,hp,hx with
  | 0,hp,hx=>cases hp; cases hx; exact f
 have two:∀ {p q:Str} {x y:V},jJ H c h p x->jJ H c h q y->∀ (i:Nat) (p':Str) (x':V),[p,q][i]?=some p'->[x,y][i]?=some x'->jJ H c h p' x':=fun f g i p' x' hp hx=>by
  match i,hp,hx with
  | 0,hp,hx=>cases hp; cases hx; exact f
  | 1,hp,hx=>cases hp; cases hx; exact g
 have sy:∀ {x:V},jJ H c h "saying" x:=.inr (.inr (.inr (.inr rfl)))
 cases s with
 | holds w k=>obtain ⟨a,e,q⟩:=hs; exact ⟨a,_,e,q,rfl,two (.inl ⟨rfl,w,rfl,ok.1⟩) (.inr (.inl ⟨rfl,k,rfl,ok.2⟩))⟩
 | sees k=>obtain ⟨a,e,q⟩:=hs; exact ⟨a,_,e,q,rfl,one (.inr (.inr (.inl ⟨rfl,k,rfl,ok⟩)))⟩
 | not s=>obtain ⟨a,x,e,q,r⟩:=hs; exact ⟨a,_,e,q,rfl,one sy⟩
 | and s t=>obtain ⟨a,x,y,e,q,r,r'⟩:=hs; exact ⟨a,_,e,q,rfl,two sy sy⟩
 | or s t=>obtain ⟨a,x,y,e,q,r,r'⟩:=hs; exact ⟨a,_,e,q,rfl,two sy sy⟩
 | knows k s=>obtain ⟨a,x,e,q,r⟩:=hs; exact ⟨a,_,e,q,rfl,two (.inr (.inr (.inl ⟨rfl,k,rfl,ok.1⟩))) sy⟩
 | all g s=>obtain ⟨a,b,x,e,q,j,r⟩:=hs; exact ⟨a,_,e,q,rfl,two (.inr (.inr (.inr (.inl ⟨rfl,b,g,rfl,j,ok.1.1,ok.1.2⟩)))) sy⟩
 | common g s=>obtain ⟨a,b,x,e,q,j,r⟩:=hs; exact ⟨a,_,e,q,rfl,two (.inr (.inr (.inr (.inl ⟨rfl,b,g,rfl,j,ok.1.1,ok.1.2⟩)))) sy⟩
theorem jJ.same {H H':Hp} (s:am H H') {c h:Nat} {p:Str} {x:V} (f:jJ H c h p x):jJ H' c h p x:=by
 rcases f with f | f | f | ⟨e,a,g,e2,q,r⟩ | f
 ·exact .inl f
 ·exact .inr (.inl f)
 ·exact .inr (.inr (.inl f))
 ·exact .inr (.inr (.inr (.inl ⟨e,a,g,e2,s _ _ q,r⟩)))
 ·exact .inr (.inr (.inr (.inr f)))
noncomputable def qm (_:Fg):Sp:=fun vs H Q _=>∃ (c h:Nat) (v:V) (s:Sy),vs=[.int c,.int h,v]/\aU H v s/\s.Ok c h/\∀ H',am H H'->Q (.bl true) H'
noncomputable def nX (K:Fg) (G:Glo):TS:=(ap (bp (tOr (dq (tB (tCB (iN K) (ac (aa 2) (ac (tC (.ty "tuple")) ag))))) (be (tOp rEq (tCB (eW K) (ac (aa 2) ag)) (tC (.int 0))))) (aJ (tC (.bl false))) aY)
 (ap (bp (tOr (dq (tB (tCB (iN K) (ac (tOp (bX K) (aa 2) (tC (.int 0))) (ac (tC (.ty "str")) ag))))) (be (tOp (Bn G.kvs G.forms true) (tOp (bX K) (aa 2) (tC (.int 0))) (tC (.ref G.forms))))) (aJ (tC (.bl false))) aY)
 (ap (aH (tOp (En G.kvs G.forms) (tC (.ref G.forms)) (tOp (bX K) (aa 2) (tC (.int 0)))) (aj 3))
 (ap (bp (be (tOp rNe (tCB (eW K) (ac (aa 2) ag)) (tOp (rI0 fun i j=>.int (i + j)) (tC (.int 1)) (tCB (eW K) (ac (aa 3) ag))))) (aJ (tC (.bl false))) aY)
 (aJ (tCB (Ei K) (ac (bu (lM ek ek K (ac (aa 3) (ac (tSl (Bm K) (aa 2) (vZ (tC (.int 1))) oS) ag))) (fun _ _ _ _=>(cZ K 2 (aW (aj 0) (aW (aj 1) cY)))) (fun _ _ _ _=>aV) (fun _ _ _ _=>(av (yw K) [] E0 (ac (aa 2) (ac (aa 3) (ac (aa 0) (ac (aa 1) ag)))))) [none,none,some 0,some 1]) ag)))))))
theorem LK {H:Hp} {Q:VK} {kvs:List (Str×V)} {a:Addr} {k:Str} {v:V} (e:kvs.lookup k=some v) (h:Q (.bl false) H):Bn kvs a true (.str k) (.ref a) H Q:=⟨rfl,k,rfl,by rw [e]; exact h⟩
theorem Iu (K:Fg):NR K (.type "str") (.type "str")=some true:=BB K "str"
theorem EA {K:Fg} {G:Glo} (g:wD K G) {vs:List V} {H:Hp} {Q:VK} {E:XK} (h:qm K vs H Q E):nX K G { nx:=fun _ H'=>Q .non H',rt:=Q } (start ["cards","hands","thing","form"] vs) H:=by
 obtain ⟨c,h,v,s,rfl,hs,ok,q⟩:=h
 obtain ⟨a,items,rfl,ha,hl,hf⟩:=Ir hs ok
 obtain ⟨f,hk,tf⟩:=g.form s
 have hfl:=s.form_len
 show nX K G _ [some _,some _,some _,none] _
 unfold nX
 walk_at "rd"
 refine gQ (.tup ha) (kQ K) ?_
 walk_at "rd"
 refine aB (by show ¬ (((items.length + 1:Nat):Int)=0); omega) ?_
 walk_at "rd"
 refine aD (SqT.of ha) (mL _ _) ?_
 walk_at "rd"
 refine gQ (.str _) (Iu K) ?_
 walk_at "rd"
 refine aD (SqT.of ha) (mL _ _) ?_
 walk_at "rd"
 refine LK hk ?_
 walk_at "rd"
 refine aD (SqT.of ha) (mL _ _) ?_
 refine Jz hk ?_
 walk_at "rd"
 refine Dm (tf.sq _) ?_
 walk_at "rd"
 rw [MY]
 refine ve (fun n=>absurd (show ((items.length + 1:Nat):Int)=1 + ((s.form.length:Nat):Int) by omega) n) (fun _=>?_)
 walk_at "rd"
 refine Em (SqT.of ha) (oB _ _) fun b H1 hb s1 e1=>?_
 rw [vi] at e1
 walk_at "rd"
 refine mS (S1:=ek) (S2:=ek) (s.form.map V.str) items (tf.sq _) (SqT.of e1) (fun H' _=>tf.sq _) (fun H' s'=>SqT.of (s' _ _ e1)) (by rw [MY]; omega) (fun i acc _=>acc=(NN i true).map V.bl) (fun _ _=>rfl) ?_ ?_
 ·rintro p hp C s' H' fp i x y T acc H2 H3 hx hy ⟨s2,e2,l2,rfl⟩ hT s3 e3 e4
  obtain ⟨z,hz,rfl⟩:∃ z,s.form[i]?=some z/\x=.str z:=by
   rw [Ng] at hx
   cases e:s.form[i]? with
   | none=>rw [e] at hx; cases hx
   | some z=>rw [e] at hx; exact ⟨z,rfl,(Nf hx).symm⟩
  refine dM (SqT.of e3) ?_
  walk_at "rd"
  refine ⟨c,h,z,y,rfl,(hf i z y hz hy).same ((s1.trans s2).trans s3),?_⟩
  exact bf.put hp (fun _ _ _ _ r _=>r) (s2.trans s3) e4 l2 (by rw [Qz,Nr]; rfl)
 ·rintro p acc H2 hp s2 e2 rfl
  walk_at "rd"
  refine ⟨p,_,rfl,SqL.of e2,?_⟩
  rw [show ∀ n:Nat,(NN n true).all id=true from fun n=>by simp]
  exact q _ (s1.trans s2)
noncomputable def jK (_:Fg):Sp:=fun vs H Q _=>∃ (l:Addr) (xs:List V) (ss:List Sy),vs=[.ref l]/\H l=some (.lst xs)/\iq H xs ss/\xs.length<=100/\∀ (p:Addr) (ys:List V) (H':Hp),am H H'->H p=none->H' p=some (.lst ys)->iq H' ys (ss.flatMap Sy.subs)->Q (.ref p) H'
noncomputable def iu (K:Fg):TS:=(ap (aH (dZ ag) (aj 1))
 (ap (cU (cc K (aa 0)) (aj 2) (dG (tBM K "list" yj (aa 1) (ac (av (oK K) [] E0 (ac (aa 2) ag)) ag))))
 (aJ (aa 1))))
theorem LL {α β:Type} {F:α->β->Prop} {l l':List α} {m m':List β} (h:Paired F l m) (q:Paired F l' m'):Paired F (l++l') (m++m'):=by
 induction h with
 | nil=>exact q
 | cons x _ ih=>exact .cons x ih
theorem Dz:∀ ss:List Sy,(ss.flatMap Sy.subs).length<=2 * ss.length
 | []=>M1 _
 | s :: r=>by
  have:=Dz r
  have:s.subs.length<=2:=by cases s <;> simp [Sy.subs]
  rw [Sj,Nq,NC]
  omega
theorem wM (h:jK K vs H Q E):iu K { nx:=fun _ H'=>Q .non H',rt:=Q } (start ["sayings","parts","saying"] vs) H:=by
 obtain ⟨l,xs,ss,rfl,el,hx,h100,q⟩:=h
 show iu K _ [some _,none,none] _
 unfold iu
 have lxs:=hU hx
 walk_at "rd"
 refine ⟨by simp [M8],fun p H1 hp s1 e1=>?_⟩
 walk_at "rd"
 refine oV xs (SqL.of (s1 _ _ el)) (fun i σ H2=>∃ (u:Option V) (ys:List V),σ=[some (.ref l),some (.ref p),u]/\am H H2/\H2 p=some (.lst ys)/\iq H2 ys ((ss.take i).flatMap Sy.subs)) ⟨none,[],rfl,s1,e1,.nil⟩ ?_ ?_ ?_
 ·rintro i σ H2 hi ⟨u,ys,rfl,s2,_⟩
  exact SqL.of (s2 _ _ el)
 ·rintro i x σ H2 hxi ⟨u,ys,rfl,s2,e2,p2⟩
  obtain ⟨s,hs,is⟩:=nV hx hxi
  have lys:=hU p2
  have:=Dz (ss.take i)
  rw [OM] at this
  walk_at "rd"
  refine ⟨.inl ⟨rfl,_,SqL.of e2⟩,?_⟩
  walk_at "rd"
  refine ⟨x,s,rfl,is.keep s2.keep,fun p3 zs H3 s3 hp3 e3 y3 l3=>?_⟩
  walk_at "rd"
  refine HL (s3 _ _ e2) e3 (by rw [M8]; omega) fun H4 o4 e4=>?_
  have k4:iO H3 H4:=fun b ws e=>(o4 b fun z=>by rw [z,s3 _ _ e2] at e; cases e).trans e
  refine ⟨_,ys++zs,rfl,(s2.trans s3).off hp o4,e4,?_⟩
  rw [OF,hs,Ry]
  refine LL ((p2.keep s3.keep).keep k4) ?_
  show Paired _ zs (s.subs++[])
  rw [OY]
  exact y3.keep k4
 ·rintro σ H2 ⟨u,ys,rfl,s2,e2,p2⟩
  rw [lxs,NI] at p2
  walk_at "rd"
  exact q p ys H2 s2 hp e2 p2
theorem BJ:∀ ss:List Sy,(ss.map Sy.words).sum=ss.length + ((ss.flatMap Sy.subs).map Sy.words).sum
 | []=>rfl
 | s :: r=>by
  rw [Np,Nz,BJ r,s.words_subs,Sj,Nr,Ox,NC]
  omega
theorem Kn {c h:Nat} {s:Sy} (ok:s.Ok c h):∀ t∈s.subs,t.Ok c h:=by
 cases s with
 | holds w k=>exact fun t ht=>nomatch ht
 | sees k=>exact fun t ht=>nomatch ht
 | not s=>exact fun t ht=>by rw [M0.mp ht]; exact ok
 | and s t=>exact fun u hu=>(M6.mp hu).elim (fun z=>z ▸ ok.1) fun z=>M0.mp z ▸ ok.2
 | or s t=>exact fun u hu=>(M6.mp hu).elim (fun z=>z ▸ ok.1) fun z=>M0.mp z ▸ ok.2
 | knows k s=>exact fun t ht=>by rw [M0.mp ht]; exact ok.2
 | all g s=>exact fun t ht=>by rw [M0.mp ht]; exact ok.2
 | common g s=>exact fun t ht=>by rw [M0.mp ht]; exact ok.2
noncomputable def m6 (_:Fg):Sp:=fun vs H Q _=>∃ (c h:Nat) (v:V) (s:Sy),vs=[.int c,.int h,v]/\aU H v s/\s.Ok c h/\s.words<=30/\∀ H',am H H'->Q (.bl true) H'
noncomputable def lg (K:Fg):TS:=(ap (bp (tOr (dq (tB (av (iW K) [] E0 (ac (aa 0) ag)))) (dq (tB (av (iW K) [] E0 (ac (aa 1) ag))))) (aJ (tC (.bl false))) aY)
 (ap (aH (tC (.int 0)) (aj 3))
 (ap (aH (dZ (ac (aa 2) ag)) (aj 4))
 (ap (mO (be (tOp (rI0 fun i j=>.bl (decide (j < i))) (tCB (eW K) (ac (aa 4) ag)) (tC (.int 0)))) (ap (aH (tOp (rI0 fun i j=>.int (i + j)) (aa 3) (tCB (eW K) (ac (aa 4) ag))) (aj 3))
 (ap (bp (tOr (be (tOp (rI0 fun i j=>.bl (decide (j < i))) (aa 3) (tC (.int 30)))) (dq (tB (tCB (Ei K) (ac (bu (cc K (aa 4)) (fun _ _ _ _=>(aj 0)) (fun _ _ _ _=>aV) (fun _ _ _ _=>(av (qm K) [] E0 (ac (aa 1) (ac (aa 2) (ac (aa 0) ag))))) [none,some 0,some 1]) ag))))) (aJ (tC (.bl false))) aY)
 (aH (av (jK K) [] E0 (ac (aa 4) ag)) (aj 4)))))
 (aJ (tC (.bl true)))))))
theorem BK (h:m6 K vs H Q E):lg K { nx:=fun _ H'=>Q .non H',rt:=Q } (start ["cards","hands","thing","words","level"] vs) H:=by
 obtain ⟨c,h,v,s,rfl,hs,ok,hw,q⟩:=h
 show lg K _ [some _,some _,some _,none,none] _
 unfold lg
 walk_at "rd"
 refine ⟨_,rfl,fI.int _,?_⟩
 walk_at "rd"
 refine Eh ?_
 walk_at "rd"
 refine ⟨_,rfl,fI.int _,?_⟩
 walk_at "rd"
 refine Eh ?_
 walk_at "rd"
 refine ⟨by simp [M8],fun p H1 hp s1 e1=>?_⟩
 refine jC ?_
 dsimp only [O4,O5]
 refine bA ?_
 refine AD (fun m σ H2=>∃ (W:Nat) (l:Addr) (xs:List V) (ss:List Sy),σ=[some (.int c),some (.int h),some v,some (.int W),some (.ref l)]/\am H H2/\H2 l=some (.lst xs)/\iq H2 xs ss/\(∀ t∈ss,t.Ok c h)/\m=(ss.map Sy.words).sum/\W + m<=30) s.words
  ⟨0,p,[v],[s],rfl,s1,e1,.cons (hs.keep s1.keep) .nil,fun t ht=>by rw [M0.mp ht]; exact ok,by simp,by omega⟩ ?_
 rintro m σ H2 ⟨W,l,xs,ss,rfl,s2,e2,hx,hok,rfl,hW⟩
 have lxs:=hU hx
 have e:=BJ ss
 walk_at "rd"
 refine dy (fun c0=>?_) (fun c0=>?_)
 ·refine AC ?_
  walk_at "rd"
  refine aB (by omega) ?_
  walk_at "rd"
  refine cF xs (SqL.of e2) (by omega) (fun i acc _=>acc=(NN i true).map V.bl) (fun _ _=>rfl) ?_ ?_
  ·rintro p' hp' C s' H' fp i x acc H3 hxi ⟨s3,e3,l3,rfl⟩
   obtain ⟨t,ht,it⟩:=nV hx hxi
   walk_at "rd"
   refine ⟨c,h,x,t,rfl,it.keep s3.keep,hok t (M9 ht),fun H4 s4=>?_⟩
   exact bf.put hp' (fun _ _ _ _ r _=>r) (s3.trans s4) (s4 _ _ e3) l3 (by rw [Qz,Nr]; rfl)
  ·rintro p' acc H3 hp' s3 e3 rfl
   walk_at "rd"
   refine ⟨p',_,rfl,SqL.of e3,?_⟩
   rw [show ∀ n:Nat,(NN n true).all id=true from fun n=>by simp]
   walk_at "rd"
   refine ⟨l,xs,ss,rfl,s3 _ _ e2,hx.keep s3.keep,by omega,fun p4 ys H4 s4 hp4 e4 y4=>?_⟩
   walk_at "rd"
   refine ⟨_,by omega,W + xs.length,p4,ys,_,rfl,(s2.trans s3).trans s4,e4,y4,fun t ht=>?_,rfl,by omega⟩
   obtain ⟨u,hu,ht⟩:=Vq.mp ht
   exact Kn (hok u hu) t ht
 ·walk_at "rd"
  exact q _ s2
end
section
variable {K:Fg} {vs:List V} {H:Hp} {Q:VK} {E:XK}
noncomputable def lh (K:Fg):TS:=(ap (aH (tOp (rI (fun _ j=>0 < j) fun i j=>.int (i % j)) (av (bz K) [] E0 (ac (aa 0) (ac (aa 1) ag))) (tC (.int 8))) (aj 3))
 (ap (bp (be (tOp rEq (tOp (rI (fun _ j=>0 < j) fun i j=>.int (i % j)) (tOp (rI ga fun i j=>.int (i / j)) (av (bz K) [] E0 (ac (aa 0) (ac (aa 1) ag))) (tC (.int 8))) (tC (.int 16))) (tC (.int 5)))) (aH (tOp (rI0 fun i j=>.int (i + j)) (tC (.int 8)) (tOp (rI (fun _ j=>0 < j) fun i j=>.int (i % j)) (tOp (rI ga fun i j=>.int (i / j)) (av (bz K) [] E0 (ac (aa 0) (ac (aa 1) ag))) (tC (.int 128))) (tC (.int 5)))) (aj 3)) aY)
 (ap (aH (dZ ag) (aj 4))
 (ap (cU (fZ (ac (tOp (rI0 fun i j=>.int (i + j)) (tC (.int 1)) (tOp (rI (fun _ j=>0 < j) fun i j=>.int (i % j)) (av (bz K) [] E0 (ac (aa 0) (ac (tOp (rI0 fun i j=>.int (i + j)) (aa 1) (tC (.int 1))) ag))) (tC (.int 5)))) ag)) (aj 5) (dG (tBM K "list" ii (aa 4) (ac (tOp (rI (fun _ j=>0 < j) fun i j=>.int (i % j)) (av (bz K) [] E0 (ac (aa 0) (ac (tOp (rI0 fun i j=>.int (i + j)) (tOp (rI0 fun i j=>.int (i + j)) (aa 1) (tC (.int 2))) (aa 5)) ag))) (tOp (rI0 fun i j=>.int (i + j)) (tCB Ej (ac (tC (.int 4)) (ac (tOp (rI0 fun i j=>.int (i - j)) (aa 3) (tCB (vf K) (ac (aa 4) ag))) ag))) (tC (.int 1)))) ag))))
 (ap (mO (be (tOp (rI0 fun i j=>.bl (decide (j < i))) (av (i4 K) [] E0 (ac (aa 3) (ac (aa 4) ag))) (aa 2))) (ap (bp (be (tOp (rI0 fun i j=>.bl (decide (j < i))) (tCB (ym K) (ac (aa 4) ag)) (tOp (rI0 fun i j=>.int (i - j)) (aa 3) (tCB (vf K) (ac (aa 4) ag))))) (aH (tOp (rI0 fun i j=>.int (i - j)) (tCB (ym K) (ac (aa 4) ag)) (tC (.int 1))) (kh (aa 4) (tBM K "list" Bj (aa 4) (ac (tCB (ym K) (ac (aa 4) ag)) ag)) kP)) aY)
 (aH (tOp (rI0 fun i j=>.int (i - j)) (aa 3) (tC (.int 1))) (aj 3))))
 (aJ (dL (ac (aa 3) (ac (aa 4) ag)))))))))
theorem BL (h:mW K vs H Q E):lh K { nx:=fun _ H'=>Q .non H',rt:=Q } (start ["_law_script","_law_at","_law_most","_law_cards","_law_sizes","_law_k"] vs) H:=by
 obtain ⟨a,ns,at_,most,rfl,hSc,ha0,ha1,hm,g⟩:=h
 show lh K _ [some _,some _,some _,none,none,none] _
 unfold lh
 refine bA ?_
 walk_at "rs"
 refine ⟨a,ns,at_,rfl,hSc,ha0,by omega,?_⟩
 walk_at "rs"
 refine km fun NX hNX=>?_
 have key:∀ c:Nat,c<=12->NX [some (.ref a),some (.int at_),some (.int most),some (.int c),none,none] H:=by
  intro c hc
  refine hNX _ _ ?_
  refine bA ?_
  walk_at "rs"
  refine ⟨by simp [M8],fun q H1 hq s1 e1=>?_⟩
  walk_at "rs"
  refine km fun NX hNX=>?_
  have hSc1:=hSc.same s1
  walk_at "rs"
  refine ⟨a,ns,at_ + 1,rfl,hSc1,by omega,by omega,?_⟩
  walk_at "rs"
  refine ko (1 + cz ns (at_ + 1) % 5).toNat rfl (by omega) (by omega) (fun i σ H2=>∃ (ss:List Nat) (st:Option V),σ=[some (.ref a),some (.int at_),some (.int most),some (.int c),some (.ref q),st]/\am H H2/\H2 q=some (.lst (au ss))/\ss.length=i/\ss.sum<=c) ⟨[],none,rfl,s1,e1,rfl,N3 _⟩ ?_ ?_
  ·rintro i σ H2 hi ⟨ss,st,rfl,s2,e2,hl,hs⟩
   have hSc2:=hSc.same s2
   walk_at "rd"
   refine ⟨p6 e2,?_⟩
   walk_at "rd"
   refine ⟨a,ns,at_ + 2 + (i:Int),rfl,hSc2,by omega,by omega,?_⟩
   walk_at "rd"
   refine El (ns:=ss.map fun (s:Nat)=>((s:Nat):Int)) (by rw [<-dk]; exact SqL.of e2) ?_
   walk_at "rd"
   rw [jj]
   obtain ⟨lst,hlst,hlst2⟩:∃ l:Nat,(if (c:Int) - ((ss.sum:Nat):Int) < 4 then (c:Int) - ((ss.sum:Nat):Int) else 4)=(l:Int)/\l<=c - ss.sum:=by
    by_cases h:(c:Int) - ((ss.sum:Nat):Int) < 4
    ·exact ⟨c - ss.sum,by rw [if_pos h]; omega,M1 _⟩
    ·exact ⟨4,by rw [if_neg h]; rfl,by omega⟩
   rw [hlst]
   walk_at "rd"
   obtain ⟨z,hz,hz2⟩:∃ z:Nat,cz ns (at_ + 2 + (i:Int)) % ((lst:Int) + 1)=(z:Int)/\z<=lst:=by
    have m1:=PN (cz ns (at_ + 2 + (i:Int))) (b:=(lst:Int) + 1) (by omega)
    have m2:=Pm (cz ns (at_ + 2 + (i:Int))) (b:=(lst:Int) + 1) (by omega)
    exact ⟨(cz ns (at_ + 2 + (i:Int)) % ((lst:Int) + 1)).toNat,by omega,by omega⟩
   rw [hz]
   refine kn e2 (by rw [aR,M8]; omega) fun H4 o4 e4=>?_
   rw [hJ] at e4
   refine ⟨ss++[z],_,rfl,s2.off hq o4,e4,by rw [Nq,hl]; rfl,?_⟩
   rw [Ox,Nz,Qw]
   omega
  ·rintro σ H2 ⟨ss,st,rfl,s2,e2,hl,hs⟩
   exact hNX _ _ (Gr s2 hq e2 (by omega) (by omega) hs hc hm g)
 walk_at "rs"
 refine ⟨a,ns,at_,rfl,hSc,ha0,by omega,?_⟩
 walk_at "rs"
 refine dy (fun hb=>?_) (fun hb=>?_)
 ·walk_at "rs"
  refine ⟨a,ns,at_,rfl,hSc,ha0,by omega,?_⟩
  walk_at "rs"
  have:=key (8 + cz ns at_ / 128 % 5).toNat (by omega)
  rw [show (((8 + cz ns at_ / 128 % 5).toNat:Nat):Int)=8 + cz ns at_ / 128 % 5 by omega] at this
  exact this
 ·walk_at "rs"
  have:=key (cz ns at_ % 8).toNat (by omega)
  rw [show (((cz ns at_ % 8).toNat:Nat):Int)=cz ns at_ % 8 by omega] at this
  exact this
end
theorem bf.putW {H H4:Hp} {p:Addr} {R:Nat->List V->Hp->Prop} {i:Nat} {acc:List V} {y:V} (hp:H p=none) (s:am H H4) (e:H4 p=some (.lst acc)) (l:acc.length<=i) (r:∀ H6,Off p H4 H6->R (i + 1) (acc++[y]) H6):
  H4 p=some (.lst acc)/\bf H p R (i + 1) (acc++[y]) (upd H4 p (.lst (acc++[y]))):=
 ⟨e,s.upd hp _,az,by rw [Nq]; exact TY l 1,r _ ij⟩
section
variable {g:CF TG} {tt:CF TT} {te:CF TE} {σ₀:St} {Q:VK} {H:Hp} {K:Fg}
theorem GH {j:Int} (n:Nat) (hn:j.toNat=n) (hj:j<=1000000) (hj0:-1000000<=j) (R:Addr->Nat->List V->Hp->Prop) (h0:∀ p H',am H H'->R p 0 [] H')
  (hs:∀ p,H p=none->∀ C s' H' fp,∀ i acc H2,i < n->bf H p (R p) i acc H2->g C s' H' fp (.int i) σ₀ H2 fun σ2 H3=>tt C s' H' fp σ2 H3 fun b H4=>if b=true then te C s' H' fp σ2 H4 fun y H5=>H5 p=some (.lst acc)/\bf H p (R p) (i + 1) (acc++[y]) (upd H5 p (.lst (acc++[y]))) else bf H p (R p) (i + 1) acc H4)
  (hd:∀ p acc H2,H p=none->am H H2->H2 p=some (.lst acc)->R p n acc H2->Q (.ref p) H2):
  ∃ j':Int,[V.int j]=[.int j']/\-(2 ^ 62)<=j'/\j' < 2 ^ 62/\∀ p,H p=none->∃ W:Nat->Nat->List V->Hp->Prop,(∃ m,W 0 m [] (upd H p (.lst [])))/\∀ C s' H' fp,bO (Itr 0 j'.toNat) (g C s' H' fp) (tt C s' H' fp) (te C s' H' fp) σ₀ p Q W:=by
 refine ⟨j,rfl,by omega,by omega,fun p hp=>?_⟩
 subst hn
 exact pY (lo:=0) (bf H p (R p)) ⟨bg hp _,az,M1 _,h0 _ _ (bg hp _)⟩ (fun i acc H2 _ c=>⟨c.2.1,c.2.2.1⟩) (by rw [M8]; omega) (fun C s' H' fp i acc H2 hi c=>by rw [SK]; exact hs p hp C s' H' fp i acc H2 hi c) fun acc H2 c=>hd p acc H2 hp c.1 c.2.1 c.2.2.2
end
section
open PySem.Spec
theorem cg.units64 {k:Nat} {A:Around} (r:cg k A):A.units + 64 < cLine:=by have:=r.un; omega
section
variable {X:Cx}
theorem OpR.weak {f:Value->Value->Sem Value} {r r':R2} (h:OpR X f r) (w:∀ x y H Q,r' x y H Q->r x y H Q):OpR X f r':=fun pins s σ H x y v u Q I rx ry q=>h pins s σ H x y v u Q I rx ry (w x y H Q q)
theorem dS.weak {f:Value} {r r':List V->Hp->VK->Prop} (h:dS X f r) (w:∀ xs H Q,r' xs H Q->r xs H Q):dS X f r':=fun pins s σ H xs us Q I rx q=>h pins s σ H xs us Q I rx (w xs H Q q)
theorem sf:OpR X (PU .Add) vg:=FX.weak fun _ _ _ _ ⟨l,b,xs,zs,e1,e2,h1,h2,hz,q⟩=>⟨l,b,xs,zs,e1,e2,h1,h2,hz,q.upd⟩
theorem GI:OpR X (PU .Mult) Hz:=K6.weak fun _ _ _ _ ⟨l,k,xs,e1,e2,h1,h2,h3,hz,q⟩=>⟨l,k,xs,e1,e2,h1,h2,h3,hz,q.upd⟩
theorem o0:dS X (.type "list") (mR X.K):=Bb.weak fun _ _ _ ⟨p,ys,e,h,q⟩=>⟨p,ys,e,h,q.upd⟩
theorem vx:dS X (.type "tuple") (oU X.K):=qH.weak fun _ _ _ ⟨p,ys,e,h,q⟩=>⟨p,ys,e,.inl ⟨h,q.upd⟩⟩
end
section
variable {X:Cx} {es:List Expr} {t:TA} {pos:Pos}
theorem ck {x1} (h:PA X es t):PE X (.Tuple es x1 pos) (dL t):=by
 intro pins s σ H Q I hq
 refine Ud (thn (h pos pins s σ H _ I hq) fun us s1 ⟨xs,H1,I1,r,z,q⟩=>⟨by rw [<-r.length]; exact z,?_⟩)
 have hf:H1 s1.heap.objs.size=none:=I1.hok.fresh (M1 _)
 refine ⟨.ref s1.heap.objs.size,upd H1 s1.heap.objs.size (.tup xs),I1.laid (t':=s1.toks) (fun b u e=>MW _ e) (M1 _) ?_,rfl,q.upd _ hf⟩
 exact ⟨z,us,r,gn.new _ _⟩
theorem cy (h:PA X es t):PE X (.List es pos) (dZ t):=by
 intro pins s σ H Q I hq
 refine Uu (thn (h pos pins s σ H _ I hq) fun us s1 ⟨xs,H1,I1,r,z,q⟩=>⟨by rw [<-r.length]; exact z,?_⟩)
 have hf:H1 s1.heap.objs.size=none:=I1.hok.fresh (M1 _)
 refine ⟨.ref s1.heap.objs.size,upd H1 s1.heap.objs.size (.lst xs),I1.laid (t':=s1.toks) (fun b u e=>MW _ e) (M1 _) ?_,rfl,q.upd _ hf⟩
 exact ⟨z,us,0,r,Nc _ rfl⟩
end
section
variable {X:Cx} {es:List Expr} {te:TE} {t:TA}
theorem ar {v:Const} {j:Nat} {p:Pos} (ha:PE X (.Constant v j p) te) (hr:PA X es t):PA X (.Constant v j p :: es) (ac te t):=gG ha hr rfl
theorem ad {x:Str} {p:Pos} (ha:PE X (.Name x p) te) (hr:PA X es t):PA X (.Name x p :: es) (ac te t):=gG ha hr rfl
theorem aX {a b:Expr} {o:Operator} {p:Pos} (ha:PE X (.BinOp a o b p) te) (hr:PA X es t):PA X (.BinOp a o b p :: es) (ac te t):=gG ha hr rfl
theorem aZ {f:Expr} {as:List Expr} {ks:List Keyword} {p:Pos} (ha:PE X (.Call f as ks p) te) (hr:PA X es t):PA X (.Call f as ks p :: es) (ac te t):=gG ha hr rfl
theorem bF {as:List Expr} {k:Nat} {p:Pos} (ha:PE X (.Tuple as k p) te) (hr:PA X es t):PA X (.Tuple as k p :: es) (ac te t):=gG ha hr rfl
theorem Iv {as:List Expr} {p:Pos} (ha:PE X (.List as p) te) (hr:PA X es t):PA X (.List as p :: es) (ac te t):=gG ha hr rfl
theorem aE {a b:Expr} {p:Pos} (ha:PE X (.Subscript a b p) te) (hr:PA X es t):PA X (.Subscript a b p :: es) (ac te t):=gG ha hr rfl
theorem uP {a:Expr} {os:List CmpOp} {bs:List Expr} {p:Pos} (ha:PE X (.Compare a os bs p) te) (hr:PA X es t):PA X (.Compare a os bs p :: es) (ac te t):=gG ha hr rfl
theorem bE {e:Expr} (ha:PE X e te) (hr:PA X es t) (hs:Nu (e :: es) X.env=(false,eval e X.env) :: Nu es X.env:=by rfl):PA X (e :: es) (ac te t):=gG ha hr hs
structure ah (N:List Str) (sc:Scope) (i:Nat) (x:Str):Prop where
 n:N[i]?=some x
 v:Vis sc x
 d:(x == ("__debug__":Str))=false
 c:(x == ("__classdict__":Str))=false
theorem pvQ {N:List Str} {sc:Scope} {i:Nat} {x:Str} {pos:Pos} (h:ah N sc i x) (hN:X.N=N) (hS:X.env.scope=sc):PE X (.Name x pos) (aa i):=by
 subst hN hS
 exact FI h.n h.v h.d h.c
end
end
section
open PySem.Spec
theorem BM {X:Cx}:SlR X (Bm X.K):=fun pins s σ H x v vl vu lo hi sl Q I rx hs pl pu ⟨a,xs,e,h,n,q⟩=>K4 pins s σ H x v vl vu lo hi sl Q I rx hs pl pu ⟨a,xs,e,h,n,q.upd⟩
noncomputable def wN (P:Program) (w:World) (K:Fg) (a:Addr) (kvs:List (Str×V)):Prop:=
 (a == OW)=false/\∃ (o:Obj) (es:Array Uq) (ep:Nat) (vs:List (Key×Value)),K.lookup a=some o/\o.ExactDict/\o.data=.dict es ep/\KeysOf (js P w) es/\Pairs (js P w) es.toList vs/\(vs.map (·.1)).Nodup/\
  Paired (fun (p:Str×V) (q:Key×Value)=>q.1=.inr p.1/\aM p.2 q.2) kvs vs
theorem lQ {k:Str} {v:V}:∀ {kvs:List (Str×V)} {vs:List (Key×Value)},Paired (fun (p:Str×V) (q:Key×Value)=>q.1=.inr p.1/\aM p.2 q.2) kvs vs->kvs.lookup k=some v->∃ u,valueAt vs (.inr k)=some u/\aM v u
 | _,_,.nil,h=>by cases h
 | _,_,.cons (a:=p) (b:=q) r t,h=>by
  obtain ⟨x,y⟩:=p
  obtain ⟨kq,u⟩:=q
  obtain ⟨r1,r2⟩:=r
  simp only at r1 r2
  subst r1
  rw [Oh] at h
  unfold valueAt
  rw [NM]
  by_cases e:k=x
  ·subst e
   rw [beq_self_eq_true] at h
   cases h
   rw [show decide ((OS k:Key)=OS k)=true from decide_eq_true rfl]
   exact ⟨u,rfl,r2⟩
  ·rw [show (k == x)=false from beq_eq_false_iff_ne.mpr e] at h
   rw [show decide ((OS x:Key)=OS k)=false from decide_eq_false fun z=>e (QC z).symm]
   exact lQ t h
section
variable {X:Cx} {o i:Expr} {pos:Pos} {td ty:TE} {a:Addr} {kvs:List (Str×V)}
theorem wN.of {pins:List (Addr×Obj)} {σ:St} {H:Hp} {s:Shared} (D:wN X.prog X.w X.K a kvs) (I:Inv X pins σ H s):∃ vs,s.heap.DictOf (js X.prog X.w) a vs/\Paired (fun (p:Str×V) (q:Key×Value)=>q.1=.inr p.1/\aM p.2 q.2) kvs vs:=by
 obtain ⟨_,o,es,ep,vs,lk,ex,hd,hk,hp,nd,rel⟩:=D
 exact ⟨vs,⟨o,es,ep,I.kIn a o lk,ex,hd,hk,hp,nd⟩,rel⟩
theorem GJ (D:wN X.prog X.w X.K a kvs) (ho:PE X o td) (hi:PE X i ty) (hs:HQ i):PE X (.Subscript o i pos) (tOp (En kvs a) td ty):=by
 intro pins s σ H Q I h
 refine Dp So.lookup hs (thn (ho pins s σ H _ I h) fun u s1 ⟨x,H1,I1,rx,q1⟩=>thn (hi pins s1 σ H1 _ I1 q1) fun iv s2 ⟨y,H2,I2,ry,ex,k,v,ey,el,q2⟩=>?_)
 subst ex ey
 obtain rfl:u=NA a:=rx
 obtain ⟨vs,dd,rel⟩:=D.of I2
 obtain ⟨w',hw,rw'⟩:=lQ rel el
 exact ⟨dd.typeIs,Vs (JA (k:=.inr k) ry) dd.mapOf hw ⟨v,H2,I2.tok _,rw',q2⟩⟩
theorem uQ {k:Str}:∀ {kvs:List (Str×V)} {vs:List (Key×Value)},Paired (fun (p:Str×V) (q:Key×Value)=>q.1=.inr p.1/\aM p.2 q.2) kvs vs->kvs.lookup k=none->valueAt vs (.inr k)=none
 | _,_,.nil,_=>rfl
 | _,_,.cons (a:=p) (b:=q) r t,h=>by
  obtain ⟨x,y⟩:=p
  obtain ⟨kq,u⟩:=q
  obtain ⟨r1,r2⟩:=r
  simp only at r1 r2
  subst r1
  rw [Oh] at h
  unfold valueAt
  rw [NM]
  by_cases e:k=x
  ·subst e
   rw [beq_self_eq_true] at h
   cases h
  ·rw [show (k == x)=false from beq_eq_false_iff_ne.mpr e] at h
   rw [show decide ((OS x:Key)=OS k)=false from decide_eq_false fun z=>e (QC z).symm]
   exact uQ t h
theorem BN (D:wN X.prog X.w X.K a kvs):OpR X (OU .NotIn) (Bn kvs a true):=by
 intro pins s σ H x y v u Q I rx ry h
 obtain ⟨rfl,k,rfl,q⟩:=h
 obtain rfl:u=NA a:=ry
 obtain ⟨vs,dd,rel⟩:=D.of I
 refine wpAny_notIn_of (JA (k:=.inr k) rx) D.1 dd.mapOf ?_
 refine ⟨.bl (!(kvs.lookup k).isSome),H,I.tok _,?_,q⟩
 cases e:kvs.lookup k with
 | none=>rw [uQ rel e]; rfl
 | some v'=>
  obtain ⟨w',hw,_⟩:=lQ rel e
  rw [hw]
  rfl
end
end
section
open PySem.Spec
structure Iw (P:Program) (w:World) (K:Fg) (mg:Str->Option Value) (G:Glo):Prop where
 ok:wD K G
 mf:mg "FORMS"=some (.ref G.forms)
 df:wN P w K G.forms G.kvs
theorem jv {K:Fg} {a:Addr} {od:Option Addr} {its:Array Value} {n:Nat} {sl:Array (Option Value)} (l:K.lookup a=some ⟨.type "tuple",od,.seq its n,sl⟩) (xs:List V) (hz:its.size<=Nb) (r:aK xs its.toList):lN K a xs:=⟨_,its,n,l,rfl,rfl,hz,r⟩
theorem Ko {P:Program} {w:World} {K:Fg} {mg:Str->Option Value} {aF aC f1 f2 f3 f4 f5 f6 f7 f8:Addr} {k1 k2 k3 k4 k5 k6 k7 k8 u1 u2 u3 u4 u5 u6 u7 u8 u9 ua ub uc ud ue:Tok} {ep n1 n2 n3 n4 n5 n6 n7 n8:Nat} {o1 o2 o3 o4 o5 o6 o7 o8:Option Addr} {s1 s2 s3 s4 s5 s6 s7 s8:Array (Option Value)}
  (nF:(aF == OW)=false) (mf:mg "FORMS"=some (.ref aF))
  (lF:K.lookup aF=some ⟨.type "dict",none,.dict #[⟨N9 w.params "holds",.str "holds" k1,.ref f1⟩,⟨N9 w.params "not",.str "not" k2,.ref f2⟩,⟨N9 w.params "and",.str "and" k3,.ref f3⟩,⟨N9 w.params "or",.str "or" k4,.ref f4⟩,
   ⟨N9 w.params "knows",.str "knows" k5,.ref f5⟩,⟨N9 w.params "all",.str "all" k6,.ref f6⟩,⟨N9 w.params "common",.str "common" k7,.ref f7⟩,⟨N9 w.params "sees",.str "sees" k8,.ref f8⟩] ep,#[]⟩)
  (l1:K.lookup f1=some ⟨.type "tuple",o1,.seq #[.str "holder" u1,.str "card" u2] n1,s1⟩) (l2:K.lookup f2=some ⟨.type "tuple",o2,.seq #[.str "saying" u3] n2,s2⟩) (l3:K.lookup f3=some ⟨.type "tuple",o3,.seq #[.str "saying" u4,.str "saying" u5] n3,s3⟩) (l4:K.lookup f4=some ⟨.type "tuple",o4,.seq #[.str "saying" u6,.str "saying" u7] n4,s4⟩)
  (l5:K.lookup f5=some ⟨.type "tuple",o5,.seq #[.str "hand" u8,.str "saying" u9] n5,s5⟩) (l6:K.lookup f6=some ⟨.type "tuple",o6,.seq #[.str "hands" ua,.str "saying" ub] n6,s6⟩) (l7:K.lookup f7=some ⟨.type "tuple",o7,.seq #[.str "hands" uc,.str "saying" ud] n7,s7⟩) (l8:K.lookup f8=some ⟨.type "tuple",o8,.seq #[.str "hand" ue] n8,s8⟩)
  : Iw P w K mg ⟨aF,aC,f1,f2,f3,f4,f5,f6,f7,f8⟩ where
 mf:=mf
 ok:=⟨jv l1 _ (by show 2<=Nb; decide) (.cons ⟨_,rfl⟩ (.cons ⟨_,rfl⟩ .nil)),jv l2 _ (by show 1<=Nb; decide) (.cons ⟨_,rfl⟩ .nil),jv l3 _ (by show 2<=Nb; decide) (.cons ⟨_,rfl⟩ (.cons ⟨_,rfl⟩ .nil)),jv l4 _ (by show 2<=Nb; decide) (.cons ⟨_,rfl⟩ (.cons ⟨_,rfl⟩ .nil)),
  jv l5 _ (by show 2<=Nb; decide) (.cons ⟨_,rfl⟩ (.cons ⟨_,rfl⟩ .nil)),jv l6 _ (by show 2<=Nb; decide) (.cons ⟨_,rfl⟩ (.cons ⟨_,rfl⟩ .nil)),jv l7 _ (by show 2<=Nb; decide) (.cons ⟨_,rfl⟩ (.cons ⟨_,rfl⟩ .nil)),jv l8 _ (by show 1<=Nb; decide) (.cons ⟨_,rfl⟩ .nil)⟩
 df:=by
  refine ⟨nF,_,_,_,[(.inr "holds",.ref f1),(.inr "not",.ref f2),(.inr "and",.ref f3),(.inr "or",.ref f4),(.inr "knows",.ref f5),(.inr "all",.ref f6),(.inr "common",.ref f7),(.inr "sees",.ref f8)],lF,⟨rfl,rfl,rfl⟩,rfl,?_,?_,?_,?_⟩
  ·intro e he
   simp only [List.mem_toArray,Array.mem_def,M6,N5,or_false] at he
   rcases he with rfl | rfl | rfl | rfl | rfl | rfl | rfl | rfl
   ·exact ⟨.inr "holds",bB P w _ _,rfl⟩
   ·exact ⟨.inr "not",bB P w _ _,rfl⟩
   ·exact ⟨.inr "and",bB P w _ _,rfl⟩
   ·exact ⟨.inr "or",bB P w _ _,rfl⟩
   ·exact ⟨.inr "knows",bB P w _ _,rfl⟩
   ·exact ⟨.inr "all",bB P w _ _,rfl⟩
   ·exact ⟨.inr "common",bB P w _ _,rfl⟩
   ·exact ⟨.inr "sees",bB P w _ _,rfl⟩
  ·exact .cons (bB P w _ _) rfl (.cons (bB P w _ _) rfl (.cons (bB P w _ _) rfl (.cons (bB P w _ _) rfl (.cons (bB P w _ _) rfl (.cons (bB P w _ _) rfl (.cons (bB P w _ _) rfl (.cons (bB P w _ _) rfl .nil)))))))
  ·show ([.inr "holds",.inr "not",.inr "and",.inr "or",.inr "knows",.inr "all",.inr "common",.inr "sees"]:List Key).Nodup
   decide +kernel
  ·exact .cons ⟨rfl,rfl⟩ (.cons ⟨rfl,rfl⟩ (.cons ⟨rfl,rfl⟩ (.cons ⟨rfl,rfl⟩ (.cons ⟨rfl,rfl⟩ (.cons ⟨rfl,rfl⟩ (.cons ⟨rfl,rfl⟩ (.cons ⟨rfl,rfl⟩ .nil)))))))
end
section
open PySem.Spec
section
variable {P:Program} {w:World} {K:Fg} {mg:Str->Option Value} {base:Heap} {N:List Str} {qual:Str} {scope:Scope} {f:Addr} {cd:Value} {A:Around} {outer:List Env} {s:Shared} {H:Hp} {E:XK}
end
end
section
open PySem.Spec
section
variable {X:Cx} {pins:List (Addr×Obj)} {σ:St} {H:Hp} {s:Shared} {B h':Heap}
end
section
variable {X:Cx} {pins pn pins':List (Addr×Obj)} {σ:St} {H:Hp} {s:Shared} {B:Heap} {E:Value->Shared->Prop} {a:Addr}
end
end
section
open PySem.Spec PySem.W
section
variable {prog:Program} {w:World} {A:Around} {E:Value->Shared->Prop} {h:Heap} {g:Array TH} {d:Drawn} {t:Nat} {os:OsState} {a:Addr} {o:Obj} {C:Addr} {K:Frag}
end
end
section
open PySem.Spec PySem.W
end
section
open PySem.Spec PySem.W
section
variable {P:Program} {w:World} {K:Frag} {mg:Str->Option Value} {base:Heap} {k:Nat} {f:Addr} {fd:Nk} {ps:List Str}
end
end
section
open PySem.Spec PySem.W
section
variable {P:Program} {w:World} {K:Frag} {mg:Str->Option Value} {base:Heap}
noncomputable def FnM (P:Program) (w:World) (K:Frag) (mg:Str->Option Value) (base:Heap) (k:Nat) (C:Addr) (m:Str) (ps:List Str) (sp:Sp):Prop:=
 ∃ f fd,iM P w K mg base CX0 k f fd ps sp/\A6 K C m f/\gf K fd ps []
structure jn (K:Frag) (C:Addr) (m qual:Str) (st:Stmt) (ps:List Str) (f:Addr) (fd:Nk):Prop where
 fn:Fun K m qual st f fd
 mt:A6 K C m f
 b:gf K fd ps []
theorem jn.ok {C:Addr} {m qual:Str} {st:Stmt} {N ps:List Str} {f:Addr} {fd:Nk} {k:Nat} {sp:Sp} (D:jn K C m qual st ps f fd) (S:aA N ps (ab st)) (len:∀ vs H Q E,sp vs H Q E->vs.length=ps.length)
  (hbody:∀ (cdv:Value) (A:Around) (outer:List Env) (s:Shared) (H:Hp) (vs:List V) (Q:VK) (E:XK),cg k (A.deeper (envOfC qual (ab st) s.heap.objs.size f cdv))->sp vs H Q E->
   ∃ t,PSs (pR CX0 P w K mg base N qual (ab st) f cdv A outer s H E).nox (fK st) t/\t { nx:=fun _ H'=>Q .non H',rt:=Q } (start N vs) H):FnM P w K mg base (k + 1) C m ps sp:=
 ⟨f,fd,D.fn.ok S len hbody,D.mt,D.b⟩
noncomputable def FnI (P:Program) (w:World) (K:Frag) (mg:Str->Option Value) (base:Heap) (k:Nat) (C:Addr) (ps:List Str) (sp:Sp):Prop:=
 ∃ f fd,iM P w K mg base CX0 k f fd ps sp/\Mk K C f/\gf K fd ps []
structure BO (K:Frag) (C:Addr) (qual:Str) (st:Stmt) (ps:List Str) (f:Addr) (fd:Nk):Prop where
 fn:Fun K "__init__" qual st f fd
 made:Mk K C f
 b:gf K fd ps []
theorem BO.ok {C:Addr} {qual:Str} {st:Stmt} {N ps:List Str} {f:Addr} {fd:Nk} {k:Nat} {sp:Sp} (D:BO K C qual st ps f fd) (S:aA N ps (ab st)) (len:∀ vs H Q E,sp vs H Q E->vs.length=ps.length)
  (hbody:∀ (cdv:Value) (A:Around) (outer:List Env) (s:Shared) (H:Hp) (vs:List V) (Q:VK) (E:XK),cg k (A.deeper (envOfC qual (ab st) s.heap.objs.size f cdv))->sp vs H Q E->
   ∃ t,PSs (pR CX0 P w K mg base N qual (ab st) f cdv A outer s H E).nox (fK st) t/\t { nx:=fun _ H'=>Q .non H',rt:=Q } (start N vs) H):FnI P w K mg base (k + 1) C ps sp:=
 ⟨f,fd,D.fn.ok S len hbody,D.made,D.b⟩
end
section
variable {X:Cx} {k:Nat} {C:Addr} {m:Str} {ps:List Str} {sp:Sp} {p pos apos:Pos} {o e:Expr} {es:List Expr} {ta:TE} {t:TA}
theorem bY {a:Expr} {f:Str} {p:Pos} {te:TE} (ha:PE X (.Attribute a f p) te) (hr:PA X es t):PA X (.Attribute a f p :: es) (ac te t):=gG ha hr rfl
theorem gi {pl:Sem Bool} (F:FnM X.prog X.w X.K X.mg X.base k C m ps sp) (hr:cg k X.A) (c:Cls X.K C) (he:PE X o ta) (ha:PA X (e :: es) t)
  (hst:Nu (e :: es) X.env=(false,eval e X.env) :: Nu es X.env:=by rfl) (hpl:(backTo pos (Nu es X.env)).any (·.1)=false:=by rfl)
  (ht:eval (.Call (.Attribute o m apos) (e :: es) [] pos) X.env=(do
   let ov <-eval o X.env
   standAt apos.atName
   let (f,first) <-holding [ov] (RK ov m pl)
   Vh pos f first (backTo pos (Nu (e :: es) X.env)) (Q6 pos (Ql [] X.env))):=by rfl):
  PE X (.Call (.Attribute o m apos) (e :: es) [] pos) (gd C m sp [] E0 ta t):=by
 obtain ⟨f,fd,ok,mt,b⟩:=F
 exact JT he c mt ok hr b .nil AB ha hst hpl ht
theorem GK {pl:Sem Bool} (F:FnM X.prog X.w X.K X.mg X.base k C m ps sp) (hr:cg k X.A) (c:Cls X.K C) (he:PE X o ta)
  (ht:eval (.Call (.Attribute o m apos) [] [] pos) X.env=(do
   let ov <-eval o X.env
   standAt apos.atName
   let (f,first) <-holding [ov] (RK ov m pl)
   Vh pos f first (backTo pos (Nu [] X.env)) (Q6 pos (Ql [] X.env))):=by rfl):
  PE X (.Call (.Attribute o m apos) [] [] pos) (gd C m sp [] E0 ta ag):=by
 obtain ⟨f,fd,ok,mt,b⟩:=F
 exact Ho he c mt ok hr b .nil AB ht
theorem Ix {x:Str} (F:FnI X.prog X.w X.K X.mg X.base k C ps sp) (hr:cg (k + 1) X.A) (hm:X.mg x=some (.ref C)) (ha:PA X (e :: es) t) (hg:Gl X x:=by rfl)
  (hdb:(x == ("__debug__":Str))=false:=by decide) (he:Nu (e :: es) X.env=(false,eval e X.env) :: Nu es X.env:=by rfl) (hpl:(backTo pos (Nu es X.env)).any (·.1)=false:=by rfl):
  PE X (.Call (.Name x p) (e :: es) [] pos) (AA C sp [] E0 t):=by
 obtain ⟨f,fd,ok,mk,b⟩:=F
 exact JU mk ok hr hg hm b .nil AB ha hdb he hpl
end
end
section
open PySem.Spec PySem.W
structure sg (K:Frag) (C:Addr):Prop where
 cl:Cls K C
 n1:fh K C "dealt"
 n2:fh K C "cards"
 n3:fh K C "sizes"
 n4:fh K C "hands"
 n5:fh K C "views"
 n6:fh K C "deeds"
set_option genInjectivity false in
structure GF extends Glo where
 Table:Addr
structure fk (P:Program) (w:World) (K:Frag) (mg:Str->Option Value) (G:GF):Prop where
 tb:Iw P w K mg G.toGlo
 m_Table:mg "Table"=some (.ref G.Table)
 ct:sg K G.Table
theorem fk.cl_Table {P:Program} {w:World} {K:Frag} {mg:Str->Option Value} {G:GF} (T:fk P w K mg G):Cls K G.Table:=T.ct.cl
theorem Iy {P:Program} {w:World} {K:Frag} {mg:Str->Option Value} {G:Glo} {aT:Addr} (t:Iw P w K mg G) (m:mg "Table"=some (.ref aT)) (pg:plainGet K aT VY=true) (hd:hasDictIn K aT=true) (po:plainOver K aT=true) (sa:findIn K (.ref aT) "__setattr__"=some (some (.builtin "object.__setattr__")))
  (n1:findIn K (.ref aT) "dealt"=some none) (n2:findIn K (.ref aT) "cards"=some none) (n3:findIn K (.ref aT) "sizes"=some none) (n4:findIn K (.ref aT) "hands"=some none) (n5:findIn K (.ref aT) "views"=some none) (n6:findIn K (.ref aT) "deeds"=some none):fk P w K mg ⟨G,aT⟩:=
 ⟨t,m,⟨⟨pg,hd,po,sa⟩,n1,n2,n3,n4,n5,n6⟩⟩
end
end L2
section
namespace L2
open PySem
end L2
end
section
namespace L2
open PySem
noncomputable def vy (K:Fg) (t:TA):TE:=fun σ H Q=>t σ H fun xs H1=>∃ (p:Addr) (ns:List Int),xs=[.ref p]/\SqL K H1 p (ns.map V.int)/\ns.length < 64/\
 ∀ (q:Addr) (H':Hp) (ms:List Int),H1 q=none->am H1 H'->H' q=some (.lst (ms.map V.int))->ms.Pairwise (· < ·)->(∀ y,y∈ms↔y∈ns)->Q (.ref q) H'
theorem GL {K:Fg} {t:TA} {σ:St} {H:Hp} {Q:VK} (h:t σ H fun xs H1=>∃ (p:Addr) (ns:List Int),xs=[.ref p]/\SqL K H1 p (ns.map V.int)/\ns.length < 64/\
 ∀ (q:Addr) (H':Hp) (ms:List Int),H1 q=none->am H1 H'->H' q=some (.lst (ms.map V.int))->ms.Pairwise (· < ·)->(∀ y,y∈ms↔y∈ns)->Q (.ref q) H'):vy K t σ H Q:=h
theorem BP {α:Type} [DecidableEq α]:∀ {l m:List α},l.Nodup->(∀ x∈l,x∈m)->l.length<=m.length
 | [],m,_,_=>N3 _
 | x :: l,m,nd,h=>by
  have hx:x∈m:=h x M7
  obtain ⟨n1,n2⟩:=PM.mp nd
  have:=BP (m:=m.erase x) n2 fun y hy=>(List.mem_erase_of_ne (fun e:y=x=>n1 (e ▸ hy))).mpr (h y (Nh _ hy))
  rw [List.length_erase_of_mem hx] at this
  have:=List.length_pos_of_mem hx
  rw [NC]
  omega
end L2
end
namespace L2
open PySem PyProof.Rows
noncomputable def GE (P:Hp->V->Prop) (σ:St) (H0:Hp) (te:TE):Prop:=∀ H,am H0 H->∀ Q:VK,(∀ x H',am H H'->P H' x->Q x H')->te σ H Q
noncomputable def GA (P:Hp->V->Prop) (σ:St) (H0:Hp) (n:Nat) (ta:TA):Prop:=∀ H,am H0 H->∀ R:List V->Hp->Prop,(∀ xs H',am H H'->xs.length=n->(∀ x∈xs,P H' x)->R xs H')->ta σ H R
theorem GA.nil {P:Hp->V->Prop} {σ:St} {H0:Hp}:GA P σ H0 0 ag:=fun H s R q=>Jw (q [] H (am.refl _) rfl fun _ h=>(nomatch h))
theorem GA.cons {P:Hp->V->Prop} (st:∀ H H' x,am H H'->P H x->P H' x) {σ:St} {H0:Hp} {n:Nat} {te:TE} {tr:TA} (b:GE P σ H0 te) (t:GA P σ H0 n tr):GA P σ H0 (n + 1) (ac te tr):=fun H s R q=>
 Ga (b H s _ fun x H1 s1 px=>t H1 (s.trans s1) _ fun xs H2 s2 hl hb=>q (x :: xs) H2 (s1.trans s2) (by rw [NC,hl]) fun y hy=>by
  rcases M6.mp hy with rfl | hy
  ·exact st _ _ _ s2 px
  ·exact hb y hy)
theorem si {P:Hp->V->Prop} (st:∀ H H' x,am H H'->P H x->P H' x) {σ:St} {H0 H:Hp} {n:Nat} {ta:TA} {R:List V->Hp->Prop} (s:am H0 H) (b:GA P σ H0 n ta) (q:∀ xs H',am H H'->xs.length=n->(∀ x∈xs,P H' x)->R xs H'):ta σ H R:=b H s R q
theorem nY (z:Int) {m:Int} (h:0 < m):∃ k:Nat,z % m=(k:Int)/\(k:Int) < m:=by
 have m1:=PN z (b:=m) (by omega)
 have m2:=Pm z h
 exact ⟨(z % m).toNat,by omega,by omega⟩
section
variable {K:Fg} {vs:List V} {H:Hp} {Q:VK} {E:XK}
noncomputable def eZ (_:Fg):Sp:=fun vs H Q _=>∃ (z:Int) (h:Nat),vs=[.int z,.int h]/\h<=5/\∀ (p:Addr) (g:List Nat) (H':Hp),am H H'->H' p=some (.tup (au g))->g.Pairwise (· < ·)->(∀ k∈g,k < h)->Q (.ref p) H'
noncomputable def jL (K:Fg):TS:=(aJ (tCB (oU K) (ac (bu (fZ (ac (aa 1) ag)) (fun _ _ _ _=>(aj 0)) (fun _ _ _ _=>(be (tOp rEq (tOp (rI (fun _ j=>0 < j) fun i j=>.int (i % j)) (tOp (rI ga fun i j=>.int (i / j)) (aa 1) (tOp (ca K) (dZ (ac (tC (.int 1)) (ac (tC (.int 2)) (ac (tC (.int 4)) (ac (tC (.int 8)) (ac (tC (.int 16)) ag)))))) (aa 0))) (tC (.int 2))) (tC (.int 1))))) (fun _ _ _ _=>(aa 0)) [none,some 0]) ag)))
theorem at5 {i:Nat} (h:i < 5):∃ v:Int,atI [V.int 1,V.int 2,V.int 4,V.int 8,V.int 16] (i:Int)=some (.int v)/\0 < v/\v<=16:=by
 match i,h with
 | 0,_=>exact ⟨1,rfl,by decide,by decide⟩
 | 1,_=>exact ⟨2,rfl,by decide,by decide⟩
 | 2,_=>exact ⟨4,rfl,by decide,by decide⟩
 | 3,_=>exact ⟨8,rfl,by decide,by decide⟩
 | 4,_=>exact ⟨16,rfl,by decide,by decide⟩
theorem zI (h:eZ K vs H Q E):jL K { nx:=fun _ H'=>Q .non H',rt:=Q } (start ["_law_number","_law_hands"] vs) H:=by
 obtain ⟨z,h,rfl,h5,q⟩:=h
 show jL K _ [some _,some _] _
 unfold jL
 walk_at "rd"
 refine vh h (by omega) (by omega) (by omega) (fun i acc _=>∃ g:List Nat,acc=au g/\g.Pairwise (· < ·)/\∀ k∈g,k < i) (fun _ _=>⟨[],rfl,.nil,fun _ h=>(nomatch h)⟩) ?_ ?_
 ·rintro p hp C s' H' fp i acc H2 hi ⟨s2,e2,l2,g,rfl,pw,hb⟩
  walk_at "rd"
  refine ⟨by simp [M8],fun b H3 hb3 s3 e3=>?_⟩
  walk_at "rd"
  obtain ⟨v,hv,v0,v16⟩:=at5 (i:=i) (by omega)
  refine bI (SqL.of e3) hv ?_
  walk_at "rd"
  have e23:=s3 _ _ e2
  refine dy (fun c=>?_) (fun c=>?_)
  ·walk_at "rd"
   refine bf.put hp (fun _ _ _ _ r _=>r) (s2.trans s3) e23 l2 ⟨g++[i],by rw [<-hJ],?_,fun k hk=>?_⟩
   ·rw [Rr]
    exact ⟨pw,SU _ _,fun x hx y hy=>by rw [M0] at hy; have:=hb x hx; omega⟩
   ·rcases NL.mp hk with hk | hk
    ·have:=hb k hk; omega
    ·rw [M0] at hk; omega
  ·exact bf.skip (s2.trans s3) e23 l2 ⟨g,rfl,pw,fun k hk=>by have:=hb k hk; omega⟩
 ·intro p acc H2 hp s2 e2 ⟨g,hg,pw,hb⟩
  subst hg
  walk_at "rd"
  exact yn (SqL.of e2) fun t H3 ht s3 e3=>q t g H3 (s2.trans s3) e3 pw hb
noncomputable def wO (H:Hp) (x:V):Option Sy->Prop
 | some t=>aU H x t
 | none=>(∃ i,x=.int i)\/∃ b g,x=.ref b/\H b=some (.tup (au g))
theorem wO.keep {H H':Hp} (k:iO H H') {x:V} {o:Option Sy} (h:wO H x o):wO H' x o:=by
 cases o with
 | some t=>exact aU.keep k h
 | none=>
  rcases h with h | ⟨b,g,e,h⟩
  ·exact .inl h
  ·exact .inr ⟨b,g,e,k _ _ h⟩
theorem DC {H:Hp} {v:V} {s:Sy} (h:aU H v s):∃ a items os,v=.ref a/\H a=some (.tup (.str s.word :: items))/\Paired (wO H) items os/\os.filterMap id=s.subs/\items.length<=2:=by
 cases s with
 | holds w c=>obtain ⟨a,e,h⟩:=h; exact ⟨a,_,[none,none],e,h,.cons (.inl ⟨_,rfl⟩) (.cons (.inl ⟨_,rfl⟩) .nil),rfl,by simp⟩
 | sees w=>obtain ⟨a,e,h⟩:=h; exact ⟨a,_,[none],e,h,.cons (.inl ⟨_,rfl⟩) .nil,rfl,by simp⟩
 | not s=>obtain ⟨a,x,e,h,r⟩:=h; exact ⟨a,_,[some s],e,h,.cons r .nil,rfl,by simp⟩
 | and s t=>obtain ⟨a,x,y,e,h,r,q⟩:=h; exact ⟨a,_,[some s,some t],e,h,.cons r (.cons q .nil),rfl,by simp⟩
 | or s t=>obtain ⟨a,x,y,e,h,r,q⟩:=h; exact ⟨a,_,[some s,some t],e,h,.cons r (.cons q .nil),rfl,by simp⟩
 | knows w s=>obtain ⟨a,x,e,h,r⟩:=h; exact ⟨a,_,[none,some s],e,h,.cons (.inl ⟨_,rfl⟩) (.cons r .nil),rfl,by simp⟩
 | all g s=>obtain ⟨a,b,x,e,h,i,r⟩:=h; exact ⟨a,_,[none,some s],e,h,.cons (.inr ⟨b,g,rfl,i⟩) (.cons r .nil),rfl,by simp⟩
 | common g s=>obtain ⟨a,b,x,e,h,i,r⟩:=h; exact ⟨a,_,[none,some s],e,h,.cons (.inr ⟨b,g,rfl,i⟩) (.cons r .nil),rfl,by simp⟩
noncomputable def fb (_:Fg) (n:Nat):Sp:=fun vs H Q _=>∃ (v:V) (s:Sy),vs=[v]/\aU H v s/\s.words<=n/\∀ H',am H H'->Q (.int (s.words:Nat)) H'
noncomputable def jM (K:Fg) (n:Nat):TS:=(ap (aH (tC (.int 1)) (aj 1))
 (ap (cU (rA K (tSl (Bm K) (aa 0) (vZ (tC (.int 1))) oS)) (aj 2) (bp (A0 (tB (tCB (iN K) (ac (aa 2) (ac (tC (.ty "tuple")) ag)))) (A0 (be (tOp (jz (SqT K) true) (aa 2) (dL ag))) (tB (tCB (iN K) (ac (tOp (bX K) (aa 2) (tC (.int 0))) (ac (tC (.ty "str")) ag)))))) (aH (tOp (rI0 fun i j=>.int (i + j)) (aa 1) (av (fb K n) [] E0 (ac (aa 2) ag))) (aj 1)) aY))
 (aJ (aa 1))))
theorem qJ (h:fb K 0 vs H Q E):False:=by
 obtain ⟨v,s,rfl,_,h,_⟩:=h
 have:=s.words_pos
 omega
theorem GM {K:Fg} {H:Hp} {Q:VK} {a b:Addr} {xs:List V} (h1:SqT K H a xs) (h2:SqT K H b []) (q:Q (.bl (!xs.isEmpty)) H):jz (SqT K) true (.ref a) (.ref b) H Q:=by
 refine ⟨a,b,xs,[],fun _=>true,rfl,rfl,h1,h2,fun j x y _ hy=>by simp at hy,?_⟩
 cases xs with
 | nil=>exact q
 | cons x r=>exact q
noncomputable def lR (os:List (Option Sy)):Nat:=((os.filterMap id).map Sy.words).sum
noncomputable def BQ:Option Sy->Nat
 | some t=>t.words
 | none=>0
theorem GN (os:List (Option Sy)) (i:Nat) (o:Option Sy) (h:os[i]?=some o):lR (os.take (i + 1))=lR (os.take i) + BQ o:=by
 unfold lR
 rw [OF,h,List.filterMap_append,Nr,Ox]
 cases o with
 | none=>simp [BQ]
 | some t=>simp [BQ]
theorem zJ {K:Fg} {n:Nat} {vs:List V} {H:Hp} {Q:VK} {E:XK} (h:fb K (n + 1) vs H Q E):jM K n { nx:=fun _ H'=>Q .non H',rt:=Q } (start ["_law_saying_here","_law_found","_law_part"] vs) H:=by
 obtain ⟨v,s,rfl,hs,hw,q⟩:=h
 obtain ⟨a,items,os,rfl,e,hp,hos,h2⟩:=DC hs
 show jM K n _ [some _,none,none] _
 unfold jM
 walk_at "rd"
 refine Em (SqT.of e) (oB _ _) fun b H1 hb s1 e1=>?_
 rw [vi] at e1
 have hw':=s.words_subs
 have hol:items.length=os.length:=by
  clear hos h2 e e1
  induction hp with
  | nil=>rfl
  | cons _ _ ih=>rw [NC,NC,ih]
 refine rO items (SqT.of e1) (fun i σ H2=>∃ st,σ=[some (.ref a),some (.int (1 + lR (os.take i):Nat)),st]/\am H1 H2) ⟨none,rfl,am.refl _⟩ (fun i σ H2 _ ⟨_,_,s2⟩=>SqT.of (s2 _ _ e1)) ?_ ?_
 ·rintro i x σ H2 hx ⟨st,rfl,s2⟩
  obtain ⟨o,ho,io⟩:=mw hp hx
  have ot:=GN os i o ho
  have io2:=io.keep (s1.trans s2).keep
  cases o with
  | none=>
   have ot':lR (os.take (i + 1))=lR (os.take i):=ot
   rcases io2 with ⟨j,rfl⟩ | ⟨g,gs,rfl,eg⟩
   ·walk_at "rd"
    refine gQ (.int _) (Du K "int" (by decide) "tuple" (by decide)) ?_
    walk_at "rd"
    refine lK ?_
    walk_at "rd"
    exact ⟨_,by rw [ot'],s2⟩
   ·walk_at "rd"
    refine gQ (.tup eg) (kQ K) ?_
    walk_at "rd"
    refine ⟨by simp [M8],fun u H3 hu s3 e3=>?_⟩
    refine GM (SqT.of (s3 _ _ eg)) (SqT.of e3) ?_
    walk_at "rd"
    cases gs with
    | nil=>
     refine lK ?_
     walk_at "rd"
     exact ⟨_,by rw [ot'],s2.trans s3⟩
    | cons k r=>
     refine lL ?_
     walk_at "rd"
     refine aD (SqT.of (s3 _ _ eg)) (mL _ _) ?_
     walk_at "rd"
     refine gQ (.int _) (Du K "int" (by decide) "str" (by decide)) ?_
     walk_at "rd"
     refine lK ?_
     walk_at "rd"
     exact ⟨_,by rw [ot'],s2.trans s3⟩
  | some t=>
   have ot':lR (os.take (i + 1))=lR (os.take i) + t.words:=ot
   have ts:t∈s.subs:=by rw [<-hos]; exact RJ.mpr ⟨some t,M9 ho,rfl⟩
   have hb':=Sy.sub_words ts
   obtain ⟨a2,items2,_,rfl,et,_⟩:=DC io2
   walk_at "rd"
   refine gQ (.tup et) (kQ K) ?_
   walk_at "rd"
   refine ⟨by simp [M8],fun u H3 hu s3 e3=>?_⟩
   refine GM (SqT.of (s3 _ _ et)) (SqT.of e3) ?_
   walk_at "rd"
   refine lL ?_
   walk_at "rd"
   refine aD (SqT.of (s3 _ _ et)) (mL _ _) ?_
   walk_at "rd"
   refine gQ (.str _) (BB K "str") ?_
   walk_at "rd"
   refine ⟨_,t,rfl,aU.keep s3.keep io2,by omega,fun H4 s4=>?_⟩
   walk_at "rd"
   refine ⟨some (.ref a2),?_,(s2.trans s3).trans s4⟩
   rw [ot',show ((1 + lR (os.take i):Nat):Int) + ((t.words:Nat):Int)=((1 + (lR (os.take i) + t.words):Nat):Int) by omega]
 ·rintro σ H2 ⟨st,rfl,s2⟩
  walk_at "rd"
  have e:lR (os.take items.length)=(s.subs.map Sy.words).sum:=by rw [hol,NI]; unfold lR; rw [hos]
  rw [e,<-hw']
  exact q _ (s1.trans s2)
structure h7 (H H2:Hp) (r:Addr) (c h most:Nat) (ss:List Sy):Prop where
 same:am H H2
 new:H r=none
 at_:∃ xs,H2 r=some (.lst xs)/\iq H2 xs ss
 ne:ss≠[]
 ok:∀ s∈ss,s.Ok c h/\s.words<=most
theorem h7.push {H H2 H3:Hp} {r:Addr} {c h most:Nat} {ss:List Sy} {s:Sy} {v:V} {xs:List V} (R:h7 H H2 r c h most ss) (e:H2 r=some (.lst xs)) (o:Off r H2 H3) (e3:H3 r=some (.lst (xs++[v]))) (hv:aU H2 v s) (ok:s.Ok c h) (w:s.words<=most):h7 H H3 r c h most (ss++[s]) where
 same:=R.same.off R.new o
 new:=R.new
 at_:=by
  obtain ⟨ys,ey,p⟩:=R.at_
  rw [e] at ey
  cases ey
  exact ⟨_,e3,qf (p.keep (o.keep e)) (.cons (hv.keep (o.keep e)) .nil)⟩
 ne:=by simp
 ok:=fun t ht=>by
  rcases NL.mp ht with ht | ht
  ·exact R.ok t ht
  ·rw [M0] at ht; subst ht; exact ⟨ok,w⟩
theorem h7.to {H H2 H3:Hp} {r:Addr} {c h most:Nat} {ss:List Sy} (R:h7 H H2 r c h most ss) (s:am H2 H3):h7 H H3 r c h most ss where
 same:=R.same.trans s
 new:=R.new
 at_:=by obtain ⟨xs,e,p⟩:=R.at_; exact ⟨xs,s _ _ e,p.keep s.keep⟩
 ne:=R.ne
 ok:=R.ok
noncomputable def m7 (K:Fg):Sp:=fun vs H Q _=>∃ (a:Addr) (ns:List Int) (at_:Int) (c h:Nat),vs=[.ref a,.int at_,.int c,.int h]/\g0 K H a ns/\0<=at_/\at_<=1000/\1<=h/\∀ (r:Addr) (ss:List Sy) (H':Hp),h7 H H' r c h 1 ss->ss.length<=4->Q (.ref r) H'
noncomputable def li (K:Fg):TS:=(ap (aH (dZ (ac (dL (ac (tC (.str "sees")) (ac (tOp (rI (fun _ j=>0 < j) fun i j=>.int (i % j)) (av (bz K) [] E0 (ac (aa 0) (ac (aa 1) ag))) (aa 3)) ag))) ag)) (aj 4))
 (ap (cU (fZ (ac (tOp (rI P8 fun i j=>.int (i * j)) (tC (.int 3)) (tCB Ek (ac (tOp (rI0 fun i j=>.bl (decide (j < i))) (aa 2) (tC (.int 0))) ag))) ag)) (aj 5) (ap (aH (av (bz K) [] E0 (ac (aa 0) (ac (tOp (rI0 fun i j=>.int (i + j)) (tOp (rI0 fun i j=>.int (i + j)) (aa 1) (tC (.int 1))) (aa 5)) ag))) (aj 6))
 (dG (tBM K "list" ii (aa 4) (ac (dL (ac (tC (.str "holds")) (ac (tOp (rI (fun _ j=>0 < j) fun i j=>.int (i % j)) (aa 6) (tOp (rI0 fun i j=>.int (i + j)) (aa 3) (tC (.int 1)))) (ac (tOp (rI (fun _ j=>0 < j) fun i j=>.int (i % j)) (tOp (rI ga fun i j=>.int (i / j)) (aa 6) (tC (.int 7))) (aa 2)) ag)))) ag)))))
 (aJ (aa 4))))
theorem BR (h:m7 K vs H Q E):li K { nx:=fun _ H'=>Q .non H',rt:=Q } (start ["_law_script","_law_at","_law_cards","_law_hands","_law_pool_here","_law_k","_law_cell_here"] vs) H:=by
 obtain ⟨a,ns,at_,c,h,rfl,hSc,ha0,ha1,h1,q⟩:=h
 show li K _ [some _,some _,some _,some _,none,none,none] _
 unfold li
 walk_at "rd"
 refine ⟨a,ns,at_,rfl,hSc,ha0,by omega,?_⟩
 walk_at "rd"
 obtain ⟨k,hk,hk2⟩:=nY (cz ns at_) (m:=(h:Int)) (by omega)
 rw [hk]
 refine ⟨by simp [M8],fun p1 H1 hp1 s1 e1=>?_⟩
 walk_at "rd"
 refine ⟨by simp [M8],fun r H2 hr s2 e2=>?_⟩
 have R0:h7 H H2 r c h 1 [.sees k]:=⟨s1.trans s2,s1.free hr,⟨_,e2,.cons ⟨p1,rfl,s2 _ _ e1⟩ .nil⟩,by simp,fun s hs=>by rw [M0] at hs; subst hs; exact ⟨show k < h by omega,M1 _⟩⟩
 walk_at "rd"
 obtain ⟨n,hn,hn3,hnc⟩:∃ n:Nat,((3:Int) * (if decide ((0:Int) < (c:Int))=true then 1 else 0))=(n:Int)/\n<=3/\(c=0->n=0):=by
  by_cases hc:(0:Int) < (c:Int)
  ·exact ⟨3,by rw [if_pos (decide_eq_true hc)]; rfl,M1 _,fun z=>by omega⟩
  ·exact ⟨0,by rw [if_neg (by rw [decide_eq_false hc]; exact Nd)]; rfl,by decide,fun _=>rfl⟩
 rw [hn]
 refine ko n (by omega) (by omega) (by omega) (fun i σ H3=>∃ (ss:List Sy) (v5 v6:Option V),σ=[some (.ref a),some (.int at_),some (.int c),some (.int h),some (.ref r),v5,v6]/\h7 H H3 r c h 1 ss/\ss.length=i + 1) ⟨_,none,none,rfl,R0,rfl⟩ ?_ ?_
 ·rintro i σ H3 hi ⟨ss,v5,v6,rfl,R,hl⟩
  have hc:0 < c:=by
   rcases Qi c with z | z
   ·have:=hnc z; omega
   ·exact z
  obtain ⟨xs,e3,px⟩:=R.at_
  have hxl:=hU px
  walk_at "rd"
  refine ⟨a,ns,at_ + 1 + (i:Int),rfl,hSc.same R.same,by omega,by omega,?_⟩
  walk_at "rd"
  refine ⟨p6 e3,?_⟩
  walk_at "rd"
  obtain ⟨k1,hk1,hk12⟩:=nY (cz ns (at_ + 1 + (i:Int))) (m:=(h:Int) + 1) (by omega)
  obtain ⟨k2,hk2',hk22⟩:=nY (cz ns (at_ + 1 + (i:Int)) / 7) (m:=(c:Int)) (by omega)
  rw [hk1,hk2']
  refine ⟨by simp [M8],fun p4 H4 hp4 s4 e4=>?_⟩
  walk_at "rd"
  refine kn (s4 _ _ e3) (by rw [M8]; omega) fun H5 o5 e5=>?_
  exact ⟨_,_,_,rfl,(R.to s4).push (s4 _ _ e3) o5 e5 (s:=.holds k1 k2) ⟨p4,rfl,e4⟩ ⟨by omega,by omega⟩ (M1 _),by rw [Nq,hl]; rfl⟩
 ·rintro σ H3 ⟨ss,v5,v6,rfl,R,hl⟩
  walk_at "rd"
  exact q r ss H3 R (by omega)
noncomputable def iw (c h:Nat) (H:Hp) (x:V):Prop:=∃ s:Sy,aU H x s/\s.Ok c h/\s.words<=63
theorem iw.same {c h:Nat} {H H':Hp} {x:V} (g:iw c h H x) (s:am H H'):iw c h H' x:=by
 obtain ⟨t,i,o,w⟩:=g
 exact ⟨t,i.keep s.keep,o,w⟩
theorem sj {H:Hp}:∀ {l:List V} {m:List Sy},iq H l m->l≠[]->∃ x y,atI l (-1)=some x/\y∈m/\aU H x y:=by
 intro l m p hne
 have hl:=hU p
 have hp:0 < l.length:=Rx.mpr hne
 obtain ⟨x,hx⟩:∃ x,l[l.length - 1]?=some x:=⟨_,MZ (by omega)⟩
 obtain ⟨y,hy,iy⟩:=nV p hx
 refine ⟨x,y,?_,M9 hy,iy⟩
 unfold atI ixN
 rw [if_neg (by decide),if_pos (by omega),show (-1 + (l.length:Int)).toNat=l.length - 1 by omega]
 exact hx
noncomputable def kC (K:Fg):Sp:=fun vs H Q _=>∃ (a:Addr) (ns:List Int) (at_:Int) (c h most:Nat),vs=[.ref a,.int at_,.int c,.int h,.int most]/\g0 K H a ns/\0<=at_/\at_<=1000/\1<=h/\h<=5/\1<=most/\most<=30/\∀ (v:V) (s:Sy) (H':Hp),am H H'->aU H' v s->s.Ok c h->s.words<=most->Q v H'
noncomputable def i7 (K:Fg):TS:=(ap (aH (av (m7 K) [] E0 (ac (aa 0) (ac (aa 1) (ac (aa 2) (ac (aa 3) ag))))) (aj 5))
 (ap (cU (fZ (ac (tOp (rI (fun _ j=>0 < j) fun i j=>.int (i % j)) (av (bz K) [] E0 (ac (aa 0) (ac (tOp (rI0 fun i j=>.int (i + j)) (aa 1) (tC (.int 4))) ag))) (tC (.int 12))) ag)) (aj 6) (ap (aH (av (bz K) [] E0 (ac (aa 0) (ac (tOp (rI0 fun i j=>.int (i + j)) (tOp (rI0 fun i j=>.int (i + j)) (aa 1) (tC (.int 5))) (aa 6)) ag))) (aj 7))
 (ap (aH (tOp (ca K) (aa 5) (tUn (rU fun i=>.int (-i)) (tC (.int 1)))) (aj 8))
 (ap (aH (tOp (ca K) (aa 5) (tOp (rI (fun _ j=>0 < j) fun i j=>.int (i % j)) (tOp (rI ga fun i j=>.int (i / j)) (aa 7) (tC (.int 12))) (tCB (eW K) (ac (aa 5) ag)))) (aj 9))
 (ap (aH (dZ (ac (dL (ac (tC (.str "not")) (ac (aa 8) ag))) (ac (dL (ac (tC (.str "and")) (ac (aa 8) (ac (aa 9) ag)))) (ac (dL (ac (tC (.str "or")) (ac (aa 9) (ac (aa 8) ag)))) (ac (dL (ac (tC (.str "not")) (ac (aa 9) ag))) ag))))) (aj 10))
 (ap (aH (tOp vg (aa 10) (dZ (ac (dL (ac (tC (.str "knows")) (ac (tOp (rI (fun _ j=>0 < j) fun i j=>.int (i % j)) (tOp (rI ga fun i j=>.int (i / j)) (aa 7) (tC (.int 7))) (aa 3)) (ac (aa 8) ag)))) (ac (dL (ac (tC (.str "knows")) (ac (tOp (rI (fun _ j=>0 < j) fun i j=>.int (i % j)) (tOp (rI ga fun i j=>.int (i / j)) (aa 7) (tC (.int 7))) (aa 3)) (ac (dL (ac (tC (.str "not")) (ac (aa 8) ag))) ag)))) ag)))) (aj 10))
 (ap (aH (tOp vg (aa 10) (dZ (ac (dL (ac (tC (.str "all")) (ac (av (eZ K) [] E0 (ac (tOp (rI ga fun i j=>.int (i / j)) (aa 7) (tC (.int 36))) (ac (aa 3) ag))) (ac (aa 8) ag)))) (ac (dL (ac (tC (.str "common")) (ac (av (eZ K) [] E0 (ac (tOp (rI ga fun i j=>.int (i / j)) (aa 7) (tC (.int 36))) (ac (aa 3) ag))) (ac (aa 9) ag)))) ag)))) (aj 10))
 (ap (aH (tOp vg (aa 10) (dZ (ac (dL (ac (tC (.str "common")) (ac (av (eZ K) [] E0 (ac (tOp (rI ga fun i j=>.int (i / j)) (aa 7) (tC (.int 36))) (ac (aa 3) ag))) (ac (aa 8) ag)))) (ac (dL (ac (tC (.str "knows")) (ac (tOp (rI (fun _ j=>0 < j) fun i j=>.int (i % j)) (tOp (rI ga fun i j=>.int (i / j)) (aa 7) (tC (.int 7))) (aa 3)) (ac (aa 9) ag)))) ag)))) (aj 10))
 (ap (aH (tOp vg (aa 10) (dZ (ac (dL (ac (tC (.str "and")) (ac (aa 9) (ac (dL (ac (tC (.str "not")) (ac (aa 8) ag))) ag)))) (ac (dL (ac (tC (.str "or")) (ac (aa 8) (ac (dL (ac (tC (.str "knows")) (ac (tOp (rI (fun _ j=>0 < j) fun i j=>.int (i % j)) (tOp (rI ga fun i j=>.int (i / j)) (aa 7) (tC (.int 7))) (aa 3)) (ac (aa 9) ag)))) ag)))) ag)))) (aj 10))
 (bp (be (tOp (rI0 fun i j=>.bl (decide (i<=j))) (av (fb K 70) [] E0 (ac (tOp (ca K) (aa 10) (tOp (rI (fun _ j=>0 < j) fun i j=>.int (i % j)) (aa 7) (tC (.int 12)))) ag)) (aa 4))) (dG (tBM K "list" ii (aa 5) (ac (tOp (ca K) (aa 10) (tOp (rI (fun _ j=>0 < j) fun i j=>.int (i % j)) (aa 7) (tC (.int 12)))) ag))) aY))))))))))
 (aJ (tOp (ca K) (aa 5) (tUn (rU fun i=>.int (-i)) (tC (.int 1)))))))
theorem yx (h:kC K vs H Q E):i7 K { nx:=fun _ H'=>Q .non H',rt:=Q } (start ["_law_script","_law_at","_law_cards","_law_hands","_law_most","_law_pool_here","_law_k","_law_cell_here","_law_one","_law_other","_law_some"] vs) H:=by
 obtain ⟨a,ns,at_,c,h,most,rfl,hSc,ha0,ha1,h1,h5,hm1,hm30,q⟩:=h
 show i7 K _ [some _,some _,some _,some _,some _,none,none,none,none,none,none] _
 unfold i7
 walk_at "rd"
 refine ⟨a,ns,at_,c,h,rfl,hSc,ha0,ha1,h1,fun r ss0 H1 R0 hl4=>?_⟩
 walk_at "rd"
 refine ⟨a,ns,at_ + 4,rfl,hSc.same R0.same,by omega,by omega,?_⟩
 walk_at "rd"
 have R1:h7 H H1 r c h most ss0:=⟨R0.same,R0.new,R0.at_,R0.ne,fun s hs=>⟨(R0.ok s hs).1,by have:=(R0.ok s hs).2; omega⟩⟩
 refine ko (cz ns (at_ + 4) % 12).toNat rfl (by omega) (by omega) (fun i σ H2=>∃ (ss:List Sy) (v6 v7 v8 v9 v10:Option V),σ=[some (.ref a),some (.int at_),some (.int c),some (.int h),some (.int most),some (.ref r),v6,v7,v8,v9,v10]/\h7 H H2 r c h most ss/\ss.length<=4 + i) ⟨ss0,none,none,none,none,none,rfl,R1,by omega⟩ ?_ ?_
 ·rintro i σ H2 hi ⟨ss,v6,v7,v8,v9,v10,rfl,R,hl⟩
  obtain ⟨xs,e2,px⟩:=R.at_
  have hxl:=hU px
  have hne:xs≠[]:=fun z=>R.ne (Qc.mp (by rw [<-hxl,z]; rfl))
  have hpos:0 < xs.length:=Rx.mpr hne
  refine jC ?_
  dsimp only [O4,O5]
  refine bA ?_
  walk_at "rs"
  refine ⟨a,ns,at_ + 5 + (i:Int),rfl,hSc.same R.same,by omega,by omega,?_⟩
  generalize cz ns (at_ + 5 + (i:Int))=z
  walk_at "rs"
  refine bA ?_
  walk_at "rs"
  obtain ⟨x1,s1,hx1,hs1,is1⟩:=sj px hne
  obtain ⟨ok1,w1⟩:=R.ok s1 hs1
  refine bI (SqL.of e2) hx1 ?_
  walk_at "rs"
  refine bA ?_
  walk_at "rs"
  obtain ⟨x2,hx2,hm2⟩:=Gb xs (z / 12) rfl hpos
  obtain ⟨j2,hj2⟩:=TZ hm2
  obtain ⟨s2,hs2,is2⟩:=nV px hj2
  obtain ⟨ok2,w2⟩:=R.ok s2 (M9 hs2)
  refine bI (SqL.of e2) hx2 ?_
  walk_at "rs"
  refine bA ?_
  refine nN ?_
  refine tK ?_
  refine si (P:=iw c h) (fun _ _ _ s g=>g.same s) (H0:=H2) (n:=4) (am.refl _) ?_ fun ys0 Hy0 sy0 ly0 by0=>?_
  ·skip
   refine GA.cons (fun _ _ _ s g=>g.same s) (n:=3) ?_ ?_
   ·intro H' s' Q q
    have i1:=is1.keep s'.keep
    have i2:=is2.keep s'.keep
    walk_at "rd"
    refine ⟨by simp [M8],fun p1 G1 hp1 t1 e1=>?_⟩
    have I1:aU G1 (.ref p1) (.not s1):=⟨p1,_,rfl,e1,(aU.keep (am.keep t1) i1)⟩
    exact q _ _ t1 ⟨_,I1,ok1,by simp only [Sy.words]; omega⟩
   refine GA.cons (fun _ _ _ s g=>g.same s) (n:=2) ?_ ?_
   ·intro H' s' Q q
    have i1:=is1.keep s'.keep
    have i2:=is2.keep s'.keep
    walk_at "rd"
    refine ⟨by simp [M8],fun p1 G1 hp1 t1 e1=>?_⟩
    have I1:aU G1 (.ref p1) (.and s1 s2):=⟨p1,_,_,rfl,e1,(aU.keep (am.keep t1) i1),(aU.keep (am.keep t1) i2)⟩
    exact q _ _ t1 ⟨_,I1,⟨ok1,ok2⟩,by simp only [Sy.words]; omega⟩
   refine GA.cons (fun _ _ _ s g=>g.same s) (n:=1) ?_ ?_
   ·intro H' s' Q q
    have i1:=is1.keep s'.keep
    have i2:=is2.keep s'.keep
    walk_at "rd"
    refine ⟨by simp [M8],fun p1 G1 hp1 t1 e1=>?_⟩
    have I1:aU G1 (.ref p1) (.or s2 s1):=⟨p1,_,_,rfl,e1,(aU.keep (am.keep t1) i2),(aU.keep (am.keep t1) i1)⟩
    exact q _ _ t1 ⟨_,I1,⟨ok2,ok1⟩,by simp only [Sy.words]; omega⟩
   refine GA.cons (fun _ _ _ s g=>g.same s) (n:=0) ?_ ?_
   ·intro H' s' Q q
    have i1:=is1.keep s'.keep
    have i2:=is2.keep s'.keep
    walk_at "rd"
    refine ⟨by simp [M8],fun p1 G1 hp1 t1 e1=>?_⟩
    have I1:aU G1 (.ref p1) (.not s2):=⟨p1,_,rfl,e1,(aU.keep (am.keep t1) i2)⟩
    exact q _ _ t1 ⟨_,I1,ok2,by simp only [Sy.words]; omega⟩
   exact GA.nil
  refine ⟨by rw [ly0,M8]; decide,fun l0 Hl0 hl0 sl0 el0=>?_⟩
  have sL0:am H2 Hl0:=sy0.trans sl0
  have L0:ys0.length=4:=ly0
  have B0:∀ x∈ys0,iw c h Hl0 x:=fun x hx=>(by0 x hx).same sl0
  have eL0:=el0
  refine jC ?_
  dsimp only [O4,O5]
  generalize hX0:ys0=X0 at *
  refine bA ?_
  refine nN ?_
  refine vd ?_
  refine p0 rfl ?_
  refine tK ?_
  refine si (P:=iw c h) (fun _ _ _ s g=>g.same s) (H0:=H2) (n:=2) sL0 ?_ fun ys1 Hy1 sy1 ly1 by1=>?_
  ·skip
   refine GA.cons (fun _ _ _ s g=>g.same s) (n:=1) ?_ ?_
   ·intro H' s' Q q
    have i1:=is1.keep s'.keep
    have i2:=is2.keep s'.keep
    walk_at "rd"
    obtain ⟨kk1,hk1,hk21⟩:=nY (z / 7) (m:=(h:Int)) (by omega)
    rw [hk1]
    refine ⟨by simp [M8],fun p1 G1 hp1 t1 e1=>?_⟩
    have I1:aU G1 (.ref p1) (.knows kk1 s1):=⟨p1,_,rfl,e1,(aU.keep (am.keep t1) i1)⟩
    exact q _ _ t1 ⟨_,I1,⟨by omega,ok1⟩,by simp only [Sy.words]; omega⟩
   refine GA.cons (fun _ _ _ s g=>g.same s) (n:=0) ?_ ?_
   ·intro H' s' Q q
    have i1:=is1.keep s'.keep
    have i2:=is2.keep s'.keep
    walk_at "rd"
    refine ⟨by simp [M8],fun p1 G1 hp1 t1 e1=>?_⟩
    have I1:aU G1 (.ref p1) (.not s1):=⟨p1,_,rfl,e1,(aU.keep (am.keep t1) i1)⟩
    walk_at "rd"
    obtain ⟨kk2,hk2,hk22⟩:=nY (z / 7) (m:=(h:Int)) (by omega)
    rw [hk2]
    refine ⟨by simp [M8],fun p2 G2 hp2 t2 e2=>?_⟩
    have I2:aU G2 (.ref p2) (.knows kk2 (.not s1)):=⟨p2,_,rfl,e2,(aU.keep (am.keep t2) I1)⟩
    exact q _ _ (t1.trans t2) ⟨_,I2,⟨by omega,ok1⟩,by simp only [Sy.words]; omega⟩
   exact GA.nil
  refine ⟨by rw [ly1,M8]; decide,fun l1 Hl1 hl1 sl1 el1=>?_⟩
  refine wf (sl1 _ _ (sy1 _ _ eL0)) el1 (by rw [L0,ly1,M8]; decide) fun m1 Hm1 hm1 sm1 em1=>?_
  have sA1:=(sy1.trans sl1).trans sm1
  have sL1:am H2 Hm1:=sL0.trans sA1
  have L1:(X0++ys1).length=6:=by rw [Nq,L0,ly1]
  have B1:∀ x∈X0++ys1,iw c h Hm1 x:=fun x hx=>by
   rcases NL.mp hx with hx | hx
   ·exact (B0 x hx).same sA1
   ·exact (by1 x hx).same (sl1.trans sm1)
  have eL1:=em1
  refine jC ?_
  dsimp only [O4,O5]
  generalize X0++ys1=X1 at L1 B1 eL1
  clear B0 L0 eL0 by1 ly1 el1 em1
  refine bA ?_
  refine nN ?_
  refine vd ?_
  refine p0 rfl ?_
  refine tK ?_
  refine si (P:=iw c h) (fun _ _ _ s g=>g.same s) (H0:=H2) (n:=2) sL1 ?_ fun ys2 Hy2 sy2 ly2 by2=>?_
  ·skip
   refine GA.cons (fun _ _ _ s g=>g.same s) (n:=1) ?_ ?_
   ·intro H' s' Q q
    have i1:=is1.keep s'.keep
    have i2:=is2.keep s'.keep
    walk_at "rd"
    refine ⟨_,h,rfl,h5,fun g1 gs1 G1 t1 eg1 pw1 hb1=>?_⟩
    walk_at "rd"
    refine ⟨by simp [M8],fun p2 G2 hp2 t2 e2=>?_⟩
    have I2:aU G2 (.ref p2) (.all gs1 s1):=⟨p2,g1,_,rfl,e2,t2 _ _ eg1,(aU.keep (am.keep (t1.trans t2)) i1)⟩
    exact q _ _ (t1.trans t2) ⟨_,I2,⟨⟨pw1,hb1⟩,ok1⟩,by simp only [Sy.words]; omega⟩
   refine GA.cons (fun _ _ _ s g=>g.same s) (n:=0) ?_ ?_
   ·intro H' s' Q q
    have i1:=is1.keep s'.keep
    have i2:=is2.keep s'.keep
    walk_at "rd"
    refine ⟨_,h,rfl,h5,fun g1 gs1 G1 t1 eg1 pw1 hb1=>?_⟩
    walk_at "rd"
    refine ⟨by simp [M8],fun p2 G2 hp2 t2 e2=>?_⟩
    have I2:aU G2 (.ref p2) (.common gs1 s2):=⟨p2,g1,_,rfl,e2,t2 _ _ eg1,(aU.keep (am.keep (t1.trans t2)) i2)⟩
    exact q _ _ (t1.trans t2) ⟨_,I2,⟨⟨pw1,hb1⟩,ok2⟩,by simp only [Sy.words]; omega⟩
   exact GA.nil
  refine ⟨by rw [ly2,M8]; decide,fun l2 Hl2 hl2 sl2 el2=>?_⟩
  refine wf (sl2 _ _ (sy2 _ _ eL1)) el2 (by rw [L1,ly2,M8]; decide) fun m2 Hm2 hm2 sm2 em2=>?_
  have sA2:=(sy2.trans sl2).trans sm2
  have sL2:am H2 Hm2:=sL1.trans sA2
  have L2:(X1++ys2).length=8:=by rw [Nq,L1,ly2]
  have B2:∀ x∈X1++ys2,iw c h Hm2 x:=fun x hx=>by
   rcases NL.mp hx with hx | hx
   ·exact (B1 x hx).same sA2
   ·exact (by2 x hx).same (sl2.trans sm2)
  have eL2:=em2
  refine jC ?_
  dsimp only [O4,O5]
  generalize X1++ys2=X2 at L2 B2 eL2
  clear B1 L1 eL1 by2 ly2 el2 em2
  refine bA ?_
  refine nN ?_
  refine vd ?_
  refine p0 rfl ?_
  refine tK ?_
  refine si (P:=iw c h) (fun _ _ _ s g=>g.same s) (H0:=H2) (n:=2) sL2 ?_ fun ys3 Hy3 sy3 ly3 by3=>?_
  ·skip
   refine GA.cons (fun _ _ _ s g=>g.same s) (n:=1) ?_ ?_
   ·intro H' s' Q q
    have i1:=is1.keep s'.keep
    have i2:=is2.keep s'.keep
    walk_at "rd"
    refine ⟨_,h,rfl,h5,fun g1 gs1 G1 t1 eg1 pw1 hb1=>?_⟩
    walk_at "rd"
    refine ⟨by simp [M8],fun p2 G2 hp2 t2 e2=>?_⟩
    have I2:aU G2 (.ref p2) (.common gs1 s1):=⟨p2,g1,_,rfl,e2,t2 _ _ eg1,(aU.keep (am.keep (t1.trans t2)) i1)⟩
    exact q _ _ (t1.trans t2) ⟨_,I2,⟨⟨pw1,hb1⟩,ok1⟩,by simp only [Sy.words]; omega⟩
   refine GA.cons (fun _ _ _ s g=>g.same s) (n:=0) ?_ ?_
   ·intro H' s' Q q
    have i1:=is1.keep s'.keep
    have i2:=is2.keep s'.keep
    walk_at "rd"
    obtain ⟨kk1,hk1,hk21⟩:=nY (z / 7) (m:=(h:Int)) (by omega)
    rw [hk1]
    refine ⟨by simp [M8],fun p1 G1 hp1 t1 e1=>?_⟩
    have I1:aU G1 (.ref p1) (.knows kk1 s2):=⟨p1,_,rfl,e1,(aU.keep (am.keep t1) i2)⟩
    exact q _ _ t1 ⟨_,I1,⟨by omega,ok2⟩,by simp only [Sy.words]; omega⟩
   exact GA.nil
  refine ⟨by rw [ly3,M8]; decide,fun l3 Hl3 hl3 sl3 el3=>?_⟩
  refine wf (sl3 _ _ (sy3 _ _ eL2)) el3 (by rw [L2,ly3,M8]; decide) fun m3 Hm3 hm3 sm3 em3=>?_
  have sA3:=(sy3.trans sl3).trans sm3
  have sL3:am H2 Hm3:=sL2.trans sA3
  have L3:(X2++ys3).length=10:=by rw [Nq,L2,ly3]
  have B3:∀ x∈X2++ys3,iw c h Hm3 x:=fun x hx=>by
   rcases NL.mp hx with hx | hx
   ·exact (B2 x hx).same sA3
   ·exact (by3 x hx).same (sl3.trans sm3)
  have eL3:=em3
  refine jC ?_
  dsimp only [O4,O5]
  generalize X2++ys3=X3 at L3 B3 eL3
  clear B2 L2 eL2 by3 ly3 el3 em3
  refine bA ?_
  refine nN ?_
  refine vd ?_
  refine p0 rfl ?_
  refine tK ?_
  refine si (P:=iw c h) (fun _ _ _ s g=>g.same s) (H0:=H2) (n:=2) sL3 ?_ fun ys4 Hy4 sy4 ly4 by4=>?_
  ·skip
   refine GA.cons (fun _ _ _ s g=>g.same s) (n:=1) ?_ ?_
   ·intro H' s' Q q
    have i1:=is1.keep s'.keep
    have i2:=is2.keep s'.keep
    walk_at "rd"
    refine ⟨by simp [M8],fun p1 G1 hp1 t1 e1=>?_⟩
    have I1:aU G1 (.ref p1) (.not s1):=⟨p1,_,rfl,e1,(aU.keep (am.keep t1) i1)⟩
    walk_at "rd"
    refine ⟨by simp [M8],fun p2 G2 hp2 t2 e2=>?_⟩
    have I2:aU G2 (.ref p2) (.and s2 (.not s1)):=⟨p2,_,_,rfl,e2,(aU.keep (am.keep (t1.trans t2)) i2),(aU.keep (am.keep t2) I1)⟩
    exact q _ _ (t1.trans t2) ⟨_,I2,⟨ok2,ok1⟩,by simp only [Sy.words]; omega⟩
   refine GA.cons (fun _ _ _ s g=>g.same s) (n:=0) ?_ ?_
   ·intro H' s' Q q
    have i1:=is1.keep s'.keep
    have i2:=is2.keep s'.keep
    walk_at "rd"
    obtain ⟨kk1,hk1,hk21⟩:=nY (z / 7) (m:=(h:Int)) (by omega)
    rw [hk1]
    refine ⟨by simp [M8],fun p1 G1 hp1 t1 e1=>?_⟩
    have I1:aU G1 (.ref p1) (.knows kk1 s2):=⟨p1,_,rfl,e1,(aU.keep (am.keep t1) i2)⟩
    walk_at "rd"
    refine ⟨by simp [M8],fun p2 G2 hp2 t2 e2=>?_⟩
    have I2:aU G2 (.ref p2) (.or s1 (.knows kk1 s2)):=⟨p2,_,_,rfl,e2,(aU.keep (am.keep (t1.trans t2)) i1),(aU.keep (am.keep t2) I1)⟩
    exact q _ _ (t1.trans t2) ⟨_,I2,⟨ok1,⟨by omega,ok2⟩⟩,by simp only [Sy.words]; omega⟩
   exact GA.nil
  refine ⟨by rw [ly4,M8]; decide,fun l4 Hl4 hl4 sl4 el4=>?_⟩
  refine wf (sl4 _ _ (sy4 _ _ eL3)) el4 (by rw [L3,ly4,M8]; decide) fun m4 Hm4 hm4 sm4 em4=>?_
  have sA4:=(sy4.trans sl4).trans sm4
  have sL4:am H2 Hm4:=sL3.trans sA4
  have L4:(X3++ys4).length=12:=by rw [Nq,L3,ly4]
  have B4:∀ x∈X3++ys4,iw c h Hm4 x:=fun x hx=>by
   rcases NL.mp hx with hx | hx
   ·exact (B3 x hx).same sA4
   ·exact (by4 x hx).same (sl4.trans sm4)
  have eL4:=em4
  refine jC ?_
  dsimp only [O4,O5]
  generalize X3++ys4=X4 at L4 B4 eL4
  clear B3 L3 eL3 by4 ly4 el4 em4
  obtain ⟨y,hy,my⟩:=Gb X4 z (m:=12) L4 (by decide)
  obtain ⟨sy,iy,oky,wy⟩:=B4 y my
  have R4:=R.to sL4
  have e24:=sL4 _ _ e2
  walk_at "rd"
  refine bI (SqL.of eL4) hy ?_
  walk_at "rd"
  refine ⟨y,sy,rfl,iy,by omega,fun H5 s5=>?_⟩
  walk_at "rd"
  refine dy (fun cm=>?_) (fun cm=>?_)
  ·walk_at "rd"
   refine ⟨p6 (s5 _ _ e24),?_⟩
   walk_at "rd"
   refine bI (SqL.of (s5 _ _ eL4)) hy ?_
   walk_at "rd"
   refine kn (s5 _ _ e24) (by rw [M8]; omega) fun H6 o6 e6=>?_
   exact ⟨_,_,_,_,_,_,rfl,(R4.to s5).push (s5 _ _ e24) o6 e6 (iy.keep s5.keep) oky (by omega),by rw [Nq]; show ss.length + 1<=_; omega⟩
  ·walk_at "rd"
   exact ⟨_,_,_,_,_,_,rfl,R4.to s5,by omega⟩
 ·rintro σ H2 ⟨ss,v6,v7,v8,v9,v10,rfl,R,hl⟩
  obtain ⟨xs,e2,px⟩:=R.at_
  have hxl:=hU px
  have hne:xs≠[]:=fun z=>R.ne (Qc.mp (by rw [<-hxl,z]; rfl))
  obtain ⟨x1,s1,hx1,hs1,is1⟩:=sj px hne
  walk_at "rd"
  exact bI (SqL.of e2) hx1 (q x1 s1 H2 R.same is1 (R.ok s1 hs1).1 (R.ok s1 hs1).2)
end
section
variable {K:Fg} {vs:List V} {H:Hp} {Q:VK} {E:XK}
open KF
noncomputable def iaR:IA->V
 | none=>.non
 | some c=>.int c
theorem Mx (a:IA):iaV (iaR a)=some a:=by cases a <;> rfl
noncomputable def wAt (w:List Nat) (c:Int):Int:=(w.getD c.toNat 0:Nat)
noncomputable def sk (w:List Nat) (h:Int) (cs:List Int) (a:IA):Prop:=
 (a=none/\∀ c∈cs,wAt w c≠h)\/∃ c,a=some c/\c∈cs/\wAt w c=h/\∀ d∈cs,wAt w d=h->c<=d
theorem sk.uniq {w:List Nat} {h:Int} {cs ds:List Int} (m:∀ y,y∈cs↔y∈ds) {a b:IA} (x:sk w h cs a) (y:sk w h ds b):a=b:=by
 rcases x with ⟨rfl,x⟩ | ⟨c,rfl,x1,x2,x3⟩
 ·rcases y with ⟨rfl,_⟩ | ⟨d,rfl,y1,y2,_⟩
  ·rfl
  ·exact absurd y2 (x d ((m d).mpr y1))
 ·rcases y with ⟨rfl,y⟩ | ⟨d,rfl,y1,y2,y3⟩
  ·exact absurd x2 (y c ((m c).mp x1))
  ·have h1:=x3 d ((m d).mpr y1) y2
   have h2:=y3 c ((m c).mp x1) x2
   rw [show c=d by omega]
theorem BS {w:List Nat} {c:Int} (h0:0<=c) (h1:c < w.length):atI (au w) c=some (.int (wAt w c)):=by
 obtain ⟨n,rfl⟩:∃ n:Nat,c=(n:Int):=⟨c.toNat,by omega⟩
 have hn:n < w.length:=by omega
 refine cP ?_
 unfold wAt au
 rw [Ng,MZ hn]
 simp [Ni,MZ hn]
noncomputable def lT (_:Fg):Sp:=fun vs H Q _=>∃ (t p:Addr) (w:List Nat) (h:Int) (ms:List Int),vs=[.ref t,.int h,.ref p]/\H t=some (.tup (au w))/\H p=some (.lst (ms.map V.int))/\ms.Pairwise (· < ·)/\(∀ c∈ms,0<=c/\c < w.length)/\
 ∀ a,sk w h ms a->Q (iaR a) H
noncomputable def jN (K:Fg):TS:=(ap (cU (cc K (aa 2)) (aj 3) (bp (be (tOp rEq (tOp (bX K) (aa 0) (aa 3)) (aa 1))) (aJ (aa 3)) aY))
 (aJ (tC .non)))
theorem zK (h:lT K vs H Q E):jN K { nx:=fun _ H'=>Q .non H',rt:=Q } (start ["deal","holder","rising","card"] vs) H:=by
 obtain ⟨t,p,w,h,ms,rfl,et,ep,pw,hb,q⟩:=h
 show jN K _ [some _,some _,some _,none] _
 unfold jN
 walk_at "rd"
 refine oV (ms.map V.int) (SqL.of ep) (fun i σ' H2=>∃ u:Option V,σ'=[some (.ref t),some (.int h),some (.ref p),u]/\H2=H/\∀ c∈ms.take i,wAt w c≠h) ⟨none,rfl,rfl,fun c hc=>by simp at hc⟩ ?_ ?_ ?_
 ·rintro i σ' H2 hi ⟨u,rfl,rfl,_⟩
  exact SqL.of ep
 ·rintro i x σ' H2 hx ⟨u,rfl,rfl,hn⟩
  rw [Ng] at hx
  obtain ⟨c,hc,rfl⟩:=Tj.mp hx
  have hm:c∈ms:=M9 hc
  walk_at "rd"
  refine aD (SqT.of et) (BS (hb c hm).1 (hb c hm).2) ?_
  walk_at "rd"
  by_cases e:wAt w c=h
  ·rw [if_pos (decide_eq_true e)]
   walk_at "rd"
   refine q (some c) (.inr ⟨c,rfl,hm,e,fun d hd he=>?_⟩)
   obtain ⟨j,hj⟩:=TZ hd
   obtain ⟨hi1,hi2⟩:=M4.mp hc
   obtain ⟨hj1,hj2⟩:=M4.mp hj
   rcases Sk j i with z | z | z
   ·exact absurd he (hn d (Rc.mpr ⟨j,by rw [Sz z]; exact hj⟩))
   ·subst z
    rw [<-hi2,<-hj2]
    exact Int.le_refl _
   ·have:=P0.mp pw i j hi1 hj1 z
    rw [hi2,hj2] at this
    omega
  ·rw [if_neg (by rw [decide_eq_false e]; exact Nd)]
   walk_at "rd"
   refine ⟨_,rfl,rfl,fun d hd=>?_⟩
   rw [OF,hc] at hd
   rcases NL.mp hd with z | z
   ·exact hn d z
   ·rw [M0.mp z]
    exact e
 ·rintro σ' H2 ⟨u,rfl,rfl,hn⟩
  walk_at "rd"
  rw [MY,NI] at hn
  exact q none (.inl ⟨rfl,hn⟩)
noncomputable def cM (_:Fg):Sp:=fun vs H Q _=>∃ z:Str,vs=[.bl true,.str z]/\Q .non H
noncomputable def gS (K:Fg):TS:=(bp (dq (tB (aa 0))) rq aY)
theorem vz (h:cM K vs H Q E):gS K { nx:=fun _ H'=>Q .non H',rt:=Q } (start ["fit","reason"] vs) H:=by
 obtain ⟨z,rfl,q⟩:=h
 show gS K _ [some _,some _] _
 unfold gS
 walk_at "rd"
 exact q
noncomputable def m8 (_:Fg):Sp:=fun vs H Q _=>∃ (p:Addr) (ns:List Int) (c:Int),vs=[.ref p,.int c]/\H p=some (.lst (ns.map V.int))/\ns.length<=1000/\(∀ n∈ns,0<=n/\n < c)/\∀ H',am H H'->Q (.bl true) H'
noncomputable def lj (K:Fg):TS:=(aJ (ie (tCB (iN K) (ac (aa 0) (ac (tC (.ty "list")) ag))) (tCB (Ei K) (ac (bu (cc K (aa 0)) (fun _ _ _ _=>(aj 0)) (fun _ _ _ _=>aV) (fun _ _ _ _=>(av (dI K) [] E0 (ac (aa 0) (ac (aa 1) ag)))) [none,some 1]) ag))))
theorem BT (h:m8 K vs H Q E):lj K { nx:=fun _ H'=>Q .non H',rt:=Q } (start ["thing","cards"] vs) H:=by
 obtain ⟨p,ns,c,rfl,ep,hl,hb,q⟩:=h
 show lj K _ [some _,some _] _
 unfold lj
 walk_at "rd"
 refine gQ (.lst ep) (kS K) ?_
 walk_at "rd"
 refine cF (ns.map V.int) (SqL.of ep) (by rw [MY]; omega) (fun i acc _=>acc=(NN i true).map V.bl) (fun _ _=>rfl) ?_ ?_
 ·rintro p' hp' C s' H' fp i x acc H2 hx ⟨s2,e2,l2,rfl⟩
  obtain ⟨z,hz,rfl⟩:=rT hx
  have ⟨b1,b2⟩:=hb z (M9 hz)
  walk_at "rd"
  refine ⟨z,c,rfl,?_⟩
  rw [hZ b1 (show z<=c - 1 by omega)]
  exact bf.put hp' (fun i acc H H' r k=>r) s2 e2 l2 (by rw [Qz,Nr]; rfl)
 ·rintro p' acc H2 hp' s2 e2 rfl
  walk_at "rd"
  refine ⟨p',NN ns.length true,rfl,SqL.of (by rw [e2,MY]),?_⟩
  have ha:(NN ns.length true).all id=true:=by simp
  rw [ha]
  exact q H2 s2
theorem pb {K:Fg} {ta tv:TE} {f:Str} {D:kf} {σ:St} {H:Hp} (h:tv σ H fun y H1=>ta σ H1 fun x H2=>∃ a C dx fs,x=.ref a/\H2 a=some (.ins C dx fs)/\Cls K C/\fh K C f/\fs.length < 1000/\D.nx σ (upd H2 a (.ins C dx (gZ f y fs)))):rE K ta tv f D σ H:=h
theorem fm {K:Fg} {ta:TE} {f:Str} {σ:St} {H:Hp} {Q:VK} (h:ta σ H fun x H1=>∃ a C dx fs v,x=.ref a/\H1 a=some (.ins C dx fs)/\Cls K C/\fh K C f/\fs.lookup f=some v/\Q v H1):gb K ta f σ H Q:=h
theorem LM {C:Addr} {sp:Sp} {dvs:List V} {E:XK} {t:TA} {σ:St} {H:Hp} {Q:VK} (h:t σ H fun vs H1=>∀ x dx,H1 x=none->H1 dx=none->dx≠x->sp (.ref x :: (vs++dvs)) (upd (upd H1 dx (.own x)) x (.ins C dx [])) (fun v H2=>v=.non/\Q (.ref x) H2) E):AA C sp dvs E t σ H Q:=h
theorem iX {C:Addr} {m:Str} {sp:Sp} {dvs:List V} {E:XK} {ta:TE} {t:TA} {σ:St} {H:Hp} {Q:VK} (h:ta σ H fun x H1=>∃ a dx fs,x=.ref a/\H1 a=some (.ins C dx fs)/\fs.lookup m=none/\t σ H1 fun vs H2=>sp (x :: (vs++dvs)) H2 Q E):gd C m sp dvs E ta t σ H Q:=h
noncomputable def Kx (x:Addr) (H H':Hp):Prop:=∀ b o,b≠x->H b=some o->H' b=some o
theorem Kx.refl (x:Addr) (H:Hp):Kx x H H:=fun _ _ _ e=>e
theorem Kx.same {x:Addr} {H H1 H2:Hp} (k:Kx x H H1) (s:am H1 H2):Kx x H H2:=fun b o n e=>s _ _ (k b o n e)
theorem Kx.upd {x:Addr} {H H1:Hp} {u:HO} (k:Kx x H H1):Kx x H (L2.upd H1 x u):=fun b o n e=>by rw [aS n]; exact k b o n e
theorem kD {H H':Hp} {x p:Addr} {ws:List (List Nat)} {C dx:Addr} {fs:List (Str×V)} (D:ba H p ws) (hx:H x=some (.ins C dx fs)) (k:Kx x H H'):ba H' p ws:=by
 obtain ⟨rs,e,hr⟩:=D
 refine ⟨rs,k _ _ (fun z=>by rw [z,hx] at e; cases e) e,Paired.mapP hr fun a w e=>k _ _ (fun z=>by rw [z,hx] at e; cases e) e⟩
theorem sn {H:Hp} {x b:Addr} {C dx:Addr} {fs:List (Str×V)} {xs:List V} (hx:H x=some (.ins C dx fs)) (e:H b=some (.lst xs)):b≠x:=fun z=>by rw [z,hx] at e; cases e
theorem tV {R:Hp->Prop} {H:Hp} {a C dx:Addr} {fs:List (Str×V)} (h:∀ H3,Kx a H H3->H3 a=some (.ins C dx fs)->R H3):R (upd H a (.ins C dx fs)):=h _ (Kx.upd (Kx.refl _ _)) az
structure Kp (M:List Addr) (H H':Hp):Prop where
 k:∀ b o,H b=some o->(b∉M\/∀ xs,o≠.lst xs)->H' b=some o
 f:∀ b,H' b=none->H b=none
theorem Kp.of {M:List Addr} {H H':Hp} (s:am H H'):Kp M H H':=⟨fun b o e _=>s b o e,fun b h=>s.free h⟩
theorem Kp.trans {M:List Addr} {H H1 H2:Hp} (a:Kp M H H1) (b:Kp M H1 H2):Kp M H H2:=⟨fun x o e h=>b.k x o (a.k x o e h) h,fun x h=>a.f x (b.f x h)⟩
theorem Kp.mono {M N:List Addr} {H H':Hp} (a:Kp M H H') (h:∀ b∈M,b∈N):Kp N H H':=⟨fun x o e q=>a.k x o e (q.imp (fun n m=>n (h x m)) id),a.f⟩
theorem Kp.keep {M:List Addr} {H H':Hp} (a:Kp M H H'):iO H H':=fun b xs e=>a.k b _ e (.inr fun _ z=>nomatch z)
theorem Kp.tup {M:List Addr} {H H':Hp} (a:Kp M H H') {b:Addr} {xs:List V} (e:H b=some (.tup xs)):H' b=some (.tup xs):=a.keep _ _ e
theorem Kp.ins {M:List Addr} {H H':Hp} (a:Kp M H H') {b C dx:Addr} {fs:List (Str×V)} (e:H b=some (.ins C dx fs)):H' b=some (.ins C dx fs):=a.k b _ e (.inr fun _ z=>nomatch z)
theorem Kp.lst {M:List Addr} {H H':Hp} (a:Kp M H H') {b:Addr} {o:HO} (n:b∉M) (e:H b=some o):H' b=some o:=a.k b _ e (.inl n)
theorem Kp.new {M:List Addr} {H0 H H':Hp} (s:am H0 H) (a:Kp M H H') (h:∀ b∈M,H0 b=none):am H0 H':=fun b o e=>a.lst (fun m=>by rw [h b m] at e; cases e) (s b o e)
theorem Kp.upd {M:List Addr} {H H':Hp} {l:Addr} {xs ys:List V} (a:Kp M H H') (e:H' l=some (.lst xs)) (hl:l∈M):Kp M H (L2.upd H' l (.lst ys)):=⟨fun b o q n=>by
 by_cases z:b=l
 ·subst z
  have:=a.k _ _ q n
  rw [e] at this
  cases this
  rcases n with n | n
  ·exact absurd hl n
  ·exact absurd rfl (n _)
 ·rw [aS z]
  exact a.k b o q n,fun b h=>by
 by_cases z:b=l
 ·subst z
  rw [az] at h
  cases h
 ·rw [aS z] at h
  exact a.f b h⟩
theorem Kp.off {M:List Addr} {H H1 H2:Hp} {l:Addr} {xs ys:List V} (a:Kp M H H1) (e:H1 l=some (.lst xs)) (hl:l∈M) (o:Off l H1 H2) (e2:H2 l=some (.lst ys)):Kp M H H2:=by
 have:H2=L2.upd H1 l (.lst ys):=by
  funext b
  by_cases z:b=l
  ·subst z; rw [az]; exact e2
  ·rw [aS z]; exact o b z
 rw [this]
 exact a.upd e hl
noncomputable def wP (M:List Addr) (H:Hp) (d:V) (m:List Nat×List V):Prop:=∃ t h v,d=.ref t/\H t=some (.tup [.ref h,.ref v])/\H h=some (.tup (au m.1))/\H v=some (.lst m.2)/\v∉M
theorem wP.kp {M N:List Addr} {H H':Hp} {d:V} {m:List Nat×List V} (h:wP M H d m) (a:Kp N H H') (hn:∀ b∈N,b∈M):wP M H' d m:=by
 obtain ⟨t,x,v,e,h1,h2,h3,h4⟩:=h
 exact ⟨t,x,v,e,a.tup h1,a.tup h2,a.lst (fun z=>h4 (hn _ z)) h3,h4⟩
noncomputable def BU (pd ps pv pe:Addr) (T:TM):List (Str×V):=[("dealt",.ref pd),("cards",.int T.c),("sizes",.ref ps),("hands",.int T.k),("views",.ref pv),("deeds",.ref pe)]
structure TbX (G:GF) (M:List Addr) (H:Hp) (x pv pe:Addr) (T:TM) (dx pd ps:Addr) (qs:List Addr) (es:List V):Prop where
 hx:H x=some (.ins G.Table dx (BU pd ps pv pe T))
 dl:ba H pd T.ws
 nd:pd∉M
 sz:H ps=some (.lst (au T.ss))
 ns:ps∉M
 vs:H pv=some (.lst (qs.map V.ref))
 qv:Paired (fun (q:Addr) (v:List Nat)=>H q=some (.lst (au v))/\q∉M) qs T.vw
 pes:H pe=some (.lst es)
 ed:Paired (wP M H) es T.ds
structure Tb (G:GF) (M:List Addr) (H:Hp) (x pv pe:Addr) (T:TM):Prop where
 ok:T.Ok
 ex:∃ dx pd ps qs es,TbX G M H x pv pe T dx pd ps qs es
 ne:pv≠pe
 mv:pv∈M
 me:pe∈M
 al:∀ b∈M,H b≠none
theorem ba.kp {M:List Addr} {H H':Hp} {p:Addr} {ws:List (List Nat)} (d:ba H p ws) (a:Kp M H H') (n:p∉M):ba H' p ws:=d.to' a.keep fun rs e=>a.lst n e
theorem Tb.kp {G:GF} {M N:List Addr} {H H':Hp} {x pv pe:Addr} {T:TM} (t:Tb G M H x pv pe T) (a:Kp N H H') (hn:∀ b∈N,b∈M) (n1:pv∉N) (n2:pe∉N):Tb G M H' x pv pe T:=by
 obtain ⟨dx,pd,ps,qs,es,X⟩:=t.ex
 exact ⟨t.ok,⟨dx,pd,ps,qs,es,a.ins X.hx,X.dl.kp a fun z=>X.nd (hn _ z),X.nd,a.lst (fun z=>X.ns (hn _ z)) X.sz,X.ns,a.lst n1 X.vs,Paired.mapP X.qv fun _ _ ⟨e,n⟩=>⟨a.lst (fun z=>n (hn _ z)) e,n⟩,a.lst n2 X.pes,Paired.mapP X.ed fun _ _ h=>h.kp a hn⟩,t.ne,t.mv,t.me,fun b hb z=>t.al b hb (a.f b z)⟩
theorem Tb.same {G:GF} {M:List Addr} {H H':Hp} {x pv pe:Addr} {T:TM} (t:Tb G M H x pv pe T) (s:am H H'):Tb G M H' x pv pe T:=t.kp (N:=[]) (Kp.of s) (fun _ z=>nomatch z) (fun z=>nomatch z) (fun z=>nomatch z)
theorem Tb.grow {G:GF} {M N:List Addr} {H:Hp} {x pv pe:Addr} {T:TM} (t:Tb G M H x pv pe T) {H':Hp} (s:am H H') (hn:∀ b∈N,H b=none) (ha:∀ b∈N,H' b≠none):Tb G (N++M) H' x pv pe T:=by
 obtain ⟨dx,pd,ps,qs,es,X⟩:=t.ex
 have go:∀ {b:Addr} {o:HO},H b=some o->b∉M->b∉N++M:=fun e n z=>by
  rcases NL.mp z with z | z
  ·rw [hn _ z] at e; cases e
  ·exact n z
 have hd:pd∉N++M:=by
  obtain ⟨rs,e,_⟩:=X.dl
  exact go e X.nd
 exact ⟨t.ok,⟨dx,pd,ps,qs,es,s _ _ X.hx,X.dl.same' s,hd,s _ _ X.sz,go X.sz X.ns,s _ _ X.vs,Paired.mapP X.qv fun _ _ ⟨e,n⟩=>⟨s _ _ e,go e n⟩,s _ _ X.pes,Paired.mapP X.ed fun _ _ ⟨t,h,v,e,h1,h2,h3,h4⟩=>⟨t,h,v,e,s _ _ h1,s _ _ h2,s _ _ h3,go h3 h4⟩⟩,t.ne,NU _ t.mv,NU _ t.me,fun b hb=>by
  rcases NL.mp hb with z | z
  ·exact ha b z
  ·intro y
   exact t.al b z (s.free y)⟩
theorem Tb.off {G:GF} {M:List Addr} {H:Hp} {x pv pe:Addr} {T:TM} (t:Tb G M H x pv pe T) {p:Addr} (h:H p=none):p∉M:=fun z=>t.al p z h
theorem Tb.at {G:GF} {M:List Addr} {H:Hp} {x pv pe:Addr} {T:TM} (t:Tb G M H x pv pe T) (m:Str) (h1:(m == "dealt")=false) (h2:(m == "cards")=false) (h3:(m == "sizes")=false) (h4:(m == "hands")=false) (h5:(m == "views")=false) (h6:(m == "deeds")=false):∃ dx fs,H x=some (.ins G.Table dx fs)/\fs.lookup m=none:=by
 obtain ⟨dx,pd,ps,qs,es,X⟩:=t.ex
 refine ⟨dx,_,X.hx,?_⟩
 simp only [BU,Qk,h1,h2,h3,h4,h5,h6]
noncomputable def gy (_:Fg) (G:GF):Sp:=fun vs H Q _=>∃ (M:List Addr) (x dx a:Addr) (c:Nat) (ss:List Nat),vs=[.ref x,.int c,.ref a]/\H x=some (.ins G.Table dx [])/\H a=some (.lst (au ss))/\rR c ss/\KM.cA c ss<=2000/\(∀ b∈M,H b≠none)/\x∉M/\
 ∀ (H':Hp) (pv pe:Addr),Kx x H H'->H pv=none->H pe=none->Tb G (pv :: pe :: M) H' x pv pe (TM.begun c ss)->Q .non H'
noncomputable def jO (K:Fg) (G:GF):TS:=(ap (rE K (aa 0) (av (kX K) [] E0 (ac (aa 1) (ac (aa 2) ag))) "dealt")
 (ap (rE K (aa 0) (aa 1) "cards")
 (ap (rE K (aa 0) (tCB (mR K) (ac (aa 2) ag)) "sizes")
 (ap (rE K (aa 0) (tCB (eW K) (ac (aa 2) ag)) "hands")
 (ap (rE K (aa 0) (bu (fZ (ac (gb K (aa 0) "hands") ag)) (fun _ _ _ _=>(aj 0)) (fun _ _ _ _=>aV) (fun _ _ _ _=>(av (lO K) [] E0 (ac (gb K (aa 1) "dealt") (ac (aa 0) ag)))) [none,some 0]) "views")
 (rE K (aa 0) (dZ ag) "deeds"))))))
noncomputable abbrev BV:List Str:=["self","cards","sizes"]
theorem so {α β:Type} {F:α->β->Prop} {l:List α} {m:List β} {a:α} {b:β} (h:Paired F l m) (q:F a b):Paired F (l++[a]) (m++[b]):=by
 induction h with
 | nil=>exact .cons q .nil
 | cons x _ ih=>exact .cons x ih
theorem BW {R:Addr->List Nat->Prop}:∀ {acc:List V} {f:Nat->List Nat},(∀ j:Nat,j < acc.length->∃ q,acc[j]?=some (.ref q)/\R q (f j))->∃ qs:List Addr,acc=qs.map V.ref/\Paired R qs ((Nw acc.length).map f)
 | [],_,_=>⟨[],rfl,.nil⟩
 | x :: acc,f,h=>by
  obtain ⟨qs,e,p⟩:=BW (acc:=acc) (f:=fun j=>f (j + 1)) fun j hj=>by
   obtain ⟨q,h1,h2⟩:=h (j + 1) (by rw [NC]; omega)
   exact ⟨q,by simpa using h1,h2⟩
  obtain ⟨q,h1,h2⟩:=h 0 (by simp)
  refine ⟨q :: qs,by rw [Np,<-e]; exact congrArg (· :: acc) (by simpa using h1),?_⟩
  rw [NC,Th,Np,PJ]
  exact .cons h2 p
theorem zL {K:Fg} {G:GF} (ct:sg K G.Table) {vs:List V} {H:Hp} {Q:VK} {E:XK} (h:gy K G vs H Q E):jO K G { nx:=fun _ H'=>Q .non H',rt:=Q } (start BV vs) H:=by
 obtain ⟨M,x,dx,a,c,ss,rfl,hx,e,pk,hm,hM,hxM,q⟩:=h
 have nk:∀ {H1:Hp} {b:Addr} {fs:List (Str×V)},Kx x H H1->H1 x=some (.ins G.Table dx fs)->H1 b=none->H b=none:=fun {H1 b fs} kk ex eb=>by
  cases e:H b with
  | none=>rfl
  | some o=>
   by_cases z:b=x
   ·rw [z,ex] at eb; cases eb
   ·rw [kk _ _ z e] at eb; cases eb
 have h5:=pk.l5
 have nxa:a≠x:=fun z=>by rw [z,hx] at e; cases e
 show jO K G _ [some _,some _,some _] _
 unfold jO
 refine bA (pb ?_)
 walk_at "rd"
 refine ⟨c,a,ss,rfl,e,pk,hm,fun p H1 s1 hp D1=>?_⟩
 have okT:=TM.Ok.begun pk hm
 have hws:∀ w∈KM.bQ (ss++[c - ss.sum]) c,w.length<=1000:=fun w hw=>by
  have:=(KM.gJ _ c w hw).len
  have:=pk.c12
  omega
 have hwl:(KM.bQ (ss++[c - ss.sum]) c).length<=2000:=by rw [KM.kU pk.sum]; exact hm
 obtain ⟨ws,hWs⟩:∃ ws,ws=KM.bQ (ss++[c - ss.sum]) c:=⟨_,rfl⟩
 rw [<-hWs] at hws hwl D1
 walk_at "rd"
 refine ⟨x,G.Table,dx,[],rfl,s1 _ _ hx,ct.cl,ct.n1,by simp,tV fun H2 l2 x2=>?_⟩
 have k2:Kx x H H2:=fun b o n e=>l2 _ _ n (s1 _ _ e)
 have D2:=kD D1 (s1 _ _ hx) l2
 refine bA (pb ?_)
 walk_at "rd"
 refine ⟨x,G.Table,dx,_,rfl,x2,ct.cl,ct.n2,PQ rfl,tV fun H3 l3 x3=>?_⟩
 have k3:Kx x H H3:=fun b o n e=>l3 _ _ n (k2 _ _ n e)
 have D3:=kD D2 x2 l3
 refine bA (pb ?_)
 walk_at "rd"
 refine rN (SqL.of (k3 _ _ nxa e)) fun l4 H4 hl4 s4 e4=>?_
 have nxl:l4≠x:=sn (s4 _ _ x3) e4
 walk_at "rd"
 refine ⟨x,G.Table,dx,_,rfl,s4 _ _ x3,ct.cl,ct.n3,PQ rfl,tV fun H5 l5 x5=>?_⟩
 have k5:Kx x H H5:=fun b o n e=>l5 _ _ n (s4 _ _ (k3 _ _ n e))
 have D5:=kD (D3.same' s4) (s4 _ _ x3) l5
 have a5:=k5 _ _ nxa e
 refine bA (pb ?_)
 walk_at "rd"
 rw [aR]
 refine ⟨x,G.Table,dx,_,rfl,x5,ct.cl,ct.n4,PQ rfl,tV fun H6 l6 x6=>?_⟩
 have k6:Kx x H H6:=fun b o n e=>l6 _ _ n (k5 _ _ n e)
 have D6:=kD D5 x5 l6
 have e46:H6 l4=some (.lst (au ss)):=l6 _ _ nxl (l5 _ _ nxl e4)
 refine bA (pb ?_)
 walk_at "rd"
 refine fm ?_
 walk_at "rd"
 refine ⟨x,G.Table,dx,_,_,rfl,x6,ct.cl,ct.n4,rfl,?_⟩
 walk_at "rd"
 refine GH ss.length (by omega) (by omega) (by omega) (fun p' i acc H2=>acc.length=i/\∀ j:Nat,j < i->∃ q,acc[j]?=some (.ref q)/\(q≠p'/\q∉M)/\H2 q=some (.lst (au (lA ws (j:Int))))) (fun _ _ _=>⟨rfl,fun j hj=>absurd hj (Rq _)⟩) ?_ ?_
 ·intro p' hp' C s' H' fp i acc H7 hi ⟨s7,e7,l7,r7⟩
  walk_at "rd"
  refine fm ?_
  walk_at "rd"
  refine ⟨x,G.Table,dx,_,_,rfl,s7 _ _ x6,ct.cl,ct.n1,rfl,?_⟩
  walk_at "rd"
  refine ⟨p,ws,(i:Int),rfl,D6.same' s7,hws,by omega,fun q8 H8 hq8 s8 e8=>?_⟩
  obtain ⟨r1,r2⟩:=r7
  refine bf.putW hp' (s7.trans s8) (s8 _ _ e7) l7 fun H9 o9=>⟨by rw [Nq,r1]; rfl,fun j hj=>?_⟩
  by_cases hj2:j < i
  ·obtain ⟨q,h1,h2,h3⟩:=r2 j hj2
   exact ⟨q,by rw [QF (by omega)]; exact h1,h2,(o9 _ h2.1).trans (s8 _ _ h3)⟩
  ·have ej:j=i:=by omega
   subst ej
   have hqp:q8≠p':=fun z=>by rw [z,e7] at hq8; cases hq8
   exact ⟨q8,by rw [RZ (by omega),r1,UB]; rfl,⟨hqp,fun z=>hM _ z (nk (k6.same s7) (s7 _ _ x6) hq8)⟩,(o9 _ hqp).trans e8⟩
 ·intro pv acc H7 hpv s7 e7 ⟨r1,r2⟩
  walk_at "rd"
  refine ⟨x,G.Table,dx,_,rfl,s7 _ _ x6,ct.cl,ct.n5,PQ rfl,tV fun H8 kk x8=>?_⟩
  have k8:Kx x H H8:=fun b o n e=>kk _ _ n (s7 _ _ (k6 _ _ n e))
  have D8:=kD (D6.same' s7) (s7 _ _ x6) kk
  have v8:=kk _ _ (sn (s7 _ _ x6) e7) e7
  refine pb ?_
  walk_at "rd"
  refine ⟨by simp [M8],fun pe H9 hpe s9 e9=>?_⟩
  walk_at "rd"
  refine ⟨x,G.Table,dx,_,rfl,s9 _ _ x8,ct.cl,ct.n6,PQ rfl,tV fun HA kz xA=>?_⟩
  have kA:Kx x H HA:=fun b o n e=>kz _ _ n (s9 _ _ (k8 _ _ n e))
  have gv:=nk k6 x6 hpv
  have ge:=nk k8 x8 hpe
  have npv:pv≠pe:=bn v8 hpe
  have npd:p∉pv :: pe :: M:=fun z=>by
   obtain ⟨rs6,er6,_⟩:=id D6
   rcases M6.mp z with z | z
   ·rw [z] at er6; rw [er6] at hpv; cases hpv
   ·rcases M6.mp z with z | z
    ·obtain ⟨rs8,er8,_⟩:=id D8
     rw [z] at er8; rw [er8] at hpe; cases hpe
    ·exact hM _ z hp
  have e48:=kk _ _ nxl (s7 _ _ e46)
  have nps:l4∉pv :: pe :: M:=fun z=>by
   rcases M6.mp z with z | z
   ·rw [z] at e46; rw [e46] at hpv; cases hpv
   ·rcases M6.mp z with z | z
    ·rw [z] at e48; rw [e48] at hpe; cases hpe
    ·exact hM _ z (nk k3 x3 hl4)
  have rr:=BW (R:=fun q v=>(q≠pv/\q∉M)/\H8 q=some (.lst (au v))) (f:=fun j=>lA ws ((j:Nat):Int)) (fun j hj=>by
   obtain ⟨q,h1,h2,h3⟩:=r2 j (by rw [<-r1]; exact hj)
   exact ⟨q,h1,h2,kk _ _ (sn (s7 _ _ x6) h3) h3⟩)
  rw [r1] at rr
  obtain ⟨qs,rfl,hqs⟩:=rr
  have up:∀ {b:Addr} {xs:List V},H8 b=some (.lst xs)->HA b=some (.lst xs):=fun e=>kz _ _ (sn (s9 _ _ x8) (s9 _ _ e)) (s9 _ _ e)
  have pe9:=kz _ _ (sn (s9 _ _ x8) e9) e9
  refine q HA pv pe kA gv ge ⟨okT,⟨dx,p,l4,qs,[],xA,?_,npd,up e48,nps,up v8,?_,pe9,.nil⟩,npv,M7,Nh _ M7,fun b hb y=>?_⟩
  ·show ba _ p (KM.bQ (ss++[c - ss.sum]) c)
   rw [<-hWs]
   exact kD (D8.same' s9) (s9 _ _ x8) kz
  ·show Paired _ qs ((Nw ss.length).map fun i=>lA (KM.bQ (ss++[c - ss.sum]) c) ((i:Nat):Int))
   rw [<-hWs]
   refine Paired.mapP hqs fun a' v ⟨h2,h3⟩=>⟨up h3,fun z=>?_⟩
   rcases M6.mp z with z | z
   ·exact h2.1 z
   ·rcases M6.mp z with z | z
    ·rw [z] at h3; rw [h3] at hpe; cases hpe
    ·exact h2.2 z
  ·rcases M6.mp hb with z | z
   ·rw [z,up v8] at y; cases y
   ·rcases M6.mp z with z | z
    ·rw [z,pe9] at y; cases y
    ·cases eb:H b with
     | none=>exact hM b z eb
     | some o=>rw [kA b o (fun w=>hxM (w ▸ z)) eb] at y; cases y
end
section
open KF
noncomputable def kF (_:Fg) (G:GF):Sp:=fun vs H Q _=>∃ (M:List Addr) (x pv pe:Addr) (T:TM),vs=[.ref x]/\Tb G M H x pv pe T/\∀ (p:Addr) (H':Hp),H p=none->am H H'->ba H' p T.ws->Q (.ref p) H'
noncomputable def i8 (K:Fg) (G:GF):TS:=(aJ (tCB (mR K) (ac (gb K (aa 0) "dealt") ag)))
noncomputable abbrev zM:List Str:=["self"]
theorem yy {K:Fg} {G:GF} (ct:sg K G.Table) {vs:List V} {H:Hp} {Q:VK} {E:XK} (h:kF K G vs H Q E):i8 K G { nx:=fun _ H'=>Q .non H',rt:=Q } (start zM vs) H:=by
 obtain ⟨M,x,pv,pe,T,rfl,t,q⟩:=h
 obtain ⟨dx,pd,ps,qs,es,X⟩:=t.ex
 show i8 K G _ [some _] _
 unfold i8
 walk_at "rd"
 refine fm ?_
 walk_at "rd"
 refine ⟨x,G.Table,dx,_,_,rfl,X.hx,ct.cl,ct.n1,rfl,?_⟩
 walk_at "rd"
 obtain ⟨rs,er,hr⟩:=X.dl
 refine rN (SqL.of er) fun p H1 hp s1 e1=>?_
 exact q p H1 hp s1 ⟨rs,e1,Paired.mapP hr fun a w e=>s1 _ _ e⟩
theorem TbX.view {G:GF} {M:List Addr} {H:Hp} {x pv pe:Addr} {T:TM} {dx pd ps:Addr} {qs:List Addr} {es:List V} (X:TbX G M H x pv pe T dx pd ps qs es) {i:Nat} (hi:i < T.vw.length):∃ qi,qs[i]?=some qi/\H qi=some (.lst (au (T.vw.getD i [])))/\qi∉M:=by
 have lq:qs.length=T.vw.length:=NG X.qv
 have hq:qs[i]?=some (qs[i]'(by omega)):=MZ _
 obtain ⟨v,hv,h1,h2⟩:=bx X.qv hq
 exact ⟨_,hq,by rw [gK hv]; exact h1,h2⟩
noncomputable def lU (_:Fg) (G:GF):Sp:=fun vs H Q _=>∃ (M:List Addr) (x pv pe:Addr) (T:TM) (i:Nat),vs=[.ref x,.int i]/\Tb G M H x pv pe T/\i < T.k/\∀ (p:Addr) (H':Hp),H p=none->am H H'->H' p=some (.lst (au (T.vw.getD i [])))->Q (.ref p) H'
noncomputable def jP (K:Fg) (G:GF):TS:=(ap (dG (av (cM K) [] E0 (ac (av (dI K) [] E0 (ac (aa 1) (ac (gb K (aa 0) "hands") ag))) (ac (tC (.str "this is no hand")) ag))))
 (aJ (tCB (mR K) (ac (tOp (ca K) (gb K (aa 0) "views") (aa 1)) ag))))
noncomputable abbrev BX:List Str:=["self","hand"]
theorem zN {K:Fg} {G:GF} (ct:sg K G.Table) {vs:List V} {H:Hp} {Q:VK} {E:XK} (h:lU K G vs H Q E):jP K G { nx:=fun _ H'=>Q .non H',rt:=Q } (start BX vs) H:=by
 obtain ⟨M,x,pv,pe,T,i,rfl,t,hi,q⟩:=h
 obtain ⟨dx,pd,ps,qs,es,X⟩:=t.ex
 show jP K G _ [some _,some _] _
 unfold jP
 walk_at "rd"
 refine fm ?_
 walk_at "rd"
 refine ⟨x,G.Table,dx,_,_,rfl,X.hx,ct.cl,ct.n4,rfl,?_⟩
 walk_at "rd"
 refine ⟨(i:Int),(T.k:Int),rfl,?_⟩
 rw [hZ (by omega) (by omega)]
 walk_at "rd"
 refine ⟨_,rfl,?_⟩
 walk_at "rd"
 refine fm ?_
 walk_at "rd"
 refine ⟨x,G.Table,dx,_,_,rfl,X.hx,ct.cl,ct.n5,rfl,?_⟩
 walk_at "rd"
 obtain ⟨qi,hq,h2,_⟩:=X.view (i:=i) (by rw [t.ok.len]; exact hi)
 refine bI (SqL.of X.vs) (cP (v:=.ref qi) (by rw [Ng,hq]; rfl)) ?_
 walk_at "rd"
 refine rN (SqL.of h2) fun p H1 hp s1 e1=>?_
 exact q p H1 hp s1 e1
noncomputable def Tld (G:GF) (M:List Addr) (H:Hp) (x pv pe:Addr) (T:TM) (ys:List V) (Q:VK):Prop:=∀ p Hm H',Kp [pv,pe] H Hm->Tb G M Hm x pv pe T->Hm p=none->am Hm H'->H' p=some (.lst ys)->Q (.ref p) H'
theorem LN {G:GF} {M:List Addr} {H:Hp} {x pv pe:Addr} {T:TM} {ys:List V} {Q:VK} (h:∀ p H',H p=none->Kp [pv,pe] H H'->H' p=some (.lst ys)->Tb G M H' x pv pe T->Q (.ref p) H'):Tld G M H x pv pe T ys Q:=fun p _ H' k t hp s e=>h p H' (k.f _ hp) (k.trans (Kp.of s)) e (t.same s)
theorem Tld.up {G:GF} {M:List Addr} {H H0:Hp} {x pv pe:Addr} {T:TM} {ys:List V} {Q:VK} (h:Tld G M H0 x pv pe T ys Q) (s:am H0 H):Tld G M H x pv pe T ys Q:=fun p Hm H' k t hp s' e=>h p Hm H' ((Kp.of s).trans k) t hp s' e
noncomputable def iz (_:Fg) (G:GF):Sp:=fun vs H Q _=>∃ (M:List Addr) (x pv pe tp vp:Addr) (T:TM) (g:List Nat) (as:List IA) (ys:List V),vs=[.ref x,.ref tp,.ref vp]/\Tb G M H x pv pe T/\H tp=some (.tup (au g))/\(∀ h∈g,h < T.k)/\H vp=some (.lst ys)/\vp∉M/\ys.map iaV=as.map some/\as.length=T.n/\T.ds.length < 1000/\
 Tld G M H x pv pe (T.learn g as ys) ys Q
noncomputable def i9 (K:Fg) (G:GF):TS:=(ap (cU (rA K (aa 1)) (aj 3) (aH (av (vt K) [] E0 (ac (tOp (ca K) (gb K (aa 0) "views") (aa 3)) (ac (aa 2) ag))) (kh (gb K (aa 0) "views") (aa 3) kP)))
 (ap (dG (tBM K "list" ii (gb K (aa 0) "deeds") (ac (dL (ac (aa 1) (ac (aa 2) ag))) ag)))
 (aJ (tCB (mR K) (ac (aa 2) ag)))))
noncomputable abbrev zO:List Str:=["self","hands","values","hand"]
theorem EB {n j:Nat} (h:j < n):ixN n (j:Int)=some j:=by
 unfold ixN
 rw [if_pos (by omega),if_pos (by omega)]
 simp
theorem wQ {α β:Type} {F:α->β->Prop} {l:List α} {m:List β} (h:Paired F l m) {a:α} {b:β} (r:F a b):∀ i:Nat,Paired F (l.set i a) (m.set i b):=by
 induction h with
 | nil=>exact fun i=>.nil
 | cons r' t ih=>
  intro i
  cases i with
  | zero=>exact .cons r t
  | succ i=>exact .cons r' (ih i)
theorem yz {K:Fg} {G:GF} (ct:sg K G.Table) {vs:List V} {H:Hp} {Q:VK} {E:XK} (h:iz K G vs H Q E):i9 K G { nx:=fun _ H'=>Q .non H',rt:=Q } (start zO vs) H:=by
 obtain ⟨M,x,pv,pe,tp,vp,T,g,as,ys,rfl,t,et,hg,evp,nvp,hia,hla,hds,q⟩:=h
 obtain ⟨dx,pd,ps,qs,es,X⟩:=t.ex
 have n2:=t.ok.n2
 show i9 K G _ [some _,some _,some _,none] _
 unfold i9
 walk_at "rd"
 have me1:pv∈[pv,pe]:=M7
 have me2:pe∈[pv,pe]:=Nh _ M7
 have sub:∀ b∈[pv,pe],b∈M:=fun b hb=>by
  rcases M6.mp hb with z | z
  ·rw [z]; exact t.mv
  ·rw [M0.mp z]; exact t.me
 have nvp':vp∉[pv,pe]:=fun z=>nvp (sub _ z)
 refine rO (au g) (SqT.of et) (fun j σ' H2=>∃ (u:Option V) (qs2:List Addr),σ'=[some (.ref x),some (.ref tp),some (.ref vp),u]/\Kp [pv] H H2/\H2 pv=some (.lst (qs2.map V.ref))/\Paired (fun (q:Addr) (v:List Nat)=>H2 q=some (.lst (au v))/\q∉M) qs2 (lrn T.vw (g.take j) as)) ⟨none,qs,rfl,Kp.of (am.refl _),X.vs,X.qv⟩ ?_ ?_ ?_
 ·rintro j σ' H2 hj ⟨u,qs2,rfl,k2,_⟩
  exact SqT.of (k2.tup et)
 ·rintro j y σ' H2 hy ⟨u,qs2,rfl,k2,e2,p2⟩
  obtain ⟨hd,hh,rfl⟩:=eY hy
  have hk:=hg hd (M9 hh)
  have hx2:=k2.ins X.hx
  have lq:qs2.length=T.vw.length:=by rw [NG p2,mM]
  have hdl:hd < qs2.length:=by rw [lq,t.ok.len]; exact hk
  have hq:qs2[hd]?=some (qs2[hd]'hdl):=MZ _
  generalize qs2[hd]'hdl=qi at hq
  obtain ⟨v,hv,h1,h2⟩:=bx p2 hq
  have hvw:Within T.n v:=oZ (P:=Within T.n) (fun v hv=>m5 hv hla) (g.take j) T.vw (fun h hh=>by rw [t.ok.len]; exact hg h (T1 hh)) t.ok.win v (M9 hv)
  walk_at "rd"
  refine fm ?_
  walk_at "rd"
  refine ⟨x,G.Table,dx,_,_,rfl,hx2,ct.cl,ct.n5,rfl,?_⟩
  walk_at "rd"
  refine bI (SqL.of e2) (cP (v:=.ref qi) (by rw [Ng,hq]; rfl)) ?_
  walk_at "rd"
  refine ⟨qi,vp,v,ys,as,rfl,h1,k2.lst (fun z=>nvp' (by rw [M0.mp z]; exact me1)) evp,hia,by rw [hvw.1,hla],by rw [hvw.1]; omega,fun q' H3 hq' s3 e3=>?_⟩
  walk_at "rd"
  refine fm ?_
  walk_at "rd"
  refine ⟨x,G.Table,dx,_,_,rfl,s3 _ _ hx2,ct.cl,ct.n5,rfl,?_⟩
  walk_at "rd"
  refine mQ (s3 _ _ e2) (EB (by rw [MY]; exact hdl)) ?_
  have nq:q'≠pv:=(bn e2 hq').symm
  have nqM:q'∉M:=fun z=>t.al _ z (k2.f _ hq')
  refine ⟨_,qs2.set hd q',rfl,(k2.trans (Kp.of s3)).upd (s3 _ _ e2) (M0.mpr rfl),by rw [az,UC],?_⟩
  rw [b9 hh,BH,gK hv]
  refine wQ (Paired.mapP p2 fun a w ⟨z1,z2⟩=>⟨?_,z2⟩) ⟨by rw [aS nq]; exact e3,nqM⟩ hd
  rw [aS (show a≠pv from fun z=>z2 (by rw [z]; exact t.mv))]
  exact s3 _ _ z1
 ·rintro σ' H2 ⟨u,qs2,rfl,k2,e2,p2⟩
  rw [aR,NI] at p2
  have hx2:=k2.ins X.hx
  have ee2:=k2.lst (fun z=>t.ne (M0.mp z).symm) X.pes
  walk_at "rd"
  refine fm ?_
  walk_at "rd"
  refine ⟨x,G.Table,dx,_,_,rfl,hx2,ct.cl,ct.n6,rfl,?_⟩
  refine ⟨.inl ⟨rfl,_,SqL.of ee2⟩,?_⟩
  walk_at "rd"
  refine ⟨by simp [M8],fun p3 H3 hp3 s3 e3=>?_⟩
  walk_at "rd"
  have les:es.length=T.ds.length:=NG X.ed
  refine kn (s3 _ _ ee2) (by rw [M8]; omega) fun H4 o4 e4=>?_
  have k4:Kp [pv,pe] H H4:=((k2.mono fun b hb=>by rw [M0.mp hb]; exact me1).trans (Kp.of s3)).off (s3 _ _ ee2) me2 o4 e4
  walk_at "rd"
  refine rN (SqL.of (k4.lst nvp' evp)) fun p5 H5 hp5 s5 e5=>?_
  have keep4:∀ {b:Addr} {o:HO},b≠pe->H2 b=some o->H4 b=some o:=fun nb e=>(o4 _ nb).trans (s3 _ _ e)
  refine q p5 H4 H5 k4 ⟨t.ok.learn hg hla,⟨dx,pd,ps,qs2,es++[.ref p3],k4.ins X.hx,X.dl.kp k4 fun z=>X.nd (sub _ z),X.nd,k4.lst (fun z=>X.ns (sub _ z)) X.sz,X.ns,keep4 t.ne e2,Paired.mapP p2 fun a w ⟨z1,z2⟩=>⟨keep4 (show a≠pe from fun z=>z2 (by rw [z]; exact t.me)) z1,z2⟩,e4,?_⟩,t.ne,t.mv,t.me,fun b hb z=>t.al b hb (k4.f b z)⟩ hp5 s5 e5
  refine so (Paired.mapP X.ed fun _ _ h=>h.kp k4 sub) ⟨p3,tp,vp,rfl,?_,k4.tup et,k4.lst nvp' evp,nvp⟩
  exact (o4 _ (fun z=>by rw [z] at hp3; rw [ee2] at hp3; cases hp3)).trans e3
noncomputable def dU (_:Fg) (G:GF):Sp:=fun vs H Q _=>∃ (M:List Addr) (x pv pe:Addr) (T:TM) (v:V) (s:Sy),vs=[.ref x,v]/\Tb G M H x pv pe T/\aU H v s/\s.Ok T.c T.k/\s.words<=30/\
 ∀ p H',H p=none->am H H'->H' p=some (.lst (blV T.n (T.tr s)))->Q (.ref p) H'
noncomputable def iA (K:Fg) (G:GF):TS:=(ap (bp (dq (tB (av (m6 K) [] E0 (ac (gb K (aa 0) "cards") (ac (gb K (aa 0) "hands") (ac (aa 1) ag)))))) rq aY)
 (aJ (av (cj K 35) [] E0 (ac (gb K (aa 0) "dealt") (ac (gb K (aa 0) "views") (ac (aa 1) ag))))))
noncomputable abbrev yA:List Str:=["self","S"]
theorem Tb.tab {G:GF} {M:List Addr} {H:Hp} {x pv pe:Addr} {T:TM} {dx pd ps:Addr} {qs:List Addr} {es:List V} (ok:T.Ok) (X:TbX G M H x pv pe T dx pd ps qs es):Table H pd pv T.c T.n T.ws T.vw:=
 ⟨X.dl,rfl,ok.cards,by have:=ok.n2; omega,by have:=ok.pk.c12; omega,⟨qs,X.vs,Paired.mapP X.qv fun _ _ h=>h.1⟩,ok.win,by rw [ok.len]; have:=ok.pk.l5; show T.ss.length<=1000; omega⟩
theorem wR {K:Fg} {G:GF} (ct:sg K G.Table) {vs:List V} {H:Hp} {Q:VK} {E:XK} (h:dU K G vs H Q E):iA K G { nx:=fun _ H'=>Q .non H',rt:=Q } (start yA vs) H:=by
 obtain ⟨M,x,pv,pe,T,v,s,rfl,t,hS,hok,hw,q⟩:=h
 obtain ⟨dx,pd,ps,qs,es,X⟩:=t.ex
 show iA K G _ [some _,some _] _
 unfold iA
 walk_at "rd"
 refine fm ?_
 walk_at "rd"
 refine ⟨x,G.Table,dx,_,_,rfl,X.hx,ct.cl,ct.n2,rfl,?_⟩
 walk_at "rd"
 refine fm ?_
 walk_at "rd"
 refine ⟨x,G.Table,dx,_,_,rfl,X.hx,ct.cl,ct.n4,rfl,?_⟩
 walk_at "rd"
 refine ⟨T.c,T.k,v,s,rfl,hS,hok,hw,fun H1 s1=>?_⟩
 have x1:=s1 _ _ X.hx
 walk_at "rd"
 refine fm ?_
 walk_at "rd"
 refine ⟨x,G.Table,dx,_,_,rfl,x1,ct.cl,ct.n1,rfl,?_⟩
 walk_at "rd"
 refine fm ?_
 walk_at "rd"
 refine ⟨x,G.Table,dx,_,_,rfl,x1,ct.cl,ct.n5,rfl,?_⟩
 walk_at "rd"
 refine ⟨pd,pv,v,T.c,T.n,T.ws,T.vw,s,rfl,(Tb.tab t.ok X).same s1,hS.keep s1.keep,by rw [t.ok.len]; exact hok,by omega,fun p H2 hp2 s2 e2=>?_⟩
 walk_at "rd"
 exact q p H2 (s1.free hp2) (s1.trans s2) e2
noncomputable def lV (_:Fg) (G:GF):Sp:=fun vs H Q _=>∃ (M:List Addr) (x pv pe tp:Addr) (T:TM) (g:List Nat) (v:V) (s:Sy),vs=[.ref x,.ref tp,v]/\Tb G M H x pv pe T/\H tp=some (.tup (au g))/\g.Pairwise (· < ·)/\(∀ h∈g,h < T.k)/\aU H v s/\s.Ok T.c T.k/\s.words<=30/\T.ds.length < 1000/\
 Tld G M H x pv pe (T.word g s) (blV T.n (T.tr s)) Q
noncomputable def jQ (K:Fg) (G:GF):TS:=(ap (dG (av (cM K) [] E0 (ac (av (jI K) [] E0 (ac (aa 1) (ac (gb K (aa 0) "hands") ag))) (ac (tC (.str "this is no tuple of hands")) ag))))
 (aJ (gd G.Table "learn" (iz K G) [] E0 (aa 0) (ac (aa 1) (ac (gd G.Table "truths" (dU K G) [] E0 (aa 0) (ac (aa 2) ag)) ag)))))
noncomputable abbrev BY:List Str:=["self","hands","S"]
theorem zP {K:Fg} {G:GF} (ct:sg K G.Table) {vs:List V} {H:Hp} {Q:VK} {E:XK} (h:lV K G vs H Q E):jQ K G { nx:=fun _ H'=>Q .non H',rt:=Q } (start BY vs) H:=by
 obtain ⟨M,x,pv,pe,tp,T,g,v,s,rfl,t,et,pw,hg,hS,hok,hw,hds,q⟩:=h
 obtain ⟨dx,pd,ps,qs,es,X⟩:=t.ex
 show jQ K G _ [some _,some _,some _] _
 unfold jQ
 walk_at "rd"
 refine fm ?_
 walk_at "rd"
 refine ⟨x,G.Table,dx,_,_,rfl,X.hx,ct.cl,ct.n4,rfl,?_⟩
 walk_at "rd"
 refine ⟨tp,g,T.k,rfl,et,pw,hg,?_⟩
 walk_at "rd"
 refine ⟨_,rfl,?_⟩
 walk_at "rd"
 obtain ⟨dx1,fs1,hx1,hl1⟩:=t.at "learn" (by decide +kernel) (by decide +kernel) (by decide +kernel) (by decide +kernel) (by decide +kernel) (by decide +kernel)
 refine iX ?_
 walk_at "rd"
 refine ⟨x,dx1,fs1,rfl,hx1,hl1,?_⟩
 walk_at "rd"
 obtain ⟨dx2,fs2,hx2,hl2⟩:=t.at "truths" (by decide +kernel) (by decide +kernel) (by decide +kernel) (by decide +kernel) (by decide +kernel) (by decide +kernel)
 refine iX ?_
 walk_at "rd"
 refine ⟨x,dx2,fs2,rfl,hx2,hl2,?_⟩
 walk_at "rd"
 refine ⟨M,x,pv,pe,T,v,s,rfl,t,hS,hok,hw,fun p1 H1 hp1 s1 e1=>?_⟩
 walk_at "rd"
 refine ⟨M,x,pv,pe,tp,p1,T,g,_,_,rfl,t.same s1,s1 _ _ et,hg,e1,t.off hp1,BG _ _,tU _ _,hds,fun p2 Hm H2 k2 t2 hp2 s2 e2=>?_⟩
 walk_at "rd"
 exact q p2 Hm H2 ((Kp.of s1).trans k2) t2 hp2 s2 e2
noncomputable def m9 (w:List Nat) (h:Int) (ns:List Int):IA:=(ns.filter fun c=>decide (wAt w c=h)).min?
theorem GO (w:List Nat) (h:Int) (ns:List Int):sk w h ns (m9 w h ns):=by
 unfold m9
 cases e:(ns.filter fun c=>decide (wAt w c=h)).min? with
 | none=>
  rw [List.min?_eq_none_iff] at e
  refine .inl ⟨rfl,fun c hc z=>?_⟩
  have:c∈ns.filter fun c=>decide (wAt w c=h):=Pp.mpr ⟨hc,decide_eq_true z⟩
  rw [e] at this
  cases this
 | some m=>
  rw [List.min?_eq_some_iff] at e
  obtain ⟨h1,h2⟩:=e
  obtain ⟨h3,h4⟩:=Pp.mp h1
  exact .inr ⟨m,rfl,h3,of_decide_eq_true h4,fun d hd z=>h2 d (Pp.mpr ⟨hd,decide_eq_true z⟩)⟩
noncomputable def fO (ws:List (List Nat)) (h:Int) (ns:List Int):List IA:=ws.map fun w=>m9 w h ns
noncomputable def TM.show (T:TM) (i:Nat) (h:Int) (ns:List Int):TM:=T.learn [i] (fO T.ws h ns) ((fO T.ws h ns).map iaR)
noncomputable def lW (_:Fg) (G:GF):Sp:=fun vs H Q _=>∃ (M:List Addr) (x pv pe l:Addr) (T:TM) (i:Nat) (h:Int) (ns:List Int),vs=[.ref x,.int i,.int h,.ref l]/\Tb G M H x pv pe T/\H l=some (.lst (ns.map V.int))/\i < T.k/\0<=h/\h<=T.k/\ns.length < 64/\(∀ n∈ns,0<=n/\n < T.c)/\T.ds.length < 1000/\
 Tld G M H x pv pe (T.show i h ns) ((fO T.ws h ns).map iaR) Q
noncomputable def jR (K:Fg) (G:GF):TS:=(ap (dG (av (cM K) [] E0 (ac (av (dI K) [] E0 (ac (aa 1) (ac (gb K (aa 0) "hands") ag))) (ac (tC (.str "this is no hand")) ag))))
 (ap (dG (av (cM K) [] E0 (ac (av (dI K) [] E0 (ac (aa 2) (ac (tOp (rI0 fun i j=>.int (i + j)) (gb K (aa 0) "hands") (tC (.int 1))) ag))) (ac (tC (.str "this is no holder")) ag))))
 (ap (dG (av (cM K) [] E0 (ac (av (m8 K) [] E0 (ac (aa 3) (ac (gb K (aa 0) "cards") ag))) (ac (tC (.str "this is no list of cards")) ag))))
 (ap (aH (vy K (ac (aa 3) ag)) (aj 4))
 (aJ (gd G.Table "learn" (iz K G) [] E0 (aa 0) (ac (dL (ac (aa 1) ag)) (ac (bu (cc K (gb K (aa 0) "dealt")) (fun _ _ _ _=>(aj 0)) (fun _ _ _ _=>aV) (fun _ _ _ _=>(av (lT K) [] E0 (ac (aa 0) (ac (aa 1) (ac (aa 2) ag))))) [none,some 2,some 4]) ag))))))))
noncomputable abbrev BZ:List Str:=["self","hand","holder","some","rising"]
theorem zQ {K:Fg} {G:GF} (ct:sg K G.Table) {vs:List V} {H:Hp} {Q:VK} {E:XK} (h:lW K G vs H Q E):jR K G { nx:=fun _ H'=>Q .non H',rt:=Q } (start BZ vs) H:=by
 obtain ⟨M,x,pv,pe,l,T,i,h,ns,rfl,t,el,hi,h0,h1,hns,hnb,hds,q⟩:=h
 obtain ⟨dx,pd,ps,qs,es,X⟩:=t.ex
 have n2:=t.ok.n2
 show jR K G _ [some _,some _,some _,some _,none] _
 unfold jR
 walk_at "rd"
 refine fm ?_
 walk_at "rd"
 refine ⟨x,G.Table,dx,_,_,rfl,X.hx,ct.cl,ct.n4,rfl,?_⟩
 walk_at "rd"
 refine ⟨(i:Int),(T.k:Int),rfl,?_⟩
 rw [hZ (by omega) (by omega)]
 walk_at "rd"
 refine ⟨_,rfl,?_⟩
 walk_at "rd"
 refine fm ?_
 walk_at "rd"
 refine ⟨x,G.Table,dx,_,_,rfl,X.hx,ct.cl,ct.n4,rfl,?_⟩
 walk_at "rd"
 refine ⟨h,(T.k:Int) + 1,rfl,?_⟩
 rw [hZ (by omega) (by omega)]
 walk_at "rd"
 refine ⟨_,rfl,?_⟩
 walk_at "rd"
 refine fm ?_
 walk_at "rd"
 refine ⟨x,G.Table,dx,_,_,rfl,X.hx,ct.cl,ct.n2,rfl,?_⟩
 walk_at "rd"
 refine ⟨l,ns,(T.c:Int),rfl,el,by omega,hnb,fun H1 s1=>?_⟩
 walk_at "rd"
 refine ⟨_,rfl,?_⟩
 walk_at "rd"
 refine GL ?_
 walk_at "rd"
 refine ⟨l,ns,rfl,SqL.of (s1 _ _ el),hns,fun rp H2 ms hrp s2 e2 pw mm=>?_⟩
 have s12:=s1.trans s2
 have t2:=t.same s12
 walk_at "rd"
 obtain ⟨dx1,fs1,hx1,hl1⟩:=t2.at "learn" (by decide +kernel) (by decide +kernel) (by decide +kernel) (by decide +kernel) (by decide +kernel) (by decide +kernel)
 refine iX ?_
 walk_at "rd"
 refine ⟨x,dx1,fs1,rfl,hx1,hl1,?_⟩
 walk_at "rd"
 refine ⟨by simp [M8],fun tp H3 htp s3 e3=>?_⟩
 walk_at "rd"
 refine fm ?_
 walk_at "rd"
 have s13:=s12.trans s3
 refine ⟨x,G.Table,dx,_,_,rfl,s13 _ _ X.hx,ct.cl,ct.n1,rfl,?_⟩
 obtain ⟨rs,er,hr⟩:=X.dl.same' s13
 have lr:rs.length=T.n:=NG hr
 refine cF (rs.map V.ref) (SqL.of er) (by rw [MY]; omega) (fun j acc _=>acc=(fO (T.ws.take j) h ns).map iaR) (fun H' _=>rfl) ?_ ?_
 ·rintro p' hp' C s' H' fp j xx acc H6 hxx ⟨s6,e6,l6,rfl⟩
  obtain ⟨b',hb',rfl⟩:=mY hxx
  obtain ⟨w,hwi,ew⟩:=bx hr hb'
  have hw1:=t.ok.cards w (M9 hwi)
  walk_at "rd"
  refine ⟨b',rp,w,h,ms,rfl,s6 _ _ ew,s6 _ _ (s3 _ _ e2),pw,fun c hc=>by rw [hw1]; exact hnb c ((mm c).mp hc),fun a ha=>?_⟩
  have ea:a=m9 w h ns:=ha.uniq mm (GO w h ns)
  subst ea
  refine bf.put hp' (fun _ _ _ _ r _=>r) s6 e6 l6 ?_
  rw [b9 hwi]
  unfold fO
  rw [Nr,Nr]
  rfl
 ·rintro pl acc H6 hpl s6 e6 rfl
  rw [MY,lr,show T.n=T.ws.length from rfl,NI] at e6
  walk_at "rd"
  have s16:=s13.trans s6
  refine ⟨M,x,pv,pe,tp,pl,T,[i],fO T.ws h ns,_,rfl,t.same s16,s6 _ _ e3,fun k hk=>by rw [M0.mp hk]; exact hi,e6,t.off (s13.free hpl),by rw [PJ]; exact Pd fun a _=>Mx a,by unfold fO; rw [MY]; rfl,hds,fun p2 Hm H7 k7 t7 hp2 s7 e7=>?_⟩
  walk_at "rd"
  exact q p2 Hm H7 ((Kp.of s16).trans k7) t7 hp2 s7 e7
end
section
variable {σ:St} {H:Hp} {Q:VK} {a:Addr} {kvs:List (Key×V)} {i:Int} {v:V}
end
section
variable {g:CF TG} {tt:CF TT} {te:CF TE} {σ₀:St} {Q:VK} {H:Hp}
end
theorem DD {H:Hp} {Q:VK} {l:Addr} {xs:List V} (e:H l=some (.lst xs)) (h:∀ H',Off l H H'->H' l=some (.lst [])->Q .non H'):v2 (.ref l) [] H Q:=⟨l,xs,rfl,rfl,e,h _ ij az⟩
section
open KF
noncomputable def d3 (M:List Addr) (H:Hp) (lv:Addr) (vw:List (List Nat)):Prop:=∃ us:List Addr,H lv=some (.lst (us.map V.ref))/\Paired (fun (u:Addr) (v:List Nat)=>H u=some (.lst (au v))/\u∉M) us vw
theorem d3.kp {M N:List Addr} {H H':Hp} {lv:Addr} {vw:List (List Nat)} (h:d3 M H lv vw) (k:Kp N H H') (hn:∀ b∈N,b∈M) (n:lv∉N):d3 M H' lv vw:=let ⟨us,e,q⟩:=h; ⟨us,k.lst n e,Paired.mapP q fun _ _ ⟨z1,z2⟩=>⟨k.lst (fun y=>z2 (hn _ y)) z1,z2⟩⟩
theorem d3.same {M:List Addr} {H H':Hp} {lv:Addr} {vw:List (List Nat)} (h:d3 M H lv vw) (s:am H H'):d3 M H' lv vw:=h.kp (N:=[]) (Kp.of s) (fun _ z=>nomatch z) (fun z=>nomatch z)
theorem d3.views {M:List Addr} {H:Hp} {lv:Addr} {vw:List (List Nat)} (h:d3 M H lv vw):ee H lv vw:=let ⟨us,e,q⟩:=h; ⟨us,e,Paired.mapP q fun _ _ z=>z.1⟩
theorem d3.get {M:List Addr} {H:Hp} {lv:Addr} {vw:List (List Nat)} (h:d3 M H lv vw) {i:Nat} (hi:i < vw.length):∃ (us:List Addr) (u:Addr),H lv=some (.lst (us.map V.ref))/\us.length=vw.length/\atI (us.map V.ref) (i:Int)=some (.ref u)/\H u=some (.lst (au (vw.getD i []))):=by
 obtain ⟨us,e,q⟩:=h
 have lu:us.length=vw.length:=NG q
 have hu:us[i]?=some (us[i]'(by omega)):=MZ _
 obtain ⟨v,hv,h1,_⟩:=bx q hu
 exact ⟨us,_,e,lu,cP (by rw [Ng,hu]; rfl),by rw [gK hv]; exact h1⟩
theorem d3.set {M:List Addr} {H:Hp} {lv nl:Addr} {vw:List (List Nat)} {us:List Addr} {v:List Nat} (h:d3 M H lv vw) (hm:lv∈M) (e:H lv=some (.lst (us.map V.ref))) (i:Nat) (en:H nl=some (.lst (au v))) (nn:nl∉M):d3 M (upd H lv (.lst ((us.map V.ref).set i (.ref nl)))) lv (vw.set i v):=by
 obtain ⟨us',e',q⟩:=h
 rw [e] at e'
 have eu:us=us':=by
  have:=HO.lst.inj (Nf e')
  exact List.map_inj_right (fun _ _ z=>V.ref.inj z) |>.mp this
 subst eu
 have ne:∀ {b:Addr},b∉M->b≠lv:=fun n z=>n (z ▸ hm)
 refine ⟨us.set i nl,by rw [az,UC],wQ (Paired.mapP q fun _ _ ⟨z1,z2⟩=>⟨by rw [aS (ne z2)]; exact z1,z2⟩) ⟨by rw [aS (ne nn)]; exact en,nn⟩ i⟩
theorem Iz {n:Nat} {v:List Nat} (hw:Within n v) (hc:bm v=v) (i:Nat) (hi:i < n):v.getD (v.getD i 0) 0=v.getD i 0:=by
 obtain ⟨h1,h2⟩:=dH hw hi
 have:=(GD hc h1).1
 rw [h1] at this
 rw [Ni (i:=v.getD i 0),<-this]
 rfl
theorem d3.tab {M:List Addr} {H:Hp} {lv pd:Addr} {T:TM} (h:d3 M H lv T.vw) (ok:T.Ok) (d:ba H pd T.ws):Table H pd lv T.c T.n T.ws T.vw:=
 ⟨d,rfl,ok.cards,by have:=ok.n2; omega,by have:=ok.pk.c12; omega,h.views,ok.win,by rw [ok.len]; have:=ok.pk.l5; show T.ss.length<=1000; omega⟩
theorem B5 {c:Nat} {ss:List Nat} (h:ss.sum<=c):1<=KM.cA c ss:=by
 have:=KM.qa ss c h
 have f:=KM.g9 c
 rcases Qi (KM.cA c ss) with z | z
 ·rw [z,Nat.zero_mul] at this; omega
 ·exact z
theorem TM.Ok.n1 {T:TM} (h:T.Ok):1<=T.n:=by
 show 1<=(KM.bQ _ _).length
 rw [KM.kU h.pk.sum]
 exact B5 h.pk.sum
theorem zy {α β:Type} {xs:List α} {ys:List β} {i:Nat} {x:α} {y:β} (hx:xs[i]?=some x) (hy:ys[i]?=some y):(xs.zip ys).take (i + 1)=(xs.zip ys).take i++[(x,y)]:=b9 (by rw [Pn]; exact ⟨hx,hy⟩)
noncomputable def fP (_:Fg) (G:GF):Sp:=fun vs H Q _=>∃ (M:List Addr) (x pv pe lv:Addr) (T:TM),vs=[.ref x,.ref lv]/\Tb G M H x pv pe T/\d3 M H lv T.vw/\∀ H',am H H'->Q (.bl true) H'
noncomputable def ja (K:Fg) (G:GF):TS:=(ap (cU (iZ aQ K (ac (aa 1) ag)) (cZ K 2 (aW (aj 2) (aW (aj 3) cY))) (ap (aH (gd G.Table "view" (lU K G) [] E0 (aa 0) (ac (aa 2) ag)) (aj 4))
 (ap (bp (tOr (dq (tB (av (kr K) [] E0 (ac (aa 4) ag)))) (be (tOp (mX K true) (aa 4) (aa 3)))) (aJ (tC (.bl false))) aY)
 (dG (Ef K "list" v2 (aa 4))))))
 (aJ (tC (.bl true))))
noncomputable abbrev zR:List Str:=["_law_table","_law_views","_law_hand","_law_view","_law_seen"]
theorem yB {K:Fg} {G:GF} {vs:List V} {H:Hp} {Q:VK} {E:XK} (h:fP K G vs H Q E):ja K G { nx:=fun _ H'=>Q .non H',rt:=Q } (start zR vs) H:=by
 obtain ⟨M,x,pv,pe,lv,T,rfl,t,L,q⟩:=h
 have n2:=t.ok.n2
 obtain ⟨us,el,hu⟩:=id L
 have lu:us.length=T.vw.length:=NG hu
 show ja K G _ [some _,some _,none,none,none] _
 unfold ja
 walk_at "rd"
 refine mJ (S:=aQ) (us.map V.ref) (SqL.of el) (fun i σ H3=>∃ (u2 u3 u4:Option V),σ=[some (.ref x),some (.ref lv),u2,u3,u4]/\am H H3) ⟨none,none,none,rfl,am.refl _⟩ ?_ ?_ ?_
 ·rintro i σ H3 hi ⟨u2,u3,u4,rfl,s3⟩
  exact SqL.of (s3 _ _ el)
 ·rintro i y TT σ H3 H4 hy ⟨u2,u3,u4,rfl,s3⟩ hTT s4 e4
  obtain ⟨u,hui,rfl⟩:=mY hy
  obtain ⟨v,hv,eu,_⟩:=bx hu hui
  have hi:i < T.k:=by rw [<-t.ok.len]; exact (M4.mp hv).1
  have s34:=s3.trans s4
  have t4:=t.same s34
  have hvl:=(t.ok.win v (M9 hv)).1
  walk_at "rd"
  refine dM (SqT.of e4) ?_
  walk_at "rd"
  obtain ⟨dx1,fs1,hx1',hl1⟩:=t4.at "view" (by decide +kernel) (by decide +kernel) (by decide +kernel) (by decide +kernel) (by decide +kernel) (by decide +kernel)
  refine iX ?_
  walk_at "rd"
  refine ⟨x,dx1,fs1,rfl,hx1',hl1,?_⟩
  walk_at "rd"
  refine ⟨M,x,pv,pe,T,i,rfl,t4,hi,fun pw H5 hpw s5 e5=>?_⟩
  rw [gK hv] at e5
  walk_at "rd"
  refine ⟨pw,v.map fun (s:Nat)=>((s:Nat):Int),rfl,by rw [<-dk]; exact e5,by rw [MY]; omega,fun H6 s6=>?_⟩
  walk_at "rd"
  have s06:=(s34.trans s5).trans s6
  refine Dr 1 (by decide) (wB (SqL.of (s6 _ _ e5)) (SqL.of (s06 _ _ eu)) (by rw [dk]; exact zw _)) ?_
  walk_at "rd"
  refine ⟨p6 (s6 _ _ e5),?_⟩
  walk_at "rd"
  refine DD (s6 _ _ e5) fun H7 o7 e7=>?_
  exact ⟨_,_,_,rfl,s06.off (s34.free hpw) o7⟩
 ·rintro σ H3 ⟨u2,u3,u4,rfl,s3⟩
  walk_at "rd"
  exact q H3 s3
end
section
variable {K:Fg} {vs:List V} {H:Hp} {Q:VK} {E:XK}
open KF
theorem Kq {n:Nat} {P P':Nat->Prop}:Eg (blV n P) (blV n P') (fun j=>@decide (P j↔P' j) (NZ _)):=by
 intro j x y hx hy
 obtain ⟨hj,rfl⟩:=eI hx
 obtain ⟨_,rfl⟩:=eI hy
 refine .inl ⟨rfl,rfl,?_⟩
 by_cases a:P j <;> by_cases b:P' j <;> (delta eqV; simp [a,b])
theorem IB {n:Nat} {P P':Nat->Prop}:gP (blV n P) (blV n P') (fun j=>@decide (P j↔P' j) (NZ _))=@decide (∀ i,i < n->(P i↔P' i)) (NZ _):=by
 unfold gP
 rw [br,br,PH]
 by_cases h:∀ i,i < n->(P i↔P' i)
 ·rw [<-cdt h]
  simp
  intro i hi
  exact h i hi
 ·rw [<-cdf h,beq_self_eq_true,Bool.and_true,<-Vl,SE]
  intro z
  apply h
  intro i hi
  exact @of_decide_eq_true _ (NZ _) (z i (OT.mpr hi))
theorem LP {K:Fg} {H:Hp} {Q:VK} {a b:Addr} {n:Nat} {P P':Nat->Prop} (h1:SqL K H a (blV n P)) (h2:SqL K H b (blV n P')) (h:Q (.bl (@decide (∀ i,i < n->(P i↔P' i)) (NZ _))) H):jz (SqL K) false (.ref a) (.ref b) H Q:=
 ⟨a,b,_,_,_,rfl,rfl,h1,h2,Kq,by rw [IB]; exact h⟩
section
open Classical
theorem B6 {K:Fg} {H:Hp} {a b:Addr} {n:Nat} {P P':Nat->Prop} {Q:VK} (ea:H a=some (.lst (blV n P))) (eb:H b=some (.lst (blV n P'))) (hn:n<=100000) (q:∀ p H',H p=none->am H H'->H' p=some (.lst (blV n fun i=>P i/\P' i))->Q (.ref p) H'):
  ∃ a' b' xs' ys',[V.ref a,V.ref b]=[.ref a',.ref b']/\aQ.Sq K H a' xs'/\aQ.Sq K H b' ys'/\∀ p,H p=none->∃ W:Nat->Nat->List V->Hp->Prop,(∃ m,W 0 m [] (upd H p (.lst [])))/\∀ (C:Addr) (s':Shared) (H':Hp) (fp:List Addr),bO (Itz aQ aQ K a' b') (cZ K 2 (aW (aj 0) (aW (aj 1) cY))) aV (ie (aa 0) (aa 1)) [none,none] p Q W:=by
 refine mS (g:=fun _ _ _ _=>cZ K 2 (aW (aj 0) (aW (aj 1) cY))) (tt:=fun _ _ _ _=>aV) (te:=fun _ _ _ _=>ie (aa 0) (aa 1)) (S1:=aQ) (S2:=aQ) _ _ (SqL.of ea) (SqL.of eb) (fun H' s=>s.seq (SqL.of ea)) (fun H' s=>s.seq (SqL.of eb)) (by rw [br]; omega) (fun i acc _=>acc=blV i fun i=>P i/\P' i) (fun _ _=>rfl) ?_ ?_
 ·rintro p hp C s' H' fp i x y T acc H2 H3 hx hy ⟨s2,e2,l2,rfl⟩ hT s3 e3 e4
  obtain ⟨hi,rfl⟩:=eI hx
  obtain ⟨_,rfl⟩:=eI hy
  refine dM (SqT.of e3) ?_
  walk_at "rd"
  by_cases h:P i
  ·rw [decide_eq_true h]
   refine lL ?_
   walk_at "rd"
   refine bf.put hp (fun _ _ _ _ r _=>r) (s2.trans s3) e4 l2 ?_
   rw [cb]
   congr 3
   exact decide_eq_decide.mpr ⟨fun q=>⟨h,q⟩,fun q=>q.2⟩
  ·rw [decide_eq_false h]
   refine lK ?_
   refine bf.put hp (fun _ _ _ _ r _=>r) (s2.trans s3) e4 l2 ?_
   rw [cb]
   congr 3
   exact cdf fun q=>h q.1
 ·rintro p acc H2 hp s2 e2 rfl
  rw [br,br,PH] at e2
  exact q _ _ hp s2 e2
theorem My {K:Fg} {H:Hp} {a b:Addr} {n:Nat} {P P':Nat->Prop} {Q:VK} (ea:H a=some (.lst (blV n P))) (eb:H b=some (.lst (blV n P'))) (hn:n<=100000) (q:∀ p H',H p=none->am H H'->H' p=some (.lst (blV n fun i=>P i\/P' i))->Q (.ref p) H'):
  ∃ a' b' xs' ys',[V.ref a,V.ref b]=[.ref a',.ref b']/\aQ.Sq K H a' xs'/\aQ.Sq K H b' ys'/\∀ p,H p=none->∃ W:Nat->Nat->List V->Hp->Prop,(∃ m,W 0 m [] (upd H p (.lst [])))/\∀ (C:Addr) (s':Shared) (H':Hp) (fp:List Addr),bO (Itz aQ aQ K a' b') (cZ K 2 (aW (aj 0) (aW (aj 1) cY))) aV (yg (aa 0) (aa 1)) [none,none] p Q W:=by
 refine mS (g:=fun _ _ _ _=>cZ K 2 (aW (aj 0) (aW (aj 1) cY))) (tt:=fun _ _ _ _=>aV) (te:=fun _ _ _ _=>yg (aa 0) (aa 1)) (S1:=aQ) (S2:=aQ) _ _ (SqL.of ea) (SqL.of eb) (fun H' s=>s.seq (SqL.of ea)) (fun H' s=>s.seq (SqL.of eb)) (by rw [br]; omega) (fun i acc _=>acc=blV i fun i=>P i\/P' i) (fun _ _=>rfl) ?_ ?_
 ·rintro p hp C s' H' fp i x y T acc H2 H3 hx hy ⟨s2,e2,l2,rfl⟩ hT s3 e3 e4
  obtain ⟨hi,rfl⟩:=eI hx
  obtain ⟨_,rfl⟩:=eI hy
  refine dM (SqT.of e3) ?_
  walk_at "rd"
  by_cases h:P i
  ·rw [decide_eq_true h]
   refine lL ?_
   refine bf.put hp (fun _ _ _ _ r _=>r) (s2.trans s3) e4 l2 ?_
   rw [cb]
   congr 3
   exact cdt (.inl h)
  ·rw [decide_eq_false h]
   refine lK ?_
   walk_at "rd"
   refine bf.put hp (fun _ _ _ _ r _=>r) (s2.trans s3) e4 l2 ?_
   rw [cb]
   congr 3
   exact decide_eq_decide.mpr ⟨.inr,fun q=>q.resolve_left h⟩
 ·rintro p acc H2 hp s2 e2 rfl
  rw [br,br,PH] at e2
  exact q _ _ hp s2 e2
end
noncomputable def Rep (n:Nat) (v:List Nat):Prop:=∀ i,i < n->v.getD (v.getD i 0) 0=v.getD i 0
theorem GP {K:Fg} {H:Hp} {d:Addr} {w:List Nat} {h:Int} {Q:VK} (e:H d=some (.tup (au w))) (hl:w.length<=1000) (q:∀ p H',H p=none->am H H'->H' p=some (.lst ((eQ w h).map V.int))->Q (.ref p) H'):
  ∃ a' xs',[V.ref d]=[.ref a']/\ek.Sq K H a' xs'/\∀ p,H p=none->∃ W:Nat->Nat->List V->Hp->Prop,(∃ m,W 0 m [] (upd H p (.lst [])))/\∀ (C:Addr) (s':Shared) (H':Hp) (fp:List Addr),bO (Ite ek K a') (cZ K 2 (aW (aj 0) (aW (aj 1) cY))) (be (tOp rEq (aa 1) (aa 2))) (aa 0) [none,none,some (.int h)] p Q W:=by
 rw [dk] at e
 refine Ds (g:=fun _ _ _ _=>cZ K 2 (aW (aj 0) (aW (aj 1) cY))) (tt:=fun _ _ _ _=>be (tOp rEq (aa 1) (aa 2))) (te:=fun _ _ _ _=>aa 0) (S:=ek) _ (SqT.of e) (fun H' s=>s.tup (SqT.of e)) (by rw [MY,MY]; omega) (fun i acc _=>acc=(oI (w.map fun (s:Nat)=>((s:Nat):Int)) h i).map V.int) (fun H' _=>rfl) ?_ ?_
 ·rintro r hr C s' H' fp i x T acc H2 H3 hx ⟨s2,e2,l2,rfl⟩ hT s3 e3 e4
  obtain ⟨z,hz,rfl⟩:=rT hx
  refine dM (SqT.of e3) ?_
  walk_at "rd"
  have eu:=rS (w.map fun (s:Nat)=>((s:Nat):Int)) h i
  refine dy (fun c=>?_) (fun c=>?_)
  ·walk_at "rd"
   refine bf.put hr (fun _ _ _ _ r _=>r) (s2.trans s3) e4 l2 ?_
   rw [eu,if_pos (by rw [hz,c]),Nr]
   rfl
  ·refine bf.skip (s2.trans s3) e4 l2 ?_
   rw [eu,if_neg (by rw [hz]; intro z; exact c (Nf z)),OY]
 ·rintro p acc H2 hp s2 e2 rfl
  rw [MY,MY] at e2
  exact q _ _ hp s2 e2
noncomputable def cG (_:Fg):Sp:=fun vals H Q _=>∃ (a b:Addr) (n:Nat) (P:Nat->Prop),vals=[.ref a,.ref b]/\H a=some (.lst (blV n P))/\H b=some (.lst (blV n P))/\n<=100000/\∀ H',am H H'->Q (.bl true) H'
noncomputable def fo (K:Fg):TS:=(ap (bp (tOr (dq (tB (tCB (iN K) (ac (aa 0) (ac (tC (.ty "list")) ag))))) (be (tOp (mX K true) (aa 0) (aa 1)))) (aJ (tC (.bl false))) aY)
 (aJ (tOp (jz (SqL K) false) (bu (cc K (aa 0)) (fun _ _ _ _=>(aj 0)) (fun _ _ _ _=>(dq (tB (tCB (iN K) (ac (aa 0) (ac (tC (.ty "bool")) ag)))))) (fun _ _ _ _=>(aa 0)) [none]) (dZ ag))))
theorem rg (h:cG K vs H Q E):fo K { nx:=fun _ H'=>Q .non H',rt:=Q } (start ["_law_found","_law_due"] vs) H:=by
 obtain ⟨a,b,n,P,rfl,ea,eb,hn,q⟩:=h
 show fo K _ [some _,some _] _
 unfold fo
 walk_at "rd"
 refine gQ (.lst ea) (kS K) ?_
 walk_at "rd"
 refine Dr 1 (by decide) (wB (SqL.of ea) (SqL.of eb) (Im n P)) ?_
 walk_at "rd"
 refine cF _ (SqL.of ea) (by rw [br]; omega) (fun i acc _=>acc=[]) (fun _ _=>rfl) ?_ ?_
 ·rintro p hp C s' H' fp i x acc H2 hx ⟨s2,e2,l2,r2⟩
  obtain ⟨hi,rfl⟩:=eI hx
  subst r2
  walk_at "rd"
  refine gQ (.bl _) (zE K) ?_
  walk_at "rd"
  exact bf.skip s2 e2 l2 rfl
 ·rintro p acc H2 hp s2 e2 rfl
  walk_at "rd"
  refine ⟨by simp [M8],fun p3 H3 hp3 s3 e3=>?_⟩
  refine Jy (ns:=[]) (ms:=[]) (SqL.of (s3 _ _ e2)) (SqL.of e3) ?_
  exact q _ (s2.trans s3)
end
section
variable {K:Fg} {vs:List V} {H:Hp} {Q:VK} {E:XK}
open KF
section
open Classical
noncomputable def fQ (v:List Nat) (L:Nat->Prop) (i:Nat):MK->Option V:=fun k=>if ∃ j,j < i/\L j/\k=.inl (some ((v.getD j 0:Nat):Int)) then some (.bl true) else none
theorem wS (v:List Nat) (L:Nat->Prop) (k:MK):none=fQ v L 0 k:=by
 unfold fQ
 rw [if_neg (fun ⟨j,h,_⟩=>absurd h (by omega))]
theorem wT {v:List Nat} {L:Nat->Prop} {i:Nat} (h:¬ L i) (k:MK):fQ v L i k=fQ v L (i + 1) k:=by
 unfold fQ
 have e:(∃ j,j < i/\L j/\k=.inl (some ((v.getD j 0:Nat):Int)))↔∃ j,j < i + 1/\L j/\k=.inl (some ((v.getD j 0:Nat):Int)):=by
  constructor
  ·rintro ⟨j,h1,h2⟩; exact ⟨j,by omega,h2⟩
  ·rintro ⟨j,h1,h2,h3⟩
   by_cases c:j=i
   ·rw [c] at h2; exact absurd h2 h
   ·exact ⟨j,by omega,h2,h3⟩
 by_cases q:∃ j,j < i/\L j/\k=.inl (some ((v.getD j 0:Nat):Int))
 ·rw [if_pos q,if_pos (e.mp q)]
 ·rw [if_neg q,if_neg (fun z=>q (e.mpr z))]
theorem zz {v:List Nat} {L:Nat->Prop} {i:Nat} (h:L i) (k:MK):i3 (fQ v L i) (.inl (some ((v.getD i 0:Nat):Int))) (.bl true) k=fQ v L (i + 1) k:=by
 unfold i3 fQ
 by_cases c:k=.inl (some ((v.getD i 0:Nat):Int))
 ·rw [if_pos c,if_pos ⟨i,by omega,h,c⟩]
 ·rw [if_neg c]
  by_cases q:∃ j,j < i/\L j/\k=.inl (some ((v.getD j 0:Nat):Int))
  ·rw [if_pos q,if_pos (let ⟨j,h1,h2⟩:=q; ⟨j,by omega,h2⟩)]
  ·rw [if_neg q,if_neg]
   rintro ⟨j,h1,h2,h3⟩
   by_cases d:j=i
   ·rw [d] at h3; exact c h3
   ·exact q ⟨j,by omega,h2,h3⟩
theorem IC {v:List Nat} {P:Nat->Prop} {n i:Nat}:(fQ v (fun j=>¬ P j) n (.inl (some ((v.getD i 0:Nat):Int)))).isNone=decide (KN n v P i):=by
 unfold fQ
 by_cases q:KN n v P i
 ·rw [if_neg]
  ·exact cdt q
  ·rintro ⟨j,h1,h2,h3⟩
   injection h3 with h3
   injection h3 with h3
   exact h2 (q j h1 (by omega))
 ·rw [if_pos]
  ·exact cdf q
  ·obtain ⟨j,h⟩:=T2.mp q
   obtain ⟨h1,h⟩:=Sl.mp h
   obtain ⟨h2,h3⟩:=Sl.mp h
   exact ⟨j,h1,h3,by rw [h2]⟩
noncomputable def jS (_:Fg):Sp:=fun vs H Q _=>∃ (a b:Addr) (n:Nat) (v:List Nat) (P:Nat->Prop),vs=[.ref a,.ref b]/\H a=some (.lst (au v))/\H b=some (.lst (blV n P))/\Within n v/\n<=100000/\
 ∀ p H',H p=none->am H H'->H' p=some (.lst (blV n (KN n v P)))->Q (.ref p) H'
noncomputable def ll (K:Fg):TS:=(ap (aH oX (aj 2))
 (ap (cU (iZ aQ K (ac (aa 1) ag)) (cZ K 2 (aW (aj 3) (aW (aj 4) cY))) (bp (dq (tB (aa 4))) (aH (tC (.bl true)) (kh (aa 2) (tOp (ca K) (aa 0) (aa 3)) wm)) aY))
 (aJ (bu (cc K (aa 0)) (fun _ _ _ _=>(aj 0)) (fun _ _ _ _=>aV) (fun _ _ _ _=>(tOp (vm true) (aa 0) (aa 1))) [none,some 2]))))
theorem B7 {K:Fg} {H:Hp} {a d:Addr} {n m:Nat} {v:List Nat} {P:Nat->Prop} {Q:VK} (ea:H a=some (.lst (au v))) (hv:Within n v) (hn:n<=100000) (dx:Dx H d false (fQ v (fun j=>¬ P j) n) m) (q:∀ p H',H p=none->am H H'->H' p=some (.lst (blV n (KN n v P)))->Q (.ref p) H'):
  ∃ a',V.ref a=.ref a'/\(∃ xs,SqL K H a' xs)/\∀ p,H p=none->∃ W:Nat->Nat->List V->Hp->Prop,(∃ m,W 0 m [] (upd H p (.lst [])))/\∀ (C:Addr) (s':Shared) (H':Hp) (fp:List Addr),bO (Itl K a') (aj 0) aV (tOp (vm true) (aa 0) (aa 1)) [none,some (.ref d)] p Q W:=by
 refine cF (g:=fun _ _ _ _=>aj 0) (tt:=fun _ _ _ _=>aV) (te:=fun _ _ _ _=>tOp (vm true) (aa 0) (aa 1)) (au v) (SqL.of ea) (by rw [aR,hv.1]; omega) (fun i acc _=>acc=blV i (KN n v P)) (fun _ _=>rfl) ?_ ?_
 ·rintro r hr C s' H' fp i x acc H4 hx ⟨s4,e4,l4,rfl⟩
  obtain ⟨z,hz,rfl⟩:=eY hx
  have hi:i < n:=by have:=(M4.mp hz).1; rw [hv.1] at this; exact this
  obtain ⟨hz',hzn⟩:=dH hv hi
  rw [hz] at hz'
  have ez:z=v.getD i 0:=Nf hz'
  walk_at "rd"
  refine Bs (dx.same s4) (k:=.inl (some (z:Int))) rfl rfl ?_
  refine bf.put hr (fun _ _ _ _ r _=>r) s4 e4 l4 ?_
  rw [cb,ez,IC]
 ·rintro r acc H4 hr s4 e4 rfl
  rw [aR,hv.1] at e4
  exact q _ _ hr s4 e4
theorem B8 (h:jS K vs H Q E):ll K { nx:=fun _ H'=>Q .non H',rt:=Q } (start ["_law_view","_law_truths","_law_lacks","_law_place","_law_truth"] vs) H:=by
 obtain ⟨a,b,n,v,P,rfl,ea,eb,hv,hn,q⟩:=h
 show ll K _ [some _,some _,none,none,none] _
 unfold ll
 walk_at "rd"
 refine tL false fun d H1 hd s1 dx1=>?_
 walk_at "rd"
 refine mJ (S:=aQ) (blV n P) (SqL.of (s1 _ _ eb)) (fun i σ H3=>∃ (u1 u2:Option V),σ=[some (.ref a),some (.ref b),some (.ref d),u1,u2]/\am H H3/\Dx H3 d false (fQ v (fun j=>¬ P j) i) i) ?_ ?_ ?_ ?_
 ·exact ⟨_,_,rfl,s1,dx1.congr (wS _ _)⟩
 ·rintro i σ H3 hi ⟨u1,u2,rfl,s3,dx3⟩
  exact SqL.of (s3 _ _ eb)
 ·rintro i x T σ H3 H4 hx ⟨u1,u2,rfl,s3,dx3⟩ hT s4 eT
  obtain ⟨hi,rfl⟩:=eI hx
  refine dM (SqT.of eT) ?_
  have dx4:=dx3.same s4
  have s34:=s3.trans s4
  walk_at "rd"
  by_cases h:P i
  ·rw [decide_eq_true h]
   walk_at "rd"
   exact ⟨_,_,rfl,s34,(dx4.congr (wT (fun z=>z h))).le (Pf i)⟩
  ·rw [decide_eq_false h]
   walk_at "rd"
   refine bI (SqL.of (s34 _ _ ea)) (jl (dH hv hi).1) ?_
   refine Bt dx4 (k:=.inl (some ((v.getD i 0:Nat):Int))) rfl rfl (by rw [M8]; omega) fun H5 o5 dx5=>?_
   exact ⟨_,_,rfl,s34.off hd o5,dx5.congr (zz h)⟩
 ·rintro σ H3 ⟨u1,u2,rfl,s3,dx3⟩
  rw [br] at dx3
  walk_at "rd"
  exact B7 (s3 _ _ ea) hv hn dx3 fun p H4 hp s4 e4=>q p H4 (s3.free hp) (s3.trans s4) e4
noncomputable def jT (_:Fg):Sp:=fun vals H Q _=>∃ (a g b:Addr) (n:Nat) (vs:List (List Nat)) (gs:List Nat) (P:Nat->Prop),vals=[.ref a,.ref g,.ref b]/\ee H a vs/\H g=some (.tup (au gs))/\(∀ k∈gs,k < vs.length)/\H b=some (.lst (blV n P))/\(∀ v∈vs,Within n v)/\n<=100000/\
 ∀ p H',H p=none->am H H'->H' p=some (.lst (blV n fun i=>∀ v∈gs.map (fun h=>vs.getD h []),KN n v P i))->Q (.ref p) H'
noncomputable def lm (K:Fg):TS:=(ap (aH (bu (cc K (aa 2)) (fun _ _ _ _=>(aj 0)) (fun _ _ _ _=>aV) (fun _ _ _ _=>(tC (.bl true))) [none]) (aj 3))
 (ap (cU (rA K (aa 1)) (aj 4) (aH (bu (lM aQ aQ K (ac (aa 3) (ac (av (jS K) [] E0 (ac (tOp (ca K) (aa 0) (aa 4)) (ac (aa 2) ag))) ag))) (fun _ _ _ _=>(cZ K 2 (aW (aj 0) (aW (aj 1) cY)))) (fun _ _ _ _=>aV) (fun _ _ _ _=>(ie (aa 0) (aa 1))) [none,none]) (aj 3)))
 (aJ (aa 3))))
theorem B9 (h:jT K vs H Q E):lm K { nx:=fun _ H'=>Q .non H',rt:=Q } (start ["_law_views_here","_law_group_here","_law_truths","_law_found","_law_hand"] vs) H:=by
 obtain ⟨a,g,b,n,vs,gs,P,rfl,hV,eg,hg,eb,hw,hn,q⟩:=h
 show lm K _ [some _,some _,some _,none,none] _
 unfold lm
 walk_at "rd"
 refine cF (blV n P) (SqL.of eb) (by rw [br]; omega) (fun i acc _=>acc=blV i (fun k=>∀ v∈(gs.take 0).map (fun h=>vs.getD h []),KN n v P k)) (fun _ _=>rfl) ?_ ?_
 ·rintro p hp C s' H' fp i x acc H2 hx ⟨s2,e2,l2,rfl⟩
  walk_at "rd"
  refine bf.put hp (fun _ _ _ _ r _=>r) s2 e2 l2 ?_
  rw [cb]
  congr 3
  exact cdt (fun v hv=>by simp at hv)
 ·rintro p acc H2 hp s2 e2 rfl
  rw [br] at e2
  walk_at "rd"
  refine rO (au gs) (SqT.of (s2 _ _ eg)) (fun i σ H3=>∃ (u1:Option V) (p:Addr),σ=[some (.ref a),some (.ref g),some (.ref b),some (.ref p),u1]/\H p=none/\am H H3/\H3 p=some (.lst (blV n fun k=>∀ v∈(gs.take i).map (fun h=>vs.getD h []),KN n v P k))) ?_ ?_ ?_ ?_
  ·exact ⟨_,p,rfl,hp,s2,e2⟩
  ·rintro i σ H3 _ ⟨u1,p,rfl,hp,s3,e3⟩
   exact SqT.of (s3 _ _ eg)
  ·rintro i x σ H3 hx ⟨u1,p,rfl,hp,s3,e3⟩
   obtain ⟨k,hk,rfl⟩:=eY hx
   walk_at "rd"
   obtain ⟨vr,r,e4,e5,e6,e7⟩:=ju (hV.same s3) (hg k (M9 hk))
   refine bI (SqL.of e4) e5 ?_
   walk_at "rd"
   refine ⟨r,b,n,vs.getD k [],P,rfl,e6,s3 _ _ eb,hw _ e7,hn,fun c H4 hc s4 e8=>?_⟩
   walk_at "rd"
   refine B6 (s4 _ _ e3) e8 hn fun p2 H5 hp2 s5 e9=>?_
   walk_at "rd"
   refine ⟨_,p2,rfl,s3.free (s4.free hp2),(s3.trans s4).trans s5,?_⟩
   rw [e9]
   congr 2
   refine lD fun i _=>?_
   rw [b9 hk,Nr]
   exact ⟨fun h w hw=>(NL.mp hw).elim (h.1 w) fun z=>by rw [M0.mp z]; exact h.2,fun h=>⟨fun w hw=>h w (OL _ hw),h _ (by simp)⟩⟩
  ·rintro σ H3 ⟨u1,p,rfl,hp,s3,e3⟩
   rw [aR,NI] at e3
   walk_at "rd"
   exact q _ _ hp s3 e3
noncomputable def EC (n:Nat) (P:Nat->Prop):Nat:=((Nw n).filter fun i=>decide (P i)).length
theorem LQ {n:Nat} {P P':Nat->Prop} (h:∀ i,i < n->P' i->P i) (ne:¬ ∀ i,i < n->(P' i↔P i)):EC n P' < EC n P:=by
 unfold EC
 have le:∀ l:List Nat,(∀ i∈l,P' i->P i)->(l.filter fun i=>decide (P' i)).length<=(l.filter fun i=>decide (P i)).length:=by
  intro l
  induction l with
  | nil=>intro _; exact M1 _
  | cons x r ih=>
   intro hh
   have i1:=ih fun i hi=>hh i (Nh _ hi)
   by_cases a:P' x
   ·rw [N8 (by simpa using a),N8 (by simpa using hh x (M7 ..) a)]
    simp; omega
   ·rw [Oi (by simpa using a)]
    by_cases b:P x
    ·rw [N8 (by simpa using b)]; simp; omega
    ·rw [Oi (by simpa using b)]; exact i1
 have lt:∀ l:List Nat,(∀ i∈l,P' i->P i)->(∃ i∈l,¬ (P' i↔P i))->(l.filter fun i=>decide (P' i)).length < (l.filter fun i=>decide (P i)).length:=by
  intro l
  induction l with
  | nil=>rintro _ ⟨i,hi,_⟩; simp at hi
  | cons x r ih=>
   intro hh hx
   by_cases c:P' x↔P x
   ·have i1:=ih (fun i hi=>hh i (Nh _ hi)) (by
     obtain ⟨i,hi,z⟩:=hx
     rcases M6.mp hi with rfl | hi
     ·exact absurd c z
     ·exact ⟨i,hi,z⟩)
    by_cases a:P' x
    ·rw [N8 (by simpa using a),N8 (by simpa using c.mp a)]; simp; omega
    ·rw [Oi (by simpa using a),Oi (by simpa using fun b=>a (c.mpr b))]; exact i1
   ·have a:¬ P' x:=fun a=>c ⟨fun _=>hh x (M7 ..) a,fun _=>a⟩
    have b:P x:=Classical.byContradiction fun b=>c ⟨fun z=>absurd z a,fun z=>absurd z b⟩
    rw [Oi (by simpa using a),N8 (by simpa using b)]
    have:=le r fun i hi=>hh i (Nh _ hi)
    simp; omega
 refine lt _ (fun i hi=>h i (OT.mp hi)) ?_
 obtain ⟨i,hi⟩:=T2.mp ne
 obtain ⟨h1,h2⟩:=Sl.mp hi
 exact ⟨i,OT.mpr h1,h2⟩
noncomputable def Ca (n:Nat) (fs:List (List Nat)) (P:Nat->Prop) (i:Nat):Prop:=∀ j,j < n->eF (i6 n fs) i j->P j
theorem ED {n:Nat} {fs:List (List Nat)} {P:Nat->Prop} (hw:∀ v∈fs,Within n v) {v:List Nat} (hv:v∈fs) {i:Nat} (hi:i < n) (h:Ca n fs P i):KN n v (Ca n fs P) i:=fun j hj e k hk c=>by
 obtain ⟨e1,_⟩:=dH (hw v hv) hi
 obtain ⟨e2,_⟩:=dH (hw v hv) hj
 rw [e] at e2
 exact h k hk (.trans (.one ⟨v,hv,hi,e1⟩) (.trans (.symm (.one ⟨v,hv,hj,e2⟩)) c))
theorem ID {n:Nat} {fs:List (List Nat)} {P F:Nat->Prop} (hw:∀ v∈fs,Within n v) (hrep:∀ v∈fs,Rep n v) (hF:∀ i,i < n->F i->P i) (hfix:∀ i,i < n->F i->∀ v∈fs,KN n v F i) {i:Nat} (hi:i < n) (h:F i):Ca n fs P i:=by
 have st:∀ x y,i6 n fs x y->x < n/\y < n/\(F x↔F y):=by
  rintro x y ⟨v,hv,hx,hy⟩
  have hyn:=(hw v hv).2 _ (M9 hy)
  obtain ⟨e1,_⟩:=dH (hw v hv) hx
  rw [hy] at e1
  have ey:y=v.getD x 0:=Nf e1
  have er:v.getD y 0=v.getD x 0:=by rw [ey]; exact hrep v hv x hx
  exact ⟨hx,hyn,fun f=>hfix x hx f v hv y hyn er,fun f=>hfix y hyn f v hv x hx er.symm⟩
 have go:∀ x y,eF (i6 n fs) x y->(x < n/\F x↔y < n/\F y):=by
  intro x y c
  induction c with
  | refl x=>exact VX
  | one h=>
   obtain ⟨h1,h2,h3⟩:=st _ _ h
   exact ⟨fun f=>⟨h2,h3.mp f.2⟩,fun f=>⟨h1,h3.mpr f.2⟩⟩
  | symm _ ih=>exact ih.symm
  | trans _ _ a b=>exact a.trans b
 intro j hj c
 exact hF j hj ((go i j c).mp ⟨hi,h⟩).2
noncomputable def kG (_:Fg):Sp:=fun vals H Q _=>∃ (a g b:Addr) (n:Nat) (vs:List (List Nat)) (gs:List Nat) (P:Nat->Prop),vals=[.ref a,.ref g,.ref b]/\ee H a vs/\H g=some (.tup (au gs))/\(∀ k∈gs,k < vs.length)/\H b=some (.lst (blV n P))/\(∀ v∈vs,Within n v/\Rep n v)/\n<=100000/\
 ∀ p H',H p=none->am H H'->H' p=some (.lst (blV n (Ca n (gs.map fun h=>vs.getD h []) P)))->Q (.ref p) H'
noncomputable def jb (K:Fg):TS:=(ap (aH (tCB (mR K) (ac (aa 2) ag)) (aj 3))
 (mO (tB (tC (.bl true))) (ap (aH (bu (lM aQ aQ K (ac (aa 3) (ac (av (jT K) [] E0 (ac (aa 0) (ac (aa 1) (ac (aa 3) ag)))) ag))) (fun _ _ _ _=>(cZ K 2 (aW (aj 0) (aW (aj 1) cY)))) (fun _ _ _ _=>aV) (fun _ _ _ _=>(ie (aa 0) (aa 1))) [none,none]) (aj 4))
 (ap (bp (be (tOp (jz (SqL K) false) (aa 4) (aa 3))) (aJ (aa 3)) aY)
 (aH (aa 4) (aj 3))))))
theorem yC (h:kG K vs H Q E):jb K { nx:=fun _ H'=>Q .non H',rt:=Q } (start ["_law_views_here","_law_group_here","_law_truths","_law_found","_law_more"] vs) H:=by
 obtain ⟨a,g,b,n,vs,gs,P,rfl,hV,eg,hg,eb,hw,hn,q⟩:=h
 show jb K _ [some _,some _,some _,none,none] _
 unfold jb
 have hm:∀ v∈gs.map (fun h=>vs.getD h []),Within n v/\Rep n v:=fun v hv=>by
  obtain ⟨k,hk,rfl⟩:=Oo.mp hv
  obtain ⟨_,_,_,_,_,e5⟩:=ju hV (hg k hk)
  exact hw _ e5
 walk_at "rd"
 refine rN (SqL.of eb) fun p H1 hp s1 e1=>?_
 walk_at "rd"
 refine AD (fun m σ H2=>∃ (u1:Option V) (p:Addr) (F:Nat->Prop),σ=[some (.ref a),some (.ref g),some (.ref b),some (.ref p),u1]/\EC n F=m/\H p=none/\am H H2/\H2 p=some (.lst (blV n F))/\(∀ i,i < n->F i->P i)/\∀ i,i < n->Ca n (gs.map fun h=>vs.getD h []) P i->F i) _ ⟨_,p,P,rfl,rfl,hp,s1,e1,fun _ _ h=>h,fun i hi h=>h i hi (.refl i)⟩ ?_
 rintro m σ H2 ⟨u1,p,F,rfl,rfl,hp,s2,e2,f1,f2⟩
 walk_at "rd"
 refine AC ?_
 walk_at "rd"
 refine ⟨a,g,p,n,vs,gs,F,rfl,hV.same s2,s2 _ _ eg,hg,e2,fun v hv=>(hw v hv).1,hn,fun c H3 hc s3 e3=>?_⟩
 walk_at "rd"
 refine B6 (s3 _ _ e2) e3 hn fun p2 H4 hp2 s4 e4=>?_
 walk_at "rd"
 refine LP (SqL.of e4) (SqL.of (s4 _ _ (s3 _ _ e2))) ?_
 have s24:=s3.trans s4
 walk_at "rd"
 by_cases eq:∀ i,i < n->((F i/\∀ v∈gs.map (fun h=>vs.getD h []),KN n v F i)↔F i)
 ·rw [<-cdt eq]
  walk_at "rd"
  refine q p H4 hp (s2.trans s24) ?_
  rw [s24 _ _ e2]
  congr 2
  refine lD fun i hi=>⟨fun h=>ID (fun v hv=>(hm v hv).1) (fun v hv=>(hm v hv).2) f1 (fun i hi h=>((eq i hi).mpr h).2) hi h,f2 i hi⟩
 ·rw [<-cdf eq]
  walk_at "rd"
  refine ⟨_,LQ (P:=F) (fun i _ h=>h.1) eq,_,p2,_,rfl,rfl,s2.free (s3.free hp2),s2.trans s24,e4,fun i hi h=>f1 i hi h.1,fun i hi h=>⟨f2 i hi h,fun v hv j hj e=>f2 j hj (ED (fun v hv=>(hm v hv).1) hv hi h j hj e)⟩⟩
noncomputable def jU (_:Fg):Sp:=fun vals H Q _=>∃ (a b:Addr) (n:Nat) (ws:List (List Nat)) (v:List Nat) (h:Int),vals=[.ref a,.ref b,.int h]/\ba H a ws/\ws.length=n/\(∀ w∈ws,w.length<=1000)/\H b=some (.lst (au v))/\Within n v/\n<=100000/\
 ∀ p H',H p=none->am H H'->H' p=some (.lst (blV n (KN n v (qk n (ws.map fun w=>eQ w h) v))))->Q (.ref p) H'
noncomputable def iB (K:Fg):TS:=(ap (aH (bu (cc K (aa 0)) (fun _ _ _ _=>(aj 0)) (fun _ _ _ _=>aV) (fun _ _ _ _=>(tCB (oU K) (ac (bu (iZ ek K (ac (aa 0) ag)) (fun _ _ _ _=>(cZ K 2 (aW (aj 0) (aW (aj 1) cY)))) (fun _ _ _ _=>(be (tOp rEq (aa 1) (aa 2)))) (fun _ _ _ _=>(aa 0)) [none,none,some 1]) ag))) [none,some 2]) (aj 3))
 (ap (aH oX (aj 4))
 (ap (cU (iZ aQ K (ac (aa 1) ag)) (cZ K 2 (aW (aj 5) (aW (aj 6) cY))) (bp (be (tOp (jz (SqT K) true) (tOp (ca K) (aa 3) (aa 5)) (tOp (ca K) (aa 3) (aa 6)))) (aH (tC (.bl true)) (kh (aa 4) (aa 6) wm)) aY))
 (aJ (bu (cc K (aa 1)) (fun _ _ _ _=>(aj 0)) (fun _ _ _ _=>aV) (fun _ _ _ _=>(tOp (vm true) (aa 0) (aa 1))) [none,some 4])))))
theorem IE {K:Fg} {H:Hp} {a:Addr} {ws:List (List Nat)} {h:Int} {Q:VK} {σ₀:St} {te:CF TE} (hD:ba H a ws) (hw:∀ w∈ws,w.length<=1000) (hl:ws.length<=100000)
  (hs:∀ C s' H' fp (d:Addr) (w:List Nat) H2 (R:V->Hp->Prop),H2 d=some (.tup (au w))->w.length<=1000->(∀ t H3,H2 t=none->am H2 H3->H3 t=some (.tup ((eQ w h).map V.int))->R (.ref t) H3)->te C s' H' fp (σ₀.set 0 (some (.ref d))) H2 R)
  (q:∀ p H',H p=none->am H H'->Dv H' p (ws.map fun w=>eQ w h)->Q (.ref p) H'):
  ∃ a',V.ref a=.ref a'/\(∃ xs,SqL K H a' xs)/\∀ p,H p=none->∃ W:Nat->Nat->List V->Hp->Prop,(∃ m,W 0 m [] (upd H p (.lst [])))/\∀ C s' H' fp,bO (Itl K a') (aj 0) aV (te C s' H' fp) σ₀ p Q W:=by
 obtain ⟨rs,ea,hr⟩:=hD
 have hlr:rs.length=ws.length:=NG hr
 refine cF (g:=fun _ _ _ _=>aj 0) (tt:=fun _ _ _ _=>aV) (te:=te) (rs.map V.ref) (SqL.of ea) (by rw [MY]; omega) (fun i acc H2=>∃ ts:List Addr,acc=ts.map V.ref/\Paired (fun (r:Addr) (xs:List Int)=>H2 r=some (.tup (xs.map V.int))) ts ((ws.take i).map fun w=>eQ w h)) (fun _ _=>⟨[],rfl,.nil⟩) ?_ ?_
 ·rintro p hp C s' H' fp i x acc H2 hx ⟨s2,e2,l2,ts,rfl,ht⟩
  obtain ⟨d,hd,rfl⟩:=kt hx
  obtain ⟨u,hu,eu⟩:=bx hr hd
  refine jC (Bk (lL ?_))
  refine hs C s' H' fp d u H2 _ (s2 _ _ eu) (hw u (M9 hu)) fun t H3 ht3 s3 e3=>?_
  refine bf.put hp (fun _ _ _ _ ⟨ts,e,r⟩ k=>⟨ts,e,Paired.mapP r fun _ _ z=>k _ _ z⟩) (s2.trans s3) (s3 _ _ e2) l2 ⟨ts++[t],by simp,?_⟩
  rw [b9 hu,Nr]
  exact wJ (Paired.mapP ht fun _ _ z=>s3 _ _ z) e3
 ·rintro p acc H2 hp s2 e2 ⟨ts,rfl,ht⟩
  rw [MY,hlr,NI] at ht
  exact q p H2 hp s2 ⟨ts,e2,ht⟩
theorem wU (h:jU K vs H Q E):iB K { nx:=fun _ H'=>Q .non H',rt:=Q } (start ["_law_deals","_law_view","_law_pile","_law_piles","_law_lacks","_law_place","_law_least_here"] vs) H:=by
 obtain ⟨a,b,n,ws,v,h,rfl,hD,hlen,hw,eb,hv,hn,q⟩:=h
 show iB K _ [some _,some _,some _,none,none,none,none] _
 unfold iB
 walk_at "rd"
 refine IE (h:=h) hD hw (by omega) ?_ ?_
 ·intro C s' H' fp d w H2 R e hl hR
  walk_at "rd"
  refine GP (h:=h) e hl fun l H3 hl3 s3 e3=>?_
  walk_at "rd"
  exact yn (SqL.of e3) fun t H4 ht s4 e4=>hR t H4 (s3.free ht) (s3.trans s4) e4
 ·intro pl H1 hpl s1 hP
  have hpl':(ws.map fun w=>eQ w h).length=n:=by rw [MY]; exact hlen
  generalize (ws.map fun w=>eQ w h)=ps at *
  obtain ⟨ts,ep,ht⟩:=id hP
  walk_at "rd"
  refine tL false fun d H2 hd s2 dx2=>?_
  have hdH:H d=none:=s1.free hd
  have s02:=s1.trans s2
  walk_at "rd"
  refine mJ (S:=aQ) (au v) (SqL.of (s02 _ _ eb)) (fun i σ H3=>∃ (u1 u2:Option V),σ=[some (.ref a),some (.ref b),some (.int h),some (.ref pl),some (.ref d),u1,u2]/\am H H3/\Dx H3 d false (fQ v (fun j=>¬ qk n ps v j) i) i/\H3 pl=some (.lst (ts.map V.ref))/\Paired (fun (r:Addr) (xs:List Int)=>H3 r=some (.tup (xs.map V.int))) ts ps) ?_ ?_ ?_ ?_
  ·exact ⟨_,_,rfl,s02,dx2.congr (wS _ _),s2 _ _ ep,Paired.mapP ht fun _ _ z=>s2 _ _ z⟩
  ·rintro i σ H3 hi ⟨u1,u2,rfl,s3,dx3,_⟩
   exact SqL.of (s3 _ _ eb)
  ·rintro i x T σ H3 H4 hx ⟨u1,u2,rfl,s3,dx3,ep3,ht3⟩ hT s4 eT
   obtain ⟨z,hz,rfl⟩:=eY hx
   have hi:i < n:=by have:=(M4.mp hz).1; rw [hv.1] at this; exact this
   obtain ⟨hz',hzn⟩:=dH hv hi
   rw [hz] at hz'
   have ez:z=v.getD i 0:=Nf hz'
   obtain ⟨c1,hc1,ec1⟩:=nW ht3 (i:=i) (by omega)
   obtain ⟨c2,hc2,ec2⟩:=nW ht3 (i:=z) (by omega)
   refine dM (SqT.of eT) ?_
   have dx4:=dx3.same s4
   have s34:=s3.trans s4
   have ep4:=s4 _ _ ep3
   walk_at "rd"
   refine bI (SqL.of ep4) (v:=.ref c1) (cP (by rw [Ng,hc1]; rfl)) ?_
   walk_at "rd"
   refine bI (SqL.of ep4) (v:=.ref c2) (cP (by rw [Ng,hc2]; rfl)) ?_
   walk_at "rd"
   refine Mr (SqT.of (s4 _ _ ec1)) (SqT.of (s4 _ _ ec2)) ?_
   refine Lg ?_
   have ht4:Paired (fun (r:Addr) (xs:List Int)=>H4 r=some (.tup (xs.map V.int))) ts ps:=Paired.mapP ht3 fun _ _ w=>s4 _ _ w
   refine ve (fun c=>?_) (fun c=>?_)
   ·walk_at "rd"
    refine Bt dx4 (k:=.inl (some (z:Int))) rfl rfl (by rw [M8]; omega) fun H5 o5 dx5=>?_
    have kp:=dx4.offK o5
    have npd:pl≠d:=dx4.ne_lst ep4
    refine ⟨_,_,rfl,s34.off hdH o5,dx5.congr fun k=>?_,by rw [o5 pl npd]; exact ep4,Paired.mapP ht4 fun _ _ w=>kp _ _ w⟩
    rw [ez]
    exact zz (by unfold qk; rw [<-ez]; exact c) k
   ·walk_at "rd"
    refine ⟨_,_,rfl,s34,(dx4.congr (wT fun w=>w ?_)).le (Pf i),ep4,ht4⟩
    unfold qk
    rw [<-ez]
    exact c
  ·rintro σ H3 ⟨u1,u2,rfl,s3,dx3,ep3,ht3⟩
   rw [aR,hv.1] at dx3
   walk_at "rd"
   exact B7 (s3 _ _ eb) hv hn dx3 fun p H4 hp s4 e4=>q p H4 (s3.free hp) (s3.trans s4) e4
end
end
section
open KF
noncomputable def de (_:Fg) (m:Nat):Sp:=fun vals H Q _=>∃ (a b:Addr) (x:V) (c n:Nat) (ws vs:List (List Nat)) (s:Sy),vals=[.ref a,.ref b,x]/\Table H a b c n ws vs/\(∀ v∈vs,Rep n v)/\aU H x s/\s.Ok c vs.length/\s.words<=m/\
 ∀ p H',H p=none->am H H'->H' p=some (.lst (blV n (TR n ws vs s)))->Q (.ref p) H'
noncomputable def ln (K:Fg) (n:Nat):TS:=(ap (bp (be (tOp rEq (tOp (bX K) (aa 2) (tC (.int 0))) (tC (.str "holds")))) (aJ (bu (cc K (aa 0)) (fun _ _ _ _=>(aj 0)) (fun _ _ _ _=>aV) (fun _ _ _ _=>(tOp rEq (tOp (bX K) (aa 0) (tOp (bX K) (aa 1) (tC (.int 2)))) (tOp (bX K) (aa 1) (tC (.int 1))))) [none,some 2])) aY)
 (ap (bp (be (tOp rEq (tOp (bX K) (aa 2) (tC (.int 0))) (tC (.str "sees")))) (aJ (av (jU K) [] E0 (ac (aa 0) (ac (tOp (ca K) (aa 1) (tOp (bX K) (aa 2) (tC (.int 1)))) (ac (tCB (eW K) (ac (aa 1) ag)) ag))))) aY)
 (ap (aH (av (de K n) [] E0 (ac (aa 0) (ac (aa 1) (ac (tOp (bX K) (aa 2) (tUn (rU fun i=>.int (-i)) (tC (.int 1)))) ag)))) (aj 3))
 (ap (bp (be (tOp rEq (tOp (bX K) (aa 2) (tC (.int 0))) (tC (.str "not")))) (aJ (bu (cc K (aa 3)) (fun _ _ _ _=>(aj 0)) (fun _ _ _ _=>aV) (fun _ _ _ _=>(vV (aa 0))) [none])) aY)
 (ap (bp (be (tOp rEq (tOp (bX K) (aa 2) (tC (.int 0))) (tC (.str "knows")))) (aJ (av (jS K) [] E0 (ac (tOp (ca K) (aa 1) (tOp (bX K) (aa 2) (tC (.int 1)))) (ac (aa 3) ag)))) aY)
 (ap (bp (be (tOp rEq (tOp (bX K) (aa 2) (tC (.int 0))) (tC (.str "all")))) (aJ (av (jT K) [] E0 (ac (aa 1) (ac (tOp (bX K) (aa 2) (tC (.int 1))) (ac (aa 3) ag))))) aY)
 (ap (bp (be (tOp rEq (tOp (bX K) (aa 2) (tC (.int 0))) (tC (.str "common")))) (aJ (av (kG K) [] E0 (ac (aa 1) (ac (tOp (bX K) (aa 2) (tC (.int 1))) (ac (aa 3) ag))))) aY)
 (ap (aH (av (de K n) [] E0 (ac (aa 0) (ac (aa 1) (ac (tOp (bX K) (aa 2) (tC (.int 1))) ag)))) (aj 4))
 (ap (bp (be (tOp rEq (tOp (bX K) (aa 2) (tC (.int 0))) (tC (.str "and")))) (aJ (bu (lM aQ aQ K (ac (aa 4) (ac (aa 3) ag))) (fun _ _ _ _=>(cZ K 2 (aW (aj 0) (aW (aj 1) cY)))) (fun _ _ _ _=>aV) (fun _ _ _ _=>(ie (aa 0) (aa 1))) [none,none])) aY)
 (aJ (bu (lM aQ aQ K (ac (aa 4) (ac (aa 3) ag))) (fun _ _ _ _=>(cZ K 2 (aW (aj 0) (aW (aj 1) cY)))) (fun _ _ _ _=>aV) (fun _ _ _ _=>(yg (aa 0) (aa 1))) [none,none])))))))))))
noncomputable abbrev CZ:List Str:=["_law_deals","_law_views_here","_law_saying_here","_law_below","_law_ahead"]
theorem sr {K:Fg} {vs:List V} {H:Hp} {Q:VK} {E:XK} (h:de K 0 vs H Q E):False:=by
 obtain ⟨a,b,x,c,n,ws,vs,s,rfl,_,_,_,_,h,_⟩:=h
 have:=s.words_pos
 omega
section
open Classical
theorem Cb {K:Fg} {m:Nat} {vals:List V} {H:Hp} {Q:VK} {E:XK} (h:de K (m + 1) vals H Q E):ln K m { nx:=fun _ H'=>Q .non H',rt:=Q } (start CZ vals) H:=by
 obtain ⟨a,b,x,c,n,ws,vs,s,rfl,T,hrep,hS,hok,hw,q⟩:=h
 show ln K m _ [some _,some _,some _,none,none] _
 unfold ln
 obtain ⟨rs,ea,hr⟩:=id T.deals
 have hlr:rs.length=ws.length:=NG hr
 have hn:=T.small
 have hlen:=T.len
 cases s with
 | holds w k=>
  obtain ⟨t,rfl,et⟩:=hS
  obtain ⟨hwh,hkc⟩:=hok
  walk_at "rd"
  refine aD (SqT.of (et)) (i:=0) rfl ?_
  walk_at "rd"
  refine cE rfl ?_
  walk_at "rd"
  refine cF (rs.map V.ref) (SqL.of ea) (by rw [MY]; omega) (fun i acc _=>acc=blV i (TR n ws vs (.holds w k))) (fun _ _=>rfl) ?_ ?_
  ·rintro p hp C s' H' fp i x acc H2 hx ⟨s2,e2,l2,rfl⟩
   obtain ⟨d,hd,rfl⟩:=kt hx
   obtain ⟨u,hu,eu⟩:=bx hr hd
   have huc:=T.cards u (M9 hu)
   have e1:u[k]?=some (u.getD k 0):=by rw [Ni,MZ (by omega)]; rfl
   walk_at "rd"
   refine aD (SqT.of (s2 _ _ et)) (i:=2) rfl ?_
   walk_at "rd"
   refine aD (SqT.of (s2 _ _ eu)) (jl e1) ?_
   walk_at "rd"
   refine aD (SqT.of (s2 _ _ et)) (i:=1) rfl ?_
   walk_at "rd"
   refine bf.put hp (fun _ _ _ _ r _=>r) s2 e2 l2 ?_
   rw [cb]
   congr 3
   refine cde ?_
   show _↔(ws.getD i []).getD k 0=w
   rw [gK hu]
   omega
  ·rintro p acc H2 hp s2 e2 rfl
   rw [MY,hlr,hlen] at e2
   exact q _ _ hp s2 e2
 | sees k=>
  obtain ⟨t,rfl,et⟩:=hS
  have hk:k < vs.length:=hok
  obtain ⟨vr,r,e1,e3,e4,e5⟩:=ju T.views hk
  obtain ⟨vrs,evb,hvl,_⟩:=mZ T.views
  have:=T.few
  walk_at "rd"
  refine aD (SqT.of (et)) (i:=0) rfl ?_
  walk_at "rd"
  refine aB (by decide) ?_
  walk_at "rd"
  refine aD (SqT.of (et)) (i:=0) rfl ?_
  walk_at "rd"
  refine cE rfl ?_
  walk_at "rd"
  refine aD (SqT.of et) (i:=1) rfl ?_
  walk_at "rd"
  refine bI (SqL.of e1) e3 ?_
  walk_at "rd"
  rw [MY,hvl]
  exact ⟨a,r,n,ws,vs.getD k [],(vs.length:Nat),rfl,T.deals,hlen,fun w hw=>by rw [T.cards w hw]; omega,e4,T.win _ e5,hn,fun p H' hp s' e'=>q p H' hp s' e'⟩
 | not s=>
  obtain ⟨t,y,rfl,et,hy⟩:=hS
  have hw':s.words<=m:=by simp only [Sy.words] at hw; omega
  walk_at "rd"
  refine aD (SqT.of (et)) (i:=0) rfl ?_
  walk_at "rd"
  refine aB (by decide) ?_
  walk_at "rd"
  refine aD (SqT.of (et)) (i:=0) rfl ?_
  walk_at "rd"
  refine aB (by decide) ?_
  walk_at "rd"
  refine aD (SqT.of et) (i:=-1) rfl ?_
  walk_at "rd"
  refine ⟨a,b,y,c,n,ws,vs,s,rfl,T,hrep,hy,hok,hw',fun l H1 hl s1 e1=>?_⟩
  walk_at "rd"
  refine aD (SqT.of (s1 _ _ et)) (i:=0) rfl ?_
  walk_at "rd"
  refine cE rfl ?_
  walk_at "rd"
  refine cF _ (SqL.of e1) (by rw [br]; omega) (fun i acc _=>acc=blV i (TR n ws vs (.not s))) (fun _ _=>rfl) ?_ ?_
  ·rintro p hp C s' H' fp i x acc H2 hx ⟨s2,e2,l2,rfl⟩
   obtain ⟨hi,rfl⟩:=eI hx
   walk_at "rd"
   refine bf.put hp (fun _ _ _ _ r _=>r) s2 e2 l2 ?_
   rw [cb]
   congr 3
   by_cases z:TR n ws vs s i
   ·rw [decide_eq_true z]; exact cdf fun h=>h z
   ·rw [decide_eq_false z]; exact cdt z
  ·rintro p acc H2 hp s2 e2 rfl
   rw [br] at e2
   exact q _ _ (s1.free hp) (s1.trans s2) e2
 | and s t=>
  obtain ⟨u,y,z,rfl,et,hy,hz⟩:=hS
  have hw1:s.words<=m:=by simp only [Sy.words] at hw; omega
  have hw2:t.words<=m:=by simp only [Sy.words] at hw; omega
  walk_at "rd"
  refine aD (SqT.of (et)) (i:=0) rfl ?_
  walk_at "rd"
  refine aB (by decide) ?_
  walk_at "rd"
  refine aD (SqT.of (et)) (i:=0) rfl ?_
  walk_at "rd"
  refine aB (by decide) ?_
  walk_at "rd"
  refine aD (SqT.of et) (i:=-1) rfl ?_
  walk_at "rd"
  refine ⟨a,b,z,c,n,ws,vs,t,rfl,T,hrep,hz,hok.2,hw2,fun l H1 hl s1 e1=>?_⟩
  walk_at "rd"
  refine aD (SqT.of (s1 _ _ et)) (i:=0) rfl ?_
  walk_at "rd"
  refine aB (by decide) ?_
  walk_at "rd"
  refine aD (SqT.of (s1 _ _ et)) (i:=0) rfl ?_
  walk_at "rd"
  refine aB (by decide) ?_
  walk_at "rd"
  refine aD (SqT.of (s1 _ _ et)) (i:=0) rfl ?_
  walk_at "rd"
  refine aB (by decide) ?_
  walk_at "rd"
  refine aD (SqT.of (s1 _ _ et)) (i:=0) rfl ?_
  walk_at "rd"
  refine aB (by decide) ?_
  walk_at "rd"
  refine aD (SqT.of (s1 _ _ et)) (i:=1) rfl ?_
  walk_at "rd"
  refine ⟨a,b,y,c,n,ws,vs,s,rfl,T.same s1,hrep,hy.keep s1.keep,hok.1,hw1,fun l2 H2 hl2 s2 e2=>?_⟩
  walk_at "rd"
  refine aD (SqT.of (s2 _ _ (s1 _ _ et))) (i:=0) rfl ?_
  walk_at "rd"
  refine cE rfl ?_
  walk_at "rd"
  exact B6 e2 (s2 _ _ e1) hn fun p H3 hp s3 e3=>q p H3 (s1.free (s2.free hp)) ((s1.trans s2).trans s3) e3
 | or s t=>
  obtain ⟨u,y,z,rfl,et,hy,hz⟩:=hS
  have hw1:s.words<=m:=by simp only [Sy.words] at hw; omega
  have hw2:t.words<=m:=by simp only [Sy.words] at hw; omega
  walk_at "rd"
  refine aD (SqT.of (et)) (i:=0) rfl ?_
  walk_at "rd"
  refine aB (by decide) ?_
  walk_at "rd"
  refine aD (SqT.of (et)) (i:=0) rfl ?_
  walk_at "rd"
  refine aB (by decide) ?_
  walk_at "rd"
  refine aD (SqT.of et) (i:=-1) rfl ?_
  walk_at "rd"
  refine ⟨a,b,z,c,n,ws,vs,t,rfl,T,hrep,hz,hok.2,hw2,fun l H1 hl s1 e1=>?_⟩
  walk_at "rd"
  refine aD (SqT.of (s1 _ _ et)) (i:=0) rfl ?_
  walk_at "rd"
  refine aB (by decide) ?_
  walk_at "rd"
  refine aD (SqT.of (s1 _ _ et)) (i:=0) rfl ?_
  walk_at "rd"
  refine aB (by decide) ?_
  walk_at "rd"
  refine aD (SqT.of (s1 _ _ et)) (i:=0) rfl ?_
  walk_at "rd"
  refine aB (by decide) ?_
  walk_at "rd"
  refine aD (SqT.of (s1 _ _ et)) (i:=0) rfl ?_
  walk_at "rd"
  refine aB (by decide) ?_
  walk_at "rd"
  refine aD (SqT.of (s1 _ _ et)) (i:=1) rfl ?_
  walk_at "rd"
  refine ⟨a,b,y,c,n,ws,vs,s,rfl,T.same s1,hrep,hy.keep s1.keep,hok.1,hw1,fun l2 H2 hl2 s2 e2=>?_⟩
  walk_at "rd"
  refine aD (SqT.of (s2 _ _ (s1 _ _ et))) (i:=0) rfl ?_
  walk_at "rd"
  refine aB (by decide) ?_
  walk_at "rd"
  exact My e2 (s2 _ _ e1) hn fun p H3 hp s3 e3=>q p H3 (s1.free (s2.free hp)) ((s1.trans s2).trans s3) e3
 | knows k s=>
  obtain ⟨t,y,rfl,et,hy⟩:=hS
  have hw':s.words<=m:=by simp only [Sy.words] at hw; omega
  walk_at "rd"
  refine aD (SqT.of (et)) (i:=0) rfl ?_
  walk_at "rd"
  refine aB (by decide) ?_
  walk_at "rd"
  refine aD (SqT.of (et)) (i:=0) rfl ?_
  walk_at "rd"
  refine aB (by decide) ?_
  walk_at "rd"
  refine aD (SqT.of et) (i:=-1) rfl ?_
  walk_at "rd"
  refine ⟨a,b,y,c,n,ws,vs,s,rfl,T,hrep,hy,hok.2,hw',fun l H1 hl s1 e1=>?_⟩
  walk_at "rd"
  refine aD (SqT.of (s1 _ _ et)) (i:=0) rfl ?_
  walk_at "rd"
  refine aB (by decide) ?_
  walk_at "rd"
  refine aD (SqT.of (s1 _ _ et)) (i:=0) rfl ?_
  walk_at "rd"
  refine cE rfl ?_
  walk_at "rd"
  refine aD (SqT.of (s1 _ _ et)) (i:=1) rfl ?_
  walk_at "rd"
  obtain ⟨vr,r,e2,e3,e4,e5⟩:=ju (T.views.same s1) hok.1
  refine bI (SqL.of e2) e3 ?_
  walk_at "rd"
  exact ⟨r,l,n,vs.getD k [],_,rfl,e4,e1,T.win _ e5,hn,fun p2 H3 hp2 s3 e6=>q p2 H3 (s1.free hp2) (s1.trans s3) e6⟩
 | all g s=>
  obtain ⟨t,u,y,rfl,et,eu,hy⟩:=hS
  have hw':s.words<=m:=by simp only [Sy.words] at hw; omega
  obtain ⟨⟨hpw,hg⟩,hok'⟩:=hok
  walk_at "rd"
  refine aD (SqT.of (et)) (i:=0) rfl ?_
  walk_at "rd"
  refine aB (by decide) ?_
  walk_at "rd"
  refine aD (SqT.of (et)) (i:=0) rfl ?_
  walk_at "rd"
  refine aB (by decide) ?_
  walk_at "rd"
  refine aD (SqT.of et) (i:=-1) rfl ?_
  walk_at "rd"
  refine ⟨a,b,y,c,n,ws,vs,s,rfl,T,hrep,hy,hok',hw',fun l H1 hl s1 e1=>?_⟩
  walk_at "rd"
  refine aD (SqT.of (s1 _ _ et)) (i:=0) rfl ?_
  walk_at "rd"
  refine aB (by decide) ?_
  walk_at "rd"
  refine aD (SqT.of (s1 _ _ et)) (i:=0) rfl ?_
  walk_at "rd"
  refine aB (by decide) ?_
  walk_at "rd"
  refine aD (SqT.of (s1 _ _ et)) (i:=0) rfl ?_
  walk_at "rd"
  refine cE rfl ?_
  walk_at "rd"
  refine aD (SqT.of (s1 _ _ et)) (i:=1) rfl ?_
  walk_at "rd"
  exact ⟨b,u,l,n,vs,g,_,rfl,T.views.same s1,s1 _ _ eu,hg,e1,T.win,hn,fun p2 H3 hp2 s3 e6=>q p2 H3 (s1.free hp2) (s1.trans s3) e6⟩
 | common g s=>
  obtain ⟨t,u,y,rfl,et,eu,hy⟩:=hS
  have hw':s.words<=m:=by simp only [Sy.words] at hw; omega
  obtain ⟨⟨hpw,hg⟩,hok'⟩:=hok
  walk_at "rd"
  refine aD (SqT.of (et)) (i:=0) rfl ?_
  walk_at "rd"
  refine aB (by decide) ?_
  walk_at "rd"
  refine aD (SqT.of (et)) (i:=0) rfl ?_
  walk_at "rd"
  refine aB (by decide) ?_
  walk_at "rd"
  refine aD (SqT.of et) (i:=-1) rfl ?_
  walk_at "rd"
  refine ⟨a,b,y,c,n,ws,vs,s,rfl,T,hrep,hy,hok',hw',fun l H1 hl s1 e1=>?_⟩
  walk_at "rd"
  refine aD (SqT.of (s1 _ _ et)) (i:=0) rfl ?_
  walk_at "rd"
  refine aB (by decide) ?_
  walk_at "rd"
  refine aD (SqT.of (s1 _ _ et)) (i:=0) rfl ?_
  walk_at "rd"
  refine aB (by decide) ?_
  walk_at "rd"
  refine aD (SqT.of (s1 _ _ et)) (i:=0) rfl ?_
  walk_at "rd"
  refine aB (by decide) ?_
  walk_at "rd"
  refine aD (SqT.of (s1 _ _ et)) (i:=0) rfl ?_
  walk_at "rd"
  refine cE rfl ?_
  walk_at "rd"
  refine aD (SqT.of (s1 _ _ et)) (i:=1) rfl ?_
  walk_at "rd"
  exact ⟨b,u,l,n,vs,g,_,rfl,T.views.same s1,s1 _ _ eu,hg,e1,fun v hv=>⟨T.win v hv,hrep v hv⟩,hn,fun p2 H3 hp2 s3 e6=>q p2 H3 (s1.free hp2) (s1.trans s3) e6⟩
end
end
section
open KF
theorem GQ {T:TM} (h:Int) (d:Int) (v:List Nat) (hv:v.length=T.n):gx v (fO T.ws h [d])=gx v (blA T.n fun i=>wAt (T.ws.getD i []) d=h):=by
 have l1:(fO T.ws h [d]).length=T.n:=by unfold fO; rw [MY]; rfl
 have g:∀ i,i < T.n->(fO T.ws h [d])[i]?=some (m9 (T.ws.getD i []) h [d]):=fun i hi=>by
  unfold fO
  rw [Ng,Ni,MZ (show i < T.ws.length from hi)]
  rfl
 refine LJ (by rw [l1]; exact hv) (by rw [tU]; exact hv) rfl fun i j hi hj=>?_
 rw [hv] at hi hj
 rw [Kk hi hj,g i hi,g j hj]
 refine and_congr VX ?_
 have lf:∀ w:List Nat,m9 w h [d]=if wAt w d=h then some d else none:=fun w=>by
  unfold m9
  by_cases z:wAt w d=h
  ·rw [if_pos z,N8 (by simpa using z)]; rfl
  ·rw [if_neg z,Oi (by simpa using z)]; rfl
 rw [lf,lf]
 generalize T.ws.getD i []=wi
 generalize T.ws.getD j []=wj
 by_cases a:wAt wi d=h <;> by_cases b:wAt wj d=h <;> simp [a,b]
section
open Classical
noncomputable def jV (_:Fg) (G:GF):Sp:=fun vs H Q _=>∃ (M:List Addr) (x pv pe lv pd:Addr) (T:TM) (z:Int) (k:Nat),vs=[.ref x,.ref pd,.ref lv,.int z,.int (k:Int)]/\Tb G M H x pv pe T/\T.k=k/\ba H pd T.ws/\pd∉M/\d3 M H lv T.vw/\lv∈M/\lv≠pv/\lv≠pe/\0 < T.c/\T.ds.length < 900/\
 ∀ H' T',Kp [pv,pe,lv] H H'->T'.c=T.c->T'.ss=T.ss->T'.ds.length=T.ds.length + 1->Tb G M H' x pv pe T'->d3 M H' lv T'.vw->Q .non H'
noncomputable def iC (K:Fg) (G:GF):TS:=(ap (aH (tOp (rI (fun _ j=>0 < j) fun i j=>.int (i % j)) (aa 3) (aa 4)) (aj 5))
 (ap (aH (tOp (rI (fun _ j=>0 < j) fun i j=>.int (i % j)) (tOp (rI ga fun i j=>.int (i / j)) (aa 3) (tC (.int 5))) (tOp (rI0 fun i j=>.int (i + j)) (aa 4) (tC (.int 1)))) (aj 6))
 (ap (aH (tOp (rI (fun _ j=>0 < j) fun i j=>.int (i % j)) (tOp (rI ga fun i j=>.int (i / j)) (aa 3) (tC (.int 30))) (tCB (eW K) (ac (tOp (ca K) (aa 1) (tC (.int 0))) ag))) (aj 7))
 (ap (dG (gd G.Table "show" (lW K G) [] E0 (aa 0) (ac (aa 5) (ac (aa 6) (ac (dZ (ac (aa 7) ag)) ag)))))
 (ap (aH (bu (cc K (aa 1)) (fun _ _ _ _=>(aj 0)) (fun _ _ _ _=>aV) (fun _ _ _ _=>(tOp rEq (tOp (bX K) (aa 0) (aa 2)) (aa 1))) [none,some 6,some 7]) (aj 8))
 (aH (av (gu K) [] E0 (ac (bu (fZ (ac (tCB (eW K) (ac (aa 1) ag)) ag)) (fun _ _ _ _=>(aj 0)) (fun _ _ _ _=>aV) (fun _ _ _ _=>(dL (ac (tOp (ca K) (tOp (ca K) (aa 2) (aa 3)) (aa 0)) (ac (tOp (ca K) (aa 1) (aa 0)) ag)))) [none,some 8,some 2,some 5]) ag)) (kh (aa 2) (aa 5) kP)))))))
noncomputable abbrev yD:List Str:=["_law_table","_law_deals","_law_views","_law_number","_law_hands","_law_hand","_law_holder","_law_card","_law_holds"]
theorem wV {K:Fg} {G:GF} {vs:List V} {H:Hp} {Q:VK} {E:XK} (h:jV K G vs H Q E):iC K G { nx:=fun _ H'=>Q .non H',rt:=Q } (start yD vs) H:=by
 obtain ⟨M,x,pv,pe,lv,pd,T,z,k,rfl,t,hk,D,npd,L,ml,n1,n2,hc,hds,q⟩:=h
 have hk1:1<=T.k:=t.ok.pk.l1
 have nn:=t.ok.n2
 have n1':=t.ok.n1
 have sub:∀ b∈[pv,pe],b∈M:=fun b hb=>by
  rcases M6.mp hb with z | z
  ·rw [z]; exact t.mv
  ·rw [M0.mp z]; exact t.me
 obtain ⟨rs,er,hr⟩:=id D
 have lr:rs.length=T.n:=NG hr
 show iC K G _ [some _,some _,some _,some _,some _,none,none,none,none] _
 unfold iC
 refine bA ?_
 walk_at "rs"
 obtain ⟨i,hi,hik⟩:=nY z (m:=(k:Int)) (by omega)
 rw [hi]
 refine bA ?_
 walk_at "rs"
 obtain ⟨h,hh,h0,h1⟩:∃ h:Int,z / 5 % ((k:Int) + 1)=h/\0<=h/\h<=k:=⟨_,rfl,PN _ (by omega),by have:=Pm (z / 5) (show 0 < (k:Int) + 1 by omega); omega⟩
 rw [hh]
 refine bA ?_
 walk_at "rs"
 have hr0:rs[0]?=some (rs[0]'(by omega)):=MZ _
 generalize rs[0]'(by omega)=r0 at hr0
 obtain ⟨w0,hw0,ew0⟩:=bx hr hr0
 have lw0:=t.ok.cards w0 (M9 hw0)
 refine bI (SqL.of er) (i:=0) (v:=.ref r0) (cP (j:=0) (by rw [Ng,hr0]; rfl)) ?_
 walk_at "rs"
 rw [aR,lw0]
 refine r_I (by omega) ?_
 walk_at "rs"
 obtain ⟨d,hd,d0,d1⟩:∃ d:Int,z / 30 % (T.c:Int)=d/\0<=d/\d < T.c:=⟨_,rfl,PN _ (by omega),Pm _ (by omega)⟩
 rw [hd]
 refine bA ?_
 walk_at "rs"
 obtain ⟨dx1,fs1,hx1',hl1⟩:=t.at "show" (by decide +kernel) (by decide +kernel) (by decide +kernel) (by decide +kernel) (by decide +kernel) (by decide +kernel)
 refine iX ?_
 walk_at "rs"
 refine ⟨x,dx1,fs1,rfl,hx1',hl1,?_⟩
 walk_at "rs"
 refine ⟨by simp [M8],fun l1 H1 hl1' s1 e1=>?_⟩
 walk_at "rs"
 refine ⟨M,x,pv,pe,l1,T,i,h,[d],rfl,t.same s1,e1,by omega,h0,by omega,(show 1 < 64 by decide),fun n hn=>by rw [M0.mp hn]; exact ⟨d0,d1⟩,by omega,LN fun p2 H2 hp2 k2 e2 t2=>?_⟩
 have k02:=(Kp.of s1).trans k2
 have D2:=D.kp k02 fun z=>npd (sub _ z)
 have L2':=(L.same s1).kp k2 sub (fun z=>by
  rcases M6.mp z with y | y
  ·exact n1 y
  ·exact n2 (M0.mp y))
 walk_at "rs"
 refine bA ?_
 walk_at "rs"
 obtain ⟨rs2,er2,hr2⟩:=id D2
 have lr2:rs2.length=T.n:=NG hr2
 refine cF (rs2.map V.ref) (SqL.of er2) (by rw [MY]; omega) (fun j acc _=>acc=blV j fun i=>wAt (T.ws.getD i []) d=h) (fun _ _=>rfl) ?_ ?_
 ·rintro p' hp' C s' H' fp j y acc H3 hy ⟨s3,e3,l3,rfl⟩
  obtain ⟨b,hb,rfl⟩:=mY hy
  obtain ⟨w,hw,ew⟩:=bx hr2 hb
  have lw:=t.ok.cards w (M9 hw)
  walk_at "rd"
  refine aD (SqT.of (s3 _ _ ew)) (BS d0 (by omega)) ?_
  walk_at "rd"
  refine bf.put hp' (fun _ _ _ _ r _=>r) s3 e3 l3 ?_
  rw [cb]
  congr 3
  refine cde ?_
  rw [gK hw]
 rintro ph acc H3 hph s3 e3 rfl
 rw [MY,lr2] at e3
 have L3:=L2'.same s3
 have t3:=t2.same s3
 have hiv:i < T.vw.length:=by rw [t.ok.len]; omega
 obtain ⟨us,u,el3,lus,hat,eu3⟩:=L3.get hiv
 have hvm:T.vw.getD i []∈T.vw:=by
  rw [Ni,MZ hiv]
  exact Pj _
 have hvl:=(t.ok.win _ hvm).1
 walk_at "rs"
 refine tI (ys:=rs2.map V.ref) (SqL.of (s3 _ _ er2)) ?_
 walk_at "rs"
 rw [MY,lr2]
 refine vh T.n (by omega) (by omega) (by omega) (fun j acc H'=>∃ ts:List Addr,acc=ts.map V.ref/\mK H' ts (((au (T.vw.getD i [])).zip (blV T.n fun i=>wAt (T.ws.getD i []) d=h)).take j)) (fun _ _=>⟨[],rfl,.nil⟩) ?_ ?_
 ·rintro p' hp' C s' H' fp j acc H4 hj ⟨s4,e4,l4,ts,rfl,r4⟩
  have hvj:(au (T.vw.getD i []))[j]?=some ((au (T.vw.getD i []))[j]'(by rw [aR]; omega)):=MZ _
  generalize (au (T.vw.getD i []))[j]'(by rw [aR]; omega)=vj at hvj
  walk_at "rd"
  refine bI (SqL.of (s4 _ _ el3)) hat ?_
  walk_at "rd"
  refine bI (SqL.of (s4 _ _ eu3)) (cP hvj) ?_
  walk_at "rd"
  refine bI (SqL.of (s4 _ _ e3)) (BC hj) ?_
  walk_at "rd"
  refine ⟨by simp [M8],fun tp H5 htp s5 e5=>?_⟩
  refine bf.put hp' (fun _ _ _ _ r k=>by obtain ⟨ts,e,p⟩:=r; exact ⟨ts,e,Paired.mapP p fun _ _ e=>k _ _ e⟩) (s4.trans s5) (s5 _ _ e4) l4 ⟨ts++[tp],by rw [Nr]; rfl,?_⟩
  rw [zy hvj (ku hj)]
  exact so (Paired.mapP r4 fun _ _ e=>s5 _ _ e) e5
 ·rintro pl acc H4 hpl s4 e4 ⟨ts,rfl,r4⟩
  rw [PD (by rw [OK,aR,br]; omega)] at r4
  walk_at "rs"
  refine ⟨pl,_,_,true,rfl,e4,ql r4 (BG _ _),?_,by rw [MY,OK]; omega,fun nl H5 hnl s5 e5=>?_⟩
  ·intro k hk
   obtain ⟨w,_,rfl⟩:=Oo.mp hk
   rfl
  rw [oJ] at e5
  walk_at "rs"
  have s35:=s4.trans s5
  refine mQ (s35 _ _ el3) (EB (by rw [MY]; omega)) ?_
  have nnl:nl∉M:=(t3.same s4).off hnl
  have L5:=(L3.same s35).set ml (s35 _ _ el3) i e5 nnl
  have k5:Kp [lv] H3 (upd H5 lv (.lst ((us.map V.ref).set i (.ref nl)))):=(Kp.of s35).upd (s35 _ _ el3) (M0.mpr rfl)
  refine q _ (T.show i h [d]) ?_ rfl rfl (by show (T.ds++[_]).length=_; rw [Nq]; rfl) (t3.kp k5 (fun b hb=>by rw [M0.mp hb]; exact ml) (fun z=>n1 (M0.mp z).symm) (fun z=>n2 (M0.mp z).symm)) ?_
  ·refine (k02.mono fun b hb=>?_).trans ((Kp.of s3).trans (k5.mono fun b hb=>?_))
   ·rcases M6.mp hb with y | y
    ·rw [y]; exact M7
    ·rw [M0.mp y]; exact Nh _ M7
   ·rw [M0.mp hb]; exact Nh _ (Nh _ M7)
  ·have:(T.show i h [d]).vw=T.vw.set i (gx (T.vw.getD i []) (blA T.n fun i=>wAt (T.ws.getD i []) d=h)):=by
    show T.vw.set i (gx (T.vw.getD i []) (fO T.ws h [d]))=_
    rw [GQ h d _ hvl]
   rw [this]
   exact L5
end
theorem IF {H:Hp} {i:Int} {ts:List Addr} {ws:List (List Nat)} (h:Paired (fun (t:Addr) (w:List Nat)=>H t=some (.tup ((eQ w i).map V.int))) ts ws):Paired (ci H) (ts.map V.ref) (ws.map fun w=>vq (eQ w i)):=by
 induction h with
 | nil=>exact .nil
 | cons r _ ih=>exact .cons (Dn (ns:=eQ _ i) r) ih
theorem MT {i:Nat} (h:i < 4):∃ v:Int,atI [V.int 1,V.int 32,V.int 1024,V.int 32768] (i:Int)=some (.int v)/\0 < v/\v<=32768:=by
 match i,h with
 | 0,_=>exact ⟨1,rfl,by decide,by decide⟩
 | 1,_=>exact ⟨32,rfl,by decide,by decide⟩
 | 2,_=>exact ⟨1024,rfl,by decide,by decide⟩
 | 3,_=>exact ⟨32768,rfl,by decide,by decide⟩
theorem MU {i:Nat} (h:i < 4):∃ v:Int,atI [V.int 1,V.int 2,V.int 4,V.int 8] (i:Int)=some (.int v)/\0 < v/\v<=8:=by
 match i,h with
 | 0,_=>exact ⟨1,rfl,by decide,by decide⟩
 | 1,_=>exact ⟨2,rfl,by decide,by decide⟩
 | 2,_=>exact ⟨4,rfl,by decide,by decide⟩
 | 3,_=>exact ⟨8,rfl,by decide,by decide⟩
theorem EE {K:Fg} {H:Hp} {a b:Addr} {ws:List (List Nat)} (h1:ba H a ws) (h2:ba H b ws):ip K H 2 (.ref a) (.ref b):=by
 obtain ⟨rs,e1,p1⟩:=h1
 obtain ⟨ts,e2,p2⟩:=h2
 refine .lst (SqL.of e1) (SqL.of e2) (by rw [MY,MY,NG p1,NG p2]) fun i x y hx hy=>?_
 obtain ⟨r,hr,rfl⟩:=mY hx
 obtain ⟨t,ht,rfl⟩:=mY hy
 obtain ⟨v,hv,ev⟩:=bx p1 hr
 obtain ⟨w,hw,ew⟩:=bx p2 ht
 rw [hv] at hw
 cases hw
 exact Ev (SqT.of ev) (SqT.of ew) (by rw [dk]; exact zw _)
noncomputable abbrev LS (K:Fg):Sp:=we K
noncomputable def AH (K:Fg) (G:GF):TS:=(ap (aH (av (mW K) [] E0 (ac (aa 0) (ac (tC (.int 0)) (ac (tOp (ca K) (dZ (ac (tC (.int 60)) (ac (tC (.int 210)) ag))) (tCB Ek (ac (tOp rEq (tOp (rI (fun _ j=>0 < j) fun i j=>.int (i % j)) (av (bz K) [] E0 (ac (aa 0) (ac (tC (.int 7)) ag))) (tC (.int 16))) (tC (.int 3))) ag))) ag)))) (cZ K 2 (aW (aj 1) (aW (aj 2) cY))))
 (ap (aH (tCB (eW K) (ac (aa 2) ag)) (aj 3))
 (ap (aH (av (kX K) [] E0 (ac (aa 1) (ac (aa 2) ag))) (aj 4))
 (ap (aH (dZ ag) (aj 5))
 (ap (cU (fZ (ac (aa 3) ag)) (aj 6) (dG (tBM K "list" ii (aa 5) (ac (av (gu K) [] E0 (ac (bu (cc K (aa 4)) (fun _ _ _ _=>(aj 0)) (fun _ _ _ _=>aV) (fun _ _ _ _=>(tCB (oU K) (ac (bu (iZ ek K (ac (aa 0) ag)) (fun _ _ _ _=>(cZ K 2 (aW (aj 0) (aW (aj 1) cY)))) (fun _ _ _ _=>(be (tOp rEq (aa 1) (aa 2)))) (fun _ _ _ _=>(aa 0)) [none,none,some 1]) ag))) [none,some 6]) ag)) ag))))
 (ap (aH (AA G.Table (gy K G) [] E0 (ac (aa 1) (ac (aa 2) ag))) (aj 7))
 (ap (cU (fZ (ac (tOp (rI (fun _ j=>0 < j) fun i j=>.int (i % j)) (av (bz K) [] E0 (ac (aa 0) (ac (tC (.int 8)) ag))) (tC (.int 5))) ag)) (aj 8) (ap (aH (av (kC K) [] E0 (ac (aa 0) (ac (tOp (rI0 fun i j=>.int (i + j)) (tC (.int 10)) (tOp (rI P8 fun i j=>.int (i * j)) (tC (.int 13)) (aa 8))) (ac (aa 1) (ac (aa 3) (ac (tC (.int 14)) ag)))))) (aj 9))
 (ap (aH (av (eZ K) [] E0 (ac (tOp (rI ga fun i j=>.int (i / j)) (av (bz K) [] E0 (ac (aa 0) (ac (tC (.int 9)) ag))) (tOp (ca K) (dZ (ac (tC (.int 1)) (ac (tC (.int 32)) (ac (tC (.int 1024)) (ac (tC (.int 32768)) ag))))) (aa 8))) (ac (aa 3) ag))) (aj 10))
 (ap (aH (av (de K 35) [] E0 (ac (aa 4) (ac (aa 5) (ac (aa 9) ag)))) (aj 11))
 (ap (bp (dq (tB (av (cG K) [] E0 (ac (gd G.Table "truths" (dU K G) [] E0 (aa 7) (ac (aa 9) ag)) (ac (aa 11) ag))))) (aJ (tC (.bl false))) aY)
 (ap (aH (gd G.Table "word" (lV K G) [] E0 (aa 7) (ac (aa 10) (ac (aa 9) ag))) (aj 12))
 (ap (bp (dq (tB (av (cG K) [] E0 (ac (aa 12) (ac (aa 11) ag))))) (aJ (tC (.bl false))) aY)
 (ap (dG (Ef K "list" v2 (aa 12)))
 (ap (cU (rA K (aa 10)) (aj 6) (aH (av (gu K) [] E0 (ac (bu (fZ (ac (tCB (eW K) (ac (aa 4) ag)) ag)) (fun _ _ _ _=>(aj 0)) (fun _ _ _ _=>aV) (fun _ _ _ _=>(dL (ac (tOp (ca K) (tOp (ca K) (aa 2) (aa 3)) (aa 0)) (ac (tOp (ca K) (aa 1) (aa 0)) ag)))) [none,some 11,some 5,some 6]) ag)) (kh (aa 5) (aa 6) kP)))
 (ap (bp (tOr (dq (tB (av (fP K G) [] E0 (ac (aa 7) (ac (aa 5) ag))))) (dq (tB (av (fP K G) [] E0 (ac (aa 7) (ac (aa 5) ag)))))) (aJ (tC (.bl false))) aY)
 (ap (bp (dq (tB (av (cG K) [] E0 (ac (gd G.Table "truths" (dU K G) [] E0 (aa 7) (ac (aa 9) ag)) (ac (av (de K 35) [] E0 (ac (aa 4) (ac (aa 5) (ac (aa 9) ag)))) ag))))) (aJ (tC (.bl false))) aY)
 (bp (A0 (be (tOp (rI0 fun i j=>.bl (decide (j < i))) (aa 1) (tC (.int 0)))) (be (tOp rEq (tOp (rI (fun _ j=>0 < j) fun i j=>.int (i % j)) (tOp (rI ga fun i j=>.int (i / j)) (av (bz K) [] E0 (ac (aa 0) (ac (tC (.int 6)) ag))) (tOp (ca K) (dZ (ac (tC (.int 1)) (ac (tC (.int 2)) (ac (tC (.int 4)) (ac (tC (.int 8)) ag))))) (aa 8))) (tC (.int 2))) (tC (.int 1))))) (ap (dG (av (jV K G) [] E0 (ac (aa 7) (ac (aa 4) (ac (aa 5) (ac (av (bz K) [] E0 (ac (aa 0) (ac (tOp (rI0 fun i j=>.int (i + j)) (tC (.int 59)) (aa 8)) ag))) (ac (aa 3) ag)))))))
 (bp (dq (tB (av (cG K) [] E0 (ac (gd G.Table "truths" (dU K G) [] E0 (aa 7) (ac (aa 9) ag)) (ac (av (de K 35) [] E0 (ac (aa 4) (ac (aa 5) (ac (aa 9) ag)))) ag))))) (aJ (tC (.bl false))) aY)) aY))))))))))))
 (aJ (ie (av (fP K G) [] E0 (ac (aa 7) (ac (aa 5) ag))) (tOp (mX K false) (gd G.Table "deals" (kF K G) [] E0 (aa 7) ag) (aa 4)))))))))))
noncomputable abbrev Mz:List Str:=["_law_script","_law_cards","_law_sizes","_law_hands","_law_deals","_law_views","_law_hand","_law_table","_law_k","_law_saying_here","_law_group_here","_law_due","_law_found"]
theorem LT {K:Fg} {G:GF} {vs:List V} {H:Hp} {Q:VK} {E:XK} (h:LS K vs H Q E):AH K G { nx:=fun _ H'=>Q .non H',rt:=Q } (start Mz vs) H:=by
 obtain ⟨a,ns,rfl,hSc,g⟩:=h
 show AH K G _ [some _,none,none,none,none,none,none,none,none,none,none,none,none] _
 unfold AH
 refine bA ?_
 walk_at "rs"
 refine ⟨by simp [M8],fun l0 H0 hl0 s0 e0=>?_⟩
 walk_at "rs"
 refine ⟨a,ns,7,rfl,hSc.same s0,by decide,by decide,?_⟩
 walk_at "rs"
 obtain ⟨most,hat,hm1,hm2⟩:∃ most:Int,atI [V.int 60,V.int 210] (if decide (cz ns 7 % 16=3)=true then 1 else 0)=some (.int most)/\1<=most/\most<=210:=by
  by_cases z:cz ns 7 % 16=3
  ·rw [decide_eq_true z]; exact ⟨210,rfl,by decide,by decide⟩
  ·rw [decide_eq_false z]; exact ⟨60,rfl,by decide,by decide⟩
 refine bI (SqL.of e0) hat ?_
 walk_at "rs"
 refine ⟨a,ns,0,most,rfl,hSc.same s0,by decide,by decide,hm1,fun c ss tp q H1 s1 htp hq e1 eq1 pk hm=>?_⟩
 refine dM (SqT.of e1) ?_
 have h1:=pk.l1
 have h5:=pk.l5
 have c12:=pk.c12
 have hSc1:=(hSc.same s0).same s1
 walk_at "rs"
 refine bA ?_
 walk_at "rs"
 rw [aR]
 refine bA ?_
 walk_at "rs"
 refine ⟨c,q,ss,rfl,eq1,pk,by omega,fun pd H3 s3 hpd D3=>?_⟩
 have okB:=TM.Ok.begun pk (show KM.cA c ss<=2000 by omega)
 have nB:=okB.n2
 have hwc:∀ w∈KM.bQ (ss++[c - ss.sum]) c,w.length=c:=fun w hw=>(KM.gJ _ c w hw).len
 have hSc3:=hSc1.same s3
 walk_at "rs"
 refine bA ?_
 walk_at "rs"
 refine ⟨by simp [M8],fun lv H4 hlv s4 e4=>?_⟩
 walk_at "rs"
 refine km fun NX hNX=>?_
 walk_at "rd"
 refine ko ss.length (by omega) (by omega) (by omega) (fun i σ H5=>∃ (u6:Option V) (us:List Addr),σ=[some (.ref a),some (.int c),some (.ref q),some (.int ss.length),some (.ref pd),some (.ref lv),u6,none,none,none,none,none,none]/\am H3 H5/\H5 lv=some (.lst (us.map V.ref))/\Paired (fun (u:Addr) (v:List Nat)=>H5 u=some (.lst (au v))/\u≠lv) us ((Nw i).map fun (j:Nat)=>lA (KM.bQ (ss++[c - ss.sum]) c) (j:Int))) ⟨none,[],rfl,s4,e4,.nil⟩ ?_ ?_
 ·rintro i σ H5 hi ⟨u6,us,rfl,s5,e5,r5⟩
  obtain ⟨rs,er,hr⟩:=D3.same' s5
  have hlr:rs.length=(KM.bQ (ss++[c - ss.sum]) c).length:=NG hr
  have hn2:(KM.bQ (ss++[c - ss.sum]) c).length<=2000:=nB
  generalize KM.bQ (ss++[c - ss.sum]) c=ws at *
  walk_at "rd"
  refine ⟨.inl ⟨rfl,_,SqL.of e5⟩,?_⟩
  walk_at "rd"
  refine cF (rs.map V.ref) (SqL.of er) (by rw [MY]; omega) (fun j acc H'=>∃ ts:List Addr,acc=ts.map V.ref/\Paired (fun (t:Addr) (w:List Nat)=>H' t=some (.tup ((eQ w (i:Int)).map V.int))) ts (ws.take j)) (fun H' _=>⟨[],rfl,.nil⟩) ?_ ?_
  ·rintro p' hp' C s' H' fp j xx acc H6 hxx ⟨s6,e6,l6,ts,rfl,r6⟩
   obtain ⟨b',hb',rfl⟩:=mY hxx
   obtain ⟨w,hwi,ew⟩:=bx hr hb'
   have hw1:=hwc w (M9 hwi)
   have ew6:=s6 _ _ ew
   rw [dk] at ew6
   walk_at "rd"
   refine Ds (S:=ek) _ (SqT.of ew6) (fun H' s=>s.tup (SqT.of ew6)) (by rw [MY,MY]; omega) (fun i' acc _=>acc=(oI (w.map fun (s:Nat)=>((s:Nat):Int)) (i:Int) i').map V.int) (fun H' _=>rfl) ?_ ?_
   ·rintro r hr' C s' H' fp i' xx T acc H7 H8 hx' ⟨s7,e7,l7,rfl⟩ hT s8 e8 e9
    obtain ⟨z,hz,rfl⟩:=rT hx'
    walk_at "rd"
    refine dM (SqT.of e8) ?_
    walk_at "rd"
    have eu:=rS (w.map fun (s:Nat)=>((s:Nat):Int)) (i:Int) i'
    refine dy (fun c=>?_) (fun c=>?_)
    ·walk_at "rd"
     refine bf.put hr' (fun _ _ _ _ r _=>r) (s7.trans s8) e9 l7 ?_
     rw [eu,if_pos (by rw [hz,c]),Nr]
     rfl
    ·refine bf.skip (s7.trans s8) e9 l7 ?_
     rw [eu,if_neg (by rw [hz]; intro z; exact c (Nf z)),OY]
   ·rintro p7 acc7 H7 hp7 s7 e7 rfl
    rw [MY,MY] at e7
    walk_at "rd"
    refine yn (SqL.of e7) fun t2 H8 ht2 s8 e8=>?_
    have s78:=s7.trans s8
    refine bf.put hp' (fun _ _ _ _ r k=>by obtain ⟨ts,e,p⟩:=r; exact ⟨ts,e,Paired.mapP p fun _ _ e=>k _ _ e⟩) (s6.trans s78) (s78 _ _ e6) l6 ⟨ts++[t2],by rw [Nr]; rfl,?_⟩
    rw [b9 hwi]
    exact so (Paired.mapP r6 fun _ _ e=>s78 _ _ e) e8
  ·rintro po acc H6 hpo s6 e6 ⟨ts,rfl,r6⟩
   rw [MY,hlr,NI] at r6
   walk_at "rd"
   refine ⟨po,_,ws.map fun w=>vq (eQ w (i:Int)),true,rfl,e6,IF r6,?_,by rw [MY]; omega,fun du H9 hdu s9 e9=>?_⟩
   ·intro k hk
    obtain ⟨w,_,rfl⟩:=Oo.mp hk
    rfl
   rw [uM] at e9
   have s69:=s6.trans s9
   walk_at "rd"
   have lu:us.length=i:=by rw [NG r5,MY,OG]
   refine kn (s69 _ _ e5) (by rw [MY,M8]; omega) fun HA oA eA=>?_
   walk_at "rd"
   have ndu:du≠lv:=fun z=>by rw [z,s6 _ _ e5] at hdu; cases hdu
   refine ⟨_,us++[du],rfl,(s5.trans s69).off hlv oA,by rw [eA,Nr]; rfl,?_⟩
   rw [PP,Nr]
   exact so (Paired.mapP r5 fun u v ⟨z1,z2⟩=>⟨(oA _ z2).trans (s69 _ _ z1),z2⟩) ⟨(oA _ ndu).trans e9,ndu⟩
 ·rintro σ H5 ⟨u6,us,rfl,s5,e5,r5⟩
  refine hNX _ _ ?_
  clear hNX
  refine bA (nN (LM ?_))
  walk_at "rd"
  intro x dx hx hdx hne
  have st:am H5 (upd (upd H5 dx (.own x)) x (.ins G.Table dx [])):=((am.refl H5).upd hdx _).upd hx _
  have xlv:x≠lv:=fun z=>by rw [z,e5] at hx; cases hx
  refine ⟨[lv],x,dx,q,c,ss,rfl,az,st _ _ (s5 _ _ (s3 _ _ eq1)),pk,by omega,fun b hb z=>(by rw [M0.mp hb,st _ _ e5] at z; cases z),fun hb=>xlv (M0.mp hb),fun H6 pv pe kx hpv hpe t6=>?_⟩
  have s6:am H5 H6:=fun b o e=>kx _ _ (bn e hx) (st _ _ e)
  have hpv5:=st.free hpv
  have hpe5:=st.free hpe
  have lvv:lv≠pv:=fun z=>by rw [z,hpv5] at e5; cases e5
  have lve:lv≠pe:=fun z=>by rw [z,hpe5] at e5; cases e5
  have new3:∀ b∈[pv,pe,lv],H3 b=none:=fun b hb=>by
   rcases M6.mp hb with z | z
   ·rw [z]; exact s5.free hpv5
   ·rcases M6.mp z with z | z
    ·rw [z]; exact s5.free hpe5
    ·rw [M0.mp z]; exact hlv
  have L6:d3 [pv,pe,lv] H6 lv (TM.begun c ss).vw:=⟨us,s6 _ _ e5,Paired.mapP r5 fun u v ⟨z1,z2⟩=>⟨s6 _ _ z1,fun z=>by
   rcases M6.mp z with y | y
   ·rw [y,hpv5] at z1; cases z1
   ·rcases M6.mp y with y | y
    ·rw [y,hpe5] at z1; cases z1
    ·exact z2 (M0.mp y)⟩⟩
  have npd:pd∉[pv,pe,lv]:=fun z=>by
   obtain ⟨rs,er,_⟩:=id D3
   rw [new3 _ z] at er
   cases er
  have subv:∀ b∈[pv,pe],b∈[pv,pe,lv]:=fun b hb=>by
   rcases M6.mp hb with z | z
   ·rw [z]; exact M7
   ·rw [M0.mp z]; exact Nh _ M7
  have mlv:lv∈[pv,pe,lv]:=Nh _ (Nh _ M7)
  have nlv:lv∉[pv,pe]:=fun z=>by
   rcases M6.mp z with y | y
   ·exact lvv y
   ·exact lve (M0.mp y)
  refine ⟨rfl,?_⟩
  walk_at "rs"
  refine km fun NX hNX=>?_
  walk_at "rd"
  refine ⟨a,ns,8,rfl,(hSc3.same s5).same s6,by decide,by decide,?_⟩
  walk_at "rd"
  obtain ⟨m,hm8,hm5⟩:∃ m:Nat,cz ns 8 % 5=(m:Int)/\m < 5:=⟨(cz ns 8 % 5).toNat,by omega,by omega⟩
  rw [hm8]
  refine ko m (by omega) (by omega) (by omega) (fun i σ H7=>∃ (u6 u8 u9 u10 u11 u12:Option V) (T:TM),σ=[some (.ref a),some (.int c),some (.ref q),some (.int ss.length),some (.ref pd),some (.ref lv),u6,some (.ref x),u8,u9,u10,u11,u12]/\am H3 H7/\Tb G [pv,pe,lv] H7 x pv pe T/\d3 [pv,pe,lv] H7 lv T.vw/\T.c=c/\T.ss=ss/\T.ds.length<=2 * i) ⟨u6,none,none,none,none,none,_,rfl,s5.trans s6,t6,L6,rfl,rfl,M1 _⟩ ?_ ?_
  ·clear t6 L6 r5 e5 kx st s6 hpv hpe hpv5 hpe5
   clear us
   rintro i σ H7 hi ⟨u6,u8,u9,u10,u11,u12,T,rfl,s7,t7,L7,hc,hss,hds⟩
   have hk:T.k=ss.length:=by unfold TM.k; rw [hss]
   have hws:T.ws=KM.bQ (ss++[c - ss.sum]) c:=by unfold TM.ws; rw [hc,hss]
   have D7:ba H7 pd T.ws:=by rw [hws]; exact D3.same' s7
   have n2:=t7.ok.n2
   have rep:∀ {T:TM},T.Ok->∀ v∈T.vw,Rep T.n v:=fun ok v hv=>Iz (ok.win v hv) (ok.can v hv)
   refine bA ?_
   walk_at "rs"
   refine ⟨a,ns,10 + 13 * (i:Int),c,ss.length,14,rfl,hSc3.same s7,by omega,by omega,h1,h5,by decide,by decide,fun v s H8 s8 hS hok hw=>?_⟩
   have okT:s.Ok T.c T.k:=by rw [hc,hk]; exact hok
   walk_at "rs"
   refine bA ?_
   walk_at "rs"
   refine ⟨a,ns,9,rfl,(hSc3.same s7).same s8,by decide,by decide,?_⟩
   walk_at "rs"
   refine ⟨by simp [M8],fun l9 H9 hl9 s9 e9=>?_⟩
   walk_at "rs"
   obtain ⟨dv,hdv,dv0,dv1⟩:=MT (i:=i) (by omega)
   refine bI (SqL.of e9) hdv ?_
   walk_at "rs"
   refine ⟨_,ss.length,rfl,h5,fun gp gr HA sA eA pw hb=>?_⟩
   have s7A:=(s8.trans s9).trans sA
   walk_at "rs"
   refine bA ?_
   walk_at "rs"
   have tA:=t7.same s7A
   have LA:=L7.same s7A
   have SA:=hS.keep (s9.trans sA).keep
   refine ⟨pd,lv,v,T.c,T.n,T.ws,T.vw,s,rfl,LA.tab t7.ok (D7.same' s7A),rep t7.ok,SA,by rw [t7.ok.len]; exact okT,by omega,fun p11 HB hp11 sB eB=>?_⟩
   have eB':HB p11=some (.lst (blV T.n (T.tr s))):=eB
   have tB:=tA.same sB
   have n11:p11∉[pv,pe,lv]:=tA.off hp11
   walk_at "rs"
   refine bA ?_
   walk_at "rs"
   obtain ⟨dx1,fs1,hx1,hl1⟩:=tB.at "truths" (by decide +kernel) (by decide +kernel) (by decide +kernel) (by decide +kernel) (by decide +kernel) (by decide +kernel)
   refine iX ?_
   walk_at "rs"
   refine ⟨x,dx1,fs1,rfl,hx1,hl1,?_⟩
   walk_at "rs"
   refine ⟨_,x,pv,pe,T,v,s,rfl,tB,SA.keep sB.keep,okT,by omega,fun pC HC hpC sC eC=>?_⟩
   walk_at "rs"
   refine ⟨pC,p11,T.n,T.tr s,rfl,eC,sC _ _ eB',by omega,fun HD sD=>?_⟩
   have sBD:=sC.trans sD
   walk_at "rs"
   refine bA ?_
   walk_at "rs"
   have tD:=tB.same sBD
   obtain ⟨dx2,fs2,hx2,hl2⟩:=tD.at "word" (by decide +kernel) (by decide +kernel) (by decide +kernel) (by decide +kernel) (by decide +kernel) (by decide +kernel)
   refine iX ?_
   walk_at "rs"
   refine ⟨x,dx2,fs2,rfl,hx2,hl2,?_⟩
   walk_at "rs"
   have sAD:=sB.trans sBD
   refine ⟨_,x,pv,pe,gp,T,gr,v,s,rfl,tD,sAD _ _ eA,pw,fun h hh=>by rw [hk]; exact hb h hh,SA.keep sAD.keep,okT,by omega,by omega,fun p12 Hm HE kE tE hp12 sE eE=>?_⟩
   have s7D:=(s7A.trans sAD)
   have s3D:=s7.trans s7D
   have e11D:=sBD _ _ eB'
   have e11m:=kE.lst (fun z=>n11 (subv _ z)) e11D
   walk_at "rs"
   refine bA ?_
   walk_at "rs"
   refine ⟨p12,p11,T.n,T.tr s,rfl,eE,sE _ _ e11m,by omega,fun HF sF=>?_⟩
   walk_at "rs"
   refine bA ?_
   walk_at "rs"
   refine ⟨p6 (sF _ _ eE),?_⟩
   walk_at "rs"
   refine DD (sF _ _ eE) fun HG oG eG=>?_
   have smG:am Hm HG:=(sE.trans sF).off hp12 oG
   have tG:=tE.same smG
   have kDm:Kp [pv,pe,lv] HD Hm:=kE.mono subv
   have LG:d3 [pv,pe,lv] HG lv T.vw:=(((LA.same sAD).kp kE subv nlv)).same smG
   have s3m:am H3 Hm:=kDm.new s3D new3
   have s3G:=s3m.trans smG
   have e11G:=smG _ _ e11m
   have egG:=smG _ _ (kE.tup (sAD _ _ eA))
   have DG:ba HG pd T.ws:=by rw [hws]; exact D3.same' s3G
   walk_at "rs"
   refine km fun NX2 hNX2=>?_
   walk_at "rd"
   refine rO (au gr) (SqT.of egG) (fun j σ HH=>∃ u6:Option V,σ=[some (.ref a),some (.int c),some (.ref q),some (.int ss.length),some (.ref pd),some (.ref lv),u6,some (.ref x),some (.int i),some v,some (.ref gp),some (.ref p11),some (.ref p12)]/\Kp [lv] HG HH/\d3 [pv,pe,lv] HH lv (lrn T.vw (gr.take j) (blA T.n (T.tr s)))) ⟨u6,rfl,Kp.of (am.refl _),LG⟩ ?_ ?_ ?_
   ·rintro j σ HH hj ⟨u6,rfl,kH,LH⟩
    exact SqT.of (kH.tup egG)
   ·rintro j y σ HH hy ⟨u6,rfl,kH,LH⟩
    obtain ⟨hd,hh,rfl⟩:=eY hy
    have hk':hd < T.vw.length:=by rw [t7.ok.len,hk]; exact hb hd (M9 hh)
    have nlv1:∀ {b:Addr},b∉[pv,pe,lv]->b∉[lv]:=fun n z=>n (by rw [M0.mp z]; exact mlv)
    have e11H:=kH.lst (nlv1 n11) e11G
    obtain ⟨rs,er,hr⟩:=DG.kp kH (nlv1 npd)
    have lr:(rs.map V.ref).length=T.n:=by rw [MY]; exact NG hr
    obtain ⟨us,u,elH,lus,hat',euH⟩:=LH.get (i:=hd) (by rw [mM]; exact hk')
    rw [mM] at lus
    have hvw:Within T.n ((lrn T.vw (gr.take j) (blA T.n (T.tr s))).getD hd []):=by
     refine oZ (as:=blA T.n (T.tr s)) (P:=Within T.n) (fun v hv=>m5 hv (tU _ _)) (gr.take j) T.vw (fun h hh=>by rw [t7.ok.len,hk]; exact hb h (T1 hh)) t7.ok.win _ ?_
     rw [Ni,MZ (by rw [mM]; exact hk')]
     exact Pj _
    have tH:Tb G [pv,pe,lv] HH x pv pe (T.word gr s):=tG.kp kH (fun b hb=>by rw [M0.mp hb]; exact mlv) (fun z=>lvv (M0.mp z).symm) (fun z=>lve (M0.mp z).symm)
    generalize hvv:(lrn T.vw (gr.take j) (blA T.n (T.tr s))).getD hd []=vv at *
    have hvl:=hvw.1
    walk_at "rd"
    rw [lr]
    refine vh T.n (by omega) (by omega) (by omega) (fun j acc H'=>∃ ts:List Addr,acc=ts.map V.ref/\mK H' ts (((au vv).zip (blV T.n (T.tr s))).take j)) (fun _ _=>⟨[],rfl,.nil⟩) ?_ ?_
    ·rintro p' hp' C s' H' fp j acc H4 hj ⟨s4,e4,l4,ts,rfl,r4⟩
     have hvj:(au vv)[j]?=some ((au vv)[j]'(by rw [aR]; omega)):=MZ _
     generalize (au vv)[j]'(by rw [aR]; omega)=vj at hvj
     walk_at "rd"
     refine bI (SqL.of (s4 _ _ elH)) hat' ?_
     walk_at "rd"
     refine bI (SqL.of (s4 _ _ euH)) (cP hvj) ?_
     walk_at "rd"
     refine bI (SqL.of (s4 _ _ e11H)) (BC hj) ?_
     walk_at "rd"
     refine ⟨by simp [M8],fun tp H5 htp s5 e5=>?_⟩
     refine bf.put hp' (fun _ _ _ _ r k=>by obtain ⟨ts,e,p⟩:=r; exact ⟨ts,e,Paired.mapP p fun _ _ e=>k _ _ e⟩) (s4.trans s5) (s5 _ _ e4) l4 ⟨ts++[tp],by rw [Nr]; rfl,?_⟩
     rw [zy hvj (ku hj)]
     exact so (Paired.mapP r4 fun _ _ e=>s5 _ _ e) e5
    ·rintro pl acc H4 hpl s4 e4 ⟨ts,rfl,r4⟩
     rw [PD (by rw [OK,aR,br]; omega)] at r4
     walk_at "rd"
     refine ⟨pl,_,_,true,rfl,e4,ql r4 (BG _ _),?_,by rw [MY,OK]; omega,fun nl H5 hnl s5 e5=>?_⟩
     ·intro k hk
      obtain ⟨w,_,rfl⟩:=Oo.mp hk
      rfl
     rw [oJ] at e5
     walk_at "rd"
     have s35:=s4.trans s5
     refine mQ (s35 _ _ elH) (EB (by rw [MY]; omega)) ?_
     have nnl:nl∉[pv,pe,lv]:=(tH.same s4).off hnl
     refine ⟨_,rfl,(kH.trans (Kp.of s35)).upd (s35 _ _ elH) (M0.mpr rfl),?_⟩
     rw [b9 hh,BH,hvv]
     exact (LH.same s35).set mlv (s35 _ _ elH) hd e5 nnl
   ·rintro σ HH ⟨u6,rfl,kH,LH⟩
    refine hNX2 _ _ ?_
    clear hNX2
    rw [aR,NI] at LH
    have tH:Tb G [pv,pe,lv] HH x pv pe (T.word gr s):=tG.kp kH (fun b hb=>by rw [M0.mp hb]; exact mlv) (fun z=>lvv (M0.mp z).symm) (fun z=>lve (M0.mp z).symm)
    have s3H:am H3 HH:=kH.new s3G fun b hb=>by rw [M0.mp hb]; exact hlv
    have SH:aU HH v s:=((((SA.keep sAD.keep).keep kE.keep).keep smG.keep)).keep kH.keep
    have LH':d3 [pv,pe,lv] HH lv (T.word gr s).vw:=LH
    refine bA ?_
    walk_at "rs"
    refine ⟨_,x,pv,pe,lv,T.word gr s,rfl,tH,LH',fun HI sI=>?_⟩
    walk_at "rs"
    refine ⟨_,x,pv,pe,lv,T.word gr s,rfl,tH.same sI,LH'.same sI,fun HJ sJ=>?_⟩
    have sHJ:=sI.trans sJ
    walk_at "rs"
    have tJ:=tH.same sHJ
    refine bA ?_
    walk_at "rs"
    obtain ⟨dx3,fs3,hx3,hl3⟩:=tJ.at "truths" (by decide +kernel) (by decide +kernel) (by decide +kernel) (by decide +kernel) (by decide +kernel) (by decide +kernel)
    refine iX ?_
    walk_at "rs"
    refine ⟨x,dx3,fs3,rfl,hx3,hl3,?_⟩
    walk_at "rs"
    have SJ:=SH.keep sHJ.keep
    refine ⟨_,x,pv,pe,T.word gr s,v,s,rfl,tJ,SJ,okT,by omega,fun pK HK hpK sK eK=>?_⟩
    walk_at "rs"
    have sHK:=sHJ.trans sK
    have DK:ba HK pd (T.word gr s).ws:=by show ba HK pd T.ws; rw [hws]; exact (D3.same' s3H).same' sHK
    refine ⟨pd,lv,v,T.c,T.n,T.ws,(T.word gr s).vw,s,rfl,(LH'.same sHK).tab tH.ok DK,rep tH.ok,SJ.keep sK.keep,by rw [tH.ok.len]; exact okT,by omega,fun pN HN hpN sN eN=>?_⟩
    walk_at "rs"
    refine ⟨pK,pN,T.n,(T.word gr s).tr s,rfl,sN _ _ eK,eN,by omega,fun HO sO=>?_⟩
    have sHO:=(sHK.trans sN).trans sO
    have s3O:=s3H.trans sHO
    have tO:=tH.same sHO
    have LO:=LH'.same sHO
    have dsW:(T.word gr s).ds.length=T.ds.length + 1:=by show (T.ds++[_]).length=_; rw [Nq]; rfl
    walk_at "rs"
    have stop:∀ σ6,∃ (u6 u8 u9 u10 u11 u12:Option V) (T':TM),[some (.ref a),some (.int c),some (.ref q),some (.int ss.length),some (.ref pd),some (.ref lv),σ6,some (.ref x),some (.int (i:Int)),some v,some (.ref gp),some (.ref p11),some (.ref p12)]=[some (.ref a),some (.int c),some (.ref q),some (.int ss.length),some (.ref pd),some (.ref lv),u6,some (.ref x),u8,u9,u10,u11,u12]/\am H3 HO/\Tb G [pv,pe,lv] HO x pv pe T'/\d3 [pv,pe,lv] HO lv T'.vw/\T'.c=c/\T'.ss=ss/\T'.ds.length<=2 * (i + 1):=fun σ6=>⟨_,_,_,_,_,_,T.word gr s,rfl,s3O,tO,LO,hc,hss,by omega⟩
    refine dy (fun cp=>?_) (fun cp=>?_)
    ·walk_at "rd"
     refine ⟨a,ns,6,rfl,hSc3.same s3O,by decide,by decide,?_⟩
     walk_at "rd"
     refine ⟨by simp [M8],fun lP HP hlP sP eP=>?_⟩
     walk_at "rd"
     obtain ⟨d2,hd2,d20,d21⟩:=MU (i:=i) (by omega)
     refine bI (SqL.of eP) hd2 ?_
     walk_at "rd"
     refine dy (fun cq=>?_) (fun cq=>?_)
     ·walk_at "rd"
      have tP:=tO.same sP
      refine ⟨a,ns,59 + (i:Int),rfl,(hSc3.same s3O).same sP,by omega,by omega,?_⟩
      walk_at "rd"
      have DP:ba HP pd (T.word gr s).ws:=by show ba HP pd T.ws; rw [hws]; exact (D3.same' s3O).same' sP
      refine ⟨_,x,pv,pe,lv,pd,T.word gr s,_,ss.length,rfl,tP,hk,DP,npd,LO.same sP,mlv,lvv,lve,(show 0 < T.c by omega),by omega,fun HR T' kR hc' hss' hds' tR LR=>?_⟩
      have s3R:am H3 HR:=kR.new (s3O.trans sP) new3
      have hcT:T'.c=c:=hc'.trans hc
      have hssT:T'.ss=ss:=hss'.trans hss
      have hkT:T'.k=ss.length:=by unfold TM.k; rw [hssT]
      have okT':s.Ok T'.c T'.k:=by rw [hcT,hkT]; exact hok
      have hwsT:T'.ws=KM.bQ (ss++[c - ss.sum]) c:=by unfold TM.ws; rw [hcT,hssT]
      have SR:=(SH.keep (sHO.trans sP).keep).keep kR.keep
      walk_at "rd"
      obtain ⟨dx4,fs4,hx4,hl4⟩:=tR.at "truths" (by decide +kernel) (by decide +kernel) (by decide +kernel) (by decide +kernel) (by decide +kernel) (by decide +kernel)
      refine iX ?_
      walk_at "rd"
      refine ⟨x,dx4,fs4,rfl,hx4,hl4,?_⟩
      walk_at "rd"
      refine ⟨_,x,pv,pe,T',v,s,rfl,tR,SR,okT',by omega,fun pS HS hpS sS eS=>?_⟩
      walk_at "rd"
      have DS:ba HS pd T'.ws:=by rw [hwsT]; exact (D3.same' s3R).same' sS
      refine ⟨pd,lv,v,T'.c,T'.n,T'.ws,T'.vw,s,rfl,(LR.same sS).tab tR.ok DS,rep tR.ok,SR.keep sS.keep,by rw [tR.ok.len]; exact okT',by omega,fun pU HU hpU sU eU=>?_⟩
      walk_at "rd"
      have nT':=tR.ok.n2
      refine ⟨pS,pU,T'.n,T'.tr s,rfl,sU _ _ eS,eU,by omega,fun HW sW=>?_⟩
      have sRW:=(sS.trans sU).trans sW
      walk_at "rd"
      exact ⟨_,_,_,_,_,_,T',rfl,s3R.trans sRW,tR.same sRW,LR.same sRW,hcT,hssT,by omega⟩
     ·walk_at "rd"
      exact ⟨_,_,_,_,_,_,T.word gr s,rfl,s3O.trans sP,tO.same sP,LO.same sP,hc,hss,by omega⟩
    ·walk_at "rd"
     exact stop _
  ·rintro σ H7 ⟨u6,u8,u9,u10,u11,u12,T,rfl,s7,t7,L7,hc,hss,hds⟩
   refine hNX _ _ ?_
   walk_at "rd"
   refine ⟨_,x,pv,pe,lv,T,rfl,t7,L7,fun H8 s8=>?_⟩
   have t8:=t7.same s8
   walk_at "rd"
   obtain ⟨dx1,fs1,hx1,hl1⟩:=t8.at "deals" (by decide +kernel) (by decide +kernel) (by decide +kernel) (by decide +kernel) (by decide +kernel) (by decide +kernel)
   refine iX ?_
   walk_at "rd"
   refine ⟨x,dx1,fs1,rfl,hx1,hl1,?_⟩
   walk_at "rd"
   refine ⟨_,x,pv,pe,T,rfl,t8,fun pd2 H9 hpd2 s9 d9=>?_⟩
   walk_at "rd"
   have D9:ba H9 pd T.ws:=by unfold TM.ws; rw [hc,hss]; exact ((D3.same' s7).same' s8).same' s9
   refine Kd 2 (by decide) (EE d9 D9) ?_
   walk_at "rd"
   exact g _
end
section
open PySem.Spec
theorem DA.stay {a:Addr} {kvs:List (IA×V)} {h1 h2:Heap} (d:DA a kvs h1) (k:∀ o,h1.get? a=some o->h2.get? a=some o):DA a kvs h2:=by
 obtain ⟨z,y,P,w,vs,r,o,es,ep,e,c⟩:=d
 exact ⟨z,y,P,w,vs,r,o,es,ep,k _ e,c⟩
theorem DB.stay {a:Addr} {zs:List (List IK×Addr×V)} {h1 h2:Heap} (d:DB a zs h1) (k:∀ o,h1.get? a=some o->h2.get? a=some o):DB a zs h2:=by
 obtain ⟨z,y,xs,r,o,es,ep,e,c⟩:=d
 exact ⟨z,y,xs,r,o,es,ep,k _ e,c⟩
theorem DA.ok {P:Program} {w:World} {H:Hp} {h:Heap} {a:Addr} {kvs:List (IA×V)} (d:DA a kvs h):bZ P w H h a (dA a kvs):=by
 obtain ⟨_,_,_,_,_,_,o,_,_,e,_⟩:=id d
 exact ⟨d,⟨o,e⟩,fun _ _ d k=>d.stay k⟩
theorem DB.ok {P:Program} {w:World} {H:Hp} {h:Heap} {a:Addr} {zs:List (List IK×Addr×V)} (d:DB a zs h):bZ P w H h a (dB a zs):=by
 obtain ⟨_,_,_,_,o,_,_,e,_⟩:=id d
 exact ⟨d,⟨o,e⟩,fun _ _ d k=>d.stay k⟩
theorem ZX.length {zs:List (List IK×Addr×V)} {xs:List (List IK×Addr×Value)} (r:ZX zs xs):zs.length=xs.length:=NG r
theorem ZX.val {zs:List (List IK×Addr×V)} {xs:List (List IK×Addr×Value)} (r:ZX zs xs) (k:List IK):iL (atZ zs k) ((atKey xs k).map (·.2)):=by
 unfold ZX at r
 induction r with
 | nil=>exact PC
 | @cons p q ps qs h t ih=>
  obtain ⟨h1,_,h2⟩:=h
  by_cases e:p.1=k
  ·have e':q.1=k:=h1.symm.trans e
   have b:atKey (q :: qs) k=some q.2:=by simp [atKey,NM,e']
   have c:atZ (p :: ps) k=some p.2.2:=by simp [atZ,NM,e]
   rw [c,b]; exact h2
  ·have e':¬ q.1=k:=fun z=>e (h1.trans z)
   have b:atKey (q :: qs) k=atKey qs k:=by simp [atKey,NM,e']
   have c:atZ (p :: ps) k=atZ ps k:=by simp [atZ,NM,e]
   rw [c,b]; exact ih
noncomputable def lX (zs:List (List IK×Addr×V)) (k:List IK) (b:Addr) (v:V):List (List IK×Addr×V):=
 if (atZ zs k).isSome then zs.map (fun x=>if x.1=k then (x.1,x.2.1,v) else x) else zs++[(k,b,v)]
theorem ZX.repl {zs:List (List IK×Addr×V)} {xs:List (List IK×Addr×Value)} (r:ZX zs xs) (k:List IK) {v:V} {u:Value} (rv:aM v u):ZX (zs.map fun x=>if x.1=k then (x.1,x.2.1,v) else x) (xs.map (putAt k u)):=by
 unfold ZX at r ⊢
 induction r with
 | nil=>exact .nil
 | @cons p q ps qs h t ih=>
  rw [Np,Np]
  refine .cons ?_ ih
  obtain ⟨h1,h2,h3⟩:=h
  unfold putAt
  by_cases e:p.1=k
  ·rw [if_pos e,if_pos (h1.symm.trans e)]; exact ⟨h1,h2,rv⟩
  ·rw [if_neg e,if_neg (fun z=>e (h1.trans z))]; exact ⟨h1,h2,h3⟩
theorem ZX.put {zs:List (List IK×Addr×V)} {xs:List (List IK×Addr×Value)} (r:ZX zs xs) (k:List IK) {b:Addr} {v:V} {u:Value} (rv:aM v u):ZX (lX zs k b v) (storedH xs k b u):=by
 have e:(atZ zs k).isSome=(atKey xs k).isSome:=by
  rw [(r.val k).isSome_eq,UN]
 unfold lX storedH
 rw [e]
 by_cases q:(atKey xs k).isSome=true
 ·rw [if_pos q,if_pos q]; exact r.repl k rv
 ·rw [if_neg q,if_neg q]; exact Paired.snoc r ⟨rfl,rfl,rv⟩
theorem Kr (zs:List (List IK×Addr×V)) (k j:List IK) (b:Addr) (v:V):atZ (lX zs k b v) j=if j=k then some v else atZ zs j:=by
 have hm:∀ ys:List (List IK×Addr×V),atZ (ys.map fun x=>if x.1=k then (x.1,x.2.1,v) else x) j=(atZ ys j).map fun y=>if j=k then v else y:=by
  intro ys
  induction ys with
  | nil=>rfl
  | cons p r ih=>
   rw [Np]
   unfold atZ at ih ⊢
   by_cases h:p.1=k
   ·rw [if_pos h]
    by_cases e:p.1=j
    ·simp [NM,e,e.symm.trans h]
    ·simp [NM,e]; simpa using ih
   ·rw [if_neg h]
    by_cases e:p.1=j
    ·have:¬ j=k:=fun z=>h (e.trans z)
     simp [NM,e,this]
    ·simp [NM,e]; simpa using ih
 have ha:∀ ys:List (List IK×Addr×V),atZ ys k=none->atZ (ys++[(k,b,v)]) j=if j=k then some v else atZ ys j:=by
  intro ys
  induction ys with
  | nil=>
   intro _
   by_cases e:k=j
   ·simp [atZ,NM,e]
   ·have:¬ j=k:=fun z=>e z.symm
    simp [atZ,NM,e,this]
  | cons p r ih=>
   intro hn
   have hk:¬ p.1=k:=fun z=>by simp [atZ,NM,z] at hn
   have hn':atZ r k=none:=by simpa [atZ,NM,hk] using hn
   have ih':=ih hn'
   by_cases e:p.1=j
   ·have:¬ j=k:=fun z=>hk (e.trans z)
    simp [atZ,NM,e,this]
   ·have c:atZ (p :: (r++[(k,b,v)])) j=atZ (r++[(k,b,v)]) j:=by simp [atZ,NM,e]
    have c':atZ (p :: r) j=atZ r j:=by simp [atZ,NM,e]
    rw [Vp,c,c',ih']
 unfold lX
 cases q:atZ zs k with
 | some y=>
  rw [if_pos (show (some y).isSome=true from rfl),hm]
  by_cases e:j=k
  ·subst e; rw [q,if_pos rfl]; simp
  ·rw [if_neg e]; cases atZ zs j <;> simp [e]
 | none=>rw [if_neg (show ¬ (none:Option V).isSome=true by decide)]; exact ha zs q
theorem oM (zs:List (List IK×Addr×V)) (k:List IK) (b:Addr) (v:V):(lX zs k b v).length<=zs.length + 1:=by
 unfold lX
 split
 ·rw [MY]; omega
 ·rw [Nq,NC,VP]; omega
theorem IG {zs:List (List IK×Addr×V)} {k:List IK} {b:Addr} {v:V} {z:List IK×Addr×V} (h:z∈lX zs k b v):(∃ z0∈zs,z.1=z0.1/\z.2.1=z0.2.1)\/(z.1=k/\z.2.1=b):=by
 unfold lX at h
 split at h
 ·obtain ⟨z0,h0,rfl⟩:=Oo.mp h
  refine .inl ⟨z0,h0,?_⟩
  split <;> exact ⟨rfl,rfl⟩
 ·rcases NL.mp h with h | h
  ·exact .inl ⟨z,h,rfl,rfl⟩
  ·rw [M0.mp h]; exact .inr ⟨rfl,rfl⟩
section
variable {X:Cx} {pins:List (Addr×Obj)} {σ:St} {H:Hp} {s:Shared} {a:Addr} {y v:V} {u r:Value} {A:Around} {E:Value->Shared->Prop} {srt:Bool} {f:MK->Option V} {n:Nat} {k:MK}
theorem tW {k:IA} (h:iaV y=some k) (ry:aM y u):p9 k u=true:=by
 cases y with
 | non=>cases h; cases ry; rfl
 | bl b=>cases h; cases ry; simp [p9]
 | int i=>cases h; obtain ⟨t,rfl⟩:=ry; simp [p9]
 | _=>cases h
theorem DE {P:Program} {w:World}:∀ {ks:List IA} {ys:List V} {us:List Value},ys.map iaV=ks.map some->aK ys us->ItemsAre (db P w) ks us
 | [],[],_,_,.nil=>.nil
 | k :: ks,y :: ys,_,e,.cons h t=>by
  rw [Np,Np] at e
  injection e with e1 e2
  exact .cons (tW e1 h) (DE e2 t)
 | [],_ :: _,_,e,_=>by simp at e
 | _ :: _,[],_,e,_=>by simp at e
theorem GR (ok:HOk X.prog X.w H s.heap) {c:Addr} {xs:List V} (e:H c=some (.tup xs)):∃ its,aK xs its/\∃ o n,s.heap.get? c=some o/\o.cls=.type "tuple"/\o.data=.seq its.toArray n:=by
 obtain ⟨_,its,r,o,h1,h2,⟨n,h3⟩,_⟩:=(show bZ X.prog X.w H s.heap c (.tup xs) from ok c _ e)
 exact ⟨its,r,o,n,h1,h2,h3⟩
theorem Ks (ok:HOk X.prog X.w H s.heap) {k:IK} (h:nO H y k) (ry:aM y u):dt X.prog X.w s.heap k u:=by
 cases k with
 | inl a=>exact tW h ry
 | inr as=>
  obtain ⟨c,ys,rfl,e,q⟩:=h
  cases ry
  obtain ⟨its,rv,o,n,h1,h2,h3⟩:=GR ok e
  exact ⟨c,rfl,o,its.toArray,n,h1,h2,h3,by simpa using DE q rv⟩
theorem IH (ok:HOk X.prog X.w H s.heap) {xs:List V} {ks:List IK} {us:List Value} (p:Paired (nO H) xs ks):aK xs us->Paired (dt X.prog X.w s.heap) ks us:=by
 induction p generalizing us with
 | nil=>intro q; cases q; exact .nil
 | cons h t ih=>intro q; cases q with
  | cons r q=>exact .cons (Ks ok h r) (ih q)
theorem wW (ok:HOk X.prog X.w H s.heap) {c:Addr} {ks:List IK} (h:ci H (.ref c) (.inr ks)):iP X.prog X.w s.heap ks c:=by
 obtain ⟨c',xs,e,ec,q⟩:=h
 cases e
 obtain ⟨its,rv,o,n,h1,h2,h3⟩:=GR ok ec
 exact ⟨o,its.toArray,n,h1,h2,h3,by simpa using IH ok q rv⟩
theorem tX (h:ci H y k) (hs:gh k=true):∃ c ks,y=.ref c/\k=.inr ks:=by
 cases k with
 | inl _=>cases hs
 | inr ks=>obtain ⟨c,xs,e,_⟩:=h; exact ⟨c,ks,e,rfl⟩
theorem GS {P P':Program} {w w':World} {es:List Uq} {vs:List (IA×Value)} (h:Pairs (db P w) es vs):Pairs (db P' w') es vs:=by
 induction h with
 | nil=>exact .nil
 | cons a b _ ih=>exact .cons a b ih
theorem wX {kvs:List (IA×V)} (ok:HOk X.prog X.w H s.heap) (e:H a=some (dA a kvs)):kvs.length<=Nb/\(a == OW)=false/\∃ vs,KV kvs vs/\s.heap.DictOf (db X.prog X.w) a vs:=by
 obtain ⟨⟨z,y,P,w,vs,r,o,es,ep,h1,h2,h3,h4,h5,h6⟩,_⟩:=(show bZ X.prog X.w H s.heap a (dA a kvs) from ok a _ e)
 exact ⟨z,y,vs,r,o,es,ep,h1,h2,h3,h4,GS h5,h6⟩
theorem wY {zs:List (List IK×Addr×V)} (ok:HOk X.prog X.w H s.heap) (e:H a=some (dB a zs)) (hk:∀ z∈zs,ci H (.ref z.2.1) (.inr z.1)):zs.length<=Nb/\(a == OW)=false/\∃ xs,ZX zs xs/\s.heap.DictOfH (mU X.prog X.w) a xs:=by
 obtain ⟨⟨z,y,xs,r,o,es,ep,h1,h2,h3,h4,h5⟩,_⟩:=(show bZ X.prog X.w H s.heap a (dB a zs) from ok a _ e)
 refine ⟨z,y,xs,r,o,es,ep,h1,h2,h3,h4,?_,h5⟩
 have all:∀ {l:List (List IK×Addr×V)} {m:List (List IK×Addr×Value)},ZX l m->(∀ z∈l,ci H (.ref z.2.1) (.inr z.1))->∀ x∈m,(mU X.prog X.w).is s.heap x.1 x.2.1:=by
  intro l m q
  unfold ZX at q
  induction q with
  | nil=>intro _ x hx; exact nomatch hx
  | @cons p q ps qs hq t ih=>
   intro hk x hx
   rcases M6.mp hx with e | hx
   ·subst e
    have:=hk p (M7 ..)
    rw [hq.1,hq.2.1] at this
    exact wW ok this
   ·exact ih (fun z hz=>hk z (Nh _ hz)) x hx
 exact all r hk
theorem Kt {Q:Value->Shared->Prop} (hu:A.units + 2 < cLine) (I:Inv X pins σ H s) (d:Dx H a srt f n) (hk:ci H y k) (hs:gh k=srt) (ry:aM y u) (h:∀ s',Inv X pins σ H s'->Q (.bool (f k).isNone) s'):
  wpAny (model X.prog X.w) A (OU .NotIn u (.ref a)) Q E s:=by
 rcases d with ⟨rfl,kvs,e,hf,_⟩ | ⟨rfl,zs,e,hz,hf,_⟩
 ·cases k with
  | inr _=>cases hs
  | inl k=>
   obtain ⟨z,hd,vs,rel,dd⟩:=wX I.hok e
   refine wpAny_notIn_of (knd:=db X.prog X.w) (tW hk ry) hd dd.mapOf ?_
   rw [<-(rel.val k).isSome_eq,hf k]
   rw [show (!(f (.inl k)).isSome)=(f (.inl k)).isNone by cases f (.inl k) <;> rfl]
   exact h _ (I.tok _)
 ·obtain ⟨c,ks,rfl,rfl⟩:=tX hk hs
  cases ry
  obtain ⟨z,hd,xs,rel,dd⟩:=wY I.hok e hz
  refine wpAny_notIn_heap (knd:=mU X.prog X.w) hu (wW I.hok hk) hd dd ?_
  have q:=(rel.val ks).isSome_eq
  rw [UN,hf ks] at q
  rw [<-q,show (!(f (.inr ks)).isSome)=(f (.inr ks)).isNone by cases f (.inr ks) <;> rfl]
  exact h _ (I.tok _)
theorem MA {Q:Value->Shared->Prop} (hu:A.units + 2 < cLine) (I:Inv X pins σ H s) (d:Dx H a srt f n) (hk:ci H y k) (hs:gh k=srt) (ry:aM y u) (ev:f k=some v) (h:∀ w' s',Inv X pins σ H s'->aM v w'->Q w' s'):
  wpAny (model X.prog X.w) A (getItem (.ref a) u) Q E s:=by
 rcases d with ⟨rfl,kvs,e,hf,_⟩ | ⟨rfl,zs,e,hz,hf,_⟩
 ·cases k with
  | inr _=>cases hs
  | inl k=>
   obtain ⟨z,hd,vs,rel,dd⟩:=wX I.hok e
   obtain ⟨w',hw,rw'⟩:=iL.some_of (v:=v) (o:=valueAt vs k) (by rw [<-ev,<-hf k]; exact rel.val k)
   exact Vs (knd:=db X.prog X.w) (tW hk ry) dd.mapOf hw (h w' _ (I.tok _) rw')
 ·obtain ⟨c,ks,rfl,rfl⟩:=tX hk hs
  cases ry
  obtain ⟨z,hd,xs,rel,dd⟩:=wY I.hok e hz
  obtain ⟨w',hw,rw'⟩:=iL.some_of (v:=v) (o:=(atKey xs ks).map (·.2)) (by rw [<-ev,<-hf ks]; exact rel.val ks)
  obtain ⟨p,hp,hp2⟩:=Tj.mp hw
  refine wpAny_getItem_heap (knd:=mU X.prog X.w) hu (wW I.hok hk) dd hp ?_
  rw [hp2]
  exact h w' _ (I.tok _) rw'
theorem ng {o:HO}:Off a H (upd H a o):=fun b hb=>aS hb
theorem GT {h':Heap} {t':Nat} {kvs kvs':List (IA×V)} {vs':List (IA×Value)} (I:Inv X pins σ H s) (e:H a=some (dA a kvs)) (hs:Nn a s.heap h') (z:kvs'.length<=Nb) (hd:(a == OW)=false) (rel:KV kvs' vs') (dd:h'.DictOf (db X.prog X.w) a vs'):
  Inv X pins σ (upd H a (dA a kvs')) { s with heap:=h',toks:=t' }:=by
 have he:∃ q,h'.get? a=some q:=let ⟨q,_,_,hq,_⟩:=dd; ⟨q,hq⟩
 exact Do I (by rw [e]; exact PC) hs he (DA.ok ⟨z,hd,X.prog,X.w,vs',rel,dd⟩)
theorem GU {h':Heap} {t':Nat} {zs zs':List (List IK×Addr×V)} {xs':List (List IK×Addr×Value)} (I:Inv X pins σ H s) (e:H a=some (dB a zs)) (hs:Nn a s.heap h') (z:zs'.length<=Nb) (hd:(a == OW)=false) (rel:ZX zs' xs') (dd:h'.DictOfH (mU X.prog X.w) a xs'):
  Inv X pins σ (upd H a (dB a zs')) { s with heap:=h',toks:=t' }:=by
 obtain ⟨o,es,ep,h1,h2,h3,h4,_,h5⟩:=dd
 exact Do I (by rw [e]; exact PC) hs ⟨o,h1⟩ (DB.ok ⟨z,hd,xs',rel,o,es,ep,h1,h2,h3,h4,h5⟩)
theorem DF {kvs:List (IA×V)} {k:IA} (e:H a=some (dA a kvs)) (hf:∀ k,gO kvs k=f (.inl k)) (hn:kvs.length<=n):Dx (upd H a (dA a (p8 kvs k v))) a false (i3 f (.inl k) v) (n + 1):=by
 refine .inl ⟨rfl,_,az,fun j=>?_,?_⟩
 ·rw [HM]
  unfold i3
  by_cases q:j=k
  ·rw [if_pos q,if_pos (by rw [q])]
  ·rw [if_neg q,if_neg (fun z=>q (UV z)),hf j]
 ·have:=oC kvs k v; omega
theorem DH {zs:List (List IK×Addr×V)} {k:List IK} {c:Addr} (e:H a=some (dB a zs)) (hz:∀ z∈zs,ci H (.ref z.2.1) (.inr z.1)) (hk:ci H (.ref c) (.inr k)) (hf:∀ k,atZ zs k=f (.inr k)) (hn:zs.length<=n):
  Dx (upd H a (dB a (lX zs k c v))) a true (i3 f (.inr k) v) (n + 1):=by
 have kp:iO H (upd H a (dB a (lX zs k c v))):=ng.keepD fun xs q=>by rw [e] at q; cases q
 refine .inr ⟨rfl,_,az,fun z h=>?_,fun j=>?_,?_⟩
 ·rcases IG h with ⟨z0,h0,e1,e2⟩ | ⟨e1,e2⟩
  ·rw [e1,e2]; exact (hz z0 h0).keep kp
  ·rw [e1,e2]; exact hk.keep kp
 ·rw [Kr]
  unfold i3
  by_cases q:j=k
  ·rw [if_pos q,if_pos (by rw [q])]
  ·rw [if_neg q,if_neg (fun z=>q (QC z)),hf j]
 ·have:=oM zs k c v; omega
theorem MB {Q:Unit->Shared->Prop} (hu:A.units + 2 < cLine) (I:Inv X pins σ H s) (d:Dx H a srt f n) (hk:ci H y k) (hs:gh k=srt) (hn:n < Nb) (ry:aM y u) (rv:aM v r)
  (h:∀ H' s',Off a H H'->Dx H' a srt (i3 f k v) (n + 1)->Inv X pins σ H' s'->Q () s'):wpAny (model X.prog X.w) A (setItem (.ref a) u r) Q E s:=by
 rcases d with ⟨rfl,kvs,e,hf,hl⟩ | ⟨rfl,zs,e,hz,hf,hl⟩
 ·cases k with
  | inr _=>cases hs
  | inl k=>
   obtain ⟨z,hd,vs,rel,dd⟩:=wX I.hok e
   have hvz:vs.length<=Nb:=by rw [<-rel.length]; exact z
   have hl':(p8 kvs k v).length<=Nb:=by have:=oC kvs k v; omega
   refine wpAny_setItem_pairs (knd:=db X.prog X.w) (hsz:=hvz) (tW hk ry) dd fun h' dd' hs'=>h _ _ ng (DF e hf hl) ?_
   exact GT I e hs' hl' hd (rel.put k rv) dd'
 ·obtain ⟨c,ks,rfl,rfl⟩:=tX hk hs
  cases ry
  obtain ⟨z,hd,xs,rel,dd⟩:=wY I.hok e hz
  have hvz:xs.length<=Nb:=by rw [<-rel.length]; exact z
  have hl':(lX zs ks c v).length<=Nb:=by have:=oM zs ks c v; omega
  refine wpAny_setItem_heap (knd:=mU X.prog X.w) (hsz:=hvz) hu (wW I.hok hk) dd fun h' dd' hs'=>h _ _ ng (DH (c:=c) e hz hk hf hl) ?_
  exact GU I e hs' hl' hd (rel.put ks rv) dd'
theorem wZ {d a:Addr} {knd:HeapKind X.prog X.w (List IK)} {xs:List (List IK×Addr×Value)} {k:List IK} {v:Value} {Q:Value->Shared->Prop} (hu:knd.room A) (hkey:knd.is s.heap k a) (hm:s.heap.DictOfH knd d xs)
  (h1:∀ p,atKey xs k=some p->Q p.2 { s with toks:=s.toks + knd.draws k })
  (h2:atKey xs k=none->∀ h',h'.DictOfH knd d (storedH xs k a v)->Nn d s.heap h'->Q v { s with heap:=h',toks:=s.toks + knd.draws k })
  (hsz:xs.length<=Nb):wpAny (model X.prog X.w) A (RE d (.ref a) v) Q E s:=by
 obtain ⟨o,es,ep,ho,hc,hd,he,his,hn⟩:=hm
 unfold RE
 try with_reducible refine Og ?_
 refine MV (knd.pyHash hu hkey ?_)
 refine MV (wpAny_dictFind_heap (s:={ s with toks:=s.toks + knd.draws k }) hu hkey ho hd he his hn ?_ ?_)
 ·intro hno
  have hnot:k∉xs.map (·.1):=not_mem_keys_of_get hno
  refine MV (Pi (MV (wpAny_updateDictKeys (hz:=by have e:=size_of_entries he; omega) (s:={ s with toks:=s.toks + knd.draws k }) ho hd (MX (h2 (QZ hno) _ ⟨_,_,ep + 1,N1 _ ho (Obj.isFreed_of_dict (T3 hd _)),
   hc.mapDictKeys _,T3 hd _,?_,?_,?_⟩ (N2 ..))))))
  ·rw [Vd (QZ hno)]
   simp [he,entryOfKey]
  ·rw [Vd (QZ hno)]
   intro x hx
   rcases NL.mp hx with hx | hx
   ·exact knd.keeps (his x hx) ho hd (N2 ..)
   ·simp only [M0] at hx
    subst hx
    exact knd.keeps hkey ho hd (N2 ..)
  ·rw [Vd (QZ hno)]
   rw [Nr,UO]
   refine ⟨hn,by simp,?_⟩
   intro x hx y hy
   simp only [Np,Qu,M0] at hy
   subst hy
   exact fun e=>hnot (e ▸ hx)
 ·intro j p hj
  refine MV (wpAny_dictEntries (s:={ s with toks:=s.toks + knd.draws k }) ho hd ?_)
  rw [entry_at he j,hj]
  exact MV (Pi (MX (h1 p (atKey_of_get hn hj))))
theorem nZ {d:Addr} {key dflt:Value} {Q:Fin->Shared->Prop} (hT:s.TypeIs (.ref d) "dict") (hd:(d == OW)=false) (h:wpAny (model X.prog X.w) A (RE d key dflt) (fun v s'=>Q (.done (.ret v)) s') E s):
  wpAny (model X.prog X.w) A (Builtin.«dict.setdefault» ⟨[.ref d,key,dflt],[]⟩) Q E s:=by
 unfold Builtin.«dict.setdefault»
 refine MV ?_
 unfold Builtin.Dict.keyAndDefault
 refine MV (wpAny_notOrdered_dict hT ?_)
 show wpAny _ _ (pure (d,key,some dflt)) _ _ s
 refine MX ?_
 show wpAny _ _ (if (d == OW)=true then _ else (RE d key dflt >>= _)) _ _ s
 rw [if_neg (by rw [hd]; exact Nd)]
 exact MV (OX h (fun v s' q=>MX q) fun _ _ x=>x)
theorem Cc (I:Inv X pins σ H s) (d:Dx H a srt f n):s.TypeIs (.ref a) "dict"/\∀ b,NA a=.ref b->∃ ob,s.heap.get? b=some ob/\ob.dict=none:=by
 rcases d with ⟨_,kvs,e,_,_⟩ | ⟨_,zs,e,hz,_,_⟩
 ·obtain ⟨_,_,vs,_,dd⟩:=wX I.hok e
  refine ⟨dd.typeIs,fun b q=>?_⟩
  cases q
  obtain ⟨ob,_,_,h1,h2,_⟩:=dd
  exact ⟨ob,h1,h2.2.1⟩
 ·obtain ⟨_,_,xs,_,dd⟩:=wY I.hok e hz
  refine ⟨dd.typeIs,fun b q=>?_⟩
  cases q
  obtain ⟨ob,_,_,h1,h2,_⟩:=dd
  exact ⟨ob,h1,h2.2.1⟩
theorem LU {Q:Value->Shared->Prop} (hu:A.units + 2 < cLine) (I:Inv X pins σ H s) (d:Dx H a srt f n) (hk:ci H y k) (hs:gh k=srt) (hn:n < Nb) (ry:aM y u) (rv:aM v r)
  (h1:∀ x w' s',f k=some x->aM x w'->Inv X pins σ H s'->Q w' s')
  (h2:f k=none->∀ H' s',Off a H H'->Dx H' a srt (i3 f k v) (n + 1)->Inv X pins σ H' s'->Q r s'):wpAny (model X.prog X.w) A (call (.builtin "dict.setdefault") [.ref a,u,r]) Q E s:=by
 have hT:=(Cc I d).1
 refine NP RF hT PySem.F.entry_dict_setdefault ?_ (PySem.F.args_dict_setdefault_3 _ _ _)
 rcases d with ⟨rfl,kvs,e,hf,hl⟩ | ⟨rfl,zs,e,hz,hf,hl⟩
 ·cases k with
  | inr _=>cases hs
  | inl k=>
   obtain ⟨z,hd,vs,rel,dd⟩:=wX I.hok e
   have hvz:vs.length<=Nb:=by rw [<-rel.length]; exact z
   have hl':(p8 kvs k v).length<=Nb:=by have:=oC kvs k v; omega
   refine nZ hT hd (kt_dictSetDefault_pairs (knd:=db X.prog X.w) (hsz:=hvz) (tW hk ry) dd (fun w' hw=>?_) fun hno h' dd' hs'=>?_)
   ·have q:=rel.val k
    rw [hf k,hw] at q
    cases ef:f (.inl k) with
    | none=>rw [ef] at q; exact (show False from q).elim
    | some x=>rw [ef] at q; exact ⟨w',rfl,h1 x w' _ ef q (I.tok _)⟩
   ·have q:=rel.val k
    rw [hf k,hno] at q
    have ef:f (.inl k)=none:=by
     cases ef:f (.inl k) with
     | none=>rfl
     | some x=>rw [ef] at q; exact (show False from q).elim
    exact ⟨r,rfl,h2 ef _ _ ng (DF e hf hl) (GT I e hs' hl' hd (rel.put k rv) dd')⟩
 ·obtain ⟨c,ks,rfl,rfl⟩:=tX hk hs
  cases ry
  obtain ⟨z,hd,xs,rel,dd⟩:=wY I.hok e hz
  have hvz:xs.length<=Nb:=by rw [<-rel.length]; exact z
  have hl':(lX zs ks c v).length<=Nb:=by have:=oM zs ks c v; omega
  refine nZ hT hd (wZ (X:=X) (knd:=mU X.prog X.w) hu (wW I.hok hk) dd (fun p hp=>?_) (fun hno h' dd' hs'=>?_) hvz)
  ·have q:=rel.val ks
   rw [hf ks,hp] at q
   cases ef:f (.inr ks) with
   | none=>rw [ef] at q; exact (show False from q).elim
   | some x=>rw [ef] at q; exact ⟨p.2,rfl,h1 x p.2 _ ef q (I.tok _)⟩
  ·have q:=rel.val ks
   rw [hf ks,hno] at q
   have ef:f (.inr ks)=none:=by
    cases ef:f (.inr ks) with
    | none=>rfl
    | some x=>rw [ef] at q; exact (show False from q).elim
   exact ⟨r,rfl,h2 ef _ _ ng (DH (c:=c) e hz hk hf hl) (GU I e hs' hl' hd (rel.put ks rv) dd')⟩
end
section
variable {X:Cx}
theorem su (hu:X.A.units + 64 < cLine):OpR X (OU .NotIn) (vm true):=by
 intro pins s σ H x y v u Q I rx ry h
 obtain ⟨a,srt,f,n,k,rfl,d,hk,hs,q⟩:=h
 cases ry
 exact Kt (by omega) I d hk hs rx fun s' I'=>⟨.bl _,H,I',rfl,q⟩
theorem DI {o i:Expr} {pos:Pos} {td ty:TE} (hu:X.A.units + 64 < cLine) (ho:PE X o td) (hi:PE X i ty) (hs:HQ i):PE X (.Subscript o i pos) (tOp AF td ty):=by
 intro pins s σ H Q I h
 refine Dp So.lookup hs (thn (ho pins s σ H _ I h) fun u s1 ⟨x,H1,I1,rx,q1⟩=>thn (hi pins s1 σ H1 _ I1 q1) fun iv s2 ⟨y,H2,I2,ry,a,srt,f,n,k,v,ex,d,hk,hs',ev,q2⟩=>?_)
 subst ex
 obtain rfl:u=NA a:=rx
 exact ⟨(Cc I2 d).1,MA (by omega) I2 d hk hs' ry ev fun w' s3 I3 rw'=>⟨v,H2,I3,rw',q2⟩⟩
theorem EF (hu:X.A.units + 64 < cLine):DT X wm:=by
 intro pins s σ H o i v ov iv u Q I ro ri rv h
 obtain ⟨a,srt,f,n,k,rfl,d,hk,hs,hn,q⟩:=h
 cases ro
 exact MB (by omega) I d hk hs hn ri rv fun H' s' o' d' I'=>⟨H',I',q H' o' d'⟩
theorem qo {pos:Pos}:PE X (.Dict [] [] pos) oX:=fun pins s σ H Q I h=>by
 obtain ⟨srt,h⟩:=h
 have hd:(s.heap.objs.size == OW)=false:=beq_eq_false_iff_ne.mpr (OC (NF I.big))
 have hp:=I.hok.fresh (M1 s.heap.objs.size)
 cases srt with
 | false=>
  refine Vt ⟨.ref s.heap.objs.size,_,I.laid (a:=s.heap.objs.size) (o:=dA s.heap.objs.size []) (t':=s.toks) (fun _ _ q=>MW _ q) (M1 _) (DA.ok ⟨N3 _,hd,X.prog,X.w,[],.nil,Heap.DictOf.new s.heap⟩),rfl,?_⟩
  exact h _ _ hp (bg hp _) (.inl ⟨rfl,[],az,fun _=>rfl,M1 _⟩)
 | true=>
  refine Vt ⟨.ref s.heap.objs.size,_,I.laid (a:=s.heap.objs.size) (o:=dB s.heap.objs.size []) (t':=s.toks) (fun _ _ q=>MW _ q) (M1 _) (DB.ok ⟨N3 _,hd,[],.nil,_,#[],0,Nc _ rfl,⟨rfl,rfl,rfl⟩,rfl,rfl,List.nodup_nil⟩),rfl,?_⟩
  exact h _ _ hp (bg hp _) (.inr ⟨rfl,[],az,fun z hz=>(nomatch hz),fun _=>rfl,M1 _⟩)
noncomputable def MtX (X:Cx) (id:String) (r:V->List V->Hp->VK->Prop):Prop:=
 ∀ (pins:List (Addr×Obj)) (s:Shared) (σ:St) (H:Hp) (x:V) (ys:List V) (u:Value) (us:List Value) (Q:VK),Inv X pins σ H s->aM x u->aK ys us->r x ys H Q->
  wpAny (model X.prog X.w) X.A (call (.builtin id) (u :: us)) (EP X pins σ Q) X.xe s
theorem yE (hu:X.A.units + 64 < cLine):MtX X "dict.setdefault" Br:=by
 intro pins s σ H x ys u us Q I rx rys h
 obtain ⟨a,srt,f,n,k,y,v,rfl,rfl,d,hk,hs,hn,q1,q2⟩:=h
 cases rx
 cases rys with
 | cons r1 t1=>cases t1 with
  | cons r2 t2=>
   cases t2
   exact LU (by omega) I d hk hs hn r1 r2 (fun x w' s' ef rw' I'=>⟨x,H,I',rw',q1 x ef⟩) fun ef H' s' o' d' I'=>⟨v,H',I',r2,q2 ef H' o' d'⟩
theorem MC {o e:Expr} {es:List Expr} {name:Str} {id:String} {r:V->List V->Hp->VK->Prop} {to:TE} {t:TA} {apos cpos:Pos} (slot:Slot "dict" name id) (hty:typeOf (.builtin id)=pure (.type "method_descriptor")) (hm:MtX X id r) (ho:PE X o to) (ha:PA X (e :: es) t)
  (hbase:Qd o name X.env (eval o X.env)=eval o X.env:=by rfl)
  (hfew:((backTo cpos (Nu (e :: es) X.env)).all (fun x=>!x.1) && (Q6 cpos (Ql [] X.env)).all (fun x=>x.1.isSome)
   && decide ((e :: es).length + ([]:List Keyword).length + (if ([]:List Keyword).isEmpty then 0 else 1) < 30))=true:=by rfl)
  (hline:(apos.endLine == cpos.line)=true:=by rfl) (hs:Nu (e :: es) X.env=(false,eval e X.env) :: Nu es X.env:=by rfl) (hplain:(backTo cpos (Nu es X.env)).any (·.1)=false:=by rfl):
  PE X (.Call (.Attribute o name apos) (e :: es) [] cpos) (tXM r to t):=by
 intro pins s σ H Q I h
 refine Q1 hbase hfew hline rfl (thn (ho pins s σ H _ I h) fun v s1 ⟨x,H1,I1,r1,⟨a,srt,f,n,ex,d⟩,q1⟩=>?_)
 subst ex
 obtain rfl:v=NA a:=r1
 obtain ⟨h1,h2⟩:=Cc I1 d
 refine ⟨"dict",id,PySem.F.plainAttrs_dict,slot,hty,h1,h2,?_⟩
 have hA:=ha cpos pins s1 σ H1 _ I1 q1
 rw [hs] at hA ⊢
 refine Qm (by show (false || (backTo cpos (Nu es X.env)).any (·.1))=false; rw [hplain] <;> rfl) (Rk ?_)
 exact thn hA fun us s2 ⟨vs,H2,I2,r2,q2⟩=>hm pins s2 σ H2 (.ref a) vs (.ref a) us Q I2 rfl r2 q2
end
end
section
open PySem.Spec
section
variable {X:Cx}
end
end
section
open PySem.Spec
mutual
inductive Dat (K:Fg) (H:Hp):V->PyData->Prop where
 | non:Dat K H .non .none
 | bl (b:Bool):Dat K H (.bl b) (.bool b)
 | int (i:Int):Dat K H (.int i) (.int i)
 | str (x:Str):Dat K H (.str x) (.str x)
 | lst {a:Addr} {xs:List V} {ds:List PyData} (e:SqL K H a xs) (h:lY K H xs ds):Dat K H (.ref a) (.list ds)
 | tup {a:Addr} {xs:List V} {ds:List PyData} (e:SqT K H a xs) (h:lY K H xs ds):Dat K H (.ref a) (.tuple ds)
inductive lY (K:Fg) (H:Hp):List V->List PyData->Prop where
 | nil:lY K H [] []
 | cons {x:V} {xs:List V} {d:PyData} {ds:List PyData} (h:Dat K H x d) (t:lY K H xs ds):lY K H (x :: xs) (d :: ds)
end
section
variable {X:Cx} {pins:List (Addr×Obj)} {σ:St} {H:Hp} {s:Shared}
mutual
theorem Dat.reads (I:Inv X pins σ H s):∀ {x:V} {d:PyData} {u:Value},Dat X.K H x d->aM x u->∃ as,Reads s.heap u d as
 | _,_,_,.non,r=>by cases r; exact ⟨_,.none⟩
 | _,_,_,.bl b,r=>by cases r; exact ⟨_,.bool b⟩
 | _,_,_,.int i,r=>by obtain ⟨t,rfl⟩:=r; exact ⟨_,.int i t⟩
 | _,_,_,.str x,r=>by obtain ⟨t,rfl⟩:=r; exact ⟨_,.str x t⟩
 | _,_,_,.lst e h,r=>by
  cases r
  obtain ⟨its,rv,⟨o,n,h1,h2,h3,h4⟩,_⟩:=I.list e
  obtain ⟨as,ra⟩:=lY.reads I h rv
  exact ⟨_,.list h1 h2 h4 (by simpa using ra)⟩
 | _,_,_,.tup e h,r=>by
  cases r
  obtain ⟨its,rv,⟨o,h1,h2,n,h3⟩,_⟩:=I.tuple e
  obtain ⟨as,ra⟩:=lY.reads I h rv
  exact ⟨_,.tuple h1 h2 h3 (by simpa using ra)⟩
theorem lY.reads (I:Inv X pins σ H s):∀ {xs:List V} {ds:List PyData} {us:List Value},lY X.K H xs ds->aK xs us->∃ as,ReadsAll s.heap us ds as
 | _,_,_,.nil,.nil=>⟨_,.nil⟩
 | _,_,_,.cons h t,.cons r q=>by
  obtain ⟨as,ra⟩:=Dat.reads I h r
  obtain ⟨bs,rb⟩:=lY.reads I t q
  exact ⟨_,.cons ra rb⟩
end
end
section
variable {X:Cx}
end
end
section
open PySem.Spec
mutual
theorem II {K:Fg} {H:Hp}:∀ {n:Nat} {x y:V},ip K H n x y->∃ d,Dat K H x d/\Dat K H y d/\d.canLay0=true/\d.depth<=n
 | n,x,_,.flat h=>by
  cases x with
  | non=>exact ⟨_,.non,.non,rfl,N3 _⟩
  | bl b=>exact ⟨_,.bl b,.bl b,rfl,N3 _⟩
  | int i=>exact ⟨_,.int i,.int i,rfl,N3 _⟩
  | _=>cases h
 | _,_,_,.lst (xs:=xs) (ys:=ys) e1 e2 hl h=>by
  obtain ⟨ds,h1,h2,h3,h4⟩:=EG xs ys hl h
  exact ⟨_,.lst e1 h1,.lst e2 h2,h3,Vu h4⟩
 | _,_,_,.tup (xs:=xs) (ys:=ys) e1 e2 hl h=>by
  obtain ⟨ds,h1,h2,h3,h4⟩:=EG xs ys hl h
  exact ⟨_,.tup e1 h1,.tup e2 h2,h3,Vu h4⟩
theorem EG {K:Fg} {H:Hp} {n:Nat}:∀ (xs ys:List V),xs.length=ys.length->(∀ (i:Nat) (x y:V),xs[i]?=some x->ys[i]?=some y->ip K H n x y)->∃ ds,lY K H xs ds/\lY K H ys ds/\UP ds=true/\VV ds<=n
 | [],[],_,_=>⟨[],.nil,.nil,rfl,N3 _⟩
 | x :: xs,y :: ys,hl,h=>by
  obtain ⟨d,a1,a2,a3,a4⟩:=II (h 0 x y rfl rfl)
  obtain ⟨ds,b1,b2,b3,b4⟩:=EG xs ys (by simpa using hl) (fun i x y hx hy=>h (i + 1) x y hx hy)
  refine ⟨d :: ds,.cons a1 b1,.cons a2 b2,?_,?_⟩
  ·show (d.canLay0 && UP ds)=true
   rw [a3,b3]; rfl
  ·show max d.depth (VV ds)<=n
   omega
 | [],_ :: _,hl,_=>by simp at hl
 | _ :: _,[],hl,_=>by simp at hl
end
section
variable {X:Cx}
theorem IJ (hu:X.A.units + 64 < cLine):OpR X (OU .Eq) (mX X.K false):=by
 intro pins s σ H x y v u Q I rx ry h
 obtain ⟨n,hn,hd,q⟩:=h
 obtain ⟨d,h1,h2,h3,h4⟩:=II hd
 obtain ⟨as,ra⟩:=h1.reads I rx
 obtain ⟨bs,rb⟩:=h2.reads I ry
 have sh:SM d=true:=by unfold SM; rw [h3,decide_eq_true (by omega)]; rfl
 refine eq_dataH ra rb sh sh hu ⟨.bl true,H,I,?_,q⟩
 rw [SeqAt.eqv_refl d h3]; rfl
theorem Cd (hu:X.A.units + 64 < cLine):OpR X (OU .NotEq) (mX X.K true):=by
 intro pins s σ H x y v u Q I rx ry h
 obtain ⟨n,hn,hd,q⟩:=h
 obtain ⟨d,h1,h2,h3,h4⟩:=II hd
 obtain ⟨as,ra⟩:=h1.reads I rx
 obtain ⟨bs,rb⟩:=h2.reads I ry
 have sh:SM d=true:=by unfold SM; rw [h3,decide_eq_true (by omega)]; rfl
 refine ne_dataH ra rb sh sh hu ⟨.bl false,H,I,?_,q⟩
 rw [SeqAt.eqv_refl d h3]; rfl
end
end
section
open PySem.Spec
theorem Ce {scope:Scope} {env:Env} {x:Str} (h:scope.names.lookup x=some .cell\/scope.names.lookup x=some .free):(relabel scope env).names.lookup x=some .cell\/(relabel scope env).names.lookup x=some .free:=by
 have go:∀ ns:List (Str×NS),(ns.lookup x=some .cell\/ns.lookup x=some .free)->
   (ns.map fun (n,k)=>if (k == Ow && env.scope.kind == .function && env.kindOf n == some .cell) then (n,Q3) else (n,k)).lookup x=some .cell\/
   (ns.map fun (n,k)=>if (k == Ow && env.scope.kind == .function && env.kindOf n == some .cell) then (n,Q3) else (n,k)).lookup x=some .free:=by
  intro ns
  induction ns with
  | nil=>intro q; rcases q with q | q <;> simp at q
  | cons y r ih=>
   obtain ⟨n,k'⟩:=y
   intro q
   rw [Np]
   rw [Oh] at q
   by_cases hc:(k' == Ow && env.scope.kind == .function && env.kindOf n == some .cell)=true
   ·simp only [hc,if_true]
    rw [Oh]
    cases e:x == n with
    | true=>exact .inl rfl
    | false=>rw [e] at q; exact ih q
   ·simp only [hc]
    rw [if_neg (by simp),Oh]
    cases e:x == n with
    | true=>rw [e] at q; exact q
    | false=>rw [e] at q; exact ih q
 exact go scope.names h
theorem GV {inner outer:Scope} {cl:List (Str×Addr)} {C:Addr} {env:Env} (h:∀ y∈inner.names,y.2=.free->outer.names.lookup y.1=some .cell\/outer.names.lookup y.1=some .free):
  ∀ y∈inner.names,y.2=.free->(TV outer cl C env).scope.names.lookup y.1=some .cell\/(TV outer cl C env).scope.names.lookup y.1=some .free:=fun y hy hk=>Ce (h y hy hk)
end
end L2
section
namespace L2
open PySem
noncomputable def Rs (xs:List Nat):Prop:=xs.Pairwise (· < ·)
theorem zA (xs:Array Nat) (i d:Nat) (h:i < xs.size):xs.getD i d=xs.toList[i]'(by simpa using h):=by
 rw [T4,dif_pos h]
 simp
theorem yF (xs:Array Nat) (j:Nat) (hr:Rs xs.toList):∀ (fuel lo hi:Nat),hi - lo<=fuel->lo<=hi->hi<=xs.size->(∀ i (h:i < xs.toList.length),i < lo->xs.toList[i] < j)->(∀ i (h:i < xs.toList.length),hi<=i->j<=xs.toList[i])->
  lo<=Pz xs j fuel lo hi/\Pz xs j fuel lo hi<=hi/\(∀ i (h:i < xs.toList.length),i < Pz xs j fuel lo hi->xs.toList[i] < j)/\(∀ i (h:i < xs.toList.length),Pz xs j fuel lo hi<=i->j<=xs.toList[i])
 | 0,lo,hi,hf,hl,hs,h1,h2=>by
  have e:hi=lo:=by omega
  subst e
  exact ⟨M1 _,M1 _,h1,h2⟩
 | fuel + 1,lo,hi,hf,hl,hs,h1,h2=>by
  have eq:Pz xs j (fuel + 1) lo hi=(if lo < hi then (if xs.getD ((lo + hi) / 2) j < j then Pz xs j fuel ((lo + hi) / 2 + 1) hi else Pz xs j fuel lo ((lo + hi) / 2)) else lo):=rfl
  by_cases hlt:lo < hi
  ·have hm:(lo + hi) / 2 < xs.size:=by omega
   have hm':(lo + hi) / 2 < xs.toList.length:=by simpa using hm
   have pw:=P0.mp hr
   rw [if_pos hlt,zA xs _ _ hm] at eq
   by_cases hc:xs.toList[(lo + hi) / 2] < j
   ·rw [if_pos hc] at eq
    obtain ⟨a,b,c,d⟩:=yF xs j hr fuel ((lo + hi) / 2 + 1) hi (by omega) (by omega) hs (fun i h hi'=>by
     rcases UD i ((lo + hi) / 2) with z | z
     ·have:=pw i ((lo + hi) / 2) h hm' z
      omega
     ·have e:i=(lo + hi) / 2:=by omega
      subst e
      exact hc) h2
    rw [eq]
    exact ⟨by omega,b,c,d⟩
   ·rw [if_neg hc] at eq
    obtain ⟨a,b,c,d⟩:=yF xs j hr fuel lo ((lo + hi) / 2) (by omega) (by omega) (by omega) h1 (fun i h hi'=>by
     rcases UD ((lo + hi) / 2) i with z | z
     ·have:=pw ((lo + hi) / 2) i hm' h z
      omega
     ·have e:i=(lo + hi) / 2:=by omega
      subst e
      omega)
    rw [eq]
    exact ⟨a,by omega,c,d⟩
  ·rw [if_neg hlt] at eq
   have e:hi=lo:=by omega
   subst e
   rw [eq]
   exact ⟨M1 _,M1 _,h1,h2⟩
theorem mC (xs:Array Nat) (j:Nat) (hr:Rs xs.toList):Ny xs j<=xs.size/\(∀ i (h:i < xs.toList.length),i < Ny xs j->xs.toList[i] < j)/\(∀ i (h:i < xs.toList.length),Ny xs j<=i->j<=xs.toList[i]):=by
 obtain ⟨_,b,c,d⟩:=yF xs j hr xs.size 0 xs.size (by omega) (N3 _) (M1 _) (fun i h z=>absurd z (Rq _)) (fun i h z=>absurd (by simpa using h) (Sr.mpr z))
 exact ⟨b,c,d⟩
theorem EH (xs:Array Nat) (hr:Rs xs.toList) {i:Nat} (h:i < xs.toList.length):Ny xs (xs.toList[i] + 1)=i + 1:=by
 obtain ⟨b,c,d⟩:=mC xs (xs.toList[i] + 1) hr
 have pw:=P0.mp hr
 rcases Sk (Ny xs (xs.toList[i] + 1)) (i + 1) with z | z | z
 ·have:=d i h (by omega)
  omega
 ·exact z
 ·have hi:i + 1 < xs.toList.length:=by simp at *; omega
  have:=c (i + 1) hi (by omega)
  have:=pw i (i + 1) h hi (by omega)
  omega
theorem EI (xs:Array Nat) (hr:Rs xs.toList):Ny xs 0=0:=by
 obtain ⟨b,c,_⟩:=mC xs 0 hr
 rcases Qi (Ny xs 0) with z | z
 ·exact z
 ·have h0:0 < xs.toList.length:=by simp; omega
  have:=c 0 h0 z
  omega
theorem LV (xs:Array Nat) (hr:Rs xs.toList) {j:Nat} (hj:j∉xs.toList):Rs (Nt.insertAt xs (Ny xs j) j).toList:=by
 obtain ⟨b,c,d⟩:=mC xs j hr
 rw [Nt.toList_insertAt]
 have hr':(xs.toList.take (Ny xs j)++xs.toList.drop (Ny xs j)).Pairwise (· < ·):=by rw [Qv]; exact hr
 rw [Rr] at hr'
 obtain ⟨p1,p2,p3⟩:=hr'
 have lo:∀ a∈xs.toList.take (Ny xs j),a < j:=fun a ha=>by
  obtain ⟨i,hi,rfl⟩:=Rt.mp ha
  rw [List.getElem_take]
  have hi':i < min (Ny xs j) xs.toList.length:=by simpa using hi
  exact c i (by omega) (by omega)
 have hi:∀ a∈xs.toList.drop (Ny xs j),j < a:=fun a ha=>by
  obtain ⟨i,hi,rfl⟩:=Rt.mp ha
  rw [List.getElem_drop]
  have hl:i < xs.toList.length - Ny xs j:=by simpa using hi
  have h1:Ny xs j + i < xs.toList.length:=by omega
  have:=d _ h1 (OO _ _)
  rcases QN this with z | z
  ·exact z
  ·exact absurd (z ▸ Pj h1) hj
 refine Rr.mpr ⟨p1,RV.mpr ⟨hi,p2⟩,fun a ha x hx=>?_⟩
 rcases M6.mp hx with rfl | hx
 ·exact lo a ha
 ·exact p3 a ha x hx
theorem IL {xs:Array Nat} (hr:Rs xs.toList) {j:Nat} (h:¬ (xs[Ny xs j]? == some j)=true):j∉xs.toList:=fun hm=>by
 obtain ⟨b,c,d⟩:=mC xs j hr
 obtain ⟨k,hk,e⟩:=Rt.mp hm
 have pw:=P0.mp hr
 have h1:Ny xs j<=k:=Vj fun z=>by
  have:=c k hk z
  omega
 have h2:Ny xs j=k:=by
  rcases QN h1 with z | z
  ·have hl:Ny xs j < xs.toList.length:=by omega
   have:=d _ hl (M1 _)
   have:=pw _ k hl hk z
   omega
  ·exact z
 refine h ?_
 rw [h2,<-PR,MZ hk,e]
 exact beq_self_eq_true _
theorem GW {t:Nt} (hr:Rs t.place.toList) {j:Nat} (h:∀ i,t.slot j≠.live i):j∉t.place.toList:=by
 refine IL hr fun z=>?_
 have:=h (Ny t.place j)
 unfold Nt.slot at this
 rw [if_pos z] at this
 exact this rfl
theorem qp {t:Nt} {f:Nat->Int} {h:Int}:∀ (fuel:Nat) (p:Nt.Probe) {j:Nat} {d:Option Nat},(∀ x,p.dummy=some x->∀ i,t.slot x≠.live i)->UQ t f h fuel p=some (.empty j d)->∀ i,t.slot (d.getD j)≠.live i
 | 0,_,_,_,_,e=>by cases e
 | fuel + 1,p,j,d,hd,e=>by
  have ha:∀ q:Nt.Probe,(t.advance q).dummy=q.dummy:=fun q=>by
   unfold Nt.advance
   split <;> rfl
  unfold UQ at e
  cases hs:t.slot p.j with
  | empty=>
   rw [hs] at e
   injection e with e
   injection e with e1 e2
   subst e1 e2
   intro i
   cases hx:p.dummy with
   | none=>show t.slot p.j≠_; rw [hs]; intro z; cases z
   | some x=>exact hd x hx i
  | dummy=>
   rw [hs] at e
   refine qp fuel _ (fun x hx i=>?_) e
   rw [ha] at hx
   cases hx
   rw [hs]; intro z; cases z
  | live k=>
   rw [hs] at e
   dsimp only at e
   split at e
   ·cases e
   ·exact qp fuel _ (fun x hx=>hd x (by rw [ha] at hx; exact hx)) e
theorem EJ {t:Nt} (hr:Rs t.place.toList) {h:Int} {j:Nat} {b:Bool} (e:t.freeSlot h=some (j,b)):j∉t.place.toList:=by
 unfold Nt.freeSlot at e
 split at e
 ·rename_i j' d' he
  cases e
  exact GW hr (qp _ _ (fun x hx=>by cases hx) he)
 ·cases e
theorem IM (n:Nat):Rs (Array.range n).toList:=by
 rw [Array.toList_range]
 exact Tn
theorem mD (t:Nt) (n:Nat):Rs (t.standIn n).place.toList:=IM n
theorem GX {t:Nt} (hr:Rs t.place.toList) (es:Array (Int×Value)) (h:Int) (x:Value):Rs (layNew t es h x).2.1.place.toList/\(layNew t es h x).2.1.led=t.led:=by
 unfold layNew
 split
 ·rename_i slot wd he
  dsimp only
  unfold Nt.orStandIn
  split
  ·exact ⟨LV _ hr (EJ hr he),rfl⟩
  ·exact ⟨mD _ _,rfl⟩
 ·exact ⟨mD _ _,rfl⟩
theorem Ku {mask finger moves:Nat} {led plain:Bool} {hs:Array Int} {t:Nt} {o:Array Nat} (e:Nt.laid mask finger moves led plain hs=some (t,o)):Rs t.place.toList/\t.led=led:=by
 unfold Nt.laid at e
 obtain ⟨owner,_,e⟩:=Option.bind_eq_some_iff.mp e
 cases e
 refine ⟨?_,rfl⟩
 show ((((Nw (mask + 1)).filterMap fun j=>(owner.getD j none).map (j,·)).map (·.1)).toArray).toList.Pairwise (· < ·)
 have sub:List.Sublist (((Nw (mask + 1)).filterMap fun j=>(owner.getD j none).map (j,·)).map (·.1)) (Nw (mask + 1)):=by
  rw [List.map_filterMap]
  have:∀ l:List Nat,List.Sublist (l.filterMap fun j=>((owner.getD j none).map (j,·)).map (·.1)) l:=by
   intro l
   induction l with
   | nil=>exact .slnil
   | cons a l ih=>
    rw [QE]
    cases owner.getD a none with
    | none=>exact .cons _ ih
    | some v=>exact .cons₂ _ ih
  exact this _
 exact Tn.sublist sub
theorem C0 {t:Nt} (hr:Rs t.place.toList) (es:Array (Int×Value)) (wanted:Nat):Rs (RG t es wanted).2.1.place.toList/\(RG t es wanted).2.1.led=t.led:=by
 unfold RG
 split
 ·rename_i t' order he
  dsimp only
  split
  ·exact Ku he
  ·exact ⟨mD _ _,rfl⟩
 ·exact ⟨mD _ _,rfl⟩
end L2
end
section
namespace L2
open PySem
section
variable {prog:Program} {w:World} {K:Type} [DecidableEq K] {knd:KeyKind prog w K} {A:Around} {E:Value->Shared->Prop} {s:Shared}
noncomputable def Ent (knd:KeyKind prog w K) (k:K) (e:Int×Value):Prop:=knd.is k e.2=true/\e.1=knd.hash k/\e.2.scannable=true
inductive cB {α β:Type} (F:α->β->Prop):List α->List β->Prop
 | nil:cB F [] []
 | cons {a b l m}:F a b->cB F l m->cB F (a :: l) (b :: m)
theorem cB.len {α β:Type} {F:α->β->Prop} {l:List α} {m:List β} (h:cB F l m):l.length=m.length:=by
 induction h with
 | nil=>rfl
 | cons _ _ ih=>rw [NC,NC,ih]
theorem cB.app {α β:Type} {F:α->β->Prop} {l l':List α} {m m':List β} (h:cB F l m) (h':cB F l' m'):cB F (l++l') (m++m'):=by
 induction h with
 | nil=>exact h'
 | cons r _ ih=>exact .cons r ih
theorem cB.right {α β:Type} {F:α->β->Prop} {l:List α} {m:List β} (h:cB F l m):∀ b∈m,∃ a∈l,F a b:=by
 induction h with
 | nil=>intro b hb; cases hb
 | cons r _ ih=>
  intro b hb
  rcases M6.mp hb with rfl | hb
  ·exact ⟨_,M7,r⟩
  ·obtain ⟨a,ha,f⟩:=ih b hb
   exact ⟨a,Nh _ ha,f⟩
theorem cB.perm {α β:Type} {F:α->β->Prop} {m m':List β} (p:Os m m'):∀ {l:List α},cB F l m->∃ l',Os l l'/\cB F l' m':=by
 induction p with
 | nil=>intro l h; cases h; exact ⟨[],.nil,.nil⟩
 | cons b _ ih=>
  intro l h
  cases h with
  | cons r t=>
   obtain ⟨l',p,q⟩:=ih t
   exact ⟨_ :: l',.cons _ p,.cons r q⟩
 | swap b c m=>
  intro l h
  cases h with
  | cons r t=>cases t with
   | cons r' t'=>exact ⟨_,.swap _ _ _,.cons r' (.cons r t')⟩
 | trans _ _ ih1 ih2=>
  intro l h
  obtain ⟨l1,p1,q1⟩:=ih1 h
  obtain ⟨l2,p2,q2⟩:=ih2 q1
  exact ⟨l2,p1.trans p2,q2⟩
noncomputable def dW (knd:KeyKind prog w K) (h:Heap) (a:Addr) (ks:List K) (led:Bool):Prop:=
 ∃ o es ep t,h.get? a=some o/\o.ExactSet/\o.data=.set es ep t/\cB (Ent knd) ks es.toList/\ks.Nodup/\es.size < QO/\t.fits es.size=true/\Rs t.place.toList/\t.led=led
theorem LW {ks:List K} {l:List (Int×Value)} (h:cB (Ent knd) ks l):ElemsOf knd l:=fun e he=>by
 obtain ⟨k,_,f1,f2,f3⟩:=h.right e he
 exact ⟨⟨k,f1,f2⟩,f3⟩
theorem stored {h:Heap} {a:Addr} {o:Obj} {es es':Array (Int×Value)} {ep:Nat} {t t':Nt} {ks':List K} {led:Bool} (g1:h.get? a=some o) (g2:o.ExactSet) (g3:o.data=.set es ep t) (pr:cB (Ent knd) ks' es'.toList) (nd:ks'.Nodup) (sb:es'.size < QO) (ft:t'.fits es'.size=true) (rs:Rs t'.place.toList) (ld:t'.led=led):
  (h.update a (Ss es' t')).get? a=some { o with data:=.set es' (ep + 1) t' }/\dW knd (h.update a (Ss es' t')) a ks' led:=by
 have hg:(h.update a (Ss es' t')).get? a=some { o with data:=.set es' (ep + 1) t' }:=by
  have z:=N1 (Ss es' t') g1 (by rw [putSet_of _ _ g3]; rfl)
  rw [z,putSet_of _ _ g3]
 exact ⟨hg,_,es',ep + 1,t',hg,g2,rfl,pr,nd,sb,ft,rs,ld⟩
theorem IN {ks:List K} {l:List (Int×Value)} {k:K} (h:cB (Ent knd) ks l) {j:Nat} (e:l.findIdx? (fun e=>knd.is k e.2)=some j):k∈ks:=by
 obtain ⟨hj,hp,_⟩:=Pg.mp e
 obtain ⟨k',hk',f1,_⟩:=h.right _ (Pj hj)
 exact knd.inj _ _ _ hp f1 ▸ hk'
theorem GY {ks:List K} {l:List (Int×Value)} {k:K} (h:cB (Ent knd) ks l) (e:l.findIdx? (fun e=>knd.is k e.2)=none):k∉ks:=by
 have n:=QI.mp e
 induction h with
 | nil=>intro z; cases z
 | cons r _ ih=>
  intro z
  rcases M6.mp z with rfl | z
  ·have:=n _ M7
   rw [r.1] at this
   cases this
  ·exact ih (QI.mpr fun e he=>n e (Nh _ he)) (fun e he=>n e (Nh _ he)) z
theorem zB {g:Bool->Sem Unit} (hg:∀ (b:Bool) (z:Shared) (P:Unit->Shared->Prop),P () z->wpAny (model prog w) A (g b) P E z) {a:Addr} {o:Obj} {es fs:Array (Int×Value)} {ep:Nat} {t u:Nt} {ks:List K} {led wd:Bool}
  (g1:s.heap.get? a=some o) (g2:o.ExactSet) (g3:o.data=.set es ep t) (kq:cB (Ent knd) ks fs.toList) (nd:ks.Nodup) (sb:fs.size < QO) (fu:u.fits fs.size=true) (ru:Rs u.place.toList) (lu:u.led=led) {R:Option Bool->Shared->Prop}
  (q:∀ h' ks',Nn a s.heap h'->dW knd h' a ks' led->Os ks' ks->R (some true) { s with heap:=h' }):
  wpAny (model prog w) A (storeSet a fs u >>= fun _=>if (!wd && u.tooFull)=true then (g (RG u fs (P5 fs.size)).2.2 >>= fun _=>storeSet a (RG u fs (P5 fs.size)).1 (RG u fs (P5 fs.size)).2.1 >>= fun _=>pure (some true)) else pure (some true)) R E s:=by
 apply MV
 refine UR g1 g3 ?_ (US sb)
 obtain ⟨g4,R1⟩:=stored (knd:=knd) g1 g2 g3 kq nd sb fu ru lu
 have b1:=N2 s.heap a (Ss fs u)
 split
 ·have pm:=relayAll_perm u fs (P5 fs.size)
  have pf:=relayAll_fits u fs (P5 fs.size)
  have ⟨pr,pl⟩:=C0 ru fs (P5 fs.size)
  generalize RG u fs (P5 fs.size)=L at *
  obtain ⟨fs',u',gv⟩:=L
  dsimp only at pm pf pr pl ⊢
  obtain ⟨ks',kp,kq'⟩:=cB.perm pm.symm kq
  have hz:fs'.size=fs.size:=by rw [<-NK,pm.length_eq,NK]
  apply MV
  apply hg
  apply MV
  refine UR g4 rfl ?_ (US (by rw [hz]; exact sb))
  obtain ⟨_,R2⟩:=stored (knd:=knd) g4 g2 rfl kq' (kp.nodup_iff.mp nd) (by rw [hz]; exact sb) pf pr (pl.trans lu)
  exact MX (q _ ks' (b1.trans (N2 _ a _)) R2 kp.symm)
 ·exact MX (q _ ks b1 R1 (Os.refl _))
theorem Kv {a:Addr} {ks:List K} {led:Bool} {k:K} {x:Value} {Q:Bool->Shared->Prop} (hk:knd.is k x=true) (hx:x.scannable=true) (R:dW knd s.heap a ks led) (room:ks.length + 1 < QO)
  (q:∀ h' ks' b,Nn a s.heap h'->dW knd h' a ks' led->(∀ y,y∈ks'↔y∈ks\/y=k)->ks'.length<=ks.length + 1->Q b { s with heap:=h' }):wpAny (model prog w) A (setAddHashed a x (knd.hash k)) Q E s:=by
 obtain ⟨o,es,ep,t,g1,g2,g3,pr,nd,sb,ft,rs,ld⟩:=id R
 have el:=LW pr
 have hlen:ks.length=es.size:=by rw [pr.len,NK]
 unfold setAddHashed setAddHashedIn
 apply Og
 apply MV
 apply Ov g1 g3 ft
 dsimp only
 rw [if_pos (byScan_of hx sb el)]
 unfold setAddByScan
 apply MV
 apply MV
 apply Pi
 apply MV
 apply wpAny_setScan_of hk g1 g3 ft el
 cases fe:List.findIdx? (fun e=>knd.is k e.2) es.toList with
 | some j=>
  dsimp only
  apply MX
  apply MX
  have z:=q s.heap ks false (UT a s.heap) R (fun y=>⟨.inl,fun h=>h.elim id fun e=>e ▸ IN pr fe⟩) (Pf _)
  cases s
  exact z
 | none=>
  dsimp only
  have hk0:=GY pr fe
  have pm:=layNew_perm t es (knd.hash k) x
  have pf:=layNew_fits t es (knd.hash k) x
  have ⟨pr1,pl1⟩:=GX rs es (knd.hash k) x
  generalize layNew t es (knd.hash k) x=L at *
  obtain ⟨es1,t1,wd,gv⟩:=L
  dsimp only at pm pf pr1 pl1 ⊢
  rw [Sm] at pm
  obtain ⟨ks1,kp,kq⟩:=cB.perm pm.symm (pr.app (.cons (⟨hk,rfl,hx⟩:Ent knd k (knd.hash k,x)) .nil))
  have hz:es1.size=es.size + 1:=by rw [<-NK,pm.length_eq,Nq,NK]; rfl
  have sb1:es1.size < QO:=by rw [hz,<-hlen]; exact room
  have nd1:ks1.Nodup:=kp.nodup_iff.mp (UO.mpr ⟨nd,SU _ _,fun y hy z hz' e=>hk0 (by rw [M0] at hz'; rw [<-hz',<-e]; exact hy)⟩)
  have fin:∀ h' ks',Nn a s.heap h'->dW knd h' a ks' led->Os ks' ks1->Q true { s with heap:=h' }:=fun h' ks' b R' pp=>
   q h' ks' true b R' (fun y=>by rw [pp.mem_iff,<-kp.mem_iff,NL,M0]) (by rw [pp.length_eq,<-kp.length_eq,Nq]; exact M1 _)
  apply MV
  have gw:∀ (b:Bool) (z:Shared) (P:Unit->Shared->Prop),P () z->wpAny (model prog w) A (match b with | true=>rule "set.scan.the-table-gave-way" | false=>pure ()) P E z:=fun b z P hP=>by cases b <;> first | exact MX hP | exact Pi hP
  refine gw gv _ _ ?_
  split
  ·apply MV
   rw [hashByValue_scannable 8 hx]
   apply MX
   refine zB (led:=led) (fun b z P hP=>by cases b <;> first | exact MX hP | exact Pi hP) g1 g2 g3 kq nd1 sb1 ?_ ?_ ?_ fun h' ks' b R' pp=>?_
   ·split
    ·exact pf
    ·exact Nt.fits_plain_off pf
   ·split <;> exact pr1
   ·split <;> exact pl1.trans ld
   ·exact MX (fin h' ks' b R' pp)
  ·apply MV
   apply MX
   simp only [↓reduceIte]
   refine zB (led:=led) (fun b z P hP=>by cases b <;> first | exact MX hP | exact Pi hP) g1 g2 g3 kq nd1 sb1 pf pr1 (pl1.trans ld) fun h' ks' b R' pp=>?_
   exact MX (fin h' ks' b R' pp)
end
end L2
end
namespace L2
open PySem PyProof.Rows
section
open PySem.Spec
section
variable {prog:Program} {w:World} {K:Type} [DecidableEq K] {knd:KeyKind prog w K} {A:Around} {R:Result->Shared->Prop} {I:Addr} {fp wr:List Addr} {G:Array TH->Array TH->Prop} {n:Nat} {P:Nat->Value->Prop} {St:Nat->Shared->Prop}
theorem dW.at {h h':Heap} {a:Addr} {ks:List K} {led:Bool} (r:dW knd h a ks led) (k:∀ o,h.get? a=some o->h'.get? a=some o):dW knd h' a ks led:=by
 obtain ⟨o,es,ep,t,e,z⟩:=r
 exact ⟨o,es,ep,t,k o e,z⟩
theorem IO (W:WalksS prog w A.in1 I fp wr G n P St) (S:Addr) (free:S∉fp) (key:Nat->K) (hkey:∀ i v,P i v->knd.is (key i) v=true/\v.scannable=true) (room:n + 1 < QO) {led:Bool}:
  ∀ (m i:Nat) (s:Shared) (ks:List K),n - i=m->i<=n->St i s->dW knd s.heap S ks led->(∀ y,y∈ks↔∃ j,j < i/\key j=y)->ks.length<=i->
   (∀ s' ks',Moved (S :: wr) G s s'->dW knd s'.heap S ks' led->(∀ y,y∈ks'↔∃ j,j < n/\key j=y)->R (.ok (.ret .none)) s')->
   codeAny (model prog w) A (.builtin "set.update.loop" ⟨[.ref S,.ref I],[]⟩) R s:=by
 have nw:S∉wr:=fun z=>free (W.sub _ z)
 have up:∀ b∈wr,b∈S :: wr:=fun b z=>Nh _ z
 intro m
 induction m with
 | zero=>
  intro i s ks hm hi st r mem len done
  obtain rfl:i=n:=by omega
  apply Pu SV
  rw [O8 QU _]
  show wpAny _ A.in1 (pyNext (.ref I) >>= _) _ _ s
  apply MV
  refine W.done s _ _ st fun z mv=>?_
  show wpAny _ A.in1 (ret Ol) _ _ z
  exact MX (done z ks (mv.mono up) (r.at fun o e=>mv.heap S _ nw e) mem)
 | succ m ih=>
  intro i s ks hm hi st r mem len done
  have lt:i < n:=by omega
  apply Pu SV
  rw [O8 QU _]
  show wpAny _ A.in1 (pyNext (.ref I) >>= _) _ _ s
  apply MV
  refine W.item i s _ _ lt st fun v z pv stz mv=>?_
  obtain ⟨kv,sv⟩:=hkey i v pv
  have rz:dW knd z.heap S ks led:=r.at fun o e=>mv.heap S _ nw e
  show wpAny _ A.in1 (holding [v] (setAdd S v) >>= _) _ _ z
  apply MV
  apply Og
  unfold setAdd
  apply Og
  apply MV
  refine knd.pyHash kv ?_
  refine Kv (s:={ z with toks:=z.toks + 1 }) kv sv rz (by omega) fun h' ks' b sb r' mem' len'=>?_
  refine MX ⟨Qe QU _,ih (i + 1) _ ks' (by omega) lt (W.frame _ z _ _ stz (Pf _) fun c hc o e=>?_) r' (fun y=>?_) (by omega) fun z' ks2 mv2 r2 mem2=>?_⟩
  ·rw [sb.2 c (fun e':c=S=>free (by rw [<-e']; exact hc))]
   exact e
  ·rw [mem',mem]
   constructor
   ·rintro (⟨j,hj,e⟩ | e)
    ·exact ⟨j,by omega,e⟩
    ·exact ⟨i,by omega,e.symm⟩
   ·rintro ⟨j,hj,e⟩
    rcases UD j i with q | q
    ·exact .inl ⟨j,q,e⟩
    ·have:j=i:=by omega
     subst this
     exact .inr e.symm
  ·refine done z' ks2 (Moved.trans W.gtrans ((mv.mono up).then_heap (Pf _) fun c o hc e=>?_) mv2) r2 mem2
   rw [sb.2 c (fun e':c=S=>hc (by rw [e']; exact M7))]
   exact e
end
end
section
open PySem.Spec
section
variable {prog:Program} {w:World} {A:Around} {E:Value->Shared->Prop} {s:Shared}
noncomputable def eR (w:World):Bool:=w.params.followText "set-order"
noncomputable abbrev oN (w:World):Obj:={ cls:=.type "set",dict:=none,data:=.set #[] 0 (.fresh 0 0 (!eR w)) }
theorem IP (x:Value) {Q:Value->Shared->Prop} (q:Q (.ref s.heap.objs.size) { s with heap:=s.heap.push (oN w) }):codeAny (model prog w) A (.call (.builtin "set.__new__") ⟨[.type "set",x],[]⟩) (wants Q E) s:=by
 apply VW
 show wpAny _ A.in1 (do checkBuiltinCall "set.__new__" ⟨[.type "set",x],[]⟩; again (.builtin "set.__new__" ⟨[.type "set",x],[]⟩)) _ _ s
 apply MV
 apply Tg (PySem.F.newCall_set_1 x)
 refine MX ⟨Qe Tx _,?_⟩
 apply Pu PySem.F.entry_set_new
 rw [O8 Tx _]
 unfold Builtin.«set.__new__»
 unfold Builtin.Frozenset.newClass
 have self_:=sub_set_self
 obtain ⟨hp,g,d,tk,os⟩:=s
 dsimp only
 wp_walk
 apply SN
 apply MX
 dsimp only
 simp only [newObj]
 apply MV
 apply wpAny_alloc
 apply MX
 exact MX q
theorem dW.new {K:Type} [DecidableEq K] {knd:KeyKind prog w K} {h:Heap} {a:Addr} (e:h.get? a=some (oN w)):dW knd h a [] (!eR w):=
 ⟨_,#[],0,_,e,⟨rfl,rfl,rfl⟩,rfl,.nil,.nil,by decide,rfl,.nil,rfl⟩
end
end
section
open PySem.Spec
section
variable {prog:Program} {w:World} {K:Type} [DecidableEq K] {knd:KeyKind prog w K} {A:Around} {E:Value->Shared->Prop} {s:Shared}
theorem Kw {l:Addr} {xs:Array Value} (key:Nat->K) {Q:Value->Shared->Prop} (calm:A.handled=none) (hl:s.heap.IsList l xs) (hkey:∀ i v,xs[i]?=some v->knd.is (key i) v=true/\v.scannable=true) (room:xs.size + 1 < QO)
  (q:∀ (h':Heap) (tk:Nat) (ks:List K),dW knd h' s.heap.objs.size ks (!eR w)->(∀ y,y∈ks↔∃ j,j < xs.size/\key j=y)->(∀ b o,b < s.heap.objs.size->s.heap.get? b=some o->h'.get? b=some o)->Q (.ref s.heap.objs.size) { s with heap:=h',toks:=tk }):
  wpAny (model prog w) A (call (.type "set") [.ref l]) Q E s:=by
 have ft:=PySem.F.called_set
 obtain ⟨c0,tl0,mro0⟩:=ft.mro
 have made0:=ft.made
 have sub0:=ft.sub
 have not0:=ft.notType
 have can0:=ft.canCreate
 have chk0:=PySem.F.typeCall_set_1 (.ref l)
 apply VC
 apply VW
 show wpAny _ _ (callAny (.type "set") _) _ _ _
 refine MX ⟨Code.quiet_builtin _ (by decide +kernel),?_⟩
 apply Pu PySem.F.entry_type_call
 rw [Around.under_plain (weight_type_call_type "set" [.ref l] []) rfl]
 repeat (any_goals (first | assumption | wp_step))
 refine Qt (IP (.ref l) (E:=E) (Q:=fun ob z=>ob=.ref s.heap.objs.size/\z={ s with heap:=s.heap.push (oN w) }) ⟨rfl,rfl⟩) fun r z hz=>?_
 cases r with
 | error e=>exact hz
 | ok fl=>
  cases fl with
  | next=>exact hz.elim
  | brk=>exact hz.elim
  | cont=>exact hz.elim
  | ret ob=>
   obtain ⟨rfl,rfl⟩:=hz
   have got:(s.heap.push (oN w)).get? s.heap.objs.size=some (oN w):=Nc _ rfl
   have isT:Uc { s with heap:=s.heap.push (oN w) } (.ref s.heap.objs.size) "set":=⟨_,got,rfl⟩
   have look0:=ft.init.lookup
   have bind0:=ft.init.bind (.ref s.heap.objs.size)
   repeat (any_goals (first | assumption | wp_step))
   refine Qt (codeAny_call_builtin (R:=wants (fun r z=>r=.none/\∃ h' tk ks,z={ s with heap:=h',toks:=tk }/\dW knd h' s.heap.objs.size ks (!eR w)/\(∀ y,y∈ks↔∃ j,j < xs.size/\key j=y)/\∀ b o,b < s.heap.objs.size->s.heap.get? b=some o->h'.get? b=some o) E) ft.init.plain PySem.F.entry_set_init (check_set_init_1 isT ?_)) fun r z hz=>?_
   ·obtain ⟨ob,gl,cl,nl,dl⟩:=hl
    obtain ⟨a1,a2,a3,a4⟩:=ob
    simp only at cl dl
    subst cl dl
    have gl1:(s.heap.push (oN w)).get? l=some { cls:=.type "list",dict:=a2,data:=.seq xs nl,slots:=a4 }:=MW _ gl
    have sls:=PySem.F.sub_list_set
    have slf:=PySem.F.sub_list_frozenset
    have nd0:(Om "list" == Om "dict")=false:=by decide
    have il:(s.heap.push (oN w)).IsList l xs:=⟨_,gl1,rfl,nl,rfl⟩
    unfold Builtin.«set.__init__»
    unfold noKeywords
    unfold Builtin.Frozenset.updateFrom
    generalize gPI:pyIter=PI
    wp_walk
    subst gPI
    apply Qp il
    apply MV
    apply wpAny_runValue
    have lt:l < s.heap.objs.size:=Na gl
    have sz:(s.heap.push (oN w)).objs.size=s.heap.objs.size + 1:=NV _ _
    have fr:s.heap.objs.size∉[(s.heap.push (oN w)).objs.size,l]:=by
     rw [sz]
     intro hm
     rcases M6.1 hm with e | hm
     ·exact absurd e (NF (OA _))
     ·rcases M6.1 hm with e | hm
      ·exact absurd e.symm (NF lt)
      ·exact nomatch hm
    refine IO (knd:=knd) ((VJ (by simp [calm]) _ l (by rw [sz]; exact NF (Ou lt)) xs).toS) s.heap.objs.size fr key (fun i v hv=>hkey i v hv) room (led:=!eR w) (xs.size - 0) 0 _ [] (by omega) (N3 _) ⟨⟨_,Nc _ rfl,rfl,rfl⟩,il.push _⟩ (dW.new (MW _ got)) (fun y=>⟨fun z=>(nomatch z),fun ⟨j,hj,_⟩=>absurd hj (Rq _)⟩) (M1 _) fun z ks mv r mem=>?_
    obtain ⟨h',g',d',tk',os'⟩:=z
    obtain rfl:g'=s.gens:=mv.gens
    obtain rfl:d'=s.drawn:=mv.drawn
    obtain rfl:os'=s.os:=mv.os
    show wpAny _ _ _ _ _ _
    refine MX ?_
    show wpAny _ _ (ret Ol) _ _ _
    refine MX ⟨rfl,h',tk',ks,rfl,r,mem,fun b o hb e=>mv.heap b o (fun hm=>?_) (MW _ (MW _ e))⟩
    rcases M6.1 hm with e | hm
    ·exact absurd e (NF hb)
    ·rcases M6.1 hm with e | hm
     ·rw [sz] at e
      exact absurd e (NF (Ou hb))
     ·exact nomatch hm
   ·cases r with
    | error e=>exact hz
    | ok fl=>
     cases fl with
     | next=>exact hz.elim
     | brk=>exact hz.elim
     | cont=>exact hz.elim
     | ret r=>
      obtain ⟨rfl,h',tk,ks,rfl,r1,r2,r3⟩:=hz
      repeat (any_goals (first | assumption | wp_step))
      exact q _ _ ks r1 r2 r3
end
end
section
open PySem.Spec
theorem fR:Slot "set_iterator" "__next__" "set_iterator.__next__":=by
 refine Slot.of (owner:="set_iterator") (n:="__next__") ?_ ?_ ?_ ?_ ?_ ?_
 ·rw [Ru,Qx]
  kernel_rfl
 ·decide +kernel
 ·decide +kernel
 ·decide +kernel
 ·first
   | exact .inl (by decide +kernel)
   | exact .inr (by decide +kernel)
 ·rw [Tz]
  kernel_rfl
theorem DJ:Slot "set_iterator" "__iter__" "set_iterator.__iter__":=by
 refine Slot.of (owner:="set_iterator") (n:="__iter__") ?_ ?_ ?_ ?_ ?_ ?_
 ·rw [Ru,Qx]
  kernel_rfl
 ·decide +kernel
 ·decide +kernel
 ·decide +kernel
 ·first
   | exact .inl (by decide +kernel)
   | exact .inr (by decide +kernel)
 ·rw [Tz]
  kernel_rfl
theorem qq:entryFor table "set_iterator.__next__"=some Builtin.«set_iterator.__next__»:=by
 apply entryFor_of_tree
 kernel_rfl
theorem IQ:entryFor table "set_iterator.__iter__"=some Builtin.«dict_keyiterator.__iter__»:=by
 refine entryFor_alias (id':="dict_keyiterator.__iter__") ?_ rfl ?_ ?_
 ·kernel_rfl
 ·decide +kernel
 ·kernel_rfl
theorem Ky:entryFor table "set.__iter__"=some Builtin.«frozenset.__iter__»:=by
 refine entryFor_alias (id':="frozenset.__iter__") ?_ rfl ?_ ?_
 ·kernel_rfl
 ·decide +kernel
 ·kernel_rfl
theorem Cf:Manifest.owners.lookup (String.ofList ['r','o','t','a','r','e','t','i','_','t','e','s'].reverse)=some Manifest.sig_set_iterator:=by kernel_rfl
theorem qr (a:Value):argsOk "set_iterator.__next__" ⟨[a],[]⟩:=by
 unfold argsOk
 rw [signature?_of (id:="set_iterator.__next__") (n:=['_','_','t','x','e','n','_','_']) (o:=['r','o','t','a','r','e','t','i','_','t','e','s']) (by kernel_rfl) Cf]
 kernel_rfl
theorem IR (a:Value):argsOk "set_iterator.__iter__" ⟨[a],[]⟩:=by
 unfold argsOk
 rw [signature?_of (id:="set_iterator.__iter__") (n:=['_','_','r','e','t','i','_','_']) (o:=['r','o','t','a','r','e','t','i','_','t','e','s']) (by kernel_rfl) Cf]
 kernel_rfl
end
section
open PySem.Spec
noncomputable def SAt (h:Heap) (a:Addr) (es:Array (Int×Value)) (ep:Nat) (t:Nt):Prop:=∃ o,h.get? a=some o/\o.data=.set es ep t/\t.fits es.size=true
noncomputable def d4 (h:Heap) (I a:Addr) (f:Value) (i n ep:Nat):Prop:=∃ o,h.get? I=some o/\o.cls=.type "set_iterator"/\o.data=.fields #[f,.int i 0,.ref a,.int n 0,.int ep 0]
theorem SAt.at {h h':Heap} {a:Addr} {es:Array (Int×Value)} {ep:Nat} {t:Nt} (x:SAt h a es ep t) (k:∀ o,h.get? a=some o->h'.get? a=some o):SAt h' a es ep t:=by
 obtain ⟨o,e,r⟩:=x
 exact ⟨o,k o e,r⟩
theorem d4.at {h h':Heap} {I a:Addr} {f:Value} {i n ep:Nat} (x:d4 h I a f i n ep) (k:∀ o,h.get? I=some o->h'.get? I=some o):d4 h' I a f i n ep:=by
 obtain ⟨o,e,r⟩:=x
 exact ⟨o,k o e,r⟩
theorem d4.type {s:Shared} {I a:Addr} {f:Value} {i n ep:Nat} (x:d4 s.heap I a f i n ep):s.TypeIs (.ref I) "set_iterator":=by
 obtain ⟨o,e,c,_⟩:=x
 exact ⟨o,e,c⟩
theorem d4.set {h:Heap} {I a:Addr} {f g:Value} {i n ep:Nat} (x:d4 h I a f i n ep):d4 (h.update I (R9 (·.setIfInBounds 0 g))) I a g i n ep:=by
 obtain ⟨o,e,c,d⟩:=x
 refine ⟨_,N1 _ e (Q9 (PF d _)),(Sh ..).trans c,?_⟩
 rw [PF d]
 simp
theorem d4.step {h:Heap} {I a:Addr} {f:Value} {i n ep:Nat} (x:d4 h I a f i n ep):d4 (h.update I (R9 (·.setIfInBounds 1 (rawInt ((i:Int) + 1))))) I a f (i + 1) n ep:=by
 obtain ⟨o,e,c,d⟩:=x
 refine ⟨_,N1 _ e (Q9 (PF d _)),(Sh ..).trans c,?_⟩
 rw [PF d]
 simp [rawInt]
section
variable {prog:Program} {w:World} {A:Around} {E:Value->Shared->Prop} {s:Shared} {I a:Addr} {es:Array (Int×Value)} {ep:Nat} {t:Nt} {i:Nat}
theorem tY {Q:Bool->Shared->Prop} (q:Q (eR w) s):wpAny (model prog w) A setsByText Q E s:=by
 unfold setsByText
 apply MV
 apply SN
 exact MX q
theorem DL {slot:Nat} {Q:Option (Value×Nat)->Shared->Prop} (b:eR w=true) (hs:SAt s.heap a es ep t) (q:Q ((QP (w.params.setOrder a ep) es)[i]?.map fun e=>(e.2,slot)) s):wpAny (model prog w) A (setNext a slot i ep) Q E s:=by
 obtain ⟨o,g1,g3,ft⟩:=hs
 unfold setNext
 apply MV
 apply Ov g1 g3 ft
 dsimp only
 apply MV
 apply tY
 rw [if_pos b,if_neg (by simp)]
 apply MV
 unfold setWalk
 apply MV
 apply Ov g1 g3 ft
 dsimp only
 apply MV
 apply tY
 rw [if_pos b]
 apply MV
 apply SN
 apply MX
 exact MX q
theorem DM {slot:Nat} {Q:Option (Value×Nat)->Shared->Prop} (b:eR w=false) (pl:(!t.plain && decide (es.size > 1))=false) (ld:t.led=true) (hs:SAt s.heap a es ep t)
  (q:Q (match es[Ny t.place slot]?,t.place[Ny t.place slot]? with | some (_,x),some j=>some (x,j + 1) | _,_=>none) s):wpAny (model prog w) A (setNext a slot i ep) Q E s:=by
 obtain ⟨o,g1,g3,ft⟩:=hs
 unfold setNext
 apply MV
 apply Ov g1 g3 ft
 dsimp only
 apply MV
 apply tY
 rw [if_neg (by rw [b]; exact Nd)]
 show wpAny _ _ (if (!t.plain && decide (es.size > 1))=true then _ else _) _ _ _
 rw [if_neg (by rw [pl]; exact Nd)]
 apply MV
 show wpAny _ _ (if (!t.led && !es.isEmpty)=true then _ else _) _ _ _
 rw [if_neg (by rw [ld]; simp)]
 apply MX
 exact MX q
theorem Kz {p:Nat} {x:Int×Value} {Q:Value->Shared->Prop} (hs:SAt s.heap a es ep t) (hx:es[p]?=some x) (q:Q x.2 s):wpAny (model prog w) A (setNextDrawn a p ep) Q E s:=by
 obtain ⟨o,g1,g3,ft⟩:=hs
 unfold setNextDrawn
 apply MV
 apply Ov g1 g3 ft
 dsimp only
 rw [if_neg (by simp),hx]
 exact MX q
theorem DN {slot nx:Nat} {x:Value} {Q:Option Value->Shared->Prop} (hit:d4 s.heap I a (.int slot 0) i es.size ep) (hs:SAt s.heap a es ep t)
  (hx:∀ (A:Around) (E:Value->Shared->Prop) (Q:Option (Value×Nat)->Shared->Prop),Q (some (x,nx)) s->wpAny (model prog w) A (setNext a slot i ep) Q E s)
  (q:∀ h',d4 h' I a (.int nx 0) (i + 1) es.size ep->Nn I s.heap h'->Q (some x) { s with heap:=h' }):wpAny (model prog w) A (pyNext (.ref I)) Q E s:=by
 obtain ⟨o,g1,g3,ft⟩:=id hs
 obtain ⟨u,e1,e2,e3⟩:=id hit
 unfold pyNext
 apply MV
 apply PX
 refine NY (name:=O1 "__next__") hit.type fR ?_
 refine NP fR hit.type qq ?_ (qr _)
 refine MV (MX ?_)
 refine MV (RH e1 e3 ?_)
 dsimp only
 apply MV
 unfold Su
 apply MV
 apply Ov g1 g3 ft
 apply MX
 rw [if_neg (by simp)]
 apply MV
 refine hx _ _ _ ?_
 dsimp only
 refine MV (PB e1 e3 (by simp) ?_)
 have it1:d4 (s.heap.update I (R9 (·.setIfInBounds 0 (rawInt (nx:Int))))) I a (.int nx 0) i es.size ep:=hit.set
 obtain ⟨u',e1',e2',e3'⟩:=id it1
 refine MV (PB e1' e3' (by simp) ?_)
 exact MX ⟨_,rfl,MX (q _ it1.step ((N2 _ I _).trans (N2 _ I _)))⟩
theorem GZ {slot:Nat} {Q:Option Value->Shared->Prop} (calm:A.handled=none) (hit:d4 s.heap I a (.int slot 0) i es.size ep) (hs:SAt s.heap a es ep t)
  (hx:∀ (A:Around) (E:Value->Shared->Prop) (Q:Option (Value×Nat)->Shared->Prop),Q none s->wpAny (model prog w) A (setNext a slot i ep) Q E s)
  (q:∀ h',QD I s.heap h'->Q none { s with heap:=h' }):wpAny (model prog w) A (pyNext (.ref I)) Q E s:=by
 obtain ⟨o,g1,g3,ft⟩:=id hs
 obtain ⟨u,e1,e2,e3⟩:=id hit
 unfold pyNext
 apply MV
 apply PX
 refine NY (name:=O1 "__next__") hit.type fR ?_
 refine NP fR hit.type qq ?_ (qr _)
 refine MV (MX ?_)
 refine MV (RH e1 e3 ?_)
 dsimp only
 apply MV
 unfold Su
 apply MV
 apply Ov g1 g3 ft
 apply MX
 rw [if_neg (by simp)]
 apply MV
 refine hx _ _ _ ?_
 dsimp only
 refine MV (PB e1 e3 (by simp) ?_)
 show wpAny _ _ (newExc (.type "StopIteration") [] >>= _) _ _ _
 apply MV
 simp only [newExc,Vk]
 apply MV
 refine Oa ?_ (by size_fits)
 apply MV
 refine Tg (a:=Ol) (by rfl) ?_
 refine Oa ?_ (by size_fits)
 simp only [raiseNew]
 refine MV (T9 ?_)
 rw [show A.in1.handled=none from calm]
 refine UY ?_
 apply MV
 refine O3 (T:="StopIteration") (b:=true) ?_ QR ?_
 ·exact ⟨_,Nc _ rfl,rfl⟩
 ·exact MX (q _ (((N2 _ I _).extBut.push _).push _))
theorem IS {d:Addr} {ps:Array Value} {p:Nat} {x:Int×Value} {Q:Option Value->Shared->Prop} (hit:d4 s.heap I a (.ref d) i es.size ep) (hs:SAt s.heap a es ep t) (ht:s.heap.IsTuple d ps) (hp:ps[i]?=some (.int p 0)) (hx:es[p]?=some x)
  (q:∀ h',d4 h' I a (.ref d) (i + 1) es.size ep->Nn I s.heap h'->Q (some x.2) { s with heap:=h' }):wpAny (model prog w) A (pyNext (.ref I)) Q E s:=by
 obtain ⟨o,g1,g3,ft⟩:=id hs
 obtain ⟨u,e1,e2,e3⟩:=id hit
 unfold pyNext
 apply MV
 apply PX
 refine NY (name:=O1 "__next__") hit.type fR ?_
 refine NP fR hit.type qq ?_ (qr _)
 refine MV (MX ?_)
 refine MV (RH e1 e3 ?_)
 dsimp only
 apply MV
 unfold Su
 apply MV
 apply Ov g1 g3 ft
 apply MX
 rw [if_neg (by simp)]
 obtain ⟨v,f1,f2,n,f3⟩:=id ht
 apply MV
 refine Od f1 f3 ?_
 dsimp only
 rw [show ((i:Int)).toNat=i from rfl,hp]
 dsimp only
 apply MV
 refine Kz hs hx ?_
 refine MV (PB e1 e3 (by simp) ?_)
 exact MX ⟨_,rfl,MX (q _ hit.step (N2 _ I _))⟩
theorem KA {d:Addr} {ps:Array Value} {Q:Option Value->Shared->Prop} (calm:A.handled=none) (hit:d4 s.heap I a (.ref d) i es.size ep) (hs:SAt s.heap a es ep t) (ht:s.heap.IsTuple d ps) (hp:ps[i]?=none)
  (q:∀ h',QD I s.heap h'->Q none { s with heap:=h' }):wpAny (model prog w) A (pyNext (.ref I)) Q E s:=by
 obtain ⟨o,g1,g3,ft⟩:=id hs
 obtain ⟨u,e1,e2,e3⟩:=id hit
 unfold pyNext
 apply MV
 apply PX
 refine NY (name:=O1 "__next__") hit.type fR ?_
 refine NP fR hit.type qq ?_ (qr _)
 refine MV (MX ?_)
 refine MV (RH e1 e3 ?_)
 dsimp only
 apply MV
 unfold Su
 apply MV
 apply Ov g1 g3 ft
 apply MX
 rw [if_neg (by simp)]
 obtain ⟨v,f1,f2,n,f3⟩:=id ht
 apply MV
 refine Od f1 f3 ?_
 dsimp only
 rw [show ((i:Int)).toNat=i from rfl,hp]
 dsimp only
 refine MV (PB e1 e3 (by simp) ?_)
 have it1:d4 (s.heap.update I (R9 (·.setIfInBounds 0 (rawInt 0)))) I a (rawInt 0) i es.size ep:=hit.set
 obtain ⟨u',e1',e2',e3'⟩:=id it1
 refine MV (PB e1' e3' (by simp) ?_)
 show wpAny _ _ (newExc (.type "StopIteration") [] >>= _) _ _ _
 apply MV
 simp only [newExc,Vk]
 apply MV
 refine Oa ?_ (by size_fits)
 apply MV
 refine Tg (a:=Ol) (by rfl) ?_
 refine Oa ?_ (by size_fits)
 simp only [raiseNew]
 refine MV (T9 ?_)
 rw [show A.in1.handled=none from calm]
 refine UY ?_
 apply MV
 refine O3 (T:="StopIteration") (b:=true) ?_ QR ?_
 ·exact ⟨_,Nc _ rfl,rfl⟩
 ·exact MX (q _ ((((N2 _ I _).trans (N2 _ I _)).extBut.push _).push _))
theorem yG {f:Value} {n:Nat} {Q:Value->Shared->Prop} (hit:d4 s.heap I a f i n ep) (q:Q (.ref I) s):wpAny (model prog w) A (pyIter (.ref I)) Q E s:=by
 refine UU hit.type DJ ?_
 refine NP DJ hit.type IQ ?_ (IR _)
 show wpAny _ _ (ret (.ref I)) _ _ s
 exact MX ⟨_,rfl,"set_iterator",_,hit.type,fR.lookup,q⟩
end
end
section
open PySem.Spec
theorem yH {α:Type}:∀ (l:List α) (i:Nat) (h:i < l.length),Os (l[i] :: l.eraseIdx i) l
 | x :: l,0,_=>.refl _
 | x :: l,i + 1,h=>(Os.swap x _ _).trans (.cons x (yH l i (Nat.lt_of_succ_lt_succ h)))
theorem DO {α:Type} (next:Nat->Nat):∀ (fuel k:Nat) (left:List α) (out:Array α),left.length=fuel->Os (QP.go next fuel k left out).toList (out.toList++left)
 | 0,k,left,out,h=>by
  obtain rfl:=Qc.mp h
  rw [OY]
  exact .refl _
 | fuel + 1,k,left,out,h=>by
  have hl:next k % left.length < left.length:=Nat.mod_lt _ (by omega)
  show Os (match left[next k % left.length]? with | some x=>QP.go next fuel (k + 1) (left.eraseIdx (next k % left.length)) (out.push x) | none=>out).toList _
  rw [MZ hl]
  refine (DO next fuel (k + 1) _ _ (by rw [Sa hl,h]; rfl)).trans ?_
  rw [Sm,Sg]
  exact Os.append_left _ (yH _ _ hl)
theorem sw {α:Type} (next:Nat->Nat) (xs:Array α):Os (QP next xs).toList xs.toList:=DO next xs.size 0 xs.toList #[] (by simp)
section
variable {prog:Program} {w:World} {A:Around} {E:Value->Shared->Prop} {s:Shared} {I a:Addr} {es:Array (Int×Value)} {ep:Nat} {t:Nt} {i:Nat}
theorem IT {src:Source} {n:Nat} {Q:Nat->Shared->Prop} (hn:n≠0) (q:∀ i dr,i < n->Q i { s with drawn:=dr }):wpAny (model prog w) A (choose src n) Q E s:=fun _ _ _=>⟨hn,q _ _ (Nat.mod_lt _ (Nat.pos_of_ne_zero hn))⟩
theorem zC {α:Type}:∀ (n:Nat) (xs:List α) (s:Shared) (Q:List α->Shared->Prop),xs.length=n->(∀ ys dr,Os ys xs->Q ys { s with drawn:=dr })->wpAny (model prog w) A (drawOrder n xs) Q E s
 | 0,xs,s,Q,h,q=>by
  obtain rfl:=Qc.mp h
  exact MX (q [] s.drawn .nil)
 | n + 1,[],s,Q,h,q=>nomatch h
 | n + 1,x :: xs,s,Q,h,q=>by
  unfold drawOrder
  apply MV
  refine IT (by simp) fun i dr hi=>?_
  rw [MZ hi]
  dsimp only
  apply MV
  refine zC n _ _ _ (by rw [Sa hi,h]; rfl) fun ys dr' p=>?_
  exact MX (q _ _ ((Os.cons _ p).trans (yH _ _ hi)))
noncomputable abbrev Ord (ord:List (Int×Value)) (i:Nat) (v:Value):Prop:=∃ e,ord[i]?=some e/\e.2=v
theorem KB (calm:A.handled=none) (b:eR w=true) (hne:a≠I):
  Walks prog w A I [I,a] [I] es.size (Ord (QP (w.params.setOrder a ep) es).toList) (fun i h=>(∃ slot:Nat,d4 h I a (.int slot 0) i es.size ep)/\SAt h a es ep t) where
 sub:=fun b hb=>by
  rw [M0.mp hb]
  exact M7
 frame:=fun i h h' st k=>⟨st.1.elim fun n z=>⟨n,z.at (k I M7)⟩,st.2.at (k a (Nh _ M7))⟩
 item:=fun i s Q E hi st q=>by
  obtain ⟨⟨slot,it⟩,hs⟩:=st
  have len:=(sw (w.params.setOrder a ep) es).length_eq
  have hl:i < (QP (w.params.setOrder a ep) es).size:=by
   rw [<-NK,len,NK]
   exact hi
  refine DN (x:=(QP (w.params.setOrder a ep) es)[i].2) (nx:=slot) it hs (fun A E Q h=>DL b hs ?_) fun h' it' sb=>?_
  ·rw [OZ hl]
   exact h
  ·refine q _ h' s.toks ⟨_,?_,rfl⟩ ⟨⟨slot,it'⟩,hs.at fun o e=>?_⟩ fun c o hc e=>?_
   ·rw [PR,OZ hl]
   ·exact sb.extBut a o hne e
   ·exact sb.extBut c o (fun z=>hc (by rw [z]; exact M7)) e
 done:=fun s Q E st q=>by
  obtain ⟨⟨slot,it⟩,hs⟩:=st
  have len:=(sw (w.params.setOrder a ep) es).length_eq
  have hl:(QP (w.params.setOrder a ep) es).size<=es.size:=by
   rw [<-NK,len,NK]
   exact M1 _
  refine GZ calm it hs (fun A E Q h=>DL b hs ?_) fun h' xb=>q h' s.toks fun c o hc e=>?_
  ·rw [Q2 hl]
   exact h
  ·exact xb c o (fun z=>hc (by rw [z]; exact M7)) e
 self:=fun i s Q E st q=>st.1.elim fun n z=>yG z q
noncomputable def vA (t:Nt):Nat->Nat
 | 0=>0
 | j + 1=>t.place.getD j 0 + 1
theorem w5 (rs:Rs t.place.toList):∀ i,i<=t.place.size->Ny t.place (vA t i)=i
 | 0,_=>EI _ rs
 | j + 1,h=>by
  have hj:j < t.place.size:=h
  have hj':j < t.place.toList.length:=by simpa using hj
  have e:vA t (j + 1)=t.place.toList[j] + 1:=by rw [vA,zA _ _ _ hj]
  rw [e]
  exact EH _ rs hj'
theorem KC (calm:A.handled=none) (b:eR w=false) (pl:(!t.plain && decide (es.size > 1))=false) (ld:t.led=true) (rs:Rs t.place.toList) (sz:t.place.size=es.size) (hne:a≠I):
  Walks prog w A I [I,a] [I] es.size (Ord es.toList) (fun i h=>d4 h I a (.int (vA t i:Nat) 0) i es.size ep/\SAt h a es ep t) where
 sub:=fun b hb=>by
  rw [M0.mp hb]
  exact M7
 frame:=fun i h h' st k=>⟨st.1.at (k I M7),st.2.at (k a (Nh _ M7))⟩
 item:=fun i s Q E hi st q=>by
  obtain ⟨it,hs⟩:=st
  have hp:i < t.place.size:=by rw [sz]; exact hi
  refine DN (x:=es[i].2) (nx:=vA t (i + 1)) it hs (fun A E Q h=>DM b pl ld hs ?_) fun h' it' sb=>?_
  ·rw [w5 rs i (N4 hp),OZ hi,OZ hp]
   have e:vA t (i + 1)=t.place[i] + 1:=by
    rw [vA,T4,dif_pos hp]
    rfl
   rw [e] at h
   exact h
  ·refine q _ h' s.toks ⟨_,?_,rfl⟩ ⟨it',hs.at fun o e=>?_⟩ fun c o hc e=>?_
   ·rw [PR,OZ hi]
   ·exact sb.extBut a o hne e
   ·exact sb.extBut c o (fun z=>hc (by rw [z]; exact M7)) e
 done:=fun s Q E st q=>by
  obtain ⟨it,hs⟩:=st
  refine GZ calm it hs (fun A E Q h=>DM b pl ld hs ?_) fun h' xb=>q h' s.toks fun c o hc e=>?_
  ·rw [w5 rs es.size (by rw [sz]; exact M1 _),Q2 (M1 _)]
   exact h
  ·exact xb c o (fun z=>hc (by rw [z]; exact M7)) e
 self:=fun i s Q E st q=>yG st.1 q
theorem qc (es:Array (Int×Value)):((Nw es.size).map fun p=>es.getD p (0,.none))=es.toList:=by
 apply List.ext_getElem
 ·simp
 ·intro i h1 h2
  have hi:i < es.size:=by simpa using h2
  rw [List.getElem_map,RU,T4,dif_pos hi]
  simp
theorem KD (calm:A.handled=none) {d:Addr} {ps:List Nat} (pm:Os ps (Nw es.size)) (hne:a≠I) (hd:d≠I):
  Walks prog w A I [I,a,d] [I] es.size (Ord (ps.map fun p=>es.getD p (0,.none))) (fun i h=>d4 h I a (.ref d) i es.size ep/\SAt h a es ep t/\h.IsTuple d (ps.map fun p=>P3 (p:Nat) 0).toArray) where
 sub:=fun b hb=>by
  rw [M0.mp hb]
  exact M7
 frame:=fun i h h' st k=>⟨st.1.at (k I M7),st.2.1.at (k a (Nh _ M7)),st.2.2.at (k d (Nh _ (Nh _ M7)))⟩
 item:=fun i s Q E hi st q=>by
  obtain ⟨it,hs,ht⟩:=st
  have len:=pm.length_eq
  rw [OG] at len
  have hl:i < ps.length:=by rw [len]; exact hi
  have lt:ps[i] < es.size:=OT.mp (pm.mem_iff.mp (Pj hl))
  refine IS (p:=ps[i]) (x:=es[ps[i]]) it hs ht ?_ (OZ lt) fun h' it' sb=>?_
  ·rw [TB,Ng,MZ hl]
   rfl
  ·refine q _ h' s.toks ⟨_,?_,rfl⟩ ⟨it',hs.at fun o e=>?_,ht.at fun o e=>?_⟩ fun c o hc e=>?_
   ·rw [Ng,MZ hl]
    show some (es.getD ps[i] (0,.none))=_
    rw [T4,dif_pos lt]
    rfl
   ·exact sb.extBut a o hne e
   ·exact sb.extBut d o hd e
   ·exact sb.extBut c o (fun z=>hc (by rw [z]; exact M7)) e
 done:=fun s Q E st q=>by
  obtain ⟨it,hs,ht⟩:=st
  have len:=pm.length_eq
  refine KA calm it hs ht ?_ fun h' xb=>q h' s.toks fun c o hc e=>?_
  ·apply Q2
   simp [len]
  ·exact xb c o (fun z=>hc (by rw [z]; exact M7)) e
 self:=fun i s Q E st q=>yG st.1 q
end
end
section
open PySem.Spec
theorem cB.get {α β:Type} {F:α->β->Prop} {l:List α} {m:List β} (h:cB F l m):∀ {i:Nat} {b:β},m[i]?=some b->∃ a,l[i]?=some a/\F a b:=by
 induction h with
 | nil=>intro i b e; cases e
 | cons r _ ih=>
  intro i b e
  cases i with
  | zero=>
   obtain rfl:_=b:=Nf e
   exact ⟨_,rfl,r⟩
  | succ i=>exact ih e
section
variable {prog:Program} {w:World} {K:Type} [DecidableEq K] {knd:KeyKind prog w K} {A:Around} {E:Value->Shared->Prop} {s:Shared} {I a:Addr} {es:Array (Int×Value)} {ep:Nat} {t:Nt} {i:Nat}
theorem vB {fp wr:List Addr} {n:Nat} {P P':Nat->Value->Prop} {St:Nat->Heap->Prop} (W:Walks prog w A I fp wr n P St) (f:∀ i v,P i v->P' i v):Walks prog w A I fp wr n P' St where
 sub:=W.sub
 frame:=W.frame
 item:=fun i s Q E hi st q=>W.item i s Q E hi st fun v h' tk pv=>q v h' tk (f i v pv)
 done:=W.done
 self:=W.self
noncomputable abbrev dN (knd:KeyKind prog w K) (ord:List K) (i:Nat) (v:Value):Prop:=∃ k,ord[i]?=some k/\knd.is k v=true
theorem yI {ks:List K} {l m:List (Int×Value)} (pr:cB (Ent knd) ks m) (p:Os l m):∃ ord,Os ord ks/\∀ i v,Ord l i v->dN knd ord i v:=by
 obtain ⟨ord,q,pr'⟩:=cB.perm p.symm pr
 refine ⟨ord,q.symm,fun i v h=>?_⟩
 obtain ⟨e,he,rfl⟩:=h
 obtain ⟨k,hk,r⟩:=pr'.get he
 exact ⟨k,hk,r.1⟩
noncomputable abbrev itO (f:Value) (a:Addr) (n ep:Nat):Obj:={ cls:=.type "set_iterator",data:=.fields #[f,.int (0:Nat) 0,.ref a,.int n 0,.int ep 0] }
theorem DQ {f:Value} {F:Fin->Shared->Prop} (hs:SAt s.heap a es ep t) (q:F (.done (.ret (.ref s.heap.objs.size))) { s with heap:=s.heap.push (itO f a es.size ep) }):
  wpAny (model prog w) A (do ret (<-newFields "set_iterator" [f,rawInt 0,.ref a,rawInt es.size,rawInt (<-setEpoch a)])) F E s:=by
 obtain ⟨o,g1,g3,ft⟩:=hs
 apply MV
 refine wpAny_setEpoch_of g1 g3 ft ?_
 apply MV
 unfold newFields
 refine Oa ?_
 exact MX q
theorem IU {ks:List K} {Q:Value->Shared->Prop} (calm:A.handled=none) (r:dW knd s.heap a ks (!eR w))
  (q:∀ (I:Addr) (h':Heap) (dr) (fp:List Addr) (St:Nat->Heap->Prop) (ord:List K),Os ord ks->Walks prog w A I fp [I] ks.length (dN knd ord) St->St 0 h'->(∀ b∈fp,b < h'.objs.size)->(∀ b∈fp,b=a\/s.heap.objs.size<=b)->s.heap.objs.size<=I->I∈fp->(∀ b o,s.heap.get? b=some o->h'.get? b=some o)->Q (.ref I) { s with heap:=h',drawn:=dr }):
  wpAny (model prog w) A (pyIter (.ref a)) Q E s:=by
 obtain ⟨o,es,ep,t,g1,g2,g3,pr,nd,sb,ft,rs,ld⟩:=id r
 have hs:SAt s.heap a es ep t:=⟨o,g1,g3,ft⟩
 have ty:s.TypeIs (.ref a) "set":=⟨o,g1,g2.1⟩
 have len:es.size=ks.length:=by rw [pr.len,NK]
 have lt:a < s.heap.objs.size:=Na g1
 rw [<-len] at q
 have sz:t.place.size=es.size:=by
  simp only [Nt.fits,ON,beq_iff_eq] at ft
  exact ft.1
 refine UU ty TC ?_
 refine NP TC ty Ky ?_ (PySem.F.args_set_iter_1 _)
 unfold Builtin.«frozenset.__iter__»
 refine MV (MX ?_)
 apply MV
 unfold Builtin.Frozenset.sizeOf
 apply MV
 unfold Su
 apply MV
 apply Ov g1 g3 ft
 apply MX
 apply MX
 apply MV
 unfold setDrawn
 apply MV
 apply Ov g1 g3 ft
 dsimp only
 apply MV
 apply tY
 apply MX
 show wpAny _ _ (if (!eR w && (!t.plain && decide (es.size > 1)))=true then _ else _) _ _ _
 by_cases c:(!eR w && (!t.plain && decide (es.size > 1)))=true
 ·rw [if_pos c]
  apply MV
  refine zC _ _ _ _ OG fun ps dr pm=>?_
  apply MV
  refine Tu ?_ (by rw [MY,pm.length_eq,OG]; exact NH (N4 sb) (by decide))
  have pz:=NV s.heap { cls:=.type "tuple",data:=.seq (ps.map fun (i:Nat)=>rawInt i).toArray }
  have hs1:=hs.at (h':=s.heap.push { cls:=.type "tuple",data:=.seq (ps.map fun (i:Nat)=>rawInt i).toArray }) fun o e=>MW _ e
  have tu:(s.heap.push { cls:=.type "tuple",data:=.seq (ps.map fun (i:Nat)=>rawInt i).toArray }).IsTuple s.heap.objs.size (ps.map fun p=>P3 (p:Nat) 0).toArray:=⟨_,Nc _ rfl,rfl,0,rfl⟩
  have kp0:∀ b o,s.heap.get? b=some o->(s.heap.push { cls:=.type "tuple",data:=.seq (ps.map fun (i:Nat)=>rawInt i).toArray }).get? b=some o:=fun b o e=>MW _ e
  generalize s.heap.push { cls:=.type "tuple",data:=.seq (ps.map fun (i:Nat)=>rawInt i).toArray }=hp at *
  have lt1:a < hp.objs.size:=by rw [pz]; exact Ou lt
  have kp:∀ b o,s.heap.get? b=some o->hp.get? b=some o:=kp0
  refine DQ (s:={ s with drawn:=dr,heap:=hp }) hs1 ⟨_,rfl,"set_iterator",_,⟨_,Nc _ rfl,rfl⟩,fR.lookup,?_⟩
  obtain ⟨ord,p1,p2⟩:=yI pr (l:=ps.map fun p=>es.getD p (0,.none)) (by rw [<-qc es]; exact pm.map _)
  refine q hp.objs.size _ dr [hp.objs.size,a,s.heap.objs.size] _ ord p1 (vB (KD (A:=A) (es:=es) (ep:=ep) (t:=t) calm pm (NF lt1) (d:=s.heap.objs.size) (NF (by rw [pz]; exact OA _))) p2) ⟨⟨_,Nc _ rfl,rfl,rfl⟩,hs1.at fun o e=>MW _ e,tu.push _⟩ (fun b hb=>?_) (fun b hb=>?_) (by rw [pz]; exact Pf _) M7 fun b o e=>MW _ (kp b o e)
  ·rw [NV]
   rcases M6.mp hb with e | hb
   ·rw [e]
    exact OA _
   ·rcases M6.mp hb with e | hb
    ·rw [e]
     exact Ou lt1
    ·rw [M0.mp hb,pz]
     exact Ou (OA _)
  ·rcases M6.mp hb with e | hb
   ·exact .inr (by rw [e,pz]; exact Pf _)
   ·rcases M6.mp hb with e | hb
    ·exact .inl e
    ·exact .inr (by rw [M0.mp hb]; exact M1 _)
 ·rw [if_neg c]
  apply MV
  apply MX
  refine DQ hs ⟨_,rfl,"set_iterator",_,⟨_,Nc _ rfl,rfl⟩,fR.lookup,?_⟩
  have it0:d4 (s.heap.push (itO (rawInt 0) a es.size ep)) s.heap.objs.size a (.int (0:Nat) 0) 0 es.size ep:=⟨_,Nc _ rfl,rfl,rfl⟩
  have hs0:SAt (s.heap.push (itO (rawInt 0) a es.size ep)) a es ep t:=hs.at fun o e=>MW _ e
  have inb:∀ b∈[s.heap.objs.size,a],b < (s.heap.push (itO (rawInt 0) a es.size ep)).objs.size:=fun b hb=>by
   rw [NV]
   rcases M6.mp hb with e | hb
   ·rw [e]
    exact OA _
   ·rw [M0.mp hb]
    exact Ou lt
  have out:∀ b∈[s.heap.objs.size,a],b=a\/s.heap.objs.size<=b:=fun b hb=>by
   rcases M6.mp hb with e | hb
   ·exact .inr (by rw [e]; exact M1 _)
   ·exact .inl (M0.mp hb)
  cases b:eR w with
  | true=>
   obtain ⟨ord,p1,p2⟩:=yI pr (sw (w.params.setOrder a ep) es)
   refine q s.heap.objs.size _ s.drawn _ _ ord p1 (vB (KB (A:=A) (es:=es) (ep:=ep) (t:=t) calm b (NF lt)) p2) ⟨⟨0,it0⟩,hs0⟩ inb out (M1 _) M7 fun b o e=>MW _ e
  | false=>
   have pl:(!t.plain && decide (es.size > 1))=false:=by
    rw [b] at c
    simpa using c
   have l1:t.led=true:=by rw [ld,b]; rfl
   obtain ⟨ord,p1,p2⟩:=yI pr (Os.refl es.toList)
   refine q s.heap.objs.size _ s.drawn _ _ ord p1 (vB (KC (A:=A) (es:=es) (ep:=ep) (t:=t) calm b pl l1 rs sz (NF lt)) p2) ⟨it0,hs0⟩ inb out (M1 _) M7 fun b o e=>MW _ e
end
end
section
open PySem.Spec PySem.W
section
variable {prog:Program} {w:World} {K:Type} [DecidableEq K] {knd:KeyKind prog w K} {A:Around} {E:Value->Shared->Prop} {s:Shared} {a:Addr}
theorem IV {Q:Bool->Shared->Prop} (ty:s.TypeIs (.ref a) "set") (q:Q false s):wpAny (model prog w) A (PK (.ref a)) Q E s:=by
 unfold PK
 apply MV
 refine Oy ty PySem.F.slot_set_len.lookup ?_
 generalize hid:("set.__len__":String)=nm
 wp_delta
 rw [show splitId nm=some ("set","__len__") from by subst hid; decide +kernel]
 subst hid
 apply MV
 refine O3 (T:="set") (b:=true) ty (by rw [Tz]; kernel_rfl) ?_
 refine S9 (fun z=>absurd z (by decide)) fun _=>?_
 refine S9 (fun _=>?_) fun z=>absurd (by decide +kernel) z
 apply MV
 refine SC ty ?_
 exact MX q
theorem dW.type {ks:List K} {led:Bool} (r:dW knd s.heap a ks led):s.TypeIs (.ref a) "set":=by
 obtain ⟨o,es,ep,t,g1,g2,_⟩:=r
 exact ⟨o,g1,g2.1⟩
theorem dW.small {h:Heap} {ks:List K} {led:Bool} (r:dW knd h a ks led):ks.length < QO:=by
 obtain ⟨o,es,ep,t,g1,g2,g3,pr,nd,sb,_⟩:=r
 rw [pr.len,NK]
 exact sb
theorem EK {ks:List K} {R:Result->Shared->Prop} (calm:A.handled=none) (r:dW knd s.heap a ks (!eR w)) (S:Addr) (ne:S≠a) (hS:s.heap.get? S=some { cls:=.type "list",data:=.seq #[] })
  (q:∀ (s':Shared) h' dr tk ord acc c,s'={ s with heap:=h',drawn:=dr,toks:=tk }->Os ord ks->(∀ b o,b≠S->s.heap.get? b=some o->h'.get? b=some o)->h'.get? S=some { cls:=.type "list",dict:=none,data:=.seq acc c,slots:=#[] }->ItemsOf (dN knd ord) acc ks.length->R (.ok (.ret (.ref S))) s'):
  wpAny (model prog w) A.in1 (Ot (.ref S) (.ref a) (.ref S)) (fun fin s'=>match fin with | .done f=>R (.ok f) s' | .again c'=>c'.quiet=true/\codeAny (model prog w) A c' R s') (fun e s'=>R (.error e) s') s:=by
 have hn:ks.length<=Nb:=NH (N4 r.small) (by decide)
 unfold Ot
 apply MV
 refine SC (T:="set") r.type ?_
 have h1:P9 (.ref S) (.ref a)=false:=by simp [P9,ne]
 have h2:(Om "set" == Om "list")=false:=by decide
 have h3:(Om "set" == Om "tuple")=false:=by decide
 simp only [h1,h2,h3,Bool.or_false,Oc,if_false]
 apply MV
 refine IU (A:=A.in1) calm r fun I h' dr fp St ord pm W st inb out ge Ifp kp=>?_
 have hS1:=kp _ _ hS
 have lS:S < s.heap.objs.size:=Na hS
 have r1:dW knd h' a ks (!eR w):=r.at fun o e=>kp a o e
 have nS:S∉fp:=fun hm=>by
  rcases out S hm with z | z
  ·exact ne z
  ·exact absurd lS (Sr.mpr z)
 have loop:∀ (h2:Heap) (c:Nat),(∀ b o,b≠S->h'.get? b=some o->h2.get? b=some o)->h2.get? S=some { cls:=.type "list",dict:=none,data:=.seq #[] c,slots:=#[] }->codeAny (model prog w) A (.builtin "list.extend.loop" ⟨[.ref S,.ref I,.ref S],[]⟩) R { s with heap:=h2,drawn:=dr }:=fun h2 c k2 e2=>by
  refine codeAny_extend_loopS W.toS hn S nS (.ref S) ks.length 0 _ #[] c rfl (N3 _) (W.frame 0 _ _ st fun b hb o e=>k2 b o (fun z=>nS (z ▸ hb)) e) e2 (ItemsOf.nil _) fun s' acc c' mv e3 it=>?_
  rw [Moved.eq_with mv]
  refine q _ s'.heap dr s'.toks ord acc c' rfl pm (fun b o hb e=>mv.heap b o (fun hm=>?_) (k2 b o hb (kp b o e))) e3 it
  rcases M6.mp hm with z | hm
  ·exact hb z
  ·rw [M0.mp hm] at e
   exact absurd (Na e) (Sr.mpr ge)
 apply MV
 apply Og
 refine IV (s:={ s with heap:=h',drawn:=dr }) r1.type ?_
 refine S9 (fun _=>?_) fun _=>?_
 ·apply MV
  apply Pi
  apply MV
  show wpAny _ _ (RW S (·.push .none) >>= fun _=>RW S (·.pop)) _ _ _
  apply MV
  refine Qj hS1 rfl ?_
  have hS2:=N1 (On (·.push Ol)) hS1 rfl
  refine Qj (hz:=by seq_fits) hS2 rfl ?_
  have hS3:=N1 (On (·.pop)) hS2 rfl
  refine MX ⟨Qe O0 _,loop _ _ (fun b o hb e=>?_) hS3⟩
  rw [OB _ _ (OC hb),OB _ _ (OC hb)]
  exact e
 ·exact MX ⟨Qe O0 _,loop _ _ (fun b o hb e=>e) hS1⟩
theorem C1 {ks:List K} {R:List Value->Shared->Prop} (calm:A.handled=none) (r:dW knd s.heap a ks (!eR w))
  (q:∀ h' dr tk ord (acc:Array Value),Os ord ks->(∀ b o,s.heap.get? b=some o->h'.get? b=some o)->s.heap.objs.size < h'.objs.size->ItemsOf (dN knd ord) acc ks.length->R acc.toList { s with heap:=h',drawn:=dr,toks:=tk }):
  wpAny (model prog w) A (collect (.ref a)) R E s:=by
 have lt:a < s.heap.objs.size:=by
  obtain ⟨o,es,ep,t,g1,_⟩:=r
  exact Na g1
 unfold collect
 apply MV
 apply wpAny_runValue
 apply Pu entry_proto_collect'
 rw [O8 PySem.F.plain_proto_collect _]
 show wpAny _ A.in1 (newList [] >>= fun l=>again (.builtin "list.__iadd__" ⟨[l,.ref a],[]⟩)) _ _ s
 apply MV
 refine Oa ?_
 refine MX ⟨Qe SW _,?_⟩
 apply Pu entry_list_iadd'
 rw [O8 SW _]
 show wpAny _ A.in1 (Ot (.ref s.heap.objs.size) (.ref a) (.ref s.heap.objs.size)) _ _ _
 have key:=EK (A:=A) (s:={ s with heap:=s.heap.push { cls:=.type "list",data:=.seq ([]:List Value).toArray } })
  (R:=fun (u:Result) (s':Shared)=>∃ h' dr tk ord acc c,u=.ok (.ret (.ref s.heap.objs.size))/\s'={ s with heap:=h',drawn:=dr,toks:=tk }/\Os ord ks/\(∀ b o,s.heap.get? b=some o->h'.get? b=some o)/\
   h'.get? s.heap.objs.size=some { cls:=.type "list",dict:=none,data:=.seq acc c,slots:=#[] }/\ItemsOf (dN knd ord) acc ks.length)
  calm (r.at fun o e=>MW _ e) s.heap.objs.size (Pe lt) (Nc _ rfl)
  fun s' h' dr tk ord acc c e pm kp e3 it=>⟨h',dr,tk,ord,acc,c,rfl,e,pm,fun b o eb=>kp b o (NF (Na eb)) (MW _ eb),e3,it⟩
 refine OX key (fun fin s' x=>?_) fun e s' x=>?_
 ·cases fin with
  | done f=>
   obtain ⟨h',dr,tk,ord,acc,c,e,rfl,pm,kp,e3,it⟩:=x
   cases e
   show wpAny _ A (load s.heap.objs.size >>= _) _ _ _
   apply MV
   refine VA e3 ?_
   exact MX (q h' dr tk ord acc pm kp (Na e3) it)
  | again c1=>
   refine ⟨x.1,Qt x.2 fun u s2 y=>?_⟩
   obtain ⟨h',dr,tk,ord,acc,c,rfl,rfl,pm,kp,e3,it⟩:=y
   show wpAny _ A (load s.heap.objs.size >>= _) _ _ _
   apply MV
   refine VA e3 ?_
   exact MX (q h' dr tk ord acc pm kp (Na e3) it)
 ·obtain ⟨h',dr,tk,ord,acc,c,e',_⟩:=x
  cases e'
end
end
section
open PySem.Spec
section
variable {X:Cx}
end
end
section
open PySem.Spec
section
variable {prog:Program} {w:World} {A:Around} {R:Result->Shared->Prop} {I:Addr} {fp wr:List Addr} {n:Nat} {P:Nat->Value->Prop} {St:Nat->Heap->Prop} {kw:List (Str×Value)}
end
end
section
open PySem.Spec
section
variable {prog:Program} {w:World} {A:Around} {E:Value->Shared->Prop} {s:Shared}
end
end
section
open PySem.Spec
section
variable {X:Cx}
end
end
section
open PySem.Calls
section
variable {X:Cx}
end
end
section
open PySem.Spec PySem.Calls
section
variable {prog:Program} {w:World} {A:Around} {E:Value->Shared->Prop} {s:Shared} {a:Addr}
theorem zD:∀ {ord:List Int} {l:List Value},l.length=ord.length->(∀ i v,l[i]?=some v->dN (intKind prog w) ord i v)->IntsAre l ord
 | [],[],_,_=>.nil
 | [],_ :: _,h,_=>nomatch h
 | _ :: _,[],h,_=>nomatch h
 | k :: ord,v :: l,h,t=>by
  obtain ⟨k',hk,hv⟩:=t 0 v rfl
  obtain rfl:k=k':=Nf hk
  obtain ⟨tk,rfl⟩:=UE hv
  exact .cons k tk (zD (Nat.succ.inj h) fun i u hu=>t (i + 1) u hu)
theorem EL {ks:List Int} {Q:Value->Shared->Prop} (calm:A.handled=none) (r:dW (intKind prog w) s.heap a ks (!eR w)) (h64:ks.length < 64)
  (q:∀ (p:Addr) (h':Heap) (dr) (tk:Nat) (out:Array Value) (e:Nat) (ms:List Int),(∀ b o,s.heap.get? b=some o->h'.get? b=some o)->s.heap.objs.size<=p->h'.get? p=some (seqObj "list" out e)->IntsAre out.toList ms->ms.Perm ks->ms.Pairwise (·<=·)->Q (.ref p) { s with heap:=h',drawn:=dr,toks:=tk }):
  wpAny (model prog w) A (call (.builtin "sorted") [.ref a]) Q E s:=by
 refine call_function_entry kind_sorted plain_sorted entry_sorted (args_sorted1 _) ?_
 unfold Builtin.«sorted»
 refine MV (m:=checkCount "sorted" 1 1 _) (MX ?_)
 apply MV
 refine C1 (A:=A.in1) calm r fun h' dr tk ord acc pm kp gt it=>?_
 have len:acc.toList.length=ks.length:=by rw [NK]; exact it.1
 have ia:IntsAre acc.toList ord:=zD (by rw [len,pm.length_eq]) fun i v e=>it.2 i v (by rw [<-PR]; exact e)
 apply MV
 refine wpAny_newList ?_ (by rw [len]; exact NH (N4 h64) (by decide))
 have hoL:(h'.push (seqObj "list" acc.toList.toArray 0)).get? h'.objs.size=some (seqObj "list" acc.toList.toArray 0):=Nc _ rfl
 have ge:s.heap.objs.size<=h'.objs.size:=N4 gt
 apply MV
 apply Og
 refine NP slot_list_sort ⟨_,hoL,rfl⟩ entry_list_sort ?_ (args_list_sort _)
 refine list_sort_tree hoL ia (by rw [len]; exact h64) fun out ms a1 a2 a3=>⟨_,rfl,?_⟩
 obtain ⟨e,he⟩:=sortedHeap_at (n:=0) (vs:=acc.toList) (out:=out) hoL
 refine MX ⟨_,rfl,q _ _ dr tk out e ms (fun b o eb=>?_) ge he a1 (a2.trans pm) a3⟩
 have hb:=Na eb
 rw [sortedHeap_old (NF (Nv hb ge)) (by rw [size_push']; exact Ou (Nv hb ge))]
 exact MW _ (kp b o eb)
end
section
variable {X:Cx}
theorem Inv.drew {pins:List (Addr×Obj)} {σ:St} {H:Hp} {s:Shared} (I:Inv X pins σ H s) (dr):Inv X pins σ H { s with drawn:=dr }:=by
 cases I
 constructor <;> assumption
end
end
section
open PySem.Spec PySem.Calls
theorem DR:∀ {l:List Value} {ns:List Int} {i:Nat} {v:Value},IntsAre l ns->l[i]?=some v->∃ t,v=.int (ns.getD i 0) t
 | _,_,_,_,.nil,e=>nomatch e
 | _,_,0,_,.cons n t _,e=>⟨t,(Nf e).symm⟩
 | _,_,i + 1,_,.cons n t h,e=>by
  obtain ⟨t',e'⟩:=DR (i:=i) h e
  exact ⟨t',e'⟩
section
variable {X:Cx}
theorem EM {e:Expr} {p p2 pos pos2:Pos} {t:TA} (hc:X.calm=true) (hm:X.mg "sorted"=none) (hm2:X.mg "set"=none) (ha:PA X [e] t) (hg:Gl X "sorted":=by rfl) (hg2:Gl X "set":=by rfl)
  (he:Nu [e] X.env=(false,eval e X.env) :: Nu [] X.env:=by rfl) (hpl:(backTo pos2 (Nu [] X.env)).any (·.1)=false:=by rfl)
  (he1:Nu [.Call (.Name "set" p2) [e] [] pos2] X.env=(false,eval (.Call (.Name "set" p2) [e] [] pos2) X.env) :: Nu [] X.env:=by rfl) (hpl1:(backTo pos (Nu [] X.env)).any (·.1)=false:=by rfl):
  PE X (.Call (.Name "sorted" p) [.Call (.Name "set" p2) [e] [] pos2] [] pos) (vy X.K t):=by
 intro pins s σ H Q I h
 refine Pk (iR I hg hm boot_sorted ?_ (by decide) (by decide))
 refine Rj ?_ he1 hpl1
 rw [he1]
 show wpAny _ _ (spliced ((false,eval (.Call (.Name "set" p2) [e] [] pos2) X.env) :: backTo pos (Nu [] X.env))) _ _ s
 refine RL ?_
 refine Pk (iR I hg2 hm2 boot_set ?_ (by decide) (by decide))
 refine Oq (thn (ha pos2 pins s σ H _ I h) fun us s1 ⟨vs,H1,I1,r1,q1⟩=>?_) he hpl
 obtain ⟨l,ns,rfl,hq,hl,q⟩:=q1
 obtain ⟨u,rfl,rx⟩:=r1.one
 cases rx
 obtain ⟨its,rv,pl,hz⟩:=I1.list hq
 have hi:=pT rv
 have hlen:its.length=ns.length:=by have:=rv.length; rw [MY] at this; omega
 have calm:X.A.handled=none:=I.ok.hd hc
 refine Kw (knd:=intKind X.prog X.w) (fun i=>ns.getD i 0) calm pl.isList (fun i v hv=>?_) (by rw [Nj,hlen]; exact Qf (Nat.succ_le_of_lt hl) (by decide)) fun h' tk ks r mem kp=>?_
 ·rw [TB] at hv
  obtain ⟨tk,rfl⟩:=DR hi hv
  exact ⟨by first | simp [intKind,Ta] | (unfold intKind; simp [Ta]),rfl⟩
 have memI:∀ y,y∈ks↔y∈ns:=fun y=>by
  rw [mem,Nj,hlen]
  constructor
  ·rintro ⟨j,hj,rfl⟩
   rw [Ni,MZ hj]
   exact Pj hj
  ·intro hy
   obtain ⟨j,hj,rfl⟩:=List.getElem_of_mem hy
   refine ⟨j,hj,?_⟩
   rw [Ni,MZ hj]
   rfl
 have nd:ks.Nodup:=by
  obtain ⟨o,es,ep,t,g1,g2,g3,pr,nd,_⟩:=r
  exact nd
 refine Sf ?_
 refine EL calm r (Qf (BP nd fun y hy=>(memI y).mp hy) hl) fun q' h2 dr tk2 out ex ms kp2 ge hx a1 a2 a3=>?_
 have kk:∀ b o,s1.heap.get? b=some o->h2.get? b=some o:=fun b o eb=>kp2 b o (kp b o (Na eb) eb)
 have ge1:s1.heap.objs.size<=q':=by
  obtain ⟨o,es,ep,t,g1,_⟩:=r
  exact N4 (Nv (Na g1) ge)
 have hf:H1 q'=none:=I1.hok.fresh ge1
 have nm:ms.Nodup:=a2.nodup_iff.mpr nd
 have ml:ms.length < 64:=by
  rw [a2.length_eq]
  exact Qf (BP nd fun y hy=>(memI y).mp hy) hl
 refine ⟨.ref q',_,(I1.laid (t':=tk2) (o:=.lst (ms.map V.int)) kk ge1 ?_).drew dr,rfl,q _ _ ms hf (bg hf _) az ?_ fun y=>?_⟩
 ·exact ⟨by rw [MY,M8]; omega,out.toList,ex,rG a1,by rw [hx,Array.toArray_toList]⟩
 ·exact (a3.and nm).imp fun ⟨z1,z2⟩=>by omega
 ·rw [a2.mem_iff,memI]
end
end
section
open PySem.Spec
section
variable {X:Cx}
end
end
section
open PySem.Spec
section
variable {X:Cx}
end
end
section
open PySem.Spec
section
variable {X:Cx}
theorem G0:dS X (.type "range") JE:=by
 intro pins s σ H xs us Q I r h
 obtain ⟨n,rfl,hn,q⟩:=h
 obtain ⟨u,rfl,rx⟩:=pQ r
 obtain ⟨t,rfl⟩:=rx
 exact call_range_1 ⟨.ref s.heap.objs.size,_,I.laid (a:=s.heap.objs.size) (o:=.rng 0 (n:Int)) (t':=s.toks + 1 + 1) (fun _ _ q=>MW _ q) (M1 _) ⟨_,_,_,Nc _ rfl⟩,rfl,q.upd _ (I.hok.fresh (M1 _))⟩
theorem G3 {n:Nat} {acc:Array Value} (h:ItemsOf (fun i v=>∃ t,v=.int ((0:Int) + i * 1) t) acc n):aK ((Nw n).map fun (i:Nat)=>V.int ((i:Nat):Int)) acc.toList:=by
 obtain ⟨hl,hi⟩:=h
 have go:∀ (xs:List V) (us:List Value),xs.length=us.length->(∀ (j:Nat) (x:V) (u:Value),xs[j]?=some x->us[j]?=some u->aM x u)->aK xs us:=by
  intro xs
  induction xs with
  | nil=>intro us hl _; cases us with
   | nil=>exact .nil
   | cons _ _=>simp at hl
  | cons x r ih=>intro us hl h; cases us with
   | nil=>simp at hl
   | cons u t=>exact .cons (h 0 x u rfl rfl) (ih t (by simpa using hl) fun j x u hx hu=>h (j + 1) x u hx hu)
 refine go _ _ (by simp [hl]) fun j x u hx hu=>?_
 rw [Ng] at hx
 cases e:(Nw n)[j]? with
 | none=>rw [e] at hx; cases hx
 | some z=>
  rw [e] at hx
  cases hx
  obtain ⟨h1,h2⟩:=M4.mp e
  rw [RU] at h2
  subst h2
  obtain ⟨t,rfl⟩:=hi j u (by rw [<-PR]; exact hu)
  exact ⟨t,by simp⟩
theorem G4 (hc:X.calm=true):dS X (.type "list") AG:=by
 intro pins s σ H xs us Q I r h
 obtain ⟨p,n,rfl,e,hn,q⟩:=h
 obtain ⟨u,rfl,rx⟩:=pQ r
 cases rx
 obtain ⟨t,u,v,hr⟩:=(show bZ X.prog X.w H s.heap p (.rng 0 (n:Int)) from I.hok p _ e)
 refine call_list_range (n:=n) (show X.A.handled=none from I.ok.hd hc) hr (small_one (by omega) (by omega) (by omega) (by omega)) ?_ (by omega) fun h' tk acc' c' kp e' it=>?_
 ·rw [rangeSize_one]; split <;> omega
 ·exact ⟨.ref s.heap.objs.size,_,I.laid (t':=tk) kp (M1 _) (show bZ X.prog X.w _ h' _ (.lst _) from ⟨by rw [MY,OG,M8]; omega,acc'.toList,c',G3 it,by simpa using e'⟩),rfl,q.upd _ (I.hok.fresh (M1 _))⟩
end
end
section
open PySem.Spec
noncomputable abbrev nh (h:Heap) (z TI TO:Addr) (f0:Value) (f:Bool):Prop:=
 h.get? z=some { cls:=.type "zip",dict:=none,data:=.fields #[f0,.bool f,.bool false,.ref TI,.ref TO],slots:=#[] }
section
variable {prog:Program} {w:World} {A:Around} {E:Value->Shared->Prop} {s:Shared}
theorem w6 {z TI TO a:Addr} {f:Bool} {oa:Obj} {Q:Bool->Shared->Prop} (hz:nh s.heap z TI TO (rawInt a) f) (ha:s.heap.get? a=some oa) (h:∀ g1,nh g1 z TI TO (rawInt a) true->Nn z s.heap g1->Q false { s with heap:=g1 }):
  wpAny (model prog w) A (NT (.ref z)) Q E s:=by
 obtain ⟨hp,g,d,tk₀,os⟩:=s
 unfold NT
 refine MV (N6 hz rfl (x:=rawInt a) rfl ?_)
 show wpAny _ _ (loadIfAlive ((a:Int).toNat) >>= _) _ _ _
 rw [Qq]
 refine MV (PySem.W.kdx_alive ha ?_)
 simp only [Option.isNone_some,Oc,if_false]
 refine MV (N6 hz rfl (x:=.bool f) rfl ?_)
 cases f with
 | true=>
  rw [if_neg (show ¬ ((N7 true != N7 true)=true) from Nd)]
  exact MX (h hp hz (UT _ _))
 | false=>
  rw [if_pos (show (N7 false != N7 true)=true from rfl)]
  exact MV (Pl hz (by simp) fun h₃ he₃ hs₃=>MX (h h₃ he₃ hs₃))
theorem G5 {z TI TO j1 j2 a:Addr} {f:Bool} {oa:Obj} {fp1 fp2:List Addr} {n1 n2 k:Nat} {P1 P2:Nat->Value->Prop} {S1 S2:Nat->Heap->Prop} {Q:Value->Shared->Prop} (Z:jB z TI TO j1 j2 fp1 fp2)
  (D1:Draws prog w A j1 fp1 n1 P1 S1) (D2:Draws prog w A j2 fp2 n2 P2 S2) (hz:nh s.heap z TI TO (rawInt a) f) (ha:s.heap.get? a=some oa) (hTI:IsPair s.heap TI (.ref j1) (.ref j2)) (h1:S1 k s.heap) (h2:S2 k s.heap) (l1:k < n1) (l2:k < n2)
  (hQ:∀ x y h' tk,P1 k x->P2 k y->nh h' z TI TO (rawInt a) true->S1 (k + 1) h'->S2 (k + 1) h'->IsPair h' s.heap.objs.size x y->
   (∀ c o,c∉[z,j1,j2]->s.heap.get? c=some o->h'.get? c=some o)->Q (.ref s.heap.objs.size) { s with heap:=h',toks:=tk }):
  wpAny (model prog w) A (Builtin.«zip.__next__» ⟨[.ref z],[]⟩) (fun fin s'=>∃ v,fin=.done (.ret v)/\Q v s') E s:=by
 obtain ⟨hp,g,d,tk₀,os⟩:=s
 show wpAny _ _ (field (.ref z) 2 >>= _) _ _ _
 refine MV (N6 hz rfl (x:=.bool false) rfl ?_)
 show wpAny _ _ (field (.ref z) 3 >>= _) _ _ _
 refine MV (N6 hz rfl (x:=.ref TI) rfl ?_)
 refine MV (Od hTI rfl ?_)
 show wpAny _ _ (NT (.ref z) >>= _) _ _ _
 refine MV (w6 hz ha fun g1 hz1 hs1=>?_)
 replace hs1:Nn z hp g1:=hs1
 simp only [Oc,if_false]
 refine MV ?_
 rw [<-Qh]
 simp only [QH,RD]
 refine MV ?_
 refine MV (Og ?_)
 show wpAny _ _ (NQ (.ref j1) >>= _) _ _ _
 refine MV (D1.item k ⟨g1,g,d,tk₀,os⟩ _ _ l1 (D1.but h1 hs1 Z.b1) fun x g2 tk1 px st1 hs2=>MX ?_)
 replace hs2:Nn j1 g1 g2:=hs2
 refine MX ?_
 refine MV ?_
 refine MV (Og ?_)
 show wpAny _ _ (NQ (.ref j2) >>= _) _ _ _
 refine MV (D2.item k ⟨g2,g,d,tk1,os⟩ _ _ l2 (D2.but (D2.but h2 hs1 Z.b4) hs2 Z.b6) fun y g3 tk2 py st2 hs3=>MX ?_)
 replace hs3:Nn j2 g2 g3:=hs3
 refine MX ?_
 refine MX ?_
 show wpAny _ _ (Vk [x,y] >>= fun r=>ret r) _ _ _
 have hsz:g3.objs.size=hp.objs.size:=by rw [hs3.1,hs2.1,hs1.1]
 refine MV (Tu (MX ⟨_,rfl,?_⟩))
 have up:∀ c o,g3.get? c=some o->(g3.push { cls:=.type "tuple",data:=.seq #[x,y] }).get? c=some o:=fun c o e=>MW _ e
 have hz3:nh g3 z TI TO (rawInt a) true:=hs3.extBut _ _ Z.a4.symm (hs2.extBut _ _ Z.a3.symm hz1)
 have hT:IsPair (g3.push { cls:=.type "tuple",data:=.seq #[x,y] }) hp.objs.size x y:=by rw [<-hsz]; exact Nc _ rfl
 show Q (.ref g3.objs.size) _
 rw [hsz]
 refine hQ x y _ tk2 px py (up _ _ hz3) (D1.frame _ _ _ (D1.but st1 hs3 Z.b3) fun c _ o e=>up c o e) (D2.frame _ _ _ st2 fun c _ o e=>up c o e) hT fun c o hc e=>?_
 simp only [M6,N5,or_false,not_or] at hc
 exact up c o (hs3.extBut _ _ hc.2.2 (hs2.extBut _ _ hc.2.1 (hs1.extBut _ _ hc.1 e)))
theorem IW {z TI TO j1 j2 a:Addr} {f:Bool} {oa:Obj} {fp1 fp2:List Addr} {n1 n2 k:Nat} {P1 P2:Nat->Value->Prop} {S1 S2:Nat->Heap->Prop} {Q:Fin->Shared->Prop} (Z:jB z TI TO j1 j2 fp1 fp2)
  (D1:Draws prog w A j1 fp1 n1 P1 S1) (D2:Draws prog w A j2 fp2 n2 P2 S2) (hz:nh s.heap z TI TO (rawInt a) f) (ha:s.heap.get? a=some oa) (hTI:IsPair s.heap TI (.ref j1) (.ref j2)) (h1:S1 k s.heap) (h2:S2 k s.heap) (l:k=min n1 n2)
  (hE:∀ h' e tk,(∀ c o,c∉[z,TI,TO,j1,j2]->s.heap.get? c=some o->h'.get? c=some o)->(∃ o,h'.get? e=some o/\o.cls=.type "StopIteration")->E (.ref e) { s with heap:=h',toks:=tk }):
  wpAny (model prog w) A (Builtin.«zip.__next__» ⟨[.ref z],[]⟩) Q E s:=by
 obtain ⟨hp,g,d,tk₀,os⟩:=s
 have kp:∀ {h':Heap},(∀ c o,c≠z->c≠j1->c≠j2->hp.get? c=some o->h'.get? c=some o)->∀ c o,c∉[z,TI,TO,j1,j2]->hp.get? c=some o->h'.get? c=some o:=fun {h'} q c o hc e=>by
  simp only [M6,N5,or_false,not_or] at hc
  exact q c o hc.1 hc.2.2.2.1 hc.2.2.2.2 e
 show wpAny _ _ (field (.ref z) 2 >>= _) _ _ _
 refine MV (N6 hz rfl (x:=.bool false) rfl ?_)
 show wpAny _ _ (field (.ref z) 3 >>= _) _ _ _
 refine MV (N6 hz rfl (x:=.ref TI) rfl ?_)
 refine MV (Od hTI rfl ?_)
 show wpAny _ _ (NT (.ref z) >>= _) _ _ _
 refine MV (w6 hz ha fun g1 hz1 hs1=>?_)
 replace hs1:Nn z hp g1:=hs1
 simp only [Oc,if_false]
 refine MV ?_
 rw [<-Qh]
 simp only [QH,RD]
 refine MV ?_
 refine MV (Og ?_)
 show wpAny _ _ (NQ (.ref j1) >>= _) _ _ _
 by_cases hk:k=n1
 ·subst hk
  refine MV (D1.done ⟨g1,g,d,tk₀,os⟩ _ _ (D1.but h1 hs1 Z.b1) fun g2 e hs2 he=>?_)
  replace hs2:QD j1 g1 g2:=hs2
  exact hE g2 e tk₀ (kp fun c o c1 c2 _ q=>hs2 _ _ c2 (hs1.extBut _ _ c1 q)) he
 ·have hlt:k < n1:=by omega
  have hk2:k=n2:=by omega
  refine MV (D1.item k ⟨g1,g,d,tk₀,os⟩ _ _ hlt (D1.but h1 hs1 Z.b1) fun x g2 tk1 px st1 hs2=>MX ?_)
  replace hs2:Nn j1 g1 g2:=hs2
  refine MX ?_
  refine MV ?_
  refine MV (Og ?_)
  show wpAny _ _ (NQ (.ref j2) >>= _) _ _ _
  subst hk2
  refine MV (D2.done ⟨g2,g,d,tk1,os⟩ _ _ (D2.but (D2.but h2 hs1 Z.b4) hs2 Z.b6) fun g3 e hs3 he=>?_)
  replace hs3:QD j2 g2 g3:=hs3
  exact hE g3 e tk1 (kp fun c o c1 c2 c3 q=>hs3 _ _ c3 (hs2.extBut _ _ c2 (hs1.extBut _ _ c1 q))) he
noncomputable def ZSt (h:Heap) (z TI TO S:Addr) (i:Nat) (far:Addr->Prop):Prop:=(i=0/\IsZip h z TI TO .none/\∃ u v,IsPair h TO u v)\/∃ (a:Addr) (f:Bool) (oa:Obj),nh h z TI TO (rawInt a) f/\h.get? a=some oa/\far a/\a≠S
noncomputable def ZTs (P1 P2:Nat->Value->Prop) (lo:Addr) (h:Heap) (ts:List Addr):Prop:=∀ (j:Nat) (t:Addr),ts[j]?=some t->lo<=t/\∃ x y,P1 j x/\P2 j y/\IsPair h t x y
end
section
variable {prog:Program} {w:World} {A:Around} {s:Shared} {R:Result->Shared->Prop}
theorem IX {z TI TO j1 j2 S lo:Addr} {fp1 fp2:List Addr} {n1 n2:Nat} {P1 P2:Nat->Value->Prop} {S1 S2:Nat->Heap->Prop} (hh:A.handled=none) (Z:jB z TI TO j1 j2 fp1 fp2)
  (D1:Draws prog w A.in1.in1 j1 fp1 n1 P1 S1) (D2:Draws prog w A.in1.in1 j2 fp2 n2 P2 S2) (hn:min n1 n2<=Nb) (hS:S∉[z,TI,TO,j1,j2]) (hS1:S∉fp1) (hS2:S∉fp2) (hlo:∀ c∈[z,TI,TO,j1,j2,S],c < lo) (hlo1:∀ c∈fp1,c < lo) (hlo2:∀ c∈fp2,c < lo) (res:Value) {h₁:Heap}
  (hR:∀ h' tk acc c ts,(∀ b o,b∉[z,TI,TO,j1,j2]->b≠S->h₁.get? b=some o->h'.get? b=some o)->h'.get? S=some { cls:=.type "list",dict:=none,data:=.seq acc c,slots:=#[] }->ts.length=min n1 n2->ZTs P1 P2 lo h' ts->
   acc.toList=ts.map NA->R (.ok (.ret res)) { s with heap:=h',toks:=tk }):
  ∀ (m i:Nat) (h:Heap) (tk c:Nat) (acc:Array Value) (ts:List Addr),min n1 n2 - i=m->i<=min n1 n2->ZSt h z TI TO S i (fun a=>lo<=a)->IsPair h TI (.ref j1) (.ref j2)->S1 i h->S2 i h->(∀ b o,b∉[z,TI,TO,j1,j2]->b≠S->h₁.get? b=some o->h.get? b=some o)->
   h.get? S=some { cls:=.type "list",dict:=none,data:=.seq acc c,slots:=#[] }->acc.toList=ts.map NA->ts.length=i->ZTs P1 P2 lo h ts->lo<=h.objs.size->
   codeAny (model prog w) A (.builtin "list.extend.loop" ⟨[.ref S,.ref z,res],[]⟩) R { s with heap:=h,toks:=tk }:=by
 have notin:∀ t,lo<=t->t∉[z,TI,TO,j1,j2]/\t≠S/\t∉fp1/\t∉fp2:=fun t ht=>⟨fun hm=>by
  have:=hlo t (show t∈[z,TI,TO,j1,j2]++[S] from OL _ hm)
  exact absurd ht (Rv.mpr this),fun e=>by
  have:=hlo S (by simp)
  rw [e] at ht
  exact absurd ht (Rv.mpr this),fun hm=>absurd ht (Rv.mpr (hlo1 t hm)),fun hm=>absurd ht (Rv.mpr (hlo2 t hm))⟩
 intro m
 induction m with
 | zero=>
  intro i h tk c acc ts hk hi hst hTI st1 st2 hkeep hSS hacc hal hG hls
  have hin:i=min n1 n2:=by omega
  refine Pu Sv ?_
  rw [O8 O0 _]
  show wpAny _ A.in1 (pyNext (.ref z) >>= _) _ _ _
  have done:∀ h':Heap,∀ tk',(∀ c o,c∉[z,TI,TO,j1,j2]->h.get? c=some o->h'.get? c=some o)->R (.ok (.ret res)) { s with heap:=h',toks:=tk' }:=fun h' tk' kp=>by
   refine hR h' tk' acc c ts (fun b o h1 h2 e=>kp b o h1 (hkeep b o h1 h2 e)) (kp S _ hS hSS) (by omega) (fun j t hj=>?_) hacc
   obtain ⟨hlt,x,y,p1,p2,e⟩:=hG j t hj
   exact ⟨hlt,x,y,p1,p2,kp t _ (notin t hlt).1 e⟩
  have hT:Uc { s with heap:=h,toks:=tk } (.ref z) "zip":=by
   rcases hst with ⟨_,hz,_⟩ | ⟨a,f,oa,hz,_⟩
   ·exact ⟨_,hz,rfl⟩
   ·exact ⟨_,hz,rfl⟩
  unfold pyNext
  refine MV (MV (PX (NY (name:=O1 "__next__") hT Pr (NP Pr hT Q7 ?_ (QX _)))))
  rcases hst with ⟨_,hz,u,v,hTO⟩ | ⟨a,f,oa,hz,ha,_,_⟩
  ·refine Bi (s:={ s with heap:=h,toks:=tk }) Z D1 D2 hz hTI hTO st1 st2 hin fun h' e tk' kp he=>?_
   obtain ⟨o,ho,hcl⟩:=he
   exact MV (O3 (T:="StopIteration") (b:=true) ⟨o,ho,hcl⟩ QR (MX (MX (done h' tk' kp))))
  ·refine IW (s:={ s with heap:=h,toks:=tk }) Z D1 D2 hz ha hTI st1 st2 hin fun h' e tk' kp he=>?_
   obtain ⟨o,ho,hcl⟩:=he
   exact MV (O3 (T:="StopIteration") (b:=true) ⟨o,ho,hcl⟩ QR (MX (MX (done h' tk' kp))))
 | succ m ih=>
  intro i h tk c acc ts hk hi hst hTI st1 st2 hkeep hSS hacc hal hG hls
  have hlt:i < min n1 n2:=by omega
  have hsz:acc.size=i:=by rw [<-NK,hacc,MY,hal]
  refine Pu Sv ?_
  rw [O8 O0 _]
  show wpAny _ A.in1 (pyNext (.ref z) >>= _) _ _ _
  have hT:Uc { s with heap:=h,toks:=tk } (.ref z) "zip":=by
   rcases hst with ⟨_,hz,_⟩ | ⟨a,f,oa,hz,_⟩
   ·exact ⟨_,hz,rfl⟩
   ·exact ⟨_,hz,rfl⟩
  have item:∀ (h':Heap) (tk':Nat) (x y:Value),P1 i x->P2 i y->ZSt h' z TI TO S (i + 1) (fun a=>lo<=a)->S1 (i + 1) h'->S2 (i + 1) h'->IsPair h' h.objs.size x y->(∀ c o,c∉[z,TO,j1,j2]->h.get? c=some o->h'.get? c=some o)->
    wpAny (model prog w) A.in1 (SX (.ref S) (·.push (NA h.objs.size)) >>= fun _=>again (.builtin "list.extend.loop" ⟨[.ref S,.ref z,res],[]⟩)) (fun fin s'=>match fin with | .done f=>R (.ok f) s' | .again c'=>c'.quiet=true/\codeAny (model prog w) A c' R s') (fun e s'=>R (.error e) s') { s with heap:=h',toks:=tk' }:=by
   intro h' tk' x y px py hst' st1' st2' ht kp
   have sub:∀ c,c∉[z,TI,TO,j1,j2]->c∉[z,TO,j1,j2]:=fun c hc hm=>hc (by
    simp only [M6,N5,or_false] at hm ⊢
    rcases hm with e | e | e | e
    ·exact .inl e
    ·exact .inr (.inr (.inl e))
    ·exact .inr (.inr (.inr (.inl e)))
    ·exact .inr (.inr (.inr (.inr e))))
   have hS':=kp S _ (sub S hS) hSS
   have up:∀ b o,b≠S->h'.get? b=some o->(h'.update S (On (·.push (NA h.objs.size)))).get? b=some o:=fun b o hb e=>(OB _ _ (OC hb)).trans e
   have hSl:S < h.objs.size:=Na hSS
   have zS:∀ c∈[z,TI,TO,j1,j2],c≠S:=fun c hc e=>hS (by rw [<-e]; exact hc)
   have hTI':IsPair h' TI (.ref j1) (.ref j2):=kp TI _ (by
    simp only [M6,N5,or_false,not_or]
    exact ⟨Z.a1,Z.a5,Z.a6,Z.a7⟩) hTI
   show wpAny _ A.in1 (RW S (·.push (NA h.objs.size)) >>= _) _ _ _
   refine MV ?_
   refine Qj hS' rfl (MX ⟨Qe O0 _,ih (i + 1) _ tk' _ (acc.push (NA h.objs.size)) (ts++[h.objs.size]) (by omega) hlt ?_ (up TI _ (zS TI (by simp)) hTI')
    (D1.frame _ _ _ st1' fun b hb o e=>up b o (fun q=>hS1 (by rw [<-q]; exact hb)) e) (D2.frame _ _ _ st2' fun b hb o e=>up b o (fun q=>hS2 (by rw [<-q]; exact hb)) e)
    (fun b o h1 h2 e=>up b o h2 (kp b o (sub b h1) (hkeep b o h1 h2 e))) (N1 _ hS' rfl) (by rw [Sm,hacc,Nr]; rfl) (by rw [Nq,hal]; rfl) ?_ ?_⟩) (by rw [hsz]; omega) (by show (acc.push (NA h.objs.size)).size<=Nb + 1; rw [Array.size_push,hsz]; omega)
   ·rcases hst' with ⟨e,_⟩ | ⟨a,f,oa,hz,ha,hfar,haS⟩
    ·omega
    ·exact .inr ⟨a,f,oa,up _ _ (zS z (by simp)) hz,up _ _ haS ha,hfar,haS⟩
   ·intro j t hj
    rcases Sk j ts.length with c | c | c
    ·rw [QF c] at hj
     obtain ⟨hl,x',y',p1,p2,e⟩:=hG j t hj
     obtain ⟨n1',n2',_,_⟩:=notin t hl
     exact ⟨hl,x',y',p1,p2,up t _ n2' (kp t _ (sub t n1') e)⟩
    ·subst c
     have hb:h.objs.size=t:=by simpa using hj
     subst hb
     rw [hal]
     exact ⟨hls,x,y,px,py,up _ _ (Pe hSl) ht⟩
    ·rw [NJ (by rw [Nq,Tr]; omega)] at hj
     cases hj
   ·have e:(h'.update S (On (·.push (NA h.objs.size)))).get? h.objs.size=_:=up _ _ (Pe hSl) ht
    exact NH hls (N4 (Na e))
  unfold pyNext
  refine MV (MV (PX (NY (name:=O1 "__next__") hT Pr (NP Pr hT Q7 ?_ (QX _)))))
  have hSl:S < h.objs.size:=Na hSS
  rcases hst with ⟨_,hz,u,v,hTO⟩ | ⟨a,f,oa,hz,ha,hfar,haS⟩
  ·refine zm (s:={ s with heap:=h,toks:=tk }) Z D1 D2 hz hTI hTO st1 st2 (by omega) (by omega) fun x y h' tk' px py z1 z2 z3 z4 z5 z6 z7=>MX ?_
   refine item h' tk' x y px py (.inr ⟨_,false,_,z1,z5,hls,Pe hSl⟩) z3 z4 z5 fun c o hc e=>?_
   by_cases q:c=TI
   ·rw [q] at e ⊢
    have:o=_:=Nf (e.symm.trans hTI)
    rw [this]
    exact z7
   ·refine z6 c o ?_ e
    simp only [M6,N5,or_false,not_or] at hc ⊢
    exact ⟨hc.1,q,hc.2⟩
  ·refine G5 (s:={ s with heap:=h,toks:=tk }) Z D1 D2 hz ha hTI st1 st2 (by omega) (by omega) fun x y h' tk' px py z1 z3 z4 z5 z6=>MX ?_
   have na:=(notin a hfar).1
   refine item h' tk' x y px py (.inr ⟨a,true,oa,z1,z6 a oa ?_ ha,hfar,haS⟩) z3 z4 z5 fun c o hc e=>z6 c o ?_ e
   ·simp only [M6,N5,or_false,not_or] at na ⊢
    exact ⟨na.1,na.2.2.2.1,na.2.2.2.2⟩
   ·simp only [M6,N5,or_false,not_or] at hc ⊢
    exact ⟨hc.1,hc.2.2.1,hc.2.2.2⟩
end
end
section
open PySem.Spec
theorem Inv.news {X:Cx} {pins:List (Addr×Obj)} {σ:St} {H H':Hp} {s:Shared} {h':Heap} {t':Nat} (I:Inv X pins σ H s) (k:∀ b u,s.heap.get? b=some u->h'.get? b=some u) (hH:∀ b,b < s.heap.objs.size->H' b=H b)
  (new:∀ a o,s.heap.objs.size<=a->H' a=some o->bZ X.prog X.w H' h' a o):Inv X pins σ H' { s with heap:=h',toks:=t' }:=by
 have same:∀ b o,H b=some o->H' b=some o:=fun b o e=>(hH b (I.hok.lt e)).trans e
 refine I.un ⟨fun b o q _ _ _=>k b o q,fun b o q _ _ _=>⟨o.slots,k b o q⟩,fun b o q n _=>(hH b (Na q)).trans n,fun b o q _=>⟨o,k b o q⟩,fun b xs e=>same b _ e,fun b o u e=>same b _ e,fun b ps e=>⟨#[],by rw [same b _ e]; simp⟩⟩ fun a o e=>?_
 by_cases c:a < s.heap.objs.size
 ·rw [hH a c] at e
  exact (I.hok a o e).stay (fun b u _ q=>k b u q) (fun b q=>same b _ q) fun b xs q=>same b _ q
 ·exact new a o (Sr.mp c) e
theorem IY {prog:Program} {w:World} {A:Around} {E:Value->Shared->Prop} {s:Shared} {z:Addr} {Q:Bool->Shared->Prop} (hT:s.TypeIs (.ref z) "zip") (h:Q true s):wpAny (model prog w) A (PK (.ref z)) Q E s:=by
 unfold PK
 refine MV (Oy hT (show TK (.type "zip") "__len__"=pure none by rw [Ru,Qx]; kernel_rfl) ?_)
 show wpAny _ _ (specialOf (NA z) (O1 "__length_hint__") >>= _) _ _ _
 refine MV (Oy hT (show TK (.type "zip") "__length_hint__"=pure none by rw [Ru,Qx]; kernel_rfl) ?_)
 exact MX h
section
variable {prog:Program} {w:World} {A:Around} {E:Value->Shared->Prop} {s:Shared}
theorem EN {z TI TO j1 j2 S:Addr} {fp1 fp2:List Addr} {n1 n2:Nat} {P1 P2:Nat->Value->Prop} {S1 S2:Nat->Heap->Prop} {R:Result->Shared->Prop} (hh:A.handled=none) (Z:jB z TI TO j1 j2 fp1 fp2)
  (D1:Draws prog w A.in1.in1 j1 fp1 n1 P1 S1) (D2:Draws prog w A.in1.in1 j2 fp2 n2 P2 S2) (hn:min n1 n2<=Nb) (hS:S∉[z,TI,TO,j1,j2]) (hS1:S∉fp1) (hS2:S∉fp2) (hlo:∀ c∈[z,TI,TO,j1,j2,S],c < s.heap.objs.size) (hlo1:∀ c∈fp1,c < s.heap.objs.size) (hlo2:∀ c∈fp2,c < s.heap.objs.size)
  (hz:IsZip s.heap z TI TO .none) {u v:Value} (hTO:IsPair s.heap TO u v) (hTI:IsPair s.heap TI (.ref j1) (.ref j2)) (st1:S1 0 s.heap) (st2:S2 0 s.heap) {c₀:Nat} (hSS:s.heap.get? S=some { cls:=.type "list",data:=.seq #[] c₀ })
  (hR:∀ h' tk acc c ts,(∀ b o,b∉[z,TI,TO,j1,j2]->b≠S->s.heap.get? b=some o->h'.get? b=some o)->h'.get? S=some { cls:=.type "list",dict:=none,data:=.seq acc c,slots:=#[] }->ts.length=min n1 n2->ZTs P1 P2 s.heap.objs.size h' ts->
   acc.toList=ts.map NA->R (.ok (.ret .none)) { s with heap:=h',toks:=tk }):
  wpAny (model prog w) A.in1 (Ot (.ref S) (.ref z) .none)
   (fun fin s'=>match fin with | .done f=>R (.ok f) s' | .again c'=>c'.quiet=true/\codeAny (model prog w) A c' R s') (fun e s'=>R (.error e) s') s:=by
 have zS:∀ c∈[z,TI,TO,j1,j2],c≠S:=fun c hc e=>hS (by rw [<-e]; exact hc)
 have hT:s.TypeIs (.ref z) "zip":=⟨_,hz,rfl⟩
 unfold Ot
 refine MV (SC (T:="zip") hT ?_)
 have h1:P9 (.ref S) (.ref z)=false:=by simp [P9,(zS z (by simp)).symm]
 have h2:(Om "zip" == Om "list")=false:=by decide
 have h3:(Om "zip" == Om "tuple")=false:=by decide
 simp only [h1,h2,h3,Bool.or_false,Oc,if_false]
 refine MV (SG hz ?_)
 refine MV (Og (IY hT ?_))
 rw [if_pos (by simp)]
 refine MV (Pi ?_)
 refine MV ?_
 show wpAny _ _ (RW S (·.push .none) >>= fun _=>RW S (·.pop)) _ _ _
 refine MV (Qj hSS rfl ?_)
 have hS₂:=N1 (On (·.push Ol)) hSS rfl
 refine Qj (hz:=by seq_fits) hS₂ rfl ?_
 have hS₃:=N1 (On (·.pop)) hS₂ rfl
 have oth:∀ b o,b≠S->s.heap.get? b=some o->((s.heap.update S (On (·.push Ol))).update S (On (·.pop))).get? b=some o:=fun b o hb e=>
  (OB _ _ (OC hb)).trans ((OB _ _ (OC hb)).trans e)
 refine MX ⟨Qe O0 _,IX (s:=s) (lo:=s.heap.objs.size) (h₁:=s.heap) hh Z D1 D2 hn hS hS1 hS2 hlo hlo1 hlo2 .none hR (min n1 n2) 0 _ _ _ #[] [] (Nat.sub_zero _) (N3 _) (.inl ⟨rfl,oth z _ (zS z (by simp)) hz,u,v,oth TO _ (zS TO (by simp)) hTO⟩) (oth TI _ (zS TI (by simp)) hTI)
  (D1.frame _ _ _ st1 fun b hb o e=>oth b o (fun q=>hS1 (by rw [<-q]; exact hb)) e) (D2.frame _ _ _ st2 fun b hb o e=>oth b o (fun q=>hS2 (by rw [<-q]; exact hb)) e) (fun b o _ hb e=>oth b o hb e) hS₃ rfl rfl (fun j t hj=>by simp at hj) ?_⟩
 rw [SO,SO]
 exact M1 _
theorem IZ {z TI TO j1 j2:Addr} {fp1 fp2:List Addr} {n1 n2:Nat} {P1 P2:Nat->Value->Prop} {S1 S2:Nat->Heap->Prop} {Q:Value->Shared->Prop} (hh:A.handled=none) (Z:jB z TI TO j1 j2 fp1 fp2)
  (D1:∀ A':Around,A'.handled=none->Draws prog w A' j1 fp1 n1 P1 S1) (D2:∀ A':Around,A'.handled=none->Draws prog w A' j2 fp2 n2 P2 S2) (hn:min n1 n2<=Nb) (hlo:∀ c∈[z,TI,TO,j1,j2],c < s.heap.objs.size) (hlo1:∀ c∈fp1,c < s.heap.objs.size) (hlo2:∀ c∈fp2,c < s.heap.objs.size)
  (hz:IsZip s.heap z TI TO .none) {u v:Value} (hTO:IsPair s.heap TO u v) (hTI:IsPair s.heap TI (.ref j1) (.ref j2)) (st1:S1 0 s.heap) (st2:S2 0 s.heap)
  (hQ:∀ h' tk acc c ts,(∀ b o,b∉[z,TI,TO,j1,j2]->s.heap.get? b=some o->h'.get? b=some o)->h'.get? s.heap.objs.size=some { cls:=.type "list",dict:=none,data:=.seq acc c,slots:=#[] }->ts.length=min n1 n2->ZTs P1 P2 (s.heap.objs.size + 1) h' ts->
   acc.toList=ts.map NA->Q (.ref s.heap.objs.size) { s with heap:=h',toks:=tk }):
  wpAny (model prog w) A (call (.type "list") [.ref z]) Q E s:=by
 refine callType_codes (Q₁:=fun obj s₁=>obj=.ref s.heap.objs.size/\s₁={ s with heap:=s.heap.push { cls:=.type "list",data:=.seq #[] } }) PySem.F.called_list (PySem.F.typeCall_list_1 _) PySem.F.entry_list_init
  (code_list_new _ ⟨rfl,rfl⟩) fun obj s₁ h₁=>?_
 obtain ⟨rfl,rfl⟩:=h₁
 have hS:(s.heap.push { cls:=.type "list",data:=.seq #[] }).get? s.heap.objs.size=some { cls:=.type "list",data:=.seq #[] }:=Nc _ rfl
 refine ⟨⟨_,hS,rfl⟩,PySem.F.args_list_init_2 _ _,?_⟩
 show wpAny _ _ (do let old <-To (.ref s.heap.objs.size); SX (.ref s.heap.objs.size) (fun _=>#[]); letGo old.toList.reverse; Ot (.ref s.heap.objs.size) (.ref z) .none) _ _ _
 refine MV ?_
 unfold To
 refine MV (Od hS rfl (MX ?_))
 show wpAny _ _ (RW s.heap.objs.size (fun _=>#[]) >>= fun _=>letGo (#[]:Array Value).toList.reverse >>= fun _=>Ot (.ref s.heap.objs.size) (.ref z) .none) _ _ _
 refine MV (Qj hS rfl ?_)
 have hS₂:=N1 (On (fun _=>(#[]:Array Value))) hS rfl
 have oth:∀ b o,b≠s.heap.objs.size->(s.heap.push { cls:=.type "list",data:=.seq #[] }).get? b=some o->((s.heap.push { cls:=.type "list",data:=.seq #[] }).update s.heap.objs.size (On (fun _=>(#[]:Array Value)))).get? b=some o:=
  fun b o hb e=>(OB _ _ (OC hb)).trans e
 have oth':∀ b o,s.heap.get? b=some o->((s.heap.push { cls:=.type "list",data:=.seq #[] }).update s.heap.objs.size (On (fun _=>(#[]:Array Value)))).get? b=some o:=fun b o e=>oth b o (NF (Na e)) (MW _ e)
 have sz:((s.heap.push { cls:=.type "list",data:=.seq #[] }).update s.heap.objs.size (On (fun _=>(#[]:Array Value)))).objs.size=s.heap.objs.size + 1:=by rw [SO,NV]
 refine MV (Ti ?_)
 refine EN (A:=A.in1) hh Z (D1 _ hh) (D2 _ hh) hn (fun hm=>OQ _ (hlo _ hm)) (fun hm=>OQ _ (hlo1 _ hm)) (fun hm=>OQ _ (hlo2 _ hm)) (fun c hc=>?_) (fun c hc=>?_) (fun c hc=>?_) (oth' _ _ hz) (oth' _ _ hTO) (oth' _ _ hTI)
  ((D1 _ hh).frame _ _ _ st1 fun b _ o e=>oth' b o e) ((D2 _ hh).frame _ _ _ st2 fun b _ o e=>oth' b o e) hS₂ (fun h' tk acc c ts hk hS' hl hG hacc=>?_)
 ·show c < ((s.heap.push { cls:=.type "list",data:=.seq #[] }).update s.heap.objs.size (On (fun _=>(#[]:Array Value)))).objs.size
  rw [sz]
  rcases NL.mp (show c∈[z,TI,TO,j1,j2]++[s.heap.objs.size] from hc) with hc | hc
  ·exact Ou (hlo c hc)
  ·rw [M0.mp hc]; exact OA _
 ·show c < ((s.heap.push { cls:=.type "list",data:=.seq #[] }).update s.heap.objs.size (On (fun _=>(#[]:Array Value)))).objs.size
  rw [sz]
  exact Ou (hlo1 c hc)
 ·show c < ((s.heap.push { cls:=.type "list",data:=.seq #[] }).update s.heap.objs.size (On (fun _=>(#[]:Array Value)))).objs.size
  rw [sz]
  exact Ou (hlo2 c hc)
 ·have hG':ZTs P1 P2 (s.heap.objs.size + 1) h' ts:=by rw [<-sz]; exact hG
  exact ⟨rfl,hQ h' tk acc c ts (fun b o hb e=>hk b o hb (NF (Na e)) (oth' b o e)) hS' hl hG' hacc⟩
end
section
variable {X:Cx}
theorem KG {h:Heap} {us vs:List Value} {xs ys:List V} {lo:Addr} {ts:List Addr} (ru:aK xs us) (rv:aK ys vs) (hl:ts.length=min us.length vs.length) (G:ZTs (fun i v=>us.toArray[i]?=some v) (fun i v=>vs.toArray[i]?=some v) lo h ts):
  ∀ (i:Nat) (t:Addr),ts[i]?=some t->lo<=t/\∃ x y u v,xs[i]?=some x/\ys[i]?=some y/\aM x u/\aM y v/\IsPair h t u v:=fun i t ht=>by
 obtain ⟨h1,u,v,p1,p2,e⟩:=G i t ht
 have hi:i < ts.length:=(M4.mp ht).1
 have l1:=ru.length
 have l2:=rv.length
 obtain ⟨x,hx⟩:∃ x,xs[i]?=some x:=⟨_,MZ (by omega)⟩
 obtain ⟨y,hy⟩:∃ y,ys[i]?=some y:=⟨_,MZ (by omega)⟩
 obtain ⟨u',hu',ru'⟩:=ru.get hx
 obtain ⟨v',hv',rv'⟩:=rv.get hy
 have eu:u=u':=by
  have:us.toArray[i]?=some u':=by simpa using hu'
  rw [this] at p1
  exact (Nf p1).symm
 have ev:v=v':=by
  have:vs.toArray[i]?=some v':=by simpa using hv'
  rw [this] at p2
  exact (Nf p2).symm
 subst eu ev
 exact ⟨h1,x,y,u,v,hx,hy,ru',rv',e⟩
theorem Cg {x y:V} {u:Value} (a:aM x u) (b:aM y u):x=y:=by
 cases x <;> cases y <;> simp only [aM] at a b <;> first
  | rfl
  | (subst a; cases b; rfl)
  | (subst a; cases b; done)
  | (obtain ⟨t,rfl⟩:=a; obtain ⟨t',e⟩:=b; cases e; rfl)
  | (obtain ⟨t,rfl⟩:=a; obtain ⟨t',e⟩:=b; cases e; done)
  | (obtain ⟨t,rfl⟩:=a; cases b; done)
  | (subst a; obtain ⟨t',e⟩:=b; cases e; done)
theorem KH (S1 S2:Src) {a b:Expr} {ta:TA} {p pos p2 pos2:Pos} (hc:X.calm=true) (hgl:Gl X "list") (hml:X.mg "list"=none) (hg:Gl X "zip") (hm:X.mg "zip"=none) (ha:PA X [a,b] ta)
  (hs:Nu [a,b] X.env=[(false,eval a X.env),(false,eval b X.env)]:=by rfl) (hs2:Nu [b] X.env=[(false,eval b X.env)]:=by rfl)
  (hs3:Nu [.Call (.Name "zip" p2) [a,b] [] pos2] X.env=[(false,eval (.Call (.Name "zip" p2) [a,b] [] pos2) X.env)]:=by rfl):
  PE X (.Call (.Name "list" p) [.Call (.Name "zip" p2) [a,b] [] pos2] [] pos) (Ew S1 S2 X.K ta):=by
 intro pins s σ H Q I h
 refine Pk (iR I hgl hml P4 (Oq ?_ hs3 rfl))
 rw [hs3]
 show wpAny _ _ (spliced [(false,eval (.Call (.Name "zip" p2) [a,b] [] pos2) X.env)]) _ _ s
 refine RL ?_
 refine Call_ (iR I hg hm boot_zip (Oq (thn (ha pos2 pins s σ H _ I h) fun us s1 ⟨vs,H1,I1,r1,q1⟩=>?_) (by rw [hs,hs2]) (by rw [hs2]; rfl)))
 obtain ⟨l1,l2,xs,ys,e,hq1,hq2,hxl,q⟩:=q1
 subst e
 obtain ⟨u,v,rfl,ru,rv⟩:=r1.two
 cases ru
 cases rv
 obtain ⟨us1,rv1,p1,_⟩:=S1.get I1 hq1
 obtain ⟨us2,rv2,p2',_⟩:=S2.get I1 hq2
 refine Uy F.called_zip (by decide) (Vn _ _) (VM _ _) (fun obj=>TX obj _ _) VN (Dk S1 S2 l1 l2 us1.toArray us2.toArray) ⟨p1,p2',?_⟩
 generalize hn:s1.heap.objs.size=n
 have z1:(zh1 S1 s1.heap l1).objs.size=n + 1:=by rw [NV,hn]
 have z2:(zh2 S1 S2 s1.heap l1 l2).objs.size=n + 2:=by rw [NV,z1]
 have z3:(zh3 S1 S2 s1.heap l1 l2).objs.size=n + 3:=by rw [NV,z2]
 have z4:(zh4 S1 S2 s1.heap l1 l2).objs.size=n + 4:=by rw [NV,z3]
 have z5:(zh5 S1 S2 s1.heap l1 l2).objs.size=n + 5:=by rw [NV,z4]
 have g5:(zh5 S1 S2 s1.heap l1 l2).get? (zh4 S1 S2 s1.heap l1 l2).objs.size=some _:=Nc _ rfl
 have g4:(zh5 S1 S2 s1.heap l1 l2).get? (zh3 S1 S2 s1.heap l1 l2).objs.size=some _:=MW _ (Nc _ rfl)
 have g3:(zh5 S1 S2 s1.heap l1 l2).get? (zh2 S1 S2 s1.heap l1 l2).objs.size=some _:=MW _ (MW _ (Nc _ rfl))
 have g2:(zh5 S1 S2 s1.heap l1 l2).get? (zh1 S1 s1.heap l1).objs.size=some _:=MW _ (MW _ (MW _ (Nc _ rfl)))
 have g1:(zh5 S1 S2 s1.heap l1 l2).get? s1.heap.objs.size=some _:=MW _ (MW _ (MW _ (MW _ (Nc _ rfl))))
 have kp:∀ c o,s1.heap.get? c=some o->(zh5 S1 S2 s1.heap l1 l2).get? c=some o:=fun c o e=>
  MW _ (MW _ (MW _ (MW _ (MW _ e))))
 show _/\_
 rw [z2,z3,z4] at g5
 rw [z1,z2,hn] at g3
 rw [z3] at g4
 rw [z1] at g2
 rw [hn] at g1
 rw [z4]
 refine ⟨⟨_,g5,rfl⟩,Sf ?_⟩
 have lt1:l1 < n:=by
  obtain ⟨o,_,ho,_⟩:=S1.isSeq p1
  rw [<-hn]; exact Na ho
 have lt2:l2 < n:=by
  obtain ⟨o,_,ho,_⟩:=S2.isSeq p2'
  rw [<-hn]; exact Na ho
 have five:∀ c:Nat,c∈[n + 4,n + 2,n + 3,n,n + 1]->n<=c/\c < n + 5:=fun c hc=>by
  simp only [M6,N5,or_false] at hc
  omega
 have nel:∀ l c:Nat,l < n->n<=c->c≠l:=fun l c h1 h2=>by omega
 have Z:jB (n + 4) (n + 2) (n + 3) n (n + 1) [n,l1] [n + 1,l2]:=zap (by simp) (fun c hc=>nel l1 c lt1 (five c hc).1) (fun c hc=>nel l2 c lt2 (five c hc).1)
 have is1:S1.Is (zh5 S1 S2 s1.heap l1 l2) l1 us1.toArray:=S1.isKeep p1 fun o e=>kp _ _ e
 have is2:S2.Is (zh5 S1 S2 s1.heap l1 l2) l2 us2.toArray:=S2.isKeep p2' fun o e=>kp _ _ e
 refine IZ (s:={ s1 with heap:=zh5 S1 S2 s1.heap l1 l2 }) (n1:=us1.toArray.size) (n2:=us2.toArray.size) (I1.ok.hd hc) Z (fun A' hA=>S1.draws hA n l1 (nel l1 n lt1 (M1 _)).symm us1.toArray) (fun A' hA=>S2.draws hA (n + 1) l2 (nel l2 (n + 1) lt2 (Pf _)).symm us2.toArray) ?_ ?_ ?_ ?_ g5 g4 g3 ⟨S1.mkI g1 rfl rfl,is1⟩ ⟨S2.mkI g2 rfl rfl,is2⟩ ?_
 ·have:=rv1.length
  simp only [Nj]
  rw [M8]
  omega
 ·intro c hc
  show c < (zh5 S1 S2 s1.heap l1 l2).objs.size
  rw [z5]
  exact (five c hc).2
 ·intro c hc
  show c < (zh5 S1 S2 s1.heap l1 l2).objs.size
  rw [z5]
  rcases M6.mp hc with rfl | hc
  ·exact Nat.lt_add_of_pos_right (by decide)
  ·rw [M0.mp hc]; exact Nv lt1 (OO _ _)
 ·intro c hc
  show c < (zh5 S1 S2 s1.heap l1 l2).objs.size
  rw [z5]
  rcases M6.mp hc with rfl | hc
  ·exact Nat.add_lt_add_left (by decide) n
  ·rw [M0.mp hc]; exact Nv lt2 (OO _ _)
 intro h' tk acc c ts hk hS' hl hG hacc
 have hS'':h'.get? (n + 5)=some { cls:=.type "list",dict:=none,data:=.seq acc c,slots:=#[] }:=by rw [<-z5]; exact hS'
 have hG':ZTs (fun i v=>us1.toArray[i]?=some v) (fun i v=>us2.toArray[i]?=some v) (n + 5 + 1) h' ts:=by rw [<-z5]; exact hG
 have hl':ts.length=min us1.length us2.length:=by simpa using hl
 have G:=KG rv1 rv2 hl' hG'
 have old:∀ b o,s1.heap.get? b=some o->h'.get? b=some o:=fun b o e=>hk b o (fun hm=>by
  have:=Na e
  rw [hn] at this
  exact absurd (five b hm).1 (Rv.mpr this)) (kp b o e)
 have l1':=rv1.length
 have l2':=rv2.length
 let H':Hp:=fun b=>if b=n + 5 then some (.lst (ts.map V.ref)) else match ts.findIdx? (· == b) with
  | some i=>(match xs[i]?,ys[i]? with | some x,some y=>some (.tup [x,y]) | _,_=>H1 b)
  | none=>H1 b
 have big:∀ (i:Nat) (t:Addr),ts[i]?=some t->n + 6<=t:=fun i t ht=>(G i t ht).1
 have Hts:∀ (i:Nat) (t:Addr),ts[i]?=some t->∃ x y u v,H' t=some (.tup [x,y])/\xs[i]?=some x/\ys[i]?=some y/\aM x u/\aM y v/\IsPair h' t u v:=by
  intro i t ht
  obtain ⟨hlo,x,y,u,v,hx,hy,rx,ry,e⟩:=G i t ht
  refine ⟨x,y,u,v,?_,hx,hy,rx,ry,e⟩
  have net:t≠n + 5:=fun q=>by rw [q] at hlo; exact absurd hlo (Rv.mpr (OA _))
  show (if t=n + 5 then _ else _)=_
  rw [if_neg net]
  cases hf:ts.findIdx? (· == t) with
  | none=>
   have:=QI.mp hf t (M9 ht)
   simp at this
  | some i0=>
   obtain ⟨h0,h1,_⟩:=Pg.mp hf
   have ht0:ts[i0]?=some t:=by rw [MZ h0]; congr 1; exact eq_of_beq h1
   obtain ⟨_,x0,y0,u0,v0,hx0,hy0,rx0,ry0,e0⟩:=G i0 t ht0
   have eq:=Nf (e0.symm.trans e)
   have eu:u0=u/\v0=v:=by
    injection eq with _ _ eq
    injection eq with eq _
    simp at eq
    exact eq
   rw [eu.1] at rx0
   rw [eu.2] at ry0
   simp only [hx0,hy0]
   rw [Cg rx0 rx,Cg ry0 ry]
 have hH:∀ b,b < s1.heap.objs.size->H' b=H1 b:=by
  intro b hb
  rw [hn] at hb
  have ne5:b≠n + 5:=fun q=>by rw [q] at hb; exact absurd hb (Sr.mpr (OO _ _))
  show (if b=n + 5 then _ else _)=_
  rw [if_neg ne5]
  cases hf:ts.findIdx? (· == b) with
  | none=>rfl
  | some i0=>
   obtain ⟨h0,h1,_⟩:=Pg.mp hf
   have ht0:ts[i0]?=some b:=by rw [MZ h0]; congr 1; exact eq_of_beq h1
   have:=big i0 b ht0
   exact absurd (Nv hb (NH (OO _ _) this)) (OQ _)
 have e5:H' (n + 5)=some (.lst (ts.map V.ref)):=if_pos rfl
 have hvals:aK (ts.map V.ref) acc.toList:=by
  have go:∀ l:List Addr,aK (l.map V.ref) (l.map NA):=fun l=>by
   induction l with
   | nil=>exact .nil
   | cons t r ih=>exact .cons rfl ih
  rw [hacc]
  exact go ts
 have I2:Inv X pins σ H' { s1 with heap:=h',toks:=tk }:=I1.news old hH fun a o ha eo=>by
  by_cases c5:a=n + 5
  ·subst c5
   rw [e5] at eo
   cases eo
   refine ⟨?_,acc.toList,c,hvals,by simpa using hS''⟩
   rw [MY,hl',M8]
   omega
  ·have eo':(match ts.findIdx? (· == a) with
    | some i=>(match xs[i]?,ys[i]? with | some x,some y=>some (HO.tup [x,y]) | _,_=>H1 a)
    | none=>H1 a)=some o:=by
    have:H' a=some o:=eo
    rw [show H' a=(if a=n + 5 then some (.lst (ts.map V.ref)) else match ts.findIdx? (· == a) with
     | some i=>(match xs[i]?,ys[i]? with | some x,some y=>some (.tup [x,y]) | _,_=>H1 a)
     | none=>H1 a) from rfl,if_neg c5] at this
    exact this
   have hfr:H1 a=none:=I1.hok.fresh ha
   cases hf:ts.findIdx? (· == a) with
   | none=>rw [hf] at eo'; rw [show H1 a=some o from eo'] at hfr; cases hfr
   | some i0=>
    obtain ⟨h0,h1,_⟩:=Pg.mp hf
    have ht0:ts[i0]?=some a:=by rw [MZ h0]; congr 1; exact eq_of_beq h1
    obtain ⟨_,x0,y0,u0,v0,hx0,hy0,rx0,ry0,e0⟩:=G i0 a ht0
    rw [hf] at eo'
    simp only [hx0,hy0] at eo'
    cases eo'
    exact ⟨(by show 2<=Nb; decide),[u0,v0],.cons rx0 (.cons ry0 .nil),_,e0,rfl,⟨0,rfl⟩,rfl⟩
 have hp5:H1 (n + 5)=none:=I1.hok.fresh (by rw [hn]; exact OO _ _)
 have hsame:am H1 H':=fun b o eb=>by
  rw [hH b (I1.hok.lt eb)]
  exact eb
 show ∃ v H',_/\_/\_
 refine ⟨.ref (n + 5),H',I2,by rw [<-z5]; rfl,q _ _ hp5 hsame ⟨ts,e5,?_⟩⟩
 have go:∀ (l:List Addr) (m:List (V×V)),l.length=m.length->(∀ (i:Nat) (t:Addr) (pq:V×V),l[i]?=some t->m[i]?=some pq->H' t=some (.tup [pq.1,pq.2]))->mK H' l m:=by
  intro l
  induction l with
  | nil=>intro m hl _; cases m with
   | nil=>exact .nil
   | cons _ _=>simp at hl
  | cons t r ih=>intro m hl hh; cases m with
   | nil=>simp at hl
   | cons pq m=>exact .cons (hh 0 t pq rfl rfl) (ih m (by simpa using hl) fun i t pq h1 h2=>hh (i + 1) t pq h1 h2)
 refine go _ _ (by rw [OK]; omega) fun i t pq ht hpq=>?_
 obtain ⟨x,y,u,v,e,hx,hy,_⟩:=Hts i t ht
 rw [e]
 have:(xs.zip ys)[i]?=some (x,y):=by rw [Pn]; exact ⟨hx,hy⟩
 rw [this] at hpq
 cases hpq
 rfl
end
end
end L2
section
namespace L2
open PySem PySem.Spec PySem.W PyProof.Rows
noncomputable def FnA (K:Frag) (x q:Str) (st:Stmt) (f:Addr):Prop:=∃ (oc:Value) (od:Option Addr) (kV doc pm:Value) (an:Option Addr) (cd ct:Value) (sl:Array (Option Value)),K.lookup f=some ⟨oc,od,.func (fnOf x q (kj st) (fK st) (ab st) .none kV doc pm an cd ct),sl⟩/\codeIn K cd q=true/\keepIn K (.ref f)=true
noncomputable def DfA (K:Frag) (x:Str) (st:Stmt):Prop:=∃ f,nsIn K NB x=some (some (.ref f))/\FnA K x x st f
noncomputable def MtA (K:Frag) (C:Addr) (m q:Str) (st:Stmt):Prop:=∃ f,findIn K (.ref C) m=some (some (.ref f))/\isFn K (.ref f)=true/\FnA K m q st f
theorem FnA.fn {K:Frag} {x q:Str} {st:Stmt} {f:Addr} (h:FnA K x q st f):∃ fd,Fun K x q st f fd:=let ⟨_,_,_,_,_,_,_,_,_,l,c,k⟩:=h; ⟨_,F0 l c k⟩
noncomputable abbrev BdA (x q:Str) (st:Stmt) (ps:List Str):Prop:=∀ (kV doc pm:Value) (an:Option Addr) (cdv ct:Value) (us:List Value),us.length=ps.length->bindArgs (fnOf x q (kj st) (fK st) (ab st) .none kV doc pm an cdv ct) ⟨us,[]⟩=pure (ps.zip us)
theorem DfA.df {K:Frag} {mg:Str->Option Value} {h:Heap} {x:Str} {st:Stmt} {ps:List Str} (X:K.In h) (G:h.Ns NB mg) (q:DfA K x st) (b:BdA x x st ps):∃ f fd,Def K mg x st ps f fd:=
 let ⟨f,a,l⟩:=q; let ⟨fd,F⟩:=l.fn; ⟨f,fd,F,mg_of X G a,F.binds b⟩
theorem MtA.df {K:Frag} {C:Addr} {m q:Str} {st:Stmt} {ps:List Str} (h:MtA K C m q st) (b:BdA m q st ps):∃ f fd,jn K C m q st ps f fd:=
 let ⟨f,a,i,l⟩:=h; let ⟨fd,F⟩:=l.fn; ⟨f,fd,F,⟨a,i,F.kp⟩,F.binds b⟩
theorem MtA.di {K:Frag} {C:Addr} {q:Str} {st:Stmt} {ps:List Str} (h:MtA K C "__init__" q st) (mk:makesIn K C=true) (kc:keepIn K (.ref C)=true) (b:BdA "__init__" q st ps):∃ f fd,BO K C q st ps f fd:=
 let ⟨f,a,i,l⟩:=h; let ⟨fd,F⟩:=l.fn; ⟨f,fd,F,⟨mk,a,i,kc⟩,F.binds b⟩
theorem DfA.law {K:Frag} {mg:Str->Option Value} {h:Heap} {x p:Str} {st:Stmt} {fa:Addr} (X:K.In h) (G:h.Ns NB mg) (q:DfA K x st) (b:BdA x x st [p]) (hf:mg x=some (.ref fa))
  (bb:∀ (kV doc pm:Value) (an:Option Addr) (cdv ct:Value) (s:Shared) (v:Value),BindsTo s (fnOf x x (kj st) (fK st) (ab st) .none kV doc pm an cdv ct) ⟨[v],[]⟩ [(p,v)]):∃ fd,Def K mg x st [p] fa fd/\∀ (s:Shared) (v:Value),BindsTo s fd ⟨[v],[]⟩ [(p,v)]:=by
 obtain ⟨f,a,_,_,kV,doc,pm,an,cdv,ct,_,l,c,k⟩:=q
 have e:=hf.symm.trans (mg_of X G a)
 cases e
 have F:=F0 l c k
 exact ⟨_,⟨F,mg_of X G a,F.binds b⟩,bb kV doc pm an cdv ct⟩
end L2
end
namespace Kc_k33
open PySem L2 PyProof.Rows
local macro_rules | `(tactic| walk_at "v")=>`(tactic| exact ⟨rfl,by first | exact M5 rfl | exact Pq (M5 rfl) | exact Pq (Pq rfl),by decide,by decide⟩)
local macro_rules | `(tactic| walk_at "w")=>`(tactic| exact ⟨rfl,rfl,rfl,by decide +kernel,rfl,by decide +kernel,by decide +kernel⟩)
local macro_rules | `(tactic| walk_at "l")=>`(tactic| (intro _ _ _ _ h; first | (obtain ⟨_,e,_⟩:=h; subst e; rfl) | (obtain ⟨_,_,e,_⟩:=h; subst e; rfl) | (obtain ⟨_,_,_,e,_⟩:=h; subst e; rfl) | (obtain ⟨_,_,_,_,e,_⟩:=h; subst e; rfl) | (obtain ⟨_,_,_,_,_,e,_⟩:=h; subst e; rfl) | (obtain ⟨_,_,_,_,_,_,e,_⟩:=h; subst e; rfl) | (obtain ⟨_,_,_,_,_,_,_,e,_⟩:=h; subst e; rfl) | (obtain ⟨_,_,_,_,_,_,_,_,e,_⟩:=h; subst e; rfl) | (obtain ⟨_,_,_,_,_,_,_,_,_,e,_⟩:=h; subst e; rfl) | (obtain ⟨_,_,_,_,_,_,_,_,_,_,e,_⟩:=h; subst e; rfl) | (obtain ⟨_,_,_,_,_,_,_,_,_,_,_,e,_⟩:=h; subst e; rfl) | (obtain ⟨_,_,_,_,_,_,_,_,_,_,_,_,e,_⟩:=h; subst e; rfl) | (obtain ⟨_,_,_,_,_,_,_,_,_,_,_,_,_,e,_⟩:=h; subst e; rfl) | (obtain ⟨_,_,_,_,_,_,_,_,_,_,_,_,_,_,e,_⟩:=h; subst e; rfl) | (obtain ⟨_,_,_,_,_,_,_,_,_,_,_,_,_,_,_,e,_⟩:=h; subst e; rfl) | (obtain ⟨_,_,_,_,_,_,_,_,_,_,_,_,_,_,_,_,e,_⟩:=h; subst e; rfl)))
local macro_rules | `(tactic| walk_at "c")=>`(tactic| (refine ⟨rfl,?_,?_,?_,?_,rfl,?_⟩ <;> decide +kernel))
local macro_rules | `(tactic| walk_at "e")=>`(tactic| (refine ⟨rfl,?_,?_,?_,?_,rfl,?_⟩ <;> first | decide +kernel | exact GV (by decide +kernel)))
theorem pvA {X:Cx} {N:List Str} {sc:Scope} {i:Nat} {x:Str} {pos:Pos} (h:ah N sc i x) (hN:X.N=N:=by exact rfl) (hS:X.env.scope=sc:=by exact rfl):PE X (.Name x pos) (aa i):=pvQ h hN hS
theorem rmD {n k:Nat} {A:Around} (h:cg k A) (e:n<=k:=by decide):cg n A:=h.mono e
noncomputable abbrev iQ:List Str:=["_law_script","_law_cards","_law_sizes","_law_hands","_law_deals","_law_views","_law_hand","_law_table","_law_k","_law_saying_here","_law_group_here","_law_due","_law_found"]
noncomputable abbrev lZ:List Str:=["_law_script","_law_at","_law_cards","_law_hands","_law_most","_law_pool_here","_law_k","_law_cell_here","_law_one","_law_other","_law_some"]
noncomputable abbrev ni:List Str:=["_law_table","_law_deals","_law_views","_law_number","_law_hands","_law_hand","_law_holder","_law_card","_law_holds"]
noncomputable abbrev qt:List Str:=["_law_deals","_law_view","_law_pile","_law_piles","_law_lacks","_law_place","_law_least_here"]
noncomputable abbrev sx:List Str:=["_law_script","_law_at","_law_cards","_law_hands","_law_pool_here","_law_k","_law_cell_here"]
noncomputable abbrev oO:List Str:=["_law_deals","_law_views","_law_saying_here","_law_below","_law_ahead"]
noncomputable abbrev oP:List Str:=["_law_views","_law_group_here","_law_truths"]
noncomputable abbrev sG:List Str:=["_law_views","_law_group_here","_law_truths","_law_found","_law_hand"]
noncomputable abbrev vC:List Str:=["_law_script","_law_at","_law_most","_law_cards","_law_sizes","_law_k"]
noncomputable abbrev nj:List Str:=["deals","views","S","word","inner","some"]
noncomputable abbrev qu:List Str:=["_law_views","_law_group_here","_law_truths","_law_found","_law_more"]
noncomputable abbrev w9:List Str:=["_law_table","_law_deals","_law_views","_law_number","_law_hands"]
noncomputable abbrev qw:List Str:=["_law_view","_law_truths","_law_lacks","_law_place","_law_truth"]
noncomputable abbrev xa:List Str:=["_law_script","_law_at","_law_cards","_law_hands","_law_most"]
noncomputable abbrev d5:List Str:=["cards","sizes"]
noncomputable abbrev n9:List Str:=["many","views","points","view","thing","least"]
noncomputable abbrev lp:List Str:=["cards","hands","place","part"]
noncomputable abbrev eV:List Str:=["ones","others"]
noncomputable abbrev tZ:List Str:=["_law_signs","_law_first","_law_found","_law_place","_law_sign"]
noncomputable abbrev t0:List Str:=["_law_table","_law_views","_law_hand","_law_view","_law_seen"]
noncomputable abbrev lx:List Str:=["cards","hands","thing"]
noncomputable abbrev xc:List Str:=["_law_script","_law_at","_law_cards","_law_hands"]
noncomputable abbrev qx:List Str:=["begun","room","longer","deal","who","most"]
noncomputable abbrev og:List Str:=["_law_number","_law_hands"]
noncomputable abbrev mE:List Str:=["thing","least","most"]
noncomputable abbrev t9:List Str:=["_law_deals","_law_views","_law_saying_here"]
noncomputable abbrev qy:List Str:=["cards","hands","thing","words","level"]
noncomputable abbrev jc:List Str:=["self","cards","sizes"]
noncomputable abbrev jd:List Str:=["_law_one","_law_other"]
noncomputable abbrev qz:List Str:=["view","truths","sure","least","truth"]
noncomputable abbrev uf:List Str:=["self","hand","holder","some","rising"]
noncomputable abbrev mF:List Str:=["_law_found","_law_due"]
noncomputable abbrev xf:List Str:=["_law_deals","_law_view","_law_pile"]
noncomputable abbrev xg:List Str:=["_law_cards","_law_sizes","_law_found","_law_many"]
noncomputable abbrev xh:List Str:=["_law_script","_law_at","_law_most"]
noncomputable abbrev ug:List Str:=["points","one","other","first","second"]
noncomputable abbrev xi:List Str:=["cards","sizes","room","begun","card"]
noncomputable abbrev uh:List Str:=["cards","sizes","many","left","size"]
noncomputable abbrev qA:List Str:=["deal","holder","rising"]
noncomputable abbrev xj:List Str:=["_law_script","_law_k"]
noncomputable abbrev mG:List Str:=["self","hands","S"]
noncomputable abbrev xk:List Str:=["self","hand","holder","some"]
noncomputable abbrev oh:List Str:=["thing","bound"]
noncomputable abbrev xl:List Str:=["_law_view","_law_truths"]
noncomputable abbrev ui:List Str:=["marks","firsts","thing","mark"]
noncomputable abbrev xm:List Str:=["self","hands","values"]
noncomputable abbrev AI:List Str:=["cards","hands","thing","form"]
noncomputable abbrev qB:List Str:=["fit","reason"]
noncomputable abbrev oj:List Str:=["thing","cards"]
noncomputable abbrev xn:List Str:=["_law_cards","_law_sizes"]
noncomputable abbrev xo:List Str:=["_law_table","_law_views"]
noncomputable abbrev xp:List Str:=["views","truths","answers","view"]
noncomputable abbrev AJ:List Str:=["_law_saying_here","_law_found","_law_part"]
noncomputable abbrev ol:List Str:=["deals","hand"]
noncomputable abbrev mH:List Str:=["piles","view"]
noncomputable abbrev xq:List Str:=["points","one","other"]
noncomputable abbrev om:List Str:=["deal","who"]
noncomputable abbrev on:List Str:=["view","values"]
noncomputable abbrev xr:List Str:=["deal","holder","rising","card"]
noncomputable abbrev xt:List Str:=["thing","hands","least","hand"]
noncomputable abbrev xu:List Str:=["self","hands","values","hand"]
noncomputable abbrev xv:List Str:=["many","taken","ways","step"]
noncomputable abbrev xw:List Str:=["view","truths"]
noncomputable abbrev uj:List Str:=["deals","views","S"]
noncomputable abbrev AK:List Str:=["_law_script","_law_k","_law_number"]
noncomputable abbrev oo:List Str:=["self","hand"]
noncomputable abbrev xy:List Str:=["points","thing"]
noncomputable abbrev AL:List Str:=["_law_many","_law_found","_law_k"]
noncomputable abbrev xz:List Str:=["thing","hands"]
noncomputable abbrev oq:List Str:=["self","S"]
noncomputable abbrev ou:List Str:=["_law_found"]
noncomputable abbrev uk:List Str:=["_law_saying_here"]
noncomputable abbrev xB:List Str:=["views","truths"]
noncomputable abbrev AM:List Str:=["_law_least_here","_law_lacks"]
noncomputable abbrev AN:List Str:=["sayings","parts","saying"]
noncomputable abbrev xC:List Str:=["many","taken"]
noncomputable abbrev xD:List Str:=["begun","room"]
noncomputable abbrev xE:List Str:=["many","views"]
noncomputable abbrev EO:List Str:=["_law_card","_law_who","_law_pile"]
noncomputable abbrev EQ:List Str:=["_law_card","_law_who","_law_hand"]
noncomputable abbrev xF:List Str:=["_law_signs"]
noncomputable abbrev JG:List Str:=["_law_place","_law_holds","_law_views","_law_hand"]
noncomputable abbrev JH:List Str:=["_law_place","_law_due","_law_views","_law_hand"]
noncomputable abbrev ER:List Str:=["place","part","cards","hands"]
noncomputable abbrev AO:List Str:=["points","thing","end"]
noncomputable abbrev ul:List Str:=["one","other"]
noncomputable abbrev xG:List Str:=["_law_many"]
noncomputable abbrev qC:List Str:=["thing"]
noncomputable abbrev um:List Str:=["_law_script"]
noncomputable abbrev uo:List Str:=["_law_truth"]
noncomputable abbrev JI:List Str:=["_law_deal","_law_holder","_law_card"]
noncomputable abbrev ES:List Str:=["pile","least","piles"]
noncomputable abbrev ET:List Str:=["_law_deal","_law_pile"]
noncomputable abbrev EU:List Str:=["_law_deal","_law_hand"]
noncomputable abbrev xH:List Str:=["sayings"]
noncomputable abbrev EV:List Str:=["card","holder","who"]
noncomputable abbrev AQ:List Str:=["saying","form"]
noncomputable abbrev xI:List Str:=["saying"]
noncomputable abbrev EW (P:Program) (w:World) (K:Fg) (mg:Str->Option Value) (base:Heap) (k:Nat):Prop:=FnB P w K mg base k "is_whole" qC (iW K)
noncomputable abbrev Ch (P:Program) (w:World) (K:Fg) (mg:Str->Option Value) (base:Heap) (k:Nat):Prop:=FnB P w K mg base k "is_within" mE (eD K)
noncomputable abbrev yJ (P:Program) (w:World) (K:Fg) (mg:Str->Option Value) (base:Heap) (k:Nat):Prop:=FnB P w K mg base k "is_below" oh (dI K)
noncomputable abbrev EX (P:Program) (w:World) (K:Fg) (mg:Str->Option Value) (base:Heap) (k:Nat):Prop:=FnB P w K mg base k "are_hands" xz (jI K)
noncomputable abbrev I0 (P:Program) (w:World) (K:Fg) (mg:Str->Option Value) (base:Heap) (k:Nat):Prop:=FnB P w K mg base k "is_pack" d5 (qd K)
noncomputable abbrev Ja (P:Program) (w:World) (K:Fg) (mg:Str->Option Value) (base:Heap) (k:Nat):Prop:=FnB P w K mg base k "choices" xC (qe K)
noncomputable abbrev Jb (P:Program) (w:World) (K:Fg) (mg:Str->Option Value) (base:Heap) (k:Nat):Prop:=FnB P w K mg base k "how_many" d5 (oH K)
noncomputable abbrev Jc (P:Program) (w:World) (K:Fg) (mg:Str->Option Value) (base:Heap) (k:Nat):Prop:=FnB P w K mg base k "with_one_more" xD (jk K)
noncomputable abbrev EY (P:Program) (w:World) (K:Fg) (mg:Str->Option Value) (base:Heap) (k:Nat):Prop:=FnB P w K mg base k "deals_of" d5 (kX K)
noncomputable abbrev EZ (P:Program) (w:World) (K:Fg) (mg:Str->Option Value) (base:Heap) (k:Nat):Prop:=FnB P w K mg base k "cards_of" om (kY K)
noncomputable abbrev E1 (P:Program) (w:World) (K:Fg) (mg:Str->Option Value) (base:Heap) (k:Nat):Prop:=FnB P w K mg base k "is_word" lx (qm K)
noncomputable abbrev E2 (P:Program) (w:World) (K:Fg) (mg:Str->Option Value) (base:Heap) (k:Nat):Prop:=FnB P w K mg base k "parts_of_all" xH (jK K)
noncomputable abbrev E3 (P:Program) (w:World) (K:Fg) (mg:Str->Option Value) (base:Heap) (k:Nat):Prop:=FnB P w K mg base k "is_saying" lx (m6 K)
noncomputable abbrev E4 (P:Program) (w:World) (K:Fg) (mg:Str->Option Value) (base:Heap) (k:Nat):Prop:=FnB P w K mg base k "fits" lp (yw K)
noncomputable abbrev E5 (P:Program) (w:World) (K:Fg) (mg:Str->Option Value) (base:Heap) (k:Nat):Prop:=FnB P w K mg base k "parts_of" xI (oK K)
noncomputable abbrev AR (P:Program) (w:World) (K:Fg) (mg:Str->Option Value) (base:Heap) (k:Nat):Prop:=FnB P w K mg base k "least_with_same" ["marks"] (fi K)
noncomputable abbrev E6 (P:Program) (w:World) (K:Fg) (mg:Str->Option Value) (base:Heap) (k:Nat):Prop:=FnB P w K mg base k "first_view" ol (lO K)
noncomputable abbrev E7 (P:Program) (w:World) (K:Fg) (mg:Str->Option Value) (base:Heap) (k:Nat):Prop:=FnB P w K mg base k "split" on (vt K)
noncomputable abbrev AS (P:Program) (w:World) (K:Fg) (mg:Str->Option Value) (base:Heap) (k:Nat):Prop:=FnB P w K mg base k "end_of" xy (lC K)
noncomputable abbrev E8 (P:Program) (w:World) (K:Fg) (mg:Str->Option Value) (base:Heap) (k:Nat):Prop:=FnB P w K mg base k "link" xq (yu K)
noncomputable abbrev E9 (P:Program) (w:World) (K:Fg) (mg:Str->Option Value) (base:Heap) (k:Nat):Prop:=FnB P w K mg base k "joined" xE (rY K)
noncomputable abbrev AT (P:Program) (w:World) (K:Fg) (mg:Str->Option Value) (base:Heap) (k:Nat):Prop:=FnB P w K mg base k "both" eV (tQ K)
noncomputable abbrev Fa (P:Program) (w:World) (K:Fg) (mg:Str->Option Value) (base:Heap) (k:Nat):Prop:=FnB P w K mg base k "either" eV (rZ K)
noncomputable abbrev xJ (P:Program) (w:World) (K:Fg) (mg:Str->Option Value) (base:Heap) (k:Nat):Prop:=FnB P w K mg base k "known" xw (kB K)
noncomputable abbrev Fb (P:Program) (w:World) (K:Fg) (mg:Str->Option Value) (base:Heap) (k:Nat):Prop:=FnB P w K mg base k "known_to_all" xB (jH K)
noncomputable abbrev Fc (P:Program) (w:World) (K:Fg) (mg:Str->Option Value) (base:Heap) (k:Nat):Prop:=FnB P w K mg base k "seen" mH (yv K)
noncomputable abbrev xK (P:Program) (w:World) (K:Fg) (mg:Str->Option Value) (base:Heap) (k:Nat):Prop:=FnB P w K mg base k "refuse_unless" qB (cM K)
noncomputable abbrev Fd (P:Program) (w:World) (K:Fg) (mg:Str->Option Value) (base:Heap) (k:Nat):Prop:=FnB P w K mg base k "are_cards" oj (m8 K)
noncomputable abbrev Fe (P:Program) (w:World) (K:Fg) (mg:Str->Option Value) (base:Heap) (k:Nat):Prop:=FnB P w K mg base k "least_held" qA (lT K)
noncomputable abbrev uq (P:Program) (w:World) (K:Fg) (mg:Str->Option Value) (base:Heap) (k:Nat):Prop:=FnB P w K mg base k "_law_cell" xj (bz K)
noncomputable abbrev Ff (P:Program) (w:World) (K:Fg) (mg:Str->Option Value) (base:Heap) (k:Nat):Prop:=FnB P w K mg base k "_law_product" xG (gR K)
noncomputable abbrev Fh (P:Program) (w:World) (K:Fg) (mg:Str->Option Value) (base:Heap) (k:Nat):Prop:=FnB P w K mg base k "_law_count" xn (i4 K)
noncomputable abbrev Fi (P:Program) (w:World) (K:Fg) (mg:Str->Option Value) (base:Heap) (k:Nat):Prop:=FnB P w K mg base k "_law_pack" xh (mW K)
noncomputable abbrev AU (P:Program) (w:World) (K:Fg) (mg:Str->Option Value) (base:Heap) (k:Nat):Prop:=FnB P w K mg base k "_law_least" xF (gu K)
noncomputable abbrev Fj (P:Program) (w:World) (K:Fg) (mg:Str->Option Value) (base:Heap) (k:Nat):Prop:=FnB P w K mg base k "_law_wholes" ou (kr K)
noncomputable abbrev Fk (P:Program) (w:World) (K:Fg) (mg:Str->Option Value) (base:Heap) (k:Nat):Prop:=FnB P w K mg base k "_law_truths_told" mF (cG K)
noncomputable abbrev AV (P:Program) (w:World) (K:Fg) (mg:Str->Option Value) (base:Heap) (k:Nat):Prop:=FnB P w K mg base k "_law_group" og (eZ K)
noncomputable abbrev Fl (P:Program) (w:World) (K:Fg) (mg:Str->Option Value) (base:Heap) (k:Nat):Prop:=FnB P w K mg base k "_law_pool" xc (m7 K)
noncomputable abbrev JJ (P:Program) (w:World) (K:Fg) (mg:Str->Option Value) (base:Heap) (k:Nat):Prop:=FnB P w K mg base k "_law_words" uk (fb K 70)
noncomputable abbrev Fm (P:Program) (w:World) (K:Fg) (mg:Str->Option Value) (base:Heap) (k:Nat):Prop:=FnB P w K mg base k "_law_saying" xa (kC K)
noncomputable abbrev AW (P:Program) (w:World) (K:Fg) (mg:Str->Option Value) (base:Heap) (k:Nat):Prop:=FnB P w K mg base k "_law_kept" xl (jS K)
noncomputable abbrev AX (P:Program) (w:World) (K:Fg) (mg:Str->Option Value) (base:Heap) (k:Nat):Prop:=FnB P w K mg base k "_law_each" oP (jT K)
noncomputable abbrev Fn (P:Program) (w:World) (K:Fg) (mg:Str->Option Value) (base:Heap) (k:Nat):Prop:=FnB P w K mg base k "_law_shared" oP (kG K)
noncomputable abbrev Fo (P:Program) (w:World) (K:Fg) (mg:Str->Option Value) (base:Heap) (k:Nat):Prop:=FnB P w K mg base k "_law_sighted" xf (jU K)
noncomputable abbrev Fp (P:Program) (w:World) (K:Fg) (mg:Str->Option Value) (base:Heap) (G:GF) (k:Nat):Prop:=FnB P w K mg base k "_law_viewed" xo (fP K G)
noncomputable abbrev Fq (P:Program) (w:World) (K:Fg) (mg:Str->Option Value) (base:Heap) (G:GF) (k:Nat):Prop:=FnB P w K mg base k "_law_show_on" w9 (jV K G)
noncomputable abbrev JK (P:Program) (w:World) (K:Fg) (mg:Str->Option Value) (base:Heap) (k:Nat):Prop:=FnB P w K mg base k "_law_read" t9 (de K 35)
noncomputable abbrev JL (P:Program) (w:World) (K:Fg) (mg:Str->Option Value) (base:Heap) (k:Nat):Prop:=FnB P w K mg base k "truths_of" uj (cj K 35)
noncomputable abbrev Jd (P:Program) (w:World) (K:Fg) (mg:Str->Option Value) (base:Heap) (G:GF) (k:Nat):Prop:=FnM P w K mg base k G.Table "view" oo (lU K G)
noncomputable abbrev Je (P:Program) (w:World) (K:Fg) (mg:Str->Option Value) (base:Heap) (G:GF) (k:Nat):Prop:=FnM P w K mg base k G.Table "show" xk (lW K G)
noncomputable abbrev Jf (P:Program) (w:World) (K:Fg) (mg:Str->Option Value) (base:Heap) (G:GF) (k:Nat):Prop:=FnM P w K mg base k G.Table "deals" ["self"] (kF K G)
noncomputable abbrev Fr (P:Program) (w:World) (K:Fg) (mg:Str->Option Value) (base:Heap) (G:GF) (k:Nat):Prop:=FnM P w K mg base k G.Table "truths" oq (dU K G)
noncomputable abbrev Jg (P:Program) (w:World) (K:Fg) (mg:Str->Option Value) (base:Heap) (G:GF) (k:Nat):Prop:=FnM P w K mg base k G.Table "word" mG (lV K G)
noncomputable abbrev Fs (P:Program) (w:World) (K:Fg) (mg:Str->Option Value) (base:Heap) (G:GF) (k:Nat):Prop:=FnM P w K mg base k G.Table "learn" xm (iz K G)
seal L2.PE L2.PA L2.PS L2.PSs L2.PT L2.PW L2.PI L2.PG L2.PGs L2.PO L2.PTL L2.OpR L2.UnR L2.dS L2.SlR L2.IxR L2.DT
noncomputable def top (i:Nat):Stmt:=PySem.Challenge.pw_knowcards_k33_words_learned.main.body.getD i (.Pass ⟨0,0,0,0⟩)
noncomputable abbrev jW:Stmt:=top 8
theorem C2:aA qC qC (ab jW):=by walk_at "w"
theorem sH:ah qC (ab jW) 0 "thing":=by walk_at "v"
noncomputable abbrev fF:Stmt:=top 9
theorem Ci:aA mE mE (ab fF):=by walk_at "w"
theorem qK:ah mE (ab fF) 0 "thing":=by walk_at "v"
theorem zT:ah mE (ab fF) 1 "least":=by walk_at "v"
theorem zU:ah mE (ab fF) 2 "most":=by walk_at "v"
noncomputable abbrev iD:Stmt:=top 10
theorem C3:aA oh oh (ab iD):=by walk_at "w"
theorem Cj:ah oh (ab iD) 0 "thing":=by walk_at "v"
theorem Ck:ah oh (ab iD) 1 "bound":=by walk_at "v"
noncomputable abbrev d8:Stmt:=top 11
theorem jX:aA xt xz (ab d8):=by walk_at "w"
theorem qL:ah xt (ab d8) 0 "thing":=by walk_at "v"
theorem zV:ah xt (ab d8) 1 "hands":=by walk_at "v"
theorem zW:ah xt (ab d8) 2 "least":=by walk_at "v"
theorem qM:ah xt (ab d8) 3 "hand":=by walk_at "v"
noncomputable abbrev h8:Stmt:=top 16
theorem Ft:aA d5 d5 (ab h8):=by walk_at "w"
theorem uR:ah d5 (ab h8) 0 "cards":=by walk_at "v"
theorem ly:ah d5 (ab h8) 1 "sizes":=by walk_at "v"
noncomputable abbrev d6:Stmt:=top 17
theorem gL:aA uh d5 (ab d6):=by walk_at "w"
theorem sL:ah uh (ab d6) 0 "cards":=by walk_at "v"
theorem sQ:ah uh (ab d6) 1 "sizes":=by walk_at "v"
theorem sR:ah uh (ab d6) 2 "many":=by walk_at "v"
theorem sT:ah uh (ab d6) 3 "left":=by walk_at "v"
theorem sV:ah uh (ab d6) 4 "size":=by walk_at "v"
noncomputable abbrev fY:Stmt:=top 18
theorem mI:aA xv xC (ab fY):=by walk_at "w"
theorem C4:ah xv (ab fY) 0 "many":=by walk_at "v"
theorem C5:ah xv (ab fY) 1 "taken":=by walk_at "v"
theorem uS:ah xv (ab fY) 2 "ways":=by walk_at "v"
theorem uT:ah xv (ab fY) 3 "step":=by walk_at "v"
noncomputable abbrev fq:Stmt:=top 19
theorem iY:aA xi d5 (ab fq):=by walk_at "w"
theorem np:ah xi (ab fq) 0 "cards":=by walk_at "v"
theorem nr:ah xi (ab fq) 1 "sizes":=by walk_at "v"
theorem Cl:ah xi (ab fq) 2 "room":=by walk_at "v"
theorem sX:ah xi (ab fq) 3 "begun":=by walk_at "v"
noncomputable abbrev bR:Stmt:=top 20
theorem eJ:aA qx xD (ab bR):=by walk_at "w"
theorem uy:ah qx (ab bR) 0 "begun":=by walk_at "v"
theorem uz:ah qx (ab bR) 1 "room":=by walk_at "v"
theorem md:ah qx (ab bR) 2 "longer":=by walk_at "v"
theorem mh:ah qx (ab bR) 3 "deal":=by walk_at "v"
theorem mi:ah qx (ab bR) 4 "who":=by walk_at "v"
theorem uA:ah qx (ab bR) 5 "most":=by walk_at "v"
noncomputable abbrev iE:Stmt:=top 21
theorem C6:aA om om (ab iE):=by walk_at "w"
theorem Cm:ah om (ab iE) 0 "deal":=by walk_at "v"
noncomputable abbrev cV:Stmt:=top 25
theorem h9:aA qy lx (ab cV):=by walk_at "w"
theorem zX:ah qy (ab cV) 0 "cards":=by walk_at "v"
theorem zY:ah qy (ab cV) 1 "hands":=by walk_at "v"
theorem zZ:ah qy (ab cV) 2 "thing":=by walk_at "v"
theorem qN:ah qy (ab cV) 3 "words":=by walk_at "v"
theorem je:ah qy (ab cV) 4 "level":=by walk_at "v"
noncomputable abbrev ib:Stmt:=top 26
theorem xL:aA AI lx (ab ib):=by walk_at "w"
theorem fG:ah AI (ab ib) 2 "thing":=by walk_at "v"
theorem uU:ah AI (ab ib) 3 "form":=by walk_at "v"
noncomputable abbrev lH:Stmt:=top 27
theorem KI:aA lp lp (ab lH):=by walk_at "w"
theorem Jh:ah lp (ab lH) 0 "cards":=by walk_at "v"
theorem vD:ah lp (ab lH) 1 "hands":=by walk_at "v"
theorem qD:ah lp (ab lH) 2 "place":=by walk_at "v"
theorem qE:ah lp (ab lH) 3 "part":=by walk_at "v"
noncomputable abbrev gj:Stmt:=top 28
theorem uV:aA AQ xI (ab gj):=by walk_at "w"
theorem sY:ah AQ (ab gj) 0 "saying":=by walk_at "v"
theorem Cn:ah AQ (ab gj) 1 "form":=by walk_at "v"
noncomputable abbrev dz:Stmt:=top 29
theorem jY:aA AN xH (ab dz):=by walk_at "w"
theorem vE:ah AN (ab dz) 0 "sayings":=by walk_at "v"
theorem nu:ah AN (ab dz) 1 "parts":=by walk_at "v"
theorem vF:ah AN (ab dz) 2 "saying":=by walk_at "v"
noncomputable abbrev fS:Stmt:=top 31
theorem Aa:aA ol ol (ab fS):=by walk_at "w"
theorem yK:ah ol (ab fS) 0 "deals":=by walk_at "v"
noncomputable abbrev mN:Stmt:=top 32
theorem Ji:aA on on (ab mN):=by walk_at "w"
theorem G6:ah on (ab mN) 0 "view":=by walk_at "v"
theorem G7:ah on (ab mN) 1 "values":=by walk_at "v"
noncomputable abbrev bM:Stmt:=top 33
theorem fv:aA ui ["marks"] (ab bM):=by walk_at "w"
theorem ke:ah ui (ab bM) 0 "marks":=by walk_at "v"
theorem rh:ah ui (ab bM) 1 "firsts":=by walk_at "v"
theorem rj:ah ui (ab bM) 2 "thing":=by walk_at "v"
theorem rk:ah ui (ab bM) 3 "mark":=by walk_at "v"
noncomputable abbrev eL:Stmt:=top 34
theorem lI:aA n9 xE (ab eL):=by walk_at "w"
theorem xM:ah n9 (ab eL) 0 "many":=by walk_at "v"
theorem Fu:ah n9 (ab eL) 1 "views":=by walk_at "v"
theorem Fv:ah n9 (ab eL) 2 "points":=by walk_at "v"
theorem Fw:ah n9 (ab eL) 3 "view":=by walk_at "v"
theorem Fx:ah n9 (ab eL) 4 "thing":=by walk_at "v"
theorem Fy:ah n9 (ab eL) 5 "least":=by walk_at "v"
noncomputable abbrev jZ:Stmt:=top 35
theorem yL:aA ug xq (ab jZ):=by walk_at "w"
theorem vG:ah ug (ab jZ) 0 "points":=by walk_at "v"
theorem Jj:ah ug (ab jZ) 1 "one":=by walk_at "v"
theorem Jk:ah ug (ab jZ) 2 "other":=by walk_at "v"
theorem Co:ah ug (ab jZ) 3 "first":=by walk_at "v"
theorem Cp:ah ug (ab jZ) 4 "second":=by walk_at "v"
noncomputable abbrev jo:Stmt:=top 36
theorem sZ:aA AO xy (ab jo):=by walk_at "w"
theorem j0:ah AO (ab jo) 0 "points":=by walk_at "v"
theorem Fz:ah AO (ab jo) 1 "thing":=by walk_at "v"
theorem iF:ah AO (ab jo) 2 "end":=by walk_at "v"
noncomputable abbrev bS:Stmt:=top 38
theorem ic:aA nj uj (ab bS):=by walk_at "w"
theorem cK:ah nj (ab bS) 0 "deals":=by walk_at "v"
theorem dm:ah nj (ab bS) 1 "views":=by walk_at "v"
theorem cr:ah nj (ab bS) 2 "S":=by walk_at "v"
theorem dX:ah nj (ab bS) 3 "word":=by walk_at "v"
theorem ma:ah nj (ab bS) 4 "inner":=by walk_at "v"
theorem qO:ah nj (ab bS) 5 "some":=by walk_at "v"
noncomputable abbrev nv:Stmt:=top 39
theorem KJ:aA eV eV (ab nv):=by walk_at "w"
theorem Jl:ah eV (ab nv) 0 "ones":=by walk_at "v"
theorem Jm:ah eV (ab nv) 1 "others":=by walk_at "v"
noncomputable abbrev jp:Stmt:=top 40
theorem G8:aA eV eV (ab jp):=by walk_at "w"
theorem FA:ah eV (ab jp) 0 "ones":=by walk_at "v"
theorem FB:ah eV (ab jp) 1 "others":=by walk_at "v"
noncomputable abbrev gM:Stmt:=top 41
theorem qF:aA qz xw (ab gM):=by walk_at "w"
theorem tj:ah qz (ab gM) 0 "view":=by walk_at "v"
theorem G9:ah qz (ab gM) 1 "truths":=by walk_at "v"
theorem Ha:ah qz (ab gM) 2 "sure":=by walk_at "v"
theorem Hb:ah qz (ab gM) 3 "least":=by walk_at "v"
theorem Hc:ah qz (ab gM) 4 "truth":=by walk_at "v"
noncomputable abbrev cT:Stmt:=top 42
theorem gT:aA xp xB (ab cT):=by walk_at "w"
theorem vH:ah xp (ab cT) 0 "views":=by walk_at "v"
theorem ny:ah xp (ab cT) 1 "truths":=by walk_at "v"
theorem nA:ah xp (ab cT) 2 "answers":=by walk_at "v"
theorem vI:ah xp (ab cT) 3 "view":=by walk_at "v"
noncomputable abbrev nC:Stmt:=top 43
theorem KK:aA mH mH (ab nC):=by walk_at "w"
theorem Jn:ah mH (ab nC) 0 "piles":=by walk_at "v"
theorem Cq:ah mH (ab nC) 1 "view":=by walk_at "v"
noncomputable abbrev fw:Stmt:=top 46
theorem vJ:aA qB qB (ab fw):=by walk_at "w"
theorem uB:ah qB (ab fw) 0 "fit":=by walk_at "v"
noncomputable abbrev gN:Stmt:=top 47
theorem Cr:aA oj oj (ab gN):=by walk_at "w"
theorem qP:ah oj (ab gN) 0 "thing":=by walk_at "v"
noncomputable abbrev dO:Stmt:=top 48
theorem qQ:aA xr qA (ab dO):=by walk_at "w"
theorem yM:ah xr (ab dO) 0 "deal":=by walk_at "v"
theorem yN:ah xr (ab dO) 1 "holder":=by walk_at "v"
theorem yO:ah xr (ab dO) 2 "rising":=by walk_at "v"
theorem pc:ah xr (ab dO) 3 "card":=by walk_at "v"
noncomputable abbrev fH:Stmt:=top 50
theorem j3:aA AK xj (ab fH):=by walk_at "w"
theorem gz:ah AK (ab fH) 0 "_law_script":=by walk_at "v"
theorem fc:ah AK (ab fH) 1 "_law_k":=by walk_at "v"
theorem jf:ah AK (ab fH) 2 "_law_number":=by walk_at "v"
noncomputable abbrev dC:Stmt:=top 51
theorem gU:aA AL xG (ab dC):=by walk_at "w"
theorem vK:ah AL (ab dC) 0 "_law_many":=by walk_at "v"
theorem nD:ah AL (ab dC) 1 "_law_found":=by walk_at "v"
theorem vL:ah AL (ab dC) 2 "_law_k":=by walk_at "v"
noncomputable abbrev dP:Stmt:=top 52
theorem jg:aA xg xn (ab dP):=by walk_at "w"
theorem pi:ah xg (ab dP) 0 "_law_cards":=by walk_at "v"
theorem pj:ah xg (ab dP) 1 "_law_sizes":=by walk_at "v"
theorem pA:ah xg (ab dP) 2 "_law_found":=by walk_at "v"
theorem yP:ah xg (ab dP) 3 "_law_many":=by walk_at "v"
noncomputable abbrev cW:Stmt:=top 53
theorem fT:aA vC xh (ab cW):=by walk_at "w"
theorem gA:ah vC (ab cW) 0 "_law_script":=by walk_at "v"
theorem gB:ah vC (ab cW) 1 "_law_at":=by walk_at "v"
theorem Ab:ah vC (ab cW) 2 "_law_most":=by walk_at "v"
theorem gC:ah vC (ab cW) 3 "_law_cards":=by walk_at "v"
theorem cu:ah vC (ab cW) 4 "_law_sizes":=by walk_at "v"
theorem Ac:ah vC (ab cW) 5 "_law_k":=by walk_at "v"
noncomputable abbrev dg:Stmt:=top 54
theorem gD:aA tZ xF (ab dg):=by walk_at "w"
theorem yQ:ah tZ (ab dg) 0 "_law_signs":=by walk_at "v"
theorem kI:ah tZ (ab dg) 1 "_law_first":=by walk_at "v"
theorem pB:ah tZ (ab dg) 2 "_law_found":=by walk_at "v"
theorem yR:ah tZ (ab dg) 3 "_law_place":=by walk_at "v"
theorem kJ:ah tZ (ab dg) 4 "_law_sign":=by walk_at "v"
noncomputable abbrev ff:Stmt:=top 55
theorem yS:aA ou ou (ab ff):=by walk_at "w"
theorem ow:ah ou (ab ff) 0 "_law_found":=by walk_at "v"
noncomputable abbrev cn:Stmt:=top 56
theorem rl:aA mF mF (ab cn):=by walk_at "w"
theorem gk:ah mF (ab cn) 0 "_law_found":=by walk_at "v"
theorem qG:ah mF (ab cn) 1 "_law_due":=by walk_at "v"
noncomputable abbrev eM:Stmt:=top 57
theorem gE:aA AJ uk (ab eM):=by walk_at "w"
theorem yT:ah AJ (ab eM) 0 "_law_saying_here":=by walk_at "v"
theorem pD:ah AJ (ab eM) 1 "_law_found":=by walk_at "v"
theorem iG:ah AJ (ab eM) 2 "_law_part":=by walk_at "v"
noncomputable abbrev fU:Stmt:=top 58
theorem Ad:aA og og (ab fU):=by walk_at "w"
theorem yU:ah og (ab fU) 1 "_law_hands":=by walk_at "v"
noncomputable abbrev cI:Stmt:=top 59
theorem j4:aA sx xc (ab cI):=by walk_at "w"
theorem qR:ah sx (ab cI) 0 "_law_script":=by walk_at "v"
theorem qS:ah sx (ab cI) 1 "_law_at":=by walk_at "v"
theorem qT:ah sx (ab cI) 2 "_law_cards":=by walk_at "v"
theorem qU:ah sx (ab cI) 3 "_law_hands":=by walk_at "v"
theorem qV:ah sx (ab cI) 4 "_law_pool_here":=by walk_at "v"
theorem Ae:ah sx (ab cI) 5 "_law_k":=by walk_at "v"
theorem qW:ah sx (ab cI) 6 "_law_cell_here":=by walk_at "v"
noncomputable abbrev bw:Stmt:=top 60
theorem bP:aA lZ xa (ab bw):=by walk_at "w"
theorem j5:ah lZ (ab bw) 0 "_law_script":=by walk_at "v"
theorem j6:ah lZ (ab bw) 1 "_law_at":=by walk_at "v"
theorem xN:ah lZ (ab bw) 2 "_law_cards":=by walk_at "v"
theorem cC:ah lZ (ab bw) 3 "_law_hands":=by walk_at "v"
theorem xO:ah lZ (ab bw) 4 "_law_most":=by walk_at "v"
theorem fz:ah lZ (ab bw) 5 "_law_pool_here":=by walk_at "v"
theorem xP:ah lZ (ab bw) 6 "_law_k":=by walk_at "v"
theorem bT:ah lZ (ab bw) 7 "_law_cell_here":=by walk_at "v"
theorem ce:ah lZ (ab bw) 8 "_law_one":=by walk_at "v"
theorem dh:ah lZ (ab bw) 9 "_law_other":=by walk_at "v"
theorem dD:ah lZ (ab bw) 10 "_law_some":=by walk_at "v"
noncomputable abbrev cX:Stmt:=top 61
theorem j7:aA qw xl (ab cX):=by walk_at "w"
theorem qX:ah qw (ab cX) 0 "_law_view":=by walk_at "v"
theorem Af:ah qw (ab cX) 1 "_law_truths":=by walk_at "v"
theorem Ag:ah qw (ab cX) 2 "_law_lacks":=by walk_at "v"
theorem Ah:ah qw (ab cX) 3 "_law_place":=by walk_at "v"
theorem Ai:ah qw (ab cX) 4 "_law_truth":=by walk_at "v"
noncomputable abbrev cJ:Stmt:=top 62
theorem j8:aA sG oP (ab cJ):=by walk_at "w"
theorem Aj:ah sG (ab cJ) 0 "_law_views":=by walk_at "v"
theorem Ak:ah sG (ab cJ) 1 "_law_group_here":=by walk_at "v"
theorem qY:ah sG (ab cJ) 2 "_law_truths":=by walk_at "v"
theorem qZ:ah sG (ab cJ) 3 "_law_found":=by walk_at "v"
theorem Al:ah sG (ab cJ) 4 "_law_hand":=by walk_at "v"
noncomputable abbrev cv:Stmt:=top 63
theorem iH:aA qu oP (ab cv):=by walk_at "w"
theorem xQ:ah qu (ab cv) 0 "_law_views":=by walk_at "v"
theorem xR:ah qu (ab cv) 1 "_law_group_here":=by walk_at "v"
theorem xS:ah qu (ab cv) 2 "_law_truths":=by walk_at "v"
theorem gW:ah qu (ab cv) 3 "_law_found":=by walk_at "v"
theorem ox:ah qu (ab cv) 4 "_law_more":=by walk_at "v"
noncomputable abbrev bJ:Stmt:=top 64
theorem fA:aA qt xf (ab bJ):=by walk_at "w"
theorem vM:ah qt (ab bJ) 0 "_law_deals":=by walk_at "v"
theorem nE:ah qt (ab bJ) 1 "_law_view":=by walk_at "v"
theorem nG:ah qt (ab bJ) 3 "_law_piles":=by walk_at "v"
theorem vN:ah qt (ab bJ) 4 "_law_lacks":=by walk_at "v"
theorem vO:ah qt (ab bJ) 5 "_law_place":=by walk_at "v"
theorem nH:ah qt (ab bJ) 6 "_law_least_here":=by walk_at "v"
noncomputable abbrev b8:Stmt:=top 65
theorem j9:aA oO t9 (ab b8):=by walk_at "w"
theorem jh:ah oO (ab b8) 0 "_law_deals":=by walk_at "v"
theorem dY:ah oO (ab b8) 1 "_law_views":=by walk_at "v"
theorem bK:ah oO (ab b8) 2 "_law_saying_here":=by walk_at "v"
theorem fg:ah oO (ab b8) 3 "_law_below":=by walk_at "v"
theorem rc:ah oO (ab b8) 4 "_law_ahead":=by walk_at "v"
noncomputable abbrev cL:Stmt:=top 66
theorem iI:aA t0 xo (ab cL):=by walk_at "w"
theorem xT:ah t0 (ab cL) 0 "_law_table":=by walk_at "v"
theorem xU:ah t0 (ab cL) 1 "_law_views":=by walk_at "v"
theorem xV:ah t0 (ab cL) 2 "_law_hand":=by walk_at "v"
theorem xW:ah t0 (ab cL) 3 "_law_view":=by walk_at "v"
theorem ka:ah t0 (ab cL) 4 "_law_seen":=by walk_at "v"
noncomputable abbrev bv:Stmt:=top 67
theorem fB:aA ni w9 (ab bv):=by walk_at "w"
theorem vP:ah ni (ab bv) 0 "_law_table":=by walk_at "v"
theorem jq:ah ni (ab bv) 1 "_law_deals":=by walk_at "v"
theorem vQ:ah ni (ab bv) 2 "_law_views":=by walk_at "v"
theorem jr:ah ni (ab bv) 3 "_law_number":=by walk_at "v"
theorem nI:ah ni (ab bv) 4 "_law_hands":=by walk_at "v"
theorem nJ:ah ni (ab bv) 5 "_law_hand":=by walk_at "v"
theorem vR:ah ni (ab bv) 6 "_law_holder":=by walk_at "v"
theorem vS:ah ni (ab bv) 7 "_law_card":=by walk_at "v"
noncomputable abbrev d7:Stmt:=top 68
theorem fC:aA iQ um (ab d7):=by walk_at "w"
theorem kK:ah iQ (ab d7) 0 "_law_script":=by walk_at "v"
theorem ur:ah iQ (ab d7) 1 "_law_cards":=by walk_at "v"
theorem yV:ah iQ (ab d7) 2 "_law_sizes":=by walk_at "v"
theorem ut:ah iQ (ab d7) 3 "_law_hands":=by walk_at "v"
theorem kL:ah iQ (ab d7) 4 "_law_deals":=by walk_at "v"
theorem iJ:ah iQ (ab d7) 5 "_law_views":=by walk_at "v"
theorem KL:ah iQ (ab d7) 6 "_law_hand":=by walk_at "v"
theorem iK:ah iQ (ab d7) 7 "_law_table":=by walk_at "v"
theorem uu:ah iQ (ab d7) 8 "_law_k":=by walk_at "v"
theorem kM:ah iQ (ab d7) 9 "_law_saying_here":=by walk_at "v"
theorem Cs:ah iQ (ab d7) 10 "_law_group_here":=by walk_at "v"
theorem Ct:ah iQ (ab d7) 11 "_law_due":=by walk_at "v"
theorem Cu:ah iQ (ab d7) 12 "_law_found":=by walk_at "v"
noncomputable abbrev dQ:Stmt:=ki (top 45) 0
theorem Am:aA jc jc (ab dQ):=by walk_at "w"
theorem dE:ah jc (ab dQ) 0 "self":=by walk_at "v"
theorem pE:ah jc (ab dQ) 1 "cards":=by walk_at "v"
theorem kN:ah jc (ab dQ) 2 "sizes":=by walk_at "v"
noncomputable abbrev gF:Stmt:=ki (top 45) 1
theorem yW:aA ["self"] ["self"] (ab gF):=by walk_at "w"
theorem xX:ah ["self"] (ab gF) 0 "self":=by walk_at "v"
noncomputable abbrev fV:Stmt:=ki (top 45) 2
theorem An:aA oo oo (ab fV):=by walk_at "w"
theorem pF:ah oo (ab fV) 0 "self":=by walk_at "v"
theorem pG:ah oo (ab fV) 1 "hand":=by walk_at "v"
noncomputable abbrev eO:Stmt:=ki (top 45) 3
theorem Ao:aA mG mG (ab eO):=by walk_at "w"
theorem kO:ah mG (ab eO) 0 "self":=by walk_at "v"
theorem pH:ah mG (ab eO) 1 "hands":=by walk_at "v"
theorem yX:ah mG (ab eO) 2 "S":=by walk_at "v"
noncomputable abbrev dj:Stmt:=ki (top 45) 4
theorem re:aA uf xk (ab dj):=by walk_at "w"
theorem fW:ah uf (ab dj) 0 "self":=by walk_at "v"
theorem pI:ah uf (ab dj) 1 "hand":=by walk_at "v"
theorem yY:ah uf (ab dj) 2 "holder":=by walk_at "v"
theorem pJ:ah uf (ab dj) 3 "some":=by walk_at "v"
noncomputable abbrev eh:Stmt:=ki (top 45) 5
theorem xY:aA oq oq (ab eh):=by walk_at "w"
theorem gm:ah oq (ab eh) 0 "self":=by walk_at "v"
theorem nK:ah oq (ab eh) 1 "S":=by walk_at "v"
noncomputable abbrev dn:Stmt:=ki (top 45) 8
theorem pL:aA xu xm (ab dn):=by walk_at "w"
theorem kb:ah xu (ab dn) 0 "self":=by walk_at "v"
theorem oy:ah xu (ab dn) 1 "hands":=by walk_at "v"
theorem kd:ah xu (ab dn) 2 "values":=by walk_at "v"
theorem oz:ah xu (ab dn) 3 "hand":=by walk_at "v"
section
variable {P:Program} {w:World} {K:Fg} {mg:Str->Option Value} {base:Heap} {f:Addr} {fd:Nk}
theorem C7 (D:Def K mg "is_whole" jW qC f fd) (B:Blt mg):EW P w K mg base 1:=by
 refine D.ok C2 (by walk_at "l") fun _ _ _ _ _ _ _ _ hr h=>?_
 exact ⟨wq K,(ai (aw (jx (aG da rfl B.isinstance Oe (ad (pvA sH) (ad (dR (v:=.ty "int") rfl B.int Vv rfl) ae))) (gX (A2 (aG da rfl B.isinstance Oe (ad (pvA sH) (ad (dR (v:=.ty "bool") rfl B.bool V0 rfl) ae)))))))),CP h⟩
theorem Cv (D:Def K mg "is_within" fF mE f fd) (B:Blt mg) (U41:EW P w K mg base 1):Ch P w K mg base 2:=by
 refine D.ok Ci (by walk_at "l") fun _ _ _ _ _ _ _ _ hr h=>?_
 exact ⟨uL K,(ai (aw (jx (ak U41 (rmD hr) (ad (pvA qK) ae)) (gX (Hk Az Az (pvA zT) (pvA qK) (pvA zU)))))),Bz h⟩
theorem C8 (D:Def K mg "is_below" iD oh f fd) (B:Blt mg) (U31:Ch P w K mg base 2):yJ P w K mg base 3:=by
 refine D.ok C3 (by walk_at "l") fun _ _ _ _ _ _ _ _ hr h=>?_
 exact ⟨mz K,(ai (aw (ak U31 (rmD hr) (ad (pvA Cj) (ar ao (aX (ax iT (pvA Ck) ao) ae)))))),CW h⟩
theorem Cw (D:Def K mg "are_hands" d8 xz f fd) (B:Blt mg) (U31:Ch P w K mg base 2):EX P w K mg base 3:=by
 refine D.ok jX (by walk_at "l") fun _ _ _ _ _ _ _ _ hr h=>?_
 exact ⟨lc K,(af (bd (bU (bG (aG da rfl B.isinstance Oe (ad (pvA qL) (ad (dR (v:=.ty "tuple") rfl B.tuple QS rfl) ae))))) (ai (aw cf)) aI)
  (af (ay (i:=2) jX.nd rfl (M5 rfl) ao)
  (af (bL Nx rfl (oQ (pvA qL)) (aq (i:=3) jX.nd rfl (M5 rfl)) (af (bd (bU (bG (ak U31 (rmD hr) (ad (pvA qM) (ad (pvA zW) (aX (ax iT (pvA zV) ao) ae)))))) (ai (aw cf)) aI)
  (ai (ay (i:=2) jX.nd rfl (M5 rfl) (ax bN (pvA qM) ao)))))
  (ai (aw cf))))),BI h⟩
theorem FC (D:Def K mg "is_pack" h8 d5 f fd) (B:Blt mg) {t_MOST_CARDS:Tok} (m_MOST_CARDS:mg "MOST_CARDS"=some (.int 12 t_MOST_CARDS)) {t_MOST_HANDS:Tok} (m_MOST_HANDS:mg "MOST_HANDS"=some (.int 5 t_MOST_HANDS)) (U31:Ch P w K mg base 2):I0 P w K mg base 3:=by
 refine D.ok Ft (by walk_at "l") fun _ _ _ _ _ _ _ _ hr h=>?_
 exact ⟨zu K,(af (bd (bU (bG (ak U31 (rmD hr) (ad (pvA uR) (ar ao (ad (kg (v:=(.int 12)) rfl m_MOST_CARDS ⟨_,rfl⟩) ae)))))) (ai (aw cf)) aI)
  (af (bd (PW.pt (mj (bU (bG (aG da rfl B.isinstance Oe (ad (pvA ly) (ad (dR (v:=.ty "list") rfl B.list P4 rfl) ae))))) (jw (bU (bG (ak U31 (rmD hr) (aZ (aG bj rfl B.len OP (ad (pvA ly) ae)) (ar ao (ad (kg (v:=(.int 5)) rfl m_MOST_HANDS ⟨_,rfl⟩) ae))))))))) (ai (aw cf)) aI)
  (ai (aw (jx (aG (nM rfl) rfl B.all Vw (bE (bo (sc:=(ab h8)) (NX:=d5) (N:=["size","cards"]) (ix:=[none,some 0]) rfl (by walk_at "c") (bC (pvA ly)) (by intros; exact (aq (i:=0) (show (["size","cards"]:List Str).Nodup by decide +kernel) rfl (M5 rfl))) (by intros; exact bq) (by intros; exact (ak U31 (rmD hr) (ad (pv 0) (ar ao (ad (pv 1) ae)))))) ae)) (gX (eX Az (aG (lz rfl) rfl B.sum T5 (ad (pvA ly) ae)) (pvA uR) (aO _)))))))),Es h⟩
theorem C9 (D:Def K mg "how_many" d6 d5 f fd) (B:Blt mg) (U45:Ja P w K mg base 1) (U43:I0 P w K mg base 3):Jb P w K mg base 4:=by
 refine D.ok gL (by walk_at "l") fun _ _ _ _ _ _ _ _ hr h=>?_
 exact ⟨wu K,(af (bd (bU (bG (ak U43 (rmD hr) (ad (pvA sL) (ad (pvA sQ) ae))))) (ai pO) aI)
  (af (ay (i:=2) gL.nd rfl (M5 rfl) ao)
  (af (ay (i:=3) gL.nd rfl (M5 rfl) (pvA sL))
  (af (bL Nx rfl (bC (pvA sQ)) (aq (i:=4) gL.nd rfl (M5 rfl)) (af (ay (i:=2) gL.nd rfl (M5 rfl) (ax fM (pvA sR) (ak U45 (rmD hr) (ad (pvA sT) (ad (pvA sV) ae)))))
  (ai (ay (i:=3) gL.nd rfl (M5 rfl) (ax iT (pvA sT) (pvA sV))))))
  (ai (aw (pvA sR))))))),CQ h⟩
theorem FD (D:Def K mg "choices" fY xC f fd) (B:Blt mg):Ja P w K mg base 1:=by
 refine D.ok mI (by walk_at "l") fun _ _ _ _ _ _ _ _ hr h=>?_
 exact ⟨zv K,(af (ay (i:=2) mI.nd rfl (M5 rfl) ao)
  (af (bL Nx rfl (cN rfl B.range (ad (pvA C5) ae)) (aq (i:=3) mI.nd rfl (M5 rfl)) (ai (ay (i:=2) mI.nd rfl (M5 rfl) (ax cD (ax fM (pvA uS) (ax iT (pvA C4) (pvA uT))) (ax bN (pvA uT) ao)))))
  (ai (aw (pvA uS))))),Et h⟩
theorem Da (D:Def K mg "deals_of" fq d5 f fd) (B:Blt mg) {t_MOST_DEALS:Tok} (m_MOST_DEALS:mg "MOST_DEALS"=some (.int 2000 t_MOST_DEALS)) (U40:Jb P w K mg base 4) (U3:Jc P w K mg base 1):EY P w K mg base 5:=by
 refine D.ok iY (by walk_at "l") fun _ _ _ _ _ _ _ _ hr h=>?_
 exact ⟨wv K,(af (bd (aP nL (ak U40 (rmD hr) (ad (pvA np) (ad (pvA nr) ae))) (kg (v:=(.int 2000)) rfl m_MOST_DEALS ⟨_,rfl⟩) (aO _)) (ai pO) aI)
  (af (ay (i:=2) iY.nd rfl (M5 rfl) (ax FX (pvA nr) (A8 (aX (ax iT (pvA np) (aG (lz rfl) rfl B.sum T5 (ad (pvA nr) ae))) ae))))
  (af (ay (i:=3) iY.nd rfl (M5 rfl) (A8 (bF (FQ ae) ae)))
  (af (bL Nx rfl (cN rfl B.range (ad (pvA np) ae)) (aq (i:=4) iY.nd rfl (M5 rfl)) (ai (ay (i:=3) iY.nd rfl (M5 rfl) (ak U3 (rmD hr) (ad (pvA sX) (ad (pvA Cl) ae))))))
  (ai (aw (pvA sX))))))),CS h⟩
theorem vT (D:Def K mg "with_one_more" bR xD f fd) (B:Blt mg):Jc P w K mg base 1:=by
 refine D.ok eJ (by walk_at "l") fun _ _ _ _ _ _ _ _ hr h=>?_
 exact ⟨nU K,(af (ay (i:=2) eJ.nd rfl (M5 rfl) (A8 ae))
  (af (bL Nx rfl (bC (pvA uy)) (aq (i:=3) eJ.nd rfl (M5 rfl)) (ai (bL Nx rfl (gI aQ rfl B.enumerate (by decide) (ad (pvA uz) ae)) (cH rfl (aN (aq (i:=4) eJ.nd rfl (M5 rfl)) (aN (aq (i:=5) eJ.nd rfl (M5 rfl)) b7))) (ai (bd (aP Js (Mb PySem.F.plainAttrs_tuple SI PySem.F.type_tuple_count F8 (pvA mh) (ad (pvA mi) ae)) (pvA uA) (aO _)) (ai (cx (mq N0 OH OI fX (pvA md) (aX (ax J1 (pvA mh) (FQ (ad (pvA mi) ae))) ae)))) aI)))))
  (ai (aw (pvA md))))),vn h⟩
theorem Db (D:Def K mg "cards_of" iE om f fd) (B:Blt mg):EZ P w K mg base 1:=by
 refine D.ok C6 (by walk_at "l") fun _ _ _ _ _ _ _ _ hr h=>?_
 exact ⟨ww K,(ai (aw (cO qH rfl B.tuple QS (bE (bo (sc:=(ab iE)) (NX:=om) (N:=EV) (ix:=[none,none,some 1]) rfl (by walk_at "c") (gI ek rfl B.enumerate (by decide) (ad (pvA Cm) ae)) (by intros; exact (cH rfl (aN (aq (i:=0) (show (EV:List Str).Nodup by decide +kernel) rfl (M5 rfl)) (aN (aq (i:=1) (show (EV:List Str).Nodup by decide +kernel) rfl (M5 rfl)) b7)))) (by intros; exact (kl (aP bW (pv 1) (pv 2) (aO _)))) (by intros; exact (pv 0))) ae)))),CT h⟩
theorem Cy (D:Def K mg "is_saying" cV lx f fd) (B:Blt mg) {t_MOST_WORDS:Tok} (m_MOST_WORDS:mg "MOST_WORDS"=some (.int 30 t_MOST_WORDS)) (U41:EW P w K mg base 1) (U44:E1 P w K mg base 5) (U4:E2 P w K mg base 2):E3 P w K mg base 6:=by
 refine D.ok h9 (by walk_at "l") fun _ _ _ _ _ _ _ _ hr h=>?_
 exact ⟨lg K,(af (bd (PW.pt (mj (bU (bG (ak U41 (rmD hr) (ad (pvA zX) ae)))) (jw (bU (bG (ak U41 (rmD hr) (ad (pvA zY) ae))))))) (ai (aw cf)) aI)
  (af (ay (i:=3) h9.nd rfl (M5 rfl) ao)
  (af (ay (i:=4) h9.nd rfl (M5 rfl) (cy (ad (pvA zZ) ae)))
  (af (pP Nx (aP nL (aG bj rfl B.len OP (ad (pvA je) ae)) ao (aO _)) (af (ay (i:=3) h9.nd rfl (M5 rfl) (ax bN (pvA qN) (aG bj rfl B.len OP (ad (pvA je) ae))))
  (af (bd (PW.pt (mj (aP nL (pvA qN) (kg (v:=(.int 30)) rfl m_MOST_WORDS ⟨_,rfl⟩) (aO _)) (jw (bU (bG (aG (nM rfl) rfl B.all Vw (bE (bo (sc:=(ab cV)) (NX:=qy) (N:=["one","cards","hands"]) (ix:=[none,some 0,some 1]) rfl (by walk_at "c") (bC (pvA je)) (by intros; exact (aq (i:=0) (show (["one","cards","hands"]:List Str).Nodup by decide +kernel) rfl (M5 rfl))) (by intros; exact bq) (by intros; exact (ak U44 (rmD hr) (ad (pv 1) (ad (pv 2) (ad (pv 0) ae)))))) ae))))))) (ai (aw cf)) aI)
  (ai (ay (i:=4) h9.nd rfl (M5 rfl) (ak U4 (rmD hr) (ad (pvA je) ae)))))))
  (ai (aw cf)))))),BK h⟩
theorem FE (D:Def K mg "is_word" ib lx f fd) (B:Blt mg) {G:GF} (T:fk P w K mg G) (U52:E4 P w K mg base 4):E1 P w K mg base 5:=by
 refine D.ok xL (by walk_at "l") fun _ _ _ _ _ _ _ _ hr h=>?_
 have m_FORMS:=T.tb.mf
 have d_FORMS:=T.tb.df
 exact ⟨nX K G.toGlo,(af (bd (PW.pt (mj (bU (bG (aG da rfl B.isinstance Oe (ad (pvA fG) (ad (dR (v:=.ty "tuple") rfl B.tuple QS rfl) ae))))) (jw (aP bW (aG bj rfl B.len OP (ad (pvA fG) ae)) ao (aO _))))) (ai (aw cf)) aI)
  (af (bd (PW.pt (mj (bU (bG (aG da rfl B.isinstance Oe (aE (aL bt (pvA fG) ao (fun _ _=>rfl)) (ad (dR (v:=.ty "str") rfl B.str boot_str rfl) ae))))) (jw (aP (BN d_FORMS) (aL bt (pvA fG) ao (fun _ _=>rfl)) (kg (v:=(.ref G.forms)) rfl m_FORMS rfl) rfl)))) (ai (aw cf)) aI)
  (af (ay (i:=3) xL.nd rfl (M5 rfl) (GJ d_FORMS (kg (v:=(.ref G.forms)) rfl m_FORMS rfl) (aL bt (pvA fG) ao (fun _ _=>rfl)) (fun _ _=>rfl)))
  (af (bd (aP Jr (aG bj rfl B.len OP (ad (pvA fG) ae)) (ax bN ao (aG bj rfl B.len OP (ad (pvA uU) ae))) (aO _)) (ai (aw cf)) aI)
  (ai (aw (aG (nM rfl) rfl B.all Vw (bE (bo (sc:=(ab ib)) (NX:=AI) (N:=ER) (ix:=[none,none,some 0,some 1]) rfl (by walk_at "c") (iU ek ek rfl B.zip (ad (pvA uU) (aE (vb BM (pvA fG) (yi ao) yh) ae))) (by intros; exact (cH rfl (aN (aq (i:=0) (show (ER:List Str).Nodup by decide +kernel) rfl (M5 rfl)) (aN (aq (i:=1) (show (ER:List Str).Nodup by decide +kernel) rfl (M5 rfl)) b7)))) (by intros; exact bq) (by intros; exact (ak U52 (rmD hr) (ad (pv 2) (ad (pv 3) (ad (pv 0) (ad (pv 1) ae))))))) ae)))))))),EA T.tb.ok h⟩
theorem KO (D:Def K mg "fits" lH lp f fd) (B:Blt mg) (U32:EX P w K mg base 3) (U42:yJ P w K mg base 3):E4 P w K mg base 4:=by
 refine D.ok KI (by walk_at "l") fun _ _ _ _ _ _ _ _ hr h=>?_
 exact ⟨wL K,(af (bd (aP bW (pvA qD) bh (aO _)) (ai (aw (ak U42 (rmD hr) (ad (pvA qE) (aX (ax bN (pvA vD) ao) ae))))) aI)
  (af (bd (aP bW (pvA qD) bh (aO _)) (ai (aw (ak U42 (rmD hr) (ad (pvA qE) (ad (pvA Jh) ae))))) aI)
  (af (bd (aP bW (pvA qD) bh (aO _)) (ai (aw (ak U42 (rmD hr) (ad (pvA qE) (ad (pvA vD) ae))))) aI)
  (af (bd (aP bW (pvA qD) bh (aO _)) (ai (aw (ak U32 (rmD hr) (ad (pvA qE) (ad (pvA vD) ae))))) aI)
  (ai (aw cf)))))),Km h⟩
theorem Dc (D:Def K mg "parts_of" gj xI f fd) (B:Blt mg) {G:GF} (T:fk P w K mg G):E5 P w K mg base 1:=by
 refine D.ok uV (by walk_at "l") fun _ _ _ _ _ _ _ _ hr h=>?_
 have m_FORMS:=T.tb.mf
 have d_FORMS:=T.tb.df
 exact ⟨mB K G.toGlo,(af (ay (i:=1) uV.nd rfl (M5 rfl) (GJ d_FORMS (kg (v:=(.ref G.forms)) rfl m_FORMS rfl) (aL bt (pvA sY) ao (fun _ _=>rfl)) (fun _ _=>rfl)))
  (ai (aw (bo (sc:=(ab gj)) (NX:=AQ) (N:=["place","part"]) (ix:=[none,none]) rfl (by walk_at "c") (iU ek ek rfl B.zip (ad (pvA Cn) (aE (vb BM (pvA sY) (yi ao) yh) ae))) (by intros; exact (cH rfl (aN (aq (i:=0) (show (["place","part"]:List Str).Nodup by decide +kernel) rfl (M5 rfl)) (aN (aq (i:=1) (show (["place","part"]:List Str).Nodup by decide +kernel) rfl (M5 rfl)) b7)))) (by intros; exact (kl (aP bW (pv 0) bh (aO _)))) (by intros; exact (pv 1)))))),CY T.tb.ok h⟩
theorem xZ (D:Def K mg "parts_of_all" dz xH f fd) (B:Blt mg) (U37:E5 P w K mg base 1):E2 P w K mg base 2:=by
 refine D.ok jY (by walk_at "l") fun _ _ _ _ _ _ _ _ hr h=>?_
 exact ⟨iu K,(af (ay (i:=1) jY.nd rfl (M5 rfl) (cy ae))
  (af (bL Nx rfl (bC (pvA vE)) (aq (i:=2) jY.nd rfl (M5 rfl)) (ai (cx (mq N0 PySem.F.slot_list_extend PySem.F.type_list_extend FW (pvA nu) (aZ (ak U37 (rmD hr) (ad (pvA vF) ae)) ae)))))
  (ai (aw (pvA nu))))),wM h⟩
theorem Ap (D:Def K mg "first_view" fS ol f fd) (B:Blt mg) (U39:EZ P w K mg base 1) (U1:AR P w K mg base 1):E6 P w K mg base 2:=by
 refine D.ok Aa (by walk_at "l") fun _ _ _ _ _ _ _ _ hr h=>?_
 exact ⟨jG K,(ai (aw (ak U1 (rmD hr) (bE (bo (sc:=(ab fS)) (NX:=ol) (N:=["deal","hand"]) (ix:=[none,some 1]) rfl (by walk_at "c") (bC (pvA yK)) (by intros; exact (aq (i:=0) (show (["deal","hand"]:List Str).Nodup by decide +kernel) rfl (M5 rfl))) (by intros; exact bq) (by intros; exact (ak U39 (rmD hr) (ad (pv 0) (ad (pv 1) ae))))) ae)))),zH h⟩
theorem Jo (D:Def K mg "split" mN on f fd) (B:Blt mg) (U1:AR P w K mg base 1):E7 P w K mg base 2:=by
 refine D.ok Ji (by walk_at "l") fun _ _ _ _ _ _ _ _ hr h=>?_
 exact ⟨tT K,(ai (aw (ak U1 (rmD hr) (aZ (KH aQ aQ rfl rfl B.list rfl B.zip (ad (pvA G6) (ad (pvA G7) ae))) ae)))),Iq h⟩
theorem tm (D:Def K mg "least_with_same" bM ["marks"] f fd) (B:Blt mg):AR P w K mg base 1:=by
 refine D.ok fv (by walk_at "l") fun _ _ _ _ _ _ _ _ hr h=>?_
 have hux:=hr.units64
 exact ⟨fJ K,(af (ay (i:=1) fv.nd rfl (Pq rfl) qo)
  (af (bL Nx rfl (gI aQ rfl B.enumerate (by decide) (ad (pvA ke) ae)) (cH rfl (aN (aq (i:=2) fv.nd rfl (M5 rfl)) (aN (aq (i:=3) fv.nd rfl (M5 rfl)) b7))) (ai (cx (MC RF PySem.F.type_dict_setdefault (yE hux) (pvA rh) (ad (pvA rk) (ad (pvA rj) ae))))))
  (ai (aw (bo (sc:=(ab bM)) (NX:=ui) (N:=["mark","firsts"]) (ix:=[none,some 1]) rfl (by walk_at "c") (bC (pvA ke)) (by intros; exact (aq (i:=0) (show (["mark","firsts"]:List Str).Nodup by decide +kernel) rfl (M5 rfl))) (by intros; exact bq) (by intros; exact (DI hux (pv 1) (pv 0) (fun _ _=>rfl)))))))),rV h⟩
theorem Hd (D:Def K mg "joined" eL xE f fd) (B:Blt mg) (U47:AS P w K mg base 1) (U53:E8 P w K mg base 2):E9 P w K mg base 3:=by
 refine D.ok lI (by walk_at "l") fun _ _ _ _ _ _ _ _ hr h=>?_
 exact ⟨qh K,(af (ay (i:=2) lI.nd rfl (Pq rfl) (cO (G4 rfl) rfl B.list P4 (aZ (cO G0 rfl B.range boot_range (ad (pvA xM) ae)) ae)))
  (af (bL Nx rfl (bC (pvA Fu)) (aq (i:=3) lI.nd rfl (M5 rfl)) (ai (bL Nx rfl (gI aQ rfl B.enumerate (by decide) (ad (pvA Fw) ae)) (cH rfl (aN (aq (i:=4) lI.nd rfl (M5 rfl)) (aN (aq (i:=5) lI.nd rfl (M5 rfl)) b7))) (ai (cx (ak U53 (rmD hr) (ad (pvA Fv) (ad (pvA Fx) (ad (pvA Fy) ae)))))))))
  (ai (aw (bo (sc:=(ab eL)) (NX:=n9) (N:=["thing","points"]) (ix:=[none,some 2]) rfl (by walk_at "c") (cN rfl B.range (ad (pvA xM) ae)) (by intros; exact (aq (i:=0) (show (["thing","points"]:List Str).Nodup by decide +kernel) rfl (M5 rfl))) (by intros; exact bq) (by intros; exact (ak U47 (rmD hr) (ad (pv 1) (ad (pv 0) ae))))))))),Gw h⟩
theorem KP (D:Def K mg "link" jZ xq f fd) (B:Blt mg) (U47:AS P w K mg base 1):E8 P w K mg base 2:=by
 refine D.ok yL (by walk_at "l") fun _ _ _ _ _ _ _ _ hr h=>?_
 exact ⟨wC K,(af (ay (i:=3) yL.nd rfl (M5 rfl) (ak U47 (rmD hr) (ad (pvA vG) (ad (pvA Jj) ae))))
  (af (ay (i:=4) yL.nd rfl (M5 rfl) (ak U47 (rmD hr) (ad (pvA vG) (ad (pvA Jk) ae))))
  (ai (gY (aG (zc rfl) rfl B.min boot_min (ad (pvA Co) (ad (pvA Cp) ae))) (iS (pvA vG) (aG (FM rfl) rfl B.max Vx (ad (pvA Co) (ad (pvA Cp) ae))) ji))))),Ke h⟩
theorem He (D:Def K mg "end_of" jo xy f fd) (B:Blt mg):AS P w K mg base 1:=by
 refine D.ok sZ (by walk_at "l") fun _ _ _ _ _ _ _ _ hr h=>?_
 exact ⟨qg K,(af (ay (i:=2) sZ.nd rfl (M5 rfl) (pvA Fz))
  (af (pP Nx (aP Jr (aL bi (pvA j0) (pvA iF) (fun _ _=>rfl)) (pvA iF) (aO _)) (af (gY (aL bi (pvA j0) (aL bi (pvA j0) (pvA iF) (fun _ _=>rfl)) (fun _ _=>rfl)) (iS (pvA j0) (pvA iF) ji))
  (ai (ay (i:=2) sZ.nd rfl (M5 rfl) (aL bi (pvA j0) (pvA iF) (fun _ _=>rfl))))))
  (ai (aw (pvA iF))))),Gv h⟩
theorem tq (D:Def K mg "truths_of" bS uj f fd) (B:Blt mg) (U54:AT P w K mg base 1) (U39:EZ P w K mg base 1) (U46:Fa P w K mg base 1) (U48:E9 P w K mg base 3) (U50:xJ P w K mg base 1) (U7:Fb P w K mg base 2) (U51:Fc P w K mg base 2):∀ n,FnB P w K mg base (4 + n) "truths_of" uj (cj K n)
 | 0=>D.ok (k:=3) ic (fun vs H Q E h=>(r9 h).elim) (fun cdv A outer s H vs Q E hr h=>(r9 h).elim)
 | n + 1=>by
  have U27:=tq D B U54 U39 U46 U48 U50 U7 U51 n
  refine D.ok (k:=4 + n) ic (by walk_at "l") fun _ _ _ _ _ _ _ _ hr h=>?_
  exact ⟨k9 K n,(af (ay (i:=3) ic.nd rfl (M5 rfl) (aL bt (pvA cr) ao (fun _ _=>rfl)))
  (af (bd (aP bW (pvA dX) bh (aO _)) (ai (aw (bo (sc:=(ab bS)) (NX:=nj) (N:=["deal","S"]) (ix:=[none,some 2]) rfl (by walk_at "c") (bC (pvA cK)) (by intros; exact (aq (i:=0) (show (["deal","S"]:List Str).Nodup by decide +kernel) rfl (M5 rfl))) (by intros; exact bq) (by intros; exact (eX bW (aL bt (pv 0) (aL bt (pv 1) ao (fun _ _=>rfl)) (fun _ _=>rfl)) (aL bt (pv 1) ao (fun _ _=>rfl)) (aO _)))))) aI)
  (af (bd (aP bW (pvA dX) bh (aO _)) (ai (aw (ak U51 (hr.mono (by omega)) (bE (bo (sc:=(ab bS)) (NX:=nj) (N:=["deal","views"]) (ix:=[none,some 1]) rfl (by walk_at "c") (bC (pvA cK)) (by intros; exact (aq (i:=0) (show (["deal","views"]:List Str).Nodup by decide +kernel) rfl (M5 rfl))) (by intros; exact bq) (by intros; exact (ak U39 (hr.mono (by omega)) (ad (pv 0) (aZ (aG bj rfl B.len OP (ad (pv 1) ae)) ae))))) (aE (aL bi (pvA dm) (aL bt (pvA cr) ao (fun _ _=>rfl)) (fun _ _=>rfl)) ae))))) aI)
  (af (bd (aP bW (pvA dX) bh (aO _)) (ai (aw (bo (sc:=(ab bS)) (NX:=nj) (N:=["truth"]) (ix:=[none]) rfl (by walk_at "c") (bC (ak U27 (hr.mono (by omega)) (ad (pvA cK) (ad (pvA dm) (aE (aL bt (pvA cr) ao (fun _ _=>rfl)) ae))))) (by intros; exact (aq (i:=0) (show (["truth"]:List Str).Nodup by decide +kernel) rfl (M5 rfl))) (by intros; exact bq) (by intros; exact (A2 (pv 0)))))) aI)
  (af (bd (aP bW (pvA dX) bh (aO _)) (ai (aw (ak U54 (hr.mono (by omega)) (aZ (ak U27 (hr.mono (by omega)) (ad (pvA cK) (ad (pvA dm) (aE (aL bt (pvA cr) ao (fun _ _=>rfl)) ae)))) (aZ (ak U27 (hr.mono (by omega)) (ad (pvA cK) (ad (pvA dm) (aE (aL bt (pvA cr) ao (fun _ _=>rfl)) ae)))) ae))))) aI)
  (af (bd (aP bW (pvA dX) bh (aO _)) (ai (aw (ak U46 (hr.mono (by omega)) (aZ (ak U27 (hr.mono (by omega)) (ad (pvA cK) (ad (pvA dm) (aE (aL bt (pvA cr) ao (fun _ _=>rfl)) ae)))) (aZ (ak U27 (hr.mono (by omega)) (ad (pvA cK) (ad (pvA dm) (aE (aL bt (pvA cr) ao (fun _ _=>rfl)) ae)))) ae))))) aI)
  (af (ay (i:=4) ic.nd rfl (M5 rfl) (ak U27 (hr.mono (by omega)) (ad (pvA cK) (ad (pvA dm) (aE (aL bt (pvA cr) ao (fun _ _=>rfl)) ae)))))
  (af (bd (aP bW (pvA dX) bh (aO _)) (ai (aw (ak U50 (hr.mono (by omega)) (aE (aL bi (pvA dm) (aL bt (pvA cr) ao (fun _ _=>rfl)) (fun _ _=>rfl)) (ad (pvA ma) ae))))) aI)
  (af (jy (i:=5) ic.nd rfl rfl (sc:=(ab bS)) (NX:=nj) (N:=["hand","views"]) (ix:=[none,some 1]) rfl (by walk_at "c") (oQ (aL bt (pvA cr) ao (fun _ _=>rfl))) (by intros; exact (aq (i:=0) (show (["hand","views"]:List Str).Nodup by decide +kernel) rfl (M5 rfl))) (by intros; exact bq) (by intros; exact (aL bi (pv 1) (pv 0) (fun _ _=>rfl))))
  (af (bd (aP bW (pvA dX) bh (aO _)) (ai (aw (ak U7 (hr.mono (by omega)) (ad (pvA qO) (ad (pvA ma) ae))))) aI)
  (ai (aw (ak U50 (hr.mono (by omega)) (aZ (ak U48 (hr.mono (by omega)) (aZ (aG bj rfl B.len OP (ad (pvA cK) ae)) (ad (pvA qO) ae))) (ad (pvA ma) ae))))))))))))))),BE h⟩
theorem KQ (D:Def K mg "both" nv eV f fd) (B:Blt mg):AT P w K mg base 1:=by
 refine D.ok KJ (by walk_at "l") fun _ _ _ _ _ _ _ _ hr h=>?_
 exact ⟨wE K,(ai (aw (bo (sc:=(ab nv)) (NX:=eV) (N:=ul) (ix:=[none,none]) rfl (by walk_at "c") (iU aQ aQ rfl B.zip (ad (pvA Jl) (ad (pvA Jm) ae))) (by intros; exact (cH rfl (aN (aq (i:=0) (show (ul:List Str).Nodup by decide +kernel) rfl (M5 rfl)) (aN (aq (i:=1) (show (ul:List Str).Nodup by decide +kernel) rfl (M5 rfl)) b7)))) (by intros; exact bq) (by intros; exact (jx (pv 0) (gX (pv 1))))))),Kh h⟩
theorem Hf (D:Def K mg "either" jp eV f fd) (B:Blt mg):Fa P w K mg base 1:=by
 refine D.ok G8 (by walk_at "l") fun _ _ _ _ _ _ _ _ hr h=>?_
 exact ⟨qj K,(ai (aw (bo (sc:=(ab jp)) (NX:=eV) (N:=ul) (ix:=[none,none]) rfl (by walk_at "c") (iU aQ aQ rfl B.zip (ad (pvA FA) (ad (pvA FB) ae))) (by intros; exact (cH rfl (aN (aq (i:=0) (show (ul:List Str).Nodup by decide +kernel) rfl (M5 rfl)) (aN (aq (i:=1) (show (ul:List Str).Nodup by decide +kernel) rfl (M5 rfl)) b7)))) (by intros; exact bq) (by intros; exact (Jq (pv 0) (gX (pv 1))))))),Gz h⟩
theorem Jp (D:Def K mg "known" gM xw f fd) (B:Blt mg):xJ P w K mg base 1:=by
 refine D.ok qF (by walk_at "l") fun _ _ _ _ _ _ _ _ hr h=>?_
 exact ⟨tS K,(af (ay (i:=2) qF.nd rfl (Pq rfl) (ax GI (cy (ar cf ae)) (aG bj rfl B.len OP (ad (pvA tj) ae))))
  (af (bL Nx rfl (iU aQ aQ rfl B.zip (ad (pvA tj) (ad (pvA G9) ae))) (cH rfl (aN (aq (i:=3) qF.nd rfl (M5 rfl)) (aN (aq (i:=4) qF.nd rfl (M5 rfl)) b7))) (ai (bd (bU (bG (pvA Hc))) (ai (gY cf (iS (pvA Ha) (pvA Hb) ji))) aI)))
  (ai (aw (bo (sc:=(ab gM)) (NX:=qz) (N:=["least","sure"]) (ix:=[none,some 2]) rfl (by walk_at "c") (bC (pvA tj)) (by intros; exact (aq (i:=0) (show (["least","sure"]:List Str).Nodup by decide +kernel) rfl (M5 rfl))) (by intros; exact bq) (by intros; exact (aL bi (pv 1) (pv 0) (fun _ _=>rfl)))))))),Io h⟩
theorem ya (D:Def K mg "known_to_all" cT xB f fd) (B:Blt mg) (U54:AT P w K mg base 1) (U50:xJ P w K mg base 1):Fb P w K mg base 2:=by
 refine D.ok gT (by walk_at "l") fun _ _ _ _ _ _ _ _ hr h=>?_
 exact ⟨ir K,(af (ay (i:=2) gT.nd rfl (M5 rfl) (ax GI (cy (ar cf ae)) (aG bj rfl B.len OP (ad (pvA ny) ae))))
  (af (bL Nx rfl (bC (pvA vH)) (aq (i:=3) gT.nd rfl (M5 rfl)) (ai (ay (i:=2) gT.nd rfl (M5 rfl) (ak U54 (rmD hr) (ad (pvA nA) (aZ (ak U50 (rmD hr) (ad (pvA vI) (ad (pvA ny) ae))) ae))))))
  (ai (aw (pvA nA))))),wF h⟩
theorem KR (D:Def K mg "seen" nC mH f fd) (B:Blt mg) (U50:xJ P w K mg base 1):Fc P w K mg base 2:=by
 refine D.ok KK (by walk_at "l") fun _ _ _ _ _ _ _ _ hr h=>?_
 have hu:=hr.units0
 exact ⟨wG K,(ai (aw (ak U50 (rmD hr) (ad (pvA Cq) (bE (bo (sc:=(ab nC)) (NX:=mH) (N:=ES) (ix:=[none,none,some 0]) rfl (by walk_at "c") (iU aQ aQ rfl B.zip (ad (pvA Jn) (ad (pvA Cq) ae))) (by intros; exact (cH rfl (aN (aq (i:=0) (show (ES:List Str).Nodup by decide +kernel) rfl (M5 rfl)) (aN (aq (i:=1) (show (ES:List Str).Nodup by decide +kernel) rfl (M5 rfl)) b7)))) (by intros; exact bq) (by intros; exact (eX (K9 hu) (pv 0) (aL bi (pv 2) (pv 1) (fun _ _=>rfl)) (aO _)))) ae))))),Ki h⟩
theorem vU (D:Def K mg "refuse_unless" fw qB f fd) (B:Blt mg):xK P w K mg base 1:=by
 refine D.ok vJ (by walk_at "l") fun _ _ _ _ _ _ _ _ hr h=>?_
 exact ⟨gS K,(ai (bd (bU (bG (pvA uB))) (ai pO) aI)),vz h⟩
theorem Cz (D:Def K mg "are_cards" gN oj f fd) (B:Blt mg) (U42:yJ P w K mg base 3):Fd P w K mg base 4:=by
 refine D.ok Cr (by walk_at "l") fun _ _ _ _ _ _ _ _ hr h=>?_
 exact ⟨lj K,(ai (aw (jx (aG da rfl B.isinstance Oe (ad (pvA qP) (ad (dR (v:=.ty "list") rfl B.list P4 rfl) ae))) (gX (aG (nM rfl) rfl B.all Vw (bE (bo (sc:=(ab gN)) (NX:=oj) (N:=["card","cards"]) (ix:=[none,some 1]) rfl (by walk_at "c") (bC (pvA qP)) (by intros; exact (aq (i:=0) (show (["card","cards"]:List Str).Nodup by decide +kernel) rfl (M5 rfl))) (by intros; exact bq) (by intros; exact (ak U42 (rmD hr) (ad (pv 0) (ad (pv 1) ae))))) ae)))))),BT h⟩
theorem Aq (D:Def K mg "least_held" dO qA f fd) (B:Blt mg):Fe P w K mg base 1:=by
 refine D.ok qQ (by walk_at "l") fun _ _ _ _ _ _ _ _ hr h=>?_
 exact ⟨jN K,(af (bL Nx rfl (bC (pvA yO)) (aq (i:=3) qQ.nd rfl (M5 rfl)) (ai (bd (aP bW (aL bt (pvA yM) (pvA pc) (fun _ _=>rfl)) (pvA yN) (aO _)) (ai (aw (pvA pc))) aI)))
  (ai (aw KZ))),zK h⟩
theorem CA (D:Def K mg "_law_cell" fH xj f fd) (B:Blt mg):uq P w K mg base 1:=by
 refine D.ok j3 (by walk_at "l") fun _ _ _ _ _ _ _ _ hr h=>?_
 exact ⟨kZ K,(af (bd (aP Js (pvA fc) (aG bj rfl B.len OP (ad (pvA gz) ae)) (aO _)) (ai (aw (aL bi (pvA gz) (pvA fc) (fun _ _=>rfl)))) aI)
  (af (ay (i:=2) j3.nd rfl (M5 rfl) (ax bN (ax fM (pvA fc) ao) ao))
  (af (bd (aP nL (aG bj rfl B.len OP (ad (pvA gz) ae)) ao (aO _)) (ai (ay (i:=2) j3.nd rfl (M5 rfl) (ax bN (ax fM (aL bi (pvA gz) (ax bV (ax fM (pvA fc) ao) (aG bj rfl B.len OP (ad (pvA gz) ae))) (fun _ _=>rfl)) ao) (ax fM (pvA fc) ao)))) aI)
  (af (ay (i:=2) j3.nd rfl (M5 rfl) (ax bV (ax fM (pvA jf) (pvA jf)) ao))
  (ai (aw (ax bV (ax fM (ax bN (pvA jf) (pvA fc)) (ax bN (pvA jf) ao)) ao))))))),BA h⟩
theorem yb (D:Def K mg "_law_product" dC xG f fd) (B:Blt mg):Ff P w K mg base 1:=by
 refine D.ok gU (by walk_at "l") fun _ _ _ _ _ _ _ _ hr h=>?_
 exact ⟨im K,(af (ay (i:=1) gU.nd rfl (M5 rfl) ao)
  (af (bL Nx rfl (cN rfl B.range (ad (pvA vK) ae)) (aq (i:=2) gU.nd rfl (M5 rfl)) (ai (ay (i:=1) gU.nd rfl (M5 rfl) (ax fM (pvA nD) (ax bN (pvA vL) ao)))))
  (ai (aw (pvA nD))))),wx h⟩
theorem Ar (D:Def K mg "_law_count" dP xn f fd) (B:Blt mg) (U5:Ff P w K mg base 1):Fh P w K mg base 2:=by
 refine D.ok jg (by walk_at "l") fun _ _ _ _ _ _ _ _ hr h=>?_
 exact ⟨jE K,(af (ay (i:=2) jg.nd rfl (M5 rfl) (ak U5 (rmD hr) (ad (pvA pi) ae)))
  (af (bL Nx rfl (bC (ax sf (pvA pj) (cy (aX (ax iT (pvA pi) (aG (lz rfl) rfl B.sum T5 (ad (pvA pj) ae))) ae)))) (aq (i:=3) jg.nd rfl (M5 rfl)) (ai (ay (i:=2) jg.nd rfl (M5 rfl) (ax cD (pvA pA) (ak U5 (rmD hr) (ad (pvA yP) ae))))))
  (ai (aw (pvA pA))))),zF h⟩
theorem CB (D:Def K mg "_law_pack" cW xh f fd) (B:Blt mg) (U36:uq P w K mg base 1) (U19:Fh P w K mg base 2):Fi P w K mg base 3:=by
 refine D.ok fT (by walk_at "l") fun _ _ _ _ _ _ _ _ hr h=>?_
 exact ⟨lh K,(af (ay (i:=3) fT.nd rfl (M5 rfl) (ax bV (ak U36 (rmD hr) (ad (pvA gA) (ad (pvA gB) ae))) ao))
  (af (bd (aP bW (ax bV (ax cD (ak U36 (rmD hr) (ad (pvA gA) (ad (pvA gB) ae))) ao) ao) ao (aO _)) (ai (ay (i:=3) fT.nd rfl (M5 rfl) (ax bN ao (ax bV (ax cD (ak U36 (rmD hr) (ad (pvA gA) (ad (pvA gB) ae))) ao) ao)))) aI)
  (af (ay (i:=4) fT.nd rfl (M5 rfl) (cy ae))
  (af (bL Nx rfl (cN rfl B.range (aX (ax bN ao (ax bV (ak U36 (rmD hr) (ad (pvA gA) (aX (ax bN (pvA gB) ao) ae))) ao)) ae)) (aq (i:=5) fT.nd rfl (M5 rfl)) (ai (cx (mq N0 OH OI fX (pvA cu) (aX (ax bV (ak U36 (rmD hr) (ad (pvA gA) (aX (ax bN (ax bN (pvA gB) ao) (pvA Ac)) ae))) (ax bN (aG (zc rfl) rfl B.min boot_min (ar ao (aX (ax iT (pvA gC) (aG (lz rfl) rfl B.sum T5 (ad (pvA cu) ae))) ae))) ao)) ae)))))
  (af (pP Nx (aP nL (ak U19 (rmD hr) (ad (pvA gC) (ad (pvA cu) ae))) (pvA Ab) (aO _)) (af (bd (aP nL (aG (rM rfl) rfl B.max Vx (ad (pvA cu) ae)) (ax iT (pvA gC) (aG (lz rfl) rfl B.sum T5 (ad (pvA cu) ae))) (aO _)) (ai (gY (ax iT (aG (rM rfl) rfl B.max Vx (ad (pvA cu) ae)) ao) (iS (pvA cu) (mq N0 SS PySem.F.type_list_index Hx (pvA cu) (aZ (aG (rM rfl) rfl B.max Vx (ad (pvA cu) ae)) ae)) ji))) aI)
  (ai (ay (i:=3) fT.nd rfl (M5 rfl) (ax iT (pvA gC) ao)))))
  (ai (aw (ck (ad (pvA gC) (ad (pvA cu) ae)))))))))),BL h⟩
theorem As (D:Def K mg "_law_least" dg xF f fd) (B:Blt mg):AU P w K mg base 1:=by
 refine D.ok gD (by walk_at "l") fun _ _ _ _ _ _ _ _ hr h=>?_
 have hux:=hr.units64
 exact ⟨jF K,(af (ay (i:=1) gD.nd rfl (M5 rfl) qo)
  (af (ay (i:=2) gD.nd rfl (M5 rfl) (cy ae))
  (af (bL Nx rfl (gI aQ rfl B.enumerate (by decide) (ad (pvA yQ) ae)) (cH rfl (aN (aq (i:=3) gD.nd rfl (M5 rfl)) (aN (aq (i:=4) gD.nd rfl (M5 rfl)) b7))) (af (bd (aP (su hux) (pvA kJ) (pvA kI) rfl) (ai (gY (pvA yR) (iS (pvA kI) (pvA kJ) (EF hux)))) aI)
  (ai (cx (mq N0 OH OI fX (pvA pB) (aE (DI hux (pvA kI) (pvA kJ) (fun _ _=>rfl)) ae))))))
  (ai (aw (pvA pB)))))),zG h⟩
theorem yZ (D:Def K mg "_law_wholes" ff ou f fd) (B:Blt mg):Fj P w K mg base 1:=by
 refine D.ok yS (by walk_at "l") fun _ _ _ _ _ _ _ _ hr h=>?_
 have hu:=hr.units0
 exact ⟨i5 K,(af (bd (bU (bG (aG da rfl B.isinstance Oe (ad (pvA ow) (ad (dR (v:=.ty "list") rfl B.list P4 rfl) ae))))) (ai (aw cf)) aI)
  (ai (aw (eX (Bf hu) (bo (sc:=(ab ff)) (NX:=ou) (N:=["_law_one"]) (ix:=[none]) rfl (by walk_at "c") (bC (pvA ow)) (by intros; exact (aq (i:=0) (show (["_law_one"]:List Str).Nodup by decide +kernel) rfl (M5 rfl))) (by intros; exact (kl (PW.pt (mj (bU (bG (aG da rfl B.isinstance Oe (ad (pv 0) (ad (dR (v:=.ty "int") rfl B.int Vv rfl) ae))))) (jw (bG (aG da rfl B.isinstance Oe (ad (pv 0) (ad (dR (v:=.ty "bool") rfl B.bool V0 rfl) ae))))))))) (by intros; exact (pv 0))) (cy ae) (aO _))))),yr h⟩
theorem rn (D:Def K mg "_law_truths_told" cn mF f fd) (B:Blt mg):Fk P w K mg base 1:=by
 refine D.ok rl (by walk_at "l") fun _ _ _ _ _ _ _ _ hr h=>?_
 have hu:=hr.units0
 have hux:=hr.units64
 exact ⟨fo K,(af (bd (PW.pt (mj (bU (bG (aG da rfl B.isinstance Oe (ad (pvA gk) (ad (dR (v:=.ty "list") rfl B.list P4 rfl) ae))))) (jw (aP (Cd hux) (pvA gk) (pvA qG) (aO _))))) (ai (aw cf)) aI)
  (ai (aw (eX (Bf hu) (bo (sc:=(ab cn)) (NX:=mF) (N:=uo) (ix:=[none]) rfl (by walk_at "c") (bC (pvA gk)) (by intros; exact (aq (i:=0) (show (uo:List Str).Nodup by decide +kernel) rfl (M5 rfl))) (by intros; exact (kl (bU (bG (aG da rfl B.isinstance Oe (ad (pv 0) (ad (dR (v:=.ty "bool") rfl B.bool V0 rfl) ae))))))) (by intros; exact (pv 0))) (cy ae) (aO _))))),rg h⟩
theorem rf (D:Def K mg "_law_words" eM uk f fd) (B:Blt mg):∀ n,FnB P w K mg base (1 + n) "_law_words" uk (fb K n)
 | 0=>D.ok (k:=0) gE (fun vs H Q E h=>(qJ h).elim) (fun cdv A outer s H vs Q E hr h=>(qJ h).elim)
 | n + 1=>by
  have U20:=rf D B n
  refine D.ok (k:=1 + n) gE (by walk_at "l") fun _ _ _ _ _ _ _ _ hr h=>?_
  have hu:=hr.units0
  exact ⟨jM K n,(af (ay (i:=1) gE.nd rfl (M5 rfl) ao)
  (af (bL Nx rfl (oQ (vb BM (pvA yT) (yi ao) yh)) (aq (i:=2) gE.nd rfl (M5 rfl)) (ai (bd (PW.pt (A1 (bG (aG da rfl B.isinstance Oe (ad (pvA iG) (ad (dR (v:=.ty "tuple") rfl B.tuple QS rfl) ae)))) (A1 (aP (F5 hu) (pvA iG) (ck ae) (aO _)) (Dd (bG (aG da rfl B.isinstance Oe (aE (aL bt (pvA iG) ao (fun _ _=>rfl)) (ad (dR (v:=.ty "str") rfl B.str boot_str rfl) ae)))))))) (ai (ay (i:=1) gE.nd rfl (M5 rfl) (ax bN (pvA pD) (ak U20 (hr.mono (by omega)) (ad (pvA iG) ae))))) aI)))
  (ai (aw (pvA pD))))),zJ h⟩
theorem At (D:Def K mg "_law_group" fU og f fd) (B:Blt mg):AV P w K mg base 1:=by
 refine D.ok Ad (by walk_at "l") fun _ _ _ _ _ _ _ _ hr h=>?_
 exact ⟨jL K,(ai (aw (cO vx rfl B.tuple QS (bE (bo (sc:=(ab fU)) (NX:=og) (N:=["_law_hand","_law_number"]) (ix:=[none,some 0]) rfl (by walk_at "c") (cN rfl B.range (ad (pvA yU) ae)) (by intros; exact (aq (i:=0) (show (["_law_hand","_law_number"]:List Str).Nodup by decide +kernel) rfl (M5 rfl))) (by intros; exact (kl (aP bW (ax bV (ax cD (pv 1) (aL bi (cy (ar ao (ar ao (ar ao (ar ao (ar ao ae)))))) (pv 0) (fun _ _=>rfl))) ao) ao (aO _)))) (by intros; exact (pv 0))) ae)))),zI h⟩
theorem CC (D:Def K mg "_law_pool" cI xc f fd) (B:Blt mg) (U36:uq P w K mg base 1):Fl P w K mg base 2:=by
 refine D.ok j4 (by walk_at "l") fun _ _ _ _ _ _ _ _ hr h=>?_
 exact ⟨li K,(af (ay (i:=4) j4.nd rfl (M5 rfl) (cy (bF (ck (ar bh (aX (ax bV (ak U36 (rmD hr) (ad (pvA qR) (ad (pvA qS) ae))) (pvA qU)) ae))) ae)))
  (af (bL Nx rfl (cN rfl B.range (aX (ax fM ao (cO zd rfl B.int Vv (uP (eX nL (pvA qT) ao (aO _)) ae))) ae)) (aq (i:=5) j4.nd rfl (M5 rfl)) (af (ay (i:=6) j4.nd rfl (M5 rfl) (ak U36 (rmD hr) (ad (pvA qR) (aX (ax bN (ax bN (pvA qS) ao) (pvA Ae)) ae))))
  (ai (cx (mq N0 OH OI fX (pvA qV) (bF (ck (ar bh (aX (ax bV (pvA qW) (ax bN (pvA qU) ao)) (aX (ax bV (ax cD (pvA qW) ao) (pvA qT)) ae)))) ae))))))
  (ai (aw (pvA qV))))),BR h⟩
theorem y6 (D:Def K mg "_law_saying" bw xa f fd) (B:Blt mg) (U36:uq P w K mg base 1) (U16:AV P w K mg base 1) (U26:Fl P w K mg base 2) (U20:JJ P w K mg base 71):Fm P w K mg base 72:=by
 refine D.ok bP (by walk_at "l") fun _ _ _ _ _ _ _ _ hr h=>?_
 exact ⟨i7 K,(af (ay (i:=5) bP.nd rfl (M5 rfl) (ak U26 (rmD hr) (ad (pvA j5) (ad (pvA j6) (ad (pvA xN) (ad (pvA cC) ae))))))
  (af (bL Nx rfl (cN rfl B.range (aX (ax bV (ak U36 (rmD hr) (ad (pvA j5) (aX (ax bN (pvA j6) ao) ae))) ao) ae)) (aq (i:=6) bP.nd rfl (M5 rfl)) (af (ay (i:=7) bP.nd rfl (M5 rfl) (ak U36 (rmD hr) (ad (pvA j5) (aX (ax bN (ax bN (pvA j6) ao) (pvA xP)) ae))))
  (af (ay (i:=8) bP.nd rfl (M5 rfl) (aL bi (pvA fz) (DX A4 ao) (fun _ _=>rfl)))
  (af (ay (i:=9) bP.nd rfl (M5 rfl) (aL bi (pvA fz) (ax bV (ax cD (pvA bT) ao) (aG bj rfl B.len OP (ad (pvA fz) ae))) (fun _ _=>rfl)))
  (af (ay (i:=10) bP.nd rfl (M5 rfl) (cy (bF (ck (ar bh (ad (pvA ce) ae))) (bF (ck (ar bh (ad (pvA ce) (ad (pvA dh) ae)))) (bF (ck (ar bh (ad (pvA dh) (ad (pvA ce) ae)))) (bF (ck (ar bh (ad (pvA dh) ae))) ae))))))
  (af (ay (i:=10) bP.nd rfl (M5 rfl) (ax sf (pvA dD) (cy (bF (ck (ar bh (aX (ax bV (ax cD (pvA bT) ao) (pvA cC)) (ad (pvA ce) ae)))) (bF (ck (ar bh (aX (ax bV (ax cD (pvA bT) ao) (pvA cC)) (bF (ck (ar bh (ad (pvA ce) ae))) ae)))) ae)))))
  (af (ay (i:=10) bP.nd rfl (M5 rfl) (ax sf (pvA dD) (cy (bF (ck (ar bh (aZ (ak U16 (rmD hr) (aX (ax cD (pvA bT) ao) (ad (pvA cC) ae))) (ad (pvA ce) ae)))) (bF (ck (ar bh (aZ (ak U16 (rmD hr) (aX (ax cD (pvA bT) ao) (ad (pvA cC) ae))) (ad (pvA dh) ae)))) ae)))))
  (af (ay (i:=10) bP.nd rfl (M5 rfl) (ax sf (pvA dD) (cy (bF (ck (ar bh (aZ (ak U16 (rmD hr) (aX (ax cD (pvA bT) ao) (ad (pvA cC) ae))) (ad (pvA ce) ae)))) (bF (ck (ar bh (aX (ax bV (ax cD (pvA bT) ao) (pvA cC)) (ad (pvA dh) ae)))) ae)))))
  (af (ay (i:=10) bP.nd rfl (M5 rfl) (ax sf (pvA dD) (cy (bF (ck (ar bh (ad (pvA dh) (bF (ck (ar bh (ad (pvA ce) ae))) ae)))) (bF (ck (ar bh (ad (pvA ce) (bF (ck (ar bh (aX (ax bV (ax cD (pvA bT) ao) (pvA cC)) (ad (pvA dh) ae)))) ae)))) ae)))))
  (ai (bd (aP Az (ak U20 (rmD hr) (aE (aL bi (pvA dD) (ax bV (pvA bT) ao) (fun _ _=>rfl)) ae)) (pvA xO) (aO _)) (ai (cx (mq N0 OH OI fX (pvA fz) (aE (aL bi (pvA dD) (ax bV (pvA bT) ao) (fun _ _=>rfl)) ae)))) aI)))))))))))
  (ai (aw (aL bi (pvA fz) (DX A4 ao) (fun _ _=>rfl)))))),yx h⟩
theorem CD (D:Def K mg "_law_kept" cX xl f fd) (B:Blt mg):AW P w K mg base 1:=by
 refine D.ok j7 (by walk_at "l") fun _ _ _ _ _ _ _ _ hr h=>?_
 have hux:=hr.units64
 exact ⟨ll K,(af (ay (i:=2) j7.nd rfl (Pq rfl) qo)
  (af (bL Nx rfl (gI aQ rfl B.enumerate (by decide) (ad (pvA Af) ae)) (cH rfl (aN (aq (i:=3) j7.nd rfl (M5 rfl)) (aN (aq (i:=4) j7.nd rfl (M5 rfl)) b7))) (ai (bd (bU (bG (pvA Ai))) (ai (gY cf (iS (pvA Ag) (aL bi (pvA qX) (pvA Ah) (fun _ _=>rfl)) (EF hux)))) aI)))
  (ai (aw (bo (sc:=(ab cX)) (NX:=qw) (N:=AM) (ix:=[none,some 2]) rfl (by walk_at "c") (bC (pvA qX)) (by intros; exact (aq (i:=0) (show (AM:List Str).Nodup by decide +kernel) rfl (M5 rfl))) (by intros; exact bq) (by intros; exact (eX (su hux) (pv 0) (pv 1) rfl))))))),B8 h⟩
theorem CG (D:Def K mg "_law_each" cJ oP f fd) (B:Blt mg) (U34:AW P w K mg base 1):AX P w K mg base 2:=by
 refine D.ok j8 (by walk_at "l") fun _ _ _ _ _ _ _ _ hr h=>?_
 exact ⟨lm K,(af (jy (i:=3) j8.nd rfl rfl (sc:=(ab cJ)) (NX:=sG) (N:=uo) (ix:=[none]) rfl (by walk_at "c") (bC (pvA qY)) (by intros; exact (aq (i:=0) (show (uo:List Str).Nodup by decide +kernel) rfl (M5 rfl))) (by intros; exact bq) (by intros; exact cf))
  (af (bL Nx rfl (oQ (pvA Ak)) (aq (i:=4) j8.nd rfl (M5 rfl)) (ai (jy (i:=3) j8.nd rfl rfl (sc:=(ab cJ)) (NX:=sG) (N:=jd) (ix:=[none,none]) rfl (by walk_at "c") (iU aQ aQ rfl B.zip (ad (pvA qZ) (aZ (ak U34 (rmD hr) (aE (aL bi (pvA Aj) (pvA Al) (fun _ _=>rfl)) (ad (pvA qY) ae))) ae))) (by intros; exact (cH rfl (aN (aq (i:=0) (show (jd:List Str).Nodup by decide +kernel) rfl (M5 rfl)) (aN (aq (i:=1) (show (jd:List Str).Nodup by decide +kernel) rfl (M5 rfl)) b7)))) (by intros; exact bq) (by intros; exact (jx (pv 0) (gX (pv 1)))))))
  (ai (aw (pvA qZ))))),B9 h⟩
theorem y7 (D:Def K mg "_law_shared" cv oP f fd) (B:Blt mg) (U30:AX P w K mg base 2):Fn P w K mg base 3:=by
 refine D.ok iH (by walk_at "l") fun _ _ _ _ _ _ _ _ hr h=>?_
 have hu:=hr.units0
 exact ⟨jb K,(af (ay (i:=3) iH.nd rfl (M5 rfl) (cO o0 rfl B.list P4 (ad (pvA xS) ae)))
  (ai (pP Nx (bG cf) (af (jy (i:=4) iH.nd rfl rfl (sc:=(ab cv)) (NX:=qu) (N:=jd) (ix:=[none,none]) rfl (by walk_at "c") (iU aQ aQ rfl B.zip (ad (pvA gW) (aZ (ak U30 (rmD hr) (ad (pvA xQ) (ad (pvA xR) (ad (pvA gW) ae)))) ae))) (by intros; exact (cH rfl (aN (aq (i:=0) (show (jd:List Str).Nodup by decide +kernel) rfl (M5 rfl)) (aN (aq (i:=1) (show (jd:List Str).Nodup by decide +kernel) rfl (M5 rfl)) b7)))) (by intros; exact bq) (by intros; exact (jx (pv 0) (gX (pv 1)))))
  (af (bd (aP (Bf hu) (pvA ox) (pvA gW) (aO _)) (ai (aw (pvA gW))) aI)
  (ai (ay (i:=3) iH.nd rfl (M5 rfl) (pvA ox)))))))),yC h⟩
theorem yc (D:Def K mg "_law_sighted" bJ xf f fd) (B:Blt mg):Fo P w K mg base 1:=by
 refine D.ok fA (by walk_at "l") fun _ _ _ _ _ _ _ _ hr h=>?_
 have hu:=hr.units0
 have hux:=hr.units64
 exact ⟨iB K,(af (jy (i:=3) fA.nd rfl rfl (sc:=(ab bJ)) (NX:=qt) (N:=ET) (ix:=[none,some 2]) rfl (by walk_at "c") (bC (pvA vM)) (by intros; exact (aq (i:=0) (show (ET:List Str).Nodup by decide +kernel) rfl (M5 rfl))) (by intros; exact bq) (by intros; exact (cO vx rfl B.tuple QS (bE (bo (sc:=_) (hsc:=rfl) (NX:=ET) (N:=EO) (ix:=[none,none,some 1]) rfl (by walk_at "e") (gI ek rfl B.enumerate (by decide) (ad (pv 0) ae)) (by intros; exact (cH rfl (aN (aq (i:=0) (show (EO:List Str).Nodup by decide +kernel) rfl (M5 rfl)) (aN (aq (i:=1) (show (EO:List Str).Nodup by decide +kernel) rfl (M5 rfl)) b7)))) (by intros; exact (kl (aP bW (pv 1) (pv 2) (aO _)))) (by intros; exact (pv 0))) ae))))
  (af (ay (i:=4) fA.nd rfl (Pq rfl) qo)
  (af (bL Nx rfl (gI aQ rfl B.enumerate (by decide) (ad (pvA nE) ae)) (cH rfl (aN (aq (i:=5) fA.nd rfl (M5 rfl)) (aN (aq (i:=6) fA.nd rfl (M5 rfl)) b7))) (ai (bd (aP (F5 hu) (aL bi (pvA nG) (pvA vO) (fun _ _=>rfl)) (aL bi (pvA nG) (pvA nH) (fun _ _=>rfl)) (aO _)) (ai (gY cf (iS (pvA vN) (pvA nH) (EF hux)))) aI)))
  (ai (aw (bo (sc:=(ab bJ)) (NX:=qt) (N:=AM) (ix:=[none,some 4]) rfl (by walk_at "c") (bC (pvA nE)) (by intros; exact (aq (i:=0) (show (AM:List Str).Nodup by decide +kernel) rfl (M5 rfl))) (by intros; exact bq) (by intros; exact (eX (su hux) (pv 0) (pv 1) rfl)))))))),wU h⟩
theorem tw (D:Def K mg "_law_read" b8 t9 f fd) (B:Blt mg) (U30:AX P w K mg base 2) (U34:AW P w K mg base 1) (U14:Fn P w K mg base 3) (U8:Fo P w K mg base 1):∀ n,FnB P w K mg base (4 + n) "_law_read" t9 (de K n)
 | 0=>D.ok (k:=3) j9 (fun vs H Q E h=>(sr h).elim) (fun cdv A outer s H vs Q E hr h=>(sr h).elim)
 | n + 1=>by
  have U35:=tw D B U30 U34 U14 U8 n
  refine D.ok (k:=4 + n) j9 (by walk_at "l") fun _ _ _ _ _ _ _ _ hr h=>?_
  exact ⟨ln K n,(af (bd (aP bW (aL bt (pvA bK) ao (fun _ _=>rfl)) bh (aO _)) (ai (aw (bo (sc:=(ab b8)) (NX:=oO) (N:=["_law_deal","_law_saying_here"]) (ix:=[none,some 2]) rfl (by walk_at "c") (bC (pvA jh)) (by intros; exact (aq (i:=0) (show (["_law_deal","_law_saying_here"]:List Str).Nodup by decide +kernel) rfl (M5 rfl))) (by intros; exact bq) (by intros; exact (eX bW (aL bt (pv 0) (aL bt (pv 1) ao (fun _ _=>rfl)) (fun _ _=>rfl)) (aL bt (pv 1) ao (fun _ _=>rfl)) (aO _)))))) aI)
  (af (bd (aP bW (aL bt (pvA bK) ao (fun _ _=>rfl)) bh (aO _)) (ai (aw (ak U8 (hr.mono (by omega)) (ad (pvA jh) (aE (aL bi (pvA dY) (aL bt (pvA bK) ao (fun _ _=>rfl)) (fun _ _=>rfl)) (aZ (aG bj rfl B.len OP (ad (pvA dY) ae)) ae)))))) aI)
  (af (ay (i:=3) j9.nd rfl (M5 rfl) (ak U35 (hr.mono (by omega)) (ad (pvA jh) (ad (pvA dY) (aE (aL bt (pvA bK) (DX A4 ao) (fun _ _=>rfl)) ae)))))
  (af (bd (aP bW (aL bt (pvA bK) ao (fun _ _=>rfl)) bh (aO _)) (ai (aw (bo (sc:=(ab b8)) (NX:=oO) (N:=uo) (ix:=[none]) rfl (by walk_at "c") (bC (pvA fg)) (by intros; exact (aq (i:=0) (show (uo:List Str).Nodup by decide +kernel) rfl (M5 rfl))) (by intros; exact bq) (by intros; exact (A2 (pv 0)))))) aI)
  (af (bd (aP bW (aL bt (pvA bK) ao (fun _ _=>rfl)) bh (aO _)) (ai (aw (ak U34 (hr.mono (by omega)) (aE (aL bi (pvA dY) (aL bt (pvA bK) ao (fun _ _=>rfl)) (fun _ _=>rfl)) (ad (pvA fg) ae))))) aI)
  (af (bd (aP bW (aL bt (pvA bK) ao (fun _ _=>rfl)) bh (aO _)) (ai (aw (ak U30 (hr.mono (by omega)) (ad (pvA dY) (aE (aL bt (pvA bK) ao (fun _ _=>rfl)) (ad (pvA fg) ae)))))) aI)
  (af (bd (aP bW (aL bt (pvA bK) ao (fun _ _=>rfl)) bh (aO _)) (ai (aw (ak U14 (hr.mono (by omega)) (ad (pvA dY) (aE (aL bt (pvA bK) ao (fun _ _=>rfl)) (ad (pvA fg) ae)))))) aI)
  (af (ay (i:=4) j9.nd rfl (M5 rfl) (ak U35 (hr.mono (by omega)) (ad (pvA jh) (ad (pvA dY) (aE (aL bt (pvA bK) ao (fun _ _=>rfl)) ae)))))
  (af (bd (aP bW (aL bt (pvA bK) ao (fun _ _=>rfl)) bh (aO _)) (ai (aw (bo (sc:=(ab b8)) (NX:=oO) (N:=jd) (ix:=[none,none]) rfl (by walk_at "c") (iU aQ aQ rfl B.zip (ad (pvA rc) (ad (pvA fg) ae))) (by intros; exact (cH rfl (aN (aq (i:=0) (show (jd:List Str).Nodup by decide +kernel) rfl (M5 rfl)) (aN (aq (i:=1) (show (jd:List Str).Nodup by decide +kernel) rfl (M5 rfl)) b7)))) (by intros; exact bq) (by intros; exact (jx (pv 0) (gX (pv 1))))))) aI)
  (ai (aw (bo (sc:=(ab b8)) (NX:=oO) (N:=jd) (ix:=[none,none]) rfl (by walk_at "c") (iU aQ aQ rfl B.zip (ad (pvA rc) (ad (pvA fg) ae))) (by intros; exact (cH rfl (aN (aq (i:=0) (show (jd:List Str).Nodup by decide +kernel) rfl (M5 rfl)) (aN (aq (i:=1) (show (jd:List Str).Nodup by decide +kernel) rfl (M5 rfl)) b7)))) (by intros; exact bq) (by intros; exact (Jq (pv 0) (gX (pv 1)))))))))))))))),Cb h⟩
theorem y8 (D:Def K mg "_law_viewed" cL xo f fd) (B:Blt mg) {G:GF} (T:fk P w K mg G) (U17:Jd P w K mg base G 4) (U15:Fj P w K mg base 1):Fp P w K mg base G 5:=by
 refine D.ok iI (by walk_at "l") fun _ _ _ _ _ _ _ _ hr h=>?_
 have hux:=hr.units64
 exact ⟨ja K G,(af (bL Nx rfl (gI aQ rfl B.enumerate (by decide) (ad (pvA xU) ae)) (cH rfl (aN (aq (i:=2) iI.nd rfl (M5 rfl)) (aN (aq (i:=3) iI.nd rfl (M5 rfl)) b7))) (af (ay (i:=4) iI.nd rfl (M5 rfl) (gi U17 (rmD hr) T.cl_Table (pvA xT) (ad (pvA xV) ae)))
  (af (bd (PW.pt (mj (bU (bG (ak U15 (rmD hr) (ad (pvA ka) ae)))) (jw (aP (Cd hux) (pvA ka) (pvA xW) (aO _))))) (ai (aw cf)) aI)
  (ai (cx (FV N0 SY SZ Bd (pvA ka)))))))
  (ai (aw cf))),yB h⟩
theorem yd (D:Def K mg "_law_show_on" bv w9 f fd) (B:Blt mg) {G:GF} (T:fk P w K mg G) (U23:Je P w K mg base G 5) (U25:AU P w K mg base 1):Fq P w K mg base G 6:=by
 refine D.ok fB (by walk_at "l") fun _ _ _ _ _ _ _ _ hr h=>?_
 exact ⟨iC K G,(af (ay (i:=5) fB.nd rfl (Pq rfl) (ax bV (pvA jr) (pvA nI)))
  (af (ay (i:=6) fB.nd rfl (Pq rfl) (ax bV (ax cD (pvA jr) ao) (ax bN (pvA nI) ao)))
  (af (ay (i:=7) fB.nd rfl (Pq rfl) (ax bV (ax cD (pvA jr) ao) (aG bj rfl B.len OP (aE (aL bi (pvA jq) ao (fun _ _=>rfl)) ae))))
  (af (cx (gi U23 (rmD hr) T.cl_Table (pvA vP) (ad (pvA nJ) (ad (pvA vR) (Iv (cy (ad (pvA vS) ae)) ae)))))
  (af (ay (i:=8) fB.nd rfl (Pq rfl) (bo (sc:=(ab bv)) (NX:=ni) (N:=JI) (ix:=[none,some 6,some 7]) rfl (by walk_at "c") (bC (pvA jq)) (by intros; exact (aq (i:=0) (show (JI:List Str).Nodup by decide +kernel) rfl (M5 rfl))) (by intros; exact bq) (by intros; exact (eX bW (aL bt (pv 0) (pv 2) (fun _ _=>rfl)) (pv 1) (aO _)))))
  (ai (gY (ak U25 (rmD hr) (bE (bo (sc:=(ab bv)) (NX:=ni) (N:=JG) (ix:=[none,some 8,some 2,some 5]) rfl (by walk_at "c") (cN rfl B.range (aZ (aG bj rfl B.len OP (ad (pvA jq) ae)) ae)) (by intros; exact (aq (i:=0) (show (JG:List Str).Nodup by decide +kernel) rfl (M5 rfl))) (by intros; exact bq) (by intros; exact (ck (aE (aL bi (aL bi (pv 2) (pv 3) (fun _ _=>rfl)) (pv 0) (fun _ _=>rfl)) (aE (aL bi (pv 1) (pv 0) (fun _ _=>rfl)) ae))))) ae)) (iS (pvA vQ) (pvA nJ) ji)))))))),wV h⟩
theorem LX (D:Def K mg "law" d7 um f fd) (B:Blt mg) {G:GF} (T:fk P w K mg G) (U10:Jf P w K mg base G 1) (U22:FnI P w K mg base 6 G.Table jc (gy K G)) (U9:Fr P w K mg base G 40) (U24:Jg P w K mg base G 41) (U36:uq P w K mg base 1) (U16:AV P w K mg base 1) (U25:AU P w K mg base 1) (U28:Fi P w K mg base 3) (U35:JK P w K mg base 39) (U12:Fm P w K mg base 72) (U6:Fq P w K mg base G 6) (U0:Fk P w K mg base 1) (U11:Fp P w K mg base G 5) (U38:EY P w K mg base 5):iM P w K mg base CX0 73 f fd um (we K):=by
 refine D.fn.ok fC (by walk_at "l") fun _ _ _ _ _ _ _ _ hr h=>?_
 have hux:=hr.units64
 exact ⟨AH K G,(af (gY (ak U28 (rmD hr) (ad (pvA kK) (ar ao (aE (aL bi (cy (ar ao (ar ao ae))) (cO zd rfl B.int Vv (uP (eX bW (ax bV (ak U36 (rmD hr) (ad (pvA kK) (ar ao ae))) ao) ao (aO _)) ae)) (fun _ _=>rfl)) ae)))) (cH rfl (aN (aq (i:=1) fC.nd rfl (M5 rfl)) (aN (aq (i:=2) fC.nd rfl (M5 rfl)) b7))))
  (af (ay (i:=3) fC.nd rfl (M5 rfl) (aG bj rfl B.len OP (ad (pvA yV) ae)))
  (af (ay (i:=4) fC.nd rfl (M5 rfl) (ak U38 (rmD hr) (ad (pvA ur) (ad (pvA yV) ae))))
  (af (ay (i:=5) fC.nd rfl (Pq rfl) (cy ae))
  (af (bL Nx rfl (cN rfl B.range (ad (pvA ut) ae)) (aq (i:=6) fC.nd rfl (Pq rfl)) (ai (cx (mq N0 OH OI fX (pvA iJ) (aZ (ak U25 (rmD hr) (bE (bo (sc:=(ab d7)) (NX:=iQ) (N:=EU) (ix:=[none,some 6]) rfl (by walk_at "c") (bC (pvA kL)) (by intros; exact (aq (i:=0) (show (EU:List Str).Nodup by decide +kernel) rfl (M5 rfl))) (by intros; exact bq) (by intros; exact (cO vx rfl B.tuple QS (bE (bo (sc:=_) (hsc:=rfl) (NX:=EU) (N:=EQ) (ix:=[none,none,some 1]) rfl (by walk_at "e") (gI ek rfl B.enumerate (by decide) (ad (pv 0) ae)) (by intros; exact (cH rfl (aN (aq (i:=0) (show (EQ:List Str).Nodup by decide +kernel) rfl (M5 rfl)) (aN (aq (i:=1) (show (EQ:List Str).Nodup by decide +kernel) rfl (M5 rfl)) b7)))) (by intros; exact (kl (aP bW (pv 1) (pv 2) (aO _)))) (by intros; exact (pv 0))) ae)))) ae)) ae)))))
  (af (ay (i:=7) fC.nd rfl (M5 rfl) (Ix U22 (rmD hr) T.m_Table (ad (pvA ur) (ad (pvA yV) ae))))
  (af (bL Nx rfl (cN rfl B.range (aX (ax bV (ak U36 (rmD hr) (ad (pvA kK) (ar ao ae))) ao) ae)) (aq (i:=8) fC.nd rfl (M5 rfl)) (af (ay (i:=9) fC.nd rfl (M5 rfl) (ak U12 (rmD hr) (ad (pvA kK) (aX (ax bN ao (ax fM ao (pvA uu))) (ad (pvA ur) (ad (pvA ut) (ar ao ae)))))))
  (af (ay (i:=10) fC.nd rfl (M5 rfl) (ak U16 (rmD hr) (aX (ax cD (ak U36 (rmD hr) (ad (pvA kK) (ar ao ae))) (aL bi (cy (ar ao (ar ao (ar ao (ar ao ae))))) (pvA uu) (fun _ _=>rfl))) (ad (pvA ut) ae))))
  (af (ay (i:=11) fC.nd rfl (Pq rfl) (ak U35 (rmD hr) (ad (pvA kL) (ad (pvA iJ) (ad (pvA kM) ae)))))
  (af (bd (bU (bG (ak U0 (rmD hr) (aZ (gi U9 (rmD hr) T.cl_Table (pvA iK) (ad (pvA kM) ae)) (ad (pvA Ct) ae))))) (ai (aw cf)) aI)
  (af (ay (i:=12) fC.nd rfl (M5 rfl) (gi U24 (rmD hr) T.cl_Table (pvA iK) (ad (pvA Cs) (ad (pvA kM) ae))))
  (af (bd (bU (bG (ak U0 (rmD hr) (ad (pvA Cu) (ad (pvA Ct) ae))))) (ai (aw cf)) aI)
  (af (cx (FV N0 SY SZ Bd (pvA Cu)))
  (af (bL Nx rfl (oQ (pvA Cs)) (aq (i:=6) fC.nd rfl (Pq rfl)) (ai (gY (ak U25 (rmD hr) (bE (bo (sc:=(ab d7)) (NX:=iQ) (N:=JH) (ix:=[none,some 11,some 5,some 6]) rfl (by walk_at "c") (cN rfl B.range (aZ (aG bj rfl B.len OP (ad (pvA kL) ae)) ae)) (by intros; exact (aq (i:=0) (show (JH:List Str).Nodup by decide +kernel) rfl (M5 rfl))) (by intros; exact bq) (by intros; exact (ck (aE (aL bi (aL bi (pv 2) (pv 3) (fun _ _=>rfl)) (pv 0) (fun _ _=>rfl)) (aE (aL bi (pv 1) (pv 0) (fun _ _=>rfl)) ae))))) ae)) (iS (pvA iJ) (pvA KL) ji))))
  (af (bd (PW.pt (mj (bU (bG (ak U11 (rmD hr) (ad (pvA iK) (ad (pvA iJ) ae))))) (jw (bU (bG (ak U11 (rmD hr) (ad (pvA iK) (ad (pvA iJ) ae)))))))) (ai (aw cf)) aI)
  (af (bd (bU (bG (ak U0 (rmD hr) (aZ (gi U9 (rmD hr) T.cl_Table (pvA iK) (ad (pvA kM) ae)) (aZ (ak U35 (rmD hr) (ad (pvA kL) (ad (pvA iJ) (ad (pvA kM) ae)))) ae))))) (ai (aw cf)) aI)
  (ai (bd (PW.pt (A1 (aP nL (pvA ur) ao (aO _)) (Dd (aP bW (ax bV (ax cD (ak U36 (rmD hr) (ad (pvA kK) (ar ao ae))) (aL bi (cy (ar ao (ar ao (ar ao (ar ao ae))))) (pvA uu) (fun _ _=>rfl))) ao) ao (aO _))))) (af (cx (ak U6 (rmD hr) (ad (pvA iK) (ad (pvA kL) (ad (pvA iJ) (aZ (ak U36 (rmD hr) (ad (pvA kK) (aX (ax bN ao (pvA uu)) ae))) (ad (pvA ut) ae)))))))
  (ai (bd (bU (bG (ak U0 (rmD hr) (aZ (gi U9 (rmD hr) T.cl_Table (pvA iK) (ad (pvA kM) ae)) (aZ (ak U35 (rmD hr) (ad (pvA kL) (ad (pvA iJ) (ad (pvA kM) ae)))) ae))))) (ai (aw cf)) aI))) aI)))))))))))))
  (ai (aw (jx (ak U11 (rmD hr) (ad (pvA iK) (ad (pvA iJ) ae))) (gX (eX (IJ hux) (GK U10 (rmD hr) T.cl_Table (pvA iK)) (pvA kL) (aO _))))))))))))),LT h⟩
theorem Au {G:GF} (D:BO K G.Table "Table.__init__" dQ jc f fd) (B:Blt mg) (T:fk P w K mg G) (U38:EY P w K mg base 5) (U18:E6 P w K mg base 2):FnI P w K mg base 6 G.Table jc (gy K G):=by
 refine D.ok Am (by walk_at "l") fun _ _ _ _ _ _ _ _ hr h=>?_
 exact ⟨jO K G,(af (oR (pvA dE) (ak U38 (rmD hr) (ad (pvA pE) (ad (pvA kN) ae))) rfl)
  (af (oR (pvA dE) (pvA pE) rfl)
  (af (oR (pvA dE) (cO o0 rfl B.list P4 (ad (pvA kN) ae)) rfl)
  (af (oR (pvA dE) (aG bj rfl B.len OP (ad (pvA kN) ae)) rfl)
  (af (oR (pvA dE) (bo (sc:=(ab dQ)) (NX:=jc) (N:=["hand","self"]) (ix:=[none,some 0]) rfl (by walk_at "c") (cN rfl B.range (bY (dJ (pvA dE) rfl) ae)) (by intros; exact (aq (i:=0) (show (["hand","self"]:List Str).Nodup by decide +kernel) rfl (M5 rfl))) (by intros; exact bq) (by intros; exact (ak U18 (rmD hr) (bY (dJ (pv 1) rfl) (ad (pv 0) ae))))) rfl)
  (ai (oR (pvA dE) (cy ae) rfl))))))),zL T.ct h⟩
theorem y9 {G:GF} (D:jn K G.Table "deals" "Table.deals" gF ["self"] f fd) (B:Blt mg) (T:fk P w K mg G):Jf P w K mg base G 1:=by
 refine D.ok yW (by walk_at "l") fun _ _ _ _ _ _ _ _ hr h=>?_
 exact ⟨i8 K G,(ai (aw (cO o0 rfl B.list P4 (bY (dJ (pvA xX) rfl) ae)))),yy T.ct h⟩
theorem Av {G:GF} (D:jn K G.Table "view" "Table.view" fV oo f fd) (B:Blt mg) (T:fk P w K mg G) (U42:yJ P w K mg base 3) (U2:xK P w K mg base 1):Jd P w K mg base G 4:=by
 refine D.ok An (by walk_at "l") fun _ _ _ _ _ _ _ _ hr h=>?_
 exact ⟨jP K G,(af (cx (ak U2 (rmD hr) (aZ (ak U42 (rmD hr) (ad (pvA pG) (bY (dJ (pvA pF) rfl) ae))) (ar bh ae))))
  (ai (aw (cO o0 rfl B.list P4 (aE (aL bi (dJ (pvA pF) rfl) (pvA pG) (fun _ _=>rfl)) ae))))),zN T.ct h⟩
theorem Aw {G:GF} (D:jn K G.Table "word" "Table.word" eO mG f fd) (B:Blt mg) (T:fk P w K mg G) (U13:Fs P w K mg base G 3) (U9:Fr P w K mg base G 40) (U32:EX P w K mg base 3) (U2:xK P w K mg base 1):Jg P w K mg base G 41:=by
 refine D.ok Ao (by walk_at "l") fun _ _ _ _ _ _ _ _ hr h=>?_
 exact ⟨jQ K G,(af (cx (ak U2 (rmD hr) (aZ (ak U32 (rmD hr) (ad (pvA pH) (bY (dJ (pvA kO) rfl) ae))) (ar bh ae))))
  (ai (aw (gi U13 (rmD hr) T.cl_Table (pvA kO) (ad (pvA pH) (aZ (gi U9 (rmD hr) T.cl_Table (pvA kO) (ad (pvA yX) ae)) ae)))))),zP T.ct h⟩
theorem Ax {G:GF} (D:jn K G.Table "show" "Table.show" dj xk f fd) (B:Blt mg) (T:fk P w K mg G) (m_set:mg "set"=none) (U13:Fs P w K mg base G 3) (U33:Fd P w K mg base 4) (U42:yJ P w K mg base 3) (U21:Fe P w K mg base 1) (U2:xK P w K mg base 1):Je P w K mg base G 5:=by
 refine D.ok re (by walk_at "l") fun _ _ _ _ _ _ _ _ hr h=>?_
 exact ⟨jR K G,(af (cx (ak U2 (rmD hr) (aZ (ak U42 (rmD hr) (ad (pvA pI) (bY (dJ (pvA fW) rfl) ae))) (ar bh ae))))
  (af (cx (ak U2 (rmD hr) (aZ (ak U42 (rmD hr) (ad (pvA yY) (aX (ax bN (dJ (pvA fW) rfl) ao) ae))) (ar bh ae))))
  (af (cx (ak U2 (rmD hr) (aZ (ak U33 (rmD hr) (ad (pvA pJ) (bY (dJ (pvA fW) rfl) ae))) (ar bh ae))))
  (af (ay (i:=4) re.nd rfl (Pq rfl) (EM rfl B.sorted m_set (ad (pvA pJ) ae)))
  (ai (aw (gi U13 (rmD hr) T.cl_Table (pvA fW) (bF (ck (ad (pvA pI) ae)) (bE (bo (sc:=(ab dj)) (NX:=uf) (N:=qA) (ix:=[none,some 2,some 4]) rfl (by walk_at "c") (bC (dJ (pvA fW) rfl)) (by intros; exact (aq (i:=0) (show (qA:List Str).Nodup by decide +kernel) rfl (M5 rfl))) (by intros; exact bq) (by intros; exact (ak U21 (rmD hr) (ad (pv 0) (ad (pv 1) (ad (pv 2) ae)))))) ae))))))))),zQ T.ct h⟩
theorem ye {G:GF} (D:jn K G.Table "truths" "Table.truths" eh oq f fd) (B:Blt mg) (T:fk P w K mg G) (U29:E3 P w K mg base 6) (U27:JL P w K mg base 39):Fr P w K mg base G 40:=by
 refine D.ok xY (by walk_at "l") fun _ _ _ _ _ _ _ _ hr h=>?_
 exact ⟨iA K G,(af (bd (bU (bG (ak U29 (rmD hr) (bY (dJ (pvA gm) rfl) (bY (dJ (pvA gm) rfl) (ad (pvA nK) ae)))))) (ai pO) aI)
  (ai (aw (ak U27 (rmD hr) (bY (dJ (pvA gm) rfl) (bY (dJ (pvA gm) rfl) (ad (pvA nK) ae))))))),wR T.ct h⟩
theorem za {G:GF} (D:jn K G.Table "learn" "Table.learn" dn xm f fd) (B:Blt mg) (T:fk P w K mg G) (U49:E7 P w K mg base 2):Fs P w K mg base G 3:=by
 refine D.ok pL (by walk_at "l") fun _ _ _ _ _ _ _ _ hr h=>?_
 exact ⟨i9 K G,(af (bL Nx rfl (oQ (pvA oy)) (aq (i:=3) pL.nd rfl (M5 rfl)) (ai (gY (ak U49 (rmD hr) (aE (aL bi (dJ (pvA kb) rfl) (pvA oz) (fun _ _=>rfl)) (ad (pvA kd) ae))) (iS (dJ (pvA kb) rfl) (pvA oz) ji))))
  (af (cx (mq N0 OH OI fX (dJ (pvA kb) rfl) (bF (ck (ad (pvA oy) (ad (pvA kd) ae))) ae)))
  (ai (aw (cO o0 rfl B.list P4 (ad (pvA kd) ae)))))),yz T.ct h⟩
theorem MD (B:Blt mg) {G:GF} {f1:Addr} {fd1:Nk} (V96:Def K mg "is_whole" jW qC f1 fd1) {f2:Addr} {fd2:Nk} (V86:Def K mg "is_within" fF mE f2 fd2) {f3:Addr} {fd3:Nk} (V97:Def K mg "is_below" iD oh f3 fd3) {f4:Addr} {fd4:Nk} (V87:Def K mg "are_hands" d8 xz f4 fd4) {f5:Addr} {fd5:Nk} (V98:Def K mg "is_pack" h8 d5 f5 fd5) {f6:Addr} {fd6:Nk} (V95:Def K mg "how_many" d6 d5 f6 fd6) {f7:Addr} {fd7:Nk} (V100:Def K mg "choices" fY xC f7 fd7) {f8:Addr} {fd8:Nk} (V93:Def K mg "deals_of" fq d5 f8 fd8) {f9:Addr} {fd9:Nk} (V58:Def K mg "with_one_more" bR xD f9 fd9) {f10:Addr} {fd10:Nk} (V94:Def K mg "cards_of" iE om f10 fd10) {f11:Addr} {fd11:Nk} (V84:Def K mg "is_saying" cV lx f11 fd11) {f12:Addr} {fd12:Nk} (V99:Def K mg "is_word" ib lx f12 fd12) {f13:Addr} {fd13:Nk} (V107:Def K mg "fits" lH lp f13 fd13) {f14:Addr} {fd14:Nk} (V92:Def K mg "parts_of" gj xI f14 fd14) {f15:Addr} {fd15:Nk} (V59:Def K mg "parts_of_all" dz xH f15 fd15) {f16:Addr} {fd16:Nk} (V73:Def K mg "first_view" fS ol f16 fd16) {f17:Addr} {fd17:Nk} (V104:Def K mg "split" mN on f17 fd17) {f18:Addr} {fd18:Nk} (V56:Def K mg "least_with_same" bM ["marks"] f18 fd18) {f19:Addr} {fd19:Nk} (V103:Def K mg "joined" eL xE f19 fd19) {f20:Addr} {fd20:Nk} (V108:Def K mg "link" jZ xq f20 fd20) {f21:Addr} {fd21:Nk} (V102:Def K mg "end_of" jo xy f21 fd21) {f22:Addr} {fd22:Nk} (V82:Def K mg "truths_of" bS uj f22 fd22) {f23:Addr} {fd23:Nk} (V109:Def K mg "both" nv eV f23 fd23) {f24:Addr} {fd24:Nk} (V101:Def K mg "either" jp eV f24 fd24) {f25:Addr} {fd25:Nk} (V105:Def K mg "known" gM xw f25 fd25) {f26:Addr} {fd26:Nk} (V62:Def K mg "known_to_all" cT xB f26 fd26) {f27:Addr} {fd27:Nk} (V106:Def K mg "seen" nC mH f27 fd27) {f28:Addr} {fd28:Nk} (V57:Def K mg "refuse_unless" fw qB f28 fd28) {f29:Addr} {fd29:Nk} (V88:Def K mg "are_cards" gN oj f29 fd29) {f30:Addr} {fd30:Nk} (V76:Def K mg "least_held" dO qA f30 fd30) {f31:Addr} {fd31:Nk} (V91:Def K mg "_law_cell" fH xj f31 fd31) {f32:Addr} {fd32:Nk} (V60:Def K mg "_law_product" dC xG f32 fd32) {f33:Addr} {fd33:Nk} (V74:Def K mg "_law_count" dP xn f33 fd33) {f34:Addr} {fd34:Nk} (V83:Def K mg "_law_pack" cW xh f34 fd34) {f35:Addr} {fd35:Nk} (V80:Def K mg "_law_least" dg xF f35 fd35) {f36:Addr} {fd36:Nk} (V70:Def K mg "_law_wholes" ff ou f36 fd36) {f37:Addr} {fd37:Nk} (V55:Def K mg "_law_truths_told" cn mF f37 fd37) {f38:Addr} {fd38:Nk} (V75:Def K mg "_law_words" eM uk f38 fd38) {f39:Addr} {fd39:Nk} (V71:Def K mg "_law_group" fU og f39 fd39) {f40:Addr} {fd40:Nk} (V81:Def K mg "_law_pool" cI xc f40 fd40) {f41:Addr} {fd41:Nk} (V67:Def K mg "_law_saying" bw xa f41 fd41) {f42:Addr} {fd42:Nk} (V89:Def K mg "_law_kept" cX xl f42 fd42) {f43:Addr} {fd43:Nk} (V85:Def K mg "_law_each" cJ oP f43 fd43) {f44:Addr} {fd44:Nk} (V69:Def K mg "_law_shared" cv oP f44 fd44) {f45:Addr} {fd45:Nk} (V63:Def K mg "_law_sighted" bJ xf f45 fd45) {f46:Addr} {fd46:Nk} (V90:Def K mg "_law_read" b8 t9 f46 fd46) {f47:Addr} {fd47:Nk} (V66:Def K mg "_law_viewed" cL xo f47 fd47) {f48:Addr} {fd48:Nk} (V61:Def K mg "_law_show_on" bv w9 f48 fd48) {f49:Addr} {fd49:Nk} (V110:Def K mg "law" d7 um f49 fd49) {f50:Addr} {fd50:Nk} (V77:BO K G.Table "Table.__init__" dQ jc f50 fd50) {f51:Addr} {fd51:Nk} (V65:jn K G.Table "deals" "Table.deals" gF ["self"] f51 fd51) {f52:Addr} {fd52:Nk} (V72:jn K G.Table "view" "Table.view" fV oo f52 fd52) {f53:Addr} {fd53:Nk} (V79:jn K G.Table "word" "Table.word" eO mG f53 fd53) {f54:Addr} {fd54:Nk} (V78:jn K G.Table "show" "Table.show" dj xk f54 fd54) {f55:Addr} {fd55:Nk} (V64:jn K G.Table "truths" "Table.truths" eh oq f55 fd55) {f56:Addr} {fd56:Nk} (V68:jn K G.Table "learn" "Table.learn" dn xm f56 fd56) (T:fk P w K mg G) {t_MOST_CARDS:Tok} (m_MOST_CARDS:mg "MOST_CARDS"=some (.int 12 t_MOST_CARDS)) {t_MOST_HANDS:Tok} (m_MOST_HANDS:mg "MOST_HANDS"=some (.int 5 t_MOST_HANDS)) {t_MOST_DEALS:Tok} (m_MOST_DEALS:mg "MOST_DEALS"=some (.int 2000 t_MOST_DEALS)) {t_MOST_WORDS:Tok} (m_MOST_WORDS:mg "MOST_WORDS"=some (.int 30 t_MOST_WORDS)) (m_set:mg "set"=none):iM P w K mg base CX0 73 f49 fd49 um (we K):=by
 have U10:Jf P w K mg base G 1:=y9 V65 B T
 have U45:Ja P w K mg base 1:=FD V100 B
 have U41:EW P w K mg base 1:=C7 V96 B
 have U31:Ch P w K mg base 2:=Cv V86 B U41
 have U43:I0 P w K mg base 3:=FC V98 B m_MOST_CARDS m_MOST_HANDS U31
 have U40:Jb P w K mg base 4:=C9 V95 B U45 U43
 have U3:Jc P w K mg base 1:=vT V58 B
 have U38:EY P w K mg base 5:=Da V93 B m_MOST_DEALS U40 U3
 have U39:EZ P w K mg base 1:=Db V94 B
 have U1:AR P w K mg base 1:=tm V56 B
 have U18:E6 P w K mg base 2:=Ap V73 B U39 U1
 have U22:FnI P w K mg base 6 G.Table jc (gy K G):=Au V77 B T U38 U18
 have U32:EX P w K mg base 3:=Cw V87 B U31
 have U42:yJ P w K mg base 3:=C8 V97 B U31
 have U52:E4 P w K mg base 4:=KO V107 B U32 U42
 have U44:E1 P w K mg base 5:=FE V99 B T U52
 have U37:E5 P w K mg base 1:=Dc V92 B T
 have U4:E2 P w K mg base 2:=xZ V59 B U37
 have U29:E3 P w K mg base 6:=Cy V84 B m_MOST_WORDS U41 U44 U4
 have U54:AT P w K mg base 1:=KQ V109 B
 have U46:Fa P w K mg base 1:=Hf V101 B
 have U47:AS P w K mg base 1:=He V102 B
 have U53:E8 P w K mg base 2:=KP V108 B U47
 have U48:E9 P w K mg base 3:=Hd V103 B U47 U53
 have U50:xJ P w K mg base 1:=Jp V105 B
 have U7:Fb P w K mg base 2:=ya V62 B U54 U50
 have U51:Fc P w K mg base 2:=KR V106 B U50
 have U27:JL P w K mg base 39:=tq V82 B U54 U39 U46 U48 U50 U7 U51 35
 have U9:Fr P w K mg base G 40:=ye V64 B T U29 U27
 have U49:E7 P w K mg base 2:=Jo V104 B U1
 have U13:Fs P w K mg base G 3:=za V68 B T U49
 have U2:xK P w K mg base 1:=vU V57 B
 have U24:Jg P w K mg base G 41:=Aw V79 B T U13 U9 U32 U2
 have U36:uq P w K mg base 1:=CA V91 B
 have U16:AV P w K mg base 1:=At V71 B
 have U25:AU P w K mg base 1:=As V80 B
 have U5:Ff P w K mg base 1:=yb V60 B
 have U19:Fh P w K mg base 2:=Ar V74 B U5
 have U28:Fi P w K mg base 3:=CB V83 B U36 U19
 have U34:AW P w K mg base 1:=CD V89 B
 have U30:AX P w K mg base 2:=CG V85 B U34
 have U14:Fn P w K mg base 3:=y7 V69 B U30
 have U8:Fo P w K mg base 1:=yc V63 B
 have U35:JK P w K mg base 39:=tw V90 B U30 U34 U14 U8 35
 have U26:Fl P w K mg base 2:=CC V81 B U36
 have U20:JJ P w K mg base 71:=rf V75 B 70
 have U12:Fm P w K mg base 72:=y6 V67 B U36 U16 U26 U20
 have U33:Fd P w K mg base 4:=Cz V88 B U42
 have U21:Fe P w K mg base 1:=Aq V76 B
 have U23:Je P w K mg base G 5:=Ax V78 B T m_set U13 U33 U42 U21 U2
 have U6:Fq P w K mg base G 6:=yd V61 B T U23 U25
 have U0:Fk P w K mg base 1:=rn V55 B
 have U17:Jd P w K mg base G 4:=Av V72 B T U42 U2
 have U15:Fj P w K mg base 1:=yZ V70 B
 have U11:Fp P w K mg base G 5:=y8 V66 B T U17 U15
 exact LX V110 B T U10 U22 U9 U24 U36 U16 U25 U28 U35 U12 U6 U0 U11 U38
end
@[elab_as_elim] theorem ofLen1 {α:Type} {P:List α->Prop} (us:List α) (hl:us.length=1) (h:∀ a0:α,P [a0]):P us:=match us,hl with | [a0],_=>h a0
@[elab_as_elim] theorem ofLen2 {α:Type} {P:List α->Prop} (us:List α) (hl:us.length=2) (h:∀ a0 a1:α,P [a0,a1]):P us:=match us,hl with | [a0,a1],_=>h a0 a1
@[elab_as_elim] theorem ofLen3 {α:Type} {P:List α->Prop} (us:List α) (hl:us.length=3) (h:∀ a0 a1 a2:α,P [a0,a1,a2]):P us:=match us,hl with | [a0,a1,a2],_=>h a0 a1 a2
@[elab_as_elim] theorem ofLen4 {α:Type} {P:List α->Prop} (us:List α) (hl:us.length=4) (h:∀ a0 a1 a2 a3:α,P [a0,a1,a2,a3]):P us:=match us,hl with | [a0,a1,a2,a3],_=>h a0 a1 a2 a3
@[elab_as_elim] theorem ofLen5 {α:Type} {P:List α->Prop} (us:List α) (hl:us.length=5) (h:∀ a0 a1 a2 a3 a4:α,P [a0,a1,a2,a3,a4]):P us:=match us,hl with | [a0,a1,a2,a3,a4],_=>h a0 a1 a2 a3 a4
local macro_rules | `(tactic| walk_at "b1")=>`(tactic| exact fun _ _ _ _ _ _ us hl=>ofLen1 us hl fun _=>rfl)
local macro_rules | `(tactic| walk_at "b2")=>`(tactic| exact fun _ _ _ _ _ _ us hl=>ofLen2 us hl fun _ _=>rfl)
local macro_rules | `(tactic| walk_at "b3")=>`(tactic| exact fun _ _ _ _ _ _ us hl=>ofLen3 us hl fun _ _ _=>rfl)
local macro_rules | `(tactic| walk_at "b4")=>`(tactic| exact fun _ _ _ _ _ _ us hl=>ofLen4 us hl fun _ _ _ _=>rfl)
local macro_rules | `(tactic| walk_at "b5")=>`(tactic| exact fun _ _ _ _ _ _ us hl=>ofLen5 us hl fun _ _ _ _ _=>rfl)
theorem all_mk {l:W.OpenLaw} {w:World} {K:Fg} {h:Heap} {mg:Str->Option Value} {fa:Addr} (X:K.In h) (G:h.Ns NB mg) (hfa:mg "law"=some (.ref fa))
  {t_MOST_CARDS:Tok}  {t_MOST_HANDS:Tok}  {t_MOST_DEALS:Tok}  {t_MOST_WORDS:Tok}   {aF fm1 fm2 fm3 fm4 fm5 fm6 fm7 fm8:Addr} {tk1 tk2 tk3 tk4 tk5 tk6 tk7 tk8 tu1 tu2 tu3 tu4 tu5 tu6 tu7 tu8 tu9 tu10 tu11 tu12 tu13 tu14:Tok} {epF tn1 tn2 tn3 tn4 tn5 tn6 tn7 tn8:Nat} {to1 to2 to3 to4 to5 to6 to7 to8:Option Addr} {ts1 ts2 ts3 ts4 ts5 ts6 ts7 ts8:Array (Option Value)} {aT:Addr}
  (q1:DfA K "is_whole" jW)
  (q2:DfA K "is_within" fF)
  (q3:DfA K "is_below" iD)
  (q4:DfA K "are_hands" d8)
  (q5:DfA K "is_pack" h8)
  (q6:DfA K "how_many" d6)
  (q7:DfA K "choices" fY)
  (q8:DfA K "deals_of" fq)
  (q9:DfA K "with_one_more" bR)
  (q10:DfA K "cards_of" iE)
  (q11:DfA K "is_saying" cV)
  (q12:DfA K "is_word" ib)
  (q13:DfA K "fits" lH)
  (q14:DfA K "parts_of" gj)
  (q15:DfA K "parts_of_all" dz)
  (q16:DfA K "first_view" fS)
  (q17:DfA K "split" mN)
  (q18:DfA K "least_with_same" bM)
  (q19:DfA K "joined" eL)
  (q20:DfA K "link" jZ)
  (q21:DfA K "end_of" jo)
  (q22:DfA K "truths_of" bS)
  (q23:DfA K "both" nv)
  (q24:DfA K "either" jp)
  (q25:DfA K "known" gM)
  (q26:DfA K "known_to_all" cT)
  (q27:DfA K "seen" nC)
  (q28:DfA K "refuse_unless" fw)
  (q29:DfA K "are_cards" gN)
  (q30:DfA K "least_held" dO)
  (q31:DfA K "_law_cell" fH)
  (q32:DfA K "_law_product" dC)
  (q33:DfA K "_law_count" dP)
  (q34:DfA K "_law_pack" cW)
  (q35:DfA K "_law_least" dg)
  (q36:DfA K "_law_wholes" ff)
  (q37:DfA K "_law_truths_told" cn)
  (q38:DfA K "_law_words" eM)
  (q39:DfA K "_law_group" fU)
  (q40:DfA K "_law_pool" cI)
  (q41:DfA K "_law_saying" bw)
  (q42:DfA K "_law_kept" cX)
  (q43:DfA K "_law_each" cJ)
  (q44:DfA K "_law_shared" cv)
  (q45:DfA K "_law_sighted" bJ)
  (q46:DfA K "_law_read" b8)
  (q47:DfA K "_law_viewed" cL)
  (q48:DfA K "_law_show_on" bv)
  (q49:DfA K "law" d7)
  (q50:MtA K aT "__init__" "Table.__init__" dQ)
  (q51:MtA K aT "deals" "Table.deals" gF)
  (q52:MtA K aT "view" "Table.view" fV)
  (q53:MtA K aT "word" "Table.word" eO)
  (q54:MtA K aT "show" "Table.show" dj)
  (q55:MtA K aT "truths" "Table.truths" eh)
  (q56:MtA K aT "learn" "Table.learn" dn)
  (y1:O9 K NB "MOST_CARDS"=some (some (.int 12 t_MOST_CARDS)))
  (y2:O9 K NB "MOST_HANDS"=some (some (.int 5 t_MOST_HANDS)))
  (y3:O9 K NB "MOST_DEALS"=some (some (.int 2000 t_MOST_DEALS)))
  (y4:O9 K NB "MOST_WORDS"=some (some (.int 30 t_MOST_WORDS)))
  (y5:O9 K NB "set"=some none)
  (x1:O9 K NB "FORMS"=some (some (.ref aF)))
  (x2:K.lookup aF=some ⟨.type "dict",none,.dict #[⟨N9 w.params "holds",.str "holds" tk1,.ref fm1⟩,⟨N9 w.params "not",.str "not" tk2,.ref fm2⟩,⟨N9 w.params "and",.str "and" tk3,.ref fm3⟩,⟨N9 w.params "or",.str "or" tk4,.ref fm4⟩,⟨N9 w.params "knows",.str "knows" tk5,.ref fm5⟩,⟨N9 w.params "all",.str "all" tk6,.ref fm6⟩,⟨N9 w.params "common",.str "common" tk7,.ref fm7⟩,⟨N9 w.params "sees",.str "sees" tk8,.ref fm8⟩] epF,#[]⟩)
  (x3:K.lookup fm1=some ⟨.type "tuple",to1,.seq #[.str "holder" tu1,.str "card" tu2] tn1,ts1⟩)
  (x4:K.lookup fm2=some ⟨.type "tuple",to2,.seq #[.str "saying" tu3] tn2,ts2⟩)
  (x5:K.lookup fm3=some ⟨.type "tuple",to3,.seq #[.str "saying" tu4,.str "saying" tu5] tn3,ts3⟩)
  (x6:K.lookup fm4=some ⟨.type "tuple",to4,.seq #[.str "saying" tu6,.str "saying" tu7] tn4,ts4⟩)
  (x7:K.lookup fm5=some ⟨.type "tuple",to5,.seq #[.str "hand" tu8,.str "saying" tu9] tn5,ts5⟩)
  (x8:K.lookup fm6=some ⟨.type "tuple",to6,.seq #[.str "hands" tu10,.str "saying" tu11] tn6,ts6⟩)
  (x9:K.lookup fm7=some ⟨.type "tuple",to7,.seq #[.str "hands" tu12,.str "saying" tu13] tn7,ts7⟩)
  (x10:K.lookup fm8=some ⟨.type "tuple",to8,.seq #[.str "hand" tu14] tn8,ts8⟩)
  (x11:(aF == OW)=false)
  (x12:O9 K NB "Table"=some (some (.ref aT)))
  (x13:W.plainGet K aT VY=true)
  (x14:W.hasDictIn K aT=true)
  (x15:W.plainOver K aT=true)
  (x16:RI K (.ref aT) "__setattr__"=some (some (.builtin "object.__setattr__")))
  (x17:W.makesIn K aT=true)
  (x18:W.keepIn K (.ref aT)=true)
  (x19:RI K (.ref aT) "dealt"=some none)
  (x20:RI K (.ref aT) "cards"=some none)
  (x21:RI K (.ref aT) "sizes"=some none)
  (x22:RI K (.ref aT) "hands"=some none)
  (x23:RI K (.ref aT) "views"=some none)
  (x24:RI K (.ref aT) "deeds"=some none)
  (z1:O9 K NB "len"=some none) (z2:O9 K NB "range"=some none) (z3:O9 K NB "tuple"=some none) (z4:O9 K NB "list"=some none) (z5:O9 K NB "int"=some none) (z6:O9 K NB "bool"=some none) (z7:O9 K NB "str"=some none) (z8:O9 K NB "dict"=some none) (z9:O9 K NB "sum"=some none) (z10:O9 K NB "all"=some none) (z11:O9 K NB "min"=some none) (z12:O9 K NB "max"=some none) (z13:O9 K NB "sorted"=some none) (z14:O9 K NB "enumerate"=some none) (z15:O9 K NB "zip"=some none) (z16:O9 K NB "isinstance"=some none):
  ∃ fd:Nk,(∀ (s:Shared) (v:Value),BindsTo s fd ⟨[v],[]⟩ [("_law_script",v)])/\∀ base:Heap,K.In base->base.Ns NB mg->iM l.prog w K mg base CX0 73 fa fd um (we K):=by
 have B:Blt mg:=⟨Oj X G z1,Oj X G z2,Oj X G z3,Oj X G z4,Oj X G z5,Oj X G z6,Oj X G z7,Oj X G z8,Oj X G z9,Oj X G z10,Oj X G z11,Oj X G z12,Oj X G z13,Oj X G z14,Oj X G z15,Oj X G z16⟩
 obtain ⟨_,_,D1⟩:=q1.df (ps:=qC) X G (by walk_at "b1")
 obtain ⟨_,_,D2⟩:=q2.df (ps:=mE) X G (by walk_at "b3")
 obtain ⟨_,_,D3⟩:=q3.df (ps:=oh) X G (by walk_at "b2")
 obtain ⟨_,_,D4⟩:=q4.df (ps:=xz) X G (by walk_at "b2")
 obtain ⟨_,_,D5⟩:=q5.df (ps:=d5) X G (by walk_at "b2")
 obtain ⟨_,_,D6⟩:=q6.df (ps:=d5) X G (by walk_at "b2")
 obtain ⟨_,_,D7⟩:=q7.df (ps:=xC) X G (by walk_at "b2")
 obtain ⟨_,_,D8⟩:=q8.df (ps:=d5) X G (by walk_at "b2")
 obtain ⟨_,_,D9⟩:=q9.df (ps:=xD) X G (by walk_at "b2")
 obtain ⟨_,_,D10⟩:=q10.df (ps:=om) X G (by walk_at "b2")
 obtain ⟨_,_,D11⟩:=q11.df (ps:=lx) X G (by walk_at "b3")
 obtain ⟨_,_,D12⟩:=q12.df (ps:=lx) X G (by walk_at "b3")
 obtain ⟨_,_,D13⟩:=q13.df (ps:=lp) X G (by walk_at "b4")
 obtain ⟨_,_,D14⟩:=q14.df (ps:=xI) X G (by walk_at "b1")
 obtain ⟨_,_,D15⟩:=q15.df (ps:=xH) X G (by walk_at "b1")
 obtain ⟨_,_,D16⟩:=q16.df (ps:=ol) X G (by walk_at "b2")
 obtain ⟨_,_,D17⟩:=q17.df (ps:=on) X G (by walk_at "b2")
 obtain ⟨_,_,D18⟩:=q18.df (ps:=["marks"]) X G (by walk_at "b1")
 obtain ⟨_,_,D19⟩:=q19.df (ps:=xE) X G (by walk_at "b2")
 obtain ⟨_,_,D20⟩:=q20.df (ps:=xq) X G (by walk_at "b3")
 obtain ⟨_,_,D21⟩:=q21.df (ps:=xy) X G (by walk_at "b2")
 obtain ⟨_,_,D22⟩:=q22.df (ps:=uj) X G (by walk_at "b3")
 obtain ⟨_,_,D23⟩:=q23.df (ps:=eV) X G (by walk_at "b2")
 obtain ⟨_,_,D24⟩:=q24.df (ps:=eV) X G (by walk_at "b2")
 obtain ⟨_,_,D25⟩:=q25.df (ps:=xw) X G (by walk_at "b2")
 obtain ⟨_,_,D26⟩:=q26.df (ps:=xB) X G (by walk_at "b2")
 obtain ⟨_,_,D27⟩:=q27.df (ps:=mH) X G (by walk_at "b2")
 obtain ⟨_,_,D28⟩:=q28.df (ps:=qB) X G (by walk_at "b2")
 obtain ⟨_,_,D29⟩:=q29.df (ps:=oj) X G (by walk_at "b2")
 obtain ⟨_,_,D30⟩:=q30.df (ps:=qA) X G (by walk_at "b3")
 obtain ⟨_,_,D31⟩:=q31.df (ps:=xj) X G (by walk_at "b2")
 obtain ⟨_,_,D32⟩:=q32.df (ps:=xG) X G (by walk_at "b1")
 obtain ⟨_,_,D33⟩:=q33.df (ps:=xn) X G (by walk_at "b2")
 obtain ⟨_,_,D34⟩:=q34.df (ps:=xh) X G (by walk_at "b3")
 obtain ⟨_,_,D35⟩:=q35.df (ps:=xF) X G (by walk_at "b1")
 obtain ⟨_,_,D36⟩:=q36.df (ps:=ou) X G (by walk_at "b1")
 obtain ⟨_,_,D37⟩:=q37.df (ps:=mF) X G (by walk_at "b2")
 obtain ⟨_,_,D38⟩:=q38.df (ps:=uk) X G (by walk_at "b1")
 obtain ⟨_,_,D39⟩:=q39.df (ps:=og) X G (by walk_at "b2")
 obtain ⟨_,_,D40⟩:=q40.df (ps:=xc) X G (by walk_at "b4")
 obtain ⟨_,_,D41⟩:=q41.df (ps:=xa) X G (by walk_at "b5")
 obtain ⟨_,_,D42⟩:=q42.df (ps:=xl) X G (by walk_at "b2")
 obtain ⟨_,_,D43⟩:=q43.df (ps:=oP) X G (by walk_at "b3")
 obtain ⟨_,_,D44⟩:=q44.df (ps:=oP) X G (by walk_at "b3")
 obtain ⟨_,_,D45⟩:=q45.df (ps:=xf) X G (by walk_at "b3")
 obtain ⟨_,_,D46⟩:=q46.df (ps:=t9) X G (by walk_at "b3")
 obtain ⟨_,_,D47⟩:=q47.df (ps:=xo) X G (by walk_at "b2")
 obtain ⟨_,_,D48⟩:=q48.df (ps:=w9) X G (by walk_at "b5")
 obtain ⟨fd,D49,hb⟩:=q49.law X G (by walk_at "b1") hfa fun _ _ _ _ _ _ _ _=>.of_eq rfl
 obtain ⟨_,_,D50⟩:=q50.di (ps:=jc) x17 x18 (by walk_at "b3")
 obtain ⟨_,_,D51⟩:=q51.df (ps:=["self"]) (by walk_at "b1")
 obtain ⟨_,_,D52⟩:=q52.df (ps:=oo) (by walk_at "b2")
 obtain ⟨_,_,D53⟩:=q53.df (ps:=mG) (by walk_at "b3")
 obtain ⟨_,_,D54⟩:=q54.df (ps:=xk) (by walk_at "b4")
 obtain ⟨_,_,D55⟩:=q55.df (ps:=oq) (by walk_at "b2")
 obtain ⟨_,_,D56⟩:=q56.df (ps:=xm) (by walk_at "b3")
 refine ⟨fd,hb,fun base _ _=>?_⟩
 have T:fk l.prog w K mg _:=Iy (Ko (aC:=0) x11 (TF X G x1) x2 x3 x4 x5 x6 x7 x8 x9 x10) (TF X G x12) x13 x14 x15 x16 x19 x20 x21 x22 x23 x24
 exact MD B D1 D2 D3 D4 D5 D6 D7 D8 D9 D10 D11 D12 D13 D14 D15 D16 D17 D18 D19 D20 D21 D22 D23 D24 D25 D26 D27 D28 D29 D30 D31 D32 D33 D34 D35 D36 D37 D38 D39 D40 D41 D42 D43 D44 D45 D46 D47 D48 D49 D50 D51 D52 D53 D54 D55 D56 T (TF X G y1) (TF X G y2) (TF X G y3) (TF X G y4) (Oj X G y5)
end Kc_k33
local macro_rules | `(tactic| walk_at "q1")=>`(tactic| exact ⟨_,by k_is,_,_,_,_,_,_,_,_,_,by k_is,by k_is,by k_is⟩)
local macro_rules | `(tactic| walk_at "q2")=>`(tactic| exact ⟨_,by k_is,by k_is,_,_,_,_,_,_,_,_,_,by k_is,by k_is,by k_is⟩)
noncomputable def PySem.W.Fast.tw13150186990612737403 : PySem.Program := PySem.Challenge.pw_knowcards_k33_words_learned
theorem PySem.W.Fast.te13150186990612737403 : PySem.Challenge.pw_knowcards_k33_words_learned = PySem.W.Fast.tw13150186990612737403 := rfl
noncomputable def PySem.W.Fast.tw10619240810270746877 : PySem.Params → PySem.W.Frag := fun _ => []
theorem PySem.W.Fast.te10619240810270746877 : (fun _ => [] : PySem.Params → PySem.W.Frag) = PySem.W.Fast.tw10619240810270746877 := rfl
noncomputable def PySem.W.Fast.tw8839946369425250392 : PySem.Program := PySem.Challenge.pw_knowcards_k33_words_learned
theorem PySem.W.Fast.te8839946369425250392 : PySem.Challenge.pw_knowcards_k33_words_learned = PySem.W.Fast.tw8839946369425250392 := rfl
noncomputable def PySem.W.Fast.tw4695036876484338478 : PySem.Params → PySem.Obj := fun _ => default
theorem PySem.W.Fast.te4695036876484338478 : (fun _ => default : PySem.Params → PySem.Obj) = PySem.W.Fast.tw4695036876484338478 := rfl
noncomputable def PySem.W.Fast.tw1353299470735022427 : PySem.Params → PySem.Obj := fun _ => default
theorem PySem.W.Fast.te1353299470735022427 : (fun _ => default : PySem.Params → PySem.Obj) = PySem.W.Fast.tw1353299470735022427 := rfl
noncomputable def PySem.W.Fast.tw3999415494725361132 : PySem.Params → PySem.Obj := fun _ => default
theorem PySem.W.Fast.te3999415494725361132 : (fun _ => default : PySem.Params → PySem.Obj) = PySem.W.Fast.tw3999415494725361132 := rfl
noncomputable def PySem.W.Fast.tw3198116456955768715 : PySem.Params → PySem.Obj := fun _ => default
theorem PySem.W.Fast.te3198116456955768715 : (fun _ => default : PySem.Params → PySem.Obj) = PySem.W.Fast.tw3198116456955768715 := rfl
noncomputable def PySem.W.Fast.tw2217107260094573301 : PySem.Params → PySem.Obj := fun _ => default
theorem PySem.W.Fast.te2217107260094573301 : (fun _ => default : PySem.Params → PySem.Obj) = PySem.W.Fast.tw2217107260094573301 := rfl
noncomputable def PySem.W.Fast.tw6699114844985641890 : PySem.Params → PySem.Obj := fun _ => default
theorem PySem.W.Fast.te6699114844985641890 : (fun _ => default : PySem.Params → PySem.Obj) = PySem.W.Fast.tw6699114844985641890 := rfl
noncomputable def PySem.W.Fast.tw3601993993680128782 : PySem.Params → PySem.Obj := fun _ => default
theorem PySem.W.Fast.te3601993993680128782 : (fun _ => default : PySem.Params → PySem.Obj) = PySem.W.Fast.tw3601993993680128782 := rfl
noncomputable def PySem.W.Fast.tw692131038964934479 : PySem.Params → PySem.Obj := fun _ => default
theorem PySem.W.Fast.te692131038964934479 : (fun _ => default : PySem.Params → PySem.Obj) = PySem.W.Fast.tw692131038964934479 := rfl
noncomputable def PySem.W.Fast.tw1074969804707218381 : PySem.Params → PySem.Obj := fun _ => default
theorem PySem.W.Fast.te1074969804707218381 : (fun _ => default : PySem.Params → PySem.Obj) = PySem.W.Fast.tw1074969804707218381 := rfl
noncomputable def PySem.W.Fast.tw10487636572067678955 : PySem.Params → PySem.Obj := fun _ => default
theorem PySem.W.Fast.te10487636572067678955 : (fun _ => default : PySem.Params → PySem.Obj) = PySem.W.Fast.tw10487636572067678955 := rfl
noncomputable def PySem.W.Fast.tw9973651558833943702 : PySem.Params → PySem.Obj := fun _ => default
theorem PySem.W.Fast.te9973651558833943702 : (fun _ => default : PySem.Params → PySem.Obj) = PySem.W.Fast.tw9973651558833943702 := rfl
noncomputable def PySem.W.Fast.tw2015496018210029032 : PySem.Params → PySem.Obj := fun _ => default
theorem PySem.W.Fast.te2015496018210029032 : (fun _ => default : PySem.Params → PySem.Obj) = PySem.W.Fast.tw2015496018210029032 := rfl
noncomputable def PySem.W.Fast.tw18274861598711209456 : PySem.Params → PySem.Obj := fun _ => default
theorem PySem.W.Fast.te18274861598711209456 : (fun _ => default : PySem.Params → PySem.Obj) = PySem.W.Fast.tw18274861598711209456 := rfl
open PySem PySem.W PyProof.Rows
set_option maxRecDepth 100000 in
set_option maxHeartbeats 0 in
theorem PySem.Challenge.cw_knowcards_k33_words_learned_holds : PySem.Challenge.rw_knowcards_k33_words_learned.Holds := by
 w_on; o_law; k_head; (case hw=>w_witness2)
 k_fill
 refine L2.Hv (l:=PySem.Challenge.rw_knowcards_k33_words_learned) (k:=73) (x:="_law_script") rfl rfl ⟨rfl,by decide,by decide⟩ (fun w h Y=>PySem.W.kIn_of Y) ?F
 case F=>
  intro w mg fa h KX G hmg
  refine' Kc_k33.all_mk KX G hmg ?q1 ?q2 ?q3 ?q4 ?q5 ?q6 ?q7 ?q8 ?q9 ?q10 ?q11 ?q12 ?q13 ?q14 ?q15 ?q16 ?q17 ?q18 ?q19 ?q20 ?q21 ?q22 ?q23 ?q24 ?q25 ?q26 ?q27 ?q28 ?q29 ?q30 ?q31 ?q32 ?q33 ?q34 ?q35 ?q36 ?q37 ?q38 ?q39 ?q40 ?q41 ?q42 ?q43 ?q44 ?q45 ?q46 ?q47 ?q48 ?q49 ?q50 ?q51 ?q52 ?q53 ?q54 ?q55 ?q56 ?y1 ?y2 ?y3 ?y4 ?y5 ?x1 ?x2 ?x3 ?x4 ?x5 ?x6 ?x7 ?x8 ?x9 ?x10 ?x11 ?x12 ?x13 ?x14 ?x15 ?x16 ?x17 ?x18 ?x19 ?x20 ?x21 ?x22 ?x23 ?x24 ?z1 ?z2 ?z3 ?z4 ?z5 ?z6 ?z7 ?z8 ?z9 ?z10 ?z11 ?z12 ?z13 ?z14 ?z15 ?z16
  (case q1=>walk_at "q1")
  (case q2=>walk_at "q1")
  (case q3=>walk_at "q1")
  (case q4=>walk_at "q1")
  (case q5=>walk_at "q1")
  (case q6=>walk_at "q1")
  (case q7=>walk_at "q1")
  (case q8=>walk_at "q1")
  (case q9=>walk_at "q1")
  (case q10=>walk_at "q1")
  (case q11=>walk_at "q1")
  (case q12=>walk_at "q1")
  (case q13=>walk_at "q1")
  (case q14=>walk_at "q1")
  (case q15=>walk_at "q1")
  (case q16=>walk_at "q1")
  (case q17=>walk_at "q1")
  (case q18=>walk_at "q1")
  (case q19=>walk_at "q1")
  (case q20=>walk_at "q1")
  (case q21=>walk_at "q1")
  (case q22=>walk_at "q1")
  (case q23=>walk_at "q1")
  (case q24=>walk_at "q1")
  (case q25=>walk_at "q1")
  (case q26=>walk_at "q1")
  (case q27=>walk_at "q1")
  (case q28=>walk_at "q1")
  (case q29=>walk_at "q1")
  (case q30=>walk_at "q1")
  (case q31=>walk_at "q1")
  (case q32=>walk_at "q1")
  (case q33=>walk_at "q1")
  (case q34=>walk_at "q1")
  (case q35=>walk_at "q1")
  (case q36=>walk_at "q1")
  (case q37=>walk_at "q1")
  (case q38=>walk_at "q1")
  (case q39=>walk_at "q1")
  (case q40=>walk_at "q1")
  (case q41=>walk_at "q1")
  (case q42=>walk_at "q1")
  (case q43=>walk_at "q1")
  (case q44=>walk_at "q1")
  (case q45=>walk_at "q1")
  (case q46=>walk_at "q1")
  (case q47=>walk_at "q1")
  (case q48=>walk_at "q1")
  (case q49=>walk_at "q1")
  (case y1=>k_is)
  (case y2=>k_is)
  (case y3=>k_is)
  (case y4=>k_is)
  (case y5=>k_is)
  (case x1=>k_is)
  (case x2=>k_is)
  (case x3=>k_is)
  (case x4=>k_is)
  (case x5=>k_is)
  (case x6=>k_is)
  (case x7=>k_is)
  (case x8=>k_is)
  (case x9=>k_is)
  (case x10=>k_is)
  (case x11=>rfl)
  (case x12=>k_is)
  (case x13=>k_is)
  (case x14=>k_is)
  (case x15=>k_is)
  (case x16=>k_is)
  (case x17=>k_is)
  (case x18=>k_is)
  (case x19=>k_is)
  (case x20=>k_is)
  (case x21=>k_is)
  (case x22=>k_is)
  (case x23=>k_is)
  (case x24=>k_is)
  (case q50=>walk_at "q2")
  (case q51=>walk_at "q2")
  (case q52=>walk_at "q2")
  (case q53=>walk_at "q2")
  (case q54=>walk_at "q2")
  (case q55=>walk_at "q2")
  (case q56=>walk_at "q2")
  (case z1=>k_is); (case z2=>k_is); (case z3=>k_is); (case z4=>k_is); (case z5=>k_is); (case z6=>k_is); (case z7=>k_is); (case z8=>k_is); (case z9=>k_is); (case z10=>k_is); (case z11=>k_is); (case z12=>k_is); (case z13=>k_is); (case z14=>k_is); (case z15=>k_is); (case z16=>k_is)
