import PyProof.Rows.All
import Wide.All
import OpenK.AllK
import Wide.FinOn
import Lean
import PyProof.EqAt
import PyProof.EqKinds
import PyProof.TupleCall
import PyProof.NeKinds
import PyProof.SumWalkG
import PyProof.ConsumeWalk
import KE.IntBitsLaws
import PyProof.ZipIter
import KE.KTryMore
import PyProof.ExcArgsOwn
import KE.KDictLaws
import KE.KEqDict
import PyProof.Rows.EqDataRows
import PyProof.SetScanFacts
import PyProof.SetKind
import PyProof.Rows.SetFrom
import KE.KDictSum
import PyProof.ListMulRoad
import PyProof.Rows.CallKwBuiltin
import PyProof.Rows.SeqMore
import PyProof.WalkInts
import KE.KMinBuiltin
import KE.KRevSl
import PyProof.Rows.SortShell
import PyProof.DictWalks
import PyProof.ListRange
import KE.KItemsList
import PySem.Challenge.RW_knowcards_k33_words_learned
set_option Elab.async false
set_option linter.all false
set_option maxRecDepth 100000
set_option maxHeartbeats 4000000
set_option compiler.extract_closed false
open Array renaming append_assoc → Uw, forIn_toList → Qn, getD → Uc, getElem?_eq_getElem → O7, getElem?_eq_none → Q8, getElem?_toList → P0, length_toList → NS, toList_push → Sx
open Bool renaming and_eq_true → OU, and_false → RH, beq_eq_decide_eq → Rh, eq_iff_iff → Rn, false_and → RF, false_eq_true → Oi, false_ne_true → Nk, not_eq_true → Vu, not_true → QH, true_and → Ra
open Classical renaming not_forall → Ua, not_imp → Sw, propDecidable → N5
open False renaming elim → O5
open ForInStep renaming yield → Qm
open Iff renaming rfl → V7
open Int renaming emod_lt_of_pos → Pu, emod_nonneg → PX, le_antisymm → V4, natCast_ediv → VA, natCast_mul → Th, toNat_natCast → Qw, zero_add → SV
open List renaming Perm → Oz, all_cons → QG, all_eq_true → SO, all_map → Rr, any_cons → Uj, append_assoc → Sn, append_nil → O6, cons_append → Vy, countP_cons → Vx, count_append → Ss, count_cons → V3, drop_eq_getElem_cons → Sz, ext_getElem? → PH, filterMap_cons → QK, filter_append → RZ, filter_cons → Pe, filter_cons_of_neg → Oq, filter_cons_of_pos → Oe, find?_cons → NO, findIdx?_eq_none_iff → QO, findIdx?_eq_some_iff_getElem → Po, flatMap_append → RE, flatMap_cons → Su, flatten_cons → Q1, foldl → VQ, foldl_append → UV, foldl_cons → VR, forIn_cons → QN, forIn_nil → RJ, getD_eq_getElem?_getD → Np, getElem?_append_left → QL, getElem?_append_right → Sa, getElem?_eq_getElem → M7, getElem?_eq_none → NR, getElem?_eq_some_iff → Na, getElem?_map → Nm, getElem?_of_mem → T8, getElem?_range → OL, getElem?_set → Qx, getElem?_set_ne → TY, getElem?_set_self → Tn, getElem?_take_of_lt → SK, getElem?_toArray → TQ, getElem?_zip_eq_some → Pw, getElem_mem → Pq, getElem_range → R3, idxOf_append → UT, idxOf_cons → VX, idxOf_lt_length_of_mem → RX, length_append → Nx, length_cons → NK, length_drop → Vr, length_eq_zero_iff → Qi, length_eraseIdx_of_lt → Si, length_filter_le → TJ, length_map → M6, length_nil → VY, length_pos_iff → RD, length_range → OO, length_set → Pk, length_singleton → TB, length_take → OT, length_zip → OS, lookup → Qq, lookup_cons → Oo, map_append → Ny, map_congr_left → Pl, map_cons → Nt, map_map → PQ, map_nil → QA, map_set → UL, mem_append → NH, mem_append_left → Ow, mem_append_right → NY, mem_cons → Nc, mem_cons_of_mem → Nn, mem_cons_self → Nd, mem_filter → Py, mem_filterMap → RP, mem_flatMap → Vz, mem_iff_getElem → Rz, mem_iff_getElem? → Rj, mem_map → Os, mem_map_of_mem → Ut, mem_of_getElem? → Ng, mem_of_mem_take → T9, mem_range → O1, mem_singleton → M8, nodup_append → UW, nodup_cons → PV, not_mem_nil → Ob, of_mem_zip → Td, pairwise_append → Ry, pairwise_cons → R5, pairwise_iff_getElem → P9, pairwise_lt_range → Tv, pairwise_singleton → S4, range → NC, range_succ → PY, range_succ_eq_map → Ts, replicate → NT, replicate_succ → Qg, replicate_succ' → QF, set_cons_succ → Pd, set_cons_zero → Pc, size_toArray → Nq, sum_append → OE, sum_cons → NG, sum_nil → QC, take_add_one → ON, take_append_drop → QB, take_length → NM, take_of_length_le → PM, zipIdx_cons → Vv, zipIdx_nil → VU, zip_cons_cons → OG, zip_nil_left → Pj
open Nat renaming add_assoc → Sf, add_le_add_right → T7, add_mul → Vl, eq_of_mul_eq_mul_right → Sg, eq_zero_or_pos → Qo, le_add_right → OV, le_of_ble_eq_true → PZ, le_of_eq → Ro, le_of_lt → Oa, le_of_not_lt → Vs, le_refl → M9, le_succ → Pn, le_trans → NQ, lt_irrefl → OX, lt_of_le_of_lt → Ql, lt_of_lt_of_le → NB, lt_or_eq_of_le → QT, lt_or_ge → UM, lt_succ_of_lt → OB, lt_succ_self → OH, lt_trichotomy → Sv, min_self → PP, mul_assoc → OY, mul_comm → Pa, mul_left_comm → PJ, mul_pos → Vj, ne_of_gt → Pm, ne_of_lt → NN, not_le → RB, not_lt → SC, not_lt_zero → Rx, one_mul → Vk, sub_self → UK, succ_le_succ → VD, succ_pos → UJ, zero_le → N9
open Ne renaming symm → OJ
open Option renaming isSome_iff_exists → SI, isSome_map → Sr, map_eq_some_iff → Tu, map_some → Ru, some → Nv
open Option.some renaming inj → Nl
open Or renaming inl → Nb, inr → PB
open PyProof.Rows renaming Subscript_ → VN, boot_all → VF, boot_bool → Wa, boot_int → VE, boot_isinstance → Ol, boot_list → Qb, boot_max → VG, boot_sum → Ud, boot_tuple → QY, callWith_builtin1 → Rp, callWith_type1 → Oy, slot_tuple_getitem → Qh, subscriptTail → Uh, subscriptTail_builtinR → Tq
open PyProof.Rows.F renaming entry_set_update_loop → S5, plain_set_update_loop → Q0
open PySem renaming DictEntry → Uz, FuncData → Nr, GenState → TX, IntMulOk → P4, IsTupleKey → V0, NameKind → N0, PassesOwn → NU, PlainAttrs → VP, SetTable → Nz, Within → SG, assignEach → Rl, atKey_none_of_get → Q5, attributeBase → Qj, backToKw → Rc, behindInMarks → R9, beq_builtin_none → SW, binaryOp → P3, bootBuiltins → QP, boot_len → OW, builtinLookup_eq_fast → QD, builtinsNs → VH, callSpecialIfBoundUnlessNone? → Qu, callType_new → UH, callWith → Vq, call_meets → QW, cellsFrom → V9, closureFor → T4, codeAny_builtin → PF, codeAny_mono → Qz, codeAny_of_tree → V6, compEnvC → T5, compareOp → O2, concat_meets → UE, dictSetDefault → RK, eqBool → UI, eqIsQuiet → Tg, eqIsQuiet_byValue → UU, fastBuiltinMro → TC, fits_of_scanBound → Va, foldedSetIterable → Sk, getMethod → RQ, intBits_le_64 → R8, intBits_le_64 → Us, intBits_mul_le → TK, isInstance → V1, isSubtype_stop → QX, isSubtype_tuple_tuple → Ri, isSubtype_type → TN, keywordEach → Qr, letOwnedTupleGo → Rm, mainGlobals → NJ, mem_of_lookup → Om, newTuple → Vt, noFill_tuple_add → SL, pickOrder → QV, plainId_quiet → Qk, reduceHash → VZ, relayAll → RM, scanBound → QU, seqIndex_neg → UF, seqIndex_of → Vf, seq_tuple_add → Ug, setEntries → SE, sizeLine → Nh, sizeLine_eq → Nf, starEach → NA, storedH_new → Vm, subscripted → Tp, swapsWith → Ux, sysModules → O4, typeIs_int → VO, typeLookup → TZ, typeLookup_type → RA, updateSeq → R6, wpAny_Call_Name_kw → Pr, wpAny_Call_method_late → Q7, wpAny_Dict_empty → VC, wpAny_List_spliced → UD, wpAny_Name → VI, wpAny_Tuple_spliced → Um, wpAny_askSetting → SY, wpAny_assign_Name → UO, wpAny_attempt → P6, wpAny_bind → M1, wpAny_call → VM, wpAny_callSpecial?_slot → N4, wpAny_callSpecialIfBoundUnlessNone?_slot → PD, wpAny_call_entry → NV, wpAny_comprehension_free → SN, wpAny_execs_cons → Vo, wpAny_execs_nil → Rk, wpAny_field → Oc, wpAny_fieldsOf → RN, wpAny_forIn_list → Rf, wpAny_getItem_of → VB, wpAny_handled → Ui, wpAny_holding → On, wpAny_isInstance → Pb, wpAny_ite_split → Ti, wpAny_letGo → Tt, wpAny_load → VJ, wpAny_mono → OM, wpAny_newObj_type → Og, wpAny_newTuple → TH, wpAny_of_eq → Tr, wpAny_onRaise → Se, wpAny_passesOwn → PU, wpAny_pure → M5, wpAny_pyHash_int → Vn, wpAny_pyIter_enum → US, wpAny_pyIter_list → Qv, wpAny_pyIter_slot → Vc, wpAny_pyIter_tuple → Uy, wpAny_pyIter_zip → SS, wpAny_ret_mkInt → Rv, wpAny_rule → Pp, wpAny_seqItems → Oj, wpAny_setField → PL, wpAny_setField_rec → Pt, wpAny_setState_of → OC, wpAny_specialOf → OF, wpAny_standAt → Ue, wpAny_storeSet_of → UZ, wpAny_throw → Vg, wpAny_truthy_bool → Pi, wpAny_tupleItemsOf → RY, wpAny_typeOf → SM, wpAny_updateSeq → Qp, wpAny_updateSeq_pair → Rt
open PySem.Around renaming under → UB, under_plainId → Pg
open PySem.Builtin.Int renaming intBits → N3
open PySem.Builtin.List renaming listExtendWith → OA, listItems → Tw, listLengthHint → PR, listSameRef → Qf, listTooLong → Qe, listUpdate → S7
open PySem.Builtin.Slice renaming sliceAdjust → QM, sliceApplied → Sb, slicePlaces → P8
open PySem.Builtin.SmallTypes renaming nextOf → NW, ownedTupleHandOut → QS, ownedTupleIsFree → N1
open PySem.Builtin.Tuple renaming tupleExact → Qd, tupleHashOf → OK, tupleItemsOf → Sd
open PySem.Calls renaming Name_function_global → R7, callWith_builtin → Qs, evalArgs_plain → Rq, spliced_cons → RS, spliced_nil → Sm
open PySem.Code renaming isFrame → UC
open PySem.F renaming args_object_init_3 → T6, args_tuple_add_2 → QR, args_tuple_iterator_next_1 → RI, args_zip_next_1 → Q3, entry_extend_loop → SF, entry_tuple_add → QZ, entry_tuple_iterator_next → RV, entry_zip_new → VW, entry_zip_next → Re, newCall_zip_2 → VV, plainAttrs_list → N6, plain_extend_loop → O8, plain_list_iadd → S6, plain_set_new → TL, slot_NoneType_hash → P7, slot_bool_hash → Qt, slot_dict_getitem → SB, slot_dict_setdefault → RL, slot_int_rmul → VS, slot_list_append → OP, slot_list_clear → S8, slot_list_index → S3, slot_set_iter → TU, slot_tuple_add → Q6, slot_tuple_count → SU, slot_tuple_eq → Rw, slot_tuple_hash → Q4, slot_tuple_iterator_next → P5, slot_zip_next → PC, typeCall_zip_2 → Vw, type_list_append → OQ, type_list_clear → S9
open PySem.Heap renaming ExtBut → QJ, SameBut → Nw, get?_push_of_some → M4, get?_push_size → Nj, get?_update_other → OI, get?_update_self → N7, lt_size → Ni, size_push → N2, size_update → SZ
open PySem.Heap.SameBut renaming refl → Vb, update → N8
open PySem.NameKind renaming cell → Q9, free → OD
open PySem.Obj renaming cls_mapFields → So, data_mapDictKeys → Ub, data_mapFields → PN, isFreed_of_fields → Rg, mapFields → Sh, mapSeq → Ox, putSet → SD
open PySem.Paired renaming length → NP, snoc → Vi
open PySem.PassesOwn renaming never → ND
open PySem.PyData renaming canLayAll0 → UX, depthAll → V5, keyHash → Of
open PySem.SeqAt renaming EqAt → NL, shaped → SX
open PySem.SeqAt.EqAt renaming bool_bool → T3, bool_int → Up, bool_none → T2, int_bool → Ur, int_int → UG, int_none → Uq, int_str → Uu, none_bool → T1, none_int → Uo, same → Te, str_int → Uv
open PySem.SetTable renaming below → NF, grown → Qc
open PySem.SetTable.below renaming go → PK
open PySem.SetTable.probe renaming go → UY
open PySem.Shared renaming TypeIs → Ul, heap → Vh
open PySem.Str renaming empty → V8, ofString → O9
open PySem.Value renaming bool → Od, builtin → Uk, float → Ve, int → Qa, isInt → Tj, isInt_shape → UN, none → Ou, ref → NI, str → Ta, type → Ov
open PySem.W renaming callWith_K → RU, cellsFrom_some → To, codeIn → Tz, emptyDict → O3, findIn → Pf, findIn → RO, fnOf → QQ, handedIn → Vp, hasDictIn → Sl, instObj → Px, isFn → UA, keepIn → Qy, kia_one → OR, kitMeta → Tf, kitOne → NZ, kitx_dict → UR, kitx_list → UQ, lookIn → RG, makesIn → VL, methodCall_KW → Tx, methodObj → Sj, mg_none_of → Ot, mg_of → TV, nsIn → Ph, plainGet → Rb, plainGet_of → RC, plainOver → UP, takerIn → Tc
open PySem.W.WData renaming int → Q2, layable → TF, layableAll → SQ, list → RW, weight → QE, weightAll → S0
open PySem.Walks renaming list → VT
open Sum renaming inl → OZ, inr → O0
open Sum.inl renaming inj → Vd
open Sum.inr renaming inj → QI
open True renaming intro → Pz
noncomputable abbrev Fg:=PySem.W.Frag
section
namespace L2
open PySem PySem.Spec PyProof.Rows
noncomputable abbrev Key:=Sum Int Str
noncomputable def tI:Key->Value->Bool
 | .inl k,v=>Tj k v
 | .inr x,v=>Value.isStrOf x v
noncomputable def ML (w:World):Key->Int
 | .inl k=>hashInt k
 | .inr x=>hashStr w x
theorem dH:∀ {k:Key} {v:Value},tI k v=true->(∃ i t,k=OZ i/\v=Qa i t)\/(∃ x t,k=O0 x/\v=Ta x t)
 | .inl i,v,h=>by
  obtain ⟨t,e⟩:=UN (k:=i) (v:=v) h
  exact .inl ⟨i,t,rfl,e⟩
 | .inr x,v,h=>by
  obtain ⟨t,e⟩:=Value.isStrOf_shape (x:=x) (v:=v) h
  exact .inr ⟨x,t,rfl,e⟩
theorem FJ (i:Int) (t:Tok):tI (.inl i) (.int i t)=true:=by simp [tI,Tj]
theorem FK (x:Str) (t:Tok):tI (.inr x) (.str x t)=true:=by simp [tI,Value.isStrOf]
theorem KZ (a b:Int):decide ((OZ a:Key)=OZ b)=(a == b):=by
 by_cases e:a=b
 ·subst e; simp
 ·have h:¬ (OZ a:Key)=OZ b:=fun q=>e (Vd q)
  rw [decide_eq_false h]
  exact (beq_eq_false_iff_ne.mpr e).symm
theorem K0 (a b:Str):decide ((O0 a:Key)=O0 b)=decide (a=b):=by
 by_cases e:a=b
 ·subst e; simp
 ·have h:¬ (O0 a:Key)=O0 b:=fun q=>e (QI q)
  rw [decide_eq_false h,decide_eq_false e]
theorem K1 (a:Int) (b:Str):decide ((OZ a:Key)=O0 b)=false:=decide_eq_false (fun q=>nomatch q)
theorem K2 (a:Str) (b:Int):decide ((O0 a:Key)=OZ b)=false:=decide_eq_false (fun q=>nomatch q)
noncomputable def jv (prog:Program) (w:World):PySem.KeyKind prog w Key where
 is:=tI
 hash:=ML w
 inj:=fun v a b ha hb=>by
  rcases dH ha with ⟨i,t,rfl,rfl⟩ | ⟨x,t,rfl,rfl⟩
  ·rcases dH hb with ⟨j,u,rfl,e⟩ | ⟨y,u,rfl,e⟩
   ·injection e with e1 _; rw [e1]
   ·exact nomatch e
  ·rcases dH hb with ⟨j,u,rfl,e⟩ | ⟨y,u,rfl,e⟩
   ·exact nomatch e
   ·injection e with e1 _; rw [e1]
 byValue:=fun k v h=>by
  rcases dH h with ⟨i,t,rfl,rfl⟩ | ⟨x,t,rfl,rfl⟩ <;> rfl
 pyHash:=fun hv h=>by
  rcases dH hv with ⟨i,t,rfl,rfl⟩ | ⟨x,t,rfl,rfl⟩
  ·exact Vn h
  ·exact wpAny_pyHash_str h
 eqBool:=fun hu hv h=>by
  rcases dH hu with ⟨i,t,rfl,rfl⟩ | ⟨x,t,rfl,rfl⟩
  ·rcases dH hv with ⟨j,u,rfl,rfl⟩ | ⟨y,u,rfl,rfl⟩
   ·rw [KZ] at h; exact wpAny_eqBool_int h
   ·rw [K1] at h; exact Uu i t y u _ _ _ _ h
  ·rcases dH hv with ⟨j,u,rfl,rfl⟩ | ⟨y,u,rfl,rfl⟩
   ·rw [K2] at h; exact Uv x t j u _ _ _ _ h
   ·rw [K0] at h; exact wpAny_eqBool_str h
 «strs»:=fun k x t v h=>by
  rcases dH h with ⟨i,u,rfl,e⟩ | ⟨y,u,rfl,e⟩
  ·exact nomatch e
  ·injection e with e1 _
   subst e1
   cases v <;> rfl
theorem CJ (prog:Program) (w:World) (i:Int) (t:Tok):(jv prog w).is (.inl i) (.int i t)=true:=FJ i t
theorem bB (prog:Program) (w:World) (x:Str) (t:Tok):(jv prog w).is (.inr x) (.str x t)=true:=FK x t
end L2
namespace L2
open PySem PySem.Spec PyProof.Rows
inductive V where
 | non | bl (b:Bool) | int (i:Int) | str (x:Str) | byt (b:Array UInt8) | flt (b:UInt64) | ref (a:Addr) | ty (n:String)
 deriving DecidableEq
noncomputable def aK:V->Value->Prop
 | .non,u=>u=Ou
 | .bl b,u=>u=Od b
 | .int i,u=>∃ t,u=Qa i t
 | .str x,u=>∃ t,u=Ta x t
 | .byt b,u=>∃ t,u=Value.bytes b t
 | .flt b,u=>∃ t,u=Ve b t
 | .ref a,u=>u=NI a
 | .ty n,u=>u=Ov n
noncomputable abbrev aL:List V->List Value->Prop:=Paired aK
theorem aL.length {xs:List V} {us:List Value} (r:aL xs us):xs.length=us.length:=NP r
theorem aL.get:∀ {xs:List V} {us:List Value} {i:Nat} {x:V},aL xs us->xs[i]?=some x->∃ u,us[i]?=some u/\aK x u
 | _,_,_,_,.nil,e=>by simp at e
 | _,_,0,_,.cons r _,e=>by simp at e; subst e; exact ⟨_,rfl,r⟩
 | _,_,i + 1,x,.cons _ t,e=>by
  obtain ⟨u,h1,h2⟩:=aL.get (i:=i) (x:=x) t (by simpa using e)
  exact ⟨u,by simpa using h1,h2⟩
theorem aL.set {x:V} {u:Value} (r:aK x u):∀ {xs:List V} {us:List Value} (i:Nat),aL xs us->aL (xs.set i x) (us.set i u)
 | _,_,_,.nil=>.nil
 | _,_,0,.cons _ t=>.cons r t
 | _,_,i + 1,.cons q t=>.cons q (aL.set r i t)
theorem aL.append:∀ {xs ys:List V} {us ws:List Value},aL xs us->aL ys ws->aL (xs++ys) (us++ws)
 | _,_,_,_,.nil,s=>s
 | _,_,_,_,.cons r t,s=>.cons r (aL.append t s)
theorem aL.take:∀ {xs:List V} {us:List Value} (n:Nat),aL xs us->aL (xs.take n) (us.take n)
 | _,_,0,_=>.nil
 | _,_,_ + 1,.nil=>.nil
 | _,_,n + 1,.cons r t=>.cons r (aL.take n t)
theorem aL.drop:∀ {xs:List V} {us:List Value} (n:Nat),aL xs us->aL (xs.drop n) (us.drop n)
 | _,_,0,r=>r
 | _,_,_ + 1,.nil=>.nil
 | _,_,n + 1,.cons _ t=>aL.drop n t
noncomputable def gf:Option V->Option Value->Prop
 | some v,some u=>aK v u
 | none,none=>True
 | _,_=>False
noncomputable def KV {κ:Type}:List (κ×V)->List (κ×Value)->Prop:=Paired fun (p:κ×V) (q:κ×Value)=>p.1=q.1/\aK p.2 q.2
noncomputable def kV:Key->V
 | .inl i=>.int i
 | .inr x=>.str x
inductive HO where
 | lst (xs:List V)
 | tup (xs:List V)
 | dK (kvs:List (Key×V)) | dT (kvs:List (List Key×V))
 | set (S:Int->Bool) (n:Nat)
 | ins (C dx:Addr) (fs:List (Str×V))
 | own (x:Addr)
 | xd (fs:List (Str×V))
 | met (f x:Addr)
 | rng (lo hi:Int)
 | frz (o:Obj) (u:HO)
 | tbl (ps:Array Value)
 | ext (φ:Heap->Prop)
noncomputable abbrev Hp:=Addr->Option HO
noncomputable def upd (H:Hp) (a:Addr) (o:HO):Hp:=fun b=>if b=a then some o else H b
theorem ay {H:Hp} {a:Addr} {o:HO}:upd H a o a=some o:=by unfold upd; rw [if_pos rfl]
theorem aQ {H:Hp} {a b:Addr} {o:HO} (h:b≠a):upd H a o b=H b:=by unfold upd; rw [if_neg h]
theorem Az {H:Hp} {a b:Addr} {o u:HO} (h:H a=some o) (h':H b=some u) (d:o≠u):a≠b:=by
 intro e; subst e; rw [h] at h'; exact d (Nl h')
theorem bn {H:Hp} {a b:Addr} {o:HO} (h:H a=some o) (h':H b=none):a≠b:=by
 intro e; subst e; rw [h] at h'; cases h'
noncomputable def gz (h:Heap) (a:Addr) (items:Array Value):Prop:=∃ o,h.get? a=some o/\o.cls=.type "tuple"/\(∃ n,o.data=.seq items n)/\o.dict=none
theorem gz.lt {h:Heap} {a:Addr} {items:Array Value} (x:gz h a items):a < h.objs.size:=let ⟨_,e,_⟩:=x; Ni e
theorem gz.tup {h:Heap} {a:Addr} {items:Array Value} (x:gz h a items):IsTup h a items:=let ⟨o,e,c,d,_⟩:=x; ⟨o,e,c,d⟩
theorem gz.new (h:Heap) (items:Array Value):gz (h.push { cls:=.type "tuple",data:=.seq items }) h.objs.size items:=⟨_,Nj _ rfl,rfl,⟨_,rfl⟩,rfl⟩
section
variable (P:Program) (w:World)
noncomputable def bQ (H:Hp) (h:Heap) (a:Addr):HO->Prop
 | .lst xs=>xs.length<=Nh/\∃ (its:List Value) (n:Nat),aL xs its/\h.get? a=some { cls:=.type "list",data:=.seq its.toArray n }
 | .tup xs=>xs.length<=Nh/\∃ its:List Value,aL xs its/\gz h a its.toArray
 | .dK kvs=>kvs.length<=Nh/\(a == O4)=false/\∃ vs,KV kvs vs/\h.DictOf (jv P w) a vs
 | .dT kvs=>kvs.length<=Nh/\(a == O4)=false/\∃ xs:List (List Key×Addr×Value),
   Paired (fun (p:List Key×V) (q:List Key×Addr×Value)=>p.1=q.1/\H q.2.1=some (.tup (p.1.map kV))/\aK p.2 q.2.2) kvs xs/\
   ∃ o es ep,h.get? a=some o/\o.ExactDict/\o.data=.dict es ep/\es.toList=xs.map (entryOfKey (tupleKind (jv P w)))/\(xs.map (·.1)).Nodup
 | .set S n=>h.SetOf (intKind P w) a S n
 | .ins C dx fs=>H dx=some (.own a)/\fs.length<=1000/\dx≠a/\h.get? a=some (Px C dx)/\
   ∃ mA,h.Ns1 dx mA/\(∀ f,gf (fs.lookup f) (mA f))/\SG mA (fs.map (·.1))
 | .own _=>∃ o,h.get? a=some o
 | .xd fs=>∃ mA,h.Ns1 a mA/\∀ f,gf (fs.lookup f) (mA f)
 | .rng lo hi=>∃ t u v,h.get? a=some { cls:=.type "range",data:=.fields #[.int lo t,.int hi u,.int 1 v] }
 | .frz o u=>h.get? a=some o/\bQ H h a u
 | .tbl ps=>h.get? a=some { cls:=.none,data:=.fields ps }
 | .met f x=>h.get? a=some (Sj (.ref f) (.ref x))
 | .ext φ=>φ h/\(∃ o,h.get? a=some o)/\∀ h1 h2:Heap,φ h1->(∀ o,h1.get? a=some o->h2.get? a=some o)->φ h2
noncomputable def HOk (H:Hp) (h:Heap):Prop:=∀ a o,H a=some o->bQ P w H h a o
end
section
variable {P:Program} {w:World} {H H':Hp} {h h':Heap} {a:Addr} {o:HO}
theorem bQ.lt (x:bQ P w H h a o):a < h.objs.size:=by
 cases o with
 | lst xs=>obtain ⟨_,_,_,_,e⟩:=x; exact Ni e
 | tup xs=>obtain ⟨_,_,_,p⟩:=x; exact p.lt
 | dK kvs=>obtain ⟨_,_,_,_,o,_,_,e,_⟩:=x; exact Ni e
 | dT kvs=>obtain ⟨_,_,_,_,o,_,_,e,_⟩:=x; exact Ni e
 | set S n=>obtain ⟨o,_,_,_,e,_⟩:=x; exact Ni e
 | ins C dx fs=>obtain ⟨_,_,_,e,_⟩:=x; exact Ni e
 | own y=>obtain ⟨_,e⟩:=x; exact Ni e
 | xd fs=>obtain ⟨_,⟨_,_,_,e,_⟩,_⟩:=x; exact Ni e
 | rng lo hi=>obtain ⟨_,_,_,e⟩:=x; exact Ni e
 | frz ob u=>obtain ⟨e,_⟩:=x; exact Ni e
 | tbl ps=>exact Ni (show h.get? a=some _ from x)
 | met f y=>exact Ni (show h.get? a=some _ from x)
 | ext φ=>obtain ⟨_,⟨_,e⟩,_⟩:=x; exact Ni e
theorem Paired.mapP {α β:Type} {F G:α->β->Prop}:∀ {l₁:List α} {l₂:List β},Paired F l₁ l₂->(∀ a b,F a b->G a b)->Paired G l₁ l₂
 | _,_,.nil,_=>.nil
 | _,_,.cons r t,f=>.cons (f _ _ r) (Paired.mapP t f)
theorem bQ.stay (x:bQ P w H h a o) (k:∀ b u,(b=a\/H b=some (.own a))->h.get? b=some u->h'.get? b=some u)
  (ho:∀ b,H b=some (.own a)->H' b=some (.own a)) (ht:∀ b xs,H b=some (.tup xs)->H' b=some (.tup xs)):bQ P w H' h' a o:=by
 induction o with
 | lst xs=>obtain ⟨z,its,n,r,e⟩:=x; exact ⟨z,its,n,r,k _ _ (.inl rfl) e⟩
 | tup xs=>obtain ⟨z,its,r,ob,e,c⟩:=x; exact ⟨z,its,r,ob,k _ _ (.inl rfl) e,c⟩
 | dK kvs=>obtain ⟨z,y,vs,r,ob,es,ep,e,c⟩:=x; exact ⟨z,y,vs,r,ob,es,ep,k _ _ (.inl rfl) e,c⟩
 | dT kvs=>
  obtain ⟨z,y,xs,r,ob,es,ep,e,c⟩:=x
  exact ⟨z,y,xs,Paired.mapP r fun p q z=>⟨z.1,ht _ _ z.2.1,z.2.2⟩,ob,es,ep,k _ _ (.inl rfl) e,c⟩
 | set S n=>obtain ⟨ob,es,ep,t,e,c⟩:=x; exact ⟨ob,es,ep,t,k _ _ (.inl rfl) e,c⟩
 | ins C dx fs=>
  obtain ⟨d,z,ne,e,mA,⟨od,es,ep,e2,c⟩,r⟩:=x
  exact ⟨ho _ d,z,ne,k _ _ (.inl rfl) e,mA,⟨od,es,ep,k _ _ (.inr d) e2,c⟩,r⟩
 | own y=>obtain ⟨ob,e⟩:=x; exact ⟨ob,k _ _ (.inl rfl) e⟩
 | xd fs=>obtain ⟨mA,⟨od,es,ep,e,c⟩,r⟩:=x; exact ⟨mA,⟨od,es,ep,k _ _ (.inl rfl) e,c⟩,r⟩
 | rng lo hi=>obtain ⟨t,u,v,e⟩:=x; exact ⟨t,u,v,k _ _ (.inl rfl) e⟩
 | frz ob u ih=>obtain ⟨e,q⟩:=x; exact ⟨k _ _ (.inl rfl) e,ih q⟩
 | tbl ps=>
  have e:h.get? a=some { cls:=.none,data:=.fields ps }:=x
  show h'.get? a=some { cls:=.none,data:=.fields ps }
  exact k a _ (.inl rfl) e
 | met f y=>
  have e:h.get? a=some (Sj (.ref f) (.ref y)):=x
  show h'.get? a=some (Sj (.ref f) (.ref y))
  exact k a _ (.inl rfl) e
 | ext φ=>obtain ⟨p,⟨o,e⟩,st⟩:=x; exact ⟨st _ _ p fun o q=>k _ _ (.inl rfl) q,⟨o,k _ _ (.inl rfl) e⟩,st⟩
theorem HOk.lt (x:HOk P w H h) (e:H a=some o):a < h.objs.size:=(x a o e).lt
theorem HOk.fresh (x:HOk P w H h) (e:h.objs.size<=a):H a=none:=by
 cases q:H a with
 | none=>rfl
 | some u=>exact absurd (NB (x.lt q) e) (OX _)
theorem HOk.kept (x:HOk P w H h) (k:∀ b u,h.get? b=some u->h'.get? b=some u):HOk P w H h':=fun a o e=>
 (x a o e).stay (fun b u _ q=>k b u q) (fun _ q=>q) fun _ _ q=>q
theorem HOk.laid (x:HOk P w H h) (k:∀ b u,h.get? b=some u->h'.get? b=some u) (hp:h.objs.size<=a) (new:bQ P w (upd H a o) h' a o):HOk P w (upd H a o) h':=fun b u e=>by
 have hn:=x.fresh hp
 by_cases hb:b=a
 ·subst hb; rw [ay] at e; cases e; exact new
 ·rw [aQ hb] at e
  exact (x b u e).stay (fun c v _ q=>k c v q) (fun c q=>by rw [aQ (bn q hn)]; exact q) fun c xs q=>by rw [aQ (bn q hn)]; exact q
end
noncomputable def Rd (H:Hp) (a:Addr) (u:HO):Prop:=H a=some u\/∃ o,H a=some (.frz o u)
theorem Rd.of {H:Hp} {a:Addr} {u:HO} (h:H a=some u):Rd H a u:=.inl h
theorem Rd.ok {P:Program} {w:World} {H:Hp} {h:Heap} {a:Addr} {u:HO} (r:Rd H a u) (x:HOk P w H h):bQ P w H h a u:=by
 rcases r with r | ⟨o,r⟩
 ·exact x a u r
 ·obtain ⟨_,q⟩:=x a _ r
  exact q
noncomputable def Mut:Option HO->Prop
 | some (.lst _)=>True
 | some (.dK _)=>True
 | some (.dT _)=>True
 | some (.set _ _)=>True
 | some (.ins _ _ _)=>True
 | some (.ext _)=>True
 | _=>False
section
variable {P:Program} {w:World} {H:Hp} {h h':Heap} {x e:Addr} {o':HO}
theorem HOk.write (ok:HOk P w H h) (mu:Mut (H x)) (he:e=x\/H e=some (.own x)) (k:∀ b u,b≠e->h.get? b=some u->h'.get? b=some u) (heo:∃ u,h'.get? e=some u)
  (new:bQ P w (upd H x o') h' x o'):HOk P w (upd H x o') h':=fun b u q=>by
 have nown:∀ c y,H c=some (.own y)->c≠x:=fun c y r z=>by subst z; rw [r] at mu; exact mu
 have ntup:∀ c xs,H c=some (.tup xs)->c≠x:=fun c xs r z=>by subst z; rw [r] at mu; exact mu
 by_cases hb:b=x
 ·subst hb; rw [ay] at q; cases q; exact new
 ·rw [aQ hb] at q
  by_cases hbe:b=e
  ·have q':H b=some (.own x):=by
    rcases he with z | z
    ·exact absurd (hbe.trans z) hb
    ·rw [hbe]; exact z
   rw [q] at q'; cases q'
   obtain ⟨v,hv⟩:=heo
   exact ⟨v,by rw [hbe]; exact hv⟩
  ·refine (ok b u q).stay (fun c v hc r=>k c v ?_ r) (fun c r=>by rw [aQ (nown c b r)]; exact r) fun c xs r=>by rw [aQ (ntup c xs r)]; exact r
   rcases hc with rfl | hc
   ·exact hbe
   ·rintro rfl
    rcases he with z | z
    ·exact nown c b hc z
    ·rw [hc] at z; cases z; exact hb rfl
end
structure Un (fs ex:List Addr) (H H':Hp) (h h':Heap):Prop where
 keep:∀ b o,h.get? b=some o->H b=none->b∉fs->b∉ex->h'.get? b=some o
 slot:∀ b o,h.get? b=some o->H b=none->b∈fs->b∉ex->∃ sl,h'.get? b=some { o with slots:=sl }
 free:∀ b o,h.get? b=some o->H b=none->b∉ex->H' b=none
 there:∀ b o,h.get? b=some o->b∉ex->∃ o',h'.get? b=some o'
 tups:∀ b xs,H b=some (.tup xs)->H' b=some (.tup xs)
 frzs:∀ b o u,H b=some (.frz o u)->H' b=some (.frz o u)
 tbls:∀ b ps,H b=some (.tbl ps)->∃ more,H' b=some (.tbl (ps++more))
section
variable {fs fs' ex ex':List Addr} {H H1 H2:Hp} {h h1 h2 h':Heap} {a x e:Addr} {o:HO}
theorem Un.any (u:Un fs ex H H1 h h1) {b:Addr} {ob:Obj} (q:h.get? b=some ob) (n:H b=none) (hx:b∉ex):∃ sl,h1.get? b=some { ob with slots:=sl }:=by
 by_cases hb:b∈fs
 ·exact u.slot b ob q n hb hx
 ·exact ⟨ob.slots,u.keep b ob q n hb hx⟩
theorem Un.trans (a:Un fs ex H H1 h h1) (b:Un fs ex H1 H2 h1 h2):Un fs ex H H2 h h2 where
 keep:=fun c ob q n hc hx=>b.keep c ob (a.keep c ob q n hc hx) (a.free c ob q n hx) hc hx
 slot:=fun c ob q n hc hx=>by
  obtain ⟨sl,e1⟩:=a.slot c ob q n hc hx
  obtain ⟨sl',e2⟩:=b.slot c _ e1 (a.free c ob q n hx) hc hx
  exact ⟨sl',e2⟩
 free:=fun c ob q n hx=>by
  obtain ⟨o',e1⟩:=a.there c ob q hx
  exact b.free c o' e1 (a.free c ob q n hx) hx
 there:=fun c ob q hx=>by
  obtain ⟨o',e1⟩:=a.there c ob q hx
  exact b.there c o' e1 hx
 tups:=fun c xs q=>b.tups c xs (a.tups c xs q)
 frzs:=fun c ob xs q=>b.frzs c ob xs (a.frzs c ob xs q)
 tbls:=fun c ps q=>by
  obtain ⟨m1,e1⟩:=a.tbls c ps q
  obtain ⟨m2,e2⟩:=b.tbls c _ e1
  exact ⟨m1++m2,by rw [e2,Uw]⟩
theorem Un.kept (k:∀ b u,h.get? b=some u->h'.get? b=some u):Un fs ex H H h h':=
 ⟨fun b ob q _ _ _=>k b ob q,fun b ob q _ _ _=>⟨ob.slots,k b ob q⟩,fun _ _ _ n _=>n,fun b ob q _=>⟨ob,k b ob q⟩,fun _ _ q=>q,fun _ _ _ q=>q,fun _ ps q=>⟨#[],by rw [q]; simp⟩⟩
theorem Un.refl:Un fs ex H H h h:=Un.kept fun _ _ q=>q
theorem Un.laid (k:∀ b u,h.get? b=some u->h'.get? b=some u) (hp:h.objs.size<=a) (hn:H a=none):Un fs ex H (upd H a o) h h' where
 keep:=fun b u q _ _ _=>k b u q
 slot:=fun b u q _ _ _=>⟨u.slots,k b u q⟩
 free:=fun b u q n _=>by rw [aQ (NN (NB (Ni q) hp))]; exact n
 there:=fun b u q _=>⟨u,k b u q⟩
 tups:=fun b xs q=>by rw [aQ (bn q hn)]; exact q
 frzs:=fun b u xs q=>by rw [aQ (bn q hn)]; exact q
 tbls:=fun b ps q=>⟨#[],by rw [aQ (bn q hn),q]; simp⟩
theorem Un.write (mu:Mut (H x)) (he:e=x\/H e=some (.own x)) (k:∀ b u,b≠e->h.get? b=some u->h'.get? b=some u) (heo:∃ u,h'.get? e=some u):Un fs ex H (upd H x o) h h':=by
 have hx:∀ b,H b=none->b≠x:=fun b n z=>by subst z; rw [n] at mu; exact mu
 have hb:∀ b,H b=none->b≠e:=fun b n z=>by
  subst z
  rcases he with r | r
  ·exact hx b n r
  ·rw [n] at r; cases r
 have hm:∀ b u,H b=some u->¬ Mut (some u)->b≠x:=fun b u q nm z=>by subst z; rw [q] at mu; exact nm mu
 refine ⟨fun b u q n _ _=>k b u (hb b n) q,fun b u q n _ _=>⟨u.slots,k b u (hb b n) q⟩,fun b u q n _=>by rw [aQ (hx b n)]; exact n,fun b u q _=>?_,
  fun b xs q=>by rw [aQ (hm b _ q fun z=>z)]; exact q,fun b u xs q=>by rw [aQ (hm b _ q fun z=>z)]; exact q,fun b ps q=>⟨#[],by rw [aQ (hm b _ q fun z=>z),q]; simp⟩⟩
 by_cases hbe:b=e
 ·subst hbe; exact heo
 ·exact ⟨u,k b u hbe q⟩
theorem Un.mono (u:Un fs ex H H1 h h1) (hs:∀ b∈fs,b∈fs') (hx:∀ b∈ex,b∈ex'):Un fs' ex' H H1 h h1:=
 ⟨fun b ob q n hb he=>u.keep b ob q n (fun z=>hb (hs b z)) fun z=>he (hx b z),fun _ _ q n _ he=>u.any q n fun z=>he (hx _ z),fun b ob q n he=>u.free b ob q n fun z=>he (hx b z),fun b ob q he=>u.there b ob q fun z=>he (hx b z),u.tups,u.frzs,u.tbls⟩
end
noncomputable def trk (h:Heap) (H:Hp):List Addr:=(NC h.objs.size).filter fun a=>(H a).isSome
noncomputable def pQ (h:Heap) (H:Hp):Heap:=PySem.W.hideAll h (trk h H)
theorem FL (h:Heap) (H:Hp):(pQ h H).objs.size=h.objs.size:=PySem.W.hideAll_size _ _
theorem Hk {h:Heap} {H:Hp} {b:Addr} {o:Obj} (e:h.get? b=some o) (n:H b=none):(pQ h H).get? b=some o:=
 PySem.W.hideAll_get _ e fun hm=>by
  have q:(H b).isSome=true:=(Py.mp hm).2
  rw [n] at q; simp at q
theorem JQ {h:Heap} {H:Hp} {b:Addr} {o:Obj} (e:(pQ h H).get? b=some o):h.get? b=some o/\H b=none:=by
 have e':h.get? b=some o:=PySem.W.of_hideAll (trk h H) e
 refine ⟨e',?_⟩
 cases q:H b with
 | none=>rfl
 | some x=>
  have hm:b∈trk h H:=Py.mpr ⟨O1.mpr (Ni e'),by simp [q]⟩
  have z:(pQ h H).get? b=none:=PySem.W.hideAll_none (trk h H) hm
  rw [z] at e; cases e
noncomputable def JR (g h:Heap) (L:Addr):List (Addr×Obj):=(NC h.objs.size).filterMap fun a=>if a=L\/(g.get? a).isSome=true then none else (h.get? a).map fun o=>(a,o)
noncomputable def dy (g h:Heap) (L d:Addr):List (Addr×Obj):=(JR g h L).filter fun p=>decide (p.1≠d)
end L2
namespace L2
open PySem PySem.Spec PyProof.Rows
structure Mod (K:Fg) (mg:Str->Option Value) (base:Heap):Prop where
 kin:K.In base
 glob:base.Ns NJ mg
 blt:∃ mb,base.Ns VH mb/\∀ x:Str,x≠"__name__"->mb x=QP x
 nolimit:base.NoLimit
set_option genInjectivity false in
structure Cx where
 prog:Program
 w:World
 K:Fg
 mg:Str->Option Value
 base:Heap
 A:Around
 N:List Str
 s₀:Shared
 H₀:Hp
 env:Env
 outer:List Env
 stack:List Env
 ex:List Addr
 fn:Str->Bool
 calm:Bool
 pn:List (Addr×Obj)
 xe:Value->Shared->Prop
noncomputable def frs (l:List Env):List Addr:=l.filterMap (·.frame)
noncomputable abbrev Cx.fs (X:Cx):List Addr:=frs X.outer
noncomputable def Vis (sc:Scope) (x:Str):Prop:=sc.names.lookup x=some .local\/sc.names.lookup x=some .cell\/sc.names.lookup x=some .free
noncomputable def Loc (sc:Scope) (x:Str):Prop:=sc.names.lookup x=some .local\/sc.names.lookup x=some .cell
noncomputable def K3 (env:Env) (h:Heap) (m:Str->Option Value) (x:Str) (u:Value):Prop:=
 (env.kindOf x=some .local/\m x=some u)\/((env.kindOf x=some .cell\/env.kindOf x=some .free)/\∃ c,env.cells.lookup x=some c/\h.IsCell c (some u))
structure Cx.Ok (X:Cx):Prop where
 mod:Mod X.K X.mg X.base
 kind:X.env.scope.kind=.function
 glob:X.env.globals=NJ
 blt:X.env.builtins=VH
 above:X.s₀.heap.objs.size<=X.env.locals
 inj:∀ x y c,X.env.cells.lookup x=some c->X.env.cells.lookup y=some c->x=y
 has:∀ x,(X.env.kindOf x=some .cell\/X.env.kindOf x=some .free)->∃ c,X.env.cells.lookup x=some c
 cab:∀ x c,X.fn x=true->X.env.cells.lookup x=some c->X.s₀.heap.objs.size<=c
 hd:X.calm=true->X.A.handled=none
 frames:X.A.frames=some X.stack
 stk:X.stack=X.outer\/(X.stack=X.env :: X.outer/\X.env.frame=some X.env.locals)
 exf:∀ b∈X.ex,b≠X.env.locals/\∀ x c,X.env.cells.lookup x=some c->c≠b
 bs:∀ b o,X.base.get? b=some o->X.s₀.heap.get? b=some o/\X.H₀ b=none
 bsz:X.base.objs.size<=X.s₀.heap.objs.size
 noex:∀ b o,X.base.get? b=some o->b∉X.ex
 exfs:∀ b∈X.ex,b∉X.fs
 funs:X.s₀.heap.FunFrames X.base X.outer
 frf:∀ b∈X.fs,X.H₀ b=none
structure Inv (X:Cx) (pins:List (Addr×Obj)) (σ:List (Option V)) (H:Hp) (s:Shared):Prop where
 ok:X.Ok
 os:s.os=X.s₀.os
 bare:AllBare s.gens
 base:Un X.fs X.ex X.H₀ H X.s₀.heap s.heap
 loc:∃ m,s.heap.Ns X.env.locals m/\∀ (i:Nat) (x:Str) (v:V),X.N[i]?=some x->σ[i]?=some (some v)->Vis X.env.scope x->∃ u,aK v u/\K3 X.env s.heap m x u
 cell:∀ x c,X.env.cells.lookup x=some c->∃ v,s.heap.IsCell c v
 free:H X.env.locals=none
 freeC:∀ x c,X.env.cells.lookup x=some c->H c=none
 pin:∀ p∈X.pn++pins,s.heap.get? p.1=some p.2/\H p.1=none/\p.1≠X.env.locals/\p.1∉X.fs/\∀ v,p.2.data≠.cell v
 hok:HOk X.prog X.w H s.heap
 len:σ.length=X.N.length
section
variable {X:Cx} {pins:List (Addr×Obj)} {σ:List (Option V)} {H H':Hp} {s:Shared} {h':Heap}
theorem Cx.Ok.nofr (ok:X.Ok) {b:Addr} {o:Obj} (e:X.base.get? b=some o):b∉X.fs:=fun hb=>by
 have:=(ok.funs.mem hb).1
 rw [e] at this; cases this
theorem Inv.bs (I:Inv X pins σ H s):∀ b o,X.base.get? b=some o->s.heap.get? b=some o/\H b=none:=fun b o e=>
 ⟨I.base.keep b o (I.ok.bs b o e).1 (I.ok.bs b o e).2 (I.ok.nofr e) (I.ok.noex b o e),I.base.free b o (I.ok.bs b o e).1 (I.ok.bs b o e).2 (I.ok.noex b o e)⟩
theorem Inv.bk (I:Inv X pins σ H s):∀ b o,X.base.get? b=some o->s.heap.get? b=some o:=fun b o e=>(I.bs b o e).1
theorem Inv.mod (I:Inv X pins σ H s):Mod X.K X.mg X.base:=I.ok.mod
theorem Inv.kIn (I:Inv X pins σ H s):X.K.In s.heap:=I.ok.mod.kin.keeps I.bk
theorem Inv.nolimit (I:Inv X pins σ H s):s.heap.NoLimit:=I.ok.mod.nolimit.keeps I.bk
theorem Inv.lt (I:Inv X pins σ H s):X.env.locals < s.heap.objs.size:=let ⟨_,hn,_⟩:=I.loc; hn.lt
theorem Inv.sz (I:Inv X pins σ H s):X.s₀.heap.objs.size<=s.heap.objs.size:=NQ I.ok.above (Oa I.lt)
theorem Inv.nofs (I:Inv X pins σ H s) {a:Addr} (h:s.heap.objs.size<=a):a∉X.fs:=fun hb=>by
 obtain ⟨_,o,ho,_⟩:=I.ok.funs.mem hb
 exact absurd (NB (Ni ho) (NQ I.sz h)) (OX _)
theorem Inv.cne (I:Inv X pins σ H s):∀ x c,X.env.cells.lookup x=some c->c≠X.env.locals:=fun x c e z=>by
 obtain ⟨v,o,ho,hd⟩:=I.cell x c e
 obtain ⟨m,⟨o',es,ep,ho',hd',_⟩,_⟩:=I.loc
 rw [z,ho'] at ho; cases ho; rw [hd'] at hd; cases hd
theorem Inv.funs (I:Inv X pins σ H s):s.heap.FunFrames X.base X.outer:=by
 have all:∀ (l:List Env),(∀ b∈frs l,b∈X.fs)->X.s₀.heap.FunFrames X.base l->s.heap.FunFrames X.base l:=by
  intro l
  induction l with
  | nil=>intro _ _; trivial
  | cons env r ih=>
   intro hs hl
   obtain ⟨hk,⟨L,o,hf,hn,ho,hd⟩,hr⟩:=hl
   have hL:L∈X.fs:=hs L (by unfold frs; rw [QK,hf]; exact Nd)
   obtain ⟨sl,e⟩:=I.base.slot L o ho (I.ok.frf L hL) hL fun z=>I.ok.exfs L z hL
   exact ⟨hk,⟨L,_,hf,hn,e,hd⟩,ih (fun b hb=>hs b (by unfold frs; rw [QK,hf]; exact Nn _ hb)) hr⟩
 exact all X.outer (fun _ hb=>hb) I.ok.funs
theorem Inv.stack (I:Inv X pins σ H s):s.heap.FunFrames X.base X.stack:=by
 rcases I.ok.stk with e | ⟨e,hf⟩
 ·rw [e]; exact I.funs
 ·rw [e]
  obtain ⟨m,hn,_⟩:=I.loc
  refine .cons (by rw [I.ok.kind]; decide) hf hn ?_ I.funs
  exact Heap.get?_none_of_le (NQ I.ok.bsz I.ok.above)
theorem Inv.stkSub (I:Inv X pins σ H s):∀ b∈frs X.stack,b∈X.env.locals :: X.fs:=fun b hb=>by
 rcases I.ok.stk with e | ⟨e,hf⟩
 ·rw [e] at hb; exact Nn _ hb
 ·rw [e] at hb
  unfold frs at hb
  rw [QK,hf] at hb
  exact hb
theorem Inv.stkFree (I:Inv X pins σ H s):∀ b∈frs X.stack,H b=none:=fun b hb=>by
 rcases Nc.mp (I.stkSub b hb) with e | hb
 ·rw [e]; exact I.free
 ·obtain ⟨_,o,ho,_⟩:=I.ok.funs.mem hb
  exact I.base.free b o ho (I.ok.frf b hb) fun z=>I.ok.exfs b z hb
theorem Inv.step {g':Array TX} {t':Nat} {d':Drawn} {ch:List Addr} (I:Inv X pins σ H s)
  (hch:∀ b∈ch,(b∈X.ex\/X.s₀.heap.objs.size<=b)/\b≠X.env.locals/\(∀ x c,X.env.cells.lookup x=some c->c≠b)/\∀ p∈X.pn++pins,p.1≠b)
  (keep:∀ b o,b≠X.env.locals->b∉X.fs->b∉ch->s.heap.get? b=some o->H b=none->h'.get? b=some o)
  (slot:∀ b o,b≠X.env.locals->b∈X.fs->b∉ch->s.heap.get? b=some o->H b=none->∃ sl,h'.get? b=some { o with slots:=sl }) (free:∀ b o,b∉ch->s.heap.get? b=some o->H b=none->H' b=none)
  (there:∀ b o,b∉ch->s.heap.get? b=some o->∃ o',h'.get? b=some o')
  (tups:∀ b xs,H b=some (.tup xs)->H' b=some (.tup xs)) (frzs:∀ b o u,H b=some (.frz o u)->H' b=some (.frz o u)) (tbls:∀ b ps,H b=some (.tbl ps)->∃ more,H' b=some (.tbl (ps++more)))
  (ns:∀ m,s.heap.Ns X.env.locals m->h'.Ns X.env.locals m) (hok:HOk X.prog X.w H' h') (hg:AllBare g'):
  Inv X pins σ H' { s with heap:=h',gens:=g',drawn:=d',toks:=t' }:=by
 have neL:∀ b o,X.s₀.heap.get? b=some o->b≠X.env.locals:=fun b o e=>NN (NB (Ni e) I.ok.above)
 have neC:∀ b o,X.s₀.heap.get? b=some o->b∉X.ex->b∉ch:=fun b o e hx hb=>by
  rcases (hch b hb).1 with z | z
  ·exact hx z
  ·exact absurd (NB (Ni e) z) (OX _)
 have cellK:∀ x c,X.env.cells.lookup x=some c->∀ v,s.heap.IsCell c v->h'.IsCell c v:=fun x c e v ⟨o,ho,hd⟩=>by
  have nch:c∉ch:=fun z=>(hch c z).2.2.1 x c e rfl
  by_cases hc:c∈X.fs
  ·obtain ⟨sl,q⟩:=slot c o (I.cne x c e) hc nch ho (I.freeC x c e)
   exact ⟨_,q,hd⟩
  ·exact ⟨o,keep c o (I.cne x c e) hc nch ho (I.freeC x c e),hd⟩
 refine ⟨I.ok,I.os,hg,⟨fun b o e n hb hx=>?_,fun b o e n hb hx=>?_,fun b o e n hx=>?_,fun b o e hx=>?_,fun b xs e=>tups b xs (I.base.tups b xs e),fun b o xs e=>frzs b o xs (I.base.frzs b o xs e),fun b ps e=>?_⟩,?_,fun x c e=>?_,?_,fun x c e=>?_,fun p hp=>?_,hok,I.len⟩
 ·exact keep b o (neL b o e) hb (neC b o e hx) (I.base.keep b o e n hb hx) (I.base.free b o e n hx)
 ·obtain ⟨sl,e1⟩:=I.base.slot b o e n hb hx
  obtain ⟨sl',e2⟩:=slot b _ (neL b o e) hb (neC b o e hx) e1 (I.base.free b o e n hx)
  exact ⟨sl',e2⟩
 ·obtain ⟨o',e1⟩:=I.base.there b o e hx
  exact free b o' (neC b o e hx) e1 (I.base.free b o e n hx)
 ·obtain ⟨o',e1⟩:=I.base.there b o e hx
  exact there b o' (neC b o e hx) e1
 ·obtain ⟨m1,e1⟩:=I.base.tbls b ps e
  obtain ⟨m2,e2⟩:=tbls b _ e1
  exact ⟨m1++m2,by rw [e2,Uw]⟩
 ·obtain ⟨m,hn,hl⟩:=I.loc
  refine ⟨m,ns m hn,fun i x v e1 e2 e3=>?_⟩
  obtain ⟨u,r,l⟩:=hl i x v e1 e2 e3
  refine ⟨u,r,?_⟩
  rcases l with l | ⟨k,c,e,z⟩
  ·exact .inl l
  ·exact .inr ⟨k,c,e,cellK x c e _ z⟩
 ·obtain ⟨v,z⟩:=I.cell x c e
  exact ⟨v,cellK x c e v z⟩
 ·obtain ⟨m,⟨o,_,_,ho,_⟩,_⟩:=I.loc
  exact free _ o (fun z=>(hch _ z).2.1 rfl) ho I.free
 ·obtain ⟨v,o,ho,hd⟩:=I.cell x c e
  exact free c o (fun z=>(hch c z).2.2.1 x c e rfl) ho (I.freeC x c e)
 ·obtain ⟨e,n,ne,nf,d⟩:=I.pin p hp
  have nch:p.1∉ch:=fun z=>(hch p.1 z).2.2.2 p hp rfl
  exact ⟨keep p.1 p.2 ne nf nch e n,free p.1 p.2 nch e n,ne,nf,d⟩
theorem Inv.un {t':Nat} (I:Inv X pins σ H s) (u:Un X.fs [] H H' s.heap h') (hok:HOk X.prog X.w H' h'):Inv X pins σ H' { s with heap:=h',toks:=t' }:=by
 obtain ⟨m,⟨o,es,ep,ho,r⟩,_⟩:=id I.loc
 obtain ⟨sl,hL⟩:=u.any ho I.free (by simp)
 exact I.step (g':=s.gens) (d':=s.drawn) (ch:=[]) (fun _ z=>nomatch z) (fun b o _ hb _ e n=>u.keep b o e n hb (by simp)) (fun b o _ hb _ e n=>u.slot b o e n hb (by simp)) (fun b o _ e n=>u.free b o e n (by simp)) (fun b o _ e=>u.there b o e (by simp)) u.tups u.frzs u.tbls (fun m' hm=>by
  obtain ⟨o',es',ep',ho',r'⟩:=hm
  rw [ho] at ho'; cases ho'
  exact ⟨_,es',ep',hL,r'⟩) hok I.bare
theorem Inv.call {g':Array TX} {t':Nat} {d':Drawn} {ch:List Addr} (I:Inv X pins σ H s) (u:Un (frs X.stack) ch H H' s.heap h') (hok:HOk X.prog X.w H' h') (hg:AllBare g')
  (hch:∀ b∈ch,(b∈X.ex\/X.s₀.heap.objs.size<=b)/\b≠X.env.locals/\(∀ x c,X.env.cells.lookup x=some c->c≠b)/\∀ p∈X.pn++pins,p.1≠b):
  Inv X pins σ H' { s with heap:=h',gens:=g',drawn:=d',toks:=t' }:=by
 obtain ⟨m,⟨o,es,ep,ho,r⟩,_⟩:=id I.loc
 obtain ⟨sl,hL⟩:=u.any ho I.free fun z=>(hch _ z).2.1 rfl
 exact I.step (ch:=ch) hch (fun b o hL hb hc e n=>u.keep b o e n (fun z=>(Nc.mp (I.stkSub b z)).elim hL hb) hc) (fun b o _ _ hc e n=>u.any e n hc) (fun b o hc e n=>u.free b o e n hc) (fun b o hc e=>u.there b o e hc) u.tups u.frzs u.tbls (fun m' hm=>by
  obtain ⟨o',es',ep',ho',r'⟩:=hm
  rw [ho] at ho'; cases ho'
  exact ⟨_,es',ep',hL,r'⟩) hok hg
theorem Inv.turned {t':Nat} {it:Addr} (I:Inv X pins σ H s) (k:∀ b o,b≠it->s.heap.get? b=some o->h'.get? b=some o) (hn:H it=none) (hL:it≠X.env.locals)
  (h1:it∈X.ex\/X.s₀.heap.objs.size<=it) (h2:∀ x c,X.env.cells.lookup x=some c->c≠it) (h3:∀ p∈X.pn++pins,p.1≠it):Inv X pins σ H { s with heap:=h',toks:=t' }:=by
 have nit:∀ b u,H b=some u->b≠it:=fun b u e z=>by rw [z,hn] at e; cases e
 refine I.step (g':=s.gens) (d':=s.drawn) (ch:=[it]) (fun b hb=>?_) (fun b o _ _ hc e _=>k b o (fun z=>hc (by simp [z])) e) (fun b o _ _ hc e _=>⟨o.slots,k b o (fun z=>hc (by simp [z])) e⟩) (fun _ _ _ _ n=>n)
  (fun b o hc e=>⟨o,k b o (fun z=>hc (by simp [z])) e⟩) (fun _ _ e=>e) (fun _ _ _ e=>e) (fun b ps e=>⟨#[],by rw [e]; simp⟩) (fun m hm=>?_) (fun b u e=>?_) I.bare
 ·have e:b=it:=by simpa using hb
  subst e
  exact ⟨h1,hL,h2,h3⟩
 ·obtain ⟨o,es,ep,ho,r⟩:=hm
  exact ⟨o,es,ep,k _ o (OJ hL) ho,r⟩
 ·refine (I.hok b u e).stay (fun c v hc q=>k c v ?_ q) (fun _ q=>q) fun _ _ q=>q
  rcases hc with z | z
  ·rw [z]; exact nit b u e
  ·exact nit c _ z
theorem Inv.tok (I:Inv X pins σ H s) (t:Nat):Inv X pins σ H { s with toks:=t }:=I.un (h':=s.heap) (t':=t) Un.refl I.hok
theorem Inv.kept {t':Nat} (I:Inv X pins σ H s) (k:∀ b u,s.heap.get? b=some u->h'.get? b=some u):Inv X pins σ H { s with heap:=h',toks:=t' }:=I.un (Un.kept k) (I.hok.kept k)
theorem Inv.laid {a:Addr} {o:HO} {t':Nat} (I:Inv X pins σ H s) (k:∀ b u,s.heap.get? b=some u->h'.get? b=some u) (hp:s.heap.objs.size<=a) (new:bQ X.prog X.w (upd H a o) h' a o):
  Inv X pins σ (upd H a o) { s with heap:=h',toks:=t' }:=I.un (Un.laid k hp (I.hok.fresh hp)) (I.hok.laid k hp new)
theorem Inv.write {x e:Addr} {o:HO} {t':Nat} (I:Inv X pins σ H s) (mu:Mut (H x)) (he:e=x\/H e=some (.own x)) (k:∀ b u,b≠e->s.heap.get? b=some u->h'.get? b=some u) (heo:∃ u,h'.get? e=some u)
  (new:bQ X.prog X.w (upd H x o) h' x o):Inv X pins σ (upd H x o) { s with heap:=h',toks:=t' }:=I.un (Un.write mu he k heo) (I.hok.write mu he k heo new)
theorem Inv.pins_of {pins':List (Addr×Obj)} (I:Inv X pins σ H s) (h:∀ p∈pins',s.heap.get? p.1=some p.2/\H p.1=none/\p.1≠X.env.locals/\p.1∉X.fs/\∀ v,p.2.data≠.cell v):Inv X pins' σ H s:=
 ⟨I.ok,I.os,I.bare,I.base,I.loc,I.cell,I.free,I.freeC,fun p hp=>(NH.mp hp).elim (fun z=>I.pin p (Ow _ z)) (h p),I.hok,I.len⟩
theorem AZ {N:List Str} (hN:N.Nodup) {i j:Nat} {x:Str} (a:N[i]?=some x) (b:N[j]?=some x):i=j:=by
 obtain ⟨h1,e1⟩:=Na.mp a
 obtain ⟨h2,e2⟩:=Na.mp b
 exact (List.getElem_inj hN).mp (e1.trans e2.symm)
theorem zc {M:Model} {A:Around} {E:Value->Shared->Prop} {i:Nat} {x:Str} {v:V} {u:Value} {Q:Unit->Shared->Prop} (I:Inv X pins σ H s) (hN:X.N.Nodup) (hi:X.N[i]?=some x) (hx:Loc X.env.scope x) (r:aK v u)
  (h:∀ s',Inv X pins (σ.set i (some v)) H s'->(∃ a,Nw a s.heap s'.heap/\(a=X.env.locals\/X.env.cells.lookup x=some a))->Q () s') (hf:X.fn x=true\/X.env.scope.names.lookup x=some .local:=by first | exact .inl rfl | exact .inr rfl | assumption):wpAny M A (storeName X.env x u) Q E s:=by
 obtain ⟨m,hn,hl⟩:=id I.loc
 have hcls:(X.env.scope.kind == .class || (X.env.scope.kind == .module && X.env.locals != X.env.globals))=false:=by rw [I.ok.kind]; rfl
 have hiσ:i < σ.length:=by rw [I.len]; exact (Na.mp hi).1
 have cne:=I.cne
 have tracked:∀ {a:Addr} {h':Heap},(∃ o,s.heap.get? a=some o/\H a=none)->Nw a s.heap h'->HOk X.prog X.w H h':=fun {a h'} ha hs b ob e=>by
  obtain ⟨_,_,hfree⟩:=ha
  refine (I.hok b ob e).stay (fun c w' hc q=>(hs.2 c ?_).trans q) (fun _ q=>q) fun _ _ q=>q
  rintro rfl
  rcases hc with rfl | hc
  ·rw [hfree] at e; cases e
  ·rw [hfree] at hc; cases hc
 rcases hx with hk | hk
 ·refine wpAny_storeName_local hk hn (fun h' hn' hs=>?_) hcls
  obtain ⟨oL,_,_,hoL,_⟩:=id hn
  refine h _ ⟨I.ok,I.os,I.bare,⟨fun b o e n hb hx=>?_,fun b o e n hb hx=>?_,I.base.free,fun b o e hx=>?_,I.base.tups,I.base.frzs,I.base.tbls⟩,⟨_,hn',fun j y v' e1 e2 e3=>?_⟩,fun y c e=>?_,I.free,I.freeC,fun p hp=>?_,tracked ⟨oL,hoL,I.free⟩ hs,by simpa using I.len⟩ ⟨_,hs,.inl rfl⟩
  ·exact (hs.2 b (NN (NB (Ni e) I.ok.above))).trans (I.base.keep b o e n hb hx)
  ·obtain ⟨sl,e1⟩:=I.base.slot b o e n hb hx
   exact ⟨sl,(hs.2 b (NN (NB (Ni e) I.ok.above))).trans e1⟩
  ·obtain ⟨o',e1⟩:=I.base.there b o e hx
   exact ⟨o',(hs.2 b (NN (NB (Ni e) I.ok.above))).trans e1⟩
  ·by_cases hj:j=i
   ·subst hj
    rw [hi] at e1; cases e1
    rw [Tn hiσ] at e2
    cases e2
    exact ⟨u,r,.inl ⟨hk,by simp⟩⟩
   ·rw [TY (OJ hj)] at e2
    obtain ⟨u',r',q⟩:=hl j y v' e1 e2 e3
    refine ⟨u',r',?_⟩
    rcases q with ⟨k,e⟩ | ⟨k,c,e,z⟩
    ·refine .inl ⟨k,?_⟩
     have:y≠x:=fun e=>hj (AZ hN e1 (e ▸ hi))
     simp [this,e]
    ·exact .inr ⟨k,c,e,z.sameBut hs (cne y c e)⟩
  ·obtain ⟨w',z⟩:=I.cell y c e
   exact ⟨w',z.sameBut hs (cne y c e)⟩
  ·obtain ⟨e,n,ne,nf,d⟩:=I.pin p hp
   exact ⟨(hs.2 p.1 ne).trans e,n,ne,nf,d⟩
 ·have hfn:X.fn x=true:=by
   rcases hf with z | z
   ·exact z
   ·rw [z] at hk; cases hk
  obtain ⟨c,hc⟩:=I.ok.has x (.inl hk)
  obtain ⟨w',z⟩:=I.cell x c hc
  refine wpAny_storeName_cell I.ok.kind hk hc z (fun h' hc' hs=>?_)
  obtain ⟨oc,hoc,hocd⟩:=id z
  refine h { s with heap:=h' } ⟨I.ok,I.os,I.bare,⟨fun b o e n hb hx=>?_,fun b o e n hb hx=>?_,I.base.free,fun b o e hx=>?_,I.base.tups,I.base.frzs,I.base.tbls⟩,⟨m,hn.sameBut hs (OJ (cne x c hc)),fun j y v' e1 e2 e3=>?_⟩,fun y c' e=>?_,I.free,I.freeC,fun p hp=>?_,tracked ⟨oc,hoc,I.freeC x c hc⟩ hs,by simpa using I.len⟩ ⟨c,hs,.inr hc⟩
  ·exact (hs.2 b (NN (NB (Ni e) (I.ok.cab x c hfn hc)))).trans (I.base.keep b o e n hb hx)
  ·obtain ⟨sl,e1⟩:=I.base.slot b o e n hb hx
   exact ⟨sl,(hs.2 b (NN (NB (Ni e) (I.ok.cab x c hfn hc)))).trans e1⟩
  ·obtain ⟨o',e1⟩:=I.base.there b o e hx
   exact ⟨o',(hs.2 b (NN (NB (Ni e) (I.ok.cab x c hfn hc)))).trans e1⟩
  ·by_cases hj:j=i
   ·subst hj
    rw [hi] at e1; cases e1
    rw [Tn hiσ] at e2
    cases e2
    exact ⟨u,r,.inr ⟨.inl hk,c,hc,hc'⟩⟩
   ·rw [TY (OJ hj)] at e2
    obtain ⟨u',r',q⟩:=hl j y v' e1 e2 e3
    refine ⟨u',r',?_⟩
    rcases q with q | ⟨k,c',e,z'⟩
    ·exact .inl q
    ·refine .inr ⟨k,c',e,z'.sameBut hs ?_⟩
     rintro rfl
     exact hj (AZ hN e1 (I.ok.inj _ _ _ e hc ▸ hi))
  ·by_cases hcc:c'=c
   ·subst hcc; exact ⟨_,hc'⟩
   ·obtain ⟨w2,z2⟩:=I.cell y c' e
    exact ⟨w2,z2.sameBut hs hcc⟩
  ·obtain ⟨e,n,ne,nf,d⟩:=I.pin p hp
   refine ⟨(hs.2 p.1 ?_).trans e,n,ne,nf,d⟩
   intro q
   rw [q,hoc] at e
   have q':oc=p.2:=Nl e
   exact d w' (by rw [<-q']; exact hocd)
theorem A0 {M:Model} {A:Around} {E:Value->Shared->Prop} {i:Nat} {x:Str} {v:V} {u:Value} {Q:Unit->Shared->Prop} (I:Inv X pins σ H s) (hN:X.N.Nodup) (hi:X.N[i]?=some x) (hx:Loc X.env.scope x) (r:aK v u)
  (h:∀ s',Inv X pins (σ.set i (some v)) H s'->Q () s') (hf:X.fn x=true\/X.env.scope.names.lookup x=some .local:=by first | exact .inl rfl | exact .inr rfl | assumption):wpAny M A (storeName X.env x u) Q E s:=
 zc I hN hi hx r (fun s' I' _=>h s' I') hf
theorem Inv.call' {s':Shared} {ch:List Addr} (I:Inv X pins σ H s) (ho:s'.os=s.os) (u:Un (frs X.stack) ch H H' s.heap s'.heap) (hok:HOk X.prog X.w H' s'.heap) (hg:AllBare s'.gens)
  (hch:∀ b∈ch,(b∈X.ex\/X.s₀.heap.objs.size<=b)/\b≠X.env.locals/\(∀ x c,X.env.cells.lookup x=some c->c≠b)/\∀ p∈X.pn++pins,p.1≠b):Inv X pins σ H' s':=by
 obtain ⟨h',g',d',t',o'⟩:=s'
 have e:o'=s.os:=ho
 subst e
 exact I.call (g':=g') (t':=t') (d':=d') u hok hg hch
end
noncomputable abbrev XK:=Value->Option Addr->Hp->Prop
noncomputable abbrev St:=List (Option V)
noncomputable abbrev VK:=V->Hp->Prop
noncomputable abbrev TE:=St->Hp->VK->Prop
noncomputable abbrev TT:=St->Hp->(Bool->Hp->Prop)->Prop
noncomputable abbrev TA:=St->Hp->(List V->Hp->Prop)->Prop
set_option genInjectivity false in
structure kh where
 nx:St->Hp->Prop
 rt:VK
 bk:St->Hp->Prop:=fun _ _=>False
 ct:St->Hp->Prop:=fun _ _=>False
noncomputable abbrev TS:=kh->St->Hp->Prop
noncomputable def EP (X:Cx) (pins:List (Addr×Obj)) (σ:St) (Q:VK) (u:Value) (s':Shared):Prop:=∃ v H',Inv X pins σ H' s'/\aK v u/\Q v H'
noncomputable def TP (X:Cx) (pins:List (Addr×Obj)) (σ:St) (Q:Bool->Hp->Prop) (b:Bool) (s':Shared):Prop:=∃ H',Inv X pins σ H' s'/\Q b H'
noncomputable def AP (X:Cx) (pins:List (Addr×Obj)) (σ:St) (Q:List V->Hp->Prop) (us:List Value) (s':Shared):Prop:=∃ vs H',Inv X pins σ H' s'/\aL vs us/\Q vs H'
noncomputable def SP (X:Cx) (pins:List (Addr×Obj)) (D:kh) (f:Flow) (s':Shared):Prop:=
 match f with
 | .next=>∃ σ' H',Inv X pins σ' H' s'/\D.nx σ' H'
 | .brk=>∃ σ' H',Inv X pins σ' H' s'/\D.bk σ' H'
 | .cont=>∃ σ' H',Inv X pins σ' H' s'/\D.ct σ' H'
 | .ret u=>∃ v σ' H',Inv X pins σ' H' s'/\aK v u/\D.rt v H'
noncomputable def PE (X:Cx) (e:Expr) (t:TE):Prop:=
 ∀ (pins:List (Addr×Obj)) (s:Shared) (σ:St) (H:Hp) (Q:VK),Inv X pins σ H s->t σ H Q->wpAny (model X.prog X.w) X.A (eval e X.env) (EP X pins σ Q) X.xe s
noncomputable def PT (X:Cx) (e:Expr) (t:TT):Prop:=
 ∀ (pins:List (Addr×Obj)) (s:Shared) (σ:St) (H:Hp) (Q:Bool->Hp->Prop),Inv X pins σ H s->t σ H Q->wpAny (model X.prog X.w) X.A (isTrue e X.env (eval e X.env)) (TP X pins σ Q) X.xe s
noncomputable def PW (X:Cx) (e:Expr) (t:TT):Prop:=
 ∀ (whole:Sem Value) (pins:List (Addr×Obj)) (s:Shared) (σ:St) (H:Hp) (Q:Bool->Hp->Prop),Inv X pins σ H s->t σ H Q->wpAny (model X.prog X.w) X.A (isTrue e X.env whole) (TP X pins σ Q) X.xe s
theorem PW.pt {X:Cx} {e:Expr} {t:TT} (h:PW X e t):PT X e t:=h _
noncomputable def PA (X:Cx) (es:List Expr) (t:TA):Prop:=
 ∀ (pos:Pos) (pins:List (Addr×Obj)) (s:Shared) (σ:St) (H:Hp) (Q:List V->Hp->Prop),Inv X pins σ H s->t σ H Q->wpAny (model X.prog X.w) X.A (spliced (backTo pos (NA es X.env))) (AP X pins σ Q) X.xe s
noncomputable def PS (X:Cx) (st:Stmt) (t:TS):Prop:=
 ∀ (pins:List (Addr×Obj)) (s:Shared) (σ:St) (H:Hp) (D:kh),Inv X pins σ H s->t D σ H->wpAny (model X.prog X.w) X.A (exec st X.env) (SP X pins D) X.xe s
noncomputable def PSs (X:Cx) (st:List Stmt) (t:TS):Prop:=
 ∀ (pins:List (Addr×Obj)) (s:Shared) (σ:St) (H:Hp) (D:kh),Inv X pins σ H s->t D σ H->wpAny (model X.prog X.w) X.A (execs st X.env) (SP X pins D) X.xe s
theorem thn {α:Type} {t:Sem α} {Q Q':α->Shared->Prop} {M:Model} {A:Around} {E:Value->Shared->Prop} {s:Shared} (h:wpAny M A t Q E s) (hQ:∀ a s,Q a s->Q' a s):wpAny M A t Q' E s:=OM h hQ fun _ _ x=>x
end L2
namespace L2
open PySem PySem.Spec PyProof.Rows
section
variable {X:Cx}
noncomputable def aa (i:Nat):TE:=fun σ H Q=>∃ v,σ[i]?=some (some v)/\Q v H
noncomputable def tC (v:V):TE:=fun _ H Q=>Q v H
theorem FM {i:Nat} {x:Str} {pos:Pos} (hN:X.N[i]?=some x) (hv:Vis X.env.scope x) (hd:(x == ("__debug__":Str))=false:=by decide) (hcd:(x == ("__classdict__":Str))=false:=by decide):PE X (.Name x pos) (aa i):=by
 intro pins s σ H Q I h
 obtain ⟨v,e,h⟩:=h
 obtain ⟨m,hn,hl⟩:=I.loc
 obtain ⟨u,r,l⟩:=hl i x v hN e hv
 have fin:EP X pins σ Q u s:=⟨v,H,I,r,h⟩
 rcases l with ⟨hk,hm⟩ | ⟨hk,c,hc,hcell⟩
 ·exact VI (wpAny_loadName_local I.ok.kind hk hn hm fin) hd
 ·rcases hk with hk | hk
  ·exact VI (wpAny_loadName_cell I.ok.kind hk hc hcell fin) hd
  ·exact VI (wpAny_loadName_free I.ok.kind hk hc hcell fin hcd) hd
theorem ao {i j pos}:PE X (.Constant (.int i) j pos) (tC (.int i)):=fun _ _ _ H _ I h=>wpAny_Constant_int ⟨.int i,H,I.tok _,⟨_,rfl⟩,h⟩
theorem cg {b j pos}:PE X (.Constant (.bool b) j pos) (tC (.bl b)):=fun _ _ _ H _ I h=>Constant_bool ⟨.bl b,H,I,rfl,h⟩
theorem K4 {j pos}:PE X (.Constant .none j pos) (tC .non):=fun _ _ _ H _ I h=>Constant_none ⟨.non,H,I,rfl,h⟩
theorem bh {x j pos}:PE X (.Constant (.str x) j pos) (tC (.str x)):=fun _ _ _ H _ I h=>Calls.Constant_str ⟨.str x,H,I.tok _,⟨_,rfl⟩,h⟩
noncomputable def Gl (X:Cx) (x:Str):Prop:=X.env.kindOf x=some .globalImplicit
theorem yg {E:Value->Shared->Prop} {pins:List (Addr×Obj)} {s:Shared} {σ:St} {H:Hp} {x:Str} {u:Value} {pos:Pos} {Q:Value->Shared->Prop} (I:Inv X pins σ H s) (hg:Gl X x) (hm:X.mg x=some u) (h:Q u s)
  (hd:(x == ("__debug__":Str))=false:=by decide):wpAny (model X.prog X.w) X.A (eval (.Name x pos) X.env) Q E s:=
 R7 I.ok.kind hg (Calls.loadGlobal_global (by rw [I.ok.glob]; exact I.mod.glob.keeps I.bk) hm h) hd
theorem iS {E:Value->Shared->Prop} {pins:List (Addr×Obj)} {s:Shared} {σ:St} {H:Hp} {x:Str} {u:Value} {pos:Pos} {Q:Value->Shared->Prop} (I:Inv X pins σ H s) (hg:Gl X x) (hm:X.mg x=none) (hv:QP x=some u) (h:Q u s)
  (hn:x≠"__name__":=by decide) (hd:(x == ("__debug__":Str))=false:=by decide):wpAny (model X.prog X.w) X.A (eval (.Name x pos) X.env) Q E s:=by
 obtain ⟨mb,h1,h2⟩:=I.mod.blt
 exact R7 I.ok.kind hg (Calls.loadGlobal_builtin (by rw [I.ok.glob]; exact I.mod.glob.keeps I.bk) hm (by rw [I.ok.blt]; exact h1.keeps I.bk) ((h2 x hn).trans hv) h) hd
theorem ki {x:Str} {v:V} {u:Value} {pos:Pos} (hg:Gl X x) (hm:X.mg x=some u) (r:aK v u) (hd:(x == ("__debug__":Str))=false:=by decide):PE X (.Name x pos) (tC v):=
 fun _ _ _ H _ I h=>yg I hg hm ⟨v,H,I,r,h⟩ hd
theorem dU {x:Str} {v:V} {u:Value} {pos:Pos} (hg:Gl X x) (hm:X.mg x=none) (hv:QP x=some u) (r:aK v u) (hn:x≠"__name__":=by decide) (hd:(x == ("__debug__":Str))=false:=by decide):PE X (.Name x pos) (tC v):=
 fun _ _ _ H _ I h=>iS I hg hm hv ⟨v,H,I,r,h⟩ hn hd
variable {a b:Expr} {ta tb:TE} {pos:Pos}
noncomputable def tB (t:TE):TT:=fun σ H Q=>t σ H fun x H1=>∃ c,x=.bl c/\Q c H1
theorem bG {e:Expr} {t:TE} (h:PE X e t) (he:∀ whole,isTrue e X.env whole=(do let v <-whole; standAt e.pos; holding [v] (truthy v)):=by intro _; rfl):PT X e (tB t):=by
 intro pins s σ H Q I hw
 refine isTrue_plain (thn (h pins s σ H _ I hw) fun v s1 ⟨x,H1,I1,r1,q1⟩=>?_) (he _)
 obtain ⟨d,rfl,q⟩:=q1
 cases r1
 exact Pi ⟨H1,I1,q⟩
variable {tA tB':TT} {dy:List Expr}
noncomputable def A1 (t u:TT):TT:=fun σ H Q=>t σ H fun c H1=>if c=true then u σ H1 Q else Q false H1
noncomputable def tOr (t u:TT):TT:=fun σ H Q=>t σ H fun c H1=>if c=true then Q true H1 else u σ H1 Q
noncomputable def dt (t:TT):TT:=fun σ H Q=>t σ H fun c H1=>Q (!c) H1
theorem Df (ha:PT X a tA):PW X (.BoolOp .And [a] pos) tA:=by
 intro wh pins s σ H Q I h
 refine isTrue_and (thn (ha pins s σ H Q I h) fun c s1 e=>?_)
 cases c with
 | true=>exact isTrue_and_nil e
 | false=>exact e
theorem jy (ha:PT X a tA):PW X (.BoolOp .Or [a] pos) tA:=by
 intro wh pins s σ H Q I h
 refine isTrue_or (thn (ha pins s σ H Q I h) fun c s1 e=>?_)
 cases c with
 | false=>exact isTrue_or_nil e
 | true=>exact e
theorem A2 (ha:PT X a tA) (hb:PW X (.BoolOp .And (b :: dy) pos) tB'):PW X (.BoolOp .And (a :: b :: dy) pos) (A1 tA tB'):=by
 intro wh pins s σ H Q I h
 refine isTrue_and (thn (ha pins s σ H _ I h) fun c s1 ⟨H1,I1,q1⟩=>?_)
 cases c with
 | true=>exact hb wh pins s1 σ H1 Q I1 q1
 | false=>exact ⟨H1,I1,q1⟩
theorem mq (ha:PT X a tA) (hb:PW X (.BoolOp .Or (b :: dy) pos) tB'):PW X (.BoolOp .Or (a :: b :: dy) pos) (tOr tA tB'):=by
 intro wh pins s σ H Q I h
 refine isTrue_or (thn (ha pins s σ H _ I h) fun c s1 ⟨H1,I1,q1⟩=>?_)
 cases c with
 | true=>exact ⟨H1,I1,q1⟩
 | false=>exact hb wh pins s1 σ H1 Q I1 q1
theorem bV (ha:PT X a tA):PT X (.UnaryOp .Not a pos) (dt tA):=by
 intro pins s σ H Q I h
 exact isTrue_not (ha pins s σ H (fun c H1=>Q (!c) H1) I h)
noncomputable def ik (ta tb:TE):TE:=fun σ H Q=>ta σ H fun x H1=>∃ c,x=.bl c/\if c=true then tb σ H1 Q else Q (.bl false) H1
noncomputable def yh (ta tb:TE):TE:=fun σ H Q=>ta σ H fun x H1=>∃ c,x=.bl c/\if c=true then Q (.bl true) H1 else tb σ H1 Q
noncomputable def vW (ta:TE):TE:=fun σ H Q=>ta σ H fun x H1=>∃ c,x=.bl c/\Q (.bl (!c)) H1
theorem g9 {op} {t:TE} (h:PE X a t):PE X (.BoolOp op [a] pos) t:=fun pins s σ H Q I hw=>BoolOp_one (h pins s σ H Q I hw)
theorem jz (ha:PE X a ta) (hb:PE X (.BoolOp .And (b :: dy) pos) tb):PE X (.BoolOp .And (a :: b :: dy) pos) (ik ta tb):=by
 intro pins s σ H Q I h
 refine BoolOp_and (thn (ha pins s σ H _ I h) fun v s1 ⟨x,H1,I1,r1,q1⟩=>?_)
 obtain ⟨c,rfl,q1⟩:=q1
 cases r1
 refine Pi ?_
 cases c with
 | true=>exact hb pins s1 σ H1 Q I1 q1
 | false=>exact ⟨.bl false,H1,I1,rfl,q1⟩
theorem Ju (ha:PE X a ta) (hb:PE X (.BoolOp .Or (b :: dy) pos) tb):PE X (.BoolOp .Or (a :: b :: dy) pos) (yh ta tb):=by
 intro pins s σ H Q I h
 refine BoolOp_or (thn (ha pins s σ H _ I h) fun v s1 ⟨x,H1,I1,r1,q1⟩=>?_)
 obtain ⟨c,rfl,q1⟩:=q1
 cases r1
 refine Pi ?_
 cases c with
 | false=>exact hb pins s1 σ H1 Q I1 q1
 | true=>exact ⟨.bl true,H1,I1,rfl,q1⟩
theorem A3 (ha:PE X a ta):PE X (.UnaryOp .Not a pos) (vW ta):=by
 intro pins s σ H Q I h
 refine UnaryOp_ (thn (ha pins s σ H _ I h) fun v s1 ⟨x,H1,I1,r1,q1⟩=>?_)
 obtain ⟨c,rfl,q1⟩:=q1
 cases r1
 exact not_of (Pi ⟨.bl (!c),H1,I1,rfl,q1⟩)
noncomputable def tIf (t:TT) (ta tb:TE):TE:=fun σ H Q=>t σ H fun c H1=>if c=true then ta σ H1 Q else tb σ H1 Q
end
end L2
namespace L2
open PySem PySem.Spec PyProof.Rows
noncomputable def SqL (K:Fg) (H:Hp) (a:Addr) (xs:List V):Prop:=
 Rd H a (.lst xs)\/
  ∃ (o:Obj) (its:Array Value) (n:Nat),K.lookup a=some o/\o.cls=.type "list"/\o.dict=none/\o.data=.seq its n/\its.size<=Nh/\aL xs its.toList
noncomputable def SqT (K:Fg) (H:Hp) (a:Addr) (xs:List V):Prop:=
 Rd H a (.tup xs)\/
  ∃ (o:Obj) (its:Array Value) (n:Nat),K.lookup a=some o/\o.cls=.type "tuple"/\o.data=.seq its n/\its.size<=Nh/\aL xs its.toList
noncomputable def MM:Value->Option V
 | .none=>some .non
 | .bool b=>some (.bl b)
 | .int i _=>some (.int i)
 | .str x _=>some (.str x)
 | .bytes b _=>some (.byt b)
 | .float b _=>some (.flt b)
 | .ref a=>some (.ref a)
 | .type n=>some (.ty n)
 | _=>none
theorem aK.abs {x:V} {u:Value} (r:aK x u):MM u=some x:=by
 cases x with
 | non=>cases r; rfl
 | bl _=>cases r; rfl
 | int _=>obtain ⟨t,rfl⟩:=r; rfl
 | str _=>obtain ⟨t,rfl⟩:=r; rfl
 | byt _=>obtain ⟨t,rfl⟩:=r; rfl
 | flt _=>obtain ⟨t,rfl⟩:=r; rfl
 | ref _=>cases r; rfl
 | ty _=>cases r; rfl
theorem aK.inj {x y:V} {u:Value} (r:aK x u) (q:aK y u):x=y:=Nl (r.abs.symm.trans q.abs)
theorem aL.inj {xs ys:List V} {us:List Value} (h:aL xs us):aL ys us->xs=ys:=by
 induction h generalizing ys with
 | nil=>intro h; cases h; rfl
 | cons r t ih=>intro h; cases h with
  | cons r' t'=>rw [r.inj r',ih t']
section
variable {X:Cx} {pins:List (Addr×Obj)} {σ:St} {H:Hp} {s:Shared} {a:Addr} {xs ys:List V}
theorem SqL.of {K:Fg} (h:H a=some (.lst xs)):SqL K H a xs:=.inl (.inl h)
theorem SqT.of {K:Fg} (h:H a=some (.tup xs)):SqT K H a xs:=.inl (.inl h)
theorem Inv.list (I:Inv X pins σ H s) (h:SqL X.K H a xs):∃ its:List Value,aL xs its/\PlainL s.heap a its.toArray/\xs.length<=Nh:=by
 rcases h with h | ⟨o,its,n,hk,hc,hd,hs,hz,r⟩
 ·obtain ⟨z,its,n,r,e⟩:=h.ok I.hok
  exact ⟨its,r,⟨_,n,e,rfl,rfl,rfl⟩,z⟩
 ·refine ⟨its.toList,r,⟨o,n,I.kIn a o hk,hc,hd,by simpa using hs⟩,?_⟩
  have e:=r.length
  simp only [NS] at e
  omega
theorem Inv.tuple (I:Inv X pins σ H s) (h:SqT X.K H a xs):∃ its:List Value,aL xs its/\IsTup s.heap a its.toArray/\xs.length<=Nh:=by
 rcases h with h | ⟨o,its,n,hk,hc,hs,hz,r⟩
 ·obtain ⟨z,its,r,p⟩:=h.ok I.hok
  exact ⟨its,r,p.tup,z⟩
 ·refine ⟨its.toList,r,⟨o,I.kIn a o hk,hc,n,by simpa using hs⟩,?_⟩
  have e:=r.length
  simp only [NS] at e
  omega
theorem Inv.list_inj (I:Inv X pins σ H s) (h:SqL X.K H a xs) (h':SqL X.K H a ys):xs=ys:=by
 obtain ⟨its,r,⟨o,n,e,_,_,d⟩,_⟩:=I.list h
 obtain ⟨its',r',⟨o',n',e',_,_,d'⟩,_⟩:=I.list h'
 rw [e] at e'; cases e'
 rw [d] at d'
 injection d' with d1 _
 have:its=its':=by simpa using congrArg Array.toList d1
 subst this
 exact r.inj r'
theorem Inv.tuple_inj (I:Inv X pins σ H s) (h:SqT X.K H a xs) (h':SqT X.K H a ys):xs=ys:=by
 obtain ⟨its,r,⟨o,e,_,n,d⟩,_⟩:=I.tuple h
 obtain ⟨its',r',⟨o',e',_,n',d'⟩,_⟩:=I.tuple h'
 rw [e] at e'; cases e'
 rw [d] at d'
 injection d' with d1 _
 have:its=its':=by simpa using congrArg Array.toList d1
 subst this
 exact r.inj r'
end
noncomputable abbrev Cx.wish (X:Cx) (E:Value->Shared->Prop):Cx:={ X with xe:=E }
noncomputable abbrev Cx.nox (X:Cx):Cx:=X.wish fun _ _=>False
theorem Cx.Ok.wish {X:Cx} (ok:X.Ok) (E:Value->Shared->Prop):(X.wish E).Ok:=
 ⟨ok.mod,ok.kind,ok.glob,ok.blt,ok.above,ok.inj,ok.has,ok.cab,ok.hd,ok.frames,ok.stk,ok.exf,ok.bs,ok.bsz,ok.noex,ok.exfs,ok.funs,ok.frf⟩
theorem Cx.Ok.unwish {X:Cx} {E:Value->Shared->Prop} (ok:(X.wish E).Ok):X.Ok:=
 ⟨ok.mod,ok.kind,ok.glob,ok.blt,ok.above,ok.inj,ok.has,ok.cab,ok.hd,ok.frames,ok.stk,ok.exf,ok.bs,ok.bsz,ok.noex,ok.exfs,ok.funs,ok.frf⟩
section
variable {X:Cx} {pins:List (Addr×Obj)} {σ:St} {H:Hp} {s:Shared} {E:Value->Shared->Prop}
theorem Inv.wish (I:Inv X pins σ H s) (E:Value->Shared->Prop):Inv (X.wish E) pins σ H s:=⟨I.ok.wish E,I.os,I.bare,I.base,I.loc,I.cell,I.free,I.freeC,I.pin,I.hok,I.len⟩
theorem Inv.unwish (I:Inv (X.wish E) pins σ H s):Inv X pins σ H s:=⟨I.ok.unwish,I.os,I.bare,I.base,I.loc,I.cell,I.free,I.freeC,I.pin,I.hok,I.len⟩
theorem SP.unwish {D:kh} {f:Flow} {s':Shared} (h:SP (X.wish E) pins D f s'):SP X pins D f s':=by
 cases f with
 | next=>obtain ⟨σ',H',I,q⟩:=h; exact ⟨σ',H',I.unwish,q⟩
 | brk=>obtain ⟨σ',H',I,q⟩:=h; exact ⟨σ',H',I.unwish,q⟩
 | cont=>obtain ⟨σ',H',I,q⟩:=h; exact ⟨σ',H',I.unwish,q⟩
 | ret u=>obtain ⟨v,σ',H',I,r,q⟩:=h; exact ⟨v,σ',H',I.unwish,r,q⟩
theorem PE.nox {e:Expr} {t:TE} (h:PE X.nox e t):PE X e t:=fun pins s σ H Q I hw=>
 OM (h pins s σ H Q (I.wish _) hw) (fun _ _ ⟨v,H',I',r,q⟩=>⟨v,H',I'.unwish,r,q⟩) fun _ _ z=>O5 z
theorem PT.nox {e:Expr} {t:TT} (h:PT X.nox e t):PT X e t:=fun pins s σ H Q I hw=>
 OM (h pins s σ H Q (I.wish _) hw) (fun _ _ ⟨H',I',q⟩=>⟨H',I'.unwish,q⟩) fun _ _ z=>O5 z
theorem PSs.nox {st:List Stmt} {t:TS} (h:PSs X.nox st t):PSs X st t:=fun pins s σ H D I hw=>
 OM (h pins s σ H D (I.wish _) hw) (fun _ _ q=>q.unwish) fun _ _ z=>O5 z
end
section
variable {X:Cx} {st:Stmt} {dy:List Stmt} {t u:TS} {e:Expr} {te:TE} {pos:Pos}
noncomputable def aY:TS:=fun D σ H=>D.nx σ H
noncomputable def ap (t u:TS):TS:=fun D σ H=>t { D with nx:=u D } σ H
theorem aI:PSs X [] aY:=fun _ _ σ H _ I h=>Rk ⟨σ,H,I,h⟩
theorem af (h1:PS X st t) (h2:PSs X dy u):PSs X (st :: dy) (ap t u):=by
 intro pins s σ H D I h
 refine Vo (thn (h1 pins s σ H { D with nx:=u D } I h) fun f s1 q=>?_)
 cases f with
 | next=>
  obtain ⟨σ',H',I',q⟩:=q
  exact h2 pins s1 σ' H' D I' q
 | ret v=>exact q
 | brk=>exact q
 | cont=>exact q
theorem ai (h1:PS X st t):PSs X [st] t:=by
 intro pins s σ H D I h
 refine Vo (thn (h1 pins s σ H D I h) fun f s1 q=>?_)
 cases f with
 | next=>exact Rk q
 | ret v=>exact q
 | brk=>exact q
 | cont=>exact q
noncomputable def K5:TS:=fun D σ H=>D.bk σ H
noncomputable def Mc:TS:=fun D σ H=>D.ct σ H
theorem Inv.quiet {pins:List (Addr×Obj)} {σ:St} {H:Hp} {s:Shared} (I:Inv X pins σ H s):interactive X.env=false:=by simp [interactive,I.ok.kind]
noncomputable def dI (te:TE):TS:=fun D σ H=>te σ H fun _ H1=>D.nx σ H1
theorem cx (he:PE X e te) (hs:Ux e none pos.line X.env=pure false:=by rfl):PS X (.Expr e pos) (dI te):=by
 intro pins s σ H D I h
 exact wpAny_Expr_any (thn (he pins s σ H _ I h) fun v s1 ⟨x,H1,I1,r1,q1⟩=>⟨σ,H1,I1,q1⟩) I.quiet hs
noncomputable def aJ (te:TE):TS:=fun D σ H=>te σ H D.rt
theorem aw (he:PE X e te):PS X (.Return (some e) pos) (aJ te):=by
 intro pins s σ H D I h
 exact wpAny_Return_some (thn (he pins s σ H _ I h) fun v s1 ⟨x,H1,I1,r1,q1⟩=>⟨x,σ,H1,I1,r1,q1⟩)
noncomputable def Md:TS:=fun D _ H=>D.rt .non H
noncomputable def bp (c:TT) (t u:TS):TS:=fun D σ H=>c σ H fun b H1=>if b=true then t D σ H1 else u D σ H1
theorem bd {c:Expr} {a b:List Stmt} {tc:TT} (hc:PT X c tc) (ha:PSs X a t) (hb:PSs X b u):PS X (.If c a b pos) (bp tc t u):=by
 intro pins s σ H D I h
 refine wpAny_If (thn (hc pins s σ H _ I h) fun d s1 ⟨H1,I1,q1⟩=>?_)
 cases d with
 | true=>exact ha pins s1 σ H1 D I1 q1
 | false=>exact hb pins s1 σ H1 D I1 q1
noncomputable def rC:TS:=fun _ _ _=>False
theorem pR:PS X st rC:=fun _ _ _ _ _ _ h=>h.elim
end
noncomputable abbrev TG:=V->St->Hp->(St->Hp->Prop)->Prop
noncomputable abbrev TGs:=List V->St->Hp->(St->Hp->Prop)->Prop
noncomputable def PG (X:Cx) (target:Expr) (t:TG):Prop:=
 ∀ (pins:List (Addr×Obj)) (s:Shared) (σ:St) (H:Hp) (v:V) (u:Value) (Q:St->Hp->Prop),Inv X pins σ H s->aK v u->t v σ H Q->
  wpAny (model X.prog X.w) X.A (assign target X.env u) (fun _ s'=>∃ σ' H',Inv X pins σ' H' s'/\Q σ' H') X.xe s
noncomputable def PGs (X:Cx) (ts:List Expr) (t:TGs):Prop:=
 ∀ (pins:List (Addr×Obj)) (s:Shared) (σ:St) (H:Hp) (vs:List V) (us:List Value) (Q:St->Hp->Prop),Inv X pins σ H s->aL vs us->t vs σ H Q->
  wpAny (model X.prog X.w) X.A (assignInOrder ((Rl ts X.env).map (·.2)) us) (fun _ s'=>∃ σ' H',Inv X pins σ' H' s'/\Q σ' H') X.xe s
noncomputable abbrev A4:=V->V->V->Hp->(Hp->Prop)->Prop
noncomputable def DV (X:Cx) (t:A4):Prop:=
 ∀ (pins:List (Addr×Obj)) (s:Shared) (σ:St) (H:Hp) (o i v:V) (ov iv u:Value) (Q:Hp->Prop),Inv X pins σ H s->aK o ov->aK i iv->aK v u->t o i v H Q->
  wpAny (model X.prog X.w) X.A (setItem ov iv u) (fun _ s'=>∃ H',Inv X pins σ H' s'/\Q H') X.xe s
section
variable {X:Cx} {pos:Pos}
noncomputable def aj (i:Nat):TG:=fun v σ H Q=>Q (σ.set i (some v)) H
theorem aq {i:Nat} {x:Str} (hN:X.N.Nodup) (hi:X.N[i]?=some x) (hx:Loc X.env.scope x) (hf:X.fn x=true\/X.env.scope.names.lookup x=some .local:=by first | exact .inl rfl | exact .inr rfl | assumption):PG X (.Name x pos) (aj i):=by
 intro pins s σ H v u Q I r h
 exact UO (A0 I hN hi hx r (fun s' I'=>⟨_,H,I',h⟩) hf)
noncomputable def cZ:TGs:=fun vs σ H Q=>vs=[]/\Q σ H
noncomputable def aW (t:TG) (u:TGs):TGs:=fun vs σ H Q=>∃ v r,vs=v :: r/\t v σ H fun σ' H'=>u r σ' H' Q
theorem b8:PGs X [] cZ:=by
 intro pins s σ H vs us Q I r h
 obtain ⟨e,h⟩:=h
 subst e
 cases r
 exact assignInOrder_nil ⟨σ,H,I,h⟩
theorem aN {e:Expr} {es:List Expr} {t:TG} {u:TGs} (h1:PG X e t) (h2:PGs X es u)
  (hs:(Rl (e :: es) X.env).map (·.2)=assign e X.env :: (Rl es X.env).map (·.2):=by rfl):PGs X (e :: es) (aW t u):=by
 intro pins s σ H vs us Q I r h
 obtain ⟨v,vr,e1,h⟩:=h
 subst e1
 cases r with
 | cons r rr=>
  rw [hs]
  refine assignInOrder_cons (thn (h1 pins s σ H _ _ _ I r h) fun _ s1 ⟨σ1,H1,I1,q1⟩=>?_)
  exact h2 pins s1 σ1 H1 _ _ Q I1 rr q1
noncomputable def da (K:Fg) (n:Nat) (t:TGs):TG:=fun v σ H Q=>∃ a xs,v=.ref a/\SqT K H a xs/\xs.length=n/\t xs σ H Q
theorem cH {es:List Expr} {k:Nat} {t:TGs} {n:Nat} (hc:X.calm=true) (h:PGs X es t)
  (hn:(Rl es X.env).length=n:=by rfl) (hst:(Rl es X.env).findIdx? (·.1)=none:=by rfl):PG X (.Tuple es k pos) (da X.K n t):=by
 intro pins s σ H v u Q I r hw
 obtain ⟨a,xs,e1,hq,hl,hw⟩:=hw
 subst e1
 cases r
 obtain ⟨its,rv,ht,hz⟩:=I.tuple hq
 refine assign_Tuple_tuple (I.ok.hd hc) ht (by simp [hn,<-hl,rv.length]) hst fun h' hx=>?_
 have I1:Inv X pins σ H { s with heap:=h' }:=I.kept (t':=s.toks) fun b o e=>hx b o (NN (Ni e)) e
 exact h pins _ σ H xs _ Q I1 (by simpa using rv) hw
noncomputable def kj (to ti:TE) (t:A4):TG:=fun v σ H Q=>to σ H fun o H1=>ti σ H1 fun i H2=>t o i v H2 fun H3=>Q σ H3
theorem iT {o i:Expr} {to ti:TE} {t:A4} (ho:PE X o to) (hi:PE X i ti) (hs:DV X t)
  (ha:∀ v,assign (.Subscript o i pos) X.env v=(do
   let ov <-holding [v] (eval o X.env)
   let iv <-holding [v,ov] (eval i X.env)
   standAt pos
   holding [v,ov,iv] (setItem ov iv v)
   release [v,ov,iv] []):=by intro _; rfl):PG X (.Subscript o i pos) (kj to ti t):=by
 intro pins s σ H v u Q I r h
 rw [ha]
 refine M1 (On (thn (ho pins s σ H _ I h) fun ov s1 ⟨x,H1,I1,r1,q1⟩=>?_))
 refine M1 (On (thn (hi pins s1 σ H1 _ I1 q1) fun iv s2 ⟨y,H2,I2,r2,q2⟩=>?_))
 refine M1 (Ue (M1 (On (thn (hs pins s2 σ H2 x y v ov iv u _ I2 r1 r2 r q2) fun _ s3 ⟨H3,I3,q3⟩=>?_))))
 exact wpAny_release ⟨σ,H3,I3,q3⟩
noncomputable def aH (te:TE) (g:TG):TS:=fun D σ H=>te σ H fun x H1=>g x σ H1 D.nx
theorem hJ {tg e:Expr} {te:TE} {g:TG} (he:PE X e te) (hg:PG X tg g) (hs:swapsWithSole [tg] e pos.line X.env=pure false:=by rfl) (hw:swappedStores [tg] e X.env=pure none:=by rfl)
  (h1:(Rl [tg] X.env).map (·.2)=[assign tg X.env]:=by rfl):PS X (.Assign [tg] e pos) (aH te g):=by
 intro pins s σ H D I h
 refine wpAny_Assign_stores (thn (he pins s σ H _ I h) fun v s1 ⟨x,H1,I1,r1,q1⟩=>?_) hs hw
 rw [h1]
 exact thn (hg pins s1 σ H1 x v _ I1 r1 q1) fun _ s2 q=>q
theorem az {i:Nat} {x:Str} {e:Expr} {te:TE} {pos':Pos} (hN:X.N.Nodup) (hi:X.N[i]?=some x) (hx:Loc X.env.scope x) (he:PE X e te) (hs:Ux e (some (.Name x pos')) pos.line X.env=pure false:=by rfl) (hf:X.fn x=true\/X.env.scope.names.lookup x=some .local:=by first | exact .inl rfl | exact .inr rfl | assumption):
  PS X (.Assign [.Name x pos'] e pos) (aH te (aj i)):=by
 intro pins s σ H D I h
 refine wpAny_Assign_Name (thn (he pins s σ H _ I h) fun v s1 ⟨y,H1,I1,r1,q1⟩=>?_) hs
 exact A0 I1 hN hi hx r1 (fun s2 I2=>⟨_,H1,I2,q1⟩) hf
end
section
variable {X:Cx} {pos:Pos}
noncomputable def mQ (c:TT) (tb:TS):TS:=fun D σ H=>∃ W:Nat->St->Hp->Prop,(∃ m,W m σ H)/\∀ m σ H,W m σ H->
 c σ H fun b H1=>if b=true then ∃ N:St->Hp->Prop,(∀ σ' H',N σ' H'->∃ m',m' < m/\W m' σ' H')/\tb { D with nx:=N,ct:=N,bk:=D.nx } σ H1 else D.nx σ H1
theorem pT {c:Expr} {body:List Stmt} {tc:TT} {tb:TS} (hp:NU (model X.prog X.w) X.A X.env X.xe) (hc:PT X c tc) (hb:PSs X body tb):PS X (.While c body [] pos) (mQ tc tb):=by
 intro pins s σ H D I h
 obtain ⟨W,⟨m0,w0⟩,turn⟩:=h
 refine wpAny_While (codeAny_whileLoop (fun n s'=>∃ σ' H',Inv X pins σ' H' s'/\W n σ' H') ?_ m0 ⟨σ,H,I,w0⟩)
 rintro n s1 ⟨σ1,H1,I1,w1⟩
 refine PU hp (thn (hc pins s1 σ1 H1 _ I1 (turn n σ1 H1 w1)) fun b s2 ⟨H2,I2,q2⟩=>?_)
 cases b with
 | true=>
  obtain ⟨N,hN,q2⟩:=q2
  rw [if_pos rfl]
  refine PU hp (thn (hb pins s2 σ1 H2 _ I2 q2) fun f s3 q3=>?_)
  cases f with
  | next=>
   obtain ⟨σ3,H3,I3,n3⟩:=q3
   obtain ⟨m',hm,w3⟩:=hN σ3 H3 n3
   exact ⟨m',hm,σ3,H3,I3,w3⟩
  | cont=>
   obtain ⟨σ3,H3,I3,n3⟩:=q3
   obtain ⟨m',hm,w3⟩:=hN σ3 H3 n3
   exact ⟨m',hm,σ3,H3,I3,w3⟩
  | brk=>exact q3
  | ret v=>exact q3
 | false=>
  rw [if_neg Nk]
  exact Rk ⟨σ1,H2,I2,q2⟩
end
set_option genInjectivity false in
structure It where
 go:Nat->Hp->Prop
 yld:Nat->Hp->V->Hp->Prop
 stop:Nat->Hp->Prop
noncomputable def lL (X:Cx) (pins:List (Addr×Obj)) (H:Hp) (b:Addr):Prop:=
 H b=none/\b≠X.env.locals/\b∉X.fs/\(b∈X.ex\/X.s₀.heap.objs.size<=b)/\(∀ x c,X.env.cells.lookup x=some c->c≠b)/\∀ p∈X.pn++pins,p.1≠b
theorem Inv.fpOk {X:Cx} {pins:List (Addr×Obj)} {σ:St} {H H':Hp} {s:Shared} {b:Addr} (I:Inv X pins σ H s) (hb:s.heap.objs.size<=b) (hn:H' b=none):lL X pins H' b:=by
 refine ⟨hn,Pm (NB I.lt hb),I.nofs hb,.inr (NQ I.sz hb),fun x c e z=>?_,fun p hp z=>?_⟩
 ·obtain ⟨v,q⟩:=I.cell x c e
  exact absurd (NB q.lt (by rw [z]; exact hb)) (OX _)
 ·exact absurd (NB (Ni (I.pin p hp).1) (by rw [z]; exact hb)) (OX _)
structure uY (P:Program) (w:World) (K:Fg) (tg:Expr) (J:It) (fp:List Addr) (it:Addr) (tn:Nat->Heap->Prop):Prop where
 mem:it∈fp
 obj:∀ i h,tn i h->∀ b∈fp,∃ o,h.get? b=some o/\∀ v,o.data≠.cell v
 keep:∀ i h h',tn i h->(∀ b∈fp,∀ o,h.get? b=some o->h'.get? b=some o)->tn i h'
 item:∀ (X:Cx),X.prog=P->X.w=w->X.K=K->X.calm=true->∀ (i:Nat) (pins:List (Addr×Obj)) (s:Shared) (σ:St) (H:Hp) (E:Value->Shared->Prop),Inv X pins σ H s->(∀ b∈fp,lL X pins H b)->tn i s.heap->J.go i H->
  wpAny (model P w) X.A (pyNext (.ref it)) (fun r s1=>∃ u,r=some u/\
   wpAny (model P w) X.A (Rm tg (.ref it) u) (fun _ s2=>∃ x H',Inv X pins σ H' s2/\aK x u/\J.yld i H x H'/\tn (i + 1) s2.heap/\∀ b∈fp,H' b=none) E s1) E s
 done:∀ (X:Cx),X.prog=P->X.w=w->X.K=K->X.calm=true->∀ (i:Nat) (pins:List (Addr×Obj)) (s:Shared) (σ:St) (H:Hp) (E:Value->Shared->Prop),Inv X pins σ H s->(∀ b∈fp,lL X pins H b)->tn i s.heap->J.stop i H->
  wpAny (model P w) X.A (pyNext (.ref it)) (fun r s1=>r=none/\Inv X pins σ H s1) E s
 self:∀ (A:Around) (i:Nat) (s:Shared) (Q:Value->Shared->Prop) (E:Value->Shared->Prop),tn i s.heap->Q (.ref it) s->wpAny (model P w) A (pyIter (.ref it)) Q E s
noncomputable abbrev TI:=St->Hp->(It->Hp->Prop)->Prop
noncomputable def PIE (X:Cx) (pins:List (Addr×Obj)) (σ:St) (tg:Expr) (R:It->Hp->Prop) (itv:Value) (s2:Shared):Prop:=
 ∃ (it:Addr) (fp:List Addr) (tn:Nat->Heap->Prop) (J:It) (H':Hp),itv=.ref it/\Inv X pins σ H' s2/\uY X.prog X.w X.K tg J fp it tn/\tn 0 s2.heap/\(∀ b∈fp,lL X pins H' b)/\R J H'
noncomputable def PI (X:Cx) (tg iter:Expr) (wi:TI):Prop:=
 ∀ (pins:List (Addr×Obj)) (s:Shared) (σ:St) (H:Hp) (R:It->Hp->Prop),Inv X pins σ H s->wi σ H R->
  wpAny (model X.prog X.w) X.A (eval iter X.env) (fun v s1=>wpAny (model X.prog X.w) X.A (pyIter v) (PIE X pins σ tg R) X.xe s1) X.xe s
theorem DW {M : Model} {A : Around} {E : Value → Shared → Prop} {s : Shared} {tg : Expr} {it : Addr} {u : Value} {o : Obj} {n : String} {vs : Array Value} {Q : Unit → Shared → Prop} (ho : s.heap.get? it = some o) (hc : o.cls = .type n) (hd : o.data = .fields vs)
    (hn : ["enumerate", "zip", "dict_itemiterator", "dict_reverseitemiterator", "odict_iterator", "itertools.zip_longest", "itertools.pairwise"].contains n = false) (hQ : Q () s) : wpAny M A (Rm tg (.ref it) u) Q E s := by
  unfold Rm
  cases tg <;> first
    | exact M5 hQ
    | (cases u <;> first
        | exact M5 hQ
        | (refine M1 (VJ ho ?_)
           rw [hc, hd]
           show wpAny M A (if (["enumerate", "zip", "dict_itemiterator", "dict_reverseitemiterator", "odict_iterator", "itertools.zip_longest", "itertools.pairwise"].contains n && vs[0]? == some (rawInt _)) = true then _ else _) Q E s
           rw [if_neg (by intro h; rw [hn, RF] at h; cases h)]
           exact M5 hQ))
noncomputable def Itl (K:Fg) (a:Addr):It:=
 ⟨fun i H=>∃ xs x,SqL K H a xs/\xs[i]?=some x,fun i H x H'=>H'=H/\∀ xs,SqL K H a xs->xs[i]?=some x,fun i H=>∃ xs,SqL K H a xs/\xs.length<=i⟩
noncomputable def Itt (K:Fg) (a:Addr):It:=
 ⟨fun i H=>∃ xs x,SqT K H a xs/\xs[i]?=some x,fun i H x H'=>H'=H/\∀ xs,SqT K H a xs->xs[i]?=some x,fun i H=>∃ xs,SqT K H a xs/\xs.length<=i⟩
noncomputable def Itr (lo:Int) (n:Nat):It:=⟨fun i _=>i < n,fun i H x H'=>H'=H/\x=.int (lo + i),fun i _=>n<=i⟩
theorem FN {P:Program} {w:World} {K:Fg} {tg:Expr} (a it:Addr):uY P w K tg (Itl K a) [it] it (fun i h=>h.IsListIter it a i) where
 mem:=by simp
 obj:=fun i h st b hb=>by
  have e:b=it:=by simpa using hb
  subst e
  obtain ⟨o,e,c,d⟩:=st
  exact ⟨o,e,fun v z=>by rw [d] at z; cases z⟩
 keep:=fun i h h' st k=>st.at fun o e=>k it (by simp) o e
 item:=by
  intro X hP hw hK hc i pins s σ H E I hf st hg
  subst hP hw hK
  obtain ⟨xs,x,hq,hx⟩:=hg
  obtain ⟨its,rv,p,hz⟩:=I.list hq
  obtain ⟨u,hu,ru⟩:=rv.get hx
  obtain ⟨f0,f1,f2,f3,f4,f5⟩:=hf it (by simp)
  refine wpAny_pyNext_list_item st p.isList (x:=u) (by simpa using hu) fun h' st' sb=>?_
  have I1:Inv X pins σ H { s with heap:=h' }:=I.turned (t':=s.toks) (fun b o hb e=>(sb.2 b hb).trans e) f0 f1 f3 f4 f5
  obtain ⟨o,e,c,d⟩:=id st'
  exact ⟨u,rfl,DW (s:={ s with heap:=h' }) e c d (by decide) ⟨x,H,I1,ru,⟨rfl,fun ys hy=>by rw [I.list_inj hy hq]; exact hx⟩,st',fun b hb=>(hf b hb).1⟩⟩
 done:=by
  intro X hP hw hK hc i pins s σ H E I hf st hg
  subst hP hw hK
  obtain ⟨xs,hq,hx⟩:=hg
  obtain ⟨its,rv,p,hz⟩:=I.list hq
  obtain ⟨f0,f1,f2,f3,f4,f5⟩:=hf it (by simp)
  have hl:=rv.length
  exact wpAny_pyNext_list_end (I.ok.hd hc) st p.isList (by simp; omega) fun h' eb=>⟨rfl,I.turned (t':=s.toks) (fun b o hb e=>eb b o hb e) f0 f1 f3 f4 f5⟩
 self:=fun _ _ _ _ _ st h=>wpAny_pyIter_listiter st h
theorem DX {P:Program} {w:World} {K:Fg} {tg:Expr} (a it:Addr):uY P w K tg (Itt K a) [it] it (fun i h=>h.IsTupleIter it a i) where
 mem:=by simp
 obj:=fun i h st b hb=>by
  have e:b=it:=by simpa using hb
  subst e
  obtain ⟨o,e,c,d⟩:=st
  exact ⟨o,e,fun v z=>by rw [d] at z; cases z⟩
 keep:=fun i h h' st k=>st.at fun o e=>k it (by simp) o e
 item:=by
  intro X hP hw hK hc i pins s σ H E I hf st hg
  subst hP hw hK
  obtain ⟨xs,x,hq,hx⟩:=hg
  obtain ⟨its,rv,p,hz⟩:=I.tuple hq
  obtain ⟨u,hu,ru⟩:=rv.get hx
  obtain ⟨f0,f1,f2,f3,f4,f5⟩:=hf it (by simp)
  refine wpAny_pyNext_tuple_item st (show s.heap.IsTuple a its.toArray from p) (x:=u) (by simpa using hu) fun h' st' sb=>?_
  have I1:Inv X pins σ H { s with heap:=h' }:=I.turned (t':=s.toks) (fun b o hb e=>(sb.2 b hb).trans e) f0 f1 f3 f4 f5
  obtain ⟨o,e,c,d⟩:=id st'
  exact ⟨u,rfl,DW (s:={ s with heap:=h' }) e c d (by decide) ⟨x,H,I1,ru,⟨rfl,fun ys hy=>by rw [I.tuple_inj hy hq]; exact hx⟩,st',fun b hb=>(hf b hb).1⟩⟩
 done:=by
  intro X hP hw hK hc i pins s σ H E I hf st hg
  subst hP hw hK
  obtain ⟨xs,hq,hx⟩:=hg
  obtain ⟨its,rv,p,hz⟩:=I.tuple hq
  obtain ⟨f0,f1,f2,f3,f4,f5⟩:=hf it (by simp)
  have hl:=rv.length
  exact wpAny_pyNext_tuple_end (I.ok.hd hc) st (show s.heap.IsTuple a its.toArray from p) (by simp; omega) fun h' eb=>⟨rfl,I.turned (t':=s.toks) (fun b o hb e=>eb b o hb e) f0 f1 f3 f4 f5⟩
 self:=fun _ _ _ _ _ st h=>wpAny_pyIter_tupleiter st h
theorem DY {P:Program} {w:World} {K:Fg} {tg:Expr} (it:Addr) (lo:Int) (n:Nat):uY P w K tg (Itr lo n) [it] it (fun i h=>IsRangeIter h it (lo + (i:Nat) * 1) ((n:Int) - (i:Nat)) 1) where
 mem:=by simp
 obj:=fun i h st b hb=>by
  have e:b=it:=by simpa using hb
  subst e
  exact ⟨_,st,fun v z=>by
   have z':Data.fields _=Data.cell v:=z
   cases z'⟩
 keep:=fun i h h' st k=>k it (by simp) _ st
 item:=by
  intro X hP hw hK hc i pins s σ H E I hf st hg
  subst hP hw hK
  obtain ⟨f0,f1,f2,f3,f4,f5⟩:=hf it (by simp)
  have W:=Walks.range (prog:=X.prog) (w:=X.w) (I.ok.hd hc) it lo 1 n
  refine W.item i s _ _ hg st fun v h' tk hv st' kk=>?_
  obtain ⟨t,rfl⟩:=hv
  have I1:Inv X pins σ H { s with heap:=h',toks:=tk }:=I.turned (fun b o hb e=>kk b o (by simpa using hb) e) f0 f1 f3 f4 f5
  refine ⟨_,rfl,DW (s:={ s with heap:=h',toks:=tk }) (n:="range_iterator") st' rfl rfl (by decide) ⟨.int (lo + i),H,I1,⟨t,?_⟩,⟨rfl,rfl⟩,st',fun b hb=>(hf b hb).1⟩⟩
  rw [Int.mul_one]
 done:=by
  intro X hP hw hK hc i pins s σ H E I hf st hg
  subst hP hw hK
  obtain ⟨f0,f1,f2,f3,f4,f5⟩:=hf it (by simp)
  exact wpAny_pyNext_range_end (I.ok.hd hc) st (by have:n<=i:=hg; omega) fun h' eb=>⟨rfl,I.turned (t':=s.toks) (fun b o hb e=>eb b o hb e) f0 f1 f3 f4 f5⟩
 self:=fun _ _ _ _ _ st h=>wpAny_pyIter_rangeiter st h
end L2
namespace L2
open PySem PySem.Spec PyProof.Rows
section
variable {X:Cx} {tg:Expr}
noncomputable def ce (K:Fg) (tl:TE):TI:=fun σ H R=>tl σ H fun x H1=>∃ a,x=.ref a/\(∃ xs,SqL K H1 a xs)/\R (Itl K a) H1
noncomputable def rD (K:Fg) (tl:TE):TI:=fun σ H R=>tl σ H fun x H1=>∃ a,x=.ref a/\(∃ xs,SqT K H1 a xs)/\R (Itt K a) H1
theorem bC {l:Expr} {tl:TE} (hl:PE X l tl):PI X tg l (ce X.K tl):=by
 intro pins s σ H R I h
 refine thn (hl pins s σ H _ I h) fun v s1 ⟨x,H1,I1,r1,q1⟩=>?_
 obtain ⟨a,e,⟨xs,hq⟩,q⟩:=q1
 subst e
 cases r1
 obtain ⟨its,rv,p,hz⟩:=I1.list hq
 refine Qv p.isList ?_
 refine ⟨s1.heap.objs.size,[s1.heap.objs.size],_,_,H1,rfl,I1.kept (t':=s1.toks) fun b o e=>M4 _ e,FN a _,⟨_,Nj _ rfl,rfl,rfl⟩,fun b hb=>?_,q⟩
 have e:b=s1.heap.objs.size:=by simpa using hb
 subst e
 exact I1.fpOk (M9 _) (I1.hok.fresh (M9 _))
theorem oT {l:Expr} {tl:TE} (hl:PE X l tl):PI X tg l (rD X.K tl):=by
 intro pins s σ H R I h
 refine thn (hl pins s σ H _ I h) fun v s1 ⟨x,H1,I1,r1,q1⟩=>?_
 obtain ⟨a,e,⟨xs,hq⟩,q⟩:=q1
 subst e
 cases r1
 obtain ⟨its,rv,p,hz⟩:=I1.tuple hq
 refine Uy (show s1.heap.IsTuple a its.toArray from p) ?_
 refine ⟨s1.heap.objs.size,[s1.heap.objs.size],_,_,H1,rfl,I1.kept (t':=s1.toks) fun b o e=>M4 _ e,DX a _,⟨_,Nj _ rfl,rfl,rfl⟩,fun b hb=>?_,q⟩
 have e:b=s1.heap.objs.size:=by simpa using hb
 subst e
 exact I1.fpOk (M9 _) (I1.hok.fresh (M9 _))
theorem Hl {pins:List (Addr×Obj)} {σ:St} {H:Hp} {s:Shared} {R:It->Hp->Prop} {E:Value->Shared->Prop} {lo hi:Int} {t u v:Tok} {tk:Nat} (I:Inv X pins σ H s) (h1:-(2 ^ 62)<=lo) (h2:lo < 2 ^ 62) (h3:-(2 ^ 62)<=hi) (h4:hi < 2 ^ 62)
  (q:R (Itr lo (hi - lo).toNat) H):wpAny (model X.prog X.w) X.A (pyIter (.ref s.heap.objs.size)) (PIE X pins σ tg R) E { s with heap:=s.heap.push { cls:=.type "range",data:=.fields #[.int lo t,.int hi u,.int 1 v] },toks:=tk }:=by
 refine wpAny_pyIter_range (IsRange.new ..) (small_one h1 h2 h3 h4) ?_
 have I1:Inv X pins σ H { s with heap:=s.heap.push { cls:=.type "range",data:=.fields #[.int lo t,.int hi u,.int 1 v] },toks:=tk }:=I.kept fun b o e=>M4 _ e
 refine ⟨(s.heap.push { cls:=.type "range",data:=.fields #[.int lo t,.int hi u,.int 1 v] }).objs.size,[(s.heap.push { cls:=.type "range",data:=.fields #[.int lo t,.int hi u,.int 1 v] }).objs.size],_,_,H,rfl,
  I1.kept (t':=tk) fun b o e=>M4 _ e,DY _ lo (hi - lo).toNat,?_,fun b hb=>?_,q⟩
 ·have e1:lo + ((0:Nat):Int) * 1=lo:=by simp
  have e2:(((hi - lo).toNat:Nat):Int) - ((0:Nat):Int)=Builtin.Range.rangeSize lo hi 1:=by rw [rangeSize_one]; split <;> omega
  show IsRangeIter _ _ (lo + ((0:Nat):Int) * 1) ((((hi - lo).toNat:Nat):Int) - ((0:Nat):Int)) 1
  rw [e1,e2]
  exact Nj _ rfl
 ·have e:b=(s.heap.push { cls:=.type "range",data:=.fields #[.int lo t,.int hi u,.int 1 v] }).objs.size:=by simpa using hb
  subst e
  exact I1.fpOk (M9 _) (I1.hok.fresh (M9 _))
noncomputable def gh (ta:TA):TI:=fun σ H R=>ta σ H fun vs H1=>∃ j:Int,vs=[.int j]/\-(2 ^ 62)<=j/\j < 2 ^ 62/\R (Itr 0 j.toNat) H1
noncomputable def Me (ta:TA):TI:=fun σ H R=>ta σ H fun vs H1=>∃ i j:Int,vs=[.int i,.int j]/\(-(2 ^ 62)<=i/\i < 2 ^ 62/\-(2 ^ 62)<=j/\j < 2 ^ 62)/\R (Itr i (j - i).toNat) H1
theorem cN {a:Expr} {ta:TA} {p pos:Pos} (hg:Gl X "range") (hm:X.mg "range"=none) (ha:PA X [a] ta) (hs:NA [a] X.env=[(false,eval a X.env)]:=by rfl):PI X tg (.Call (.Name "range" p) [a] [] pos) (gh ta):=by
 intro pins s σ H R I h
 refine Call_ (iS I hg hm boot_range (Oy (thn (ha pos pins s σ H _ I h) fun us s1 ⟨vs,H1,I1,r1,q1⟩=>?_) hs rfl))
 obtain ⟨j,e,q1,q2,q⟩:=q1
 subst e
 cases r1 with
 | cons r rr=>
  cases rr
  obtain ⟨t,rfl⟩:=r
  exact call_range_1 (Hl I1 (by omega) (by omega) q1 q2 (by simpa using q))
noncomputable def cV (wi:TI) (g:TG) (tb:TS):TS:=fun D σ H=>wi σ H fun J H1=>∃ W:Nat->Nat->St->Hp->Prop,(∃ m,W 0 m σ H1)/\∀ i m σ H,W i m σ H->
 (J.stop i H/\D.nx σ H)\/(J.go i H/\∃ N:St->Hp->Prop,(∀ σ' H',N σ' H'->∃ m',m' < m/\W (i + 1) m' σ' H')/\∀ x H',J.yld i H x H'->g x σ H' fun σ2 H2=>tb { D with nx:=N,ct:=N,bk:=D.nx } σ2 H2)
noncomputable def rE (fp:List Addr) (h:Heap):List (Addr×Obj):=fp.filterMap fun b=>(h.get? b).map fun o=>(b,o)
theorem mr {fp:List Addr} {h:Heap} {b:Addr} {o:Obj} (hb:b∈fp) (e:h.get? b=some o):(b,o)∈rE fp h:=RP.mpr ⟨b,hb,by rw [e]; rfl⟩
theorem FO {fp:List Addr} {h:Heap} {p:Addr×Obj} (hp:p∈rE fp h):p.1∈fp/\h.get? p.1=some p.2:=by
 obtain ⟨b,hb,e⟩:=RP.mp hp
 cases q:h.get? b with
 | none=>rw [q] at e; cases e
 | some o=>
  rw [q] at e
  have e':(b,o)=p:=Nl e
  subst e'
  exact ⟨hb,q⟩
theorem Inv.pinned {pins:List (Addr×Obj)} {σ:St} {H:Hp} {s:Shared} {fp:List Addr} (I:Inv X pins σ H s) (hf:∀ b∈fp,lL X pins H b) (ho:∀ b∈fp,∃ o,s.heap.get? b=some o/\∀ v,o.data≠.cell v):Inv X (pins++rE fp s.heap) σ H s:=
 I.pins_of fun p hp=>(NH.mp hp).elim (fun z=>I.pin p (NY _ z)) fun z=>by
  obtain ⟨hb,e⟩:=FO z
  obtain ⟨f0,f1,f2,_⟩:=hf p.1 hb
  obtain ⟨o,e',d⟩:=ho p.1 hb
  rw [e] at e'; cases e'
  exact ⟨e,f0,f1,f2,d⟩
theorem Inv.unpinned {pins pl:List (Addr×Obj)} {σ:St} {H:Hp} {s:Shared} (I:Inv X (pins++pl) σ H s):Inv X pins σ H s:=I.pins_of fun p hp=>I.pin p (NY _ (Ow _ hp))
theorem bL {iter:Expr} {body:List Stmt} {wi:TI} {g:TG} {tb:TS} {pos:Pos} (hp:NU (model X.prog X.w) X.A X.env X.xe) (hc:X.calm=true) (hi:PI X tg iter wi) (hg:PG X tg g) (hb:PSs X body tb)
  (hs:∀ x,Sk iter X.env x=pure x:=by intro _; rfl):PS X (.For tg iter body [] pos) (cV wi g tb):=by
 intro pins s σ H D I h
 refine wpAny_For (thn (hi pins s σ H _ I h) fun v s1 h1=>thn h1 fun itv s2 h2=>?_) hs
 obtain ⟨it,fp,tn,J,H2,e,I2,T,st2,f2,W,⟨m0,w0⟩,turn⟩:=h2
 subst e
 have stat:∀ {H':Hp},(∀ b∈fp,H' b=none)->∀ b∈fp,lL X pins H' b:=fun hn b hb=>⟨hn b hb,(f2 b hb).2⟩
 refine codeAny_forLoop_any (fun n s'=>∃ i σ' H',Inv X pins σ' H' s'/\tn i s'.heap/\(∀ b∈fp,H' b=none)/\W i n σ' H') ?_ m0 ⟨0,σ,H2,I2,st2,fun b hb=>(f2 b hb).1,w0⟩
 rintro n s3 ⟨i,σ3,H3,I3,st3,fr3,w3⟩
 rcases turn i n σ3 H3 w3 with ⟨stop,qn⟩ | ⟨go,N,hN,step⟩
 ·refine PU hp (thn (T.done X rfl rfl rfl hc i pins s3 σ3 H3 X.xe I3 (stat fr3) st3 stop) fun r s4 ⟨hr,I4⟩=>?_)
  subst hr
  exact Rk ⟨σ3,H3,I4,qn⟩
 ·refine PU hp (thn (T.item X rfl rfl rfl hc i pins s3 σ3 H3 X.xe I3 (stat fr3) st3 go) fun r s4 ⟨u,hr,h4⟩=>?_)
  subst hr
  refine PU hp (thn h4 fun _ s5 ⟨x,H5,I5,r5,y5,st5,fr5⟩=>?_)
  have I5':=I5.pinned (stat fr5) (T.obj _ _ st5)
  refine PU hp (thn (hg _ s5 σ3 H5 x u _ I5' r5 (step x H5 y5)) fun _ s6 ⟨σ6,H6,I6,q6⟩=>?_)
  refine PU hp (thn (hb _ s6 σ6 H6 _ I6 q6) fun f s7 q7=>?_)
  have again:∀ {σ7:St} {H7:Hp},Inv X (pins++rE fp s5.heap) σ7 H7 s7->N σ7 H7->∃ m,m < n/\∃ i σ' H',Inv X pins σ' H' s7/\tn i s7.heap/\(∀ b∈fp,H' b=none)/\W i m σ' H':=fun {σ7 H7} I7 n7=>by
   obtain ⟨m',hm,w7⟩:=hN σ7 H7 n7
   refine ⟨m',hm,i + 1,σ7,H7,I7.unpinned,T.keep _ _ _ st5 fun b hb o e=>(I7.pin (b,o) (NY _ (NY _ (mr hb e)))).1,fun b hb=>?_,w7⟩
   obtain ⟨o,e,d⟩:=T.obj _ _ st5 b hb
   exact (I7.pin (b,o) (NY _ (NY _ (mr hb e)))).2.1
  cases f with
  | next=>obtain ⟨σ7,H7,I7,n7⟩:=q7; exact again I7 n7
  | cont=>obtain ⟨σ7,H7,I7,n7⟩:=q7; exact again I7 n7
  | brk=>obtain ⟨σ7,H7,I7,q7⟩:=q7; exact ⟨σ7,H7,I7.unpinned,q7⟩
  | ret v=>obtain ⟨x7,σ7,H7,I7,r7,q7⟩:=q7; exact ⟨x7,σ7,H7,I7.unpinned,r7,q7⟩
end
theorem uZ {K:Fg} {a:Addr} {xs:List V} {g:TG} {tb:TS} {D:kh} {σ:St} {H:Hp} (Pv:Nat->St->Hp->Prop) (h0:Pv 0 σ H) (hl:∀ i σ H,i<=xs.length->Pv i σ H->SqL K H a xs)
  (hs:∀ i x σ H,xs[i]?=some x->Pv i σ H->g x σ H fun σ2 H2=>tb { D with nx:=Pv (i + 1),ct:=Pv (i + 1),bk:=D.nx } σ2 H2) (hd:∀ σ H,Pv xs.length σ H->D.nx σ H):
  ∃ W:Nat->Nat->St->Hp->Prop,(∃ m,W 0 m σ H)/\∀ i m σ H,W i m σ H->
   ((Itl K a).stop i H/\D.nx σ H)\/((Itl K a).go i H/\∃ N:St->Hp->Prop,(∀ σ' H',N σ' H'->∃ m',m' < m/\W (i + 1) m' σ' H')/\∀ x H',(Itl K a).yld i H x H'->g x σ H' fun σ2 H2=>tb { D with nx:=N,ct:=N,bk:=D.nx } σ2 H2):=by
 refine ⟨fun i m σ H=>m=xs.length - i/\i<=xs.length/\Pv i σ H,⟨xs.length,by simp,N9 _,h0⟩,?_⟩
 rintro i m σ H ⟨rfl,hi,p⟩
 have q:=hl i σ H hi p
 by_cases hlt:i < xs.length
 ·refine .inr ⟨⟨xs,xs[i],q,by simp [hlt]⟩,Pv (i + 1),fun σ' H' p'=>⟨xs.length - (i + 1),by omega,rfl,hlt,p'⟩,fun x H' y=>?_⟩
  obtain ⟨e,y⟩:=y
  subst e
  exact hs i x σ _ (y xs q) p
 ·have e:i=xs.length:=by omega
  subst e
  exact .inl ⟨⟨xs,q,M9 _⟩,hd σ H p⟩
theorem JS {K:Fg} {a:Addr} {xs:List V} {g:TG} {tb:TS} {D:kh} {σ:St} {H:Hp} (Pv:Nat->St->Hp->Prop) (h0:Pv 0 σ H) (hl:∀ i σ H,i<=xs.length->Pv i σ H->SqT K H a xs)
  (hs:∀ i x σ H,xs[i]?=some x->Pv i σ H->g x σ H fun σ2 H2=>tb { D with nx:=Pv (i + 1),ct:=Pv (i + 1),bk:=D.nx } σ2 H2) (hd:∀ σ H,Pv xs.length σ H->D.nx σ H):
  ∃ W:Nat->Nat->St->Hp->Prop,(∃ m,W 0 m σ H)/\∀ i m σ H,W i m σ H->
   ((Itt K a).stop i H/\D.nx σ H)\/((Itt K a).go i H/\∃ N:St->Hp->Prop,(∀ σ' H',N σ' H'->∃ m',m' < m/\W (i + 1) m' σ' H')/\∀ x H',(Itt K a).yld i H x H'->g x σ H' fun σ2 H2=>tb { D with nx:=N,ct:=N,bk:=D.nx } σ2 H2):=by
 refine ⟨fun i m σ H=>m=xs.length - i/\i<=xs.length/\Pv i σ H,⟨xs.length,by simp,N9 _,h0⟩,?_⟩
 rintro i m σ H ⟨rfl,hi,p⟩
 have q:=hl i σ H hi p
 by_cases hlt:i < xs.length
 ·refine .inr ⟨⟨xs,xs[i],q,by simp [hlt]⟩,Pv (i + 1),fun σ' H' p'=>⟨xs.length - (i + 1),by omega,rfl,hlt,p'⟩,fun x H' y=>?_⟩
  obtain ⟨e,y⟩:=y
  subst e
  exact hs i x σ _ (y xs q) p
 ·have e:i=xs.length:=by omega
  subst e
  exact .inl ⟨⟨xs,q,M9 _⟩,hd σ H p⟩
theorem rF {lo:Int} {n:Nat} {g:TG} {tb:TS} {D:kh} {σ:St} {H:Hp} (Pv:Nat->St->Hp->Prop) (h0:Pv 0 σ H)
  (hs:∀ i σ H,i < n->Pv i σ H->g (.int (lo + i)) σ H fun σ2 H2=>tb { D with nx:=Pv (i + 1),ct:=Pv (i + 1),bk:=D.nx } σ2 H2) (hd:∀ σ H,Pv n σ H->D.nx σ H):
  ∃ W:Nat->Nat->St->Hp->Prop,(∃ m,W 0 m σ H)/\∀ i m σ H,W i m σ H->
   ((Itr lo n).stop i H/\D.nx σ H)\/((Itr lo n).go i H/\∃ N:St->Hp->Prop,(∀ σ' H',N σ' H'->∃ m',m' < m/\W (i + 1) m' σ' H')/\∀ x H',(Itr lo n).yld i H x H'->g x σ H' fun σ2 H2=>tb { D with nx:=N,ct:=N,bk:=D.nx } σ2 H2):=by
 refine ⟨fun i m σ H=>m=n - i/\i<=n/\Pv i σ H,⟨n,by simp,N9 _,h0⟩,?_⟩
 rintro i m σ H ⟨rfl,hi,p⟩
 by_cases hlt:i < n
 ·refine .inr ⟨hlt,Pv (i + 1),fun σ' H' p'=>⟨n - (i + 1),by omega,rfl,hlt,p'⟩,fun x H' y=>?_⟩
  obtain ⟨e,y⟩:=y
  subst e y
  exact hs i σ _ hlt p
 ·have e:i=n:=by omega
  subst e
  exact .inl ⟨M9 _,hd σ H p⟩
end L2
namespace L2
open PySem PySem.Spec PyProof.Rows
noncomputable abbrev R2:=V->V->Hp->VK->Prop
noncomputable def OpR (X:Cx) (f:Value->Value->Sem Value) (r:R2):Prop:=
 ∀ (pins:List (Addr×Obj)) (s:Shared) (σ:St) (H:Hp) (x y:V) (v u:Value) (Q:VK),Inv X pins σ H s->aK x v->aK y u->r x y H Q->
  wpAny (model X.prog X.w) X.A (f v u) (EP X pins σ Q) X.xe s
noncomputable def UnR (X:Cx) (f:Value->Sem Value) (r:V->Hp->VK->Prop):Prop:=
 ∀ (pins:List (Addr×Obj)) (s:Shared) (σ:St) (H:Hp) (x:V) (v:Value) (Q:VK),Inv X pins σ H s->aK x v->r x H Q->
  wpAny (model X.prog X.w) X.A (f v) (EP X pins σ Q) X.xe s
noncomputable def cU (X:Cx) (f:Value) (r:List V->Hp->VK->Prop):Prop:=
 ∀ (pins:List (Addr×Obj)) (s:Shared) (σ:St) (H:Hp) (xs:List V) (us:List Value) (Q:VK),Inv X pins σ H s->aL xs us->r xs H Q->
  wpAny (model X.prog X.w) X.A (call f us) (EP X pins σ Q) X.xe s
noncomputable def tOp (r:R2) (ta tb:TE):TE:=fun σ H Q=>ta σ H fun x H1=>tb σ H1 fun y H2=>r x y H2 Q
noncomputable def tUn (r:V->Hp->VK->Prop) (ta:TE):TE:=fun σ H Q=>ta σ H fun x H1=>r x H1 Q
noncomputable def rI (C:Int->Int->Prop) (g:Int->Int->V):R2:=fun x y H Q=>∃ i j,x=.int i/\y=.int j/\C i j/\Q (g i j) H
noncomputable def rI0 (g:Int->Int->V):R2:=fun x y H Q=>∃ i j,x=.int i/\y=.int j/\Q (g i j) H
noncomputable def rU (g:Int->V):V->Hp->VK->Prop:=fun x H Q=>∃ i,x=.int i/\Q (g i) H
section
variable {X:Cx} {a b c:Expr} {ta tb tc:TE} {pos:Pos}
theorem Hn (ha:PE X a ta) (hb:PE X b tb) {pins:List (Addr×Obj)} {s:Shared} {σ:St} {H:Hp} {R:V->V->Hp->Prop} (I:Inv X pins σ H s)
  (h:ta σ H fun x H1=>tb σ H1 fun y H2=>R x y H2) {Q:Value->Shared->Prop} {f:Value->Value->Sem Value}
  (hf:∀ v u s2 x y H2,Inv X pins σ H2 s2->aK x v->aK y u->R x y H2->wpAny (model X.prog X.w) X.A (f v u) Q X.xe s2):
  wpAny (model X.prog X.w) X.A (eval a X.env) (fun v s₁=>wpAny (model X.prog X.w) X.A (eval b X.env) (fun u s₂=>wpAny (model X.prog X.w) X.A (f v u) Q X.xe s₂) X.xe s₁) X.xe s:=by
 refine thn (ha pins s σ H _ I h) fun v s1 ⟨x,H1,I1,r1,q1⟩=>?_
 refine thn (hb pins s1 σ H1 _ I1 q1) fun u s2 ⟨y,H2,I2,r2,q2⟩=>?_
 exact hf v u s2 x y H2 I2 r1 r2 q2
theorem ax {op:Operator} {r:R2} (ho:OpR X (P3 op) r) (ha:PE X a ta) (hb:PE X b tb):PE X (.BinOp a op b pos) (tOp r ta tb):=by
 intro pins s σ H Q I h
 exact wpAny_BinOp (Hn ha hb I h fun v u s2 x y H2 I2 rx ry q=>ho pins s2 σ H2 x y v u Q I2 rx ry q)
theorem DZ {op:UnaryOp} {r:V->Hp->VK->Prop} (ho:UnR X (unaryOp op) r) (ha:PE X a ta):PE X (.UnaryOp op a pos) (tUn r ta):=by
 intro pins s σ H Q I h
 exact UnaryOp_ (thn (ha pins s σ H _ I h) fun v s1 ⟨x,H1,I1,r1,q1⟩=>ho pins s1 σ H1 x v Q I1 r1 q1)
theorem opI {f:Value->Value->Sem Value} {C:Int->Int->Prop} {g:Int->Int->Int}
  (rule:∀ (i j:Int) (t u:Tok) (s:Shared) (Q:Value->Shared->Prop) (E:Value->Shared->Prop),C i j->Q (.int (g i j) s.toks) { s with toks:=s.toks + 1 }->wpAny (model X.prog X.w) X.A (f (.int i t) (.int j u)) Q E s):
  OpR X f (rI C fun i j=>.int (g i j)):=by
 intro pins s σ H x y v u Q I rx ry h
 obtain ⟨i,j,rfl,rfl,hc,q⟩:=h
 obtain ⟨t,rfl⟩:=rx
 obtain ⟨t',rfl⟩:=ry
 exact rule i j t t' s _ _ hc ⟨.int (g i j),H,I.tok _,⟨_,rfl⟩,q⟩
theorem K6 {f:Value->Value->Sem Value} {g:Int->Int->Int}
  (rule:∀ (i j:Int) (t u:Tok) (s:Shared) (Q:Value->Shared->Prop) (E:Value->Shared->Prop),Q (.int (g i j) s.toks) { s with toks:=s.toks + 1 }->wpAny (model X.prog X.w) X.A (f (.int i t) (.int j u)) Q E s):
  OpR X f (rI0 fun i j=>.int (g i j)):=by
 intro pins s σ H x y v u Q I rx ry h
 obtain ⟨i,j,rfl,rfl,q⟩:=h
 obtain ⟨t,rfl⟩:=rx
 obtain ⟨t',rfl⟩:=ry
 exact rule i j t t' s _ _ ⟨.int (g i j),H,I.tok _,⟨_,rfl⟩,q⟩
theorem Ho {f:Value->Value->Sem Value} {g:Int->Int->Bool}
  (rule:∀ (i j:Int) (t u:Tok) (s:Shared) (Q:Value->Shared->Prop) (E:Value->Shared->Prop),Q (.bool (g i j)) s->wpAny (model X.prog X.w) X.A (f (.int i t) (.int j u)) Q E s):
  OpR X f (rI0 fun i j=>.bl (g i j)):=by
 intro pins s σ H x y v u Q I rx ry h
 obtain ⟨i,j,rfl,rfl,q⟩:=h
 obtain ⟨t,rfl⟩:=rx
 obtain ⟨t',rfl⟩:=ry
 exact rule i j t t' s _ _ ⟨.bl (g i j),H,I,rfl,q⟩
noncomputable def gi (i j:Int):Prop:=0 < j/\j < 1073741824
noncomputable def K7 (i j:Int):Prop:=(-(2 ^ 64) < i/\i < 2 ^ 64)\/(-(2 ^ 64) < j/\j < 2 ^ 64)
theorem K7.ok {i j:Int} (h:K7 i j):P4 i j:=by
 rcases h with ⟨h1,h2⟩ | ⟨h1,h2⟩
 ·exact .of_left (R8 h1 h2)
 ·exact .of_right (R8 h1 h2)
theorem bN:OpR X (P3 .Add) (rI0 fun i j=>.int (i + j)):=K6 fun _ _ _ _ _ _ _ q=>add_int q
theorem iU:OpR X (P3 .Sub) (rI0 fun i j=>.int (i - j)):=K6 fun _ _ _ _ _ _ _ q=>sub_int q
theorem cD:OpR X (P3 .FloorDiv) (rI gi fun i j=>.int (i / j)):=opI fun i j _ _ _ _ _ hc q=>by
 have h1:(0:Int) < j:=hc.1
 have h2:j < 1073741824:=hc.2
 exact floordiv_int (by omega) (by rw [Int.fdiv_eq_ediv_of_nonneg i (by omega)]; exact q) (.inl (PyProof.noPylong_small (by omega)))
theorem bW:OpR X (P3 .Mod) (rI (fun _ j=>0 < j) fun i j=>.int (i % j)):=opI fun i j _ _ _ _ _ hc q=>by
 have h1:(0:Int) < j:=hc
 exact mod_int' (by omega) (by rw [Int.fmod_eq_emod_of_nonneg i (by omega)]; exact q)
theorem unI {f:Value->Sem Value} {g:Int->Int}
  (rule:∀ (i:Int) (t:Tok) (s:Shared) (Q:Value->Shared->Prop) (E:Value->Shared->Prop),Q (.int (g i) s.toks) { s with toks:=s.toks + 1 }->wpAny (model X.prog X.w) X.A (f (.int i t)) Q E s):
  UnR X f (rU fun i=>.int (g i)):=by
 intro pins s σ H x v Q I rx h
 obtain ⟨i,rfl,q⟩:=h
 obtain ⟨t,rfl⟩:=rx
 exact rule i t s _ _ ⟨.int (g i),H,I.tok _,⟨_,rfl⟩,q⟩
theorem A5:UnR X (unaryOp .USub) (rU fun i=>.int (-i)):=unI fun _ _ _ _ _ q=>neg_int q
end
noncomputable def K8:V->V->Bool
 | .non,.non=>true | .non,.int _=>true | .int _,.non=>true | .non,.bl _=>true | .bl _,.non=>true | .non,.str _=>true | .str _,.non=>true
 | .int _,.int _=>true | .bl _,.bl _=>true | .str _,.str _=>true | .byt _,.byt _=>true
 | .int _,.str _=>true | .str _,.int _=>true | .bl _,.str _=>true | .str _,.bl _=>true
 | _,_=>false
noncomputable def rEq:R2:=fun x y H Q=>K8 x y=true/\Q (.bl (decide (x=y))) H
noncomputable def rNe:R2:=fun x y H Q=>K8 x y=true/\Q (.bl (!decide (x=y))) H
theorem Dg {i j:Int}:decide (V.int i=V.int j)=(i == j):=by
 rw [Rn]
 simp
theorem FP {i j:Bool}:decide (V.bl i=V.bl j)=(i == j):=by
 rw [Rn]
 simp
theorem Dh {i j:Str}:decide (V.str i=V.str j)=(i == j):=by
 rw [Rn]
 simp
theorem Di {i j:Array UInt8}:decide (V.byt i=V.byt j)=(i.toList == j.toList):=by
 rw [Rn]
 cases i
 cases j
 simp
section
variable {X:Cx} {a b c:Expr} {ta tb tc:TE} {pos:Pos}
theorem bH {pins:List (Addr×Obj)} {σ:St} {H:Hp} {s:Shared} {Q:VK} {k k':Bool} (I:Inv X pins σ H s) (q:Q (.bl k) H) (e:k=k'):EP X pins σ Q (.bool k') s:=by
 subst e
 exact ⟨.bl k,H,I,rfl,q⟩
theorem bY:OpR X (O2 .Eq) rEq:=by
 intro pins s σ H x y v u Q I rx ry h
 obtain ⟨hs,q⟩:=h
 cases x with
 | non=>
  cases rx
  cases y with
  | non=>cases ry; exact PySem.EqNone.eq_none_none (bH I q (by simp))
  | bl j=>cases ry; exact PySem.EqNone.eq_none_bool (bH I q (by simp))
  | int j=>obtain ⟨t',rfl⟩:=ry; exact PySem.EqNone.eq_none_int (bH I q (by simp))
  | str j=>obtain ⟨t',rfl⟩:=ry; exact PySem.EqNone.eq_none_str (bH I q (by simp))
  | _=>exact absurd (show false=true from hs) Nk
 | bl i=>
  cases rx
  cases y with
  | non=>cases ry; exact PySem.EqNone.eq_bool_none (bH I q (by simp))
  | bl j=>cases ry; exact eq_bool (bH I q FP)
  | str j=>obtain ⟨t',rfl⟩:=ry; exact PySem.EqMixed.eq_bool_str (bH I q (by simp))
  | _=>exact absurd (show false=true from hs) Nk
 | int i=>
  obtain ⟨t,rfl⟩:=rx
  cases y with
  | non=>cases ry; exact PySem.EqNone.eq_int_none (bH I q (by simp))
  | int j=>obtain ⟨t',rfl⟩:=ry; exact eq_int (bH I q Dg)
  | str j=>obtain ⟨t',rfl⟩:=ry; exact PySem.EqMixed.eq_int_str (bH I q (by simp))
  | _=>exact absurd (show false=true from hs) Nk
 | str i=>
  obtain ⟨t,rfl⟩:=rx
  cases y with
  | non=>cases ry; exact PySem.EqNone.eq_str_none (bH I q (by simp))
  | bl j=>cases ry; exact PySem.EqMixed.eq_str_bool (bH I q (by simp))
  | int j=>obtain ⟨t',rfl⟩:=ry; exact PySem.EqMixed.eq_str_int (bH I q (by simp))
  | str j=>obtain ⟨t',rfl⟩:=ry; exact eq_str (bH I q Dh)
  | _=>exact absurd (show false=true from hs) Nk
 | byt i=>
  obtain ⟨t,rfl⟩:=rx
  cases y with
  | byt j=>obtain ⟨t',rfl⟩:=ry; exact PySem.W.eq_bytes (bH I q Di)
  | _=>exact absurd (show false=true from hs) Nk
 | _=>cases y <;> exact absurd (show false=true from hs) Nk
theorem Jv:OpR X (O2 .NotEq) rNe:=by
 intro pins s σ H x y v u Q I rx ry h
 obtain ⟨hs,q⟩:=h
 cases x with
 | non=>
  cases rx
  cases y with
  | non=>cases ry; exact PySem.EqNone.ne_none_none (bH I q (by simp))
  | bl j=>cases ry; exact PySem.EqNone.ne_none_bool (bH I q (by simp))
  | int j=>obtain ⟨t',rfl⟩:=ry; exact PySem.EqNone.ne_none_int (bH I q (by simp))
  | str j=>obtain ⟨t',rfl⟩:=ry; exact PySem.EqNone.ne_none_str (bH I q (by simp))
  | _=>exact absurd (show false=true from hs) Nk
 | bl i=>
  cases rx
  cases y with
  | non=>cases ry; exact PySem.EqNone.ne_bool_none (bH I q (by simp))
  | bl j=>cases ry; exact ne_bool (bH I q (congrArg not FP))
  | str j=>obtain ⟨t',rfl⟩:=ry; exact PySem.EqMixed.ne_bool_str (bH I q (by simp))
  | _=>exact absurd (show false=true from hs) Nk
 | int i=>
  obtain ⟨t,rfl⟩:=rx
  cases y with
  | non=>cases ry; exact PySem.EqNone.ne_int_none (bH I q (by simp))
  | int j=>obtain ⟨t',rfl⟩:=ry; exact ne_int (bH I q (congrArg not Dg))
  | str j=>obtain ⟨t',rfl⟩:=ry; exact PySem.EqMixed.ne_int_str (bH I q (by simp))
  | _=>exact absurd (show false=true from hs) Nk
 | str i=>
  obtain ⟨t,rfl⟩:=rx
  cases y with
  | non=>cases ry; exact PySem.EqNone.ne_str_none (bH I q (by simp))
  | bl j=>cases ry; exact PySem.EqMixed.ne_str_bool (bH I q (by simp))
  | int j=>obtain ⟨t',rfl⟩:=ry; exact PySem.EqMixed.ne_str_int (bH I q (by simp))
  | str j=>obtain ⟨t',rfl⟩:=ry; exact ne_str (bH I q (congrArg not Dh))
  | _=>exact absurd (show false=true from hs) Nk
 | byt i=>
  obtain ⟨t,rfl⟩:=rx
  cases y with
  | byt j=>obtain ⟨t',rfl⟩:=ry; exact PySem.W.ne_bytes (bH I q (congrArg not Di))
  | _=>exact absurd (show false=true from hs) Nk
 | _=>cases y <;> exact absurd (show false=true from hs) Nk
theorem Jw:OpR X (O2 .Lt) (rI0 fun i j=>.bl (decide (i < j))):=Ho fun _ _ _ _ _ _ _ q=>lt_int q
theorem AA:OpR X (O2 .LtE) (rI0 fun i j=>.bl (decide (i<=j))):=Ho fun _ _ _ _ _ _ _ q=>le_int q
theorem nO:OpR X (O2 .Gt) (rI0 fun i j=>.bl (decide (j < i))):=Ho fun _ _ _ _ _ _ _ q=>gt_int q
theorem OpR.or {f:Value->Value->Sem Value} {r r':R2} (h:OpR X f r) (h':OpR X f r'):OpR X f (fun x y H Q=>r x y H Q\/r' x y H Q):=by
 intro pins s σ H x y v u Q I rx ry q
 rcases q with q | q
 ·exact h pins s σ H x y v u Q I rx ry q
 ·exact h' pins s σ H x y v u Q I rx ry q
theorem aO (b:Expr) {op:CmpOp} (h:op≠.In:=by decide) (h2:op≠.NotIn:=by decide):R9 op b=false:=by
 have e1:(op == CmpOp.In)=false:=by cases op <;> first | rfl | exact absurd rfl h
 have e2:(op == CmpOp.NotIn)=false:=by cases op <;> first | rfl | exact absurd rfl h2
 cases b <;> simp [R9,e1,e2]
theorem ff {op:CmpOp} {r:R2} (ho:OpR X (O2 op) r) (ha:PE X a ta) (hb:PE X b tb) (hm:R9 op b=false):PE X (.Compare a [op] [b] pos) (tOp r ta tb):=by
 intro pins s σ H Q I h
 exact wpAny_Compare1 (Hn ha hb I h fun v u s2 x y H2 I2 rx ry q=>ho pins s2 σ H2 x y v u Q I2 rx ry q) hm
noncomputable def be (t:TE):TT:=fun σ H Q=>t σ H fun x H'=>∃ k,x=.bl k/\Q k H'
theorem aP {op:CmpOp} {r:R2} (ho:OpR X (O2 op) r) (ha:PE X a ta) (hb:PE X b tb) (hm:R9 op b=false):PT X (.Compare a [op] [b] pos) (be (tOp r ta tb)):=by
 intro pins s σ H Q I h
 refine wpAny_isTrue_Compare1 (thn (ha pins s σ H _ I h) fun v s1 ⟨x,H1,I1,r1,q1⟩=>thn (hb pins s1 σ H1 _ I1 q1) fun u s2 ⟨y,H2,I2,r2,q2⟩=>
  thn (ho pins s2 σ H2 x y v u _ I2 r1 r2 q2) fun c s3 ⟨z,H3,I3,r3,k,e,q3⟩=>?_) hm
 subst e
 cases r3
 exact Pi ⟨H3,I3,q3⟩
noncomputable def A6 (r r':R2) (ta tb tc:TE):TE:=fun σ H Q=>ta σ H fun x H1=>tb σ H1 fun y H2=>r x y H2 fun z H3=>∃ k,z=.bl k/\
 (if k=true then tc σ H3 fun w' H4=>r' y w' H4 Q else Q (.bl false) H3)
theorem Hq {op op':CmpOp} {r r':R2} (ho:OpR X (O2 op) r) (ho':OpR X (O2 op') r') (ha:PE X a ta) (hb:PE X b tb) (hc:PE X c tc)
  (hm:lastMarks [op,op'] [b,c]=false:=by with_unfolding_all rfl):PE X (.Compare a [op,op'] [b,c] pos) (A6 r r' ta tb tc):=by
 intro pins s σ H Q I h
 refine Compare_chain (thn (ha pins s σ H _ I h) fun v s1 ⟨x,H1,I1,r1,q1⟩=>chain_link (thn (hb pins s1 σ H1 _ I1 q1) fun u s2 ⟨y,H2,I2,r2,q2⟩=>
  thn (ho pins s2 σ H2 x y v u _ I2 r1 r2 q2) fun d s3 ⟨z,H3,I3,r3,k,e,q3⟩=>?_)) hm
 subst e
 cases r3
 refine Pi ?_
 cases k with
 | false=>exact ite_ff ⟨.bl false,H3,I3,rfl,q3⟩
 | true=>exact ite_tt (chain_last (thn (hc pins s3 σ H3 _ I3 q3) fun w' s4 ⟨z',H4,I4,r4,q4⟩=>ho' pins s4 σ H4 y z' u w' Q I4 r2 r4 q4))
theorem vX:(Nh:Nat) < 2 ^ 63:=by rw [Nf]; decide
theorem pV {x:V} {us:List Value} (r:aL [x] us):∃ u,us=[u]/\aK x u:=by
 cases r with
 | cons r1 r2=>cases r2; exact ⟨_,rfl,r1⟩
theorem Jx {x y:V} {us:List Value} (r:aL [x,y] us):∃ u w',us=[u,w']/\aK x u/\aK y w':=by
 cases r with
 | cons r1 r2=>
  cases r2 with
  | cons r3 r4=>cases r4; exact ⟨_,_,rfl,r1,r3⟩
theorem FQ (hc:X.calm=true):cU X (.builtin "max") (fun xs H Q=>∃ i j,xs=[.int i,.int j]/\Q (.int (if j > i then j else i)) H):=by
 intro pins s σ H xs us Q I r h
 obtain ⟨i,j,rfl,q⟩:=h
 obtain ⟨u,w',rfl,⟨t,rfl⟩,⟨t',rfl⟩⟩:=Jx r
 refine max_two_ints (I.ok.hd hc) fun h' tk k=>⟨_,H,I.kept k,?_,q⟩
 by_cases hj:j > i
 ·rw [if_pos hj,if_pos hj]; exact ⟨_,rfl⟩
 ·rw [if_neg hj,if_neg hj]; exact ⟨_,rfl⟩
theorem zd (hc:X.calm=true):cU X (.builtin "min") (fun xs H Q=>∃ i j,xs=[.int i,.int j]/\Q (.int (if j < i then j else i)) H):=by
 intro pins s σ H xs us Q I r h
 obtain ⟨i,j,rfl,q⟩:=h
 obtain ⟨u,w',rfl,⟨t,rfl⟩,⟨t',rfl⟩⟩:=Jx r
 refine min_two_ints (I.ok.hd hc) fun h' tk k=>⟨_,H,I.kept k,?_,q⟩
 by_cases hj:j < i
 ·rw [if_pos hj,if_pos hj]; exact ⟨_,rfl⟩
 ·rw [if_neg hj,if_neg hj]; exact ⟨_,rfl⟩
theorem ze:cU X (.type "int") (fun xs H Q=>(∃ i,xs=[.int i]/\Q (.int i) H)\/∃ k,xs=[.bl k]/\Q (.int (if k then 1 else 0)) H):=by
 intro pins s σ H xs us Q I r h
 rcases h with ⟨i,rfl,q⟩ | ⟨k,rfl,q⟩
 ·obtain ⟨u,rfl,t,rfl⟩:=pV r
  exact call_int_int ⟨.int i,H,I,⟨_,rfl⟩,q⟩
 ·obtain ⟨u,rfl,r1⟩:=pV r
  cases r1
  exact call_int_bool ⟨.int (if k then 1 else 0),H,I.tok _,⟨_,rfl⟩,q⟩
end
end L2
namespace L2
open PySem PySem.Spec PyProof.Rows
structure va (h:Heap) (x dx C:Addr) (mA:Str->Option Value):Prop where
 obj:h.get? x=some (Px C dx)
 ns:h.Ns1 dx mA
 ne:dx≠x
theorem FR {h:Heap} {dx:Addr} {mA:Str->Option Value} (n:h.Ns1 dx mA):∃ od,h.get? dx=some od/\∀ name,RG name od=some (mA name):=by
 obtain ⟨o,es,ep,ho,hd,hk,_,hm⟩:=n
 refine ⟨o,ho,fun name=>?_⟩
 have e:=hm name
 unfold nsFind findBy at e
 rw [<-Array.find?_toList] at e
 unfold RG
 rw [hd]
 dsimp only
 split
 ·rename_i y q
  rw [q] at e
  exact congrArg some e
 ·rename_i q
  rw [q] at e
  have a:es.toList.any (·.refKey)=false:=by
   rw [List.any_eq_false]
   intro y hy
   obtain ⟨z,t,hkey⟩:=hk y (Array.mem_toList_iff.mp hy)
   simp [Uz.refKey,hkey]
  have a':¬ es.toList.any (·.refKey)=true:=by rw [a]; exact Nk
  rw [if_neg a']
  exact congrArg some e
theorem va.look {h:Heap} {x dx C:Addr} {mA:Str->Option Value} (I:va h x dx C mA):∃ od,PySem.W.InstAt h x (Px C dx) C (some od)/\∀ name,RG name od=some (mA name):=
 let ⟨od,ho,hl⟩:=FR I.ns
 ⟨od,⟨I.obj,rfl,rfl,ho⟩,hl⟩
section
variable {prog:Program} {w:World} {A:Around} {E:Value->Shared->Prop} {s:Shared} {K:Fg} {x dx C f:Addr} {mA:Str->Option Value} {name:Str} {v:Value}
theorem JT {expr:Bool} {Q:Value->Shared->Prop} (X:K.In s.heap) (I:va s.heap x dx C mA) (hg:Rb K C name=true) (hh:Sl K C=true)
  (ha:Pf K (.ref C) name=some none) (hv:mA name=some v) (hv':Vp v=true) (h:Q v { s with toks:=s.toks + 1 }):
  wpAny (model prog w) A (getAttr (.ref x) name expr) Q E s:=by
 obtain ⟨od,J,hl⟩:=I.look
 exact PySem.W.get_value X J (RC hg).1 (PySem.W.findObj_own hh ha rfl (by rw [hl,hv])) hv' h
theorem Hr {pl:Sem Bool} {Q:Value×List Value->Shared->Prop} (X:K.In s.heap) (I:va s.heap x dx C mA) (hg:Rb K C name=true)
  (hf:Pf K (.ref C) name=some (some (.ref f))) (ht:UA K (.ref f)=true) (hv:mA name=none) (h:Q (.ref f,[.ref x]) s):
  wpAny (model prog w) A (RQ (.ref x) name pl) Q E s:=by
 obtain ⟨od,J,hl⟩:=I.look
 exact PySem.W.method_fn X J (RC hg).1 (RC hg).2 hf (beq_iff_eq.mp ht) (by show (RG name od).map (·.isSome)=some false; rw [hl,hv]; rfl) h
theorem JU {ns:List Str} {Q:Unit->Shared->Prop} (X:K.In s.heap) (I:va s.heap x dx C mA)
  (hs:Pf K (.ref C) "__setattr__"=some (some (.builtin "object.__setattr__"))) (hp:UP K C=true) (ht:Tc K C name=some none) (hh:Sl K C=true)
  (hw:SG mA ns) (hsz:ns.length<=Nh)
  (h:∀ h',va h' x dx C (fun y=>if y=name then some v else mA y)->Nw dx s.heap h'->Q () { s with heap:=h',toks:=s.toks + 2 }):
  wpAny (model prog w) A (setAttr (.ref x) name v) Q E s:=by
 obtain ⟨od,J,hl⟩:=I.look
 refine PySem.W.set_plain X J hs (PySem.W.osa_open (s:={ s with toks:=s.toks + 1 }) (r:=none) X J hp ht fun b=>?_)
 obtain ⟨cd,hc,hd'⟩:=PySem.W.any_some hh
 have hx:s.heap.get? x=some ⟨.ref C,some dx,.plain,#[]⟩:=I.obj
 refine M1 (M5 (M1 (M1 (wpAny_loadPart hx (M1 (PySem.W.Looks.here (s:={ s with toks:=s.toks + 1 }) (PySem.W.looks_clsIn X hc) ?_))))))
 rw [hd']
 refine M5 (a:=some dx) (M1 (M5 (M1 ?_)))
 refine wpAny_nsSet1 (s:={ s with toks:=s.toks + 1 }) I.ns fun h' hn2 hs2=>?_
 obtain ⟨oD,esD,epD,hoD,hdD,hcD⟩:=hn2.count (SG.cons name v hw)
 refine M1 (wpAny_lookBehind hoD (by rw [hdD]; exact pastItsLine_dict (NQ hcD (by rw [NK]; omega))) ?_)
 exact M5 (h _ ⟨(hs2.2 _ (OJ I.ne)).trans I.obj,hn2,I.ne⟩ hs2)
theorem Hs {R:Result->Shared->Prop} {vs:List Value} {kw:List (Str×Value)} (X:K.In s.heap) (hm:VL K C=true)
  (hi:Pf K (.ref C) "__init__"=some (some (.ref f))) (hf:PySem.W.typeIn K (.ref f)=some (.type "function"))
  (h:codeAny (model prog w) (A.under (.builtin "type.__call__" ⟨.ref C :: vs,kw⟩)) (.call (.ref f) ⟨.ref (s.heap.objs.size + 1) :: vs,kw⟩) (PySem.W.InitBack (s.heap.objs.size + 1) R)
   { s with heap:=(s.heap.push O3).push (Px C s.heap.objs.size) }):
  codeAny (model prog w) A (.call (.ref C) ⟨vs,kw⟩) R s:=by
 obtain ⟨hh,g,d,t,os⟩:=s
 exact PySem.W.make_core (PySem.W.makes_of X hm) (PySem.W.looks_findIn X hi) (fun self=>PySem.W.bind_fn X self hf) (.inl rfl) h
end
noncomputable def hU (f:Str) (v:V):List (Str×V)->List (Str×V)
 | []=>[(f,v)]
 | (g,x) :: r=>if g=f then (g,v) :: r else (g,x) :: hU f v r
theorem uE (f g:Str) (v:V):∀ fs:List (Str×V),(hU f v fs).lookup g=if g=f then some v else fs.lookup g
 | []=>by
  show Qq g [(f,v)]=_
  by_cases h:g=f
  ·have hb:(g == f)=true:=beq_iff_eq.mpr h
   simp only [Qq,hb,if_pos h]
  ·have hb:(g == f)=false:=beq_eq_false_iff_ne.mpr h
   simp only [Qq,hb,if_neg h]
 | (k,x) :: r=>by
  have ih:=uE f g v r
  rw [show hU f v ((k,x) :: r)=(if k=f then (k,v) :: r else (k,x) :: hU f v r) from rfl]
  by_cases hk:k=f
  ·rw [if_pos hk]
   by_cases h:g=k
   ·have hb:(g == k)=true:=beq_iff_eq.mpr h
    simp only [Qq,hb,if_pos (h.trans hk)]
   ·have hb:(g == k)=false:=beq_eq_false_iff_ne.mpr h
    simp only [Qq,hb,if_neg (fun e:g=f=>h (e.trans hk.symm))]
  ·rw [if_neg hk]
   by_cases h:g=k
   ·have hb:(g == k)=true:=beq_iff_eq.mpr h
    simp only [Qq,hb,if_neg (fun e:g=f=>hk (h.symm.trans e))]
   ·have hb:(g == k)=false:=beq_eq_false_iff_ne.mpr h
    simp only [Qq,hb]
    exact ih
theorem rG (f:Str) (v:V):∀ fs:List (Str×V),f∈(hU f v fs).map (·.1)/\∀ g,g∈fs.map (·.1)->g∈(hU f v fs).map (·.1)
 | []=>⟨by simp [hU],fun g h=>by simp at h⟩
 | (k,x) :: r=>by
  obtain ⟨i1,i2⟩:=rG f v r
  rw [show hU f v ((k,x) :: r)=(if k=f then (k,v) :: r else (k,x) :: hU f v r) from rfl]
  by_cases hk:k=f
  ·rw [if_pos hk]
   subst hk
   exact ⟨by simp,fun g h=>by simpa using h⟩
  ·rw [if_neg hk]
   refine ⟨?_,fun g h=>?_⟩
   ·rw [Nt]
    exact Nn _ i1
   ·rw [Nt] at h ⊢
    rcases Nc.mp h with e | e
    ·exact Nc.mpr (.inl e)
    ·exact Nn _ (i2 g e)
theorem uF (f:Str) (v:V):∀ fs:List (Str×V),(hU f v fs).length<=fs.length + 1
 | []=>by simp [hU]
 | (k,x) :: r=>by
  have ih:=uF f v r
  rw [show hU f v ((k,x) :: r)=(if k=f then (k,v) :: r else (k,x) :: hU f v r) from rfl]
  by_cases hk:k=f
  ·rw [if_pos hk,NK,NK]; omega
  ·rw [if_neg hk,NK,NK]; omega
theorem gf.some_of {v:V} {o:Option Value} (r:gf (some v) o):∃ u,o=some u/\aK v u:=by
 cases o with
 | none=>exact (show False from r).elim
 | some u=>exact ⟨u,rfl,r⟩
theorem gf.none_of {o:Option Value} (r:gf none o):o=none:=by
 cases o with
 | none=>rfl
 | some u=>exact (show False from r).elim
theorem FS {v:V} {u:Value} (r:aK v u):Vp u=true:=by
 cases v with
 | non=>cases (show u=Ou from r); rfl
 | bl b=>cases (show u=Od b from r); rfl
 | int i=>obtain ⟨t,e⟩:=(show ∃ t,u=Qa i t from r); cases e; rfl
 | str x=>obtain ⟨t,e⟩:=(show ∃ t,u=Ta x t from r); cases e; rfl
 | byt b=>obtain ⟨t,e⟩:=(show ∃ t,u=Value.bytes b t from r); cases e; rfl
 | flt b=>obtain ⟨t,e⟩:=(show ∃ t,u=Ve b t from r); cases e; rfl
 | ref a=>cases (show u=NI a from r); rfl
 | ty n=>cases (show u=Ov n from r); rfl
section
variable {P:Program} {w:World} {H H':Hp} {h h':Heap} {a C dx:Addr} {fs fs':List (Str×V)}
theorem tK (hok:HOk P w H h) (e:H a=some (.ins C dx fs)):∃ mA,va h a dx C mA/\(∀ f,gf (fs.lookup f) (mA f))/\SG mA (fs.map (·.1))/\fs.length<=1000/\H dx=some (.own a):=by
 obtain ⟨d,z,ne,ob,mA,n,r,q⟩:=(show bQ P w H h a (.ins C dx fs) from hok a _ e)
 exact ⟨mA,⟨ob,n,ne⟩,r,q,z,d⟩
end
structure Cls (K:Fg) (C:Addr):Prop where
 pg:Rb K C V8=true
 hd:Sl K C=true
 po:UP K C=true
 sa:Pf K (.ref C) "__setattr__"=some (some (.builtin "object.__setattr__"))
theorem Cls.get {K:Fg} {C:Addr} (c:Cls K C) (f:Str):Rb K C f=true:=c.pg
noncomputable def fo (K:Fg) (C:Addr) (f:Str):Prop:=Pf K (.ref C) f=some none
theorem fo.taker {K:Fg} {C:Addr} {f:Str} (n:fo K C f):Tc K C f=some none:=by
 unfold Tc
 rw [show Pf K (.ref C) f=some none from n]
 rfl
structure A7 (K:Fg) (C:Addr) (m:Str) (f:Addr):Prop where
 at_:Pf K (.ref C) m=some (some (.ref f))
 fn:UA K (.ref f)=true
 kp:Qy K (.ref f)=true
section
variable {X:Cx} {pins:List (Addr×Obj)} {σ:St} {H:Hp} {s:Shared} {a C dx:Addr} {fs:List (Str×V)} {f:Str} {v:V} {A:Around} {E:Value->Shared->Prop}
theorem D0 {b:Bool} {Q:Value->Shared->Prop} (I:Inv X pins σ H s) (e:H a=some (.ins C dx fs)) (c:Cls X.K C) (n:fo X.K C f) (l:fs.lookup f=some v)
  (h:∀ u s',Inv X pins σ H s'->aK v u->Q u s'):wpAny (model X.prog X.w) A (getAttr (.ref a) f b) Q E s:=by
 obtain ⟨mA,O,r,_,_,_⟩:=tK I.hok e
 obtain ⟨u,hu,ru⟩:=gf.some_of (v:=v) (o:=mA f) (by rw [<-l]; exact r f)
 exact JT I.kIn O (c.get f) c.hd n hu (FS ru) (h u _ (I.tok _) ru)
theorem vY {m:Str} {g:Addr} {pl:Sem Bool} {Q:Value×List Value->Shared->Prop} (I:Inv X pins σ H s) (e:H a=some (.ins C dx fs)) (c:Cls X.K C) (k:A7 X.K C m g) (l:fs.lookup m=none)
  (h:Q (.ref g,[.ref a]) s):wpAny (model X.prog X.w) A (RQ (.ref a) m pl) Q E s:=by
 obtain ⟨mA,O,r,_,_,_⟩:=tK I.hok e
 have hn:mA m=none:=gf.none_of (by rw [<-l]; exact r m)
 exact Hr I.kIn O (c.get m) k.at_ k.fn hn h
theorem Ea {y:V} {u:Value} {Q:Unit->Shared->Prop} (I:Inv X pins σ H s) (e:H a=some (.ins C dx fs)) (c:Cls X.K C) (n:fo X.K C f) (hl:fs.length < 1000) (ry:aK y u)
  (h:∀ s',Inv X pins σ (upd H a (.ins C dx (hU f y fs))) s'->Q () s'):wpAny (model X.prog X.w) A (setAttr (.ref a) f u) Q E s:=by
 obtain ⟨mA,O,r,wi,_,ho⟩:=tK I.hok e
 have hz:(fs.map (·.1)).length<=Nh:=by rw [M6,Nf]; omega
 refine JU I.kIn O c.sa c.po n.taker c.hd wi hz fun h' O' sb=>h _ ?_
 have hd:∃ o,h'.get? dx=some o:=let ⟨o,_,_,e',_⟩:=O'.ns; ⟨o,e'⟩
 refine I.write (x:=a) (e:=dx) (by rw [e]; exact Pz) (.inr ho) (fun b q hb z=>(sb.2 b hb).trans z) hd ?_
 refine ⟨by rw [aQ O.ne]; exact ho,?_,O.ne,O'.obj,_,O'.ns,fun g=>?_,fun g hg=>?_⟩
 ·have:=uF f y fs; omega
 ·show gf ((hU f y fs).lookup g) (if g=f then some u else mA g)
  rw [uE]
  by_cases q:g=f
  ·rw [if_pos q,if_pos q]; exact ry
  ·rw [if_neg q,if_neg q]; exact r g
 ·by_cases q:g=f
  ·rw [q]; exact (rG f y fs).1
  ·refine (rG f y fs).2 g (wi g fun z=>hg ?_)
   show (if g=f then some u else mA g)=none
   rw [if_neg q]; exact z
theorem Inv.made (I:Inv X pins σ H s):Inv X pins σ (upd (upd H s.heap.objs.size (.own (s.heap.objs.size + 1))) (s.heap.objs.size + 1) (.ins C s.heap.objs.size []))
  { s with heap:=(s.heap.push O3).push (Px C s.heap.objs.size) }:=by
 have e1:(s.heap.push O3).get? s.heap.objs.size=some O3:=Nj s.heap rfl
 have e2:((s.heap.push O3).push (Px C s.heap.objs.size)).get? (s.heap.objs.size + 1)=some (Px C s.heap.objs.size):=by
  have:=Nj (s.heap.push O3) (o:=Px C s.heap.objs.size) rfl
  rwa [N2] at this
 have e3:(s.heap.push O3).Ns s.heap.objs.size (fun _=>none):=⟨O3,#[],_,e1,rfl,(fun e he=>absurd he (by simp)),fun _=>rfl⟩
 have I1:=I.laid (a:=s.heap.objs.size) (o:=.own (s.heap.objs.size + 1)) (h':=s.heap.push O3) (t':=s.toks) (fun b u q=>M4 _ q) (M9 _) ⟨_,e1⟩
 refine I1.laid (a:=s.heap.objs.size + 1) (o:=.ins C s.heap.objs.size []) (t':=s.toks) (fun b u q=>M4 _ q) (Ro (N2 _ _)) ?_
 have ne:s.heap.objs.size≠s.heap.objs.size + 1:=NN (OH _)
 refine ⟨by rw [aQ ne,ay],N9 _,ne,e2,fun _=>none,(Heap.Ns1.of_empty e3).at fun o q=>M4 _ q,fun _=>Pz,fun y hy=>absurd rfl hy⟩
theorem JV {prog:Program} {w:World} {env:Env} {e:Expr} {f:Str} {pos:Pos} {s:Shared} {Q:Value->Shared->Prop} (hb:Qj e f env (eval e env)=eval e env)
  (h:wpAny (model prog w) A (eval e env) (fun o s₁=>wpAny (model prog w) A (getAttr o f true) Q E s₁) E s):wpAny (model prog w) A (eval (.Attribute e f pos) env) Q E s:=
 Attribute_any_ h (by rw [arm_eval_Attribute,hb])
end
noncomputable def gj (K:Fg) (ta:TE) (f:Str):TE:=fun σ H Q=>ta σ H fun x H1=>∃ a C dx fs v,x=.ref a/\H1 a=some (.ins C dx fs)/\Cls K C/\fo K C f/\fs.lookup f=some v/\Q v H1
noncomputable def rH (K:Fg) (ta tv:TE) (f:Str):TS:=fun D σ H=>tv σ H fun y H1=>ta σ H1 fun x H2=>∃ a C dx fs,x=.ref a/\H2 a=some (.ins C dx fs)/\Cls K C/\fo K C f/\fs.length < 1000/\
 D.nx σ (upd H2 a (.ins C dx (hU f y fs)))
section
variable {X:Cx} {o e value:Expr} {f:Str} {pos pos' tpos:Pos} {ta tv:TE}
theorem dM (he:PE X e ta) (hb:Qj e f X.env (eval e X.env)=eval e X.env):PE X (.Attribute e f pos) (gj X.K ta f):=by
 intro pins s σ H Q I h
 refine JV hb (thn (he pins s σ H _ I h) fun u s1 ⟨x,H1,I1,rx,a,C,dx,fs,v,ex,ea,c,n,l,q⟩=>?_)
 subst ex
 obtain rfl:u=NI a:=rx
 exact D0 I1 ea c n l fun u' s2 I2 ru=>⟨v,H1,I2,ru,q⟩
theorem oU (ha:PE X o ta) (hv:PE X value tv) (hs:Ux value (some (.Attribute o f pos')) pos.line X.env=pure false):PS X (.Assign [.Attribute o f pos'] value pos) (rH X.K ta tv f):=by
 intro pins s σ H D I h
 refine plainObj_wpAny_Assign_Attribute (thn (hv pins s σ H _ I h) fun u s1 ⟨y,H1,I1,ry,q⟩=>thn (ha pins s1 σ H1 _ I1 q) fun ov s2 ⟨x,H2,I2,rx,a,C,dx,fs,ex,ea,c,n,l,q2⟩=>?_) hs
 subst ex
 obtain rfl:ov=NI a:=rx
 exact Ea I2 ea c n l ry fun s3 I3=>⟨σ,_,I3,q2⟩
end
section
variable {X:Cx} {pins:List (Addr×Obj)} {σ:St} {H:Hp} {s:Shared} {A:Around} {E:Value->Shared->Prop} {Q:Value->Shared->Prop} {c:Value} {b:Bool}
inductive gk (K:Fg) (H:Hp):V->Value->Prop where
 | non:gk K H .non (.type "NoneType")
 | bl (x:Bool):gk K H (.bl x) (.type "bool")
 | int (i:Int):gk K H (.int i) (.type "int")
 | str (x:Str):gk K H (.str x) (.type "str")
 | flt (x:UInt64):gk K H (.flt x) (.type "float")
 | lst {a:Addr} {xs:List V} (e:H a=some (.lst xs)):gk K H (.ref a) (.type "list")
 | frz {a:Addr} {o:Obj} {xs:List V} (e:H a=some (.frz o (.lst xs))):gk K H (.ref a) (.type "list")
 | tup {a:Addr} {xs:List V} (e:H a=some (.tup xs)):gk K H (.ref a) (.type "tuple")
 | dK {a:Addr} {kvs:List (Key×V)} (e:H a=some (.dK kvs)):gk K H (.ref a) (.type "dict")
 | dT {a:Addr} {kvs:List (List Key×V)} (e:H a=some (.dT kvs)):gk K H (.ref a) (.type "dict")
 | ins {a C dx:Addr} {fs:List (Str×V)} (e:H a=some (.ins C dx fs)) (cl:Cls K C) (ha:Pf K (.ref C) "__class__"=some (some (.builtin "object.__class__")))
   (hn:PySem.W.specialIn K (.builtin "object.__class__") "__get__"=some (some (.builtin "getset_descriptor.__get__"))) (htk:PySem.W.takesIn K (.builtin "object.__class__")=some true)
   (hm:PySem.W.mroIn K C (.type "object")=some true):gk K H (.ref a) (.ref C)
theorem FT {x:V} {u t:Value} (I:Inv X pins σ H s) (rx:aK x u) (ty:gk X.K H x t) (e:NZ X.K t c=some b) (h:∀ tk,Q (.bool b) { s with toks:=tk }):
  wpAny (model X.prog X.w) A (call (.builtin "isinstance") [u,c]) Q E s:=by
 cases ty with
 | non=>cases (show u=Ou from rx); exact OR PySem.W.kitx_none I.kIn Pz e (fun z=>nomatch z) h
 | bl y=>cases (show u=Od y from rx); exact OR PySem.W.kitx_bool I.kIn Pz e (fun z=>nomatch z) h
 | int i=>obtain ⟨t,q⟩:=(show ∃ t,u=Qa i t from rx); cases q; exact OR PySem.W.kitx_int I.kIn Pz e (fun z=>nomatch z) h
 | str y=>obtain ⟨t,q⟩:=(show ∃ t,u=Ta y t from rx); cases q; exact OR PySem.W.kitx_str I.kIn Pz e (fun z=>nomatch z) h
 | flt y=>obtain ⟨t,q⟩:=(show ∃ t,u=Ve y t from rx); cases q; exact OR PySem.W.kitx_float I.kIn Pz e (fun z=>nomatch z) h
 | @lst a xs ea=>
  cases (show u=NI a from rx)
  obtain ⟨_,_,n,_,h1⟩:=(show bQ X.prog X.w H s.heap a (.lst xs) from I.hok a _ ea)
  exact OR UQ I.kIn ⟨_,h1,rfl⟩ e (fun z=>nomatch z) h
 | @frz a ob xs ea=>
  cases (show u=NI a from rx)
  obtain ⟨_,_,_,n,_,h1⟩:=(show bQ X.prog X.w H s.heap a (.frz ob (.lst xs)) from I.hok a _ ea)
  exact OR UQ I.kIn ⟨_,h1,rfl⟩ e (fun z=>nomatch z) h
 | @tup a xs ea=>
  cases (show u=NI a from rx)
  obtain ⟨_,_,_,p⟩:=(show bQ X.prog X.w H s.heap a (.tup xs) from I.hok a _ ea)
  obtain ⟨o,h1,h2,_⟩:=p
  exact OR PySem.W.kitx_tuple I.kIn ⟨o,h1,h2⟩ e (fun z=>nomatch z) h
 | @dK a kvs ea=>
  cases (show u=NI a from rx)
  obtain ⟨_,_,vs,_,p⟩:=(show bQ X.prog X.w H s.heap a (.dK kvs) from I.hok a _ ea)
  obtain ⟨o,es,ep,h1,h2,_⟩:=p
  exact OR UR I.kIn ⟨o,h1,h2.1⟩ e (fun z=>nomatch z) h
 | @dT a kvs ea=>
  cases (show u=NI a from rx)
  obtain ⟨_,_,xs,_,o,es,ep,h1,h2,_⟩:=(show bQ X.prog X.w H s.heap a (.dT kvs) from I.hok a _ ea)
  exact OR UR I.kIn ⟨o,h1,h2.1⟩ e (fun z=>nomatch z) h
 | @ins a C dx fs ea cl ha hn htk hm=>
  cases (show u=NI a from rx)
  obtain ⟨mA,O,_⟩:=tK I.hok ea
  obtain ⟨od,J,_⟩:=O.look
  exact OR (PySem.W.kitx_own (cl.get _) cl.hd ha hn htk hm) I.kIn J e (fun z=>nomatch z) h
end
end L2
namespace L2
open PySem PySem.Spec PyProof.Rows
structure ca (k:Nat) (A:Around):Prop where
 hd:A.handled=none
 dp:A.depth + 3 * k + 5 < recursionLimit
 un:A.units + 16 * k + 200 < cLine
theorem ca.mono {j k:Nat} {A:Around} (r:ca k A) (h:j<=k):ca j A:=⟨r.hd,by have:=r.dp; omega,by have:=r.un; omega⟩
theorem ca.deeper {k:Nat} {A:Around} (r:ca (k + 1) A) (env:Env):ca k (A.deeper env):=
 ⟨r.hd,by have:=r.dp; show A.depth + 1 + 3 * k + 5 < _; omega,by have:=r.un; show A.units + 3 + 16 * k + 200 < _; omega⟩
theorem Eb {A:Around} {C:Addr} {us:List Value} {kw:List (Str×Value)}:(A.under (.builtin "type.__call__" ⟨.ref C :: us,kw⟩)).depth=A.depth + 1:=by
 first | rfl | simp [UB,Code.weight,Code.isCreation,Code.isGuard,Code.isCaller,Code.frames,UC,guardIds]
theorem Ec {A:Around} {C:Addr} {us:List Value} {kw:List (Str×Value)}:(A.under (.builtin "type.__call__" ⟨.ref C :: us,kw⟩)).units=A.units + 1:=by
 first | rfl | simp [UB,Code.cUnits,Code.frames,UC]
theorem ca.make {k:Nat} {A:Around} (r:ca (k + 1) A) (C:Addr) (us:List Value) (kw:List (Str×Value)):ca k (A.under (.builtin "type.__call__" ⟨.ref C :: us,kw⟩)):=
 ⟨r.hd,by have:=r.dp; rw [Eb]; omega,by have:=r.un; rw [Ec]; omega⟩
theorem ca.depth {k:Nat} {A:Around} (r:ca k A):A.depth < recursionLimit:=by have:=r.dp; omega
theorem ca.units {k:Nat} {A:Around} (r:ca k A):A.units + 64 < cLine:=by have:=r.un; omega
theorem ca.units0 {k:Nat} {A:Around} (r:ca k A):A.units < cLine:=by have:=r.un; omega
noncomputable def ag:TA:=fun _ H Q=>Q [] H
noncomputable def ac (ta:TE) (tr:TA):TA:=fun σ H Q=>ta σ H fun x H1=>tr σ H1 fun xs H2=>Q (x :: xs) H2
section
variable {X:Cx} {e:Expr} {es:List Expr} {te:TE} {t:TA} {pos:Pos}
theorem ae:PA X [] ag:=fun _ _ _ _ H Q I h=>Sm ⟨[],H,I,.nil,h⟩
theorem gL (ha:PE X e te) (hr:PA X es t) (hs:NA (e :: es) X.env=(false,eval e X.env) :: NA es X.env:=by rfl):PA X (e :: es) (ac te t):=by
 intro pos pins s σ H Q I h
 rw [hs]
 show wpAny _ _ (spliced ((false,eval e X.env) :: backTo pos (NA es X.env))) _ _ s
 refine RS (thn (ha pins s σ H _ I h) fun u s1 ⟨x,H1,I1,r1,q1⟩=>?_)
 exact thn (hr pos pins s1 σ H1 _ I1 q1) fun us s2 ⟨xs,H2,I2,r2,q2⟩=>⟨x :: xs,H2,I2,.cons r1 r2,q2⟩
noncomputable def Ed (t:TA):TE:=fun σ H Q=>t σ H fun xs H1=>xs.length<=Nh/\∀ p,H1 p=none->Q (.ref p) (upd H1 p (.tup xs))
noncomputable def A8 (t:TA):TE:=fun σ H Q=>t σ H fun xs H1=>xs.length<=Nh/\∀ p,H1 p=none->Q (.ref p) (upd H1 p (.lst xs))
theorem FU {x1} (h:PA X es t):PE X (.Tuple es x1 pos) (Ed t):=by
 intro pins s σ H Q I hq
 refine Um (thn (h pos pins s σ H _ I hq) fun us s1 ⟨xs,H1,I1,r,z,q⟩=>⟨by rw [<-r.length]; exact z,?_⟩)
 have hf:H1 s1.heap.objs.size=none:=I1.hok.fresh (M9 _)
 refine ⟨.ref s1.heap.objs.size,upd H1 s1.heap.objs.size (.tup xs),I1.laid (t':=s1.toks) (fun b u e=>M4 _ e) (M9 _) ?_,rfl,q _ hf⟩
 exact ⟨z,us,r,gz.new _ _⟩
theorem A9 (h:PA X es t):PE X (.List es pos) (A8 t):=by
 intro pins s σ H Q I hq
 refine UD (thn (h pos pins s σ H _ I hq) fun us s1 ⟨xs,H1,I1,r,z,q⟩=>⟨by rw [<-r.length]; exact z,?_⟩)
 have hf:H1 s1.heap.objs.size=none:=I1.hok.fresh (M9 _)
 refine ⟨.ref s1.heap.objs.size,upd H1 s1.heap.objs.size (.lst xs),I1.laid (t':=s1.toks) (fun b u e=>M4 _ e) (M9 _) ?_,rfl,q _ hf⟩
 exact ⟨z,us,0,r,Nj _ rfl⟩
end
noncomputable abbrev Sp:=List V->Hp->VK->XK->Prop
noncomputable abbrev CXT:=List Env->Hp->Shared->XK->Value->Shared->Prop
structure vb (P:Program) (w:World) (K:Fg) (mg:Str->Option Value) (base:Heap) (A:Around) (outer:List Env) (s:Shared) (H:Hp):Prop where
 frames:A.frames=some outer
 mod:Mod K mg base
 bs:∀ b o,base.get? b=some o->s.heap.get? b=some o/\H b=none
 bsz:base.objs.size<=s.heap.objs.size
 funs:s.heap.FunFrames base outer
 frf:∀ b∈frs outer,H b=none
 hok:HOk P w H s.heap
 bare:AllBare s.gens
noncomputable def CE (outer:List Env) (P:Program) (w:World) (H:Hp) (s:Shared) (Q:VK) (u:Value) (s':Shared):Prop:=
 ∃ v H',s'.os=s.os/\AllBare s'.gens/\Un (frs outer) [] H H' s.heap s'.heap/\HOk P w H' s'.heap/\aK v u/\Q v H'
noncomputable def CR (CX:CXT) (outer:List Env) (P:Program) (w:World) (H:Hp) (s:Shared) (Q:VK) (E:XK) (r:Result) (s':Shared):Prop:=
 match r with
 | .ok (.ret u)=>CE outer P w H s Q u s'
 | .ok _=>False
 | .error e=>CX outer H s E e s'
structure dz (P:Program) (w:World) (K:Fg) (mg:Str->Option Value) (base:Heap) (CX:CXT) (k:Nat) (f:Addr) (fd:Nr) (ps:List Str) (sp:Sp):Prop where
 len:∀ vs H Q E,sp vs H Q E->vs.length=ps.length
 run:∀ (A:Around) (outer:List Env) (s:Shared) (H:Hp) (args:Args) (us:List Value) (vs:List V) (Q:VK) (E:XK),ca k A->vb P w K mg base A outer s H->BindsTo s fd args (ps.zip us)->aL vs us->sp vs H Q E->
  codeAny (model P w) A (.call (.ref f) args) (CR CX outer P w H s Q E) s
theorem dz.mono {P:Program} {w:World} {K:Fg} {mg:Str->Option Value} {base:Heap} {CX:CXT} {j k:Nat} {f:Addr} {fd:Nr} {ps:List Str} {sp:Sp} (F:dz P w K mg base CX j f fd ps sp) (h:j<=k):
  dz P w K mg base CX k f fd ps sp:=⟨F.len,fun A outer s H args us vs Q E hr=>F.run A outer s H args us vs Q E (hr.mono h)⟩
theorem dz.imp {P:Program} {w:World} {K:Fg} {mg:Str->Option Value} {base:Heap} {CX:CXT} {k:Nat} {f:Addr} {fd:Nr} {ps:List Str} {sp sp':Sp} (F:dz P w K mg base CX k f fd ps sp)
  (h:∀ vs H Q E,sp' vs H Q E->sp vs H Q E):dz P w K mg base CX k f fd ps sp':=
 ⟨fun vs H Q E q=>F.len vs H Q E (h _ _ _ _ q),fun A outer s H args us vs Q E hr he hb hv hs=>F.run A outer s H args us vs Q E hr he hb hv (h _ _ _ _ hs)⟩
theorem vb.make {P:Program} {w:World} {K:Fg} {mg:Str->Option Value} {base:Heap} {A:Around} {outer:List Env} {s:Shared} {H:Hp} (e:vb P w K mg base A outer s H) (C:Addr) (us:List Value) (kw:List (Str×Value)):
  vb P w K mg base (A.under (.builtin "type.__call__" ⟨.ref C :: us,kw⟩)) outer s H:=⟨by first | exact e.frames | (simpa [UB,Code.envs,UC,pushEnvs] using e.frames),e.mod,e.bs,e.bsz,e.funs,e.frf,e.hok,e.bare⟩
section
variable {X:Cx} {pins:List (Addr×Obj)} {σ:St} {H:Hp} {s s':Shared}
theorem Inv.env0 (I:Inv X pins σ H s):vb X.prog X.w X.K X.mg X.base X.A X.stack s H:=
 ⟨I.ok.frames,I.ok.mod,I.bs,NQ I.ok.bsz I.sz,I.stack,I.stkFree,I.hok,I.bare⟩
theorem Inv.after {Q:VK} {u:Value} (I:Inv X pins σ H s) (h:CE X.stack X.prog X.w H s Q u s'):EP X pins σ Q u s':=by
 obtain ⟨v,H',os,bare,un,hok,r,q⟩:=h
 obtain ⟨hh,g,d,t,os'⟩:=s'
 obtain rfl:os'=s.os:=os
 exact ⟨v,H',I.call (h':=hh) (g':=g) (d':=d) (t':=t) (ch:=[]) un hok bare (fun b z=>absurd z (by simp)),r,q⟩
end
noncomputable def av (sp:Sp) (dvs:List V) (E:XK) (t:TA):TE:=fun σ H Q=>t σ H fun vs H1=>sp (vs++dvs) H1 Q E
noncomputable def gm (C:Addr) (m:Str) (sp:Sp) (dvs:List V) (E:XK) (ta:TE) (t:TA):TE:=fun σ H Q=>ta σ H fun x H1=>∃ a dx fs,x=.ref a/\H1 a=some (.ins C dx fs)/\fs.lookup m=none/\
 t σ H1 fun vs H2=>sp (x :: (vs++dvs)) H2 Q E
noncomputable def AB (C:Addr) (sp:Sp) (dvs:List V) (E:XK) (t:TA):TE:=fun σ H Q=>t σ H fun vs H1=>∀ x dx,H1 x=none->H1 dx=none->dx≠x->
 sp (.ref x :: (vs++dvs)) (upd (upd H1 dx (.own x)) x (.ins C dx [])) (fun v H2=>v=.non/\Q (.ref x) H2) E
noncomputable def fM (K:Fg) (fd:Nr) (ps:List Str) (ds:List Value):Prop:=
 ∀ (s:Shared) (us:List Value),K.In s.heap->(us++ds).length=ps.length->BindsTo s fd ⟨us,[]⟩ (ps.zip (us++ds))
theorem fM.all {K:Fg} {fd:Nr} {ps:List Str} (h:∀ us:List Value,us.length=ps.length->bindArgs fd ⟨us,[]⟩=pure (ps.zip us)):fM K fd ps []:=fun s us _ hl=>by
 rw [O6] at hl ⊢
 exact .of_eq (h us hl)
noncomputable def mR (CX:CXT) (X:Cx) (E:XK):Prop:=∀ (pins:List (Addr×Obj)) (σ:St) (H:Hp) (s:Shared) (e:Value) (s':Shared),Inv X pins σ H s->CX X.stack H s E e s'->X.xe e s'
section
variable {X:Cx} {CX:CXT} {k:Nat} {f C:Addr} {fd:Nr} {ps:List Str} {sp:Sp} {dvs:List V} {ds:List Value} {E:XK} {x m:Str} {p pos apos:Pos} {e o:Expr} {es:List Expr} {ta:TE} {t:TA}
theorem Ba {pins:List (Addr×Obj)} {σ:St} {H:Hp} {s:Shared} {Q:VK} {us:List Value} {vs:List V} (F:dz X.prog X.w X.K X.mg X.base CX k f fd ps sp) (hr:ca k X.A) (hb:fM X.K fd ps ds) (hd:aL dvs ds) (hx:mR CX X E)
  (I:Inv X pins σ H s) (r:aL vs us) (h:sp (vs++dvs) H Q E):wpAny (model X.prog X.w) X.A (call (.ref f) us) (EP X pins σ Q) X.xe s:=by
 have r2:aL (vs++dvs) (us++ds):=r.append hd
 have hl:(us++ds).length=ps.length:=by rw [<-r2.length]; exact F.len _ _ _ _ h
 refine VM (Qz (F.run X.A X.stack s H ⟨us,[]⟩ (us++ds) (vs++dvs) Q E hr I.env0 (hb s us I.kIn hl) r2 h) fun r s' hq=>?_)
 cases r with
 | error e=>exact hx pins σ H s e s' I hq
 | ok fl=>
  cases fl with
  | ret u=>exact I.after hq
  | next=>exact O5 hq
  | brk=>exact O5 hq
  | cont=>exact O5 hq
theorem JW (F:dz X.prog X.w X.K X.mg X.base CX k f fd ps sp) (hr:ca k X.A) (hg:Gl X x) (hm:X.mg x=some (.ref f)) (hk:Qy X.K (.ref f)=true) (hb:fM X.K fd ps ds) (hd:aL dvs ds) (hx:mR CX X E)
  (ha:PA X (e :: es) t) (hdb:(x == ("__debug__":Str))=false:=by decide) (he:NA (e :: es) X.env=(false,eval e X.env) :: NA es X.env:=by rfl) (hpl:(backTo pos (NA es X.env)).any (·.1)=false:=by rfl):
  PE X (.Call (.Name x p) (e :: es) [] pos) (av sp dvs E t):=by
 intro pins s σ H Q I h
 refine Pr (yg I hg hm ?_ hdb)
 refine RU (h₀:=X.base) I.ok.mod.kin hk (thn (ha pos pins s σ H _ I h) fun us s1 ⟨vs,H1,I1,r,q⟩=>⟨I1.kIn,?_⟩) he hpl
 exact Ba F hr hb hd hx I1 r q
theorem JX {pl:Sem Bool} (he:PE X o ta) (c:Cls X.K C) (hm:A7 X.K C m f) (F:dz X.prog X.w X.K X.mg X.base CX k f fd ps sp) (hr:ca k X.A) (hb:fM X.K fd ps ds) (hd:aL dvs ds) (hx:mR CX X E) (ha:PA X (e :: es) t)
  (hst:NA (e :: es) X.env=(false,eval e X.env) :: NA es X.env:=by rfl) (hpl:(backTo pos (NA es X.env)).any (·.1)=false:=by rfl)
  (ht:eval (.Call (.Attribute o m apos) (e :: es) [] pos) X.env=(do
   let ov <-eval o X.env
   standAt apos.atName
   let (f,first) <-holding [ov] (RQ ov m pl)
   Vq pos f first (backTo pos (NA (e :: es) X.env)) (Rc pos (Qr [] X.env))):=by rfl):
  PE X (.Call (.Attribute o m apos) (e :: es) [] pos) (gm C m sp dvs E ta t):=by
 intro pins s σ H Q I h
 refine Tx (pl:=pl) (thn (he pins s σ H _ I h) fun u s1 ⟨x,H1,I1,rx,a,dx,fs,ex,ea,l,q⟩=>?_) ht
 subst ex
 obtain rfl:u=NI a:=rx
 refine vY I1 ea c hm l ?_
 refine RU (first:=[.ref a]) (h₀:=X.base) I.ok.mod.kin hm.kp (thn (ha pos pins s1 σ H1 _ I1 q) fun us s2 ⟨vs,H2,I2,r,q2⟩=>⟨I2.kIn,?_⟩) hst hpl
 exact Ba (us:=.ref a :: us) (vs:=.ref a :: vs) F hr hb hd hx I2 (.cons rfl r) q2
theorem Ht {pl:Sem Bool} (he:PE X o ta) (c:Cls X.K C) (hm:A7 X.K C m f) (F:dz X.prog X.w X.K X.mg X.base CX k f fd ps sp) (hr:ca k X.A) (hb:fM X.K fd ps ds) (hd:aL dvs ds) (hx:mR CX X E)
  (ht:eval (.Call (.Attribute o m apos) [] [] pos) X.env=(do
   let ov <-eval o X.env
   standAt apos.atName
   let (f,first) <-holding [ov] (RQ ov m pl)
   Vq pos f first (backTo pos (NA [] X.env)) (Rc pos (Qr [] X.env))):=by rfl):
  PE X (.Call (.Attribute o m apos) [] [] pos) (gm C m sp dvs E ta ag):=by
 intro pins s σ H Q I h
 refine Tx (pl:=pl) (thn (he pins s σ H _ I h) fun u s1 ⟨x,H1,I1,rx,a,dx,fs,ex,ea,l,q⟩=>?_) ht
 subst ex
 obtain rfl:u=NI a:=rx
 refine vY I1 ea c hm l ?_
 exact PySem.W.callWith_K0 (first:=[.ref a]) I1.kIn hm.kp (Ba (us:=[.ref a]) (vs:=[.ref a]) F hr hb hd hx I1 (.cons rfl .nil) q)
structure Mk (K:Fg) (C f:Addr):Prop where
 makes:VL K C=true
 init:Pf K (.ref C) "__init__"=some (some (.ref f))
 fn:UA K (.ref f)=true
 kp:Qy K (.ref C)=true
theorem Hu {pins:List (Addr×Obj)} {σ:St} {H:Hp} {s:Shared} {Q:VK} {us:List Value} {vs:List V} (M:Mk X.K C f) (F:dz X.prog X.w X.K X.mg X.base CX k f fd ps sp) (hr:ca (k + 1) X.A) (hb:fM X.K fd ps ds) (hd:aL dvs ds)
  (hx:mR CX X E) (I:Inv X pins σ H s) (r:aL vs us)
  (h:∀ x dx,H x=none->H dx=none->dx≠x->sp (.ref x :: (vs++dvs)) (upd (upd H dx (.own x)) x (.ins C dx [])) (fun v H2=>v=.non/\Q (.ref x) H2) E):
  wpAny (model X.prog X.w) X.A (call (.ref C) us) (EP X pins σ Q) X.xe s:=by
 have hq:=h (s.heap.objs.size + 1) s.heap.objs.size (I.hok.fresh (Pn _)) (I.hok.fresh (M9 _)) (NN (OH _))
 have I2:=Inv.made (C:=C) I
 have r2:aL (V.ref (s.heap.objs.size + 1) :: (vs++dvs)) (NI (s.heap.objs.size + 1) :: (us++ds)):=.cons rfl (r.append hd)
 have hl:(NI (s.heap.objs.size + 1) :: us++ds).length=ps.length:=by
  have e:=r2.length
  rw [F.len _ _ _ _ hq] at e
  exact e.symm
 refine VM (Hs (f:=f) I.kIn M.makes M.init (beq_iff_eq.mp M.fn) (Qz (F.run _ X.stack _ _ ⟨NI (s.heap.objs.size + 1) :: us,[]⟩ (NI (s.heap.objs.size + 1) :: (us++ds)) _ _ E (hr.make C us [])
  (I2.env0.make C us []) (hb _ (NI (s.heap.objs.size + 1) :: us) I2.kIn hl) r2 hq) fun r s' hq'=>?_))
 cases r with
 | error e=>exact hx pins σ _ _ e s' I2 hq'
 | ok fl=>
  cases fl with
  | ret u=>
   obtain ⟨v,H',I3,rv,ev,q3⟩:=I2.after hq'
   subst ev
   exact ⟨rv,⟨V.ref (s.heap.objs.size + 1),H',I3,rfl,q3⟩⟩
  | next=>exact O5 hq'
  | brk=>exact O5 hq'
  | cont=>exact O5 hq'
theorem JY (M:Mk X.K C f) (F:dz X.prog X.w X.K X.mg X.base CX k f fd ps sp) (hr:ca (k + 1) X.A) (hg:Gl X x) (hm:X.mg x=some (.ref C)) (hb:fM X.K fd ps ds) (hd:aL dvs ds) (hx:mR CX X E)
  (ha:PA X (e :: es) t) (hdb:(x == ("__debug__":Str))=false:=by decide) (he:NA (e :: es) X.env=(false,eval e X.env) :: NA es X.env:=by rfl) (hpl:(backTo pos (NA es X.env)).any (·.1)=false:=by rfl):
  PE X (.Call (.Name x p) (e :: es) [] pos) (AB C sp dvs E t):=by
 intro pins s σ H Q I h
 refine Pr (yg I hg hm ?_ hdb)
 refine RU (h₀:=X.base) I.ok.mod.kin M.kp (thn (ha pos pins s σ H _ I h) fun us s1 ⟨vs,H1,I1,r,q⟩=>⟨I1.kIn,?_⟩) he hpl
 exact Hu M F hr hb hd hx I1 r q
end
section
variable {X:Cx} {CX:CXT} {k:Nat} {f C:Addr} {fd:Nr} {ps ks:List Str} {sp:Sp} {E:XK} {x m:Str} {p pos apos kpos:Pos} {e o:Expr} {es:List Expr} {kws:List Keyword} {te ta:TE} {t tk:TA} {nm:Option Str}
variable {g:List Value->List Value->List Value} {gV:List V->List V->List V}
end
structure aA (N P:List Str) (sc:Scope):Prop where
 kind:sc.kind=.function
 co:sc.isCoroutine=false
 gen:sc.isGenerator=false
 nd:N.Nodup
 pre:N.take P.length=P
 par:∀ x∈P,sc.names.lookup x=some .local\/sc.names.lookup x=some .cell
 nofree:∀ y∈sc.names,y.2≠.free
theorem zf {kindOf:Str->Option N0} {x:Str}:∀ {binds:List (Str×Value)} {m:Str->Option Value},(∀ v,(x,v)∉binds)->bindL kindOf binds m x=m x
 | [],_,_=>rfl
 | (n,v) :: r,m,h=>by
  unfold bindL
  rw [zf fun w hw=>h w (Nn _ hw)]
  split
  ·have:x≠n:=by rintro rfl; exact h v Nd
   simp [this]
  ·rfl
theorem zg {kindOf:Str->Option N0} {x:Str}:∀ {binds:List (Str×Value)} {m:Str->Option Value},(∀ v,(x,v)∉binds)->bindC kindOf binds m x=m x
 | [],_,_=>rfl
 | (n,v) :: r,m,h=>by
  unfold bindC
  rw [zg fun w hw=>h w (Nn _ hw)]
  split
  ·rfl
  ·have:x≠n:=by rintro rfl; exact h v Nd
   simp [this]
theorem zh {kindOf:Str->Option N0} {x:Str} {v:Value}:∀ {P:List Str} {vs:List Value} {i:Nat} {m:Str->Option Value},P.Nodup->P[i]?=some x->vs[i]?=some v->kindOf x=some .local->
  bindL kindOf (P.zip vs) m x=some v
 | [],_,_,_,_,h,_,_=>by simp at h
 | _ :: _,[],_,_,_,_,h,_=>by simp at h
 | p :: P,w :: vs,0,m,nd,h1,h2,hk=>by
  simp at h1 h2; subst h1; subst h2
  show bindL kindOf ((p,w) :: P.zip vs) m p=_
  unfold bindL
  rw [zf fun v hv=>(PV.mp nd).1 (Td hv).1,if_pos hk]
  simp
 | p :: P,w :: vs,i + 1,m,nd,h1,h2,hk=>by
  show bindL kindOf ((p,w) :: P.zip vs) m x=_
  unfold bindL
  exact zh (i:=i) (PV.mp nd).2 (by simpa using h1) (by simpa using h2) hk
theorem zi {kindOf:Str->Option N0} {x:Str} {v:Value}:∀ {P:List Str} {vs:List Value} {i:Nat} {m:Str->Option Value},P.Nodup->P[i]?=some x->vs[i]?=some v->kindOf x≠some .local->
  bindC kindOf (P.zip vs) m x=some v
 | [],_,_,_,_,h,_,_=>by simp at h
 | _ :: _,[],_,_,_,_,h,_=>by simp at h
 | p :: P,w :: vs,0,m,nd,h1,h2,hk=>by
  simp at h1 h2; subst h1; subst h2
  show bindC kindOf ((p,w) :: P.zip vs) m p=_
  unfold bindC
  rw [zg fun v hv=>(PV.mp nd).1 (Td hv).1,if_neg hk]
  simp
 | p :: P,w :: vs,i + 1,m,nd,h1,h2,hk=>by
  show bindC kindOf ((p,w) :: P.zip vs) m x=_
  unfold bindC
  exact zi (i:=i) (PV.mp nd).2 (by simpa using h1) (by simpa using h2) hk
noncomputable def start (N:List Str) (vs:List V):St:=vs.map some++NT (N.length - vs.length) none
noncomputable def pW (CX:CXT) (P:Program) (w:World) (K:Fg) (mg:Str->Option Value) (base:Heap) (N:List Str) (qual:Str) (scope:Scope) (f:Addr) (cd:Value) (A:Around) (outer:List Env) (s:Shared) (H:Hp) (E:XK):Cx where
 prog:=P
 w:=w
 K:=K
 mg:=mg
 base:=base
 A:=A.deeper (envOfC qual scope s.heap.objs.size f cd)
 N:=N
 s₀:=s
 H₀:=H
 env:=envOfC qual scope s.heap.objs.size f cd
 outer:=outer
 stack:=envOfC qual scope s.heap.objs.size f cd :: outer
 ex:=[]
 calm:=true
 fn:=fun _=>true
 pn:=[]
 xe:=fun e s'=>wpAny (model P w) (A.deeper (envOfC qual scope s.heap.objs.size f cd)) («leaving» (envOfC qual scope s.heap.objs.size f cd) e) (fun _ s''=>CX outer H s E e s'') (fun e' s''=>CX outer H s E e' s'') s'
theorem Bb {sc:Scope} {n:Nat} {x:Str} (h:sc.names.lookup x=some .cell):∃ c,(V9 n sc.names []).lookup x=some c:=by
 have q:=To sc.names n [] (.inl h)
 exact SI.mp q
theorem FV {CX:CXT} {P:Program} {w:World} {K:Fg} {mg:Str->Option Value} {base:Heap} {N ps:List Str} {qual:Str} {scope:Scope} {f:Addr} {cd:Value} {A:Around} {outer:List Env} {s s1:Shared} {H:Hp} {E:XK} {us:List Value} {vs:List V}
  (S:aA N ps scope) (hd:A.handled=none) (e0:vb P w K mg base A outer s H) (hl:vs.length=ps.length) (r:aL vs us)
  (x:InCallC s s.heap.objs.size (bindL (envOfC qual scope s.heap.objs.size f cd).kindOf (ps.zip us) fun _=>none) (V9 (s.heap.objs.size + 1) scope.names []) (bindC (envOfC qual scope s.heap.objs.size f cd).kindOf (ps.zip us) fun _=>none) s1):
  Inv (pW CX P w K mg base N qual scope f cd A outer s H E) [] (start N vs) H s1:=by
 have hpl:ps.length<=N.length:=by have:=congrArg List.length S.pre; rw [OT] at this; omega
 obtain ⟨h1,tk,rfl,hk⟩:=x.done
 have noA:∀ b:Addr,b∉(pW CX P w K mg base N qual scope f cd A outer s H E).ex:=fun b z=>absurd (show b∈([]:List Addr) from z) (by simp)
 refine ⟨⟨e0.mod,S.kind,rfl,rfl,M9 _,fun y z c h1 h2=>?_,fun y hy=>?_,fun y c _ h=>?_,fun _=>hd,Around.frames_deeper e0.frames,.inr ⟨rfl,rfl⟩,fun b z=>absurd z (noA b),e0.bs,e0.bsz,fun b _ _=>noA b,fun b z=>absurd z (noA b),e0.funs,e0.frf⟩,
  rfl,e0.bare,Un.kept hk,⟨_,x.toInCall.ns,fun i y v h1 h2 h3=>?_⟩,fun y c h=>⟨_,x.cell y c h⟩,e0.hok.fresh (M9 _),fun y c h=>?_,fun p hp=>absurd (show p∈([]:List (Addr×Obj)) from hp) (by simp),e0.hok.kept hk,?_⟩
 ·exact name_of_addr x.apart (Om h1) (Om h2)
 ·have hy:scope.names.lookup y=some .cell\/scope.names.lookup y=some .free:=hy
  rcases hy with hy | hy
  ·exact Bb hy
  ·exact absurd rfl (S.nofree _ (Om hy))
 ·exact Oa (x.above y c (Om h))
 ·have hi:i < vs.length:=by
   unfold start at h2
   by_cases hi:i < vs.length
   ·exact hi
   ·rw [Sa (by simpa using hi)] at h2
    rw [List.getElem?_replicate] at h2
    split at h2 <;> cases h2
  have ha:vs[i]?=some v:=by
   unfold start at h2
   rw [QL (by simpa using hi),Nm] at h2
   cases e:vs[i]? with
   | none=>rw [e] at h2; cases h2
   | some a=>rw [e] at h2; cases h2; rfl
  obtain ⟨u,hu,rv⟩:=r.get ha
  have hp:ps[i]?=some y:=by
   rw [<-S.pre,SK (by omega)]; exact h1
  have ndP:ps.Nodup:=by rw [<-S.pre]; exact S.nd.sublist (List.take_sublist _ _)
  refine ⟨u,rv,?_⟩
  rcases S.par y (Ng hp) with k | k
  ·exact .inl ⟨k,zh ndP hp hu k⟩
  ·obtain ⟨c,e⟩:=Bb (n:=s.heap.objs.size + 1) k
   refine .inr ⟨.inl k,c,e,?_⟩
   have q:=x.cell y c e
   rw [zi ndP hp hu (by show scope.names.lookup y≠_; rw [k]; decide)] at q
   exact q
 ·exact e0.hok.fresh (Oa (x.above y c (Om h)))
 ·unfold start
  show _=N.length
  rw [Nx,M6,List.length_replicate]
  omega
theorem Mf {CX:CXT} {P:Program} {w:World} {K:Fg} {mg:Str->Option Value} {base:Heap} {k:Nat} {f:Addr} {name qual:Str} {params:Arguments} {body:List Stmt} {scope:Scope} {dV kV doc pm cdv ct oc:Value} {an od:Option Addr}
  {osl:Array (Option Value)} {N ps:List Str} {sp:Sp} (lk:K.lookup f=some ⟨oc,od,.func (QQ name qual params body scope dV kV doc pm an cdv ct),osl⟩) (hcd:Tz K cdv qual=true) (S:aA N ps scope)
  (len:∀ vs H Q E,sp vs H Q E->vs.length=ps.length)
  (hbody:∀ (A:Around) (outer:List Env) (s:Shared) (H:Hp) (vs:List V) (Q:VK) (E:XK),ca k (A.deeper (envOfC qual scope s.heap.objs.size f cdv))->sp vs H Q E->
   ∃ t,PSs (pW CX P w K mg base N qual scope f cdv A outer s H E) body t/\t { nx:=fun _ H'=>Q .non H',rt:=Q } (start N vs) H):
  dz P w K mg base CX (k + 1) f (QQ name qual params body scope dV kV doc pm an cdv ct) ps sp:=by
 refine ⟨len,fun A outer s H args us vs Q E hr e0 hb r hsp=>?_⟩
 have hl:=len _ _ _ _ hsp
 have KX:K.In s.heap:=e0.mod.kin.keeps fun b o e=>(e0.bs b o e).1
 have lim:s.heap.NoLimit:=e0.mod.nolimit.keeps fun b o e=>(e0.bs b o e).1
 have hkind:∀ y∈ps.zip us,scope.names.lookup y.1=some .local\/(scope.names.lookup y.1=some .cell/\((V9 (s.heap.objs.size + 1) scope.names []).lookup y.1).isSome=true):=fun ⟨n,v⟩ hy=>by
  rcases S.par n (Td hy).1 with q | q
  ·exact .inl q
  ·exact .inr ⟨q,To _ _ _ (.inl q)⟩
 refine codeAny_call_function hr.depth (KX _ _ lk) rfl S.co S.gen rfl (PySem.W.codeRec_of KX hcd) (hb _ _ _ _ ?_)
 refine wpAny_newFunctionEnv_cells S.kind hkind fun env he s1 x=>?_
 subst he
 refine ⟨lim.keeps x.toInCall.keep,codeAny_func ?_⟩
 obtain ⟨t,ht,hq⟩:=hbody A outer s H vs Q E (hr.deeper _) hsp
 have I:Inv (pW CX P w K mg base N qual scope f cdv A outer s H E) [] (start N vs) H s1:=FV S hr.hd e0 hl r x
 refine OM (ht [] s1 (start N vs) H _ I hq) (fun fl s' hs=>?_) fun e s' hs=>hs
 have fin:∀ {σ':St} {H':Hp} {v:V} {u:Value},Inv (pW CX P w K mg base N qual scope f cdv A outer s H E) [] σ' H' s'->aK v u->Q v H'->CE outer P w H s Q u s':=
  fun {σ' H' v u} J rv q=>⟨v,H',J.os,J.bare,J.base,J.hok,rv,q⟩
 cases fl with
 | ret u=>
  obtain ⟨v,σ',H',J,rv,q⟩:=hs
  exact fin J rv q
 | next=>
  obtain ⟨σ',H',J,q⟩:=hs
  exact fin (v:=V.non) (u:=Ou) J rfl q
 | brk=>
  obtain ⟨_,_,_,q⟩:=hs
  exact O5 q
 | cont=>
  obtain ⟨_,_,_,q⟩:=hs
  exact O5 q
end L2
namespace L2
open PySem PySem.Spec PyProof.Rows
section
variable {X:Cx} {x:Str} {p pos:Pos} {e:Expr} {es:List Expr} {t:TA} {id T:String} {r:List V->Hp->VK->Prop}
noncomputable def tCB (r:List V->Hp->VK->Prop) (t:TA):TE:=fun σ H Q=>t σ H fun vs H1=>r vs H1 Q
theorem aG (hc:cU X (.builtin id) r) (hg:Gl X x) (hm:X.mg x=none) (hv:QP x=some (.builtin id)) (ha:PA X (e :: es) t) (hn:x≠"__name__":=by decide) (hdb:(x == ("__debug__":Str))=false:=by decide)
  (he:NA (e :: es) X.env=(false,eval e X.env) :: NA es X.env:=by rfl) (hpl:(backTo pos (NA es X.env)).any (·.1)=false:=by rfl):PE X (.Call (.Name x p) (e :: es) [] pos) (tCB r t):=by
 intro pins s σ H Q I h
 refine Pr (iS I hg hm hv ?_ hn hdb)
 exact Rp (thn (ha pos pins s σ H _ I h) fun us s1 ⟨vs,H1,I1,r1,q1⟩=>hc pins s1 σ H1 vs us Q I1 r1 q1) he hpl
theorem cO (hc:cU X (.type T) r) (hg:Gl X x) (hm:X.mg x=none) (hv:QP x=some (.type T)) (ha:PA X (e :: es) t) (hn:x≠"__name__":=by decide) (hdb:(x == ("__debug__":Str))=false:=by decide)
  (he:NA (e :: es) X.env=(false,eval e X.env) :: NA es X.env:=by rfl) (hpl:(backTo pos (NA es X.env)).any (·.1)=false:=by rfl):PE X (.Call (.Name x p) (e :: es) [] pos) (tCB r t):=by
 intro pins s σ H Q I h
 refine Pr (iS I hg hm hv ?_ hn hdb)
 exact Oy (thn (ha pos pins s σ H _ I h) fun us s1 ⟨vs,H1,I1,r1,q1⟩=>hc pins s1 σ H1 vs us Q I1 r1 q1) he hpl
end
end L2
namespace HT
open PySem PyProof.Rows
section
open PySem.SeqAt
open PySem.AutoSeq1 (wpAny_loadPart')
open PySem.MeetsSeq PySem.MeetsSeq2 PySem.MeetsSeq3
end
section
variable {prog:Program} {w:World} {A:Around} {E:Value->Shared->Prop} {s:Shared}
theorem JZ {t b:Addr} {vs ws:List Value} {Q:Value->Shared->Prop} (ht:IsTup s.heap t vs.toArray) (hb:IsTup s.heap b ws.toArray) (hv:vs≠[])
  (h1:ws=[]->Q (.ref t) s) (h2:ws≠[]->Q (.ref s.heap.objs.size) { s with heap:=s.heap.push { cls:=.type "tuple",data:=.seq (vs++ws).toArray } })
  (hsz:vs.length + ws.length<=Nh):wpAny (model prog w) A (P3 .Add (.ref t) (.ref b)) Q E s:=by
 obtain ⟨⟨cls,dd,data,sl⟩,ho,hc,n,hd⟩:=id ht
 obtain ⟨⟨cls2,dd2,data2,sl2⟩,ho2,hc2,n2,hd2⟩:=id hb
 simp only at hc hd hc2 hd2
 subst hc hd hc2 hd2
 have e:vs.toArray++ws.toArray=(vs++ws).toArray:=by simp
 by_cases hw:ws=[]
 ·exact UE ⟨_,ho,rfl⟩ ⟨_,ho2,rfl⟩ SL Ug Q6 QZ (QR _ _)
   (tuple_addW1 t b vs.toArray ws.toArray n n2 dd dd2 sl sl2 (by simpa using hv) (by simp [hw])) ⟨ho,ho2,h1 hw⟩
 ·refine UE ⟨_,ho,rfl⟩ ⟨_,ho2,rfl⟩ SL Ug Q6 QZ (QR _ _)
   (tuple_addW2 t b vs.toArray ws.toArray n n2 dd dd2 sl sl2 (by simpa using hv) (by simpa using hw) (by rw [Nq,Nq]; exact hsz)) ⟨ho,ho2,?_⟩
  rw [e]
  exact h2 hw
noncomputable def sIx (n d:Nat):Option Int->Nat
 | none=>d
 | some v=>if v < 0 then (v + (n:Int)).toNat else min v.toNat n
theorem K9 (n d:Nat) (hd:d<=n) (o:Option Int):sIx n d o<=n:=by
 cases o with
 | none=>exact hd
 | some v=>
  show (if v < 0 then (v + (n:Int)).toNat else min v.toNat n)<=n
  by_cases hv:v < 0
  ·rw [if_pos hv]; omega
  ·rw [if_neg hv]; exact Nat.min_le_right _ _
theorem Dj (v:Int) (n d:Nat):(if v < 0 then max (v + (n:Int)) 0 else min v (n:Int))=((sIx n d (some v):Nat):Int):=by
 show (if v < 0 then max (v + (n:Int)) 0 else min v (n:Int))=(((if v < 0 then (v + (n:Int)).toNat else min v.toNat n):Nat):Int)
 by_cases hv:v < 0
 ·simp only [if_pos hv]; omega
 ·simp only [if_neg hv]; omega
theorem Ee (lo hi:Option Int) (n:Nat):QM lo hi 1 (n:Int)=(((sIx n 0 lo:Nat):Int),((sIx n n hi:Nat):Int)):=by
 have h1:¬ ((1:Int) < 0):=by omega
 unfold QM
 simp only [h1,if_false]
 refine Prod.ext ?_ ?_
 ·cases lo with
  | none=>rfl
  | some v=>exact Dj v n 0
 ·cases hi with
  | none=>rfl
  | some v=>exact Dj v n n
theorem Ef (i j:Nat):P8 (i:Int) (j:Int) 1=j - i:=by
 unfold P8
 have h1:(1:Int) > 0:=by omega
 simp only [h1,if_true,Int.ediv_one]
 split <;> omega
theorem vZ {v:Value} {o:Option Int} {Q:Option Int->Shared->Prop} (p:IsPart v o) (h:Q o s):wpAny (model prog w) A (Builtin.Slice.slicePartIndex v) Q E s:=by
 cases p with
 | none=>exact slicePart_none h
 | int i t=>exact slicePart_int h
theorem vc {sl:Addr} {vl vu:Value} {lo hi:Option Int} {n:Nat} {Q:Int×Int×Nat->Shared->Prop} (hs:s.heap.IsSliceOf sl vl vu .none) (pl:IsPart vl lo) (pu:IsPart vu hi)
  (h:Q (((sIx n 0 lo:Nat):Int),1,sIx n n hi - sIx n 0 lo) s):wpAny (model prog w) A (Sb (.ref sl) (pure (n:Int))) Q E s:=by
 obtain ⟨os,hos,hcs,hds⟩:=id hs
 unfold Sb Builtin.Slice.sliceFields
 refine M1 (M1 (Oc hos hds (x:=vl) rfl (M1 (Oc hos hds (x:=vu) rfl (M1 (Oc hos hds (x:=.none) rfl (M5 ?_)))))))
 refine M1 (slicePart_none ?_)
 show wpAny _ _ (if ((1:Int) == 0)=true then _ else _) _ _ s
 rw [if_neg (by decide)]
 refine M1 (vZ pl (M1 (vZ pu (M1 (M5 ?_)))))
 show wpAny _ _ (match QM lo hi 1 (n:Int) with | (lo,hi)=>pure (lo,(1:Int),P8 lo hi 1)) _ _ s
 rw [Ee lo hi n]
 show wpAny _ _ (pure (((sIx n 0 lo:Nat):Int),(1:Int),P8 ((sIx n 0 lo:Nat):Int) ((sIx n n hi:Nat):Int) 1)) _ _ s
 rw [Ef]
 exact M5 h
theorem Hv (xs:Array Value) (i k:Nat):((NC k).filterMap fun (m:Nat)=>xs[((i:Int) + (m:Int) * 1).toNat]?).toArray=((xs.toList.drop i).take k).toArray:=by
 have e:(fun (m:Nat)=>xs[((i:Int) + (m:Int) * 1).toNat]?)=fun m=>xs[i + m]?:=by
  funext m
  have:((i:Int) + (m:Int) * 1).toNat=i + m:=by omega
  rw [this]
 rw [e]
 have:=pick_run xs i k
 rw [List.filterMap_map] at this
 have e2:((fun x=>xs[x]?) ∘ fun x=>i + x)=fun m=>xs[i + m]?:=rfl
 rw [e2] at this
 rw [this]
theorem ux {t sl:Addr} {items:Array Value} {vl vu:Value} {lo hi:Option Int} {Q:Value->Shared->Prop} (ht:IsTup s.heap t items) (hs:s.heap.IsSliceOf sl vl vu .none) (pl:IsPart vl lo) (pu:IsPart vu hi)
  (hw:¬ (sIx items.size 0 lo=0/\sIx items.size items.size hi=items.size))
  (h:Q (.ref s.heap.objs.size) { s with heap:=s.heap.push { cls:=.type "tuple",data:=.seq ((items.toList.drop (sIx items.size 0 lo)).take (sIx items.size items.size hi - sIx items.size 0 lo)).toArray } })
  (hsz:items.size<=Nh):wpAny (model prog w) A (getItem (.ref t) (.ref sl)) Q E s:=by
 have htake:sizeOk (.seq ((items.toList.drop (sIx items.size 0 lo)).take (sIx items.size items.size hi - sIx items.size 0 lo)).toArray):=by
  show ((items.toList.drop (sIx items.size 0 lo)).take (sIx items.size items.size hi - sIx items.size 0 lo)).toArray.size<=Nh
  rw [Nq,OT,Vr,NS]
  omega
 have hj:sIx items.size items.size hi<=items.size:=K9 _ _ (M9 _) hi
 obtain ⟨os,hos,hcs,hds⟩:=id hs
 have hTs:s.TypeIs (.ref sl) "slice":=⟨os,hos,hcs⟩
 unfold getItem
 try with_reducible refine On ?_
 first | refine M1 (M5 ?_) | skip
 refine M1 (wpAny_sequenceKey ht.typeIs (by decide) ?_)
 refine M1 (N4 (name:=O9 "__getitem__") ht.typeIs Qh
  (NV Qh ht.typeIs entry_tuple_getitem ?_ (args_tuple_getitem _ _)))
 show wpAny _ _ (Sd (.ref t) >>= _) _ _ s
 refine M1 (tupleItemsOf_ ht ?_)
 refine M1 (SM hTs ?_)
 rw [if_pos (by decide)]
 refine M1 (vc hs pl pu ?_)
 have hno:¬ ((((sIx items.size 0 lo:Nat):Int) == 0 && (1:Int) == 1 && (sIx items.size items.size hi - sIx items.size 0 lo) == items.size)=true):=by
  intro q
  rw [OU,OU] at q
  have q1:((sIx items.size 0 lo:Nat):Int)=0:=eq_of_beq q.1.1
  have q2:sIx items.size items.size hi - sIx items.size 0 lo=items.size:=eq_of_beq q.2
  exact hw ⟨by omega,by omega⟩
 show wpAny _ _ (if (((sIx items.size 0 lo:Nat):Int) == 0 && (1:Int) == 1 && (sIx items.size items.size hi - sIx items.size 0 lo) == items.size)=true then _ else _) _ _ s
 rw [if_neg hno,Hv]
 first
  | exact M1 (m:=Qd _) (Og (M5 ⟨_,rfl,M5 h⟩) htake)
  | exact M1 (m:=Qd _) (Og (M1 (M5 (M5 ⟨_,rfl,M5 h⟩))) htake)
  | exact M1 (M1 (m:=Qd _) (Og (M5 (M5 ⟨_,rfl,M5 h⟩)) htake))
  | exact M1 (M1 (m:=Qd _) (Og (M5 ⟨_,rfl,M5 h⟩) htake))
end
end HT
namespace L2
open PySem PySem.Spec PyProof.Rows
noncomputable abbrev TO:=St->Hp->(Option Int->Hp->Prop)->Prop
noncomputable def PO (X:Cx) (e:Option Expr) (t:TO):Prop:=
 ∀ (pins:List (Addr×Obj)) (s:Shared) (σ:St) (H:Hp) (Q:Option Int->Hp->Prop),Inv X pins σ H s->t σ H Q->
  wpAny (model X.prog X.w) X.A (evalPart e X.env) (fun u s'=>∃ o H',Inv X pins σ H' s'/\IsPart u o/\Q o H') X.xe s
noncomputable def oV:TO:=fun _ H Q=>Q none H
noncomputable def v2 (t:TE):TO:=fun σ H Q=>t σ H fun x H1=>∃ i,x=.int i/\Q (some i) H1
theorem pX {ns:List Int}:∀ {us:List Value},aL (ns.map V.int) us->IntsAre us ns:=by
 induction ns with
 | nil=>intro us r; rw [QA] at r; cases r; exact .nil
 | cons n ns ih=>
  intro us r
  rw [Nt] at r
  cases r with
  | cons r1 r2=>
   obtain ⟨t,e⟩:=r1
   subst e
   exact .cons n t (ih r2)
section
variable {X:Cx} {e:Expr} {te:TE} {lo hi:Option Expr} {tl th:TO} {pos p2:Pos}
theorem yi:PO X none oV:=by
 intro pins s σ H Q I h
 rw [evalPart_none]
 exact M5 ⟨none,H,I,.none,h⟩
theorem yj (h:PE X e te):PO X (some e) (v2 te):=by
 intro pins s σ H Q I hw
 rw [evalPart_some]
 refine thn (h pins s σ H _ I hw) fun u s1 ⟨x,H1,I1,r1,q1⟩=>?_
 obtain ⟨i,rfl,q⟩:=q1
 obtain ⟨t,rfl⟩:=r1
 exact ⟨some i,H1,I1,.int i t,q⟩
noncomputable def SlR (X:Cx) (r:V->Option Int->Option Int->Hp->VK->Prop):Prop:=
 ∀ (pins:List (Addr×Obj)) (s:Shared) (σ:St) (H:Hp) (x:V) (v vl vu:Value) (lo hi:Option Int) (sl:Addr) (Q:VK),Inv X pins σ H s->aK x v->s.heap.IsSliceOf sl vl vu .none->IsPart vl lo->IsPart vu hi->r x lo hi H Q->
  ∃ T id,TZ (.type T) "__getitem__"=pure (some (.builtin id))/\s.TypeIs v T/\wpAny (model X.prog X.w) X.A (getItem v (.ref sl)) (EP X pins σ Q) X.xe s
theorem SlR.or {r r':V->Option Int->Option Int->Hp->VK->Prop} (h:SlR X r) (h':SlR X r'):SlR X (fun x lo hi H Q=>r x lo hi H Q\/r' x lo hi H Q):=by
 intro pins s σ H x v vl vu lo hi sl Q I rx hs pl pu q
 rcases q with q | q
 ·exact h pins s σ H x v vl vu lo hi sl Q I rx hs pl pu q
 ·exact h' pins s σ H x v vl vu lo hi sl Q I rx hs pl pu q
noncomputable def tSl (r:V->Option Int->Option Int->Hp->VK->Prop) (te:TE) (tl th:TO):TE:=fun σ H Q=>te σ H fun x H1=>tl σ H1 fun l H2=>th σ H2 fun u H3=>r x l u H3 Q
theorem vd {r:V->Option Int->Option Int->Hp->VK->Prop} (hr:SlR X r) (he:PE X e te) (hl:PO X lo tl) (hu:PO X hi th):PE X (.Subscript e (.Slice lo hi none p2) pos) (tSl r te tl th):=by
 intro pins s σ H Q I h
 refine VN (thn (he pins s σ H _ I h) fun v s1 ⟨x,H1,I1,r1,q1⟩=>?_)
 refine wpAny_Slice (thn (hl pins s1 σ H1 _ I1 q1) fun vl s2 ⟨l,H2,I2,pl,q2⟩=>thn (hu pins s2 σ H2 _ I2 q2) fun vu s3 ⟨u,H3,I3,pu,q3⟩=>?_)
 rw [evalPart_none]
 refine M5 ?_
 have I4:Inv X pins σ H3 { s3 with heap:=s3.heap.push { cls:=.type "slice",data:=.fields #[vl,vu,.none] } }:=I3.kept (t':=s3.toks) fun b ob q=>M4 _ q
 obtain ⟨T,id,hT,ht,hg⟩:=hr pins { s3 with heap:=s3.heap.push { cls:=.type "slice",data:=.fields #[vl,vu,.none] } } σ H3 x v vl vu l u s3.heap.objs.size Q I4 r1 (Heap.IsSliceOf.new ..) pl pu q3
 show wpAny (model X.prog X.w) X.A (Uh e (.Slice lo hi none p2) v (.ref s3.heap.objs.size)) (EP X pins σ Q) X.xe { s3 with heap:=s3.heap.push { cls:=.type "slice",data:=.fields #[vl,vu,.none] } }
 exact tail_any (ops:=[.ref s3.heap.objs.size,v]) ht hT hg (by with_unfolding_all rfl)
noncomputable def rJ (xs:List V) (lo hi:Option Int):List V:=(xs.drop (HT.sIx xs.length 0 lo)).take (HT.sIx xs.length xs.length hi - HT.sIx xs.length 0 lo)
theorem CK (xs:List V) (lo hi:Option Int):(rJ xs lo hi).length<=xs.length:=by
 unfold rJ
 rw [OT,Vr]
 omega
noncomputable def MN (K:Fg):V->Option Int->Option Int->Hp->VK->Prop:=fun x lo hi H Q=>∃ a xs,x=.ref a/\SqT K H a xs/\
 ¬ (HT.sIx xs.length 0 lo=0/\HT.sIx xs.length xs.length hi=xs.length)/\∀ p,H p=none->Q (.ref p) (upd H p (.tup (rJ xs lo hi)))
theorem La:SlR X (MN X.K):=by
 intro pins s σ H x v vl vu lo hi sl Q I rx hs pl pu h
 obtain ⟨a,xs,rfl,hx,hw,q⟩:=h
 cases rx
 obtain ⟨its,r,ht,hz⟩:=I.tuple hx
 have hlen:its.toArray.size=xs.length:=by rw [Nq]; exact r.length.symm
 refine ⟨"tuple",_,Qh.lookup,ht.typeIs,?_⟩
 refine HT.ux ht hs pl pu (by rw [hlen]; exact hw) ?_ (by rw [hlen]; exact hz)
 rw [hlen]
 refine ⟨.ref s.heap.objs.size,_,I.laid (t':=s.toks) (o:=.tup (rJ xs lo hi)) (fun b ob q=>M4 _ q) (M9 _) ?_,rfl,q _ (I.hok.fresh (M9 _))⟩
 exact ⟨NQ (CK xs lo hi) hz,_,(r.drop (HT.sIx xs.length 0 lo)).take (HT.sIx xs.length xs.length hi - HT.sIx xs.length 0 lo),gz.new _ _⟩
noncomputable def Mg (K:Fg):R2:=fun x y H Q=>∃ a b xs ys,x=.ref a/\y=.ref b/\SqT K H a xs/\SqT K H b ys/\xs≠[]/\xs.length + ys.length<=Nh/\
 (ys=[]->Q (.ref a) H)/\(ys≠[]->∀ p,H p=none->Q (.ref p) (upd H p (.tup (xs++ys))))
theorem aL.nil_iff {xs:List V} {us:List Value} (r:aL xs us):us=[]↔xs=[]:=by
 cases r with
 | nil=>simp
 | cons _ _=>simp
theorem J0:OpR X (P3 .Add) (Mg X.K):=by
 intro pins s σ H x y v u Q I rx ry h
 obtain ⟨a,b,xs,ys,rfl,rfl,ha,hb,hx,hz,q1,q2⟩:=h
 cases rx
 cases ry
 obtain ⟨its,r1,p1,_⟩:=I.tuple ha
 obtain ⟨its2,r2,p2,_⟩:=I.tuple hb
 refine HT.JZ p1 p2 (fun z=>hx (r1.nil_iff.mp z)) (fun z=>⟨.ref a,H,I,rfl,q1 (r2.nil_iff.mp z)⟩) (fun z=>?_) (by rw [<-r1.length,<-r2.length]; exact hz)
 refine ⟨.ref s.heap.objs.size,_,I.laid (t':=s.toks) (o:=.tup (xs++ys)) (fun b ob q=>M4 _ q) (M9 _) ?_,rfl,q2 (fun w=>z (r2.nil_iff.mpr w)) _ (I.hok.fresh (M9 _))⟩
 exact ⟨by rw [Nx]; exact hz,_,r1.append r2,gz.new _ _⟩
end
end L2
namespace L2
open PySem PySem.Spec PyProof.Rows
noncomputable def ixN (n:Nat) (i:Int):Option Nat:=if 0<=i then (if i < n then some i.toNat else none) else if -(n:Int)<=i then some (i + n).toNat else none
noncomputable def atI {α:Type} (xs:List α) (i:Int):Option α:=(ixN xs.length i).bind fun j=>xs[j]?
theorem Dk {n:Nat} {i:Int} {j:Nat} (h:ixN n i=some j):seqIndex? i n=some j/\j < n/\-(n:Int)<=i/\i < n:=by
 unfold ixN at h
 by_cases h0:0<=i
 ·rw [if_pos h0] at h
  by_cases h1:i < n
  ·rw [if_pos h1] at h
   have e:i.toNat=j:=Nl h
   exact ⟨by rw [Vf h0 h1,e],by omega,by omega,h1⟩
  ·rw [if_neg h1] at h; cases h
 ·rw [if_neg h0] at h
  by_cases h1:-(n:Int)<=i
  ·rw [if_pos h1] at h
   have e:(i + n).toNat=j:=Nl h
   exact ⟨by rw [UF (by omega) h1,e],by omega,h1,by omega⟩
  ·rw [if_neg h1] at h; cases h
theorem Dl {α:Type} {xs:List α} {i:Int} {v:α} (h:atI xs i=some v):∃ j,seqIndex? i xs.length=some j/\xs[j]?=some v/\j < xs.length/\-(xs.length:Int)<=i/\i < xs.length:=by
 unfold atI at h
 cases e:ixN xs.length i with
 | none=>rw [e] at h; cases h
 | some j=>
  rw [e] at h
  obtain ⟨h1,h2,h3,h4⟩:=Dk e
  exact ⟨j,h1,h,h2,h3,h4⟩
theorem cP {α:Type} {xs:List α} {j:Nat} {v:α} (h:xs[j]?=some v):atI xs (j:Int)=some v:=by
 have hj:j < xs.length:=(Na.mp h).1
 have e:ixN xs.length (j:Int)=some j:=by
  unfold ixN
  rw [if_pos (by omega),if_pos (by omega)]; simp
 unfold atI; rw [e]; exact h
noncomputable def J1 (b:Expr):Prop:=∀ o i,Tp b false o i=operate [o,i] (getItem o i)
noncomputable def IxR (X:Cx) (r:R2):Prop:=
 ∀ (value slice:Expr) (pins:List (Addr×Obj)) (s:Shared) (σ:St) (H:Hp) (x y:V) (v u:Value) (Q:VK),Inv X pins σ H s->aK x v->aK y u->r x y H Q->
  Tp slice false v u=operate [v,u] (getItem v u)->wpAny (model X.prog X.w) X.A (Uh value slice v u) (EP X pins σ Q) X.xe s
noncomputable def MtR (X:Cx) (id:String) (r:V->List V->Hp->VK->Prop):Prop:=
 ∀ (pins:List (Addr×Obj)) (s:Shared) (σ:St) (H:Hp) (x:V) (xs:List V) (v:Value) (us:List Value) (Q:VK),Inv X pins σ H s->aK x v->aL xs us->r x xs H Q->
  wpAny (model X.prog X.w) X.A (call (.builtin id) (v :: us)) (EP X pins σ Q) X.xe s
section
variable {X:Cx} {a b:Expr} {ta tb:TE} {pos:Pos}
theorem IxR.or {r r':R2} (h:IxR X r) (h':IxR X r'):IxR X (fun x y H Q=>r x y H Q\/r' x y H Q):=by
 intro value slice pins s σ H x y v u Q I rx ry q hs
 rcases q with q | q
 ·exact h value slice pins s σ H x y v u Q I rx ry q hs
 ·exact h' value slice pins s σ H x y v u Q I rx ry q hs
theorem MtR.or {id:String} {r r':V->List V->Hp->VK->Prop} (h:MtR X id r) (h':MtR X id r'):MtR X id (fun x xs H Q=>r x xs H Q\/r' x xs H Q):=by
 intro pins s σ H x xs v us Q I rx rs q
 rcases q with q | q
 ·exact h pins s σ H x xs v us Q I rx rs q
 ·exact h' pins s σ H x xs v us Q I rx rs q
theorem aM {r:R2} (hr:IxR X r) (ha:PE X a ta) (hb:PE X b tb) (hs:J1 b):PE X (.Subscript a b pos) (tOp r ta tb):=by
 intro pins s σ H Q I h
 exact VN (Hn ha hb I h fun v u s2 x y H2 I2 rx ry q=>hr a b pins s2 σ H2 x y v u Q I2 rx ry q (hs _ _))
noncomputable def cb (K:Fg):R2:=fun x y H Q=>∃ p xs i v,x=.ref p/\y=.int i/\SqL K H p xs/\atI xs i=some v/\Q v H
noncomputable def bZ (K:Fg):R2:=fun x y H Q=>∃ p xs i v,x=.ref p/\y=.int i/\SqT K H p xs/\atI xs i=some v/\Q v H
theorem bi:IxR X (cb X.K):=by
 intro value slice pins s σ H x y v u Q I rx ry h hs
 obtain ⟨p,xs,i,z,rfl,rfl,hq,he,q⟩:=h
 cases rx
 obtain ⟨t,rfl⟩:=ry
 obtain ⟨its,r,pl,hz⟩:=I.list hq
 obtain ⟨j,h1,h2,h3,h4,h5⟩:=Dl he
 obtain ⟨w,ew,rw'⟩:=r.get h2
 have hl:=r.length
 have hn:=vX
 have fin:EP X pins σ Q w s:=⟨z,H,I,rw',q⟩
 by_cases h0:0<=i
 ·have hj:i.toNat=j:=by
   rw [Vf h0 h5] at h1
   exact Nl h1
  exact item_listR pl.isList h0 (by omega) (by rw [hj]; simpa using ew) fin hs
 ·have hj:(i + (its.toArray.size:Int)).toNat=j:=by
   rw [UF (by omega) h4] at h1
   rw [Nq,<-hl]
   exact Nl h1
  exact Tq (x:=w) pl.isList.typeIs slot_list_getitem.lookup
   (wpAny_getItem_list_neg (Q:=fun r s'=>r=w/\EP X pins σ Q r s') pl.isList (by omega) (by rw [Nq] <;> omega) (by omega) (by rw [hj]; simpa using ew) ⟨rfl,fin⟩) hs
theorem bt:IxR X (bZ X.K):=by
 intro value slice pins s σ H x y v u Q I rx ry h hs
 obtain ⟨p,xs,i,z,rfl,rfl,hq,he,q⟩:=h
 cases rx
 obtain ⟨t,rfl⟩:=ry
 obtain ⟨its,r,pl,hz⟩:=I.tuple hq
 obtain ⟨j,h1,h2,h3,h4,h5⟩:=Dl he
 obtain ⟨w,ew,rw'⟩:=r.get h2
 have hl:=r.length
 have hn:=vX
 have fin:EP X pins σ Q w s:=⟨z,H,I,rw',q⟩
 exact Tq (x:=w) pl.typeIs slot_tuple_getitem.lookup
  (getItem_tuple (j:=j) (Q:=fun r s'=>r=w/\EP X pins σ Q r s') pl (by omega) (by omega) (by rw [Nq,<-hl]; exact h1) (by simpa using ew) ⟨rfl,fin⟩) hs
theorem Eg (its:List Value) (n j:Nat) (u:Value):Ox (·.setIfInBounds j u) { cls:=.type "list",data:=.seq its.toArray n }={ cls:=.type "list",data:=.seq (its.set j u).toArray n }:=by
 simp [Ox]
theorem Inv.lst {pins:List (Addr×Obj)} {σ:St} {H:Hp} {s:Shared} {p:Addr} {xs:List V} (I:Inv X pins σ H s) (h:H p=some (.lst xs)):
  ∃ (its:List Value) (n:Nat),aL xs its/\s.heap.get? p=some { cls:=.type "list",data:=.seq its.toArray n }/\xs.length<=Nh:=by
 obtain ⟨z,its,n,r,e⟩:=I.hok p _ h
 exact ⟨its,n,r,e,z⟩
theorem Inv.lstUpd {pins:List (Addr×Obj)} {σ:St} {H:Hp} {s:Shared} {p:Addr} {xs ys:List V} {its its':List Value} {n n':Nat} {f:Obj->Obj} (I:Inv X pins σ H s) (h:H p=some (.lst xs))
  (ho:s.heap.get? p=some { cls:=.type "list",data:=.seq its.toArray n }) (hf:f { cls:=.type "list",data:=.seq its.toArray n }={ cls:=.type "list",data:=.seq its'.toArray n' }) (r:aL ys its') (hz:ys.length<=Nh) (t:Nat):
  Inv X pins σ (upd H p (.lst ys)) { s with heap:=s.heap.update p f,toks:=t }:=by
 have e:(s.heap.update p f).get? p=some { cls:=.type "list",data:=.seq its'.toArray n' }:=by
  rw [N7 f ho (by rw [hf] <;> rfl),hf]
 refine I.write (x:=p) (e:=p) (by rw [h]; trivial) (.inl rfl) (fun b u hb q=>(OI _ _ (OJ hb)).trans q) ⟨_,e⟩ ?_
 exact ⟨hz,its',n',r,e⟩
noncomputable def kS:V->V->V->Hp->(Hp->Prop)->Prop:=fun o i v H Q=>∃ p xs k j,o=.ref p/\i=.int k/\H p=some (.lst xs)/\ixN xs.length k=some j/\Q (upd H p (.lst (xs.set j v)))
theorem jj:DV X kS:=by
 intro pins s σ H o i v ov iv u Q I ro ri rv h
 obtain ⟨p,xs,k,j,rfl,rfl,hp,hj,q⟩:=h
 cases ro
 obtain ⟨t,rfl⟩:=ri
 obtain ⟨its,n,r,ho,hz⟩:=I.lst hp
 obtain ⟨h1,h2,h3,h4⟩:=Dk hj
 have hl:=r.length
 have hn:=vX
 have I':Inv X pins σ (upd H p (.lst (xs.set j v))) { s with heap:=s.heap.update p (Ox (·.setIfInBounds j u)) }:=
  I.lstUpd hp ho (Eg its n j u) (r.set rv j) (by rw [Pk]; exact hz) s.toks
 by_cases h0:0<=k
 ·have hk:k.toNat=j:=by
   rw [Vf h0 h4] at h1
   exact Nl h1
  exact PySem.W.ki_setAt ho h0 (by omega) (by rw [Nq,<-hl]; exact h4) (by rw [hk]; exact ⟨_,I',q⟩)
 ·have hk:(k + (its.toArray.size:Int)).toNat=j:=by
   rw [UF (by omega) h3] at h1
   rw [Nq,<-hl]
   exact Nl h1
  exact PySem.W.ki_setBack ho (by omega) (by rw [Nq,<-hl]; exact h3) (by omega) (by rw [hk]; exact ⟨_,I',q⟩)
noncomputable def im:V->Bool
 | .non=>true
 | .bl _=>true
 | .int _=>true
 | .str _=>true
 | _=>false
noncomputable def eqV:V->V->Bool
 | .non,.non=>true
 | .bl a,.bl b=>a == b
 | .bl a,.int b=>(if a then 1 else 0) == b
 | .int a,.bl b=>a == (if b then 1 else 0)
 | .int a,.int b=>a == b
 | .str a,.str b=>a == b
 | _,_=>false
theorem FW {A:Around} {s:Shared} {y x:V} {u v:Value} (ry:aK y u) (rx:aK x v) (fy:im y=true) (fx:im x=true):NL A s u v (eqV y x):=by
 cases y with
 | non=>
  cases ry
  cases x with
  | non=>cases rx; exact Te _
  | bl b=>cases rx; exact T1 b
  | int b=>obtain ⟨t,rfl⟩:=rx; exact Uo b t
  | str b=>obtain ⟨t,rfl⟩:=rx; exact NL.none_str b t
  | _=>exact absurd (show false=true from fx) Nk
 | bl a=>
  cases ry
  cases x with
  | non=>cases rx; exact T2 a
  | bl b=>cases rx; exact T3 a b
  | int b=>obtain ⟨t,rfl⟩:=rx; exact Up a b t
  | str b=>obtain ⟨t,rfl⟩:=rx; exact NL.bool_str a b t
  | _=>exact absurd (show false=true from fx) Nk
 | int a=>
  obtain ⟨t',rfl⟩:=ry
  cases x with
  | non=>cases rx; exact Uq a t'
  | bl b=>cases rx; exact Ur a t' b
  | int b=>obtain ⟨t,rfl⟩:=rx; exact UG a t' b t
  | str b=>obtain ⟨t,rfl⟩:=rx; exact Uu a t' b t
  | _=>exact absurd (show false=true from fx) Nk
 | str a=>
  obtain ⟨t',rfl⟩:=ry
  cases x with
  | non=>cases rx; exact NL.str_none a t'
  | bl b=>cases rx; exact NL.str_bool a t' b
  | int b=>obtain ⟨t,rfl⟩:=rx; exact Uv a t' b t
  | str b=>obtain ⟨t,rfl⟩:=rx; exact NL.str_str a t' b t
  | _=>exact absurd (show false=true from fx) Nk
 | _=>exact absurd (show false=true from fy) Nk
noncomputable def eqU (x:V) (u:Value):Bool:=match u with
 | .none=>eqV .non x
 | .bool b=>eqV (.bl b) x
 | .int i _=>eqV (.int i) x
 | .str z _=>eqV (.str z) x
 | _=>false
theorem FX {x y:V} {u:Value} (r:aK y u) (f:im y=true):eqU x u=eqV y x:=by
 cases y with
 | non=>cases r; rfl
 | bl b=>cases r; rfl
 | int i=>obtain ⟨t,rfl⟩:=r; rfl
 | str z=>obtain ⟨t,rfl⟩:=r; rfl
 | _=>exact absurd (show false=true from f) Nk
theorem ve {A:Around} {s:Shared} {x:V} {v:Value} (rx:aK x v) (fx:im x=true):∀ {xs:List V} {us:List Value},aL xs us->xs.all im=true->∀ u∈us,NL A s u v (eqU x u)
 | _,_,.nil,_=>fun u hu=>by cases hu
 | y :: xs,u :: us,.cons r t,f=>fun u' hu=>by
  rw [QG,OU] at f
  rcases Nc.mp hu with rfl | hu
  ·rw [FX r f.1]; exact FW r rx f.1 fx
  ·exact ve rx fx t f.2 u' hu
theorem bj:cU X (.builtin "len") (fun xs H Q=>∃ p ys,xs=[.ref p]/\(SqL X.K H p ys\/SqT X.K H p ys)/\Q (.int ys.length) H):=by
 intro pins s σ H xs us Q I r h
 obtain ⟨p,ys,rfl,hq,q⟩:=h
 obtain ⟨u,rfl,rx⟩:=pV r
 cases rx
 have hn:=vX
 rcases hq with hq | hq
 ·obtain ⟨its,r',pl,hz⟩:=I.list hq
  have hlen:=r'.length
  exact Calls.call_len_list pl.isList (by simp only [Nq] <;> omega) ⟨.int ys.length,H,I.tok _,⟨s.toks + 1,by rw [Nq,hlen]⟩,q⟩
 ·obtain ⟨its,r',pl,hz⟩:=I.tuple hq
  have hlen:=r'.length
  exact len_tuple pl (by simp only [Nq] <;> omega) ⟨.int ys.length,H,I.tok _,⟨s.toks + 1,by rw [Nq,hlen]⟩,q⟩
theorem cU.or {f:Value} {r r':List V->Hp->VK->Prop} (h:cU X f r) (h':cU X f r'):cU X f (fun xs H Q=>r xs H Q\/r' xs H Q):=by
 intro pins s σ H xs us Q I rs q
 rcases q with q | q
 ·exact h pins s σ H xs us Q I rs q
 ·exact h' pins s σ H xs us Q I rs q
theorem Bc:cU X (.type "list") (fun xs H Q=>∃ p ys,xs=[.ref p]/\(SqL X.K H p ys\/SqT X.K H p ys)/\∀ l,H l=none->Q (.ref l) (upd H l (.lst ys))):=by
 intro pins s σ H xs us Q I r h
 obtain ⟨p,ys,rfl,hq,q⟩:=h
 obtain ⟨u,rfl,rx⟩:=pV r
 cases rx
 have fin:∀ (its:List Value),aL ys its->ys.length<=Nh->∀ (h':Heap) (c':Nat),(∀ b o',s.heap.get? b=some o'->h'.get? b=some o')->
   h'.get? s.heap.objs.size=some { cls:=.type "list",dict:=none,data:=.seq its.toArray c',slots:=#[] }->EP X pins σ Q (.ref s.heap.objs.size) { s with heap:=h' }:=fun its r' hz h' c' kp e=>
  ⟨.ref s.heap.objs.size,_,I.laid (t':=s.toks) kp (M9 _) (show bQ X.prog X.w _ h' _ (.lst ys) from ⟨hz,its,c',r',e⟩),rfl,q _ (I.hok.fresh (M9 _))⟩
 rcases hq with hq | hq
 ·obtain ⟨its,r',pl,hz⟩:=I.list hq
  have hlen:=r'.length
  obtain ⟨o,ho,hc,n,hd⟩:=pl.isList
  exact call_list_seq p (.inl rfl) ho hc hd (fun h' c' kp e=>fin its r' hz h' c' kp e) (by simp only [Nq] <;> omega)
 ·obtain ⟨its,r',pl,hz⟩:=I.tuple hq
  have hlen:=r'.length
  obtain ⟨o,ho,hc,n,hd⟩:=pl
  exact call_list_seq p (.inr rfl) ho hc hd (fun h' c' kp e=>fin its r' hz h' c' kp e) (by simp only [Nq] <;> omega)
theorem qK:cU X (.type "tuple") (fun xs H Q=>∃ p ys,xs=[.ref p]/\((SqL X.K H p ys/\∀ l,H l=none->Q (.ref l) (upd H l (.tup ys)))\/(SqT X.K H p ys/\Q (.ref p) H))):=by
 intro pins s σ H xs us Q I r h
 obtain ⟨p,ys,rfl,h⟩:=h
 obtain ⟨u,rfl,rx⟩:=pV r
 cases rx
 rcases h with ⟨hq,q⟩ | ⟨hq,q⟩
 ·obtain ⟨its,r',pl,hz⟩:=I.list hq
  have hlen:=r'.length
  refine call_tuple_list pl.isList (fun h' kp=>?_) (by simp only [Nq] <;> omega)
  have I1:Inv X pins σ H { s with heap:=h' }:=I.kept (t':=s.toks) kp
  have I2:Inv X pins σ (upd H h'.objs.size (.tup ys)) { s with heap:=h'.push { cls:=.type "tuple",data:=.seq its.toArray } }:=
   I1.laid (t':=s.toks) (fun b o e=>M4 _ e) (M9 _) (show bQ X.prog X.w _ _ _ (.tup ys) from ⟨hz,its,r',gz.new _ _⟩)
  exact ⟨.ref h'.objs.size,_,I2,rfl,q _ (I1.hok.fresh (M9 _))⟩
 ·obtain ⟨its,r',pl,hz⟩:=I.tuple hq
  exact call_tuple_same pl ⟨.ref p,H,I,rfl,q⟩
noncomputable def tyV (K:Fg) (T:String) (x:V) (H:Hp):Prop:=match x with
 | .str _=>T="str"
 | .int _=>T="int"
 | .ref p=>(T="list"/\∃ xs,SqL K H p xs)\/(T="tuple"/\∃ o,K.lookup p=some o/\o.cls=.type "tuple"/\o.dict=none)\/
   (T="dict"/\((∃ kvs,H p=some (.dK kvs))\/∃ kvs,H p=some (.dT kvs)))\/(T="set"/\∃ S n,H p=some (.set S n))
 | _=>False
theorem FY {pins:List (Addr×Obj)} {σ:St} {H:Hp} {s:Shared} {T:String} {x:V} {v:Value} (I:Inv X pins σ H s) (r:aK x v) (ty:tyV X.K T x H):
  s.TypeIs v T/\∀ a,v=.ref a->∃ ob,s.heap.get? a=some ob/\ob.dict=none:=by
 cases x with
 | str z=>
  obtain ⟨t,rfl⟩:=r
  cases (show T="str" from ty)
  exact ⟨typeIs_str s z t,fun _ e=>nomatch e⟩
 | int i=>
  obtain ⟨t,rfl⟩:=r
  cases (show T="int" from ty)
  exact ⟨VO s i t,fun _ e=>nomatch e⟩
 | ref p=>
  cases r
  rcases ty with ⟨rfl,xs,hq⟩ | ⟨rfl,o,hk,hc,hd⟩ | ⟨rfl,hk⟩ | ⟨rfl,S,n,hk⟩
  ·obtain ⟨its,_,pl,_⟩:=I.list hq
   refine ⟨pl.isList.typeIs,fun a e=>?_⟩
   cases e
   obtain ⟨o,n,e,c,hd,_⟩:=pl
   exact ⟨o,e,hd⟩
  ·refine ⟨⟨o,I.kIn p o hk,hc⟩,fun a e=>?_⟩
   cases e
   exact ⟨o,I.kIn _ o hk,hd⟩
  ·have z:∃ o,s.heap.get? p=some o/\o.ExactDict:=by
    rcases hk with ⟨kvs,hk⟩ | ⟨kvs,hk⟩
    ·obtain ⟨_,_,_,_,o,_,_,e,ex,_⟩:=I.hok p _ hk
     exact ⟨o,e,ex⟩
    ·obtain ⟨_,_,_,_,o,_,_,e,ex,_⟩:=I.hok p _ hk
     exact ⟨o,e,ex⟩
   obtain ⟨o,e,ex⟩:=z
   refine ⟨⟨o,e,ex.1⟩,fun a e2=>?_⟩
   cases e2
   exact ⟨o,e,ex.2.1⟩
  ·obtain ⟨o,_,_,_,e,ex,_⟩:=I.hok p _ hk
   refine ⟨⟨o,e,ex.1⟩,fun a e2=>?_⟩
   cases e2
   exact ⟨o,e,ex.2.1⟩
 | _=>exact O5 ty
noncomputable def Eh (K:Fg) (T:String) (r:V->List V->Hp->VK->Prop) (to:TE):TE:=fun σ H Q=>to σ H fun x H1=>tyV K T x H1/\r x [] H1 Q
noncomputable def tBM (K:Fg) (T:String) (r:V->List V->Hp->VK->Prop) (to:TE) (t:TA):TE:=fun σ H Q=>to σ H fun x H1=>tyV K T x H1/\t σ H1 fun xs H2=>r x xs H2 Q
variable {o e:Expr} {es:List Expr} {to:TE} {t:TA} {name:Str} {apos cpos:Pos} {T id:String} {r:V->List V->Hp->VK->Prop}
theorem FZ (pa:VP T) (slot:Slot T name id) (hty:typeOf (.builtin id)=pure (.type "method_descriptor")) (hm:MtR X id r) (ho:PE X o to)
  (hbase:Qj o name X.env (eval o X.env)=eval o X.env:=by rfl) (hline:(apos.endLine == cpos.line)=true:=by rfl):PE X (.Call (.Attribute o name apos) [] [] cpos) (Eh X.K T r to):=by
 intro pins s σ H Q I h
 refine wpAny_Call_method0_late hbase hline (thn (ho pins s σ H _ I h) fun v s1 ⟨x,H1,I1,r1,ty,q1⟩=>?_)
 obtain ⟨h1,h2⟩:=FY I1 r1 ty
 exact ⟨T,id,pa,slot,hty,h1,h2,Qs rfl (PySem.evalArgs_none (hm pins s1 σ H1 x [] v [] Q I1 r1 .nil q1))⟩
theorem mw (pa:VP T) (slot:Slot T name id) (hty:typeOf (.builtin id)=pure (.type "method_descriptor")) (hm:MtR X id r) (ho:PE X o to) (ha:PA X (e :: es) t)
  (hbase:Qj o name X.env (eval o X.env)=eval o X.env:=by rfl)
  (hfew:((backTo cpos (NA (e :: es) X.env)).all (fun x=>!x.1) && (Rc cpos (Qr [] X.env)).all (fun x=>x.1.isSome)
   && decide ((e :: es).length + ([]:List Keyword).length + (if ([]:List Keyword).isEmpty then 0 else 1) < 30))=true:=by rfl)
  (hline:(apos.endLine == cpos.line)=true:=by rfl) (hs:NA (e :: es) X.env=(false,eval e X.env) :: NA es X.env:=by rfl) (hplain:(backTo cpos (NA es X.env)).any (·.1)=false:=by rfl):
  PE X (.Call (.Attribute o name apos) (e :: es) [] cpos) (tBM X.K T r to t):=by
 intro pins s σ H Q I h
 refine Q7 hbase hfew hline rfl (thn (ho pins s σ H _ I h) fun v s1 ⟨x,H1,I1,r1,ty,q1⟩=>?_)
 obtain ⟨h1,h2⟩:=FY I1 r1 ty
 refine ⟨T,id,pa,slot,hty,h1,h2,?_⟩
 have hA:=ha cpos pins s1 σ H1 _ I1 q1
 rw [hs] at hA ⊢
 refine Qs (by show (false || (backTo cpos (NA es X.env)).any (·.1))=false; rw [hplain] <;> rfl) (Rq ?_)
 exact thn hA fun us s2 ⟨vs,H2,I2,r2,q2⟩=>hm pins s2 σ H2 x vs v us Q I2 r1 r2 q2
end
end L2
namespace L2
open PySem PySem.Spec PyProof.Rows
noncomputable def MtM (X:Cx) (id:String) (r:V->List V->Hp->VK->Prop):Prop:=
 ∀ (pins:List (Addr×Obj)) (s:Shared) (σ:St) (H:Hp) (x:V) (xs:List V) (v:Value) (us:List Value) (Q:VK),Inv X pins σ H s->aK x v->aL xs us->r x xs H Q->
  wpAny (model X.prog X.w) X.A (call (.builtin id) (v :: us)) (EP X pins σ Q) X.xe s
theorem aL.one {x:V} {us:List Value} (h:aL [x] us):∃ u,us=[u]/\aK x u:=by
 cases h with
 | cons r t=>cases t; exact ⟨_,rfl,r⟩
theorem aL.two {x y:V} {us:List Value} (h:aL [x,y] us):∃ u v,us=[u,v]/\aK x u/\aK y v:=by
 cases h with
 | cons r t=>cases t with
  | cons q z=>cases z; exact ⟨_,_,rfl,r,q⟩
theorem aL.zero:∀ {us:List Value},aL [] us->us=[]
 | _,.nil=>rfl
theorem aL.rep {xs:List V} {us:List Value} (h:aL xs us):∀ k:Nat,aL (NT k xs).flatten (NT k us).flatten
 | 0=>.nil
 | k + 1=>by
  rw [Qg,Qg,Q1,Q1]
  exact aL.append h (aL.rep h k)
theorem zj (its:List Value):∀ (k:Nat) (acc:List Value),
  VQ (fun x1 x2=>x1++x2) acc.toArray (NT k its.toArray)=(acc++(NT k its).flatten).toArray
 | 0,acc=>by simp
 | k + 1,acc=>by
  have e:acc.toArray++its.toArray=(acc++its).toArray:=by simp
  have e2:(acc++its)++(NT k its).flatten=acc++(NT (k + 1) its).flatten:=by
   rw [Qg,Q1,Sn]
  rw [<-e2,<-zj its k (acc++its),<-e,Qg,VR]
section
variable {X:Cx} {pins:List (Addr×Obj)} {σ:St} {H:Hp} {s:Shared} {l b:Addr} {xs ys zs:List V}
theorem Inv.lset {its its':List Value} {n:Nat} {f:Array Value->Array Value} {t':Nat} (I:Inv X pins σ H s) (hH:H l=some (.lst xs))
  (e:s.heap.get? l=some { cls:=.type "list",data:=.seq its.toArray n }) (hf:f its.toArray=its'.toArray) (hv:aL ys its') (hz:ys.length<=Nh):
  Inv X pins σ (upd H l (.lst ys)) { s with heap:=s.heap.update l (Ox f),toks:=t' }:=by
 have q:=PySem.IsL.update e f
 rw [hf] at q
 refine I.write (x:=l) (e:=l) (by rw [hH]; exact trivial) (.inl rfl) (fun b' u hb hu=>(OI s.heap (Ox f) (OJ hb)).trans hu) ⟨_,q⟩ ?_
 exact ⟨hz,its',_,hv,q⟩
theorem Inv.lnew {its:List Value} {t':Nat} (I:Inv X pins σ H s) (hv:aL ys its) (hz:ys.length<=Nh):
  Inv X pins σ (upd H s.heap.objs.size (.lst ys)) { s with heap:=s.heap.push { cls:=.type "list",data:=.seq its.toArray },toks:=t' }:=
 I.laid (fun _ _ q=>M4 _ q) (M9 _) ⟨hz,its,0,hv,Nj _ rfl⟩
theorem Inv.fresh (I:Inv X pins σ H s):H s.heap.objs.size=none:=I.hok.fresh (M9 _)
theorem Inv.lstM (I:Inv X pins σ H s) (hH:H l=some (.lst xs)):xs.length<=Nh/\∃ (its:List Value) (n:Nat),aL xs its/\xs.length=its.length/\s.heap.get? l=some { cls:=.type "list",data:=.seq its.toArray n }:=by
 obtain ⟨z,its,n,r,e⟩:=I.hok l _ hH
 exact ⟨z,its,n,r,r.length,e⟩
theorem Bd {n:Nat} (h:n<=Nh):Qe n=false:=by
 unfold Qe
 exact decide_eq_false (by omega)
end
section
variable {X:Cx}
noncomputable def ip:V->List V->Hp->VK->Prop:=fun x vs H Q=>∃ l xs y,x=.ref l/\vs=[y]/\H l=some (.lst xs)/\xs.length < Nh/\Q .non (upd H l (.lst (xs++[y])))
theorem gc:MtM X "list.append" ip:=by
 intro pins s σ H x vs v us Q I rx rv h
 obtain ⟨l,xs,y,rfl,rfl,hH,hz,q⟩:=h
 cases rx
 obtain ⟨u,rfl,ru⟩:=rv.one
 obtain ⟨z,its,n,r,hl,e⟩:=I.lstM hH
 refine QW F.slot_list_append ⟨_,e,rfl⟩ F.entry_list_append (F.args_list_append_2 _ _) (PySem.list_append l its.toArray n u (by rw [Nq]; omega)) ⟨e,?_⟩
 refine ⟨.non,_,I.lset (its':=its++[u]) hH e (by simp) (r.append (.cons ru .nil)) ?_,rfl,q⟩
 rw [Nx,TB]
 omega
noncomputable def yk:V->List V->Hp->VK->Prop:=fun x vs H Q=>∃ l b xs zs,x=.ref l/\vs=[.ref b]/\H l=some (.lst xs)/\H b=some (.lst zs)/\xs.length + zs.length<=Nh/\Q .non (upd H l (.lst (xs++zs)))
theorem F0:MtM X "list.extend" yk:=by
 intro pins s σ H x vs v us Q I rx rv h
 obtain ⟨l,b,xs,zs,rfl,rfl,hH,hB,hz,q⟩:=h
 cases rx
 obtain ⟨u,rfl,ru⟩:=rv.one
 cases ru
 obtain ⟨z,its,n,r,hl,e⟩:=I.lstM hH
 obtain ⟨z2,its2,n2,r2,hl2,e2⟩:=I.lstM hB
 have hsz:its.toArray.size + its2.toArray.size<=Nh:=by rw [Nq,Nq]; omega
 have hlong:¬ (!its.toArray.isEmpty && Qe (its.toArray.size + its2.toArray.size))=true:=by
  rw [Bd hsz,RH]
  exact Nk
 refine QW F.slot_list_extend ⟨_,e,rfl⟩ F.entry_list_extend (F.args_list_extend_2 _ _)
  (AutoSeq1.list_extend_list_list_0 l its.toArray n b its2.toArray n2 hlong (by rw [Nq]; omega) (by omega)) ⟨e,e2,?_⟩
 refine ⟨.non,_,I.lset (its':=its++its2) hH e (by simp) (r.append r2) ?_,rfl,q⟩
 rw [Nx]
 omega
noncomputable def v3:V->List V->Hp->VK->Prop:=fun x vs H Q=>∃ l xs,x=.ref l/\vs=[]/\H l=some (.lst xs)/\Q .non (upd H l (.lst []))
theorem Be:MtM X "list.clear" v3:=by
 intro pins s σ H x vs v us Q I rx rv h
 obtain ⟨l,xs,rfl,rfl,hH,q⟩:=h
 cases rx
 have hus:=rv.zero
 subst hus
 obtain ⟨z,its,n,r,hl,e⟩:=I.lstM hH
 refine QW F.slot_list_clear ⟨_,e,rfl⟩ F.entry_list_clear (F.args_list_clear_1 _) (AutoSeq1.list_clear_list_0 l its.toArray n (by rw [Nq]; omega)) ⟨e,?_⟩
 exact ⟨.non,_,I.lset (its':=[]) (ys:=[]) hH e rfl .nil (N9 _),rfl,q⟩
noncomputable def Lb:R2:=fun x y H Q=>∃ l b xs zs,x=.ref l/\y=.ref b/\H l=some (.lst xs)/\H b=some (.lst zs)/\xs.length + zs.length<=Nh/\∀ p,H p=none->Q (.ref p) (upd H p (.lst (xs++zs)))
theorem F1:OpR X (P3 .Add) Lb:=by
 intro pins s σ H x y v u Q I rx ry h
 obtain ⟨l,b,xs,zs,rfl,rfl,hH,hB,hz,q⟩:=h
 cases rx
 cases ry
 obtain ⟨z,its,n,r,hl,e⟩:=I.lstM hH
 obtain ⟨z2,its2,n2,r2,hl2,e2⟩:=I.lstM hB
 refine PySem.P.add_list e e2 ?_ (by rw [Nq,Nq]; omega)
 have ea:its.toArray++its2.toArray=(its++its2).toArray:=by simp
 rw [ea]
 exact ⟨.ref _,_,I.lnew (t':=s.toks) (r.append r2) (by rw [Nx]; omega),rfl,q _ I.fresh⟩
noncomputable def MO:R2:=fun x y H Q=>∃ l k xs,x=.ref l/\y=.int k/\H l=some (.lst xs)/\-(2 ^ 63)<=k/\k < 2 ^ 63/\xs.length * k.toNat<=Nh/\
 ∀ p,H p=none->Q (.ref p) (upd H p (.lst (NT k.toNat xs).flatten))
theorem J2 {α:Type} (xs:List α) (k:Nat):(NT k xs).flatten.length=k * xs.length:=by
 induction k with
 | zero=>simp
 | succ k ih=>rw [Qg,Q1,Nx,ih,Nat.succ_mul,Nat.add_comm]
theorem Lc:OpR X (P3 .Mult) MO:=by
 intro pins s σ H x y v u Q I rx ry h
 obtain ⟨l,k,xs,rfl,rfl,hH,h1,h2,hz,q⟩:=h
 cases rx
 obtain ⟨t,rfl⟩:=ry
 obtain ⟨z,its,n,r,hl,e⟩:=I.lstM hH
 have hlen:its.toArray.size * k.toNat<=Nh:=by rw [Nq,<-hl]; exact hz
 have hcap:¬ its.toArray.size * k.toNat > (2 ^ 63 - 1) / 8:=by
  have:(Nh:Nat)<=(2 ^ 63 - 1) / 8:=by decide
  omega
 have hfit:¬ (!Builtin.List.listFitsIndex k)=true:=by
  rw [fitsIndex_both h1 h2]
  exact Nk
 have hlong:¬ Qe (its.toArray.size * k.toNat)=true:=by
  rw [Bd hlen]
  exact Nk
 have hnew:VQ (fun x1 x2=>x1++x2) #[] (NT (if its.toArray.isEmpty=true then 0 else k.toNat) its.toArray)=(NT k.toNat its).flatten.toArray:=by
  have f0:∀ m:Nat,VQ (fun x1 x2=>x1++x2) #[] (NT m its.toArray)=(NT m its).flatten.toArray:=fun m=>by
   have:=zj its m []
   rw [List.nil_append] at this
   exact this
  rw [f0]
  cases its with
  | nil=>simp
  | cons a r'=>rw [if_neg (by simp)]
 refine wpAny_binaryOp_repeat_ref (T:="list") (U:="int") (by decide) ⟨_,e,rfl⟩ (fun s'=>VO s' k t) noFill_list_mul F.fills_int_mul VS repeat_list F.slot_int_index.lookup
  (QW VS (VO s k t) F.entry_int_rmul (F.args_int_rmul_2 _ _) (int___rmul___int_list k t l its.toArray n)
   ⟨e,rfl,⟨_,e,rfl⟩,QW F.slot_list_mul ⟨_,e,rfl⟩ F.entry_list_mul (F.args_list_mul_2 _ _) (AutoListH.list___mul___list_int_3 l its.toArray n k t hfit hcap hlong) ⟨e,?_⟩⟩)
 rw [hnew]
 exact ⟨.ref _,_,I.lnew (t':=s.toks) (r.rep k.toNat) (by rw [J2,Pa]; exact hz),rfl,q _ I.fresh⟩
end
section
variable {prog:Program} {w:World} {A:Around} {E:Value->Shared->Prop} {s:Shared}
end
section
variable {X:Cx}
end
end L2
namespace Att
open PySem PySem.W PySem.Calls PyProof.Rows
theorem v4 {P:Params} {h:Heap}:∀ (ns:List Int) (vs:List Value),WellAll P h vs (ns.map WData.int)->IntsAre vs ns:=by
 intro ns
 induction ns with
 | nil=>
  intro vs w
  rw [QA] at w
  cases w
  exact .nil
 | cons n ns ih=>
  intro vs w
  rw [Nt] at w
  cases w with
  | cons a b=>
   cases a
   exact .cons _ _ (ih _ b)
theorem F2 {l:OpenLaw} {n:Nat} (hn:l.most=some n) {P:Params} {h:Heap} {args:List WData} {vals:List Value}
  (hpre:l.row.toRowW.claim.pre args=true) (hwl:WellAll P h vals args):
  ∃ a vs ns,vals=[NI a]/\args=[WData.list (ns.map WData.int)]/\h.get? a=some { cls:=.type "list",data:=.seq vs.toArray }/\IntsAre vs ns/\ns.length<=n:=by
 have hsh:WShape.hasAll [] args [.list .int]=true:=(pre_splitW hpre).1
 have hc:l.pre.holds [] { args:=args }=true:=(pre_splitW hpre).2
 obtain ⟨d,r,rfl,h1,h2⟩:=hasAllW_cons hsh
 obtain rfl:=hasAllW_nil h2
 obtain ⟨xs,rfl,h3⟩:=hasW_list h1
 obtain ⟨ns,rfl⟩:=items_int h3
 have hlen:ns.length<=n:=by
  unfold OpenLaw.pre at hc
  have h4:(WTm.not (.lt (.lit (.int (n:Int))) (.len (.arg 0)))).holds [] { args:=[.list (ns.map .int)] }=true:=by
   have h4:=(holds_andW hc).1
   rw [hn] at h4
   exact h4
  have h5:=condW_of h4 (w_not (w_lt w_lit (w_len_list (w_arg rfl))))
  rw [M6] at h5
  refine Vs fun q=>?_
  have q':(n:Int) < ((ns.length:Nat):Int):=by omega
  first
   | (rw [decide_eq_true q'] at h5; exact absurd h5 (by decide))
   | (simp at h5; omega)
 cases hwl with
 | cons w1 w2=>
  cases w2
  cases w1 with
  | list ho hall=>exact ⟨_,_,ns,rfl,rfl,ho,v4 ns _ hall,hlen⟩
theorem F3 (l:OpenLaw) (args:List WData):l.row.toRowW.claim.post args (.bool true) args=true:=
 postW_of (r:=l.row.toRowW) (X:=(true == true))
  (show WShape.has [] (.bool true) .bool=true by first | rfl | decide | simp [WShape.has,WShape.arms,WShape.armsAll])
  (show (WTm.eq .res (.lit (.bool true))).value [] { args:=args,res:=some (.bool true),after:=args }=some (.bool (true == true)) from w_eq_bool (w_res rfl) w_lit) rfl
section
variable {prog:Program} {w:World} {A:Around} {E:Value->Shared->Prop} {s:Shared} {K:Frag}
end
end Att
namespace L2
open PySem PySem.Spec PyProof.Rows
theorem rK:∀ {vs:List Value} {ns:List Int},IntsAre vs ns->aL (ns.map V.int) vs
 | _,_,.nil=>.nil
 | _,_,.cons n t h=>.cons ⟨t,rfl⟩ (rK h)
noncomputable def Ld (H:Hp):Prop:=∀ b,H b=none\/∃ o xs,H b=some (.frz o (.lst xs))
theorem Hw {P:Program} {w:World} {K:Fg} {mg mb:Str->Option Value} {CX:CXT} {k:Nat} {fa a:Addr} {fd:Nr} {x:Str} {sp:Sp} {s₁:Shared} {vs:List Value} {ns:List Int}
  (KX:K.In s₁.heap) (hns:s₁.heap.Ns NJ mg) (hb:s₁.heap.Ns VH mb) (hbb:∀ x:Str,x≠"__name__"->mb x=QP x) (hlim:s₁.heap.NoLimit) (hg:s₁.gens=#[])
  (ha:s₁.heap.get? a=some { cls:=.type "list",data:=.seq vs.toArray }) (hi:IntsAre vs ns) (hl:ns.length<=Nh) (hr:ca k callerA)
  (F:∀ base:Heap,K.In base->base.Ns NJ mg->dz P w K mg base CX k fa fd [x] sp) (hbind:∀ (s:Shared) (u:Value),BindsTo s fd ⟨[u],[]⟩ [(x,u)])
  (hsp:∀ H:Hp,Ld H->SqL K H a (ns.map V.int)->sp [.ref a] H (fun v _=>v=.bl true) fun _ _ _=>False)
  (hCX:∀ H e s',CX [] H s₁ (fun _ _ _=>False) e s'->False):
  codeAny (model P w) callerA (.call (.ref fa) ⟨[.ref a],[]⟩) (fun r s'=>r=.ok (.ret (.bool true))/\OldK s₁.heap s'.heap/\s'.os=s₁.os/\AllBare s'.gens) s₁:=by
 have rv:=rK hi
 have lenV:=hi.length
 have core:∀ H:Hp,Ld H->SqL K H a (ns.map V.int)->HOk P w H s₁.heap->(∀ b,H b≠none->b=a)->(H a≠none->K.lookup a=none)->
   codeAny (model P w) callerA (.call (.ref fa) ⟨[.ref a],[]⟩) (fun r s'=>r=.ok (.ret (.bool true))/\OldK s₁.heap s'.heap/\s'.os=s₁.os/\AllBare s'.gens) s₁:=by
  intro H hO hS hok hA hK
  have base_of:∀ {b:Addr} {o:Obj},s₁.heap.get? b=some o->H b=none->(pQ s₁.heap H).get? b=some o:=fun e n=>Hk e n
  have noA:∀ {b:Addr} {o:Obj} {es:Array Uz} {ep:Nat},s₁.heap.get? b=some o->o.data=.dict es ep->H b=none:=fun {b o es ep} e d=>by
   cases q:H b with
   | none=>rfl
   | some u=>
    have e':b=a:=hA b (by rw [q]; simp)
    subst e'
    rw [ha] at e; cases e
    have d':Data.seq vs.toArray _=Data.dict es ep:=d
    cases d'
  have nsK:∀ {b:Addr} {m:Str->Option Value},s₁.heap.Ns b m->(pQ s₁.heap H).Ns b m:=fun {b m} ⟨o,es,ep,e,d,r⟩=>⟨o,es,ep,base_of e (noA e d),d,r⟩
  have hKb:K.In (pQ s₁.heap H):=fun b o e=>base_of (KX b o e) (by
   cases q:H b with
   | none=>rfl
   | some u=>
    have e':b=a:=hA b (by rw [q]; simp)
    subst e'
    rw [hK (by rw [q]; simp)] at e; cases e)
  have hM:Mod K mg (pQ s₁.heap H):=⟨hKb,nsK hns,⟨mb,nsK hb,hbb⟩,let ⟨mc,h1,h2⟩:=hlim; ⟨mc,nsK h1,h2⟩⟩
  have e0:vb P w K mg (pQ s₁.heap H) callerA [] s₁ H:=⟨rfl,hM,fun b o e=>JQ e,Ro (FL _ _),trivial,fun b hb=>absurd (show b∈([]:List Addr) from hb) (by simp),hok,.of_eq hg⟩
  refine Qz ((F _ hKb (nsK hns)).run callerA [] s₁ H ⟨[.ref a],[]⟩ [.ref a] [.ref a] _ _ hr e0 (hbind s₁ (.ref a)) (.cons rfl .nil) (hsp H hO hS)) fun r s' h=>?_
  cases r with
  | error e=>exact (hCX H e s' h).elim
  | ok fl=>
   cases fl with
   | next=>exact O5 h
   | brk=>exact O5 h
   | cont=>exact O5 h
   | ret u=>
    obtain ⟨v,H',os,bare,un,hok',r',q⟩:=h
    have q':v=.bl true:=q
    subst q'
    obtain rfl:u=Od true:=r'
    refine ⟨rfl,OldK.of_keep fun b o e=>?_,os,bare⟩
    cases q:H b with
    | none=>exact un.keep b o e q (by intro z; exact absurd (show b∈([]:List Addr) from z) (by simp)) (by simp)
    | some u=>
     rcases hO b with z | ⟨ob,xs,z⟩
     ·rw [q] at z; cases z
     ·have z2:=un.frzs b ob _ z
      obtain ⟨e1,_⟩:=hok b _ z
      obtain ⟨e2,_⟩:=hok' b _ z2
      rw [e] at e1; cases e1
      exact e2
 cases hk:K.lookup a with
 | some o=>
  have e:=KX a o hk
  rw [ha] at e
  cases e
  refine core (fun _=>none) (fun _=>.inl rfl) (.inr ⟨_,vs.toArray,_,hk,rfl,rfl,rfl,by rw [Nq,lenV]; exact hl,by simpa using rv⟩) (fun b u z=>by have z':(none:Option HO)=some u:=z; cases z') (fun b z=>absurd rfl z) fun z=>absurd rfl z
 | none=>
  refine core (fun b=>if b=a then some (.frz { cls:=.type "list",data:=.seq vs.toArray } (.lst (ns.map V.int))) else none) (fun b=>?_) (.inl (.inr ⟨{ cls:=.type "list",data:=.seq vs.toArray },if_pos rfl⟩)) (fun b u z=>?_) (fun b z=>?_) fun _=>hk
  ·by_cases hb:b=a
   ·exact .inr ⟨_,_,if_pos hb⟩
   ·exact .inl (if_neg hb)
  ·by_cases hb:b=a
   ·have z':=(if_pos hb).symm.trans z
    cases z'
    subst hb
    exact ⟨ha,by rw [M6]; exact hl,vs,_,rv,ha⟩
   ·have z':=(if_neg hb).symm.trans z
    cases z'
  ·by_cases hb:b=a
   ·exact hb
   ·exact absurd (if_neg hb) z
end L2
namespace L2
open PySem PySem.Spec PyProof.Rows
end L2
namespace L2
open PySem PySem.Spec PyProof.Rows
noncomputable def kl (s:Stmt) (j:Nat):Stmt:=match s with
 | .ClassDef _ _ _ body _ _ _ _ _ _ _=>body.getD j (.Pass ⟨0,0,0,0⟩)
 | _=>.Pass ⟨0,0,0,0⟩
noncomputable def km (s:Stmt):Arguments:=match s with
 | .FunctionDef _ a _ _ _ _ _ _ _ _=>a
 | _=>{ posonlyargs:=[],args:=[],vararg:=none,kwonlyargs:=[],kw_defaults:=[],kwarg:=none,defaults:=[] }
noncomputable def fP (s:Stmt):List Stmt:=match s with
 | .FunctionDef _ _ b _ _ _ _ _ _ _=>b
 | _=>[]
noncomputable def ab (s:Stmt):Scope:=match s with
 | .FunctionDef _ _ _ _ _ _ sc _ _ _=>sc
 | _=>{ kind:=.function,names:=[],isGenerator:=false,isCoroutine:=false }
noncomputable abbrev CX0:CXT:=fun _ _ _ _ _ _=>False
noncomputable abbrev E0:XK:=fun _ _ _=>False
theorem AC {X:Cx}:mR CX0 X E0:=fun _ _ _ _ _ _ _ h=>h.elim
structure Fun (K:Fg) (x qual:Str) (st:Stmt) (f:Addr) (fd:Nr):Prop where
 ex:∃ (oc:Value) (od:Option Addr) (kV doc pm:Value) (an:Option Addr) (cdv ct:Value) (osl:Array (Option Value)),
  fd=QQ x qual (km st) (fP st) (ab st) .none kV doc pm an cdv ct/\K.lookup f=some ⟨oc,od,.func fd,osl⟩/\Tz K cdv qual=true
 kp:Qy K (.ref f)=true
section
variable {P:Program} {w:World} {K:Fg} {mg:Str->Option Value} {base:Heap}
theorem Fun.ok {x qual:Str} {st:Stmt} {f:Addr} {fd:Nr} {N ps:List Str} {k:Nat} {sp:Sp} (F:Fun K x qual st f fd) (S:aA N ps (ab st)) (len:∀ vs H Q E,sp vs H Q E->vs.length=ps.length)
  (hbody:∀ (cdv:Value) (A:Around) (outer:List Env) (s:Shared) (H:Hp) (vs:List V) (Q:VK) (E:XK),ca k (A.deeper (envOfC qual (ab st) s.heap.objs.size f cdv))->sp vs H Q E->
   ∃ t,PSs (pW CX0 P w K mg base N qual (ab st) f cdv A outer s H E).nox (fP st) t/\t { nx:=fun _ H'=>Q .non H',rt:=Q } (start N vs) H):dz P w K mg base CX0 (k + 1) f fd ps sp:=by
 obtain ⟨oc,od,kV,doc,pm,an,cdv,ct,osl,rfl,lk,hcd⟩:=F.ex
 refine Mf lk hcd S len fun A outer s H vs Q E hr hsp=>?_
 obtain ⟨t,h,q⟩:=hbody cdv A outer s H vs Q E hr hsp
 exact ⟨t,h.nox,q⟩
theorem Fun.binds {x qual:Str} {st:Stmt} {f:Addr} {fd:Nr} {ps:List Str} (F:Fun K x qual st f fd)
  (h:∀ (kV doc pm:Value) (an:Option Addr) (cdv ct:Value) (us:List Value),us.length=ps.length->bindArgs (QQ x qual (km st) (fP st) (ab st) .none kV doc pm an cdv ct) ⟨us,[]⟩=pure (ps.zip us)):fM K fd ps []:=by
 obtain ⟨oc,od,kV,doc,pm,an,cdv,ct,osl,rfl,lk,hcd⟩:=F.ex
 exact .all (h kV doc pm an cdv ct)
theorem F4 {x qual:Str} {st:Stmt} {f:Addr} {oc:Value} {od an:Option Addr} {osl:Array (Option Value)} {kV doc pm cdv ct:Value} (l:K.lookup f=some ⟨oc,od,.func (QQ x qual (km st) (fP st) (ab st) .none kV doc pm an cdv ct),osl⟩)
  (c:Tz K cdv qual=true) (k:Qy K (.ref f)=true):Fun K x qual st f (QQ x qual (km st) (fP st) (ab st) .none kV doc pm an cdv ct):=⟨⟨oc,od,kV,doc,pm,an,cdv,ct,osl,rfl,l,c⟩,k⟩
end
theorem F5 {n:Nat} (h:n<=1000):n < Nh:=Ql h (by decide)
section
variable {X:Cx}
theorem pv (i:Nat) {x:Str} {pos:Pos} (hN:X.N[i]?=some x:=by rfl) (hv:Vis X.env.scope x:=by first | exact Nb rfl | exact PB (Nb rfl) | exact PB (PB rfl)) (hd:(x == ("__debug__":Str))=false:=by decide)
  (hcd:(x == ("__classdict__":Str))=false:=by decide):PE X (.Name x pos) (aa i):=FM hN hv hd hcd
end
theorem lM {A B:Prop} (h:B):if false=true then A else B:=by
 rw [if_neg Nk]
 exact h
theorem lN {A B:Prop} (h:A):if true=true then A else B:=by
 rw [if_pos rfl]
 exact h
noncomputable def am (H H':Hp):Prop:=∀ b o,H b=some o->H' b=some o
theorem am.refl (H:Hp):am H H:=fun _ _ h=>h
theorem am.trans {H H1 H2:Hp} (a:am H H1) (b:am H1 H2):am H H2:=fun c o h=>b c o (a c o h)
theorem am.free {H H':Hp} (e:am H H') {l:Addr} (h:H' l=Option.none):H l=Option.none:=by
 cases q:H l with
 | none=>rfl
 | some o=>
  rw [e l o q] at h
  cases h
theorem am.seq {K:Fg} {H H':Hp} {a:Addr} {xs:List V} (e:am H H') (h:SqL K H a xs):SqL K H' a xs:=by
 rcases h with (h | ⟨o,h⟩) | h
 ·exact .inl (.inl (e _ _ h))
 ·exact .inl (.inr ⟨o,e _ _ h⟩)
 ·exact .inr h
end L2
end
namespace L2
open PySem PyProof.Rows
section
open PySem.Spec
theorem pY {a b:Addr} {n:Nat} (h:a < n) (h':n<=b):a≠b:=NN (NB h h')
theorem Le {a b:Addr} {n:Nat} (h:n<=a) (h':b < n):a≠b:=Pm (NB h' h)
noncomputable def fQ (env:Env):List (Str×N0)->List (Str×Addr)->List (Str×Addr)
 | [],acc=>acc
 | (n,k) :: r,acc=>if k=.free then (match env.cells.lookup n with | some c=>fQ env r ((n,c) :: acc) | none=>fQ env r acc) else fQ env r acc
theorem mz {env:Env}:∀ (ns:List (Str×N0)) (acc:List (Str×Addr)),(∀ p∈acc,env.cells.lookup p.1=some p.2)->∀ p∈fQ env ns acc,env.cells.lookup p.1=some p.2
 | [],acc,h=>by intro p hp; exact h p hp
 | (n,k) :: r,acc,h=>by
  intro p hp
  rw [fQ] at hp
  split at hp
  ·split at hp
   ·rename_i c hc
    refine mz r _ (fun q hq=>?_) p hp
    rcases Nc.mp hq with rfl | hq
    ·exact hc
    ·exact h q hq
   ·exact mz r acc h p hp
  ·exact mz r acc h p hp
theorem pZ {env:Env}:∀ (ns:List (Str×N0)) (acc:List (Str×Addr)),∀ p∈acc,p∈fQ env ns acc
 | [],acc=>fun p hp=>hp
 | (n,k) :: r,acc=>fun p hp=>by
  rw [fQ]
  split
  ·split
   ·exact pZ r _ p (Nn _ hp)
   ·exact pZ r acc p hp
  ·exact pZ r acc p hp
theorem p0 {env:Env}:∀ (ns:List (Str×N0)) (acc:List (Str×Addr)) (x:Str) (c:Addr),(x,OD)∈ns->env.cells.lookup x=some c->(x,c)∈fQ env ns acc
 | [],acc,x,c=>fun h _=>(nomatch h)
 | (n,k) :: r,acc,x,c=>fun h hc=>by
  rw [fQ]
  rcases Nc.mp h with e | h
  ·cases e
   rw [if_pos rfl,hc]
   exact pZ r _ _ Nd
  ·split
   ·split
    ·exact p0 r _ x c h hc
    ·exact p0 r acc x c h hc
   ·exact p0 r acc x c h hc
theorem qL {α:Type} {x:Str} {c:α}:∀ {l:List (Str×α)},(x,c)∈l->∃ d,l.lookup x=some d
 | (y,d) :: r,h=>by
  rw [Oo]
  cases e:x == y with
  | true=>exact ⟨d,rfl⟩
  | false=>
   rcases Nc.mp h with q | q
   ·cases q
    rw [beq_self_eq_true] at e
    cases e
   ·exact qL q
theorem gM {env:Env} {ns:List (Str×N0)} {x:Str} {c:Addr} (h:(fQ env ns []).lookup x=some c):env.cells.lookup x=some c:=
 mz ns [] (fun _ hp=>(nomatch hp)) (x,c) (Om h)
theorem zk {env:Env} {ns:List (Str×N0)} {x:Str} {c:Addr} (hm:(x,OD)∈ns) (hc:env.cells.lookup x=some c):(fQ env ns []).lookup x=some c:=by
 obtain ⟨d,hd⟩:=qL (p0 ns [] x c hm hc)
 have e:=gM hd
 rw [hc] at e
 cases e
 exact hd
theorem wa {scope:Scope} {env:Env} (h:∀ y∈scope.names,y.2=.free->∃ c,env.cells.lookup y.1=some c):T4 scope env=pure (fQ env scope.names []):=by
 have go:∀ (ns:List (Str×N0)) (acc:List (Str×Addr)),(∀ y∈ns,y.2=.free->∃ c,env.cells.lookup y.1=some c)->
   (forIn ns acc fun (x:Str×N0) (cs:List (Str×Addr))=>(match x with
    | (name,kind)=>if (kind == OD)=true then (do let c <-cellOf env name; pure (Qm ((name,c) :: cs))) else pure (Qm cs):Sem (ForInStep (List (Str×Addr)))))=(pure (fQ env ns acc):Sem (List (Str×Addr))):=by
  intro ns
  induction ns with
  | nil=>intro acc _; rfl
  | cons y r ih=>
   intro acc hy
   obtain ⟨n,k⟩:=y
   have ih':=fun acc=>ih acc fun z hz=>hy z (Nn _ hz)
   rw [QN,fQ]
   by_cases hk:k=.free
   ·subst hk
    obtain ⟨c,hc⟩:=hy (n,.free) Nd rfl
    have hc':env.cells.lookup n=some c:=hc
    simp only [beq_self_eq_true,if_true,cellOf,hc',pure_bind]
    exact ih' _
   ·have hb:(k == OD)=false:=by simpa using hk
    simp only [hb,Oi,if_false,pure_bind,if_neg hk]
    exact ih' _
 unfold T4
 have g:=go scope.names [] h
 simp only [bind_pure]
 exact g
structure rL (sc scope:Scope) (NX N:List Str) (ix:List (Option Nat)):Prop where
 kind:scope.kind=.function
 nocell:∀ y∈scope.names,y.2≠.cell
 names:∀ y∈scope.names,y.2=.local->scope.names.lookup y.1=some .local
 free:∀ y∈scope.names,y.2=.free->sc.names.lookup y.1=some .cell\/sc.names.lookup y.1=some .free
 nd:N.Nodup
 len:ix.length=N.length
 at_:∀ p∈N.zip ix,∀ i∈p.2,NX[i]?=some p.1/\scope.names.lookup p.1=some .free
noncomputable def sub (ix:List (Option Nat)) (σ:St):St:=ix.map fun o=>match o with | some i=>(match σ[i]? with | some v=>v | none=>none) | none=>none
noncomputable def cQ (X:Cx) (N:List Str) (scope:Scope) (C:Addr) (s:Shared) (H:Hp) (fp:List Addr):Cx where
 prog:=X.prog
 w:=X.w
 K:=X.K
 mg:=X.mg
 base:=X.base
 A:=X.A
 N:=N
 s₀:=s
 H₀:=H
 env:=T5 scope (fQ X.env scope.names []) C X.env
 outer:=X.stack
 stack:=X.stack
 ex:=fp
 fn:=fun _=>false
 calm:=X.calm
 pn:=[]
 xe:=fun _ _=>False
theorem rM {scope:Scope} {env:Env} {x:Str} {k:N0} (h:(relabel scope env).names.lookup x=some k):scope.names.lookup x=some k\/(k=.cell/\scope.names.lookup x=some .free):=by
 have go:∀ ns:List (Str×N0),(ns.map fun (n,k)=>if (k == OD && env.scope.kind == .function && env.kindOf n == some .cell) then (n,Q9) else (n,k)).lookup x=some k->
   ns.lookup x=some k\/(k=.cell/\ns.lookup x=some .free):=by
  intro ns
  induction ns with
  | nil=>intro q; simp at q
  | cons y r ih=>
   obtain ⟨n,k'⟩:=y
   intro q
   rw [Nt] at q
   by_cases hc:(k' == OD && env.scope.kind == .function && env.kindOf n == some .cell)=true
   ·simp only [hc,if_true] at q
    have hk':k'=.free:=by
     have:=(OU _ _ ▸ hc)
     have h1:=(OU _ _ ▸ this.1)
     exact eq_of_beq h1.1
    subst hk'
    rw [Oo] at q ⊢
    cases e:x == n with
    | true=>
     rw [e] at q
     cases q
     exact .inr ⟨rfl,rfl⟩
    | false=>
     rw [e] at q
     exact ih q
   ·simp only [hc] at q
    rw [if_neg (by simp)] at q
    rw [Oo] at q ⊢
    cases e:x == n with
    | true=>rw [e] at q; exact .inl q
    | false=>rw [e] at q; exact ih q
 exact go scope.names h
theorem Bf {scope:Scope} {env:Env} {x:Str} (h:scope.names.lookup x=some .free):(relabel scope env).names.lookup x=some .cell\/(relabel scope env).names.lookup x=some .free:=by
 have go:∀ ns:List (Str×N0),ns.lookup x=some .free->
   (ns.map fun (n,k)=>if (k == OD && env.scope.kind == .function && env.kindOf n == some .cell) then (n,Q9) else (n,k)).lookup x=some .cell\/
   (ns.map fun (n,k)=>if (k == OD && env.scope.kind == .function && env.kindOf n == some .cell) then (n,Q9) else (n,k)).lookup x=some .free:=by
  intro ns
  induction ns with
  | nil=>intro q; simp at q
  | cons y r ih=>
   obtain ⟨n,k'⟩:=y
   intro q
   rw [Nt]
   rw [Oo] at q
   cases e:x == n with
   | true=>
    rw [e] at q
    cases q
    by_cases hc:(OD == OD && env.scope.kind == .function && env.kindOf n == some .cell)=true
    ·simp only [hc,if_true]
     rw [Oo,e]
     exact .inl rfl
    ·simp only [hc]
     rw [if_neg (by simp),Oo,e]
     exact .inr rfl
   | false=>
    rw [e] at q
    have z:=ih q
    by_cases hc:(k' == OD && env.scope.kind == .function && env.kindOf n == some .cell)=true
    ·simp only [hc,if_true]
     rw [Oo,e]
     exact z
    ·simp only [hc]
     rw [if_neg (by simp),Oo,e]
     exact z
 exact go scope.names h
theorem Inv.gone {X:Cx} {pins:List (Addr×Obj)} {σ σ₂:St} {H H₂:Hp} {s s₂:Shared} {C:Addr} {h'':Heap} (I:Inv X pins σ H s) (I2:Inv X pins σ₂ H₂ s₂) (hC:s₂.heap.objs.size<=C) (hn:H C=none) (hs:Nw C s.heap h''):Inv X pins σ H { s with heap:=h'' }:=
 I.turned (t':=s.toks) (it:=C) (fun b o hb e=>hs.extBut b o hb e) hn (Pm (NB I2.lt hC)) (.inr (NQ I2.sz hC))
  (fun x c e=>by
   obtain ⟨v,o,ho,_⟩:=I2.cell x c e
   exact pY (Ni ho) hC) fun q hq=>pY (Ni (I2.pin q hq).1) hC
noncomputable def PTL (X:Cx) (ifs:List Expr) (t:TT):Prop:=
 ∀ (pins:List (Addr×Obj)) (s:Shared) (σ:St) (H:Hp) (Q:Bool->Hp->Prop),Inv X pins σ H s->t σ H Q->
  wpAny (model X.prog X.w) X.A (forIn ifs true fun c r=>if r=true then do let ok <-isTrue c X.env (eval c X.env); pure (Qm ok) else pure (Qm r)) (TP X pins σ Q) X.xe s
noncomputable def aV:TT:=fun _ H Q=>Q true H
theorem bq {X:Cx}:PTL X [] aV:=fun _ _ _ H _ I h=>wpAny_tests_nil ⟨H,I,h⟩
theorem kn {X:Cx} {c:Expr} {t:TT} (h:PT X c t):PTL X [c] t:=fun pins s σ H Q I q=>wpAny_tests_one (h pins s σ H Q I q)
noncomputable def bO (J:It) (g:TG) (tt:TT) (te:TE) (σ₀:St) (p:Addr) (Q:VK) (W:Nat->Nat->List V->Hp->Prop):Prop:=
 ∀ i m acc H,W i m acc H->H p=some (.lst acc)/\
  ((J.stop i H/\Q (.ref p) H)\/(J.go i H/\acc.length < Nh/\∃ N:List V->Hp->Prop,(∀ acc' H',N acc' H'->∃ m',m' < m/\W (i + 1) m' acc' H')/\
   ∀ x H1,J.yld i H x H1->g x σ₀ H1 fun σ2 H2=>tt σ2 H2 fun b H3=>if b=true then te σ2 H3 fun y H4=>H4 p=some (.lst acc)/\N (acc++[y]) (upd H4 p (.lst (acc++[y]))) else N acc H3))
noncomputable abbrev CF (α:Type):=Addr->Shared->Hp->List Addr->α
noncomputable def bu (wi:TI) (g:CF TG) (tt:CF TT) (te:CF TE) (ix:List (Option Nat)):TE:=fun σ H Q=>wi σ H fun J H1=>∀ p,H1 p=none->
 ∃ W:Nat->Nat->List V->Hp->Prop,(∃ m,W 0 m [] (upd H1 p (.lst [])))/\∀ C s' H' fp,bO J (g C s' H' fp) (tt C s' H' fp) (te C s' H' fp) (sub ix σ) p Q W
section
variable {X:Cx} {elt tg iter:Expr} {ifs:List Expr} {scope sc:Scope} {pos:Pos} {NX N:List Str} {ix:List (Option Nat)} {wi:TI} {g:CF TG} {tt:CF TT} {te:CF TE}
theorem F6 {prog:Program} {w:World} {A:Around} {R:Result->Shared->Prop} {s:Shared} {it acc:Value} {env:Env} (I:Nat->Shared->Prop)
  (turn:∀ n s,I n s->wpAny (model prog w) A (pyNext it) (fun r s₁=>match r with
   | none=>R (.ok .next) s₁
   | some v=>wpAny (model prog w) A (Rm tg it v) (fun _ s₁'=>wpAny (model prog w) A (assign tg env v) (fun _ s₂=>
     wpAny (model prog w) A (forIn ifs true fun c r=>if r=true then do let ok <-isTrue c env (eval c env); pure (Qm ok) else pure (Qm r)) (fun ok s₃=>
      if ok=true then wpAny (model prog w) A (eval elt env) (fun x s₄=>
       wpAny (model prog w) A (call (.builtin "list.append") [acc,x]) (fun _ s₅=>∃ m,m < n/\I m s₅) (fun _ _=>False) s₄) (fun _ _=>False) s₃
      else ∃ m,m < n/\I m s₃) (fun _ _=>False) s₂) (fun _ _=>False) s₁') (fun _ _=>False) s₁) (fun _ _=>False) s)
  (n:Nat) (h:I n s):codeAny (model prog w) A (.compLoop (.ListComp elt [⟨tg,iter,ifs,0⟩] scope pos) 0 it acc env) R s:=by
 refine codeAny_loop rfl I (fun n s hI=>?_) n h
 show wpAny _ A ((compTurn (.ListComp elt [⟨tg,iter,ifs,0⟩] scope pos) 0 it acc env).onRaise (fun x=>do noteFrame x env; theTreesLotGoes x)) _ _ s
 refine wpAny_noted ?_
 rw [compTurn_list]
 refine M1 (Ue (M1 (OM (turn n s hI) (fun r s₁ h₁=>?_) fun _ _ z=>z.elim)))
 cases r with
 | none=>exact M5 h₁
 | some v=>
  refine M1 (OM h₁ (fun _ s₁' h₁'=>?_) fun _ _ z=>z.elim)
  refine M1 (OM h₁' (fun _ s₂ h₂=>M1 (OM h₂ (fun ok s₃ h₃=>?_) fun _ _ z=>z.elim)) fun _ _ z=>z.elim)
  cases ok with
  | false=>exact M5 ⟨rfl,h₃⟩
  | true=>exact M1 (M1 (OM h₃ (fun x s₄ h₄=>M1 (OM h₄ (fun _ s₅ h₅=>M5 (M5 ⟨rfl,h₅⟩)) fun _ _ z=>z.elim)) fun _ _ z=>z.elim))
theorem wb {pins:List (Addr×Obj)} {σ:St} {H:Hp} {s:Shared} {fp:List Addr} {it:Addr} {J:It} {tn:Nat->Heap->Prop} {Q:VK} {E:Value->Shared->Prop} {RR:Value->Addr->Result->Shared->Prop}
  (hc:X.calm=true) (hsc:X.env.scope=sc) (hNX:X.N=NX) (S:rL sc scope NX N ix)
  (hg:∀ C s H fp,PG (cQ X N scope C s H fp) tg (g C s H fp)) (ht:∀ C s H fp,PTL (cQ X N scope C s H fp) ifs (tt C s H fp)) (he:∀ C s H fp,PE (cQ X N scope C s H fp) elt (te C s H fp))
  (I:Inv X pins σ H s) (T:uY X.prog X.w X.K tg J fp it tn) (st:tn 0 s.heap) (hf:∀ b∈fp,lL X pins H b)
  (hq:∀ p,H p=none->∃ W:Nat->Nat->List V->Hp->Prop,(∃ m,W 0 m [] (upd H p (.lst [])))/\∀ C s' H' fp,bO J (g C s' H' fp) (tt C s' H' fp) (te C s' H' fp) (sub ix σ) p Q W)
  (hR:∀ p C s' H' m,s.heap.objs.size<=p->s.heap.objs.size<=C->s'.heap.Ns C m->H' C=none->Q (.ref p) H'->Inv X pins σ H' s'->RR (.ref p) C (.ok .next) s'):
  wpAny (model X.prog X.w) X.A (newList []) (fun acc s₃=>wpAny (model X.prog X.w) X.A (newFunctionEnv scope X.env.globals (fQ X.env scope.names []) [] X.env.qual none .none (some X.env)) (fun cenv s₄=>
   codeAny (model X.prog X.w) X.A (.compStart (.ListComp elt [⟨tg,iter,ifs,0⟩] scope pos) 0 (.ref it) acc { cenv with scope:=relabel scope X.env }) (RR acc cenv.locals) s₄) E s₃) E s:=by
 refine Og (wpAny_newFunctionEnv S.nocell (by intro y hy; simp at hy) (fun h₁ hns₁ hsb₁=>?_) S.kind)
 dsimp only at hns₁ hsb₁ ⊢
 have hsz:(s.heap.push { cls:=.type "list",dict:=none,data:=.seq ([]:List Value).toArray }).objs.size=s.heap.objs.size + 1:=N2 ..
 generalize hC:(s.heap.push { cls:=.type "list",dict:=none,data:=.seq ([]:List Value).toArray }).objs.size=C at hns₁ hsb₁ ⊢
 rw [hsz] at hC
 generalize hp:s.heap.objs.size=p at hC
 have pC:p≠C:=by omega
 have old:∀ b o,s.heap.get? b=some o->h₁.get? b=some o:=fun b o e=>hsb₁.extBut b o (pY (Ni e) (by omega)) (M4 _ (M4 _ e))
 have hnew:h₁.get? p=some { cls:=.type "list",data:=.seq ([]:List Value).toArray }:=hsb₁.extBut _ _ pC (M4 _ (by rw [<-hp]; exact Nj _ rfl))
 have hfp:H p=none:=I.hok.fresh (by omega)
 have hfC:H C=none:=I.hok.fresh (by omega)
 have lt:∀ b∈fp,b < p:=fun b hb=>by
  obtain ⟨o,e,_⟩:=T.obj 0 _ st b hb
  rw [<-hp]
  exact Ni e
 have hcells:∀ y∈scope.names,y.2=.free->∃ c,X.env.cells.lookup y.1=some c:=fun y hy hk=>by
  refine I.ok.has y.1 ?_
  show X.env.scope.names.lookup y.1=some .cell\/X.env.scope.names.lookup y.1=some .free
  rw [hsc]
  exact S.free y hy hk
 have noown:∀ x,scope.names.lookup x≠some .cell:=fun x e=>S.nocell _ (Om e) rfl
 have hok:(cQ X N scope C s H fp).Ok:=by
  refine ⟨I.ok.mod,S.kind,I.ok.glob,I.ok.blt,by show s.heap.objs.size<=C; omega,fun x y c h1 h2=>I.ok.inj x y c (gM h1) (gM h2),fun x hx=>?_,fun x c z=>(by cases z),I.ok.hd,I.ok.frames,.inl rfl,fun b hb=>?_,I.bs,NQ I.ok.bsz I.sz,fun b o e hb=>?_,fun b hb z=>?_,I.stack,I.stkFree⟩
  ·have hx':scope.names.lookup x=some .free:=by
    rcases hx with hx | hx
    ·rcases rM hx with q | q
     ·exact absurd q (noown x)
     ·exact q.2
    ·rcases rM hx with q | q
     ·exact q
     ·exact q.2
   obtain ⟨c,hc'⟩:=hcells _ (Om hx') rfl
   exact ⟨c,zk (Om hx') hc'⟩
  ·refine ⟨?_,fun x c e=>(hf b hb).2.2.2.2.1 x c (gM e)⟩
   show b≠C
   exact pY (lt b hb) (by omega)
  ·rcases (hf b hb).2.2.2.1 with z | z
   ·exact I.ok.noex b o e z
   ·exact absurd (NB (Ni e) (NQ I.ok.bsz z)) (OX _)
  ·rcases Nc.mp (I.stkSub b z) with q | q
   ·exact (hf b hb).2.1 q
   ·exact (hf b hb).2.2.1 q
 have locs:∀ h':Heap,(∀ x c o,X.env.cells.lookup x=some c->s.heap.get? c=some o->∃ sl,h'.get? c=some { o with slots:=sl })->
   ∀ (i:Nat) (x:Str) (v:V),N[i]?=some x->(sub ix σ)[i]?=some (some v)->∃ u,aK v u/\∀ m,K3 (T5 scope (fQ X.env scope.names []) C X.env) h' m x u:=by
  intro h' hk i x v h1 h2
  obtain ⟨k,hk',hv⟩:∃ k,ix[i]?=some (some k)/\σ[k]?=some (some v):=by
   unfold sub at h2
   rw [Nm] at h2
   cases e:ix[i]? with
   | none=>rw [e] at h2; cases h2
   | some o=>
    rw [e] at h2
    cases o with
    | none=>cases h2
    | some k=>
     refine ⟨k,rfl,?_⟩
     have h2':(match σ[k]? with | some v=>v | none=>none)=some v:=Nl h2
     cases e2:σ[k]? with
     | none=>rw [e2] at h2'; cases h2'
     | some z=>
      rw [e2] at h2'
      rw [show z=some v from h2']
  have hm:(x,some k)∈N.zip ix:=by
   refine Ng (i:=i) ?_
   rw [Pw]
   exact ⟨h1,hk'⟩
  obtain ⟨a1,a2⟩:=S.at_ _ hm k (by simp)
  have hX:=S.free _ (Om a2) rfl
  have hvis:Vis X.env.scope x:=by
   show _\/_\/_
   rw [hsc]
   exact .inr hX
  obtain ⟨m,hn,hl⟩:=I.loc
  obtain ⟨u,r,l⟩:=hl k x v (by rw [hNX]; exact a1) hv hvis
  refine ⟨u,r,fun m'=>.inr ⟨Bf a2,?_⟩⟩
  rcases l with ⟨l,_⟩ | ⟨_,c,e,z⟩
  ·have l':X.env.scope.names.lookup x=some .local:=l
   rw [hsc] at l'
   rcases hX with q | q <;> (rw [q] at l'; cases l')
  ·obtain ⟨o,ho,hd⟩:=z
   obtain ⟨sl,e'⟩:=hk x c o e ho
   exact ⟨c,zk (Om a2) e,_,e',hd⟩
 have hlen:(sub ix σ).length=N.length:=by
  unfold sub
  rw [M6]
  exact S.len
 have I1:Inv (cQ X N scope C s H fp) [] (sub ix σ) (upd H p (.lst [])) { s with heap:=h₁,toks:=s.toks + ([]:List (Str×Value)).length }:=by
  refine ⟨hok,rfl,I.bare,Un.laid old (Ro hp) hfp,⟨_,hns₁,fun i x v h1 h2 h3=>?_⟩,fun x c e=>?_,?_,fun x c e=>?_,fun q hq=>(nomatch hq),I.hok.laid old (Ro hp) ⟨N9 _,[],0,.nil,hnew⟩,hlen⟩
  ·obtain ⟨u,r,l⟩:=locs h₁ (fun y c o _ ho=>⟨o.slots,old c o ho⟩) i x v h1 h2
   exact ⟨u,r,l _⟩
  ·obtain ⟨v,o,ho,hd⟩:=I.cell x c (gM e)
   exact ⟨v,o,old c o ho,hd⟩
  ·show upd H p _ C=none
   rw [aQ (OJ pC)]
   exact hfC
  ·have e':=gM e
   obtain ⟨v,o,ho,hd⟩:=I.cell x c e'
   rw [aQ (pY (Ni ho) (Ro hp))]
   exact I.freeC x c e'
 have back:∀ {pl:List (Addr×Obj)} {σ':St} {H':Hp} {s':Shared},Inv (cQ X N scope C s H fp) pl σ' H' s'->Inv (cQ X N scope C s H fp) pl (sub ix σ) H' s':=fun {pl σ' H' s'} J=>by
  obtain ⟨m,hn,_⟩:=J.loc
  refine ⟨J.ok,J.os,J.bare,J.base,⟨m,hn,fun i x v h1 h2 h3=>?_⟩,J.cell,J.free,J.freeC,J.pin,J.hok,hlen⟩
  obtain ⟨u,r,l⟩:=locs s'.heap (fun y c o hc' ho=>J.base.any ho (I.freeC y c hc') fun hb=>(hf c hb).2.2.2.2.1 y c hc' rfl) i x v h1 h2
  exact ⟨u,r,l _⟩
 obtain ⟨W,⟨m0,w0⟩,turn⟩:=hq p hfp
 have st1:tn 0 h₁:=T.keep 0 _ _ st fun b _ o e=>old b o e
 have fp1:∀ {H':Hp},(∀ b∈fp,H' b=none)->∀ b∈fp,lL (cQ X N scope C s H fp) [] H' b:=fun {H'} hn b hb=>
  ⟨hn b hb,(hok.exf b hb).1,hok.exfs b hb,.inl hb,(hok.exf b hb).2,fun q hq=>(nomatch hq)⟩
 have loop:codeAny (model X.prog X.w) X.A (.compLoop (.ListComp elt [⟨tg,iter,ifs,0⟩] scope pos) 0 (.ref it) (.ref p) (T5 scope (fQ X.env scope.names []) C X.env)) (RR (.ref p) C) { s with heap:=h₁,toks:=s.toks + ([]:List (Str×Value)).length }:=by
  refine F6 (fun n s'=>∃ i acc H',Inv (cQ X N scope C s H fp) [] (sub ix σ) H' s'/\tn i s'.heap/\(∀ b∈fp,H' b=none)/\W i n acc H') ?_ m0
   ⟨0,[],_,I1,st1,fun b hb=>by rw [aQ (pY (lt b hb) (M9 _))]; exact (hf b hb).1,w0⟩
  rintro n s3 ⟨i,acc,H3,I3,st3,fr3,w3⟩
  obtain ⟨hacc,w4⟩:=turn C s H fp i n acc H3 w3
  rcases w4 with ⟨stop,qn⟩ | ⟨go,hln,N',hN',step⟩
  ·refine thn (T.done (cQ X N scope C s H fp) rfl rfl rfl hc i [] s3 _ H3 (fun _ _=>False) I3 (fp1 fr3) st3 stop) fun r s4 ⟨hr,I4⟩=>?_
   subst hr
   obtain ⟨m,hn,_⟩:=I4.loc
   refine hR p C s4 H3 m (by omega) (by omega) hn I4.free qn ?_
   exact I.call' I4.os I4.base I4.hok I4.bare fun b hb=>⟨(hf b hb).2.2.2.1,(hf b hb).2.1,(hf b hb).2.2.2.2.1,(hf b hb).2.2.2.2.2⟩
  ·refine thn (T.item (cQ X N scope C s H fp) rfl rfl rfl hc i [] s3 _ H3 (fun _ _=>False) I3 (fp1 fr3) st3 go) fun r s4 ⟨u,hr,h4⟩=>?_
   subst hr
   refine thn h4 fun _ s5 ⟨x,H5,I5,r5,y5,st5,fr5⟩=>?_
   have I5':=I5.pinned (fp1 fr5) (T.obj _ _ st5)
   refine thn (hg C s H fp _ s5 _ H5 x u _ I5' r5 (step x H5 y5)) fun _ s6 ⟨σ6,H6,I6,q6⟩=>?_
   have later:∀ {s7:Shared} {H7:Hp} {acc':List V} {σ7:St},Inv (cQ X N scope C s H fp) ([]++rE fp s5.heap) σ7 H7 s7->(∃ m',m' < n/\W (i + 1) m' acc' H7)->
     ∃ m,m < n/\∃ i acc H',Inv (cQ X N scope C s H fp) [] (sub ix σ) H' s7/\tn i s7.heap/\(∀ b∈fp,H' b=none)/\W i m acc H':=fun {s7 H7 acc' σ7} I7 ⟨m',hm,w7⟩=>by
    refine ⟨m',hm,i + 1,acc',H7,back (I7.unpinned (pins:=[])),T.keep _ _ _ st5 fun b hb o e=>(I7.pin (b,o) (NY _ (NY _ (mr hb e)))).1,fun b hb=>?_,w7⟩
    obtain ⟨o,e,d⟩:=T.obj _ _ st5 b hb
    exact (I7.pin (b,o) (NY _ (NY _ (mr hb e)))).2.1
   refine thn (ht C s H fp _ s6 σ6 H6 _ I6 q6) fun ok s7 ⟨H7,I7,q7⟩=>?_
   cases ok with
   | false=>exact later I7 (hN' _ _ q7)
   | true=>
    refine thn (he C s H fp _ s7 σ6 H7 _ I7 q7) fun y s8 ⟨v8,H8,I8,r8,hacc8,w8⟩=>?_
    refine thn (gc (X:=cQ X N scope C s H fp) _ s8 σ6 H8 (.ref p) [v8] (.ref p) [y] (fun _ H9=>H9=upd H8 p (.lst (acc++[v8]))) I8 rfl (.cons r8 .nil) ⟨p,acc,v8,rfl,rfl,hacc8,hln,rfl⟩) fun _ s9 ⟨_,H9,I9,_,e9⟩=>?_
    subst e9
    exact later I9 (hN' _ _ w8)
 exact codeAny_compStart_list loop (T.self _ 0 _ _ _ st1 loop)
theorem bo (hc:X.calm=true) (S:rL sc scope NX N ix) (hi:PI X tg iter wi)
  (hg:∀ C s H fp,PG (cQ X N scope C s H fp) tg (g C s H fp)) (ht:∀ C s H fp,PTL (cQ X N scope C s H fp) ifs (tt C s H fp)) (he:∀ C s H fp,PE (cQ X N scope C s H fp) elt (te C s H fp))
  (hsc:X.env.scope=sc:=by rfl) (hNX:X.N=NX:=by rfl) (hs:∀ x,Sk iter X.env x=pure x:=by intro _; rfl):
  PE X (.ListComp elt [⟨tg,iter,ifs,0⟩] scope pos) (bu wi g tt te ix):=by
 intro pins s σ H Q I h
 rw [eval_ListComp]
 have hcells:T4 scope X.env=pure (fQ X.env scope.names []):=wa fun y hy hk=>by
  refine I.ok.has y.1 ?_
  show X.env.scope.names.lookup y.1=some .cell\/X.env.scope.names.lookup y.1=some .free
  rw [hsc]
  exact S.free y hy hk
 refine SN (use:=none) rfl hs hcells S.kind S.names (thn (hi pins s σ H _ I h) fun v s1 h1=>thn h1 fun itv s2 h2=>?_)
 obtain ⟨it,fp,tn,J,H2,e,I2,T,st2,f2,hq⟩:=h2
 subst e
 refine wb (Q:=Q) (RR:=fun acc C=>compPost (model X.prog X.w) X.A X.xe none (EP X pins σ Q) acc C) hc hsc hNX S hg ht he I2 T st2 f2 hq ?_
 intro p C s' H' m hp hC hn hfree q I'
 exact ⟨m,hn,fun h'' hs''=>⟨.ref p,H',I'.gone I2 hC hfree hs'',rfl,q⟩⟩
theorem jA {i:Nat} {y:Str} {py spos:Pos} (hN:X.N.Nodup) (hy:X.N[i]?=some y) (hl:X.env.scope.names.lookup y=some .local) (hc:X.calm=true) (S:rL sc scope NX N ix) (hi:PI X tg iter wi)
  (hg:∀ C s H fp,PG (cQ X N scope C s H fp) tg (g C s H fp)) (ht:∀ C s H fp,PTL (cQ X N scope C s H fp) ifs (tt C s H fp)) (he:∀ C s H fp,PE (cQ X N scope C s H fp) elt (te C s H fp))
  (hsw:Ux (.ListComp elt [⟨tg,iter,ifs,0⟩] scope pos) (some (.Name y py)) spos.line X.env=pure true:=by rfl)
  (hsc:X.env.scope=sc:=by rfl) (hNX:X.N=NX:=by rfl) (hs:∀ x,Sk iter X.env x=pure x:=by intro _; rfl):
  PS X (.Assign [.Name y py] (.ListComp elt [⟨tg,iter,ifs,0⟩] scope pos) spos) (aH (bu wi g tt te ix) (aj i)):=by
 intro pins s σ H D I h
 rw [exec_Assign_Name_used _ _ _ _ hsw]
 have hcells:T4 scope X.env=pure (fQ X.env scope.names []):=wa fun z hz hk=>by
  refine I.ok.has z.1 ?_
  show X.env.scope.names.lookup z.1=some .cell\/X.env.scope.names.lookup z.1=some .free
  rw [hsc]
  exact S.free z hz hk
 refine M1 (Ue (M1 ?_))
 show wpAny _ X.A (do let _ <-comprehension (.ListComp elt [⟨tg,iter,ifs,0⟩] scope pos) scope X.env _ (newList []) false (eval iter X.env) (some (assign (.Name y py) X.env))) _ _ s
 refine M1 (thn (SN (use:=some (assign (.Name y py) X.env)) (Q:=fun _ s'=>SP X pins D .next s') rfl hs hcells S.kind S.names (thn (hi pins s σ H _ I h) fun v s1 h1=>thn h1 fun itv s2 h2=>?_)) fun _ s' q=>M5 (M5 q))
 obtain ⟨it,fp,tn,J,H2,e,I2,T,st2,f2,hq⟩:=h2
 subst e
 refine wb (Q:=fun x H1=>aj i x σ H1 D.nx) (RR:=fun acc C=>compPost (model X.prog X.w) X.A X.xe (some (assign (.Name y py) X.env)) (fun _ s'=>SP X pins D .next s') acc C) hc hsc hNX S hg ht he I2 T st2 f2 hq ?_
 intro p C s' H' m hp hC hn hfree q I'
 refine UO (zc (v:=.ref p) I' hN hy (.inl hl) rfl (fun s'' I'' ⟨a,hsb,ha⟩=>?_) (.inr hl))
 have ne:C≠a:=by
  rcases ha with rfl | ha
  ·exact Pm (NB I2.lt hC)
  ·obtain ⟨v,o,ho,_⟩:=I2.cell y a ha
   exact Pm (NB (Ni ho) hC)
 exact ⟨m,hn.sameBut hsb ne,fun h'' hs''=>⟨_,H',I''.gone I2 hC hfree hs'',q⟩⟩
end
section
variable {g:CF TG} {tt:CF TT} {te:CF TE} {σ₀:St} {p:Addr} {Q:VK} {H:Hp}
theorem oW {J:It} {n:Nat} {Y:Nat->Hp->V->Hp->Prop} (Pv:Nat->List V->Hp->Prop) (h0:Pv 0 [] (upd H p (.lst []))) (hp:∀ i acc H,i<=n->Pv i acc H->H p=some (.lst acc)/\acc.length<=i) (hz:n<=Nh)
  (hgo:∀ i acc H,i < n->Pv i acc H->J.go i H) (hst:∀ acc H,Pv n acc H->J.stop n H) (hy:∀ i acc H x H1,i < n->Pv i acc H->J.yld i H x H1->Y i H x H1)
  (hs:∀ C s' H' fp,∀ i x acc H H1,i < n->Pv i acc H->Y i H x H1->g C s' H' fp x σ₀ H1 fun σ2 H2=>tt C s' H' fp σ2 H2 fun b H3=>if b=true then te C s' H' fp σ2 H3 fun y H4=>H4 p=some (.lst acc)/\Pv (i + 1) (acc++[y]) (upd H4 p (.lst (acc++[y]))) else Pv (i + 1) acc H3)
  (hd:∀ acc H,Pv n acc H->Q (.ref p) H):
  ∃ W:Nat->Nat->List V->Hp->Prop,(∃ m,W 0 m [] (upd H p (.lst [])))/\∀ C s' H' fp,bO J (g C s' H' fp) (tt C s' H' fp) (te C s' H' fp) σ₀ p Q W:=by
 refine ⟨fun i m acc H=>m=n - i/\i<=n/\Pv i acc H,⟨n,by simp,N9 _,h0⟩,?_⟩
 rintro C s' H' fp i m acc H ⟨rfl,hi,w⟩
 obtain ⟨h1,h2⟩:=hp i acc H hi w
 refine ⟨h1,?_⟩
 by_cases hlt:i < n
 ·exact .inr ⟨hgo i acc H hlt w,by omega,Pv (i + 1),fun acc' H' q=>⟨n - (i + 1),by omega,rfl,hlt,q⟩,fun x H1 y=>hs C s' H' fp i x acc H H1 hlt w (hy i acc H x H1 hlt w y)⟩
 ·have e:i=n:=by omega
  subst e
  exact .inl ⟨hst acc H w,hd acc H w⟩
theorem zl {K:Fg} {a:Addr} {xs:List V} (Pv:Nat->List V->Hp->Prop) (h0:Pv 0 [] (upd H p (.lst []))) (hp:∀ i acc H,i<=xs.length->Pv i acc H->H p=some (.lst acc)/\acc.length<=i) (hl:∀ i acc H,i<=xs.length->Pv i acc H->SqL K H a xs) (hz:xs.length<=Nh)
  (hs:∀ C s' H' fp,∀ i x acc H,xs[i]?=some x->Pv i acc H->g C s' H' fp x σ₀ H fun σ2 H2=>tt C s' H' fp σ2 H2 fun b H3=>if b=true then te C s' H' fp σ2 H3 fun y H4=>H4 p=some (.lst acc)/\Pv (i + 1) (acc++[y]) (upd H4 p (.lst (acc++[y]))) else Pv (i + 1) acc H3)
  (hd:∀ acc H,Pv xs.length acc H->Q (.ref p) H):
  ∃ W:Nat->Nat->List V->Hp->Prop,(∃ m,W 0 m [] (upd H p (.lst [])))/\∀ C s' H' fp,bO (Itl K a) (g C s' H' fp) (tt C s' H' fp) (te C s' H' fp) σ₀ p Q W:=
 oW (Y:=fun i H x H1=>H1=H/\xs[i]?=some x) Pv h0 hp hz (fun i acc H hi w=>⟨xs,xs[i],hl i acc H (Oa hi) w,by simp [hi]⟩) (fun acc H w=>⟨xs,hl _ acc H (M9 _) w,M9 _⟩)
  (fun i acc H x H1 hi w y=>⟨y.1,y.2 xs (hl i acc H (Oa hi) w)⟩) (fun C s' H' fp i x acc H H1 hi w y=>by
   obtain ⟨e,y⟩:=y
   subst e
   exact hs C s' H' fp i x acc _ y w) hd
theorem Hx {K:Fg} {a:Addr} {xs:List V} (Pv:Nat->List V->Hp->Prop) (h0:Pv 0 [] (upd H p (.lst []))) (hp:∀ i acc H,i<=xs.length->Pv i acc H->H p=some (.lst acc)/\acc.length<=i) (hl:∀ i acc H,i<=xs.length->Pv i acc H->SqT K H a xs) (hz:xs.length<=Nh)
  (hs:∀ C s' H' fp,∀ i x acc H,xs[i]?=some x->Pv i acc H->g C s' H' fp x σ₀ H fun σ2 H2=>tt C s' H' fp σ2 H2 fun b H3=>if b=true then te C s' H' fp σ2 H3 fun y H4=>H4 p=some (.lst acc)/\Pv (i + 1) (acc++[y]) (upd H4 p (.lst (acc++[y]))) else Pv (i + 1) acc H3)
  (hd:∀ acc H,Pv xs.length acc H->Q (.ref p) H):
  ∃ W:Nat->Nat->List V->Hp->Prop,(∃ m,W 0 m [] (upd H p (.lst [])))/\∀ C s' H' fp,bO (Itt K a) (g C s' H' fp) (tt C s' H' fp) (te C s' H' fp) σ₀ p Q W:=
 oW (Y:=fun i H x H1=>H1=H/\xs[i]?=some x) Pv h0 hp hz (fun i acc H hi w=>⟨xs,xs[i],hl i acc H (Oa hi) w,by simp [hi]⟩) (fun acc H w=>⟨xs,hl _ acc H (M9 _) w,M9 _⟩)
  (fun i acc H x H1 hi w y=>⟨y.1,y.2 xs (hl i acc H (Oa hi) w)⟩) (fun C s' H' fp i x acc H H1 hi w y=>by
   obtain ⟨e,y⟩:=y
   subst e
   exact hs C s' H' fp i x acc _ y w) hd
theorem p6 {lo:Int} {n:Nat} (Pv:Nat->List V->Hp->Prop) (h0:Pv 0 [] (upd H p (.lst []))) (hp:∀ i acc H,i<=n->Pv i acc H->H p=some (.lst acc)/\acc.length<=i) (hz:n<=Nh)
  (hs:∀ C s' H' fp,∀ i acc H,i < n->Pv i acc H->g C s' H' fp (.int (lo + i)) σ₀ H fun σ2 H2=>tt C s' H' fp σ2 H2 fun b H3=>if b=true then te C s' H' fp σ2 H3 fun y H4=>H4 p=some (.lst acc)/\Pv (i + 1) (acc++[y]) (upd H4 p (.lst (acc++[y]))) else Pv (i + 1) acc H3)
  (hd:∀ acc H,Pv n acc H->Q (.ref p) H):
  ∃ W:Nat->Nat->List V->Hp->Prop,(∃ m,W 0 m [] (upd H p (.lst [])))/\∀ C s' H' fp,bO (Itr lo n) (g C s' H' fp) (tt C s' H' fp) (te C s' H' fp) σ₀ p Q W:=
 oW (Y:=fun i H x H1=>H1=H/\x=.int (lo + i)) Pv h0 hp hz (fun i acc H hi w=>hi) (fun acc H w=>M9 _) (fun i acc H x H1 hi w y=>y) (fun C s' H' fp i x acc H H1 hi w y=>by
   obtain ⟨e,e2⟩:=y
   subst e e2
   exact hs C s' H' fp i acc _ hi w) hd
end
end
section
open PySem.Spec
section
variable {prog:Program} {w:World} {A:Around} {E:Value->Shared->Prop} {s:Shared}
theorem wc {jt t:Addr} {i:Nat} {its:Array Value} {y:Value} {Q:Value->Shared->Prop} (h1:s.heap.IsTupleIter jt t i) (h2:s.heap.IsTuple t its) (hy:its[i]?=some y)
  (k:∀ h',h'.IsTupleIter jt t (i + 1)->Nw jt s.heap h'->Q y { s with heap:=h' }):wpAny (model prog w) A (NW (.ref jt)) Q E s:=by
 obtain ⟨o,ho,hc,hd⟩:=id h1
 obtain ⟨ot,hot,_,nt,hdt⟩:=h2
 unfold NW
 refine M1 (N4 (name:=O9 "__next__") h1.typeIs P5 (NV P5 h1.typeIs RV ?_ (RI _)))
 show wpAny _ _ (field (.ref jt) 0 >>= _) _ _ s
 refine M1 (Oc ho hd (x:=.ref t) rfl ?_)
 show wpAny _ _ (if (NI t == Ou)=true then _ else _) _ _ s
 rw [if_neg (show ¬ ((NI t == Ou)=true) from Nk)]
 show wpAny _ _ (field (.ref jt) 1 >>= _) _ _ s
 refine M1 (Oc ho hd (x:=.int i 0) rfl ?_)
 show wpAny _ _ (seqItems? (.ref t) >>= _) _ _ s
 refine M1 (Oj hot hdt ?_)
 simp only [Qw,hy]
 refine M1 (PL ho hd (by simp) (M5 ⟨y,rfl,M5 (k _ ?_ (N8 ..))⟩))
 exact ⟨_,N7 _ ho (Rg (PN hd _)),(So ..).trans hc,by rw [PN hd]; simp [rawInt]⟩
theorem yl {jt t:Addr} {i:Nat} {its:Array Value} {Q:Value->Shared->Prop} (hh:A.handled=none) (h1:s.heap.IsTupleIter jt t i) (h2:s.heap.IsTuple t its) (hy:its[i]?=none)
  (k:∀ h' e,QJ jt s.heap h'->(∃ o,h'.get? e=some o/\o.cls=.type "StopIteration")->E (.ref e) { s with heap:=h' }):wpAny (model prog w) A (NW (.ref jt)) Q E s:=by
 obtain ⟨o,ho,hc,hd⟩:=id h1
 obtain ⟨ot,hot,_,nt,hdt⟩:=h2
 unfold NW
 refine M1 (N4 (name:=O9 "__next__") h1.typeIs P5 (NV P5 h1.typeIs RV ?_ (RI _)))
 show wpAny _ _ (field (.ref jt) 0 >>= _) _ _ s
 refine M1 (Oc ho hd (x:=.ref t) rfl ?_)
 show wpAny _ _ (if (NI t == Ou)=true then _ else _) _ _ s
 rw [if_neg (show ¬ ((NI t == Ou)=true) from Nk)]
 show wpAny _ _ (field (.ref jt) 1 >>= _) _ _ s
 refine M1 (Oc ho hd (x:=.int i 0) rfl ?_)
 show wpAny _ _ (seqItems? (.ref t) >>= _) _ _ s
 refine M1 (Oj hot hdt ?_)
 simp only [Qw,hy]
 refine M1 (Pp (M1 (PL ho hd (by simp) ?_)))
 show wpAny _ _ (newExc (.type "StopIteration") [] >>= _) _ _ _
 refine M1 ?_
 simp only [newExc,Vt]
 refine M1 (Og ?_ (by size_fits))
 refine M1 (m:=firstArgMember _ _) (Tr (a:=Ou) (by first | rfl | (simp only [firstArgMember]; rfl)) ?_)
 refine Og ?_ (by size_fits)
 simp only [raiseNew]
 refine M1 (Ui ?_)
 first | rw [show A.in1.handled=none from hh] | rw [hh]
 refine M1 (M5 (Vg ?_))
 exact k _ _ (((N8 ..).extBut.push _).push _) ⟨_,Nj _ rfl,rfl⟩
end
theorem CL {prog:Program} {w:World} {A:Around} (hh:A.handled=none) (jt t:Addr) (hne:t≠jt) (its:Array Value):
  Draws prog w A jt [jt,t] its.size (fun i v=>its[i]?=some v) (fun i h=>h.IsTupleIter jt t i/\h.IsTuple t its) where
 live:=fun _ _ st=>let ⟨o,ho,_⟩:=st.1; ⟨o,ho⟩
 frame:=fun _ _ _ st hk=>⟨st.1.at fun o e=>hk jt (by simp) o e,let ⟨o,ho,r⟩:=st.2; ⟨o,hk t (by simp) o ho,r⟩⟩
 item:=fun i s Q E hi st hQ=>wc st.1 st.2 (y:=its[i]) (by simp [hi]) fun h' a b=>hQ _ h' s.toks (by simp [hi]) ⟨a,st.2.extBut b.extBut hne⟩ b
 done:=fun s Q E st hE=>yl hh st.1 st.2 (by simp) hE
theorem Inv.offBase {X:Cx} {pins:List (Addr×Obj)} {σ:St} {H:Hp} {s:Shared} {c:Addr} {o:Obj} (I:Inv X pins σ H s) (f:lL X pins H c) (e:X.base.get? c=some o):False:=by
 rcases f.2.2.2.1 with z | z
 ·exact I.ok.noex c o e z
 ·exact absurd (NB (Ni e) (NQ I.ok.bsz z)) (OX _)
set_option genInjectivity false in
structure Src where
 Sq:Fg->Hp->Addr->List V->Prop
 Is:Heap->Addr->Array Value->Prop
 It:Heap->Addr->Addr->Nat->Prop
 icls:String
 get:∀ {X:Cx} {pins:List (Addr×Obj)} {σ:St} {H:Hp} {s:Shared} {a:Addr} {xs:List V},Inv X pins σ H s->Sq X.K H a xs->∃ its:List Value,aL xs its/\Is s.heap a its.toArray/\xs.length<=Nh
 inj:∀ {X:Cx} {pins:List (Addr×Obj)} {σ:St} {H:Hp} {s:Shared} {a:Addr} {xs ys:List V},Inv X pins σ H s->Sq X.K H a xs->Sq X.K H a ys->xs=ys
 off:∀ {X:Cx} {pins:List (Addr×Obj)} {σ:St} {H:Hp} {s:Shared} {a c:Addr} {xs:List V},Inv X pins σ H s->Sq X.K H a xs->lL X pins H c->c≠a
 isSeq:∀ {h:Heap} {a:Addr} {its:Array Value},Is h a its->∃ o n,h.get? a=some o/\o.data=.seq its n
 isIt:∀ {h:Heap} {jt a:Addr} {i:Nat},It h jt a i->∃ o,h.get? jt=some o/\o.cls=.type icls/\o.data=.fields #[.ref a,.int i 0]
 mkI:∀ {h:Heap} {jt a:Addr} {i:Nat} {o:Obj},h.get? jt=some o->o.cls=.type icls->o.data=.fields #[.ref a,.int i 0]->It h jt a i
 itKeep:∀ {h h':Heap} {jt a:Addr} {i:Nat},It h jt a i->(∀ o,h.get? jt=some o->h'.get? jt=some o)->It h' jt a i
 isKeep:∀ {h h':Heap} {a:Addr} {its:Array Value},Is h a its->(∀ o,h.get? a=some o->h'.get? a=some o)->Is h' a its
 draws:∀ {prog:Program} {w:World} {A:Around},A.handled=none->∀ (jt a:Addr),a≠jt->∀ its:Array Value,Draws prog w A jt [jt,a] its.size (fun i v=>its[i]?=some v) (fun i h=>It h jt a i/\Is h a its)
 iter:∀ {prog:Program} {w:World} {A:Around} {E:Value->Shared->Prop} {s:Shared} {a:Addr} {its:Array Value} {Q:Value->Shared->Prop},Is s.heap a its->
  Q (.ref s.heap.objs.size) { s with heap:=s.heap.push { cls:=.type icls,data:=.fields #[.ref a,.int 0 0] } }->wpAny (model prog w) A (pyIter (.ref a)) Q E s
noncomputable def aR:Src where
 Sq:=SqL
 Is:=fun h a its=>h.IsList a its
 It:=fun h jt a i=>h.IsListIter jt a i
 icls:="list_iterator"
 get:=fun I h=>let ⟨its,r,p,z⟩:=I.list h; ⟨its,r,p.isList,z⟩
 inj:=fun I h h'=>I.list_inj h h'
 off:=fun {X pins σ H s a c xs} I h f e=>by
  subst e
  rcases h with (h | ⟨o,h⟩) | ⟨o,its,n,hk,_⟩
  ·rw [f.1] at h; cases h
  ·rw [f.1] at h; cases h
  ·exact I.offBase f (I.ok.mod.kin _ _ hk)
 isSeq:=fun h=>let ⟨o,ho,_,n,hd⟩:=h; ⟨o,n,ho,hd⟩
 isIt:=fun h=>h
 mkI:=fun h1 h2 h3=>⟨_,h1,h2,h3⟩
 itKeep:=fun h k=>h.at k
 isKeep:=fun h k=>h.at k
 draws:=fun hh jt a hne its=>Draws.list hh jt a hne its
 iter:=fun h q=>Qv h q
noncomputable def eD:Src where
 Sq:=SqT
 Is:=fun h a its=>h.IsTuple a its
 It:=fun h jt a i=>h.IsTupleIter jt a i
 icls:="tuple_iterator"
 get:=fun I h=>let ⟨its,r,p,z⟩:=I.tuple h; ⟨its,r,p,z⟩
 inj:=fun I h h'=>I.tuple_inj h h'
 off:=fun {X pins σ H s a c xs} I h f e=>by
  subst e
  rcases h with (h | ⟨o,h⟩) | ⟨o,its,n,hk,_⟩
  ·rw [f.1] at h; cases h
  ·rw [f.1] at h; cases h
  ·exact I.offBase f (I.ok.mod.kin _ _ hk)
 isSeq:=fun h=>let ⟨o,ho,_,n,hd⟩:=h; ⟨o,n,ho,hd⟩
 isIt:=fun h=>h
 mkI:=fun h1 h2 h3=>⟨_,h1,h2,h3⟩
 itKeep:=fun h k=>h.at k
 isKeep:=fun h k=>let ⟨o,ho,r⟩:=h; ⟨o,k o ho,r⟩
 draws:=fun hh jt a hne its=>CL hh jt a hne its
 iter:=fun h q=>Uy h q
theorem Inv.turns {X:Cx} {pins:List (Addr×Obj)} {σ:St} {H:Hp} {s:Shared} {h':Heap} {t':Nat} {ch:List Addr} {T:Addr} {o:HO} (I:Inv X pins σ H s) (hf:∀ b∈ch,lL X pins H b)
  (k:∀ b ob,b∉ch->s.heap.get? b=some ob->h'.get? b=some ob) (hT:s.heap.objs.size<=T) (new:bQ X.prog X.w (upd H T o) h' T o):Inv X pins σ (upd H T o) { s with heap:=h',toks:=t' }:=by
 have hn:H T=none:=I.hok.fresh hT
 have nc:∀ b u,H b=some u->b∉ch:=fun b u e z=>by
  have:=(hf b z).1
  rw [e] at this
  cases this
 refine I.step (g':=s.gens) (d':=s.drawn) (ch:=ch) (fun b hb=>⟨(hf b hb).2.2.2.1,(hf b hb).2.1,(hf b hb).2.2.2.2.1,(hf b hb).2.2.2.2.2⟩) (fun b ob _ _ hc e _=>k b ob hc e) (fun b ob _ _ hc e _=>⟨ob.slots,k b ob hc e⟩)
  (fun b ob _ e n=>?_) (fun b ob hc e=>⟨ob,k b ob hc e⟩) (fun b xs e=>?_) (fun b ob xs e=>?_) (fun b ps e=>⟨#[],?_⟩) (fun m hm=>?_) (fun b u e=>?_) I.bare
 ·rw [aQ (pY (Ni e) hT)]
  exact n
 ·rw [aQ (bn e hn)]
  exact e
 ·rw [aQ (bn e hn)]
  exact e
 ·rw [aQ (bn e hn),e]
  simp
 ·obtain ⟨ob,es,ep,ho,r⟩:=hm
  exact ⟨ob,es,ep,k _ ob (fun z=>(hf _ z).2.1 rfl) ho,r⟩
 ·by_cases hb:b=T
  ·subst hb
   rw [ay] at e
   cases e
   exact new
  ·rw [aQ hb] at e
   refine (I.hok b u e).stay (fun c v hc q=>k c v ?_ q) (fun c q=>by rw [aQ (bn q hn)]; exact q) fun c xs q=>by rw [aQ (bn q hn)]; exact q
   rcases hc with z | z
   ·rw [z]; exact nc b u e
   ·exact nc c _ z
theorem Inv.turnsN {X:Cx} {pins:List (Addr×Obj)} {σ:St} {H:Hp} {s:Shared} {h':Heap} {t':Nat} {ch:List Addr} (I:Inv X pins σ H s) (hf:∀ b∈ch,lL X pins H b)
  (k:∀ b ob,b∉ch->s.heap.get? b=some ob->h'.get? b=some ob):Inv X pins σ H { s with heap:=h',toks:=t' }:=by
 have nc:∀ b u,H b=some u->b∉ch:=fun b u e z=>by
  have:=(hf b z).1
  rw [e] at this
  cases this
 refine I.step (g':=s.gens) (d':=s.drawn) (ch:=ch) (fun b hb=>⟨(hf b hb).2.2.2.1,(hf b hb).2.1,(hf b hb).2.2.2.2.1,(hf b hb).2.2.2.2.2⟩) (fun b ob _ _ hc e _=>k b ob hc e) (fun b ob _ _ hc e _=>⟨ob.slots,k b ob hc e⟩)
  (fun b ob _ e n=>n) (fun b ob hc e=>⟨ob,k b ob hc e⟩) (fun b xs e=>e) (fun b ob xs e=>e) (fun b ps e=>⟨#[],by rw [e]; simp⟩) (fun m hm=>?_) (fun b u e=>?_) I.bare
 ·obtain ⟨ob,es,ep,ho,r⟩:=hm
  exact ⟨ob,es,ep,k _ ob (fun z=>(hf _ z).2.1 rfl) ho,r⟩
 ·refine (I.hok b u e).stay (fun c v hc q=>k c v ?_ q) (fun c q=>q) fun c xs q=>q
  rcases hc with z | z
  ·rw [z]; exact nc b u e
  ·exact nc c _ z
noncomputable def Ite (S:Src) (K:Fg) (a:Addr):It:=
 ⟨fun i H=>∃ xs x,S.Sq K H a xs/\xs[i]?=some x,fun i H x H'=>∃ T v,H T=none/\x=.ref T/\H'=upd H T (.tup [.int i,v])/\∀ xs,S.Sq K H a xs->xs[i]?=some v,fun i H=>∃ xs,S.Sq K H a xs/\xs.length=i⟩
theorem F7 {P:Program} {w:World} {K:Fg} {elts:List Expr} {k0:Nat} {pos:Pos} (S:Src) (a e it:Addr) (hl:S.icls≠"enumerate"):
  uY P w K (.Tuple elts k0 pos) (Ite S K a) [e,it] e (fun i h=>(∃ old,IsEnum h e it i old)/\S.It h it a i) where
 mem:=by simp
 obj:=fun i h st b hb=>by
  obtain ⟨⟨old,he⟩,hi⟩:=st
  rcases Nc.mp hb with rfl | hb
  ·exact ⟨_,he,fun v z=>nomatch z⟩
  ·obtain rfl:=M8.mp hb
   obtain ⟨o,ho,_,hd⟩:=S.isIt hi
   exact ⟨o,ho,fun v z=>by rw [hd] at z; cases z⟩
 keep:=fun i h h' st k=>by
  obtain ⟨⟨old,he⟩,hi⟩:=st
  exact ⟨⟨old,k e (by simp) _ he⟩,S.itKeep hi fun o q=>k it (by simp) o q⟩
 item:=by
  intro X hP hw hK hc i pins s σ H E I hf st hg
  subst hP hw hK
  obtain ⟨xs,x,hq,hx⟩:=hg
  obtain ⟨its,rv,p,hz⟩:=S.get I hq
  obtain ⟨⟨old,he⟩,hi⟩:=st
  obtain ⟨u,hu,ru⟩:=rv.get hx
  obtain ⟨oa,na,hoa,hda⟩:=S.isSeq p
  obtain ⟨oi,hoi,hci,hdi⟩:=S.isIt hi
  have nei:e≠it:=fun z=>by
   have he':s.heap.get? e=some _:=he
   rw [z,hoi] at he'
   cases he'
   exact hl (by simpa using hci.symm)
  have nae:e≠a:=S.off I hq (hf e (by simp))
  have nai:a≠it:=fun z=>by
   rw [z,hoi] at hoa
   cases hoa
   rw [hdi] at hda
   cases hda
  have hlt:i < its.toArray.size:=by
   have:=(Na.mp hu).1
   simpa using this
  refine wpAny_pyNext_enum_itemD (S.draws (A:=X.A.in1) (show X.A.in1.handled=none from I.ok.hd hc) it a nai its.toArray) he ⟨hi,p⟩ hlt nei (by simp [nei,nae]) fun y h1 tk hP ho hs1 hT hsz hk=>⟨_,rfl,?_⟩
  have hy:y=u:=by
   have:its.toArray[i]?=some u:=by simpa using hu
   rw [this] at hP
   exact (Nl hP).symm
  subst hy
  refine wpAny_letOwnedTupleGo_enum ho fun h2 he2 hs2=>?_
  have elt:e < s.heap.objs.size:=Ni he
  have hT2:h2.get? s.heap.objs.size=some { cls:=.type "tuple",data:=.seq #[.int i tk,y] }:=hs2.extBut _ _ (Le (M9 _) elt) hT
  have kept:∀ b ob,b∉[e,it]->s.heap.get? b=some ob->h2.get? b=some ob:=fun b ob hb q=>by
   have h1':b≠e:=fun z=>hb (by simp [z])
   exact hs2.extBut _ _ h1' (hk b ob h1' (fun z=>hb (by simp [z])) q)
  refine ⟨.ref s.heap.objs.size,upd H s.heap.objs.size (.tup [.int i,x]),?_,rfl,⟨_,x,I.fresh,rfl,rfl,fun ys hy=>by rw [S.inj I hy hq]; exact hx⟩,⟨⟨_,he2⟩,S.itKeep hs1.1 fun o q=>hs2.extBut _ _ (OJ nei) q⟩,fun b hb=>?_⟩
  ·refine I.turns (t':=tk + 1) hf kept (M9 _) ⟨(by show 2<=Nh; decide),[.int i tk,y],.cons ⟨tk,rfl⟩ (.cons ru .nil),_,hT2,rfl,⟨0,rfl⟩,rfl⟩
  ·have lt:b < s.heap.objs.size:=by
    rcases Nc.mp hb with rfl | hb
    ·exact elt
    ·obtain rfl:=M8.mp hb
     exact Ni hoi
   rw [aQ (pY lt (M9 _))]
   exact (hf b hb).1
 done:=by
  intro X hP hw hK hc i pins s σ H E I hf st hg
  subst hP hw hK
  obtain ⟨xs,hq,hx⟩:=hg
  obtain ⟨its,rv,p,hz⟩:=S.get I hq
  obtain ⟨⟨old,he⟩,hi⟩:=st
  obtain ⟨oa,na,hoa,hda⟩:=S.isSeq p
  obtain ⟨oi,hoi,hci,hdi⟩:=S.isIt hi
  have nai:a≠it:=fun z=>by
   rw [z,hoi] at hoa
   cases hoa
   rw [hdi] at hda
   cases hda
  have hsz:i=its.toArray.size:=by
   have:=rv.length
   simp only [Nq]
   omega
  subst hsz
  exact wpAny_pyNext_enum_endD (S.draws (A:=X.A.in1) (show X.A.in1.handled=none from I.ok.hd hc) it a nai its.toArray) he ⟨hi,p⟩ fun h' hx'=>⟨rfl,I.turnsN (t':=s.toks) hf fun b ob hb q=>hx' b ob (fun z=>hb (by simp [z])) q⟩
 self:=fun _ _ _ _ _ st h=>by
  obtain ⟨⟨old,he⟩,_⟩:=st
  exact US he h
section
variable {X:Cx} {elts:List Expr} {k0:Nat} {tpos:Pos}
theorem Hy (S:Src) (l:Addr) (its:Array Value):
  Meets (Builtin.«enumerate.__new__» ⟨[.type "enumerate",.ref l],[]⟩) (fun _ R s=>S.Is s.heap l its/\
   R (.ok (.ret (.ref (s.heap.push { cls:=.type S.icls,data:=.fields #[.ref l,.int 0 0] }).objs.size)))
    { s with heap:=(s.heap.push { cls:=.type S.icls,data:=.fields #[.ref l,.int 0 0] }).push { cls:=.type "enumerate",data:=.fields #[.none,.bool false,.ref s.heap.objs.size,rawInt 0,.none,.none] } }):=
 .of_wp fun prog w A R s h=>by
  obtain ⟨hp,g,d,tk,os⟩:=s
  obtain ⟨hl,h⟩:=h
  have hsub:=sub_enumerate
  have hL:S.Is (Vh ⟨hp,g,d,tk,os⟩) l its:=hl
  wp_walk
  refine wpAny_stack_any fun st=>M5 ?_
  split
  ·rename_i c _ _ _ _ _
   cases (c == Ov "enumerate")
   ·wp_walk using S.iter hL
    exact ⟨_,rfl,h⟩
   ·wp_walk using S.iter hL
    exact ⟨_,rfl,h⟩
  ·wp_walk using S.iter hL
   exact ⟨_,rfl,h⟩
theorem F8 (S:Src) {prog:Program} {w:World} {A:Around} {E:Value->Shared->Prop} {s:Shared} {l:Addr} {its:Array Value} {Q:Value->Shared->Prop} (hL:S.Is s.heap l its)
  (h:∀ h',IsEnum h' (s.heap.objs.size + 1) s.heap.objs.size 0 .none->S.It h' s.heap.objs.size l 0->(∀ b o,s.heap.get? b=some o->h'.get? b=some o)->Q (.ref (s.heap.objs.size + 1)) { s with heap:=h' }):
  wpAny (model prog w) A (call (.type "enumerate") [.ref l]) Q E s:=by
 refine UH F.called_enumerate (by decide) (F.typeCall_enumerate_1 _) (F.newCall_enumerate_1 _) (fun obj=>F.args_object_init_2 obj _) F.entry_enumerate_new (Hy S l its) ⟨hL,?_⟩
 have hz:(s.heap.push { cls:=.type S.icls,data:=.fields #[.ref l,.int 0 0] }).objs.size=s.heap.objs.size + 1:=N2 ..
 show _/\_
 rw [hz]
 have he:=Nj (s.heap.push { cls:=.type S.icls,data:=.fields #[.ref l,.int 0 0] }) (o:={ cls:=.type "enumerate",data:=.fields #[.none,.bool false,.ref s.heap.objs.size,rawInt 0,.none,.none] }) rfl
 rw [hz] at he
 exact ⟨⟨_,he,rfl⟩,h _ he (S.mkI (M4 _ (Nj _ rfl)) rfl rfl) fun b o q=>M4 _ (M4 _ q)⟩
noncomputable def i3 (S:Src) (K:Fg) (ta:TA):TI:=fun σ H R=>ta σ H fun vs H1=>∃ a xs,vs=[.ref a]/\S.Sq K H1 a xs/\R (Ite S K a) H1
theorem gN (S:Src) {a:Expr} {ta:TA} {p pos:Pos} (hg:Gl X "enumerate") (hm:X.mg "enumerate"=none) (hS:S.icls≠"enumerate") (ha:PA X [a] ta) (hs:NA [a] X.env=[(false,eval a X.env)]:=by rfl):
  PI X (.Tuple elts k0 tpos) (.Call (.Name "enumerate" p) [a] [] pos) (i3 S X.K ta):=by
 intro pins s σ H R I h
 refine Call_ (iS I hg hm boot_enumerate (Oy (thn (ha pos pins s σ H _ I h) fun us s1 ⟨vs,H1,I1,r1,q1⟩=>?_) hs rfl))
 obtain ⟨l,xs,e,hq,q⟩:=q1
 subst e
 obtain ⟨u,rfl,ru⟩:=r1.one
 cases ru
 obtain ⟨its,rv,p',hz⟩:=S.get I1 hq
 refine F8 S p' fun h' he hi kp=>US he ?_
 have I2:Inv X pins σ H1 { s1 with heap:=h' }:=I1.kept (t':=s1.toks) kp
 refine ⟨s1.heap.objs.size + 1,[s1.heap.objs.size + 1,s1.heap.objs.size],_,_,H1,rfl,I2,F7 S l _ _ hS,⟨⟨_,he⟩,hi⟩,fun b hb=>?_,q⟩
 have hb':s1.heap.objs.size<=b:=by
  rcases Nc.mp hb with rfl | hb
  ·exact Pn _
  ·obtain rfl:=M8.mp hb
   exact M9 _
 exact I1.fpOk hb' (I1.hok.fresh hb')
end
end
section
open PySem.Spec
section
variable {X:Cx}
noncomputable def iP (K:Fg):List V->Hp->VK->Prop:=fun xs H Q=>∃ x T t b,xs=[x,.ty T]/\gk K H x t/\NZ K t (.type T)=some b/\Q (.bl b) H
theorem db:cU X (.builtin "isinstance") (iP X.K):=by
 intro pins s σ H xs us Q I r h
 obtain ⟨x,T,t,b,rfl,ty,e,q⟩:=h
 obtain ⟨u,v,rfl,ru,rv⟩:=r.two
 cases (show v=Ov T from rv)
 exact FT I ru ty e fun tk=>⟨.bl b,H,I.tok tk,rfl,q⟩
theorem uG (K:Fg):NZ K (.type "int") (.type "int")=some true:=by unfold NZ; rw [if_pos (beq_self_eq_true _)]
theorem rN (K:Fg):NZ K (.type "int") (.type "bool")=some false:=by show (if (Ov "int" == Ov "bool")=true then some true else if Tf "bool"=true then (TC "int").map (·.contains (.type "bool")) else none)=some false; decide +kernel
theorem zF (K:Fg):NZ K (.type "bool") (.type "bool")=some true:=by unfold NZ; rw [if_pos (beq_self_eq_true _)]
theorem kT (K:Fg):NZ K (.type "tuple") (.type "tuple")=some true:=by unfold NZ; rw [if_pos (beq_self_eq_true _)]
theorem kU (K:Fg):NZ K (.type "list") (.type "list")=some true:=by unfold NZ; rw [if_pos (beq_self_eq_true _)]
theorem J3:∀ (bs:List Bool),(NC bs.length).all (fun i=>bs.getD i false)=bs.all id:=by
 intro bs
 induction bs with
 | nil=>rfl
 | cons b r ih=>
  rw [NK,Ts,QG,Rr,QG]
  show (b && _)=(b && _)
  rw [<-ih]
  rfl
theorem J4 {bs:List Bool} {us:List Value} (r:aL (bs.map V.bl) us):us=bs.map Od:=by
 induction bs generalizing us with
 | nil=>cases r; rfl
 | cons b t ih=>
  cases r with
  | cons q r'=>
   rw [Nt,<-ih r',show _=Od b from q]
theorem Inv.walked {pins:List (Addr×Obj)} {σ:St} {H:Hp} {s:Shared} {h':Heap} {tk:Nat} {o:Obj} (I:Inv X pins σ H s) (hk:∀ b ob,b∉[s.heap.objs.size]->(s.heap.push o).get? b=some ob->h'.get? b=some ob):Inv X pins σ H { s with heap:=h',toks:=tk }:=
 I.kept fun b ob e=>hk b ob (fun z=>absurd (M8.mp z) (NN (Ni e))) (M4 _ e)
theorem nP (hc:X.calm=true):cU X (.builtin "all") (fun xs H Q=>∃ (p:Addr) (bs:List Bool),xs=[.ref p]/\SqL X.K H p (bs.map V.bl)/\Q (.bl (bs.all id)) H):=by
 intro pins s σ H xs us Q I r h
 obtain ⟨p,bs,rfl,hq,q⟩:=h
 obtain ⟨u,rfl,rx⟩:=r.one
 cases rx
 obtain ⟨its,rv,pl,hz⟩:=I.list hq
 have e:=J4 rv
 subst e
 refine call_all_walk (Qv pl.isList ⟨s.heap.objs.size,_,_,_,_,_,fun i=>bs.getD i false,rfl,VT (show X.A.in1.handled=none from I.ok.hd hc) _ p (by obtain ⟨o,ho,_⟩:=pl.isList; exact NN (Ni ho)) (bs.map Od).toArray,
  ⟨⟨_,Nj _ rfl,rfl,rfl⟩,pl.isList.push _⟩,?_,fun h' tk hk=>?_⟩)
 ·intro i v s' Q' E' hP hQ
  have hP':(bs.map Od)[i]?=some v:=by simpa using hP
  rw [Nm] at hP'
  cases e:bs[i]? with
  | none=>rw [e] at hP'; cases hP'
  | some b=>
   rw [e] at hP'
   cases hP'
   have:bs.getD i false=b:=by rw [Np,e]; rfl
   have hQ':Q' (bs.getD i false) s':=hQ
   rw [this] at hQ'
   exact Pi hQ'
 ·refine ⟨.bl (bs.all id),H,I.walked hk,?_,q⟩
  show Od _=Od _
  rw [<-J3]
  simp
theorem CM (ns:List Int):∀ k,k<=ns.length->preSum (fun i=>ns.getD i 0) k=(ns.take k).sum:=by
 intro k
 induction k with
 | zero=>intro _; simp [preSum]
 | succ k ih=>
  intro hk
  have hlt:k < ns.length:=hk
  rw [preSum,ih (Oa hlt),ON,OE,M7 hlt,Np,M7 hlt]
  simp
theorem lB (hc:X.calm=true):cU X (.builtin "sum") (fun xs H Q=>∃ (p:Addr) (ns:List Int),xs=[.ref p]/\SqL X.K H p (ns.map V.int)/\Q (.int ns.sum) H):=by
 intro pins s σ H xs us Q I r h
 obtain ⟨p,ns,rfl,hq,q⟩:=h
 obtain ⟨u,rfl,rx⟩:=r.one
 cases rx
 obtain ⟨its,rv,pl,hz⟩:=I.list hq
 have hlen:ns.length=its.length:=by have:=rv.length; simpa using this
 have ia:=pX rv
 refine call_sum_walkG (Qv pl.isList ⟨s.heap.objs.size,_,_,_,_,_,fun i=>ns.getD i 0,rfl,VT (show X.A.in1.handled=none from I.ok.hd hc) _ p (by obtain ⟨o,ho,_⟩:=pl.isList; exact NN (Ni ho)) its.toArray,
  ⟨⟨_,Nj _ rfl,rfl,rfl⟩,pl.isList.push _⟩,fun b hb=>?_,?_,fun h' tk t' hk=>?_⟩)
 ·have hp:p < s.heap.objs.size:=by
   obtain ⟨o,ho,_⟩:=pl.isList
   exact Ni ho
  show b < (s.heap.push _).objs.size
  rw [N2]
  rcases Nc.mp hb with rfl | hb
  ·exact OH _
  ·obtain rfl:=M8.mp hb
   exact OB hp
 ·intro i v hP
  have hP':its[i]?=some v:=by simpa using hP
  have hlt:i < ns.length:=by
   have:=(Na.mp hP').1
   omega
  obtain ⟨u',hu',ru'⟩:=rv.get (x:=.int ns[i]) (i:=i) (by rw [Nm,M7 hlt] <;> rfl)
  rw [hP'] at hu'
  cases hu'
  obtain ⟨t,e⟩:=(show ∃ t,v=Qa ns[i] t from ru')
  refine ⟨t,?_⟩
  show v=Qa (ns.getD i 0) t
  rw [e,Np,M7 hlt]
  rfl
 ·refine ⟨.int ns.sum,H,I.walked hk,⟨t',?_⟩,q⟩
  rw [show its.toArray.size=ns.length by simp; omega,CM ns _ (M9 _),NM]
noncomputable def EqE (x y:V) (b:Bool):Prop:=(im x=true/\im y=true/\b=eqV x y)\/(∃ a,x=.ref a/\y=.ref a/\b=true)
theorem EqE.at {A:Around} {s:Shared} {x y:V} {b:Bool} {u v:Value} (h:EqE x y b) (ru:aK x u) (rv:aK y v):NL A s u v b:=by
 rcases h with ⟨f1,f2,rfl⟩ | ⟨a,rfl,rfl,rfl⟩
 ·exact FW ru rv f1 f2
 ·cases ru
  cases rv
  exact Te _
noncomputable def Ei (xs ys:List V) (e:Nat->Bool):Prop:=∀ j x y,xs[j]?=some x->ys[j]?=some y->EqE x y (e j)
theorem ym {A:Around} {s:Shared} {xs ys:List V} {e:Nat->Bool} {us vs:List Value} (h:Ei xs ys e) (ru:aL xs us) (rv:aL ys vs):
  ∀ j (h1:j < us.toArray.size) (h2:j < vs.toArray.size),NL A s us.toArray[j] vs.toArray[j] (e j):=by
 intro j h1 h2
 have h1':j < xs.length:=by rw [ru.length]; simpa using h1
 have h2':j < ys.length:=by rw [rv.length]; simpa using h2
 obtain ⟨u,eu,r1⟩:=ru.get (M7 h1')
 obtain ⟨v,ev,r2⟩:=rv.get (M7 h2')
 have q:=(h j _ _ (M7 h1') (M7 h2')).at (A:=A) (s:=s) r1 r2
 have e1:us.toArray[j]=u:=by
  have:=(Na.mp eu).2
  simpa using this
 have e2:vs.toArray[j]=v:=by
  have:=(Na.mp ev).2
  simpa using this
 rw [e1,e2]
 exact q
noncomputable def gT (xs ys:List V) (e:Nat->Bool):Bool:=(NC (min xs.length ys.length)).all e && xs.length == ys.length
noncomputable def jB (Sq:Hp->Addr->List V->Prop) (neg:Bool):R2:=fun x y H Q=>∃ a b xs ys e,x=.ref a/\y=.ref b/\Sq H a xs/\Sq H b ys/\Ei xs ys e/\Q (.bl (if neg then !gT xs ys e else gT xs ys e)) H
theorem Lf (hu:X.A.units < cLine):OpR X (O2 .Eq) (jB (SqT X.K) false):=by
 intro pins s σ H x y v u Q I r1 r2 h
 obtain ⟨a,b,xs,ys,e,rfl,rfl,ha,hb,he,q⟩:=h
 cases r1
 cases r2
 obtain ⟨us,ru,pu,_⟩:=I.tuple ha
 obtain ⟨vs,rv,pv,_⟩:=I.tuple hb
 refine SeqAt.eq_tupleAt (e:=e) pu pv hu (ym he ru rv) ⟨.bl (gT xs ys e),H,I,?_,q⟩
 show Od _=Od _
 unfold gT
 rw [Nq,Nq,ru.length,rv.length]
theorem F9 (hu:X.A.units < cLine):OpR X (O2 .NotEq) (jB (SqT X.K) true):=by
 intro pins s σ H x y v u Q I r1 r2 h
 obtain ⟨a,b,xs,ys,e,rfl,rfl,ha,hb,he,q⟩:=h
 cases r1
 cases r2
 obtain ⟨us,ru,pu,_⟩:=I.tuple ha
 obtain ⟨vs,rv,pv,_⟩:=I.tuple hb
 refine SeqAt.RcNeAt.tuples (e:=e) pu pv hu (ym he ru rv) _ _ _ _ ⟨.bl (!gT xs ys e),H,I,?_,q⟩
 show Od _=Od _
 unfold gT
 rw [Nq,Nq,ru.length,rv.length]
theorem Bg (hu:X.A.units < cLine):OpR X (O2 .Eq) (jB (SqL X.K) false):=by
 intro pins s σ H x y v u Q I r1 r2 h
 obtain ⟨a,b,xs,ys,e,rfl,rfl,ha,hb,he,q⟩:=h
 cases r1
 cases r2
 obtain ⟨us,ru,pu,_⟩:=I.list ha
 obtain ⟨vs,rv,pv,_⟩:=I.list hb
 have h1:=ru.length
 have h2:=rv.length
 by_cases hl:xs.length=ys.length
 ·refine SeqAt.eq_listAt (e:=e) pu.isList pv.isList (by simp only [Nq]; omega) hu (ym he ru rv) ⟨.bl (gT xs ys e),H,I,?_,q⟩
  show Od _=Od _
  unfold gT
  rw [Nq,<-h1,hl,PP,beq_self_eq_true,Bool.and_true]
 ·refine SeqAt.eq_list_lengthsAt pu.isList pv.isList (by simp only [Nq,bne_iff_ne]; omega) hu ⟨.bl (gT xs ys e),H,I,?_,q⟩
  show Od _=Od _
  unfold gT
  rw [beq_eq_false_iff_ne.mpr hl,RH]
end
theorem rO (ns ms:List Int):Ei (ns.map V.int) (ms.map V.int) (fun j=>decide (ns[j]?=ms[j]?)):=by
 intro j x y hx hy
 rw [Nm] at hx hy
 cases e1:ns[j]? with
 | none=>rw [e1] at hx; cases hx
 | some n=>
  cases e2:ms[j]? with
  | none=>rw [e2] at hy; cases hy
  | some m=>
   rw [e1] at hx
   rw [e2] at hy
   cases hx
   cases hy
   refine .inl ⟨rfl,rfl,?_⟩
   show decide (ns[j]?=ms[j]?)=(n == m)
   rw [e1,e2]
   by_cases h:n=m
   ·subst h; simp
   ·simp [h]
theorem p8 (ns ms:List Int):gT (ns.map V.int) (ms.map V.int) (fun j=>decide (ns[j]?=ms[j]?))=decide (ns=ms):=by
 unfold gT
 rw [M6,M6]
 by_cases h:ns=ms
 ·subst h
  simp
 ·rw [decide_eq_false h]
  by_cases hl:ns.length=ms.length
  ·rw [Bool.and_eq_false_iff]
   left
   rw [<-Vu,SO]
   intro q
   apply h
   apply PH
   intro j
   by_cases hj:j < ns.length
   ·have:=q j (by rw [O1]; omega)
    exact of_decide_eq_true this
   ·rw [NR (by omega),NR (by omega)]
  ·rw [beq_eq_false_iff_ne.mpr hl,RH]
end
section
open PySem.Spec
noncomputable def FnB (P:Program) (w:World) (K:Fg) (mg:Str->Option Value) (base:Heap) (k:Nat) (x:Str) (ps:List Str) (sp:Sp):Prop:=
 ∃ f fd,dz P w K mg base CX0 k f fd ps sp/\mg x=some (.ref f)/\Qy K (.ref f)=true/\fM K fd ps []
theorem ak {X:Cx} {k:Nat} {x:Str} {ps:List Str} {sp:Sp} {p pos:Pos} {e:Expr} {es:List Expr} {t:TA} (F:FnB X.prog X.w X.K X.mg X.base k x ps sp) (hr:ca k X.A) (ha:PA X (e :: es) t) (hg:Gl X x:=by rfl)
  (hdb:(x == ("__debug__":Str))=false:=by decide) (he:NA (e :: es) X.env=(false,eval e X.env) :: NA es X.env:=by rfl) (hpl:(backTo pos (NA es X.env)).any (·.1)=false:=by rfl):
  PE X (.Call (.Name x p) (e :: es) [] pos) (av sp [] E0 t):=by
 obtain ⟨f,fd,ok,m,kp,b⟩:=F
 exact JW ok hr hg m kp b .nil AC ha hdb he hpl
theorem FnB.mono {P:Program} {w:World} {K:Fg} {mg:Str->Option Value} {base:Heap} {j k:Nat} {x:Str} {ps:List Str} {sp:Sp} (F:FnB P w K mg base j x ps sp) (h:j<=k):FnB P w K mg base k x ps sp:=by
 obtain ⟨f,fd,ok,r⟩:=F
 exact ⟨f,fd,ok.mono h,r⟩
structure Def (K:Fg) (mg:Str->Option Value) (x:Str) (st:Stmt) (ps:List Str) (f:Addr) (fd:Nr):Prop where
 fn:Fun K x x st f fd
 m:mg x=some (.ref f)
 b:fM K fd ps []
theorem Def.ok {P:Program} {w:World} {K:Fg} {mg:Str->Option Value} {base:Heap} {x:Str} {st:Stmt} {N ps:List Str} {f:Addr} {fd:Nr} {k:Nat} {sp:Sp} (D:Def K mg x st ps f fd) (S:aA N ps (ab st)) (len:∀ vs H Q E,sp vs H Q E->vs.length=ps.length)
  (hbody:∀ (cdv:Value) (A:Around) (outer:List Env) (s:Shared) (H:Hp) (vs:List V) (Q:VK) (E:XK),ca k (A.deeper (envOfC x (ab st) s.heap.objs.size f cdv))->sp vs H Q E->
   ∃ t,PSs (pW CX0 P w K mg base N x (ab st) f cdv A outer s H E).nox (fP st) t/\t { nx:=fun _ H'=>Q .non H',rt:=Q } (start N vs) H):FnB P w K mg base (k + 1) x ps sp:=
 ⟨f,fd,D.fn.ok S len hbody,D.m,D.fn.kp,D.b⟩
theorem fR {X:Cx}:OpR X (P3 .Mult) (rI P4 fun i j=>.int (i * j)):=opI fun _ _ _ _ _ _ _ hc q=>mul_int q hc
theorem we:∀ (ns:List Int),∀ n∈ns,N3 n<=S0 (ns.map Q2)
 | [],n,h=>(nomatch h)
 | m :: r,n,h=>by
  rw [Nt,S0]
  have e:QE (.int m)=N3 m:=by
   rw [QE]
   rfl
  rw [e]
  rcases Nc.mp h with rfl | h
  ·omega
  ·have:=we r n h
   omega
theorem CN {ns:List Int} (h:SQ [RW (ns.map Q2)]=true):∀ n∈ns,N3 n<=1048576:=by
 intro n hn
 have h1:TF (RW (ns.map Q2))=true:=by
  unfold SQ at h
  rw [QG,OU] at h
  exact h.1
 unfold TF at h1
 rw [OU] at h1
 have h2:QE (RW (ns.map Q2))<=2 ^ 20:=of_decide_eq_true h1.2
 rw [QE] at h2
 have h3:=we ns n hn
 have e:(2:Nat) ^ 20=1048576:=by decide
 omega
noncomputable def hZ (K:Fg) (H:Hp) (a:Addr) (ns:List Int):Prop:=SqL K H a (ns.map V.int)/\ns.length<=63/\∀ n∈ns,N3 n<=1048576
noncomputable def wf (K:Fg):Sp:=fun vs H Q _=>∃ (a:Addr) (ns:List Int),vs=[.ref a]/\hZ K H a ns/\∀ H',Q (.bl true) H'
theorem Hz {l:PySem.W.OpenLaw} {k:Nat} {q:Program} {loose:List Str} {XP:(Str->Option Value)->Heap->Prop} {YP:World->Heap->Prop} {d:DefRec} {K:Params->Fg} {x:Str}
  (hn:l.most=some 63) (hdf:d.params.defaults=[]) (hr:ca k callerA) (hY:∀ (w:World) (h:Heap),YP w h->(K w.params).In h)
  (F:∀ (w:World) (mg:Str->Option Value) (fa:Addr) (h:Heap),(K w.params).In h->h.Ns NJ mg->mg d.name=some (.ref fa)->
   ∃ fd:Nr,(∀ (s:Shared) (u:Value),BindsTo s fd ⟨[u],[]⟩ [(x,u)])/\
    ∀ base:Heap,(K w.params).In base->base.Ns NJ mg->dz l.prog w (K w.params) mg base CX0 k fa fd [x] (wf (K w.params))):
  PySem.W.WalkO q loose XP YP l.row.toRowW d [] (fun f vs=>PySem.call f vs):=by
 intro w s₀ s₁ mg mb G Y fa o pm cd doc dV kV ho hd hcd hD hmg hg args vals as hpre hlay hrd hwl hlo
 obtain rfl:dV=.none:=PySem.W.Dflts.none hD hdf
 obtain rfl:kV=.none:=PySem.W.Dflts.noKw hD
 obtain ⟨a,vs,ns,rfl,rfl,hobj,hints,hlen⟩:=Att.F2 hn hpre hwl
 have hbits:=CN hlay
 have KX:=hY w _ Y
 obtain ⟨fd,hb,hF⟩:=F w mg fa _ KX G.T.g hmg
 have c:=Hw KX G.T.g G.T.b G.T.builtins G.T.nolimit hg hobj hints (NQ hlen (by decide)) hr hF hb (fun H hO hS=>⟨a,ns,rfl,⟨hS,hlen,hbits⟩,fun _=>rfl⟩) fun H e s' z=>z
 refine PySem.W.enter_call (Qz c fun r s' hq=>?_)
 obtain ⟨rfl,h2,h3,h4⟩:=hq
 exact ⟨.inl ⟨.bool true,.bool true,[],rfl,fun _=>rfl,.bool true,Att.F3 l _,fun _=>⟨List.Pairwise.nil,fun _ hm=>(nomatch hm)⟩⟩,h2,h3,h4⟩
theorem Ga {J:It} {n:Nat} {g:TG} {tb:TS} {D:kh} {σ:St} {H:Hp} {Y:Nat->Hp->V->Hp->Prop} (Pv:Nat->St->Hp->Prop) (h0:Pv 0 σ H) (hgo:∀ i σ H,i < n->Pv i σ H->J.go i H) (hst:∀ σ H,Pv n σ H->J.stop n H)
  (hy:∀ i σ H x H1,i < n->Pv i σ H->J.yld i H x H1->Y i H x H1) (hs:∀ i x σ H H1,i < n->Pv i σ H->Y i H x H1->g x σ H1 fun σ2 H2=>tb { D with nx:=Pv (i + 1),ct:=Pv (i + 1),bk:=D.nx } σ2 H2) (hd:∀ σ H,Pv n σ H->D.nx σ H):
  ∃ W:Nat->Nat->St->Hp->Prop,(∃ m,W 0 m σ H)/\∀ i m σ H,W i m σ H->
   (J.stop i H/\D.nx σ H)\/(J.go i H/\∃ N:St->Hp->Prop,(∀ σ' H',N σ' H'->∃ m',m' < m/\W (i + 1) m' σ' H')/\∀ x H',J.yld i H x H'->g x σ H' fun σ2 H2=>tb { D with nx:=N,ct:=N,bk:=D.nx } σ2 H2):=by
 refine ⟨fun i m σ H=>m=n - i/\i<=n/\Pv i σ H,⟨n,by simp,N9 _,h0⟩,?_⟩
 rintro i m σ H ⟨rfl,hi,p⟩
 by_cases hlt:i < n
 ·exact .inr ⟨hgo i σ H hlt p,Pv (i + 1),fun σ' H' p'=>⟨n - (i + 1),by omega,rfl,hlt,p'⟩,fun x H' y=>hs i x σ H H' hlt p (hy i σ H x H' hlt p y)⟩
 ·have e:i=n:=by omega
  subst e
  exact .inl ⟨hst σ H p,hd σ H p⟩
theorem Bh {S:Src} {K:Fg} {a:Addr} {xs:List V} {g:TG} {tb:TS} {D:kh} {σ:St} {H:Hp} (Pv:Nat->St->Hp->Prop) (h0:Pv 0 σ H) (hl:∀ i σ H,i<=xs.length->Pv i σ H->S.Sq K H a xs)
  (hs:∀ i x T σ H,xs[i]?=some x->Pv i σ H->H T=none->g (.ref T) σ (upd H T (.tup [.int i,x])) fun σ2 H2=>tb { D with nx:=Pv (i + 1),ct:=Pv (i + 1),bk:=D.nx } σ2 H2) (hd:∀ σ H,Pv xs.length σ H->D.nx σ H):
  ∃ W:Nat->Nat->St->Hp->Prop,(∃ m,W 0 m σ H)/\∀ i m σ H,W i m σ H->
   ((Ite S K a).stop i H/\D.nx σ H)\/((Ite S K a).go i H/\∃ N:St->Hp->Prop,(∀ σ' H',N σ' H'->∃ m',m' < m/\W (i + 1) m' σ' H')/\∀ x H',(Ite S K a).yld i H x H'->g x σ H' fun σ2 H2=>tb { D with nx:=N,ct:=N,bk:=D.nx } σ2 H2):=
 Ga (J:=Ite S K a) (n:=xs.length) (Y:=fun i H x H1=>∃ T v,H T=none/\x=.ref T/\H1=upd H T (.tup [.int i,v])/\xs[i]?=some v) Pv h0 (fun i σ H hi w=>⟨xs,xs[i],hl i σ H (Oa hi) w,by simp [hi]⟩) (fun σ H w=>⟨xs,hl _ σ H (M9 _) w,rfl⟩)
  (fun i σ H x H1 hi w y=>by
   obtain ⟨T,v,e1,e2,e3,e4⟩:=y
   exact ⟨T,v,e1,e2,e3,e4 xs (hl i σ H (Oa hi) w)⟩) (fun i x σ H H1 hi w y=>by
   obtain ⟨T,v,e1,rfl,rfl,e4⟩:=y
   exact hs i v T σ H e4 w e1) hd
theorem zm {S:Src} {K:Fg} {a:Addr} {xs:List V} {g:CF TG} {tt:CF TT} {te:CF TE} {σ₀:St} {p:Addr} {Q:VK} {H:Hp} (Pv:Nat->List V->Hp->Prop) (h0:Pv 0 [] (upd H p (.lst []))) (hp:∀ i acc H,i<=xs.length->Pv i acc H->H p=some (.lst acc)/\acc.length<=i) (hl:∀ i acc H,i<=xs.length->Pv i acc H->S.Sq K H a xs) (hz:xs.length<=Nh)
  (hs:∀ C s' H' fp,∀ i x T acc H,xs[i]?=some x->Pv i acc H->H T=none->g C s' H' fp (.ref T) σ₀ (upd H T (.tup [.int i,x])) fun σ2 H2=>tt C s' H' fp σ2 H2 fun b H3=>if b=true then te C s' H' fp σ2 H3 fun y H4=>H4 p=some (.lst acc)/\Pv (i + 1) (acc++[y]) (upd H4 p (.lst (acc++[y]))) else Pv (i + 1) acc H3)
  (hd:∀ acc H,Pv xs.length acc H->Q (.ref p) H):
  ∃ W:Nat->Nat->List V->Hp->Prop,(∃ m,W 0 m [] (upd H p (.lst [])))/\∀ C s' H' fp,bO (Ite S K a) (g C s' H' fp) (tt C s' H' fp) (te C s' H' fp) σ₀ p Q W:=
 oW (Y:=fun i H x H1=>∃ T v,H T=none/\x=.ref T/\H1=upd H T (.tup [.int i,v])/\xs[i]?=some v) Pv h0 hp hz (fun i acc H hi w=>⟨xs,xs[i],hl i acc H (Oa hi) w,by simp [hi]⟩) (fun acc H w=>⟨xs,hl _ acc H (M9 _) w,rfl⟩)
  (fun i acc H x H1 hi w y=>by
   obtain ⟨T,v,e1,e2,e3,e4⟩:=y
   exact ⟨T,v,e1,e2,e3,e4 xs (hl i acc H (Oa hi) w)⟩) (fun C s' H' fp i x acc H H1 hi w y=>by
   obtain ⟨T,v,e1,rfl,rfl,e4⟩:=y
   exact hs C s' H' fp i v T acc H e4 w e1) hd
theorem bg {H:Hp} {p:Addr} (h:H p=none) (o:HO):am H (upd H p o):=fun b u q=>by rw [aQ (bn q h)]; exact q
theorem am.upd {H H':Hp} {p:Addr} (s:am H H') (h:H p=none) (o:HO):am H (upd H' p o):=fun b u q=>by rw [aQ (bn q h)]; exact s b u q
theorem am.tup {K:Fg} {H H':Hp} {a:Addr} {xs:List V} (e:am H H') (h:SqT K H a xs):SqT K H' a xs:=by
 rcases h with (h | ⟨o,h⟩) | h
 ·exact .inl (.inl (e _ _ h))
 ·exact .inl (.inr ⟨o,e _ _ h⟩)
 ·exact .inr h
theorem small {n:Nat} (h:n<=1000):n<=Nh:=Oa (F5 h)
theorem Bi {ns:List Int} {k:Int} (h0:0<=k) (h1:k < (ns.length:Int)):atI (ns.map V.int) k=some (.int (ns.getD k.toNat 0)):=by
 have hk:k.toNat < ns.length:=by omega
 have e:k=((k.toNat:Nat):Int):=by omega
 have q:atI (ns.map V.int) ((k.toNat:Nat):Int)=some (.int (ns.getD k.toNat 0)):=cP (by rw [Nm,M7 hk,Np,M7 hk] <;> rfl)
 rw [<-e] at q
 exact q
theorem jC {c:Bool} {A B:Prop} (h1:c=true->A) (h2:c=false->B):if c=true then A else B:=by
 cases c with
 | true=>rw [if_pos rfl]; exact h1 rfl
 | false=>rw [if_neg Nk]; exact h2 rfl
noncomputable def cz (ns:List Int) (k:Int):Int:=
 if k < (ns.length:Int) then ns.getD k.toNat 0 else
  let n0:=if 0 < (ns.length:Int) then ns.getD ((k * 7) % (ns.length:Int)).toNat 0 * 48271 + k * 7919 else k * 7919 + 5
  let n1:=n0 * n0 % 2147483629
  (n1 + k) * (n1 + 69621) % 2147483587
noncomputable def Lg (K:Fg):Sp:=fun vs H Q _=>∃ (a:Addr) (ns:List Int) (k:Int),vs=[.ref a,.int k]/\hZ K H a ns/\0<=k/\k<=1000000/\Q (.int (cz ns k)) H
theorem hZ.same {K:Fg} {H H':Hp} {a:Addr} {ns:List Int} (h:hZ K H a ns) (s:am H H'):hZ K H' a ns:=⟨s.seq h.1,h.2⟩
structure Blt (mg:Str->Option Value):Prop where
 len:mg "len"=none
 range:mg "range"=none
 tuple:mg "tuple"=none
 list:mg "list"=none
 int:mg "int"=none
 bool:mg "bool"=none
 str:mg "str"=none
 dict:mg "dict"=none
 sum:mg "sum"=none
 all:mg "all"=none
 min:mg "min"=none
 max:mg "max"=none
 sorted:mg "sorted"=none
 enumerate:mg "enumerate"=none
 zip:mg "zip"=none
 isinstance:mg "isinstance"=none
theorem Gb {ns:List Int} (h:∀ n∈ns,N3 n<=1048576) (i:Nat):N3 (ns.getD i 0)<=1048576:=by
 rw [Np]
 cases e:ns[i]? with
 | none=>show N3 0<=_; decide
 | some n=>exact h n (Ng e)
end
section
open PySem.Spec
structure jD (z TI TO j1 j2:Addr) (fp1 fp2:List Addr):Prop where
 a1:TI≠z
 a2:TO≠z
 a3:j1≠z
 a4:j2≠z
 a5:TI≠TO
 a6:TI≠j1
 a7:TI≠j2
 a8:TO≠j1
 a9:TO≠j2
 b0:j1≠j2
 b1:z∉fp1
 b2:TO∉fp1
 b3:j2∉fp1
 b4:z∉fp2
 b5:TO∉fp2
 b6:j1∉fp2
section
variable {prog:Program} {w:World} {A:Around} {E:Value->Shared->Prop} {s:Shared}
theorem _root_.PySem.Draws.but {it:Addr} {fp:List Addr} {n i:Nat} {P:Nat->Value->Prop} {St:Nat->Heap->Prop} {h h':Heap} {c:Addr} (D:Draws prog w A it fp n P St) (hst:St i h) (hs:Nw c h h') (hc:c∉fp):St i h':=
 D.frame i _ _ hst fun b hb o e=>hs.extBut b o (fun z=>hc (by rw [<-z]; exact hb)) e
theorem zn {z TI TO j1 j2:Addr} {fp1 fp2:List Addr} {n1 n2 k:Nat} {P1 P2:Nat->Value->Prop} {S1 S2:Nat->Heap->Prop} {a b:Value} {Q:Value->Shared->Prop} (Z:jD z TI TO j1 j2 fp1 fp2)
  (D1:Draws prog w A j1 fp1 n1 P1 S1) (D2:Draws prog w A j2 fp2 n2 P2 S2) (hz:IsZip s.heap z TI TO .none) (hTI:IsPair s.heap TI (.ref j1) (.ref j2)) (hTO:IsPair s.heap TO a b) (h1:S1 k s.heap) (h2:S2 k s.heap) (l1:k < n1) (l2:k < n2)
  (hQ:∀ x y h' tk,P1 k x->P2 k y->IsZip h' z TI TO (rawInt s.heap.objs.size)->(∃ a b,IsPair h' TO a b)->S1 (k + 1) h'->S2 (k + 1) h'->IsPair h' s.heap.objs.size x y->
   (∀ c o,c∉[z,TI,TO,j1,j2]->s.heap.get? c=some o->h'.get? c=some o)->IsPair h' TI (.ref j1) (.ref j2)->Q (.ref s.heap.objs.size) { s with heap:=h',toks:=tk }):
  wpAny (model prog w) A (Builtin.«zip.__next__» ⟨[.ref z],[]⟩) (fun fin s'=>∃ v,fin=.done (.ret v)/\Q v s') E s:=by
 obtain ⟨hp,g,d,tk₀,os⟩:=s
 show wpAny _ _ (field (.ref z) 2 >>= _) _ _ _
 refine M1 (Oc hz rfl (x:=.bool false) rfl ?_)
 show wpAny _ _ (field (.ref z) 3 >>= _) _ _ _
 refine M1 (Oc hz rfl (x:=.ref TI) rfl ?_)
 refine M1 (Oj hTI rfl ?_)
 show wpAny _ _ (N1 (.ref z) >>= _) _ _ _
 refine M1 ?_
 unfold N1
 refine M1 (Oc hz rfl (x:=.none) rfl (M5 ?_))
 simp only [if_true]
 refine M1 (Pp ?_)
 refine M1 (Oc hz rfl (x:=.ref TO) rfl ?_)
 refine M1 (Pt hz (by simp) fun g1 hz1 hs1=>?_)
 replace hz1:IsZip g1 z TI TO .ellipsis:=hz1
 replace hs1:Nw z hp g1:=hs1
 refine M1 ?_
 simp only [Vv,VU,QN,RJ]
 refine M1 (M1 (Se ?_))
 show wpAny _ _ (NW (.ref j1) >>= _) _ _ _
 refine M1 (D1.item k ⟨g1,g,d,tk₀,os⟩ _ _ l1 (D1.but h1 hs1 Z.b1) fun x g2 tk1 px st1 hs2=>M5 ?_)
 replace hs2:Nw j1 g1 g2:=hs2
 have hTO2:IsPair g2 TO a b:=hs2.extBut _ _ Z.a8 (hs1.extBut _ _ Z.a2 hTO)
 refine M1 (Oj hTO2 rfl ?_)
 refine M1 (Rt hTO2 fun g3 hTO3 hs3=>?_)
 replace hTO3:IsPair g3 TO x b:=hTO3
 replace hs3:Nw TO g2 g3:=hs3
 refine M1 (Tt (M5 ?_))
 refine M1 (M1 (Se ?_))
 show wpAny _ _ (NW (.ref j2) >>= _) _ _ _
 refine M1 (D2.item k ⟨g3,g,d,tk1,os⟩ _ _ l2 (D2.but (D2.but (D2.but h2 hs1 Z.b4) hs2 Z.b6) hs3 Z.b5) fun y g4 tk2 py st2 hs4=>M5 ?_)
 replace hs4:Nw j2 g3 g4:=hs4
 have hTO4:IsPair g4 TO x b:=hs4.extBut _ _ Z.a9 hTO3
 refine M1 (Oj hTO4 rfl ?_)
 refine M1 (Rt hTO4 fun g5 hTO5 hs5=>?_)
 replace hTO5:IsPair g5 TO x y:=hTO5
 replace hs5:Nw TO g4 g5:=hs5
 refine M1 (Tt (M5 (M5 ?_)))
 refine M1 (Oj hTO5 rfl ?_)
 refine M1 (TH ?_)
 have hsz:g5.objs.size=hp.objs.size:=by rw [hs5.1,hs4.1,hs3.1,hs2.1,hs1.1]
 have hz5:IsZip g5 z TI TO .ellipsis:=hs5.extBut _ _ Z.a2.symm (hs4.extBut _ _ Z.a4.symm (hs3.extBut _ _ Z.a2.symm (hs2.extBut _ _ Z.a3.symm hz1)))
 have k5:∀ c o,c≠z->c≠TO->c≠j1->c≠j2->hp.get? c=some o->g5.get? c=some o:=fun c o c1 c2 c3 c4 e=>
  hs5.extBut _ _ c2 (hs4.extBut _ _ c4 (hs3.extBut _ _ c2 (hs2.extBut _ _ c3 (hs1.extBut _ _ c1 e))))
 have st15:S1 (k + 1) g5:=D1.but (D1.but (D1.but st1 hs3 Z.b2) hs4 Z.b3) hs5 Z.b2
 have st25:S2 (k + 1) g5:=D2.but st2 hs5 Z.b5
 have zlt:z < g5.objs.size:=Ni hz5
 show wpAny _ _ (QS (.ref z) (.ref g5.objs.size) >>= _) _ _ _
 refine M1 ?_
 unfold QS
 have hz6:IsZip (g5.push { cls:=.type "tuple",data:=.seq #[x,y] }) z TI TO .ellipsis:=M4 _ hz5
 refine M1 (Pt hz6 (by simp) fun g7 hz7 hs7=>?_)
 replace hz7:IsZip g7 z TI TO (rawInt g5.objs.size):=hz7
 refine Pt hz7 (by simp) fun g8 hz8 hs8=>?_
 replace hz8:IsZip g8 z TI TO (rawInt g5.objs.size):=hz8
 have up:∀ c o,c≠z->g5.get? c=some o->g8.get? c=some o:=fun c o c1 e=>hs8.extBut _ _ c1 (hs7.extBut _ _ c1 (M4 _ e))
 have hT8:IsPair g8 g5.objs.size x y:=hs8.extBut _ _ (Pm zlt) (hs7.extBut _ _ (Pm zlt) (Nj _ rfl))
 rw [hsz] at hz8 hT8
 refine M5 ⟨_,rfl,?_⟩
 show Q (.ref g5.objs.size) _
 rw [hsz]
 exact hQ x y g8 tk2 px py hz8 ⟨x,y,up _ _ Z.a2 hTO5⟩ (D1.frame _ _ _ st15 fun c hc o e=>up c o (fun q=>Z.b1 (by rw [<-q]; exact hc)) e) (D2.frame _ _ _ st25 fun c hc o e=>up c o (fun q=>Z.b4 (by rw [<-q]; exact hc)) e) hT8
  (fun c o hc e=>by
   simp only [Nc,Ob,or_false,not_or] at hc
   exact up c o hc.1 (k5 c o hc.1 hc.2.2.1 hc.2.2.2.1 hc.2.2.2.2 e)) (up _ _ Z.a1 (k5 _ _ Z.a1 Z.a5 Z.a6 Z.a7 hTI))
theorem Bj {z TI TO j1 j2:Addr} {fp1 fp2:List Addr} {n1 n2 k:Nat} {P1 P2:Nat->Value->Prop} {S1 S2:Nat->Heap->Prop} {a b:Value} {Q:Fin->Shared->Prop} (Z:jD z TI TO j1 j2 fp1 fp2)
  (D1:Draws prog w A j1 fp1 n1 P1 S1) (D2:Draws prog w A j2 fp2 n2 P2 S2) (hz:IsZip s.heap z TI TO .none) (hTI:IsPair s.heap TI (.ref j1) (.ref j2)) (hTO:IsPair s.heap TO a b) (h1:S1 k s.heap) (h2:S2 k s.heap) (l:k=min n1 n2)
  (hE:∀ h' e tk,(∀ c o,c∉[z,TI,TO,j1,j2]->s.heap.get? c=some o->h'.get? c=some o)->(∃ o,h'.get? e=some o/\o.cls=.type "StopIteration")->E (.ref e) { s with heap:=h',toks:=tk }):
  wpAny (model prog w) A (Builtin.«zip.__next__» ⟨[.ref z],[]⟩) Q E s:=by
 obtain ⟨hp,g,d,tk₀,os⟩:=s
 have kp:∀ {h':Heap},(∀ c o,c≠z->c≠TO->c≠j1->c≠j2->hp.get? c=some o->h'.get? c=some o)->∀ c o,c∉[z,TI,TO,j1,j2]->hp.get? c=some o->h'.get? c=some o:=fun {h'} q c o hc e=>by
  simp only [Nc,Ob,or_false,not_or] at hc
  exact q c o hc.1 hc.2.2.1 hc.2.2.2.1 hc.2.2.2.2 e
 show wpAny _ _ (field (.ref z) 2 >>= _) _ _ _
 refine M1 (Oc hz rfl (x:=.bool false) rfl ?_)
 show wpAny _ _ (field (.ref z) 3 >>= _) _ _ _
 refine M1 (Oc hz rfl (x:=.ref TI) rfl ?_)
 refine M1 (Oj hTI rfl ?_)
 show wpAny _ _ (N1 (.ref z) >>= _) _ _ _
 refine M1 ?_
 unfold N1
 refine M1 (Oc hz rfl (x:=.none) rfl (M5 ?_))
 simp only [if_true]
 refine M1 (Pp ?_)
 refine M1 (Oc hz rfl (x:=.ref TO) rfl ?_)
 refine M1 (Pt hz (by simp) fun g1 hz1 hs1=>?_)
 replace hz1:IsZip g1 z TI TO .ellipsis:=hz1
 replace hs1:Nw z hp g1:=hs1
 refine M1 ?_
 simp only [Vv,VU,QN,RJ]
 refine M1 (M1 (Se ?_))
 show wpAny _ _ (NW (.ref j1) >>= _) _ _ _
 by_cases hk:k=n1
 ·subst hk
  refine M1 (D1.done ⟨g1,g,d,tk₀,os⟩ _ _ (D1.but h1 hs1 Z.b1) fun g2 e hs2 he=>?_)
  replace hs2:QJ j1 g1 g2:=hs2
  obtain ⟨oe,hoe,hce⟩:=he
  have hz2:IsZip g2 z TI TO .ellipsis:=hs2 _ _ Z.a3.symm hz1
  have nez:e≠z:=fun q=>by
   subst q
   rw [hz2] at hoe
   cases hoe
   simp at hce
  refine Pt hz2 (by simp) fun g3 _ hs3=>hE g3 e tk₀ (kp fun c o c1 _ c3 _ q=>hs3.extBut _ _ c1 (hs2 _ _ c3 (hs1.extBut _ _ c1 q))) ⟨oe,hs3.extBut _ _ nez hoe,hce⟩
 ·have hlt:k < n1:=by omega
  have hk2:k=n2:=by omega
  refine M1 (D1.item k ⟨g1,g,d,tk₀,os⟩ _ _ hlt (D1.but h1 hs1 Z.b1) fun x g2 tk1 px st1 hs2=>M5 ?_)
  replace hs2:Nw j1 g1 g2:=hs2
  have hTO2:IsPair g2 TO a b:=hs2.extBut _ _ Z.a8 (hs1.extBut _ _ Z.a2 hTO)
  refine M1 (Oj hTO2 rfl ?_)
  refine M1 (Rt hTO2 fun g3 hTO3 hs3=>?_)
  replace hs3:Nw TO g2 g3:=hs3
  refine M1 (Tt (M5 ?_))
  refine M1 (M1 (Se ?_))
  show wpAny _ _ (NW (.ref j2) >>= _) _ _ _
  subst hk2
  refine M1 (D2.done ⟨g3,g,d,tk1,os⟩ _ _ (D2.but (D2.but (D2.but h2 hs1 Z.b4) hs2 Z.b6) hs3 Z.b5) fun g4 e hs4 he=>?_)
  replace hs4:QJ j2 g3 g4:=hs4
  obtain ⟨oe,hoe,hce⟩:=he
  have hz4:IsZip g4 z TI TO .ellipsis:=hs4 _ _ Z.a4.symm (hs3.extBut _ _ Z.a2.symm (hs2.extBut _ _ Z.a3.symm hz1))
  have nez:e≠z:=fun q=>by
   subst q
   rw [hz4] at hoe
   cases hoe
   simp at hce
  refine Pt hz4 (by simp) fun g5 _ hs5=>hE g5 e tk1 (kp fun c o c1 c2 c3 c4 q=>hs5.extBut _ _ c1 (hs4 _ _ c4 (hs3.extBut _ _ c2 (hs2.extBut _ _ c3 (hs1.extBut _ _ c1 q))))) ⟨oe,hs5.extBut _ _ nez hoe,hce⟩
end
noncomputable abbrev zh1 (S1:Src) (h:Heap) (l1:Addr):Heap:=h.push { cls:=.type S1.icls,data:=.fields #[.ref l1,.int 0 0] }
noncomputable abbrev zh2 (S1 S2:Src) (h:Heap) (l1 l2:Addr):Heap:=(zh1 S1 h l1).push { cls:=.type S2.icls,data:=.fields #[.ref l2,.int 0 0] }
noncomputable abbrev zh3 (S1 S2:Src) (h:Heap) (l1 l2:Addr):Heap:=(zh2 S1 S2 h l1 l2).push { cls:=.type "tuple",data:=.seq #[.ref h.objs.size,.ref (zh1 S1 h l1).objs.size] }
noncomputable abbrev zh4 (S1 S2:Src) (h:Heap) (l1 l2:Addr):Heap:=(zh3 S1 S2 h l1 l2).push { cls:=.type "tuple",data:=.seq #[.none,.none] }
noncomputable abbrev zh5 (S1 S2:Src) (h:Heap) (l1 l2:Addr):Heap:=(zh4 S1 S2 h l1 l2).push { cls:=.type "zip",data:=.fields #[.none,.bool false,.bool false,.ref (zh2 S1 S2 h l1 l2).objs.size,.ref (zh3 S1 S2 h l1 l2).objs.size] }
theorem Dm (S1 S2:Src) (l1 l2:Addr) (xs ys:Array Value):
  Meets (Builtin.«zip.__new__» ⟨[.type "zip",.ref l1,.ref l2],[]⟩) (fun _ R s=>S1.Is s.heap l1 xs/\S2.Is s.heap l2 ys/\R (.ok (.ret (.ref (zh4 S1 S2 s.heap l1 l2).objs.size))) { s with heap:=zh5 S1 S2 s.heap l1 l2 }):=
 .of_wp fun prog w A R s h=>by
  obtain ⟨hp,g,d,tk,os⟩:=s
  obtain ⟨q1,q2,h⟩:=h
  have hsub:=sub_zip
  have hL1:S1.Is (Vh ⟨hp,g,d,tk,os⟩) l1 xs:=q1
  have hL2:S2.Is (Vh ⟨zh1 S1 hp l1,g,d,tk,os⟩) l2 ys:=S2.isKeep q2 fun o e=>M4 _ e
  wp_walk using S1.iter hL1,S2.iter hL2
  exact ⟨_,rfl,h⟩
noncomputable def Itz (S1 S2 : Src) (K : Fg) (a b : Addr) : It :=
  ⟨fun i H => ∃ xs ys x y, S1.Sq K H a xs ∧ S2.Sq K H b ys ∧ xs[i]? = some x ∧ ys[i]? = some y,
   fun i H x H' => ∃ T u v, H T = none ∧ x = .ref T ∧ H' = upd H T (.tup [u, v]) ∧ ∀ xs ys, S1.Sq K H a xs → S2.Sq K H b ys → xs[i]? = some u ∧ ys[i]? = some v,
   fun i H => ∃ xs ys, S1.Sq K H a xs ∧ S2.Sq K H b ys ∧ min xs.length ys.length = i⟩
theorem zap {z TI TO j1 j2 a b:Addr} (nd:[z,TI,TO,j1,j2].Nodup) (h1:∀ c∈[z,TI,TO,j1,j2],c≠a) (h2:∀ c∈[z,TI,TO,j1,j2],c≠b):jD z TI TO j1 j2 [j1,a] [j2,b]:=by
 simp only [PV,Nc,Ob,or_false,not_or] at nd
 obtain ⟨⟨c1,c2,c3,c4⟩,⟨c5,c6,c7⟩,⟨c8,c9⟩,c10,_⟩:=nd
 have g1:=h1 z (by simp)
 have g2:=h1 TO (by simp)
 have g3:=h1 j2 (by simp)
 have g4:=h2 z (by simp)
 have g5:=h2 TO (by simp)
 have g6:=h2 j1 (by simp)
 exact ⟨OJ c1,OJ c2,OJ c3,OJ c4,c5,c6,c7,c8,c9,c10,by simp [c3,g1],by simp [c8,g2],by simp [OJ c10,g3],by simp [c4,g4],by simp [c9,g5],by simp [c10,g6]⟩
theorem HL {P:Program} {w:World} {K:Fg} {elts:List Expr} {k0:Nat} {pos:Pos} (S1 S2:Src) (a b z TI TO j1 j2:Addr) (nd:[z,TI,TO,j1,j2].Nodup):
  uY P w K (.Tuple elts k0 pos) (Itz S1 S2 K a b) [z,TI,TO,j1,j2] z (fun i h=>IsZip h z TI TO .none/\IsPair h TI (.ref j1) (.ref j2)/\(∃ u v,IsPair h TO u v)/\S1.It h j1 a i/\S2.It h j2 b i) where
 mem:=by simp
 obj:=fun i h st c hc=>by
  obtain ⟨q1,q2,⟨u,v,q3⟩,q4,q5⟩:=st
  simp only [Nc,Ob,or_false] at hc
  rcases hc with rfl | rfl | rfl | rfl | rfl
  ·exact ⟨_,q1,fun v z=>nomatch z⟩
  ·exact ⟨_,q2,fun v z=>nomatch z⟩
  ·exact ⟨_,q3,fun v z=>nomatch z⟩
  ·obtain ⟨o,ho,_,hd⟩:=S1.isIt q4
   exact ⟨o,ho,fun v z=>by rw [hd] at z; cases z⟩
  ·obtain ⟨o,ho,_,hd⟩:=S2.isIt q5
   exact ⟨o,ho,fun v z=>by rw [hd] at z; cases z⟩
 keep:=fun i h h' st k=>by
  obtain ⟨q1,q2,⟨u,v,q3⟩,q4,q5⟩:=st
  exact ⟨k z (by simp) _ q1,k TI (by simp) _ q2,⟨u,v,k TO (by simp) _ q3⟩,S1.itKeep q4 fun o q=>k j1 (by simp) o q,S2.itKeep q5 fun o q=>k j2 (by simp) o q⟩
 item:=by
  intro X hP hw hK hc i pins s σ H E I hf st hg
  subst hP hw hK
  obtain ⟨xs,ys,x,y,hq1,hq2,hx,hy⟩:=hg
  obtain ⟨us,r1,p1,_⟩:=S1.get I hq1
  obtain ⟨vs,r2,p2,_⟩:=S2.get I hq2
  obtain ⟨q1,q2,⟨u0,v0,q3⟩,q4,q5⟩:=st
  obtain ⟨u,hu,ru⟩:=r1.get hx
  obtain ⟨v,hv,rv⟩:=r2.get hy
  have Z:=zap nd (fun c hc'=>S1.off I hq1 (hf c hc')) (fun c hc'=>S2.off I hq2 (hf c hc'))
  have hh:X.A.in1.handled=none:=I.ok.hd hc
  have n1:a≠j1:=OJ (S1.off I hq1 (hf j1 (by simp)))
  have n2:b≠j2:=OJ (S2.off I hq2 (hf j2 (by simp)))
  have l1:i < us.toArray.size:=by have:=(Na.mp hu).1; simpa using this
  have l2:i < vs.toArray.size:=by have:=(Na.mp hv).1; simpa using this
  have hT:s.TypeIs (.ref z) "zip":=⟨_,q1,rfl⟩
  unfold pyNext
  refine M1 (P6 (N4 (name:=O9 "__next__") hT PC (NV PC hT Re
   (zn (A:=X.A.in1) Z (S1.draws hh j1 a n1 us.toArray) (S2.draws hh j2 b n2 vs.toArray) q1 q2 q3 ⟨q4,p1⟩ ⟨q5,p2⟩ l1 l2 fun x' y' h' tk px py z1 z2 z3 z4 z5 z6 z7=>M5 ?_) (Q3 _))))
  have ex:x'=u:=by
   have:us.toArray[i]?=some u:=by simpa using hu
   rw [this] at px
   exact (Nl px).symm
  have ey:y'=v:=by
   have:vs.toArray[i]?=some v:=by simpa using hv
   rw [this] at py
   exact (Nl py).symm
  subst ex ey
  refine ⟨_,rfl,wpAny_letOwnedTupleGo_zip z1 fun h2 w1 hs2=>?_⟩
  have nz:∀ c,c∈[TI,TO,j1,j2]->c≠z:=fun c hc' e=>by
   subst e
   exact (PV.mp nd).1 hc'
  have zlt:z < s.heap.objs.size:=Ni q1
  have hT2:h2.get? s.heap.objs.size=some { cls:=.type "tuple",data:=.seq #[x',y'] }:=hs2.extBut _ _ (Le (M9 _) zlt) z5
  have kept:∀ c ob,c∉[z,TI,TO,j1,j2]->s.heap.get? c=some ob->h2.get? c=some ob:=fun c ob hc' q=>hs2.extBut _ _ (fun e=>hc' (by simp [e])) (z6 c ob hc' q)
  obtain ⟨u1,v1,z2⟩:=z2
  refine ⟨.ref s.heap.objs.size,upd H s.heap.objs.size (.tup [x,y]),?_,rfl,⟨_,x,y,I.fresh,rfl,rfl,fun xs' ys' h1 h2=>by rw [S1.inj I h1 hq1,S2.inj I h2 hq2]; exact ⟨hx,hy⟩⟩,
   ⟨w1,hs2.extBut _ _ (nz TI (by simp)) z7,⟨u1,v1,hs2.extBut _ _ (nz TO (by simp)) z2⟩,S1.itKeep z3.1 fun o q=>hs2.extBut _ _ (nz j1 (by simp)) q,S2.itKeep z4.1 fun o q=>hs2.extBut _ _ (nz j2 (by simp)) q⟩,fun c hc'=>?_⟩
  ·exact I.turns (t':=tk) hf kept (M9 _) ⟨(by show 2<=Nh; decide),[x',y'],.cons ru (.cons rv .nil),_,hT2,rfl,⟨0,rfl⟩,rfl⟩
  ·have lt:c < s.heap.objs.size:=by
    have st':IsZip s.heap z TI TO .none/\IsPair s.heap TI (.ref j1) (.ref j2)/\(∃ u v,IsPair s.heap TO u v)/\S1.It s.heap j1 a i/\S2.It s.heap j2 b i:=⟨q1,q2,⟨u0,v0,q3⟩,q4,q5⟩
    simp only [Nc,Ob,or_false] at hc'
    rcases hc' with rfl | rfl | rfl | rfl | rfl
    ·exact zlt
    ·exact Ni q2
    ·exact Ni q3
    ·obtain ⟨o,ho,_⟩:=S1.isIt q4
     exact Ni ho
    ·obtain ⟨o,ho,_⟩:=S2.isIt q5
     exact Ni ho
   rw [aQ (pY lt (M9 _))]
   exact (hf c hc').1
 done:=by
  intro X hP hw hK hc i pins s σ H E I hf st hg
  subst hP hw hK
  obtain ⟨xs,ys,hq1,hq2,hi⟩:=hg
  obtain ⟨us,r1,p1,_⟩:=S1.get I hq1
  obtain ⟨vs,r2,p2,_⟩:=S2.get I hq2
  obtain ⟨q1,q2,⟨u0,v0,q3⟩,q4,q5⟩:=st
  have Z:=zap nd (fun c hc'=>S1.off I hq1 (hf c hc')) (fun c hc'=>S2.off I hq2 (hf c hc'))
  have hh:X.A.in1.handled=none:=I.ok.hd hc
  have n1:a≠j1:=OJ (S1.off I hq1 (hf j1 (by simp)))
  have n2:b≠j2:=OJ (S2.off I hq2 (hf j2 (by simp)))
  have hT:s.TypeIs (.ref z) "zip":=⟨_,q1,rfl⟩
  have hl:i=min us.toArray.size vs.toArray.size:=by
   have:=r1.length
   have:=r2.length
   simp only [Nq]
   omega
  unfold pyNext
  refine M1 (P6 (N4 (name:=O9 "__next__") hT PC (NV PC hT Re
   (Bj (A:=X.A.in1) Z (S1.draws hh j1 a n1 us.toArray) (S2.draws hh j2 b n2 vs.toArray) q1 q2 q3 ⟨q4,p1⟩ ⟨q5,p2⟩ hl fun h' e tk kp he=>?_) (Q3 _))))
  obtain ⟨o,ho,hcl⟩:=he
  refine M1 (Pb (T:="StopIteration") (b:=true) ⟨o,ho,hcl⟩ QX ?_)
  exact M5 ⟨rfl,I.turnsN (t':=tk) hf kp⟩
 self:=fun _ _ _ _ _ st h=>SS st.1 h
section
variable {X:Cx} {elts:List Expr} {k0:Nat} {tpos:Pos}
noncomputable def lO (S1 S2:Src) (K:Fg) (ta:TA):TI:=fun σ H R=>ta σ H fun vs H1=>∃ a b xs ys,vs=[.ref a,.ref b]/\S1.Sq K H1 a xs/\S2.Sq K H1 b ys/\R (Itz S1 S2 K a b) H1
theorem iV (S1 S2:Src) {a b:Expr} {ta:TA} {p pos:Pos} (hg:Gl X "zip") (hm:X.mg "zip"=none) (ha:PA X [a,b] ta) (hs:NA [a,b] X.env=[(false,eval a X.env),(false,eval b X.env)]:=by rfl) (hs2:NA [b] X.env=[(false,eval b X.env)]:=by rfl):
  PI X (.Tuple elts k0 tpos) (.Call (.Name "zip" p) [a,b] [] pos) (lO S1 S2 X.K ta):=by
 intro pins s σ H R I h
 refine Call_ (iS I hg hm boot_zip (Oy (thn (ha pos pins s σ H _ I h) fun us s1 ⟨vs,H1,I1,r1,q1⟩=>?_) (by rw [hs,hs2]) (by rw [hs2]; rfl)))
 obtain ⟨l1,l2,xs,ys,e,hq1,hq2,q⟩:=q1
 subst e
 obtain ⟨u,v,rfl,ru,rv⟩:=r1.two
 cases ru
 cases rv
 obtain ⟨us1,_,p1,_⟩:=S1.get I1 hq1
 obtain ⟨us2,_,p2,_⟩:=S2.get I1 hq2
 refine UH F.called_zip (by decide) (Vw _ _) (VV _ _) (fun obj=>T6 obj _ _) VW (Dm S1 S2 l1 l2 us1.toArray us2.toArray) ⟨p1,p2,?_⟩
 generalize hn:s1.heap.objs.size=n
 have z1:(zh1 S1 s1.heap l1).objs.size=n + 1:=by rw [N2,hn]
 have z2:(zh2 S1 S2 s1.heap l1 l2).objs.size=n + 2:=by rw [N2,z1]
 have z3:(zh3 S1 S2 s1.heap l1 l2).objs.size=n + 3:=by rw [N2,z2]
 have z4:(zh4 S1 S2 s1.heap l1 l2).objs.size=n + 4:=by rw [N2,z3]
 have g5:(zh5 S1 S2 s1.heap l1 l2).get? (zh4 S1 S2 s1.heap l1 l2).objs.size=some _:=Nj _ rfl
 have g4:(zh5 S1 S2 s1.heap l1 l2).get? (zh3 S1 S2 s1.heap l1 l2).objs.size=some _:=M4 _ (Nj _ rfl)
 have g3:(zh5 S1 S2 s1.heap l1 l2).get? (zh2 S1 S2 s1.heap l1 l2).objs.size=some _:=M4 _ (M4 _ (Nj _ rfl))
 have g2:(zh5 S1 S2 s1.heap l1 l2).get? (zh1 S1 s1.heap l1).objs.size=some _:=M4 _ (M4 _ (M4 _ (Nj _ rfl)))
 have g1:(zh5 S1 S2 s1.heap l1 l2).get? s1.heap.objs.size=some _:=M4 _ (M4 _ (M4 _ (M4 _ (Nj _ rfl))))
 have kp:∀ c o,s1.heap.get? c=some o->(zh5 S1 S2 s1.heap l1 l2).get? c=some o:=fun c o e=>
  M4 _ (M4 _ (M4 _ (M4 _ (M4 _ e))))
 show _/\_
 rw [z2,z3,z4] at g5
 rw [z1,z2,hn] at g3
 rw [z3] at g4
 rw [z1] at g2
 rw [hn] at g1
 rw [z4]
 refine ⟨⟨_,g5,rfl⟩,SS g5 ?_⟩
 have I2:Inv X pins σ H1 { s1 with heap:=zh5 S1 S2 s1.heap l1 l2 }:=I1.kept (t':=s1.toks) kp
 refine ⟨n + 4,[n + 4,n + 2,n + 3,n,n + 1],_,_,H1,rfl,I2,HL S1 S2 l1 l2 _ _ _ _ _ (by simp),⟨g5,g3,⟨_,_,g4⟩,S1.mkI g1 rfl rfl,S2.mkI g2 rfl rfl⟩,fun c hc=>?_,q⟩
 have hc':s1.heap.objs.size<=c:=by
  rw [hn]
  simp only [Nc,Ob,or_false] at hc
  rcases hc with rfl | rfl | rfl | rfl | rfl
  ·exact OV _ _
  ·exact OV _ _
  ·exact OV _ _
  ·exact M9 _
  ·exact OV _ _
 exact I1.fpOk hc' (I1.hok.fresh hc')
end
end
section
open PySem.Spec
section
variable {X:Cx}
noncomputable def Jy (K:Fg):R2:=fun x y H Q=>∃ a b xs ys,x=.ref a/\y=.ref b/\SqT K H a xs/\SqT K H b ys/\xs.length + ys.length<=Nh/\
 (xs=[]->Q (.ref b) H)/\(xs≠[]->ys=[]->Q (.ref a) H)/\(xs≠[]->ys≠[]->∀ p,H p=none->Q (.ref p) (upd H p (.tup (xs++ys))))
theorem J5:OpR X (P3 .Add) (Jy X.K):=by
 intro pins s σ H x y v u Q I rx ry h
 obtain ⟨a,b,xs,ys,rfl,rfl,ha,hb,hz,q0,q1,q2⟩:=h
 by_cases hx:xs=[]
 ·cases rx
  cases ry
  obtain ⟨its,r1,p1,_⟩:=I.tuple ha
  obtain ⟨its2,r2,p2,_⟩:=I.tuple hb
  obtain ⟨⟨cls,dd,data,sl⟩,ho,hc,n,hd⟩:=id p1
  obtain ⟨⟨cls2,dd2,data2,sl2⟩,ho2,hc2,n2,hd2⟩:=id p2
  simp only at hc hd hc2 hd2
  subst hc hd hc2 hd2
  have e:its=[]:=r1.nil_iff.mpr hx
  exact UE ⟨_,ho,rfl⟩ ⟨_,ho2,rfl⟩ SL Ug Q6 QZ (QR _ _)
   (tuple_addW0 a b its.toArray its2.toArray n n2 dd dd2 sl sl2 (by simp [e])) ⟨ho,ho2,⟨.ref b,H,I,rfl,q0 hx⟩⟩
 ·exact J0 pins s σ H _ _ v u Q I rx ry ⟨a,b,xs,ys,rfl,rfl,ha,hb,hx,hz,q1 hx,q2 hx⟩
theorem zo {x:V}:∀ {xs:List V} {us:List Value},aL xs us->xs.all im=true->us.countP (eqU x)=xs.countP fun y=>eqV y x
 | _,_,.nil,_=>rfl
 | y :: xs,u :: us,.cons r t,f=>by
  rw [QG,OU] at f
  rw [Vx,Vx,FX r f.1,zo t f.2]
noncomputable def tBT (r:V->List V->Hp->VK->Prop) (to:TE) (t:TA):TE:=fun σ H Q=>to σ H fun x H1=>(∃ a xs,x=.ref a/\H1 a=some (.tup xs))/\t σ H1 fun xs H2=>r x xs H2 Q
theorem Mh {o e:Expr} {es:List Expr} {to:TE} {t:TA} {name:Str} {apos cpos:Pos} {id:String} {r:V->List V->Hp->VK->Prop} (pa:VP "tuple") (slot:Slot "tuple" name id) (hty:typeOf (.builtin id)=pure (.type "method_descriptor")) (hm:MtR X id r) (ho:PE X o to) (ha:PA X (e :: es) t)
  (hbase:Qj o name X.env (eval o X.env)=eval o X.env:=by rfl)
  (hfew:((backTo cpos (NA (e :: es) X.env)).all (fun x=>!x.1) && (Rc cpos (Qr [] X.env)).all (fun x=>x.1.isSome)
   && decide ((e :: es).length + ([]:List Keyword).length + (if ([]:List Keyword).isEmpty then 0 else 1) < 30))=true:=by rfl)
  (hline:(apos.endLine == cpos.line)=true:=by rfl) (hs:NA (e :: es) X.env=(false,eval e X.env) :: NA es X.env:=by rfl) (hplain:(backTo cpos (NA es X.env)).any (·.1)=false:=by rfl):
  PE X (.Call (.Attribute o name apos) (e :: es) [] cpos) (tBT r to t):=by
 intro pins s σ H Q I h
 refine Q7 hbase hfew hline rfl (thn (ho pins s σ H _ I h) fun v s1 ⟨x,H1,I1,r1,ty,q1⟩=>?_)
 obtain ⟨a,xs,rfl,hx⟩:=ty
 cases r1
 obtain ⟨_,its,_,o',ho',hc',_,hd'⟩:=I1.hok a _ hx
 refine ⟨"tuple",id,pa,slot,hty,⟨o',ho',hc'⟩,fun b e=>?_,?_⟩
 ·cases e
  exact ⟨o',ho',hd'⟩
 have hA:=ha cpos pins s1 σ H1 _ I1 q1
 rw [hs] at hA ⊢
 refine Qs (by show (false || (backTo cpos (NA es X.env)).any (·.1))=false; rw [hplain] <;> rfl) (Rq ?_)
 exact thn hA fun us s2 ⟨vs,H2,I2,r2,q2⟩=>hm pins s2 σ H2 (.ref a) vs (.ref a) us Q I2 rfl r2 q2
noncomputable def Dn:V->List V->Hp->VK->Prop:=fun x vs H Q=>∃ l xs y,x=.ref l/\vs=[y]/\H l=some (.tup xs)/\im y=true/\xs.all im=true/\Q (.int (xs.countP fun z=>eqV z y:Nat)) H
theorem Gc:MtR X "tuple.count" Dn:=by
 intro pins s σ H x vs v us Q I rx rv h
 obtain ⟨l,xs,y,rfl,rfl,hH,fy,fx,q⟩:=h
 cases rx
 obtain ⟨u,rfl,ru⟩:=rv.one
 obtain ⟨_,its,r,⟨cls,dd,data,sl⟩,ho,hc,⟨n,hd⟩,hdd⟩:=I.hok l _ hH
 simp only at hc hd hdd
 subst hc hd hdd
 refine QW SU ⟨_,ho,rfl⟩ PySem.F.entry_tuple_count (PySem.F.args_tuple_count_2 _ _) (SeqAt.tuple_countAt l its.toArray n none sl u (eqU y)) ⟨ho,fun z hz=>ve ru fy r fx z (by simpa using hz),?_⟩
 refine ⟨.int (xs.countP fun z=>eqV z y:Nat),H,I.tok _,⟨s.toks,?_⟩,q⟩
 show Qa ((its.toArray.toList.countP (eqU y):Nat):Int) s.toks=_
 rw [show its.toArray.toList=its from rfl,zo r fx]
theorem rP (hc:X.calm=true):cU X (.builtin "max") (fun xs H Q=>∃ (p:Addr) (ns:List Int),xs=[.ref p]/\SqL X.K H p (ns.map V.int)/\ns≠[]/\∀ M,M∈ns->(∀ a∈ns,a<=M)->Q (.int M) H):=by
 intro pins s σ H xs us Q I r h
 obtain ⟨p,ns,rfl,hq,hne,q⟩:=h
 obtain ⟨u,rfl,rx⟩:=r.one
 cases rx
 obtain ⟨its,rv,pl,hz⟩:=I.list hq
 have hi:=pX rv
 obtain ⟨zs,ez⟩:=(hi.allInts).items
 have hl:s.heap.IsList p (intItems zs):=by rw [<-ez]; exact pl.isList
 have hnum:zs.toList.map (·.1)=ns:=by
  rw [<-nums_intItems,<-ez]
  exact hi.numsOf
 have hsz:zs.size=ns.length:=by rw [<-hnum]; simp
 have hpos:0 < zs.size:=by
  rw [hsz]
  exact RD.mpr hne
 refine max_intList (I.ok.hd hc) hl hpos fun v h' tk hv hk=>?_
 obtain ⟨t,rfl⟩:=intItems_at hv
 obtain ⟨h1,h2⟩:=argBest_gt (numAt zs) (zs.size - 1)
 refine ⟨.int _,H,I.kept hk,⟨t,rfl⟩,q _ ?_ fun a ha=>?_⟩
 ·rw [numAt_eq,hnum]
  exact getD_mem (by omega)
 ·rw [<-hnum] at ha
  obtain ⟨j,hj,rfl⟩:=mem_getD ha
  rw [M6,NS] at hj
  rw [<-numAt_eq]
  exact h2 j (by omega)
noncomputable def Bk:V->List V->Hp->VK->Prop:=fun x vs H Q=>∃ (l:Addr) (ns:List Int) (m:Int) (j:Nat),x=.ref l/\vs=[.int m]/\H l=some (.lst (ns.map V.int))/\ns[j]?=some m/\(∀ i,i < j->ns[i]?≠some m)/\j<=1000/\Q (.int j) H
theorem HM:MtR X "list.index" Bk:=by
 intro pins s σ H x vs v us Q I rx rv h
 obtain ⟨l,ns,m,j,rfl,rfl,hH,hj,hno,h1000,q⟩:=h
 cases rx
 obtain ⟨u,rfl,t,rfl⟩:=rv.one
 obtain ⟨z,its,n,r,hl,e⟩:=I.lstM hH
 have at_:∀ (i:Nat) (hi:i < its.toArray.size),∃ k t',ns[i]?=some k/\its.toArray[i]=.int k t':=fun i hi=>by
  have hi':i < ns.length:=by
   rw [M6] at hl
   have:i < its.length:=by simpa using hi
   omega
  obtain ⟨w',hw,rw'⟩:=r.get (i:=i) (x:=.int ns[i]) (by rw [Nm,M7 hi'] <;> rfl)
  obtain ⟨t',e'⟩:=(show ∃ t',w'=Qa ns[i] t' from rw')
  have:=(Na.mp hw).2
  exact ⟨ns[i],t',M7 hi',by rw [<-e']; simpa using this⟩
 have hjs:j < its.toArray.size:=by
  have:=(Na.mp hj).1
  rw [M6] at hl
  simp only [Nq]
  omega
 refine QW S3 ⟨_,e,rfl⟩ PySem.F.entry_list_index (PySem.F.args_list_index_2 _ _) (SeqAt.list_indexAt l its.toArray n none #[] (.int m t) (eqU (.int m)) j hjs (by omega) ?_ ?_) ⟨e,fun y hy=>?_,?_⟩
 ·obtain ⟨k,t',e1,e2⟩:=at_ j hjs
  rw [e2]
  rw [hj] at e1
  cases e1
  exact beq_self_eq_true m
 ·intro i hi hlt
  obtain ⟨k,t',e1,e2⟩:=at_ i hi
  rw [e2]
  show (k == m)=false
  exact beq_eq_false_iff_ne.mpr fun z=>hno i hlt (by rw [e1,z])
 ·exact ve (x:=.int m) ⟨t,rfl⟩ rfl r (by rw [Rr]; simp [im]) y (by simpa using hy)
 ·exact ⟨.int j,H,I.tok _,⟨_,rfl⟩,q⟩
end
end
end L2
section
namespace L2
open PySem
section
variable {σ:St} {H:Hp} {Q:VK} {D:kh} {K:Fg}
theorem bA {t u:TS} (h:t { nx:=u D,rt:=D.rt,bk:=D.bk,ct:=D.ct } σ H):ap t u D σ H:=h
theorem ko {t u:TS} (h:∀ NX:St->Hp->Prop,(∀ σ H,u D σ H->NX σ H)->t { nx:=NX,rt:=D.rt,bk:=D.bk,ct:=D.ct } σ H):ap t u D σ H:=h _ fun _ _ h=>h
theorem Gd (h:D.nx σ H):aY D σ H:=h
theorem nQ {te:TE} {g:TG} (h:te σ H fun x H1=>g x σ H1 D.nx):aH te g D σ H:=h
theorem Mi {te:TE} (h:te σ H D.rt):aJ te D σ H:=h
theorem Lh (h:D.rt .non H):Md D σ H:=h
theorem Li {te:TE} (h:te σ H fun _ H1=>D.nx σ H1):dI te D σ H:=h
theorem Jz {c:TT} {t u:TS} (h:c σ H fun b H1=>if b=true then t D σ H1 else u D σ H1):bp c t u D σ H:=h
theorem J6 (h:D.bk σ H):K5 D σ H:=h
theorem Lj (h:D.ct σ H):Mc D σ H:=h
theorem jE {i:Nat} {v:V} {R:St->Hp->Prop} (h:R (σ.set i (some v)) H):aj i v σ H R:=h
theorem Lk {to ti:TE} {t:A4} {v:V} {R:St->Hp->Prop} (h:to σ H fun o H1=>ti σ H1 fun i H2=>t o i v H2 fun H3=>R σ H3):kj to ti t v σ H R:=h
theorem mS {p:Addr} {xs:List V} {k:Int} {v:V} {R:Hp->Prop} {j:Nat} (e:H p=some (.lst xs)) (hj:ixN xs.length k=some j) (h:R (upd H p (.lst (xs.set j v)))):kS (.ref p) (.int k) v H R:=⟨p,xs,k,j,rfl,rfl,e,hj,h⟩
theorem p9 {i:Nat} {v:V} (e:σ[i]?=some (some v)) (h:Q v H):aa i σ H Q:=⟨v,e,h⟩
theorem r_c {v:V} (h:Q v H):tC v σ H Q:=h
theorem vf {r:R2} {ta tb:TE} (h:ta σ H fun x H1=>tb σ H1 fun y H2=>r x y H2 Q):tOp r ta tb σ H Q:=h
theorem MP {r:V->Hp->VK->Prop} {ta:TE} (h:ta σ H fun x H1=>r x H1 Q):tUn r ta σ H Q:=h
theorem MQ {g:Int->Int->V} {i j:Int} (h:Q (g i j) H):rI0 g (.int i) (.int j) H Q:=⟨i,j,rfl,rfl,h⟩
theorem r_I {C:Int->Int->Prop} {g:Int->Int->V} {i j:Int} (c:C i j) (h:Q (g i j) H):rI C g (.int i) (.int j) H Q:=⟨i,j,rfl,rfl,c,h⟩
theorem r_U {g:Int->V} {i:Int} (h:Q (g i) H):rU g (.int i) H Q:=⟨i,rfl,h⟩
theorem Mj {i j:Int} (h:Q (.bl (decide (i=j))) H):rEq (.int i) (.int j) H Q:=⟨rfl,by rw [show decide (V.int i=V.int j)=decide (i=j) from decide_eq_decide.mpr ⟨fun e=>by injection e,fun e=>by rw [e]⟩]; exact h⟩
theorem Ml {i j:Int} (h:Q (.bl (!decide (i=j))) H):rNe (.int i) (.int j) H Q:=⟨rfl,by rw [show decide (V.int i=V.int j)=decide (i=j) from decide_eq_decide.mpr ⟨fun e=>by injection e,fun e=>by rw [e]⟩]; exact h⟩
theorem Mm {i j:Bool} (h:Q (.bl (i == j)) H):rEq (.bl i) (.bl j) H Q:=⟨rfl,by rw [show decide (V.bl i=V.bl j)=(i == j) by cases i <;> cases j <;> rfl]; exact h⟩
theorem Mn {i j:Bool} (h:Q (.bl (!(i == j))) H):rNe (.bl i) (.bl j) H Q:=⟨rfl,by rw [show decide (V.bl i=V.bl j)=(i == j) by cases i <;> cases j <;> rfl]; exact h⟩
theorem Ll {t:TE} {R:Bool->Hp->Prop} (h:t σ H fun x H'=>∃ k,x=.bl k/\R k H'):be t σ H R:=h
theorem MR {t:TE} {R:Bool->Hp->Prop} (h:t σ H fun x H'=>∃ k,x=.bl k/\R k H'):tB t σ H R:=h
theorem Lm {b:Bool} {R:Bool->Prop} (h:R b):∃ k,V.bl b=.bl k/\R k:=⟨b,rfl,h⟩
theorem Mo {t u:TT} {R:Bool->Hp->Prop} (h:t σ H fun c H1=>if c=true then u σ H1 R else R false H1):A1 t u σ H R:=h
theorem MS {t u:TT} {R:Bool->Hp->Prop} (h:t σ H fun c H1=>if c=true then R true H1 else u σ H1 R):tOr t u σ H R:=h
theorem Mp {t:TT} {R:Bool->Hp->Prop} (h:t σ H fun c H1=>R (!c) H1):dt t σ H R:=h
theorem Ln {ta tb:TE} (h:ta σ H fun x H1=>∃ c,x=.bl c/\if c=true then tb σ H1 Q else Q (.bl false) H1):ik ta tb σ H Q:=h
theorem Mq {ta tb:TE} (h:ta σ H fun x H1=>∃ c,x=.bl c/\if c=true then Q (.bl true) H1 else tb σ H1 Q):yh ta tb σ H Q:=h
theorem Lo {ta:TE} (h:ta σ H fun x H1=>∃ c,x=.bl c/\Q (.bl (!c)) H1):vW ta σ H Q:=h
theorem MT {t:TT} {ta tb:TE} (h:t σ H fun c H1=>if c=true then ta σ H1 Q else tb σ H1 Q):tIf t ta tb σ H Q:=h
theorem J7 {r r':R2} {ta tb tc:TE} (h:ta σ H fun x H1=>tb σ H1 fun y H2=>r x y H2 fun z H3=>∃ k,z=.bl k/\(if k=true then tc σ H3 fun w' H4=>r' y w' H4 Q else Q (.bl false) H3)):A6 r r' ta tb tc σ H Q:=h
theorem JA {R:List V->Hp->Prop} (h:R [] H):ag σ H R:=h
theorem Ge {ta:TE} {tr:TA} {R:List V->Hp->Prop} (h:ta σ H fun x H1=>tr σ H1 fun xs H2=>R (x :: xs) H2):ac ta tr σ H R:=h
theorem Lp {sp:Sp} {E:XK} {t:TA} (h:t σ H fun vs H1=>sp vs H1 Q E):av sp [] E t σ H Q:=by
 show t σ H fun vs H1=>sp (vs++[]) H1 Q E
 simpa only [O6] using h
theorem MU {r:List V->Hp->VK->Prop} {t:TA} (h:t σ H fun vs H1=>r vs H1 Q):tCB r t σ H Q:=h
theorem MV {T:String} {r:V->List V->Hp->VK->Prop} {to:TE} {t:TA} (h:to σ H fun x H1=>tyV K T x H1/\t σ H1 fun xs H2=>r x xs H2 Q):tBM K T r to t σ H Q:=h
theorem Mr {T:String} {r:V->List V->Hp->VK->Prop} {to:TE} (h:to σ H fun x H1=>tyV K T x H1/\r x [] H1 Q):Eh K T r to σ H Q:=h
theorem MW {r:V->List V->Hp->VK->Prop} {to:TE} {t:TA} (h:to σ H fun x H1=>(∃ a xs,x=.ref a/\H1 a=some (.tup xs))/\t σ H1 fun xs H2=>r x xs H2 Q):tBT r to t σ H Q:=h
theorem MX {r:V->Option Int->Option Int->Hp->VK->Prop} {te:TE} {tl th:TO} (h:te σ H fun x H1=>tl σ H1 fun l H2=>th σ H2 fun u H3=>r x l u H3 Q):tSl r te tl th σ H Q:=h
theorem HQ {R:Option Int->Hp->Prop} (h:R none H):oV σ H R:=h
theorem Lq {t:TE} {R:Option Int->Hp->Prop} (h:t σ H fun x H1=>∃ i,x=.int i/\R (some i) H1):v2 t σ H R:=h
theorem Ms {i:Int} {R:Int->Prop} (h:R i):∃ j,V.int i=.int j/\R j:=⟨i,rfl,h⟩
theorem Mt {wi:TI} {g:TG} {tb:TS} (h:wi σ H fun J H1=>∃ W:Nat->Nat->St->Hp->Prop,(∃ m,W 0 m σ H1)/\∀ i m σ H,W i m σ H->
  (J.stop i H/\D.nx σ H)\/(J.go i H/\∃ N:St->Hp->Prop,(∀ σ' H',N σ' H'->∃ m',m' < m/\W (i + 1) m' σ' H')/\∀ x H',J.yld i H x H'->g x σ H' fun σ2 H2=>tb { D with nx:=N,ct:=N,bk:=D.nx } σ2 H2)):cV wi g tb D σ H:=h
theorem Lr {wi:TI} {g:CF TG} {tt:CF TT} {te:CF TE} {ix:List (Option Nat)} (h:wi σ H fun J H1=>∀ p,H1 p=none->
  ∃ W:Nat->Nat->List V->Hp->Prop,(∃ m,W 0 m [] (upd H1 p (.lst [])))/\∀ C s' H' fp,bO J (g C s' H' fp) (tt C s' H' fp) (te C s' H' fp) (sub ix σ) p Q W):bu wi g tt te ix σ H Q:=h
section
variable {R:It->Hp->Prop}
theorem J8 {tl:TE} (h:tl σ H fun x H1=>∃ a,x=.ref a/\(∃ xs,SqL K H1 a xs)/\R (Itl K a) H1):ce K tl σ H R:=h
theorem Ls {tl:TE} (h:tl σ H fun x H1=>∃ a,x=.ref a/\(∃ xs,SqT K H1 a xs)/\R (Itt K a) H1):rD K tl σ H R:=h
theorem J9 {ta:TA} (h:ta σ H fun vs H1=>∃ j:Int,vs=[.int j]/\-(2 ^ 62)<=j/\j < 2 ^ 62/\R (Itr 0 j.toNat) H1):gh ta σ H R:=h
theorem Ka {ta:TA} (h:ta σ H fun vs H1=>∃ i j:Int,vs=[.int i,.int j]/\(-(2 ^ 62)<=i/\i < 2 ^ 62/\-(2 ^ 62)<=j/\j < 2 ^ 62)/\R (Itr i (j - i).toNat) H1):Me ta σ H R:=h
theorem Kb {S:Src} {ta:TA} (h:ta σ H fun vs H1=>∃ a xs,vs=[.ref a]/\S.Sq K H1 a xs/\R (Ite S K a) H1):i3 S K ta σ H R:=h
theorem Lu {S1 S2:Src} {ta:TA} (h:ta σ H fun vs H1=>∃ a b xs ys,vs=[.ref a,.ref b]/\S1.Sq K H1 a xs/\S2.Sq K H1 b ys/\R (Itz S1 S2 K a b) H1):lO S1 S2 K ta σ H R:=h
end
noncomputable def Off (l:Addr) (H H':Hp):Prop:=∀ b,b≠l->H' b=H b
theorem iq {l:Addr} {o:HO}:Off l H (upd H l o):=fun b hb=>aQ hb
theorem am.off {H0 H':Hp} {l:Addr} (s:am H0 H) (h:H0 l=none) (o:Off l H H'):am H0 H':=fun b u q=>by rw [o b (bn q h)]; exact s b u q
noncomputable def fb (H H':Hp):Prop:=∀ b xs,H b=some (.tup xs)->H' b=some (.tup xs)
theorem fb.refl (H:Hp):fb H H:=fun _ _ h=>h
theorem am.keep {H':Hp} (s:am H H'):fb H H':=fun b _ h=>s b _ h
theorem fb.trans {H1 H2:Hp} (a:fb H H1) (b:fb H1 H2):fb H H2:=fun c o h=>b c o (a c o h)
theorem Off.keep {H':Hp} {l:Addr} {xs:List V} (o:Off l H H') (e:H l=some (.lst xs)):fb H H':=fun b ys q=>by
 rw [o b (Az q e (by intro z; cases z))]
 exact q
theorem Lv {t:TA} (h:t σ H fun xs H1=>xs.length<=Nh/\∀ p,H1 p=none->Q (.ref p) (upd H1 p (.tup xs))):Ed t σ H Q:=h
theorem Lw {t:TA} (h:t σ H fun xs H1=>xs.length<=Nh/\∀ p,H1 p=none->Q (.ref p) (upd H1 p (.lst xs))):A8 t σ H Q:=h
theorem kr {l:Addr} {xs:List V} {y:V} (e:H l=some (.lst xs)) (hz:xs.length < Nh) (h:∀ H',Off l H H'->H' l=some (.lst (xs++[y]))->Q .non H'):ip (.ref l) [y] H Q:=⟨l,xs,y,rfl,rfl,e,hz,h _ iq ay⟩
theorem qa {l:Addr} {xs:List V} (e:H l=some (.lst xs)):tyV K "list" (.ref l) H:=.inl ⟨rfl,xs,SqL.of e⟩
theorem bI {l:Addr} {xs:List V} {i:Int} {v:V} (e:SqL K H l xs) (hv:atI xs i=some v) (h:Q v H):cb K (.ref l) (.int i) H Q:=⟨l,xs,i,v,rfl,rfl,e,hv,h⟩
theorem aD {l:Addr} {xs:List V} {i:Int} {v:V} (e:SqT K H l xs) (hv:atI xs i=some v) (h:Q v H):bZ K (.ref l) (.int i) H Q:=⟨l,xs,i,v,rfl,rfl,e,hv,h⟩
end
theorem dC {p A B:Prop} [Decidable p] (h1:p->A) (h2:¬ p->B):if decide p=true then A else B:=by
 by_cases h:p
 ·rw [if_pos (decide_eq_true h)]; exact h1 h
 ·rw [if_neg (by rw [decide_eq_false h]; exact Nk)]; exact h2 h
theorem vg {p A B:Prop} [Decidable p] (h1:¬ p->A) (h2:p->B):if (!decide p)=true then A else B:=by
 by_cases h:p
 ·rw [if_neg (by rw [decide_eq_true h]; exact Nk)]; exact h2 h
 ·rw [if_pos (by rw [decide_eq_false h]; rfl)]; exact h1 h
theorem cE {p A B:Prop} [Decidable p] (h:p) (h1:A):if decide p=true then A else B:=dC (fun _=>h1) (fun n=>absurd h n)
theorem aB {p A B:Prop} [Decidable p] (h:¬ p) (h1:B):if decide p=true then A else B:=dC (fun n=>absurd n h) (fun _=>h1)
theorem Ej {A B:Prop} (h:B):if (!true)=true then A else B:=by exact lM h
theorem Mu {A B:Prop} (h:A):if (!false)=true then A else B:=by exact lN h
theorem Bl {σ:St} {H:Hp} {R:Bool->Hp->Prop} (h:R true H):aV σ H R:=h
theorem AD {B:(St->Hp->Prop)->Prop} {R:St->Hp->Prop} (h:B R):∃ N:St->Hp->Prop,(∀ σ' H',N σ' H'->R σ' H')/\B N:=⟨R,fun _ _ h=>h,h⟩
theorem AE {c:TT} {tb:TS} {D:kh} {σ:St} {H:Hp} (W:Nat->St->Hp->Prop) (m:Nat) (h0:W m σ H) (h:∀ m σ H,W m σ H->c σ H fun b H1=>if b=true then ∃ N:St->Hp->Prop,(∀ σ' H',N σ' H'->∃ m',m' < m/\W m' σ' H')/\tb { D with nx:=N,ct:=N,bk:=D.nx } σ H1 else D.nx σ H1):
  mQ c tb D σ H:=⟨W,⟨m,h0⟩,h⟩
noncomputable def fc (K:Fg):List V->Hp->VK->Prop:=fun xs H Q=>∃ p ys,xs=[.ref p]/\(SqL K H p ys\/SqT K H p ys)/\Q (.int ys.length) H
noncomputable def vh (K:Fg):List V->Hp->VK->Prop:=fun xs H Q=>∃ (p:Addr) (ns:List Int),xs=[.ref p]/\SqL K H p (ns.map V.int)/\Q (.int ns.sum) H
noncomputable def Ek (K:Fg):List V->Hp->VK->Prop:=fun xs H Q=>∃ (p:Addr) (bs:List Bool),xs=[.ref p]/\SqL K H p (bs.map V.bl)/\Q (.bl (bs.all id)) H
noncomputable def yn (K:Fg):List V->Hp->VK->Prop:=fun xs H Q=>∃ (p:Addr) (ns:List Int),xs=[.ref p]/\SqL K H p (ns.map V.int)/\ns≠[]/\∀ M,M∈ns->(∀ a∈ns,a<=M)->Q (.int M) H
noncomputable def El:List V->Hp->VK->Prop:=fun xs H Q=>∃ i j,xs=[.int i,.int j]/\Q (.int (if j < i then j else i)) H
noncomputable def JB:List V->Hp->VK->Prop:=fun xs H Q=>∃ i j,xs=[.int i,.int j]/\Q (.int (if j > i then j else i)) H
noncomputable def Em:List V->Hp->VK->Prop:=fun xs H Q=>(∃ i,xs=[.int i]/\Q (.int i) H)\/∃ k,xs=[.bl k]/\Q (.int (if k then 1 else 0)) H
noncomputable def Lx (K:Fg):List V->Hp->VK->Prop:=fun xs H Q=>∃ p ys,xs=[.ref p]/\((SqL K H p ys/\∀ l,H l=none->Q (.ref l) (upd H l (.tup ys)))\/(SqT K H p ys/\Q (.ref p) H))
section
variable {K:Fg} {H:Hp} {Q:VK}
theorem tL {l:Addr} {ys:List V} (e:SqL K H l ys) (h:Q (.int ys.length) H):fc K [.ref l] H Q:=⟨l,ys,rfl,.inl e,h⟩
theorem Do {l:Addr} {ys:List V} (e:SqT K H l ys) (h:Q (.int ys.length) H):fc K [.ref l] H Q:=⟨l,ys,rfl,.inr e,h⟩
theorem En {l:Addr} {ns:List Int} (e:SqL K H l (ns.map V.int)) (h:Q (.int ns.sum) H):vh K [.ref l] H Q:=⟨l,ns,rfl,e,h⟩
theorem Ly {i j:Int} (h:Q (.int (if j < i then j else i)) H):El [.int i,.int j] H Q:=⟨i,j,rfl,h⟩
theorem Lz {i j:Int} (h:Q (.int (if j > i then j else i)) H):JB [.int i,.int j] H Q:=⟨i,j,rfl,h⟩
theorem LB {i:Int} (h:Q (.int i) H):Em [.int i] H Q:=.inl ⟨i,rfl,h⟩
theorem LC {k:Bool} (h:Q (.int (if k then 1 else 0)) H):Em [.bl k] H Q:=.inr ⟨k,rfl,h⟩
end
noncomputable def New (H:Hp) (o:HO) (Q:Addr->Hp->Prop):Prop:=∀ p H',H p=none->am H H'->H' p=some o->Q p H'
theorem New.upd {H:Hp} {o:HO} {Q:Addr->Hp->Prop} (h:New H o Q):∀ p,H p=none->Q p (upd H p o):=fun p hp=>h p _ hp (bg hp _) ay
noncomputable def dN (t:TA):TE:=fun σ H Q=>t σ H fun xs H1=>xs.length<=Nh/\New H1 (.tup xs) fun p H2=>Q (.ref p) H2
noncomputable def d5 (t:TA):TE:=fun σ H Q=>t σ H fun xs H1=>xs.length<=Nh/\New H1 (.lst xs) fun p H2=>Q (.ref p) H2
noncomputable def vi:R2:=fun x y H Q=>∃ l b xs zs,x=.ref l/\y=.ref b/\H l=some (.lst xs)/\H b=some (.lst zs)/\xs.length + zs.length<=Nh/\New H (.lst (xs++zs)) fun p H2=>Q (.ref p) H2
noncomputable def HV:R2:=fun x y H Q=>∃ l k xs,x=.ref l/\y=.int k/\H l=some (.lst xs)/\-(2 ^ 63)<=k/\k < 2 ^ 63/\xs.length * k.toNat<=Nh/\New H (.lst (NT k.toNat xs).flatten) fun p H2=>Q (.ref p) H2
noncomputable def mT (K:Fg):List V->Hp->VK->Prop:=fun xs H Q=>∃ p ys,xs=[.ref p]/\(SqL K H p ys\/SqT K H p ys)/\New H (.lst ys) fun l H2=>Q (.ref l) H2
noncomputable def oX (K:Fg):List V->Hp->VK->Prop:=fun xs H Q=>∃ p ys,xs=[.ref p]/\SqL K H p ys/\New H (.tup ys) fun l H2=>Q (.ref l) H2
section
variable {σ:St} {H:Hp} {Q:VK} {K:Fg}
theorem Mv {t:TA} (h:t σ H fun xs H1=>xs.length<=Nh/\New H1 (.tup xs) fun p H2=>Q (.ref p) H2):dN t σ H Q:=h
theorem tM {t:TA} (h:t σ H fun xs H1=>xs.length<=Nh/\New H1 (.lst xs) fun p H2=>Q (.ref p) H2):d5 t σ H Q:=h
theorem wg {l b:Addr} {xs zs:List V} (h1:H l=some (.lst xs)) (h2:H b=some (.lst zs)) (hz:xs.length + zs.length<=Nh) (h:∀ p H',H p=none->am H H'->H' p=some (.lst (xs++zs))->Q (.ref p) H'):vi (.ref l) (.ref b) H Q:=⟨l,b,xs,zs,rfl,rfl,h1,h2,hz,h⟩
theorem rQ {p:Addr} {ys:List V} (e:SqL K H p ys) (h:∀ l H',H l=none->am H H'->H' l=some (.lst ys)->Q (.ref l) H'):mT K [.ref p] H Q:=⟨p,ys,rfl,.inl e,h⟩
theorem yo {p:Addr} {ys:List V} (e:SqL K H p ys) (h:∀ l H',H l=none->am H H'->H' l=some (.tup ys)->Q (.ref l) H'):oX K [.ref p] H Q:=⟨p,ys,rfl,e,h⟩
end
section
variable {g:TG} {tb:TS} {NX:St->Hp->Prop} {RT:VK} {σ:St} {H:Hp} {K:Fg}
theorem kt {j:Int} (n:Nat) (hn:j.toNat=n) (hj:j<=1000000000) (hj0:-1000000000<=j) (Pv:Nat->St->Hp->Prop) (h0:Pv 0 σ H) (hs:∀ i σ H,i < n->Pv i σ H->g (.int i) σ H fun σ2 H2=>tb { nx:=Pv (i + 1),rt:=RT,bk:=NX,ct:=Pv (i + 1) } σ2 H2) (hd:∀ σ H,Pv n σ H->NX σ H):
  ∃ j':Int,[V.int j]=[.int j']/\-(2 ^ 62)<=j'/\j' < 2 ^ 62/\∃ W:Nat->Nat->St->Hp->Prop,(∃ m,W 0 m σ H)/\∀ i m σ H,W i m σ H->
   ((Itr 0 j'.toNat).stop i H/\NX σ H)\/((Itr 0 j'.toNat).go i H/\∃ N:St->Hp->Prop,(∀ σ' H',N σ' H'->∃ m',m' < m/\W (i + 1) m' σ' H')/\∀ x H',(Itr 0 j'.toNat).yld i H x H'->g x σ H' fun σ2 H2=>tb { nx:=N,rt:=RT,bk:=NX,ct:=N } σ2 H2):=by
 refine ⟨j,rfl,by omega,by omega,?_⟩
 subst hn
 exact rF (lo:=0) (D:={ nx:=NX,rt:=RT }) Pv h0 (fun i σ H hi p=>by rw [SV]; exact hs i σ H hi p) hd
theorem oY {a:Addr} (xs:List V) (hx:SqL K H a xs) (Pv:Nat->St->Hp->Prop) (h0:Pv 0 σ H) (hl:∀ i σ H,i<=xs.length->Pv i σ H->SqL K H a xs) (hs:∀ i x σ H,xs[i]?=some x->Pv i σ H->g x σ H fun σ2 H2=>tb { nx:=Pv (i + 1),rt:=RT,bk:=NX,ct:=Pv (i + 1) } σ2 H2) (hd:∀ σ H,Pv xs.length σ H->NX σ H):
  ∃ a',V.ref a=.ref a'/\(∃ xs,SqL K H a' xs)/\∃ W:Nat->Nat->St->Hp->Prop,(∃ m,W 0 m σ H)/\∀ i m σ H,W i m σ H->
   ((Itl K a').stop i H/\NX σ H)\/((Itl K a').go i H/\∃ N:St->Hp->Prop,(∀ σ' H',N σ' H'->∃ m',m' < m/\W (i + 1) m' σ' H')/\∀ x H',(Itl K a').yld i H x H'->g x σ H' fun σ2 H2=>tb { nx:=N,rt:=RT,bk:=NX,ct:=N } σ2 H2):=
 ⟨a,rfl,⟨xs,hx⟩,uZ (D:={ nx:=NX,rt:=RT }) Pv h0 hl hs hd⟩
theorem rR {a:Addr} (xs:List V) (hx:SqT K H a xs) (Pv:Nat->St->Hp->Prop) (h0:Pv 0 σ H) (hl:∀ i σ H,i<=xs.length->Pv i σ H->SqT K H a xs) (hs:∀ i x σ H,xs[i]?=some x->Pv i σ H->g x σ H fun σ2 H2=>tb { nx:=Pv (i + 1),rt:=RT,bk:=NX,ct:=Pv (i + 1) } σ2 H2) (hd:∀ σ H,Pv xs.length σ H->NX σ H):
  ∃ a',V.ref a=.ref a'/\(∃ xs,SqT K H a' xs)/\∃ W:Nat->Nat->St->Hp->Prop,(∃ m,W 0 m σ H)/\∀ i m σ H,W i m σ H->
   ((Itt K a').stop i H/\NX σ H)\/((Itt K a').go i H/\∃ N:St->Hp->Prop,(∀ σ' H',N σ' H'->∃ m',m' < m/\W (i + 1) m' σ' H')/\∀ x H',(Itt K a').yld i H x H'->g x σ H' fun σ2 H2=>tb { nx:=N,rt:=RT,bk:=NX,ct:=N } σ2 H2):=
 ⟨a,rfl,⟨xs,hx⟩,JS (D:={ nx:=NX,rt:=RT }) Pv h0 hl hs hd⟩
theorem mL {S:Src} {a:Addr} (xs:List V) (hx:S.Sq K H a xs) (Pv:Nat->St->Hp->Prop) (h0:Pv 0 σ H) (hl:∀ i σ H,i<=xs.length->Pv i σ H->S.Sq K H a xs)
  (hs:∀ i x T σ H H',xs[i]?=some x->Pv i σ H->H T=none->am H H'->H' T=some (.tup [.int i,x])->g (.ref T) σ H' fun σ2 H2=>tb { nx:=Pv (i + 1),rt:=RT,bk:=NX,ct:=Pv (i + 1) } σ2 H2) (hd:∀ σ H,Pv xs.length σ H->NX σ H):
  ∃ a' xs',[V.ref a]=[.ref a']/\S.Sq K H a' xs'/\∃ W:Nat->Nat->St->Hp->Prop,(∃ m,W 0 m σ H)/\∀ i m σ H,W i m σ H->
   ((Ite S K a').stop i H/\NX σ H)\/((Ite S K a').go i H/\∃ N:St->Hp->Prop,(∀ σ' H',N σ' H'->∃ m',m' < m/\W (i + 1) m' σ' H')/\∀ x H',(Ite S K a').yld i H x H'->g x σ H' fun σ2 H2=>tb { nx:=N,rt:=RT,bk:=NX,ct:=N } σ2 H2):=
 ⟨a,xs,rfl,hx,Bh (D:={ nx:=NX,rt:=RT }) Pv h0 hl (fun i x T σ H e p hT=>hs i x T σ H _ e p hT (bg hT _) ay) hd⟩
end
theorem Bm {α:Type} [DecidableEq α]:∀ {xs:List α} {m:α},m∈xs->∃ j:Nat,xs[j]?=some m/\∀ i:Nat,i < j->xs[i]?≠some m
 | x :: r,m,h=>by
  by_cases e:x=m
  ·exact ⟨0,by rw [e]; rfl,fun i hi=>absurd hi (by omega)⟩
  ·have hm:m∈r:=by
    rcases Nc.mp h with h | h
    ·exact absurd h.symm e
    ·exact h
   obtain ⟨j,h1,h2⟩:=Bm hm
   refine ⟨j + 1,h1,fun i hi=>?_⟩
   cases i with
   | zero=>intro z; exact e (Nl z)
   | succ i=>exact h2 i (by omega)
theorem dO {K:Fg} {i j:Nat} {a:Addr} {x y:V} {σ:St} {H:Hp} {R:St->Hp->Prop} (e:SqT K H a [x,y]) (h:R ((σ.set i (some x)).set j (some y)) H):da K 2 (aW (aj i) (aW (aj j) cZ)) (.ref a) σ H R:=
 ⟨a,[x,y],rfl,e,rfl,x,[y],rfl,y,[],rfl,rfl,h⟩
noncomputable def bf (H:Hp) (p:Addr) (R:Nat->List V->Hp->Prop) (i:Nat) (acc:List V) (H2:Hp):Prop:=am H H2/\H2 p=some (.lst acc)/\acc.length<=i/\R i acc H2
theorem bf.put {H H4:Hp} {p:Addr} {R:Nat->List V->Hp->Prop} {i:Nat} {acc:List V} {y:V} (hp:H p=none) (st:∀ i acc H H',R i acc H->fb H H'->R i acc H') (s:am H H4) (e:H4 p=some (.lst acc)) (l:acc.length<=i) (r:R (i + 1) (acc++[y]) H4):
  H4 p=some (.lst acc)/\bf H p R (i + 1) (acc++[y]) (upd H4 p (.lst (acc++[y]))):=
 ⟨e,s.upd hp _,ay,by rw [Nx]; exact T7 l 1,st _ _ _ _ r (iq.keep e)⟩
theorem bf.skip {H H4:Hp} {p:Addr} {R:Nat->List V->Hp->Prop} {i:Nat} {acc:List V} (s:am H H4) (e:H4 p=some (.lst acc)) (l:acc.length<=i) (r:R (i + 1) acc H4):bf H p R (i + 1) acc H4:=⟨s,e,by omega,r⟩
section
variable {g:CF TG} {tt:CF TT} {te:CF TE} {σ₀:St} {Q:VK} {H:Hp} {K:Fg}
theorem vk {j:Int} (n:Nat) (hn:j.toNat=n) (hj:j<=1000000) (hj0:-1000000<=j) (R:Nat->List V->Hp->Prop) (h0:∀ H',am H H'->R 0 [] H')
  (hs:∀ p,H p=none->∀ C s' H' fp,∀ i acc H2,i < n->bf H p R i acc H2->g C s' H' fp (.int i) σ₀ H2 fun σ2 H3=>tt C s' H' fp σ2 H3 fun b H4=>if b=true then te C s' H' fp σ2 H4 fun y H5=>H5 p=some (.lst acc)/\bf H p R (i + 1) (acc++[y]) (upd H5 p (.lst (acc++[y]))) else bf H p R (i + 1) acc H4)
  (hd:∀ p acc H2,H p=none->am H H2->H2 p=some (.lst acc)->R n acc H2->Q (.ref p) H2):
  ∃ j':Int,[V.int j]=[.int j']/\-(2 ^ 62)<=j'/\j' < 2 ^ 62/\∀ p,H p=none->∃ W:Nat->Nat->List V->Hp->Prop,(∃ m,W 0 m [] (upd H p (.lst [])))/\∀ C s' H' fp,bO (Itr 0 j'.toNat) (g C s' H' fp) (tt C s' H' fp) (te C s' H' fp) σ₀ p Q W:=by
 refine ⟨j,rfl,by omega,by omega,fun p hp=>?_⟩
 subst hn
 exact p6 (lo:=0) (bf H p R) ⟨bg hp _,ay,M9 _,h0 _ (bg hp _)⟩ (fun i acc H2 _ c=>⟨c.2.1,c.2.2.1⟩) (by rw [Nf]; omega) (fun C s' H' fp i acc H2 hi c=>by rw [SV]; exact hs p hp C s' H' fp i acc H2 hi c) fun acc H2 c=>hd p acc H2 hp c.1 c.2.1 c.2.2.2
theorem cF {a:Addr} (xs:List V) (hx:SqL K H a xs) (hz:xs.length<=1000000) (R:Nat->List V->Hp->Prop) (h0:∀ H',am H H'->R 0 [] H')
  (hs:∀ p,H p=none->∀ C s' H' fp,∀ i x acc H2,xs[i]?=some x->bf H p R i acc H2->g C s' H' fp x σ₀ H2 fun σ2 H3=>tt C s' H' fp σ2 H3 fun b H4=>if b=true then te C s' H' fp σ2 H4 fun y H5=>H5 p=some (.lst acc)/\bf H p R (i + 1) (acc++[y]) (upd H5 p (.lst (acc++[y]))) else bf H p R (i + 1) acc H4)
  (hd:∀ p acc H2,H p=none->am H H2->H2 p=some (.lst acc)->R xs.length acc H2->Q (.ref p) H2):
  ∃ a',V.ref a=.ref a'/\(∃ xs,SqL K H a' xs)/\∀ p,H p=none->∃ W:Nat->Nat->List V->Hp->Prop,(∃ m,W 0 m [] (upd H p (.lst [])))/\∀ C s' H' fp,bO (Itl K a') (g C s' H' fp) (tt C s' H' fp) (te C s' H' fp) σ₀ p Q W:=
 ⟨a,rfl,⟨xs,hx⟩,fun p hp=>zl (bf H p R) ⟨bg hp _,ay,M9 _,h0 _ (bg hp _)⟩ (fun i acc H2 _ c=>⟨c.2.1,c.2.2.1⟩) (fun i acc H2 _ c=>c.1.seq hx) (by rw [Nf]; omega) (fun C s' H' fp i x acc H2 hi c=>hs p hp C s' H' fp i x acc H2 hi c) fun acc H2 c=>hd p acc H2 hp c.1 c.2.1 c.2.2.2⟩
end
section
variable {g:TG} {tb:TS} {NX:St->Hp->Prop} {RT:VK} {σ:St} {H:Hp} {K:Fg}
theorem LD {S1 S2:Src} {a b:Addr} (xs ys:List V) (hx:S1.Sq K H a xs) (hy:S2.Sq K H b ys) (Pv:Nat->St->Hp->Prop) (h0:Pv 0 σ H) (hl:∀ i σ H,Pv i σ H->S1.Sq K H a xs/\S2.Sq K H b ys)
  (hs:∀ i x y T σ H H',xs[i]?=some x->ys[i]?=some y->Pv i σ H->H T=none->am H H'->H' T=some (.tup [x,y])->g (.ref T) σ H' fun σ2 H2=>tb { nx:=Pv (i + 1),rt:=RT,bk:=NX,ct:=Pv (i + 1) } σ2 H2) (hd:∀ σ H,Pv (min xs.length ys.length) σ H->NX σ H):
  ∃ a' b' xs' ys',[V.ref a,V.ref b]=[.ref a',.ref b']/\S1.Sq K H a' xs'/\S2.Sq K H b' ys'/\∃ W:Nat->Nat->St->Hp->Prop,(∃ m,W 0 m σ H)/\∀ i m σ H,W i m σ H->
   ((Itz S1 S2 K a' b').stop i H/\NX σ H)\/((Itz S1 S2 K a' b').go i H/\∃ N:St->Hp->Prop,(∀ σ' H',N σ' H'->∃ m',m' < m/\W (i + 1) m' σ' H')/\∀ x H',(Itz S1 S2 K a' b').yld i H x H'->g x σ H' fun σ2 H2=>tb { nx:=N,rt:=RT,bk:=NX,ct:=N } σ2 H2):=by
 refine ⟨a,b,xs,ys,rfl,hx,hy,Ga (J:=Itz S1 S2 K a b) (n:=min xs.length ys.length) (D:={ nx:=NX,rt:=RT }) (Y:=fun i H x H1=>∃ T u v,H T=none/\x=.ref T/\H1=upd H T (.tup [u,v])/\xs[i]?=some u/\ys[i]?=some v) Pv h0 (fun i σ H hi w=>?_) (fun σ H w=>?_) (fun i σ H x H1 hi w y=>?_) (fun i x σ H H1 hi w y=>?_) hd⟩
 ·obtain ⟨q1,q2⟩:=hl i σ H w
  exact ⟨xs,ys,xs[i],ys[i],q1,q2,by simp [show i < xs.length by omega],by simp [show i < ys.length by omega]⟩
 ·obtain ⟨q1,q2⟩:=hl _ σ H w
  exact ⟨xs,ys,q1,q2,rfl⟩
 ·obtain ⟨T,u,v,e1,e2,e3,e4⟩:=y
  obtain ⟨q1,q2⟩:=hl _ σ H w
  obtain ⟨e5,e6⟩:=e4 xs ys q1 q2
  exact ⟨T,u,v,e1,e2,e3,e5,e6⟩
 ·obtain ⟨T,u,v,e1,rfl,rfl,e4,e5⟩:=y
  exact hs i u v T σ H _ e4 e5 w e1 (bg e1 _) ay
end
section
variable {K:Fg} {H:Hp} {Q:VK} {a b:Addr} {ns ms:List Int}
theorem JC (h1:SqL K H a (ns.map V.int)) (h2:SqL K H b (ms.map V.int)) (h:Q (.bl (decide (ns=ms))) H):jB (SqL K) false (.ref a) (.ref b) H Q:=⟨a,b,_,_,_,rfl,rfl,h1,h2,rO ns ms,by rw [p8]; exact h⟩
theorem Mw (h1:SqT K H a (ns.map V.int)) (h2:SqT K H b (ms.map V.int)) (h:Q (.bl (decide (ns=ms))) H):jB (SqT K) false (.ref a) (.ref b) H Q:=⟨a,b,_,_,_,rfl,rfl,h1,h2,rO ns ms,by rw [p8]; exact h⟩
theorem Mx (h1:SqT K H a (ns.map V.int)) (h2:SqT K H b (ms.map V.int)) (h:Q (.bl (!decide (ns=ms))) H):jB (SqT K) true (.ref a) (.ref b) H Q:=⟨a,b,_,_,_,rfl,rfl,h1,h2,rO ns ms,by rw [p8]; exact h⟩
theorem gU {x:V} {T:String} {t:Value} {c:Bool} (ty:gk K H x t) (e:NZ K t (.type T)=some c) (h:Q (.bl c) H):iP K [x,.ty T] H Q:=⟨x,T,t,c,rfl,ty,e,h⟩
end
section
variable {g:CF TG} {tt:CF TT} {te:CF TE} {σ₀:St} {Q:VK} {H:Hp} {K:Fg}
theorem mU {S1 S2:Src} {a b:Addr} (xs ys:List V) (hx:S1.Sq K H a xs) (hy:S2.Sq K H b ys) (kx:∀ H',am H H'->S1.Sq K H' a xs) (ky:∀ H',am H H'->S2.Sq K H' b ys) (hz:xs.length<=1000000) (R:Nat->List V->Hp->Prop) (h0:∀ H',am H H'->R 0 [] H')
  (hs:∀ p,H p=none->∀ C s' H' fp,∀ i x y T acc H2 H3,xs[i]?=some x->ys[i]?=some y->bf H p R i acc H2->H2 T=none->am H2 H3->H3 T=some (.tup [x,y])->H3 p=some (.lst acc)->g C s' H' fp (.ref T) σ₀ H3 fun σ2 H3=>tt C s' H' fp σ2 H3 fun b H4=>if b=true then te C s' H' fp σ2 H4 fun y H5=>H5 p=some (.lst acc)/\bf H p R (i + 1) (acc++[y]) (upd H5 p (.lst (acc++[y]))) else bf H p R (i + 1) acc H4)
  (hd:∀ p acc H2,H p=none->am H H2->H2 p=some (.lst acc)->R (min xs.length ys.length) acc H2->Q (.ref p) H2):
  ∃ a' b' xs' ys',[V.ref a,V.ref b]=[.ref a',.ref b']/\S1.Sq K H a' xs'/\S2.Sq K H b' ys'/\∀ p,H p=none->∃ W:Nat->Nat->List V->Hp->Prop,(∃ m,W 0 m [] (upd H p (.lst [])))/\∀ C s' H' fp,bO (Itz S1 S2 K a' b') (g C s' H' fp) (tt C s' H' fp) (te C s' H' fp) σ₀ p Q W:=by
 refine ⟨a,b,xs,ys,rfl,hx,hy,fun p hp=>oW (n:=min xs.length ys.length) (Y:=fun i H x H1=>∃ T u v,H T=none/\x=.ref T/\H1=upd H T (.tup [u,v])/\xs[i]?=some u/\ys[i]?=some v) (bf H p R)
  ⟨bg hp _,ay,M9 _,h0 _ (bg hp _)⟩ (fun i acc H2 _ c=>⟨c.2.1,c.2.2.1⟩) (by rw [Nf]; omega) (fun i acc H2 hi c=>?_) (fun acc H2 c=>?_) (fun i acc H2 x H3 hi c y=>?_) (fun C s' H' fp i x acc H2 H3 hi c y=>?_) fun acc H2 c=>hd p acc H2 hp c.1 c.2.1 c.2.2.2⟩
 ·exact ⟨xs,ys,xs[i],ys[i],kx _ c.1,ky _ c.1,by simp [show i < xs.length by omega],by simp [show i < ys.length by omega]⟩
 ·exact ⟨xs,ys,kx _ c.1,ky _ c.1,rfl⟩
 ·obtain ⟨T,u,v,e1,e2,e3,e4⟩:=y
  obtain ⟨e5,e6⟩:=e4 xs ys (kx _ c.1) (ky _ c.1)
  exact ⟨T,u,v,e1,e2,e3,e5,e6⟩
 ·obtain ⟨T,u,v,e1,rfl,rfl,e4,e5⟩:=y
  exact hs p hp C s' H' fp i u v T acc H2 _ e4 e5 c e1 (bg e1 _) ay (by rw [aQ (bn c.2.1 e1)]; exact c.2.1)
noncomputable def Bn (K:Fg):V->Option Int->Option Int->Hp->VK->Prop:=fun x lo hi H Q=>∃ a xs,x=.ref a/\SqT K H a xs/\¬ (HT.sIx xs.length 0 lo=0/\HT.sIx xs.length xs.length hi=xs.length)/\New H (.tup (rJ xs lo hi)) fun p H2=>Q (.ref p) H2
theorem Eo {a:Addr} {xs:List V} {lo hi:Option Int} (e:SqT K H a xs) (hn:¬ (HT.sIx xs.length 0 lo=0/\HT.sIx xs.length xs.length hi=xs.length)) (h:∀ p H',H p=none->am H H'->H' p=some (.tup (rJ xs lo hi))->Q (.ref p) H'):Bn K (.ref a) lo hi H Q:=⟨a,xs,rfl,e,hn,h⟩
theorem vm (x:V) (xs:List V):rJ (x :: xs) (some 1) none=xs:=by
 unfold rJ
 have e:HT.sIx (x :: xs).length 0 (some 1)=min 1 (x :: xs).length:=rfl
 rw [e,show min 1 (x :: xs).length=1 by simp]
 show ((x :: xs).drop 1).take ((x :: xs).length - 1)=xs
 rw [PM (by simp)]
 rfl
theorem oF (x:V) (xs:List V):¬ (HT.sIx (x :: xs).length 0 (some 1)=0/\HT.sIx (x :: xs).length (x :: xs).length none=(x :: xs).length):=fun h=>by
 have e:HT.sIx (x :: xs).length 0 (some 1)=min 1 (x :: xs).length:=rfl
 rw [e,show min 1 (x :: xs).length=1 by simp] at h
 exact absurd h.1 (by decide)
theorem My {x y:Str} (h:Q (.bl (decide (x=y))) H):rEq (.str x) (.str y) H Q:=⟨rfl,by rw [show decide (V.str x=V.str y)=decide (x=y) from decide_eq_decide.mpr ⟨fun e=>by injection e,fun e=>by rw [e]⟩]; exact h⟩
theorem Mz {x y:Str} (h:Q (.bl (!decide (x=y))) H):rNe (.str x) (.str y) H Q:=⟨rfl,by rw [show decide (V.str x=V.str y)=decide (x=y) from decide_eq_decide.mpr ⟨fun e=>by injection e,fun e=>by rw [e]⟩]; exact h⟩
noncomputable def Ep (kvs:List (Str×V)) (a:Addr):R2:=fun x y H Q=>x=.ref a/\∃ k v,y=.str k/\kvs.lookup k=some v/\Q v H
theorem JD {kvs:List (Str×V)} {a:Addr} {k:Str} {v:V} (e:kvs.lookup k=some v) (h:Q v H):Ep kvs a (.ref a) (.str k) H Q:=⟨rfl,k,v,rfl,e,h⟩
noncomputable def Bo (kvs:List (Str×V)) (a:Addr) (neg:Bool):R2:=fun x y H Q=>y=.ref a/\∃ k,x=.str k/\Q (.bl (if neg then !(kvs.lookup k).isSome else (kvs.lookup k).isSome)) H
end
noncomputable def lQ (K:Fg) (a:Addr) (xs:List V):Prop:=∃ (o:Obj) (its:Array Value) (n:Nat),K.lookup a=some o/\o.cls=.type "tuple"/\o.data=.seq its n/\its.size<=Nh/\aL xs its.toList
theorem lQ.sq {K:Fg} {a:Addr} {xs:List V} (h:lQ K a xs) (H:Hp):SqT K H a xs:=.inr h
section
variable {H:Hp} {Q:VK} {K:Fg}
theorem HX {l b:Addr} {xs zs:List V} (e:H l=some (.lst xs)) (eb:H b=some (.lst zs)) (hz:xs.length + zs.length<=Nh) (h:∀ H',Off l H H'->H' l=some (.lst (xs++zs))->Q .non H'):yk (.ref l) [.ref b] H Q:=⟨l,b,xs,zs,rfl,rfl,e,eb,hz,h _ iq ay⟩
end
theorem Gf (xs:List V) (z:Int) {m:Nat} (hl:xs.length=m) (hm:0 < m):∃ x,atI xs (z % (m:Int))=some x/\x∈xs:=by
 have m1:=PX z (b:=(m:Int)) (by omega)
 have m2:=Pu z (b:=(m:Int)) (by omega)
 have hk:(z % (m:Int)).toNat < xs.length:=by omega
 refine ⟨xs[(z % (m:Int)).toNat],?_,Pq hk⟩
 have e:z % (m:Int)=(((z % (m:Int)).toNat:Nat):Int):=by omega
 have q:atI xs (((z % (m:Int)).toNat:Nat):Int)=some xs[(z % (m:Int)).toNat]:=cP (M7 hk)
 rw [<-e] at q
 exact q
noncomputable def MA:R2:=fun x y H Q=>∃ a b,x=.bl a/\y=.bl b/\Q (.bl (!(a == b))) H
theorem LE {a b:Bool} {H:Hp} {Q:VK} (h:Q (.bl (!(a == b))) H):MA (.bl a) (.bl b) H Q:=⟨a,b,rfl,rfl,h⟩
end L2
end
local macro_rules | `(tactic| walk_at "rb1")=>`(tactic| first
 | ((with_reducible refine' L2.p9 (v:=?v) ?e ?h); (case e=>exact rfl))
 | (with_reducible first | refine L2.Gd ?_ | refine L2.nQ ?_ | refine L2.Mi ?_ | refine L2.Lh ?_ | refine L2.Li ?_ | refine L2.J6 ?_ | refine L2.Lj ?_ | refine L2.jE ?_ | refine L2.Lk ?_ | refine L2.r_c ?_ | refine L2.vf ?_ | refine L2.MP ?_ | refine L2.MQ ?_ | refine L2.r_U ?_ | refine L2.Mj ?_ | refine L2.Ml ?_ | refine L2.My ?_ | refine L2.Mz ?_ | refine L2.Mm ?_ | refine L2.Mn ?_ | refine L2.LE ?_ | refine L2.Ll ?_ | refine L2.MR ?_ | refine L2.Lm ?_ | refine L2.Ms ?_ | refine L2.Mo ?_ | refine L2.MS ?_ | refine L2.Mp ?_ | refine L2.Ln ?_ | refine L2.Mq ?_ | refine L2.Lo ?_ | refine L2.MT ?_ | refine L2.J7 ?_ | refine L2.JA ?_ | refine L2.Ge ?_ | refine L2.Lp ?_ | refine L2.MU ?_ | refine L2.MV ?_ | refine L2.Mr ?_ | refine L2.MW ?_ | refine L2.MX ?_ | refine L2.HQ ?_ | refine L2.Lq ?_ | refine L2.Mt ?_ | refine L2.Lr ?_ | refine L2.J8 ?_ | refine L2.Ls ?_ | refine L2.J9 ?_ | refine L2.Ka ?_ | refine L2.Kb ?_ | refine L2.Lu ?_ | refine L2.Lv ?_ | refine L2.Lw ?_ | refine L2.Mv ?_ | refine L2.tM ?_ | refine L2.Ly ?_ | refine L2.Lz ?_ | refine L2.LB ?_ | refine L2.LC ?_ | refine L2.lN ?_ | refine L2.lM ?_ | refine L2.Ej ?_ | refine L2.Mu ?_ | refine L2.Bl ?_)
 | ((with_reducible refine L2.r_I ?_ ?_); (first | (show (0:Int) < _; omega) | (show (0:Int) < _; decide) | exact ⟨by decide,by decide,by decide⟩ | exact And.intro (by omega) (by omega) | exact (PySem.IntMulOk.of_right (Us (by omega) (by omega))) | exact (PySem.IntMulOk.of_left (Us (by omega) (by omega)))))
 | ((with_reducible refine' L2.tL (ys:=?y) ?e ?h); (case e=>first | assumption | exact L2.SqL.of (by assumption)))
 | ((with_reducible refine' L2.Do (ys:=?y) ?e ?h); (case e=>first | assumption | exact L2.SqT.of (by assumption)))
 | dsimp only [Pc,Pd,L2.sub,Nt,QA,List.getElem?_cons_zero,List.getElem?_cons_succ])
local macro_rules | `(tactic| walk_at "rd")=>`(tactic| repeat (first | (with_reducible first | refine L2.bA ?_ | refine L2.Jz ?_) | walk_at "rb1"))
local macro_rules | `(tactic| walk_at "rs")=>`(tactic| repeat (first | (with_reducible refine L2.Jz ?_) | walk_at "rb1"))
local macro_rules | `(tactic| walk_at "ra")=>`(tactic| repeat (walk_at "rb1"))
namespace L2
open PySem PyProof.Rows
noncomputable abbrev IA:=Option Int
noncomputable abbrev IK:=Sum IA (List IA)
noncomputable abbrev MK:=Sum IA (List IK)
noncomputable def iaV:V->Option IA
 | .non=>some none
 | .bl b=>some (some (if b then 1 else 0))
 | .int i=>some (some i)
 | _=>none
noncomputable def nR (H:Hp) (x:V):IK->Prop
 | .inl a=>iaV x=some a
 | .inr as=>∃ c ys,x=.ref c/\H c=some (.tup ys)/\ys.map iaV=as.map some
noncomputable def ci (H:Hp) (x:V):MK->Prop
 | .inl a=>iaV x=some a
 | .inr is=>∃ c xs,x=.ref c/\H c=some (.tup xs)/\Paired (nR H) xs is
noncomputable def gn:MK->Bool
 | .inl _=>false
 | .inr _=>true
theorem nR.keep {H H':Hp} {x:V} {k:IK} (h:nR H x k) (kp:fb H H'):nR H' x k:=by
 cases k with
 | inl a=>exact h
 | inr as=>obtain ⟨c,ys,e,q,r⟩:=h; exact ⟨c,ys,e,kp _ _ q,r⟩
theorem ci.keep {H H':Hp} {x:V} {k:MK} (h:ci H x k) (kp:fb H H'):ci H' x k:=by
 cases k with
 | inl a=>exact h
 | inr as=>obtain ⟨c,xs,e,q,r⟩:=h; exact ⟨c,xs,e,kp _ _ q,Paired.mapP r fun _ _ z=>nR.keep z kp⟩
theorem zp {H H':Hp} {xs:List V} {ks:List MK} (h:Paired (ci H) xs ks) (kp:fb H H'):Paired (ci H') xs ks:=Paired.mapP h fun _ _ z=>ci.keep z kp
theorem bx {α β:Type} {F:α->β->Prop}:∀ {xs:List α} {ys:List β} {i:Nat} {x:α},Paired F xs ys->xs[i]?=some x->∃ y,ys[i]?=some y/\F x y
 | _,_,_,_,.nil,e=>by simp at e
 | _,_,0,_,.cons r _,e=>by simp at e; subst e; exact ⟨_,rfl,r⟩
 | _,_,i + 1,x,.cons _ t,e=>by
  obtain ⟨u,h1,h2⟩:=bx (i:=i) (x:=x) t (by simpa using e)
  exact ⟨u,by simpa using h1,h2⟩
theorem wk (H:Hp):∀ ns:List Int,Paired (nR H) (ns.map V.int) (ns.map fun n=>(OZ (some n):IK))
 | []=>.nil
 | n :: r=>.cons rfl (wk H r)
theorem Dp {H:Hp} {c:Addr} {ns:List Int} (e:H c=some (.tup (ns.map V.int))):ci H (.ref c) (.inr (ns.map fun n=>(OZ (some n):IK))):=⟨c,_,rfl,e,wk H ns⟩
theorem Off.keepD {H H':Hp} {l:Addr} (o:Off l H H') (h:∀ xs,H l≠some (.tup xs)):fb H H':=fun b ys q=>by
 rw [o b (fun z=>by subst z; exact h _ q)]
 exact q
noncomputable def bm {α:Type} [DecidableEq α] (ks:List α):List Nat:=ks.map fun k=>ks.idxOf k
theorem cR {α:Type} [DecidableEq α] (ks:List α):(bm ks).length=ks.length:=M6 _
theorem Er {α:Type} [DecidableEq α] {ks:List α} {i:Nat} {k:α} (h:k∈ks.take i):(ks.take i).idxOf k=ks.idxOf k:=by
 have:=UT (l₁:=ks.take i) (l₂:=ks.drop i) (a:=k)
 rw [QB,if_pos h] at this
 exact this.symm
theorem zq {α:Type} [DecidableEq α] {ks:List α} {i:Nat} {k:α} (hk:ks[i]?=some k) (h:k∉ks.take i):ks.idxOf k=i:=by
 obtain ⟨hi,e⟩:=Na.mp hk
 have e1:ks=ks.take i++(k :: ks.drop (i + 1)):=by
  rw [<-e,List.getElem_cons_drop,QB]
 have:=UT (l₁:=ks.take i) (l₂:=k :: ks.drop (i + 1)) (a:=k)
 rw [<-e1,if_neg h,List.idxOf_cons_self,OT] at this
 omega
theorem bX {α:Type} {ks:List α} {i:Nat} {k:α} (hk:ks[i]?=some k):ks.take (i + 1)=ks.take i++[k]:=by
 rw [ON,hk]; rfl
theorem uH {α β:Type} [DecidableEq α] [DecidableEq β] {f:α->β} (inj:∀ a b,f a=f b->a=b) (ks:List α):bm (ks.map f)=bm ks:=by
 unfold bm
 rw [PQ]
 refine Pl fun k hk=>?_
 show (ks.map f).idxOf (f k)=ks.idxOf k
 clear hk
 induction ks with
 | nil=>rfl
 | cons a r ih=>
  rw [Nt,VX,VX,ih]
  by_cases e:a=k
  ·rw [e,beq_self_eq_true,beq_self_eq_true]
  ·rw [beq_eq_false_iff_ne.mpr e,beq_eq_false_iff_ne.mpr (fun z=>e (inj _ _ z))]
theorem wl {α:Type} [DecidableEq α] {ks:List α} {i:Nat} {z:Nat} (h:(bm ks)[i]?=some z):∃ k,ks[i]?=some k/\z=ks.idxOf k/\z<=i:=by
 unfold bm at h
 rw [Nm] at h
 cases e:ks[i]? with
 | none=>rw [e] at h; cases h
 | some k=>
  rw [e] at h
  refine ⟨k,rfl,(Nl h).symm,?_⟩
  rw [<-Nl h]
  show ks.idxOf k<=i
  by_cases q:k∈ks.take i
  ·have:=RX q
   rw [Er q,OT] at this
   omega
  ·rw [zq e q]; exact M9 _
section
open PySem.Spec
section
variable {κ:Type} [DecidableEq κ]
noncomputable def eF (kvs:List (κ×V)) (k:κ):Option V:=(kvs.find? fun kv=>decide (kv.1=k)).map (·.2)
noncomputable def jk (kvs:List (κ×V)) (k:κ) (v:V):List (κ×V):=
 if (kvs.any fun kv=>decide (kv.1=k))=true then kvs.map (fun kv=>if kv.1=k then (kv.1,v) else kv) else kvs++[(k,v)]
theorem eI {p:κ×V} {r:List (κ×V)} {k:κ} (e:p.1=k):eF (p :: r) k=some p.2:=by simp [eF,NO,e]
theorem eJ {p:κ×V} {r:List (κ×V)} {k:κ} (e:¬ p.1=k):eF (p :: r) k=eF r k:=by simp [eF,NO,e]
theorem qb (k:κ):∀ kvs:List (κ×V),(kvs.any fun kv=>decide (kv.1=k))=(eF kvs k).isSome
 | []=>rfl
 | p :: r=>by
  rw [Uj]
  by_cases e:p.1=k
  ·simp only [eI e,decide_eq_true e,Bool.true_or,Option.isSome_some]
  ·rw [eJ e,decide_eq_false e,Bool.false_or]; exact qb k r
theorem Bp (k j:κ) (y:V):∀ kvs:List (κ×V),eF (kvs.map fun kv=>if kv.1=k then (kv.1,y) else kv) j=(eF kvs j).map fun x=>if j=k then y else x
 | []=>rfl
 | p :: r=>by
  have ih:=Bp k j y r
  rw [Nt]
  by_cases h:p.1=k
  ·rw [if_pos h]
   by_cases e:p.1=j
   ·rw [eI (p:=(p.1,y)) e,eI e,Ru,if_pos (e.symm.trans h)]
   ·rw [eJ (p:=(p.1,y)) e,eJ e,ih]
  ·rw [if_neg h]
   by_cases e:p.1=j
   ·rw [eI (p:=p) e,eI e,Ru,if_neg (fun z=>h (e.trans z))]
   ·rw [eJ (p:=p) e,eJ e,ih]
theorem zr (k j:κ) (y:V):∀ kvs:List (κ×V),eF kvs k=none->eF (kvs++[(k,y)]) j=if j=k then some y else eF kvs j
 | [],_=>by
  by_cases e:k=j
  ·rw [if_pos e.symm]; exact eI (p:=(k,y)) e
  ·rw [if_neg (fun z=>e z.symm)]; exact eJ (p:=(k,y)) e
 | p :: r,hn=>by
  rw [Vy]
  have hk:¬ p.1=k:=fun z=>by rw [eI z] at hn; cases hn
  rw [eJ hk] at hn
  have ih:=zr k j y r hn
  by_cases e:p.1=j
  ·rw [eI e,eI e,if_neg (fun z=>hk (e.trans z))]
  ·rw [eJ e,eJ e,ih]
theorem HY (kvs:List (κ×V)) (k j:κ) (y:V):eF (jk kvs k y) j=if j=k then some y else eF kvs j:=by
 unfold jk
 by_cases a:(kvs.any fun kv=>decide (kv.1=k))=true
 ·rw [if_pos a,Bp]
  rw [qb] at a
  by_cases e:j=k
  ·obtain ⟨x,hx⟩:=SI.mp a
   rw [if_pos e,e,hx,Ru,if_pos rfl]
  ·rw [if_neg e]
   cases eF kvs j with
   | none=>rfl
   | some x=>rw [Ru,if_neg e]
 ·rw [if_neg a]
  refine zr k j y kvs ?_
  rw [qb] at a
  cases q:eF kvs k with
  | none=>rfl
  | some x=>rw [q] at a; exact (a rfl).elim
theorem oH (kvs:List (κ×V)) (k:κ) (v:V):(jk kvs k v).length<=kvs.length + 1:=by
 unfold jk
 split
 ·rw [M6]; omega
 ·rw [Nx,NK,VY]; omega
theorem gf.isSome_eq {o:Option V} {u:Option Value} (r:gf o u):o.isSome=u.isSome:=by
 cases o with
 | none=>cases u with
  | none=>rfl
  | some _=>exact (show False from r).elim
 | some _=>cases u with
  | none=>exact (show False from r).elim
  | some _=>rfl
theorem gf.getD {o:Option V} {u:Option Value} {d:V} {d':Value} (r:gf o u) (rd:aK d d'):aK (o.getD d) (u.getD d'):=by
 cases o with
 | none=>cases u with
  | none=>exact rd
  | some _=>exact (show False from r).elim
 | some _=>cases u with
  | none=>exact (show False from r).elim
  | some _=>exact r
theorem KV.val {kvs:List (κ×V)} {vs:List (κ×Value)} (r:KV kvs vs) (k:κ):gf (eF kvs k) (valueAt vs k):=by
 unfold KV at r
 induction r with
 | nil=>exact Pz
 | @cons p q ps qs h t ih=>
  obtain ⟨h1,h2⟩:=h
  by_cases e:p.1=k
  ·have e':q.1=k:=h1.symm.trans e
   have b:valueAt (q :: qs) k=some q.2:=by simp [valueAt,NO,e']
   rw [eI e,b]; exact h2
  ·have e':¬ q.1=k:=fun z=>e (h1.trans z)
   have b:valueAt (q :: qs) k=valueAt qs k:=by simp [valueAt,NO,e']
   rw [eJ e,b]; exact ih
theorem KV.any {kvs:List (κ×V)} {vs:List (κ×Value)} (r:KV kvs vs) (k:κ):(kvs.any fun kv=>decide (kv.1=k))=vs.any fun kv=>decide (kv.1=k):=by
 unfold KV at r
 induction r with
 | nil=>rfl
 | cons h t ih=>rw [Uj,Uj,ih,h.1]
theorem KV.repl {kvs:List (κ×V)} {vs:List (κ×Value)} (r:KV kvs vs) (k:κ) {y:V} {u:Value} (ry:aK y u):
  KV (kvs.map fun kv=>if kv.1=k then (kv.1,y) else kv) (vs.map fun kv=>if kv.1=k then (kv.1,u) else kv):=by
 unfold KV at r ⊢
 induction r with
 | nil=>exact .nil
 | @cons p q ps qs h t ih=>
  rw [Nt,Nt]
  refine .cons ?_ ih
  obtain ⟨h1,h2⟩:=h
  by_cases e:p.1=k
  ·rw [if_pos e,if_pos (h1.symm.trans e)]; exact ⟨h1,ry⟩
  ·rw [if_neg e,if_neg (fun z=>e (h1.trans z))]; exact ⟨h1,h2⟩
theorem KV.put {kvs:List (κ×V)} {vs:List (κ×Value)} (r:KV kvs vs) (k:κ) {y:V} {u:Value} (ry:aK y u):KV (jk kvs k y) (stored vs k u):=by
 unfold jk stored
 rw [r.any k]
 by_cases e:(vs.any fun kv=>decide (kv.1=k))=true
 ·rw [if_pos e,if_pos e]; exact r.repl k ry
 ·rw [if_neg e,if_neg e]; exact Vi r ⟨rfl,ry⟩
theorem KV.keys {kvs:List (κ×V)} {vs:List (κ×Value)} (r:KV kvs vs):kvs.map (·.1)=vs.map (·.1):=by
 unfold KV at r
 induction r with
 | nil=>rfl
 | cons h t ih=>rw [Nt,Nt,ih,h.1]
theorem KV.length {kvs:List (κ×V)} {vs:List (κ×Value)} (r:KV kvs vs):kvs.length=vs.length:=NP r
end
theorem JE {P:Program} {w:World} {k:Key} {u:Value} (r:aK (kV k) u):(jv P w).is k u=true:=by
 cases k with
 | inl i=>obtain ⟨t,e⟩:=(show ∃ t,u=Qa i t from r); subst e; exact CJ P w i t
 | inr x=>obtain ⟨t,e⟩:=(show ∃ t,u=Ta x t from r); subst e; exact bB P w x t
noncomputable abbrev KT (H:Hp):List (List Key×V)->List (List Key×Addr×Value)->Prop:=Paired fun p q=>p.1=q.1/\H q.2.1=some (.tup (p.1.map kV))/\aK p.2 q.2.2
theorem KT.val {H:Hp} {kvs:List (List Key×V)} {xs:List (List Key×Addr×Value)} (r:KT H kvs xs) (k:List Key):gf (eF kvs k) ((atKey xs k).map (·.2)):=by
 induction r with
 | nil=>exact Pz
 | @cons p q ps qs h t ih=>
  obtain ⟨h1,_,h2⟩:=h
  by_cases e:p.1=k
  ·have e':q.1=k:=h1.symm.trans e
   have b:atKey (q :: qs) k=some q.2:=by simp [atKey,NO,e']
   rw [eI e,b]; exact h2
  ·have e':¬ q.1=k:=fun z=>e (h1.trans z)
   have b:atKey (q :: qs) k=atKey qs k:=by simp [atKey,NO,e']
   rw [eJ e,b]; exact ih
theorem KT.repl {H:Hp} {kvs:List (List Key×V)} {xs:List (List Key×Addr×Value)} (r:KT H kvs xs) (k:List Key) {y:V} {u:Value} (ry:aK y u):
  KT H (kvs.map fun kv=>if kv.1=k then (kv.1,y) else kv) (xs.map (putAt k u)):=by
 induction r with
 | nil=>exact .nil
 | @cons p q ps qs h t ih=>
  rw [Nt,Nt]
  refine .cons ?_ ih
  obtain ⟨h1,h2,h3⟩:=h
  unfold putAt
  by_cases e:p.1=k
  ·rw [if_pos e,if_pos (h1.symm.trans e)]; exact ⟨h1,h2,ry⟩
  ·rw [if_neg e,if_neg (fun z=>e (h1.trans z))]; exact ⟨h1,h2,h3⟩
theorem KT.put {H:Hp} {kvs:List (List Key×V)} {xs:List (List Key×Addr×Value)} (r:KT H kvs xs) (k:List Key) {b:Addr} {y:V} {u:Value} (hb:H b=some (.tup (k.map kV))) (ry:aK y u):
  KT H (jk kvs k y) (storedH xs k b u):=by
 have e:(kvs.any fun kv=>decide (kv.1=k))=(atKey xs k).isSome:=by
  rw [qb,(r.val k).isSome_eq,Sr]
 unfold jk storedH
 rw [e]
 by_cases q:(atKey xs k).isSome=true
 ·rw [if_pos q,if_pos q]; exact r.repl k ry
 ·rw [if_neg q,if_neg q]; exact Vi r ⟨rfl,hb,ry⟩
theorem KT.keeps {H H':Hp} {kvs:List (List Key×V)} {xs:List (List Key×Addr×Value)} (r:KT H kvs xs) (ht:∀ b ys,H b=some (.tup ys)->H' b=some (.tup ys)):KT H' kvs xs:=
 Paired.mapP r fun _ _ z=>⟨z.1,ht _ _ z.2.1,z.2.2⟩
section
variable {P:Program} {w:World} {H:Hp} {h:Heap} {a:Addr}
end
noncomputable def Es (H:Hp) (a:Addr) (y:V) (r:Option V):Prop:=
 (∃ kvs k,Rd H a (.dK kvs)/\y=kV k/\r=eF kvs k)\/∃ kvs k b,Rd H a (.dT kvs)/\y=.ref b/\H b=some (.tup (k.map kV))/\r=eF kvs k
noncomputable def Et (H:Hp) (a:Addr) (y v:V) (H':Hp):Prop:=
 (∃ kvs k,H a=some (.dK kvs)/\y=kV k/\kvs.length < Nh/\H'=upd H a (.dK (jk kvs k v)))\/
 ∃ kvs k b,H a=some (.dT kvs)/\y=.ref b/\H b=some (.tup (k.map kV))/\kvs.length < Nh/\H'=upd H a (.dT (jk kvs k v))
theorem Es.k {H:Hp} {a:Addr} {kvs:List (Key×V)} {k:Key} (e:H a=some (.dK kvs)):Es H a (kV k) (eF kvs k):=.inl ⟨kvs,k,.inl e,rfl,rfl⟩
theorem Es.t {H:Hp} {a b:Addr} {kvs:List (List Key×V)} {k:List Key} (e:H a=some (.dT kvs)) (eb:H b=some (.tup (k.map kV))):Es H a (.ref b) (eF kvs k):=.inr ⟨kvs,k,b,.inl e,rfl,eb,rfl⟩
theorem Et.k {H:Hp} {a:Addr} {kvs:List (Key×V)} {k:Key} {v:V} (e:H a=some (.dK kvs)) (hl:kvs.length < Nh):Et H a (kV k) v (upd H a (.dK (jk kvs k v))):=.inl ⟨kvs,k,e,rfl,hl,rfl⟩
theorem Et.t {H:Hp} {a b:Addr} {kvs:List (List Key×V)} {k:List Key} {v:V} (e:H a=some (.dT kvs)) (eb:H b=some (.tup (k.map kV))) (hl:kvs.length < Nh):
  Et H a (.ref b) v (upd H a (.dT (jk kvs k v))):=.inr ⟨kvs,k,b,e,rfl,eb,hl,rfl⟩
section
variable {X:Cx} {pins:List (Addr×Obj)} {σ:St} {H:Hp} {s:Shared} {a:Addr} {y v:V} {u r:Value} {o:Option V} {A:Around} {E:Value->Shared->Prop}
theorem Inv.big (I:Inv X pins σ H s):O4 < s.heap.objs.size:=by
 have h:NJ < s.heap.objs.size:=(I.mod.glob.keeps I.bk).lt
 exact Nat.lt_trans (by decide) h
theorem Dq {h':Heap} {t':Nat} {ob:HO} (I:Inv X pins σ H s) (mu:Mut (H a)) (hs:Nw a s.heap h') (he:∃ q,h'.get? a=some q) (new:bQ X.prog X.w (upd H a ob) h' a ob):
  Inv X pins σ (upd H a ob) { s with heap:=h',toks:=t' }:=
 I.write (x:=a) (e:=a) mu (.inl rfl) (fun b q hb z=>(hs.2 b hb).trans z) he new
end
section
variable {X:Cx} {pins:List (Addr×Obj)} {σ:St} {H:Hp} {s:Shared} {a:Addr} {kvs:List (Key×V)} {k:Key} {u:Value} {A:Around} {E:Value->Shared->Prop}
end
noncomputable def HZ (i:Expr):Prop:=∀ ov iv,Tp i false ov iv=operate [ov,iv] (getItem ov iv)
theorem Dr {prog:Program} {w:World} {A:Around} {E:Value->Shared->Prop} {s:Shared} {env:Env} {value slice:Expr} {pos:Pos} {T id:String} {Q:Value->Shared->Prop}
  (hl:TZ (.type T) "__getitem__"=pure (some (.builtin id))) (hs:HZ slice)
  (h:wpAny (model prog w) A (eval value env) (fun o s₁=>wpAny (model prog w) A (eval slice env) (fun i s₂=>s₂.TypeIs o T/\wpAny (model prog w) A (getItem o i) Q E s₂) E s₁) E s):
  wpAny (model prog w) A (eval (.Subscript value slice pos) env) Q E s:=by
 refine VN (OM h (fun o s₁ h₁=>OM h₁ (fun i s₂ h₂=>?_) fun _ _ x=>x) fun _ _ x=>x)
 obtain ⟨hT,h₂⟩:=h₂
 unfold Uh
 refine M1 ?_
 rw [getitemInPython_of_ne hT.not_modules]
 refine M1 (OF hT hl ?_)
 have fin:wpAny (model prog w) A (Tp slice false o i) (fun r s₃=>wpAny (model prog w) A (letTemporaryGo value o r >>= fun _=>pure r) Q E s₃) E s₂:=by
  rw [hs o i]
  exact wpAny_operating (OM h₂ (fun r s₃ h₃=>M1 (wpAny_letTemporaryGo (M5 h₃))) fun _ _ x=>x)
 first
  | exact M5 (M1 fin)
  | exact M1 (M5 (M1 fin))
  | exact M1 fin
section
variable {X:Cx} {o i e value:Expr} {pos pos' tpos:Pos} {td ty tv:TE}
end
section
variable {X:Cx} {pos:Pos}
end
structure M2 (X:Cx) (o:Expr) (m:Str) (apos:Pos) (e f:Expr) (cpos:Pos):Prop where
 base:Qj o m X.env (eval o X.env)=eval o X.env
 few:((backTo cpos (NA [e,f] X.env)).all (fun x=>!x.1) && (Rc cpos (Qr [] X.env)).all (fun x=>x.1.isSome)
  && decide (([e,f]:List Expr).length + ([]:List Keyword).length + (if ([]:List Keyword).isEmpty then 0 else 1) < 30))=true
 line:(apos.endLine == cpos.line)=true
 trees:backTo cpos (NA [e,f] X.env)=[(false,eval e X.env),(false,eval f X.env)]
section
variable {X:Cx} {pins:List (Addr×Obj)} {σ:St} {H:Hp} {s:Shared} {a:Addr} {y d:V} {u r:Value} {o:Option V} {A:Around} {E:Value->Shared->Prop}
end
section
variable {X:Cx} {o e f:Expr} {apos cpos:Pos} {td ty tx:TE}
end
section
variable {X:Cx} {pins:List (Addr×Obj)} {σ:St} {H:Hp} {s:Shared} {a:Addr} {kvs:List (Key×V)} {A:Around} {E:Value->Shared->Prop}
end
section
variable {X:Cx} {pins:List (Addr×Obj)} {σ:St} {H:Hp} {s:Shared} {a:Addr} {y:V} {u:Value} {A:Around} {E:Value->Shared->Prop}
end
end
section
open PySem.Spec
section
variable {prog:Program} {w:World} {A:Around} {E:Value->Shared->Prop} {s:Shared}
theorem uy {b:Bool} {Q:Int->Shared->Prop} (h:Q (hashInt (if b then 1 else 0)) { s with toks:=s.toks + 1 }):wpAny (model prog w) A (pyHash (.bool b)) Q E s:=by
 have hr:=rawHash_range (if b then 1 else 0)
 unfold pyHash
 have hv:[Od b].any Value.onHeap=false:=rfl
 refine M1 ?_
 rw [cRoomFor,if_neg (by rw [hv]; exact Nk)]; refine M5 ?_
 have hT:s.TypeIs (.bool b) "bool":=rfl
 refine M1 (OF hT Qt.lookup ?_)
 show wpAny _ _ (if (some (Uk "int.__hash__") == some Ou)=true then _ else _) Q E s
 rw [if_neg (by rw [SW]; exact Nk)]
 refine M1 (OF hT Qt.lookup ?_)
 show wpAny _ _ (Qu (.bool b) "__hash__" _ >>= _) Q E s
 refine M1 (PD hT Qt (NV Qt hT entry_int_hash ?_ (args_int_hash _)))
 cases b with
 | true=>
  refine (show wpAny _ _ (do ret (<-mkInt (rawHash 1))) _ _ s from Rv ?_)
  show wpAny _ _ (if (decide (-(2:Int) ^ 63<=rawHash 1) && decide (rawHash 1 < 2 ^ 63))=true then _ else _) Q E _
  rw [if_pos (by decide)]
  exact M5 h
 | false=>
  refine (show wpAny _ _ (do ret (<-mkInt (rawHash 0))) _ _ s from Rv ?_)
  show wpAny _ _ (if (decide (-(2:Int) ^ 63<=rawHash 0) && decide (rawHash 0 < 2 ^ 63))=true then _ else _) Q E _
  rw [if_pos (by decide)]
  exact M5 h
theorem uz {Q:Int->Shared->Prop} (h:Q 4238894112 { s with toks:=s.toks + 1 }):wpAny (model prog w) A (pyHash .none) Q E s:=by
 unfold pyHash
 have hv:[Ou].any Value.onHeap=false:=rfl
 refine M1 ?_
 rw [cRoomFor,if_neg (by rw [hv]; exact Nk)]; refine M5 ?_
 have hT:s.TypeIs .none "NoneType":=rfl
 refine M1 (OF hT P7.lookup ?_)
 show wpAny _ _ (if (some (Uk "NoneType.__hash__") == some Ou)=true then _ else _) Q E s
 rw [if_neg (by rw [SW]; exact Nk)]
 refine M1 (OF hT P7.lookup ?_)
 show wpAny _ _ (Qu .none "__hash__" _ >>= _) Q E s
 refine M1 (PD hT P7 (NV P7 hT PySem.F.entry_NoneType_hash ?_ (PySem.F.args_NoneType_hash_1 _)))
 refine (show wpAny _ _ (do ret (<-mkInt 4238894112)) _ _ s from Rv ?_)
 show wpAny _ _ (if (decide (-(2:Int) ^ 63<=4238894112) && decide ((4238894112:Int) < 2 ^ 63))=true then _ else _) Q E _
 rw [if_pos (by decide)]
 exact M5 h
end
noncomputable def Bq:IA->Int
 | none=>4238894112
 | some i=>hashInt i
noncomputable def qc:IA->Value->Bool
 | none,.none=>true
 | some i,.int j _=>i == j
 | some i,.bool b=>i == (if b then 1 else 0)
 | _,_=>false
theorem eL {k:IA} {v:Value} (h:qc k v=true):(k=none/\v=.none)\/(∃ i t,k=some i/\v=.int i t)\/∃ b,k=some (if b then 1 else 0)/\v=.bool b:=by
 rcases k with _ | i <;> cases v <;> (delta qc at h; simp at h)
 ·exact .inl ⟨rfl,rfl⟩
 ·subst h; exact .inr (.inr ⟨_,rfl,rfl⟩)
 ·subst h; exact .inr (.inl ⟨_,_,rfl,rfl⟩)
noncomputable def dc (prog:Program) (w:World):PySem.KeyKind prog w IA where
 is:=qc
 hash:=Bq
 inj:=fun v a b ha hb=>by
  rcases eL ha with ⟨rfl,rfl⟩ | ⟨i,t,rfl,rfl⟩ | ⟨c,rfl,rfl⟩ <;> rcases eL hb with ⟨rfl,e⟩ | ⟨j,u,rfl,e⟩ | ⟨d,rfl,e⟩ <;> first | rfl | (cases e; rfl) | cases e
 byValue:=fun k v h=>by
  rcases eL h with ⟨rfl,rfl⟩ | ⟨i,t,rfl,rfl⟩ | ⟨c,rfl,rfl⟩ <;> rfl
 pyHash:=fun hv h=>by
  rcases eL hv with ⟨rfl,rfl⟩ | ⟨i,t,rfl,rfl⟩ | ⟨c,rfl,rfl⟩
  ·exact uz h
  ·exact Vn h
  ·exact uy h
 eqBool:=fun {A E s a b u v Q} hu hv h=>by
  rcases eL hu with ⟨rfl,rfl⟩ | ⟨i,t,rfl,rfl⟩ | ⟨c,rfl,rfl⟩ <;> rcases eL hv with ⟨rfl,rfl⟩ | ⟨j,u,rfl,rfl⟩ | ⟨d,rfl,rfl⟩
  ·exact Te _ _ _ _ _ (by simpa using h)
  ·exact Uo _ _ _ _ _ _ (by simpa using h)
  ·exact T1 _ _ _ _ _ (by simpa using h)
  ·exact Uq _ _ _ _ _ _ (by simpa using h)
  ·exact UG _ _ _ _ _ _ _ _ (by simpa [Rh] using h)
  ·exact Ur _ _ _ _ _ _ _ (by simpa [Rh] using h)
  ·exact T2 _ _ _ _ _ (by simpa using h)
  ·exact Up _ _ _ _ _ _ _ (by simpa [Rh] using h)
  ·refine T3 _ _ _ _ _ _ ?_
   cases c <;> cases d <;> simpa using h
 «strs»:=fun k x t v h=>by
  rcases eL h with ⟨rfl,e⟩ | ⟨i,u,rfl,e⟩ | ⟨c,rfl,e⟩ <;> cases e
noncomputable def mV:IK->Int
 | .inl a=>Bq a
 | .inr as=>VZ (OK (as.map Bq))
noncomputable def AF (is:List IK):Int:=VZ (OK (is.map mV))
noncomputable def oZ:IK->Nat
 | .inl _=>1
 | .inr as=>as.length + 1
section
variable (prog:Program) (w:World)
noncomputable def dw (h:Heap):IK->Value->Prop
 | .inl a,v=>qc a v=true
 | .inr as,v=>∃ b,v=.ref b/\V0 (dc prog w) h as b
noncomputable def iQ (h:Heap) (is:List IK) (a:Addr):Prop:=∃ o items n,h.get? a=some o/\o.cls=.type "tuple"/\o.data=.seq items n/\Paired (dw prog w h) is items.toList
end
section
variable {prog:Program} {w:World}
theorem dw.inj {h:Heap} {x y:IK} {v:Value} (hx:dw prog w h x v) (hy:dw prog w h y v):x=y:=by
 cases x with
 | inl a=>cases y with
  | inl b=>rw [(dc prog w).inj v a b hx hy]
  | inr bs=>
   obtain ⟨c,rfl,_⟩:=hy
   rcases eL hx with ⟨_,e⟩ | ⟨_,_,_,e⟩ | ⟨_,_,e⟩ <;> cases e
 | inr as=>cases y with
  | inl b=>
   obtain ⟨c,rfl,_⟩:=hx
   rcases eL hy with ⟨_,e⟩ | ⟨_,_,_,e⟩ | ⟨_,_,e⟩ <;> cases e
  | inr bs=>
   obtain ⟨c,rfl,h1⟩:=hx
   obtain ⟨d,e,h2⟩:=hy
   cases e
   rw [h1.inj h2]
theorem Gg {h:Heap} {xs ys:List IK} {vs:List Value} (p:Paired (dw prog w h) xs vs):Paired (dw prog w h) ys vs->xs=ys:=by
 induction p generalizing ys with
 | nil=>intro q; cases q; rfl
 | cons a t ih=>intro q; cases q with
  | cons b u=>rw [a.inj b,ih u]
theorem iQ.inj {h:Heap} {a:Addr} {x y:List IK} (hx:iQ prog w h x a) (hy:iQ prog w h y a):x=y:=by
 obtain ⟨o,items,n,ho,_,hd,hi⟩:=hx
 obtain ⟨o',items',n',ho',_,hd',hi'⟩:=hy
 obtain rfl:o=o':=Nl (ho.symm.trans ho')
 rw [hd] at hd'
 injection hd' with h1 _
 subst h1
 exact Gg hi hi'
theorem dw.keeps {h h':Heap} {k:IK} {v:Value} {d:Addr} {o:Obj} {es ep} (x:dw prog w h k v) (ho:h.get? d=some o) (hd:o.data=.dict es ep) (hs:Nw d h h'):dw prog w h' k v:=by
 cases k with
 | inl a=>exact x
 | inr as=>obtain ⟨b,e,q⟩:=x; exact ⟨b,e,q.keeps ho hd hs⟩
theorem iQ.keeps {h h':Heap} {ks:List IK} {a d:Addr} {o:Obj} {es ep} (x:iQ prog w h ks a) (ho:h.get? d=some o) (hd:o.data=.dict es ep) (hs:Nw d h h'):iQ prog w h' ks a:=by
 obtain ⟨o',items,n,ho',hc,hd',hi⟩:=x
 have hne:a≠d:=by
  rintro rfl
  obtain rfl:o'=o:=Nl (ho'.symm.trans ho)
  rw [hd] at hd'; exact nomatch hd'
 exact ⟨o',items,n,(hs.2 a hne).trans ho',hc,hd',Paired.mapP hi fun _ _ z=>z.keeps ho hd hs⟩
theorem iQ.typeIs {s:Shared} {ks:List IK} {a:Addr} (x:iQ prog w s.heap ks a):s.TypeIs (.ref a) "tuple":=let ⟨o,_,_,ho,hc,_⟩:=x; ⟨o,ho,hc⟩
theorem wm {h:Heap} {ks:List IA} {a:Addr} (x:V0 (dc prog w) h ks a):∃ items,h.IsTuple a items:=let ⟨o,items,n,h1,h2,h3,_⟩:=x; ⟨items,o,h1,h2,n,h3⟩
variable {A:Around} {E:Value->Shared->Prop} {s:Shared}
theorem Gh {k:IK} {v:Value} {Q:Int->Shared->Prop} (hu:A.units < cLine) (hk:dw prog w s.heap k v) (h:Q (mV k) { s with toks:=s.toks + oZ k }):wpAny (model prog w) A (pyHash v) Q E s:=by
 cases k with
 | inl a=>exact (dc prog w).pyHash (k:=a) hk h
 | inr as=>
  obtain ⟨b,rfl,q⟩:=hk
  exact wpAny_pyHash_tuple (knd:=dc prog w) hu q h
theorem Ia {a:IA} {v:Value} {b:Addr} {items:Array Value} {Q:Bool->Shared->Prop} (hu:A.units < cLine) (hk:qc a v=true) (ht:s.heap.IsTuple b items) (h:Q false s):wpAny (model prog w) A (UI v (.ref b)) Q E s:=by
 rcases eL hk with ⟨rfl,rfl⟩ | ⟨i,t,rfl,rfl⟩ | ⟨c,rfl,rfl⟩
 ·exact NL.none_tuple ht hu _ _ _ _ h
 ·exact NL.int_tuple _ _ ht hu _ _ _ _ h
 ·exact NL.bool_tuple _ ht hu _ _ _ _ h
theorem Ib {a:IA} {v:Value} {b:Addr} {items:Array Value} {Q:Bool->Shared->Prop} (hu:A.units < cLine) (hk:qc a v=true) (ht:s.heap.IsTuple b items) (h:Q false s):wpAny (model prog w) A (UI (.ref b) v) Q E s:=by
 rcases eL hk with ⟨rfl,rfl⟩ | ⟨i,t,rfl,rfl⟩ | ⟨c,rfl,rfl⟩
 ·exact NL.tuple_none ht hu _ _ _ _ h
 ·exact NL.tuple_int _ _ ht hu _ _ _ _ h
 ·exact NL.tuple_bool _ ht hu _ _ _ _ h
theorem Kc {x y:IK} {u v:Value} {Q:Bool->Shared->Prop} (hu:A.units < cLine) (hx:dw prog w s.heap x u) (hy:dw prog w s.heap y v) (h:Q (decide (x=y)) s):wpAny (model prog w) A (UI u v) Q E s:=by
 cases x with
 | inl a=>cases y with
  | inl b=>
   refine (dc prog w).eqBool (a:=a) (b:=b) hx hy ?_
   rw [show decide (a=b)=decide ((OZ a:IK)=OZ b) from decide_eq_decide.mpr ⟨fun e=>by rw [e],fun e=>Vd e⟩]
   exact h
  | inr bs=>
   obtain ⟨c,rfl,q⟩:=hy
   obtain ⟨items,ht⟩:=wm q
   refine Ia hu hx ht ?_
   rw [decide_eq_false (fun e=>nomatch e)] at h
   exact h
 | inr as=>cases y with
  | inl b=>
   obtain ⟨c,rfl,q⟩:=hx
   obtain ⟨items,ht⟩:=wm q
   refine Ib hu hy ht ?_
   rw [decide_eq_false (fun e=>nomatch e)] at h
   exact h
  | inr bs=>
   obtain ⟨c,rfl,q⟩:=hx
   obtain ⟨d,rfl,q'⟩:=hy
   refine wpAny_eqBool_tuple (knd:=dc prog w) hu q q' ?_
   rw [show decide (as=bs)=decide ((O0 as:IK)=O0 bs) from decide_eq_decide.mpr ⟨fun e=>by rw [e],fun e=>QI e⟩]
   exact h
noncomputable def Br (ks:List IK):Nat:=(ks.map oZ).sum + 1
theorem Gi {ks:List IK} {a:Addr} {Q:Int->Shared->Prop} (hu:A.units + 1 < cLine) (hk:iQ prog w s.heap ks a) (h:Q (AF ks) { s with toks:=s.toks + Br ks }):
  wpAny (model prog w) A (pyHash (.ref a)) Q E s:=by
 have hT:=hk.typeIs
 obtain ⟨o,items,n,ho,_,hd,hi⟩:=hk
 have hu0:A.units < cLine:=by omega
 unfold pyHash
 first | unfold pyHashByItsType | skip
 first | refine M1 (wpAny_cRoomFor_or (.inr hu0) ?_) | skip
 refine M1 (OF hT Q4.lookup ?_)
 show wpAny _ _ (if (some (Uk "tuple.__hash__") == some Ou)=true then _ else _) Q E s
 rw [if_neg (by rw [SW]; exact Nk)]
 refine M1 (OF hT Q4.lookup ?_)
 show wpAny _ _ (Qu (.ref a) "__hash__" _ >>= _) Q E s
 refine M1 (PD hT Q4 (NV Q4 hT F.entry_tuple_hash ?_ (F.args_tuple_hash_1 _)))
 show wpAny _ _ (Sd (.ref a) >>= _) _ _ s
 refine M1 (RY ho hd ?_)
 refine M1 ?_
 rw [<-Qn]
 refine Rf _
  (fun dy (b:Array Int) s'=>∃ done left,ks=done++left/\Paired (dw prog w s.heap) left dy/\b.toList=done.map mV/\s'={ s with toks:=s.toks + (done.map oZ).sum })
  _ ?_ ?_ _ _ ⟨[],ks,rfl,hi,rfl,rfl⟩
 ·rintro x dy b s' ⟨done,left,rfl,hl,hb,rfl⟩
  cases hl with
  | @cons k _ ks' _ h1 hl'=>
   refine M1 (Gh (k:=k) hu h1 ?_)
   have e:(done.map oZ).sum + oZ k=((done++[k]).map oZ).sum:=by simp
   first
    | exact M5 ⟨done++[k],ks',by simp,hl',by simp [hb],by rw [<-e]; simp [Sf]⟩
    | exact M1 (M5 (M5 ⟨done++[k],ks',by simp,hl',by simp [hb],by rw [<-e]; simp [Sf]⟩))
 ·rintro b s' ⟨done,left,rfl,hl,hb,rfl⟩
  cases hl
  rw [O6] at h
  show wpAny _ _ (retInt (OK b.toList)) _ _ _
  rw [hb]
  refine Rv ?_
  show wpAny _ _ (if (decide (-(2:Int) ^ 63<=OK (done.map mV)) && decide (OK (done.map mV) < 2 ^ 63))=true then _ else _) Q E _
  unfold AF VZ Br at h
  by_cases hr:(decide (-(2:Int) ^ 63<=OK (done.map mV)) && decide (OK (done.map mV) < 2 ^ 63))=true
  ·rw [if_pos hr]
   rw [if_pos hr] at h
   exact M5 (by simpa [Sf] using h)
  ·rw [if_neg hr]
   rw [if_neg hr] at h
   exact M1 (Pp (M5 (by simpa [Sf] using h)))
theorem Eu {x y:List IK} {a b:Addr} {P:Fin->Shared->Prop} (hu:A.units < cLine) (hx:iQ prog w s.heap x a) (hy:iQ prog w s.heap y b) (h:P (.done (.ret (.bool (decide (x=y))))) s):
  wpAny (model prog w) A (Builtin.«tuple.__eq__» ⟨[.ref a,.ref b],[]⟩) P E s:=by
 have hTb:=hy.typeIs
 obtain ⟨oa,xs,na,hoa,_,hda,hia⟩:=hx
 obtain ⟨ob,ys,nb,hob,_,hdb,hib⟩:=hy
 show wpAny _ _ (V1 (.ref b) (.type "tuple") >>= _) _ _ s
 refine M1 (Pb hTb Ri ?_)
 simp only [QH,Oi,if_false]
 refine M1 (RY hoa hda ?_)
 refine M1 (RY hob hdb ?_)
 refine M1 ?_
 refine Rf _
  (fun dy r s'=>r.1=none/\s'=s/\∃ x' y' xs' ys',dy=List.zip xs' ys'/\Paired (dw prog w s.heap) x' xs'/\Paired (dw prog w s.heap) y' ys'/\decide (x'=y')=decide (x=y)/\(xs'.length == ys'.length)=(xs.size == ys.size))
  _ ?_ ?_ _ _ ⟨rfl,rfl,x,y,xs.toList,ys.toList,rfl,hia,hib,rfl,by simp⟩
 ·rintro ⟨u,v⟩ dy r s' ⟨hr,rfl,x',y',xs',ys',hz,hx',hy',hdec,hlen⟩
  cases hx' with
  | nil=>simp at hz
  | @cons k1 u' x'' xs'' h1 hx''=>
   cases hy' with
   | nil=>simp at hz
   | @cons k2 v' y'' ys'' h2 hy''=>
    simp only [OG,List.cons.injEq,Prod.mk.injEq] at hz
    obtain ⟨⟨rfl,rfl⟩,rfl⟩:=hz
    refine M1 (Kc (x:=k1) (y:=k2) hu h1 h2 ?_)
    by_cases hk:k1=k2
    ·subst hk
     rw [decide_eq_true rfl]
     simp only [QH,Oi,if_false]
     refine M5 ⟨rfl,rfl,x'',y'',xs'',ys'',rfl,hx'',hy'',?_,by simpa using hlen⟩
     rw [<-hdec]
     by_cases hxy:x''=y''
     ·simp [hxy]
     ·simp [hxy]
    ·rw [decide_eq_false hk]
     simp only [Bool.not_false,if_true]
     have hf:decide (x=y)=false:=by rw [<-hdec]; simp [hk]
     rw [hf] at h
     exact M1 (M5 (M5 (M5 h)))
 ·rintro ⟨r1,r2⟩ s' ⟨hr,rfl,x',y',xs',ys',hz,hx',hy',hdec,hlen⟩
  simp only at hr
  subst hr
  refine M5 ?_
  have hfin:(xs.size == ys.size)=decide (x=y):=by
   rw [<-hdec,<-hlen]
   cases hx' with
   | nil=>
    cases hy' with
    | nil=>simp
    | cons _ _=>simp
   | cons _ _=>
    cases hy' with
    | nil=>simp
    | cons _ _=>simp at hz
  show P (.done (.ret (.bool (xs.size == ys.size)))) s'
  rw [hfin]; exact h
theorem Gj {x y:List IK} {a b:Addr} {Q:Bool->Shared->Prop} (hu:A.units + 1 < cLine) (hx:iQ prog w s.heap x a) (hy:iQ prog w s.heap y b) (h:Q (decide (x=y)) s):
  wpAny (model prog w) A (eqBool (.ref a) (.ref b)) Q E s:=by
 unfold eqBool
 try with_reducible refine On ?_
 show wpAny _ _ (if (NI a == NI b)=true then _ else _) Q E s
 by_cases hab:(NI a == NI b)=true
 ·rw [if_pos hab]
  have e:a=b:=by have:=eq_of_beq hab; injection this
  subst e
  obtain rfl:=hx.inj hy
  exact M1 (Pp (M5 (by simpa using h)))
 ·rw [if_neg hab]
  exact M1 (wpAny_richCompare_same_room (op:=.Eq) hx.typeIs hy.typeIs Rw
   (NV Rw hx.typeIs F.entry_tuple_eq (Eu hu hx hy ⟨_,rfl,(fun e=>nomatch e),Pi h⟩) (F.args_tuple_eq_2 _ _)) (by omega))
theorem CO {n:Nat} {ks:List IA} {a:Addr} {Q:Bool->Shared->Prop} (hk:V0 (dc prog w) s.heap ks a) (h:Q true s):wpAny (model prog w) A (Tg (n + 1) (.ref a)) Q E s:=by
 have hT:=hk.typeIs
 obtain ⟨o,items,_,ho,_,hd,hi⟩:=hk
 unfold Tg
 refine M1 (OF hT Rw.lookup ?_)
 show wpAny _ _ (V1 (.ref a) (.type "tuple") >>= _) _ _ s
 refine M1 (Pb hT Ri ?_)
 simp only [QH,Oi,if_false]
 refine M1 (Oj ho hd ?_)
 refine M1 ?_
 show wpAny _ _ (forIn items _ _) _ _ s
 rw [<-Qn]
 refine Rf _ (fun dy r s'=>r.1=none/\s'=s/\∀ v∈dy,carriedByValue v=true) _ ?_ ?_ _ _ ⟨rfl,rfl,hi.byValue⟩
 ·rintro v dy r s' ⟨hr,rfl,hall⟩
  rw [UU _ (hall v Nd)]
  refine M1 (M5 ?_)
  simp only [QH,Oi,if_false]
  exact M5 ⟨rfl,rfl,fun u hu'=>hall u (Nn _ hu')⟩
 ·rintro ⟨r1,r2⟩ s' ⟨hr,rfl,_⟩
  simp only at hr
  subst hr
  exact M5 h
theorem Ic {ks:List IK} {a:Addr} {Q:Bool->Shared->Prop} (hk:iQ prog w s.heap ks a) (h:Q true s):wpAny (model prog w) A (Tg 8 (.ref a)) Q E s:=by
 have hT:=hk.typeIs
 obtain ⟨o,items,n,ho,_,hd,hi⟩:=hk
 unfold Tg
 refine M1 (OF hT Rw.lookup ?_)
 show wpAny _ _ (V1 (.ref a) (.type "tuple") >>= _) _ _ s
 refine M1 (Pb hT Ri ?_)
 simp only [QH,Oi,if_false]
 refine M1 (Oj ho hd ?_)
 refine M1 ?_
 show wpAny _ _ (forIn items _ _) _ _ s
 rw [<-Qn]
 refine Rf _ (fun dy r s'=>r.1=none/\s'=s/\∃ ks,Paired (dw prog w s.heap) ks dy) _ ?_ ?_ _ _ ⟨rfl,rfl,ks,hi⟩
 ·rintro v dy r s' ⟨hr,rfl,ks,hall⟩
  cases hall with
  | @cons k _ ks' _ h1 hl=>
   refine M1 ?_
   have fin:wpAny (model prog w) A (Tg 7 v) (fun b s2=>b=true/\s2=s') E s':=by
    cases k with
    | inl a'=>rw [UU _ ((dc prog w).byValue _ _ h1)]; exact M5 ⟨rfl,rfl⟩
    | inr as=>obtain ⟨b,rfl,q⟩:=h1; exact CO (n:=6) q ⟨rfl,rfl⟩
   refine OM fin (fun b s2 ⟨e1,e2⟩=>?_) fun _ _ x=>x
   subst e1 e2
   simp only [QH,Oi,if_false]
   exact M5 ⟨rfl,rfl,ks',hl⟩
 ·rintro ⟨r1,r2⟩ s' ⟨hr,rfl,_⟩
  simp only at hr
  subst hr
  exact M5 h
end
noncomputable def mW (prog:Program) (w:World):HeapKind prog w (List IK) where
 is:=iQ prog w
 hash:=AF
 draws:=Br
 room:=fun A=>A.units + 1 < cLine
 inj:=fun hx hy=>hx.inj hy
 keeps:=fun x ho hd hs=>x.keeps ho hd hs
 pyHash:=fun hu hk h=>Gi hu hk h
 eqBool:=fun hu hx hy h=>Gj hu hx hy h
 quiet:=fun hk h=>Ic hk h
noncomputable def DA (a:Addr) (kvs:List (IA×V)) (h:Heap):Prop:=kvs.length<=Nh/\(a == O4)=false/\∃ (P:Program) (w:World) (vs:List (IA×Value)),KV kvs vs/\h.DictOf (dc P w) a vs
noncomputable def ZX:List (List IK×Addr×V)->List (List IK×Addr×Value)->Prop:=Paired fun z x=>z.1=x.1/\z.2.1=x.2.1/\aK z.2.2 x.2.2
noncomputable def DB (a:Addr) (zs:List (List IK×Addr×V)) (h:Heap):Prop:=zs.length<=Nh/\(a == O4)=false/\∃ xs:List (List IK×Addr×Value),ZX zs xs/\
 ∃ o es ep,h.get? a=some o/\o.ExactDict/\o.data=.dict es ep/\es.toList=xs.map (fun x=>⟨AF x.1,.ref x.2.1,x.2.2⟩)/\(xs.map (·.1)).Nodup
noncomputable def dA (a:Addr) (kvs:List (IA×V)):HO:=.ext (DA a kvs)
noncomputable def dB (a:Addr) (zs:List (List IK×Addr×V)):HO:=.ext (DB a zs)
noncomputable def atZ (zs:List (List IK×Addr×V)) (k:List IK):Option V:=(zs.find? fun p=>decide (p.1=k)).map (·.2.2)
noncomputable def Dx (H:Hp) (a:Addr) (s:Bool) (f:MK->Option V) (n:Nat):Prop:=
 (s=false/\∃ kvs,H a=some (dA a kvs)/\(∀ k,eF kvs k=f (.inl k))/\kvs.length<=n)\/
 (s=true/\∃ zs,H a=some (dB a zs)/\(∀ z∈zs,ci H (.ref z.2.1) (.inr z.1))/\(∀ k,atZ zs k=f (.inr k))/\zs.length<=n)
section
variable {H H':Hp} {a b:Addr} {s:Bool} {f g:MK->Option V} {n m:Nat}
theorem Dx.ext (h:Dx H a s f n):∃ φ,H a=some (.ext φ):=by
 rcases h with ⟨_,kvs,e,_⟩ | ⟨_,zs,e,_⟩
 ·exact ⟨_,e⟩
 ·exact ⟨_,e⟩
theorem Dx.keep (h:Dx H a s f n) (e:H' a=H a) (kp:fb H H'):Dx H' a s f n:=by
 rcases h with ⟨hs,kvs,h1,h2⟩ | ⟨hs,zs,h1,h2,h3⟩
 ·exact .inl ⟨hs,kvs,e.trans h1,h2⟩
 ·exact .inr ⟨hs,zs,e.trans h1,fun z hz=>(h2 z hz).keep kp,h3⟩
theorem Dx.same (h:Dx H a s f n) (q:am H H'):Dx H' a s f n:=by
 obtain ⟨φ,h1⟩:=h.ext
 exact h.keep ((q _ _ h1).trans h1.symm) q.keep
theorem Dx.ne_lst {xs:List V} (h:Dx H a s f n) (e:H b=some (.lst xs)):b≠a:=by
 obtain ⟨φ,h1⟩:=h.ext
 exact Az e h1 (fun z=>nomatch z)
theorem Dx.ne_tup {xs:List V} (h:Dx H a s f n) (e:H b=some (.tup xs)):b≠a:=by
 obtain ⟨φ,h1⟩:=h.ext
 exact Az e h1 (fun z=>nomatch z)
theorem Dx.le (h:Dx H a s f n) (e:n<=m):Dx H a s f m:=by
 rcases h with ⟨hs,kvs,h1,h2,h3⟩ | ⟨hs,zs,h1,h2,h3,h4⟩
 ·exact .inl ⟨hs,kvs,h1,h2,NQ h3 e⟩
 ·exact .inr ⟨hs,zs,h1,h2,h3,NQ h4 e⟩
theorem Dx.congr (h:Dx H a s f n) (e:∀ k,f k=g k):Dx H a s g n:=by
 rcases h with ⟨hs,kvs,h1,h2,h3⟩ | ⟨hs,zs,h1,h2,h3,h4⟩
 ·exact .inl ⟨hs,kvs,h1,fun k=>(h2 k).trans (e _),h3⟩
 ·exact .inr ⟨hs,zs,h1,h2,fun k=>(h3 k).trans (e _),h4⟩
end
end
theorem Dx.off {H H':Hp} {a l:Addr} {s:Bool} {f:MK->Option V} {n:Nat} {xs:List V} (h:Dx H a s f n) (e:H l=some (.lst xs)) (o:Off l H H'):Dx H' a s f n:=
 h.keep (o a (h.ne_lst e).symm) (o.keep e)
theorem Dx.offK {H H':Hp} {a:Addr} {s:Bool} {f:MK->Option V} {n:Nat} (h:Dx H a s f n) (o:Off a H H'):fb H H':=o.keepD fun xs e=>h.ne_tup e rfl
noncomputable def o0:TE:=fun _ H Q=>∃ s,∀ p H',H p=none->am H H'->Dx H' p s (fun _=>none) 0->Q (.ref p) H'
theorem tN {σ:St} {H:Hp} {Q:VK} (s:Bool) (h:∀ p H',H p=none->am H H'->Dx H' p s (fun _=>none) 0->Q (.ref p) H'):o0 σ H Q:=⟨s,h⟩
noncomputable def vn (neg:Bool):R2:=fun y x H Q=>∃ a s f n k,x=.ref a/\Dx H a s f n/\ci H y k/\gn k=s/\Q (.bl (if neg then (f k).isNone else (f k).isSome)) H
noncomputable def AG:R2:=fun x y H Q=>∃ a s f n k v,x=.ref a/\Dx H a s f n/\ci H y k/\gn k=s/\f k=some v/\Q v H
noncomputable def i4 (f:MK->Option V) (k:MK) (v:V):MK->Option V:=fun j=>if j=k then some v else f j
noncomputable def wn:A4:=fun o i v H R=>∃ a s f n k,o=.ref a/\Dx H a s f n/\ci H i k/\gn k=s/\n < Nh/\∀ H',Off a H H'->Dx H' a s (i4 f k v) (n + 1)->R H'
noncomputable def Bs:V->List V->Hp->VK->Prop:=fun x ys H Q=>∃ a s f n k y v,x=.ref a/\ys=[y,v]/\Dx H a s f n/\ci H y k/\gn k=s/\n < Nh/\(∀ u,f k=some u->Q u H)/\
 (f k=none->∀ H',Off a H H'->Dx H' a s (i4 f k v) (n + 1)->Q v H')
noncomputable def tXM (r:V->List V->Hp->VK->Prop) (to:TE) (t:TA):TE:=fun σ H Q=>to σ H fun x H1=>(∃ a s f n,x=.ref a/\Dx H1 a s f n)/\t σ H1 fun ys H2=>r x ys H2 Q
section
variable {σ:St} {H:Hp} {Q:VK} {a:Addr} {s:Bool} {f:MK->Option V} {n:Nat} {k:MK} {y v:V}
theorem Bt (d:Dx H a s f n) (hk:ci H y k) (hs:gn k=s) (h:Q (.bl (f k).isNone) H):vn true y (.ref a) H Q:=⟨a,s,f,n,k,rfl,d,hk,hs,h⟩
theorem Gk (d:Dx H a s f n) (hk:ci H y k) (hs:gn k=s) (e:f k=some v) (h:Q v H):AG (.ref a) y H Q:=⟨a,s,f,n,k,v,rfl,d,hk,hs,e,h⟩
theorem Bu {R:Hp->Prop} (d:Dx H a s f n) (hk:ci H y k) (hs:gn k=s) (hn:n < Nh) (h:∀ H',Off a H H'->Dx H' a s (i4 f k v) (n + 1)->R H'):wn (.ref a) y v H R:=⟨a,s,f,n,k,rfl,d,hk,hs,hn,h⟩
theorem Kd (d:Dx H a s f n) (hk:ci H y k) (hs:gn k=s) (hn:n < Nh) (h1:∀ u,f k=some u->Q u H) (h2:f k=none->∀ H',Off a H H'->Dx H' a s (i4 f k v) (n + 1)->Q v H'):Bs (.ref a) [y,v] H Q:=⟨a,s,f,n,k,y,v,rfl,rfl,d,hk,hs,hn,h1,h2⟩
theorem MY {r:V->List V->Hp->VK->Prop} {to:TE} {t:TA} (h:to σ H fun x H1=>(∃ a s f n,x=.ref a/\Dx H1 a s f n)/\t σ H1 fun ys H2=>r x ys H2 Q):tXM r to t σ H Q:=h
end
section
variable {α:Type} [DecidableEq α] {ks:List α} {i:Nat} {k:α}
noncomputable def gA (ks:List α) (i:Nat):α->Option V:=fun k=>if k∈ks.take i then some (.int (ks.idxOf k:Nat)) else none
theorem wo (hk:ks[i]?=some k) (h:k∈ks.take i) (j:α):gA ks i j=gA ks (i + 1) j:=by
 unfold gA
 rw [bX hk]
 by_cases q:j∈ks.take i
 ·rw [if_pos q,if_pos (Ow _ q)]
 ·rw [if_neg q,if_neg]
  intro z
  rcases NH.mp z with z | z
  ·exact q z
  ·rw [M8.mp z] at q; exact q h
theorem wp (hk:ks[i]?=some k) (h:k∉ks.take i) (j:α):(if j=k then some (V.int (i:Nat)) else gA ks i j)=gA ks (i + 1) j:=by
 unfold gA
 rw [bX hk]
 by_cases q:j=k
 ·subst q
  rw [if_pos rfl,if_pos (by simp),zq hk h]
 ·rw [if_neg q]
  by_cases z:j∈ks.take i
  ·rw [if_pos z,if_pos (Ow _ z)]
  ·rw [if_neg z,if_neg]
   intro w
   rcases NH.mp w with w | w
   ·exact z w
   ·exact q (M8.mp w)
theorem nU (h:k∈ks.take i):gA ks i k=some (.int (ks.idxOf k:Nat)):=if_pos h
theorem uI (h:k∉ks.take i):gA ks i k=none:=if_neg h
theorem CP (hk:ks[i]?=some k):k∈ks.take (i + 1):=by rw [bX hk]; simp
theorem uJ (k:α):none=gA ks 0 k:=(if_neg (by simp)).symm
theorem rS (hk:ks[i]?=some k):(bm ks).take (i + 1)=(bm ks).take i++[ks.idxOf k]:=bX (by unfold bm; rw [Nm,hk]; rfl)
end
end L2
section
namespace KM
noncomputable def bc:Nat->Nat
 | 0=>1
 | n + 1=>bc n * (n + 1)
noncomputable def choose:Nat->Nat->Nat
 | _,0=>1
 | 0,_ + 1=>0
 | n + 1,k + 1=>choose n k + choose n (k + 1)
theorem h7:∀ n,0 < bc n
 | 0=>by decide
 | n + 1=>Vj (h7 n) (UJ n)
theorem kW (n:Nat):choose n 0=1:=by cases n <;> rfl
theorem nV:∀ (n k:Nat),n < k->choose n k=0
 | _,0,h=>absurd h (Rx _)
 | 0,_ + 1,_=>rfl
 | n + 1,k + 1,h=>by rw [choose,nV n k (by omega),nV n (k + 1) (by omega)]
theorem uK:∀ n,choose n n=1
 | 0=>rfl
 | n + 1=>by rw [choose,uK n,nV n (n + 1) (by omega)]
theorem iW:∀ (n k:Nat),k<=n->choose n k * (bc k * bc (n - k))=bc n
 | n,0,_=>by rw [kW,bc,Nat.sub_zero,Vk,Vk]
 | 0,_ + 1,h=>absurd h (by omega)
 | n + 1,k + 1,h=>by
  rw [choose,Vl]
  by_cases hk:k=n
  ·subst hk
   rw [uK,nV k (k + 1) (by omega),UK]
   simp [bc]
  ·have hk':k + 1<=n:=by omega
   have e1:=iW n k (by omega)
   have e2:=iW n (k + 1) hk'
   have s1:n + 1 - (k + 1)=n - k:=by omega
   have s2:n - k=(n - (k + 1)) + 1:=by omega
   rw [s1]
   have a1:choose n k * (bc (k + 1) * bc (n - k))=(k + 1) * bc n:=by
    rw [<-e1,bc]
    simp only [OY,Pa,PJ]
   have a2:choose n (k + 1) * (bc (k + 1) * bc (n - k))=(n - k) * bc n:=by
    have s3:bc (n - k)=bc (n - (k + 1)) * (n - k):=by
     rw [s2,bc,<-s2]
    rw [<-e2,s3]
    simp only [OY,Pa,PJ]
   rw [a1,a2,<-Vl,bc,Pa]
   congr 1
   omega
theorem CQ (n k:Nat) (h:k + 1<=n):choose n k * (n - k) / (k + 1)=choose n (k + 1):=by
 have e1:=iW n k (by omega)
 have e2:=iW n (k + 1) h
 have s2:n - k=(n - (k + 1)) + 1:=by omega
 have p:0 < bc k * bc (n - (k + 1)):=Vj (h7 _) (h7 _)
 have q:choose n k * (n - k)=choose n (k + 1) * (k + 1):=by
  have:choose n k * (n - k) * (bc k * bc (n - (k + 1)))=choose n (k + 1) * (k + 1) * (bc k * bc (n - (k + 1))):=by
   have l:choose n k * (n - k) * (bc k * bc (n - (k + 1)))=bc n:=by
    rw [<-e1,show bc (n - k)=bc (n - (k + 1)) * (n - k) by rw [s2,bc,<-s2]]
    simp only [OY,Pa,PJ]
   have r:choose n (k + 1) * (k + 1) * (bc k * bc (n - (k + 1)))=bc n:=by
    rw [<-e2,bc]
    simp only [OY,Pa,PJ]
   rw [l,r]
  exact Sg p this
 rw [q,Nat.mul_div_cancel _ (UJ k)]
noncomputable def cA:Nat->List Nat->Nat
 | _,[]=>1
 | n,s :: r=>choose n s * cA (n - s) r
theorem qd:∀ (ss:List Nat) (n:Nat),ss.sum<=n->cA n ss * ((ss.map bc).foldr (· * ·) 1 * bc (n - ss.sum))=bc n
 | [],n,_=>by simp [cA]
 | s :: r,n,h=>by
  rw [NG] at h
  have ih:=qd r (n - s) (by omega)
  have c:=iW n s (by omega)
  rw [cA,Nt,List.foldr_cons,NG,<-c,<-ih,Nat.sub_sub]
  simp only [OY,Pa,PJ]
end KM
end
section
namespace KM
noncomputable def tQ (room:List Nat) (w:List Nat):List Nat:=(NC room.length).filter fun j=>decide (w.count j < room.getD j 0)
noncomputable def grow (room:List Nat) (ws:List (List Nat)):List (List Nat):=ws.flatMap fun w=>(tQ room w).map fun j=>w++[j]
noncomputable def bR (room:List Nat):Nat->List (List Nat)
 | 0=>[[]]
 | i + 1=>grow room (bR room i)
noncomputable def words:Nat->List Nat->Nat
 | 0,_=>1
 | n + 1,r=>(((NC r.length).filter fun j=>decide (0 < r.getD j 0)).map fun j=>words n (r.set j (r.getD j 0 - 1))).sum
noncomputable def left (room w:List Nat):List Nat:=(NC room.length).map fun j=>room.getD j 0 - w.count j
theorem mX (room w:List Nat):(left room w).length=room.length:=by unfold left; rw [M6,OO]
theorem Bv (room w:List Nat) (j:Nat) (h:j < room.length):(left room w).getD j 0=room.getD j 0 - w.count j:=by
 unfold left
 rw [Np,Nm,OL h]
 rfl
theorem Gm (room w:List Nat) (j:Nat) (h:j < room.length):left room (w++[j])=(left room w).set j ((left room w).getD j 0 - 1):=by
 apply PH
 intro k
 by_cases hk:k < room.length
 ·have e1:(left room (w++[j]))[k]?=some (room.getD k 0 - (w++[j]).count k):=by
   unfold left
   rw [Nm,OL hk]
   rfl
  rw [e1,Qx,Bv room w j h,mX]
  by_cases hjk:j=k
  ·subst hjk
   rw [if_pos rfl,if_pos h,Ss]
   simp
   omega
  ·rw [if_neg hjk]
   unfold left
   rw [Nm,OL hk,Ss]
   simp [V3,hjk]
 ·rw [NR (by rw [mX]; omega),NR (by rw [Pk,mX]; omega)]
theorem Ev (room w:List Nat):tQ room w=(NC (left room w).length).filter fun j=>decide (0 < (left room w).getD j 0):=by
 unfold tQ
 rw [mX]
 apply List.filter_congr
 intro j hj
 rw [O1] at hj
 rw [Bv room w j hj]
 by_cases h:w.count j < room.getD j 0
 ·simp [h]
  omega
 ·simp [h]
  omega
noncomputable def tS (room:List Nat):Nat->List (List Nat)->List (List Nat)
 | 0,ws=>ws
 | n + 1,ws=>tS room n (grow room ws)
theorem oI (room:List Nat):∀ n i,tS room n (bR room i)=bR room (i + n)
 | 0,i=>rfl
 | n + 1,i=>by
  rw [tS,show grow room (bR room i)=bR room (i + 1) from rfl,oI room n (i + 1)]
  congr 1
  omega
theorem nW (f:List Nat->Nat) (room:List Nat):∀ ws:List (List Nat),((grow room ws).map f).sum=(ws.map fun w=>((tQ room w).map fun j=>f (w++[j])).sum).sum
 | []=>rfl
 | w :: r=>by
  have ih:=nW f room r
  unfold grow at ih ⊢
  rw [Su,Ny,OE,ih,Nt,NG,PQ]
  rfl
theorem rT (room:List Nat):∀ (n:Nat) (ws:List (List Nat)),(tS room n ws).length=(ws.map fun w=>words n (left room w)).sum
 | 0,ws=>by
  rw [tS]
  induction ws with
  | nil=>rfl
  | cons w r ih=>rw [NK,ih,Nt,NG,words]; omega
 | n + 1,ws=>by
  rw [tS,rT room n,nW]
  congr 1
  apply Pl
  intro w _
  rw [words,Ev]
  congr 1
  apply Pl
  intro j hj
  have hj':=Py.mp hj
  rw [O1,mX] at hj'
  rw [Gm room w j hj'.1]
noncomputable def de (r:List Nat):Nat:=(r.map bc).foldr (· * ·) 1
theorem ir (a:Nat) (r:List Nat):de (a :: r)=bc a * de r:=rfl
theorem zt:∀ r,0 < de r
 | []=>by decide
 | a :: r=>Vj (h7 a) (zt r)
theorem zu:∀ (r:List Nat) (j:Nat),j < r.length->0 < r.getD j 0->de r=de (r.set j (r.getD j 0 - 1)) * r.getD j 0
 | [],j,h,_=>absurd h (by simp)
 | a :: r,0,_,h=>by
  have h':0 < a:=h
  show de (a :: r)=de ((a - 1) :: r) * a
  rw [ir,ir]
  obtain ⟨b,rfl⟩:∃ b,a=b + 1:=⟨a - 1,by omega⟩
  rw [show b + 1 - 1=b by omega,bc]
  simp only [OY,Pa,PJ]
 | a :: r,j + 1,h,hp=>by
  have ih:=zu r j (by simpa using h) hp
  show de (a :: r)=de (a :: r.set j (r.getD j 0 - 1)) * r.getD j 0
  rw [ir,ir,ih]
  simp only [OY,Pa,PJ]
theorem yp:∀ (r:List Nat) (j:Nat),j < r.length->0 < r.getD j 0->(r.set j (r.getD j 0 - 1)).sum + 1=r.sum
 | [],j,h,_=>absurd h (by simp)
 | a :: r,0,_,h=>by
  have h':0 < a:=h
  show ((a - 1) :: r).sum + 1=(a :: r).sum
  rw [NG,NG]
  omega
 | a :: r,j + 1,h,hp=>by
  have ih:=yp r j (by simpa using h) hp
  show (a :: r.set j (r.getD j 0 - 1)).sum + 1=(a :: r).sum
  rw [NG,NG]
  omega
theorem yq (c:Nat) (f:Nat->Nat):∀ l:List Nat,(l.map f).sum * c=(l.map fun j=>f j * c).sum
 | []=>by simp
 | a :: r=>by rw [Nt,NG,Vl,yq c f r,Nt,NG]
theorem Bw (r:List Nat):(((NC r.length).filter fun j=>decide (0 < r.getD j 0)).map fun j=>r.getD j 0).sum=r.sum:=by
 have go:∀ (l:List Nat) (g:Nat->Nat),((l.filter fun j=>decide (0 < g j)).map g).sum=(l.map g).sum:=by
  intro l g
  induction l with
  | nil=>rfl
  | cons a t ih=>
   rw [Pe]
   by_cases h:0 < g a
   ·rw [if_pos (by simpa using h),Nt,NG,ih,Nt,NG]
   ·rw [if_neg (by simpa using h),ih,Nt,NG]
    omega
 rw [go]
 congr 1
 apply PH
 intro k
 rw [Nm]
 by_cases hk:k < r.length
 ·rw [OL hk,M7 hk]
  show some (r.getD k 0)=some r[k]
  rw [Np,M7 hk]
  rfl
 ·rw [NR (by simpa using hk),NR (by simpa using hk)]
  rfl
theorem qe:∀ (n:Nat) (r:List Nat),r.sum=n->words n r * de r=bc n
 | 0,r,h=>by
  have:de r=1:=by
   induction r with
   | nil=>rfl
   | cons a t ih=>
    rw [NG] at h
    have ha:a=0:=by omega
    subst ha
    rw [ir,ih (by omega)]
    rfl
  rw [words,this]
  rfl
 | n + 1,r,h=>by
  rw [words,yq]
  have e:((NC r.length).filter fun j=>decide (0 < r.getD j 0)).map (fun j=>words n (r.set j (r.getD j 0 - 1)) * de r)=((NC r.length).filter fun j=>decide (0 < r.getD j 0)).map (fun j=>r.getD j 0 * bc n):=by
   apply Pl
   intro j hj
   have hj':=Py.mp hj
   rw [O1] at hj'
   have hp:0 < r.getD j 0:=of_decide_eq_true hj'.2
   rw [zu r j hj'.1 hp,<-OY,qe n _ (by have:=yp r j hj'.1 hp; omega),Pa]
  rw [e,<-yq,Bw,h,bc,Pa]
theorem Id (room:List Nat):left room []=room:=by
 apply PH
 intro k
 unfold left
 rw [Nm]
 by_cases hk:k < room.length
 ·rw [OL hk,M7 hk]
  show some (room.getD k 0 - ([]:List Nat).count k)=some room[k]
  rw [Np,M7 hk]
  simp
 ·rw [NR (by simpa using hk),NR (by simpa using hk)]
  rfl
theorem Gn (room:List Nat):(bR room room.sum).length * de room=bc room.sum:=by
 have e:=oI room room.sum 0
 rw [Nat.zero_add] at e
 rw [<-e,rT]
 show (List.map (fun w=>words room.sum (left room w)) [[]]).sum * de room=bc room.sum
 rw [Nt,QA,NG,QC,Id,Nat.add_zero]
 exact qe _ _ rfl
structure JF (room:List Nat) (i:Nat) (w:List Nat):Prop where
 len:w.length=i
 all:∀ j∈w,j < room.length
 cnt:∀ j,j < room.length->w.count j<=room.getD j 0
theorem gO (room:List Nat):∀ i,∀ w∈bR room i,JF room i w
 | 0,w,h=>by
  have:w=[]:=by simpa [bR] using h
  subst this
  exact ⟨rfl,fun _ h=>(nomatch h),fun j _=>by simp⟩
 | i + 1,w,h=>by
  rw [bR,grow,Vz] at h
  obtain ⟨v,hv,h⟩:=h
  obtain ⟨j,hj,rfl⟩:=Os.mp h
  have b:=gO room i v hv
  have hj':=Py.mp hj
  rw [O1] at hj'
  have hc:v.count j < room.getD j 0:=of_decide_eq_true hj'.2
  refine ⟨by rw [Nx,b.len]; rfl,fun k hk=>?_,fun k hk=>?_⟩
  ·rcases NH.mp hk with hk | hk
   ·exact b.all k hk
   ·rw [M8] at hk
    omega
  ·rw [Ss]
   by_cases e:j=k
   ·subst e
    rw [List.count_singleton_self]
    omega
   ·have:=b.cnt k hk
    rw [List.count_singleton,if_neg (by simpa using e)]
    omega
theorem wq:∀ (n:Nat) (w:List Nat),(∀ j∈w,j < n)->((NC n).map fun j=>w.count j).sum=w.length
 | n,[] , _=>by
  have:((NC n).map fun j=>([]:List Nat).count j)=(NC n).map fun _=>0:=by simp
  rw [this]
  have go:∀ m,((NC m).map fun _=>0).sum=0:=by
   intro m
   induction m with
   | zero=>rfl
   | succ m ih=>rw [PY,Ny,OE,ih]; rfl
  exact go n
 | n,a :: w,h=>by
  have ih:=wq n w fun j hj=>h j (Nn _ hj)
  have ha:a < n:=h a Nd
  rw [NK,<-ih]
  clear ih h
  have go:∀ m,((NC m).map fun j=>(a :: w).count j).sum=((NC m).map fun j=>w.count j).sum + (if a < m then 1 else 0):=by
   intro m
   induction m with
   | zero=>simp
   | succ m ih=>
    rw [PY,Ny,OE,Ny,OE,ih]
    simp only [Nt,QA,NG,QC,V3]
    by_cases e:a=m
    ·subst e
     rw [if_neg (OX a),if_pos (OH a),if_pos (beq_self_eq_true a)]
     omega
    ·rw [if_neg (show ¬ (a == m)=true by simpa using e)]
     by_cases hl:a < m
     ·rw [if_pos hl,if_pos (show a < m + 1 by omega)]
      omega
     ·rw [if_neg hl,if_neg (show ¬ a < m + 1 by omega)]
      omega
  rw [go,if_pos ha]
theorem qf (room:List Nat):(NC room.length).map (fun j=>room.getD j 0)=room:=by
 apply PH
 intro k
 rw [Nm]
 by_cases hk:k < room.length
 ·rw [OL hk,M7 hk]
  show some (room.getD k 0)=some room[k]
  rw [Np,M7 hk]
  rfl
 ·rw [NR (by simpa using hk),NR (by simpa using hk)]
  rfl
end KM
end
section
namespace KM
theorem Go (n k:Nat):choose n k<=2 ^ n:=by
 induction n generalizing k with
 | zero=>cases k <;> simp [choose]
 | succ n ih=>
  cases k with
  | zero=>rw [kW]; exact Nat.one_le_two_pow
  | succ k=>
   rw [choose,Nat.pow_succ]
   have:=ih k
   have:=ih (k + 1)
   omega
theorem Bx {n i:Nat} (h:i + 1<=n):((choose n i:Nat):Int) * ((n:Int) - (0 + (i:Int))) / (0 + (i:Int) + 1)=((choose n (i + 1):Nat):Int):=by
 have e1:(n:Int) - (0 + (i:Int))=((n - i:Nat):Int):=by omega
 have e2:(0 + (i:Int) + 1)=((i + 1:Nat):Int):=by omega
 rw [e1,e2,<-Th,<-VA,CQ n i h]
theorem uL (n:Nat) (ss:List Nat) (h:ss.sum<=n):cA n ss * de (ss++[n - ss.sum])=bc n:=by
 have e:de (ss++[n - ss.sum])=(ss.map bc).foldr (· * ·) 1 * bc (n - ss.sum):=by
  generalize n - ss.sum=k
  induction ss with
  | nil=>simp [de]
  | cons a r ih=>
   have hr:r.sum<=n:=by rw [NG] at h; omega
   show bc a * de (r++[k])=bc a * (r.map bc).foldr (· * ·) 1 * bc k
   rw [ih hr,OY]
 rw [e]
 exact qd ss n h
theorem kX {n:Nat} {ss:List Nat} (h:ss.sum<=n):(bR (ss++[n - ss.sum]) n).length=cA n ss:=by
 have e1:=uL n ss h
 have hs:(ss++[n - ss.sum]).sum=n:=by
  rw [OE,NG,QC]
  omega
 have e2:=Gn (ss++[n - ss.sum])
 rw [hs] at e2
 exact Sg (zt _) (e2.trans e1.symm)
theorem words_pos (n:Nat) (r:List Nat) (h:r.sum=n):0 < words n r:=by
 have e:=qe n r h
 have f:=h7 n
 rcases Qo (words n r) with z | z
 ·rw [z,Nat.zero_mul] at e
  omega
 ·exact z
theorem Ie {room w:List Nat} {i:Nat} (h:JF room i w):(left room w).sum + i=room.sum:=by
 have go:∀ m,m<=room.length->((NC m).map fun j=>room.getD j 0 - w.count j).sum + ((NC m).map fun j=>w.count j).sum=((NC m).map fun j=>room.getD j 0).sum:=by
  intro m
  induction m with
  | zero=>intro _; rfl
  | succ m ih=>
   intro hm
   have:=ih (by omega)
   have:=h.cnt m (by omega)
   simp only [PY,Ny,OE,Nt,QA,NG,QC] at *
   omega
 have e:=go room.length (M9 _)
 rw [wq room.length w h.all,qf,h.len] at e
 exact e
theorem Ig {room:List Nat} {i:Nat} (h:i<=room.sum):(bR room i).length<=(bR room room.sum).length:=by
 have e:=oI room (room.sum - i) i
 rw [show i + (room.sum - i)=room.sum by omega] at e
 rw [<-e,rT]
 have hb:=gO room i
 generalize bR room i=ws at hb
 induction ws with
 | nil=>exact N9 _
 | cons w r ih=>
  rw [Nt,NG,NK]
  have:=ih fun v hv=>hb v (Nn _ hv)
  have:=words_pos (room.sum - i) (left room w) (by have:=Ie (hb w Nd); omega)
  omega
theorem LF:∀ (rs:List Nat) (m:Nat),rs.foldl (fun f s=>f / bc s) (m * de rs)=m
 | [],m=>by simp [de]
 | a :: r,m=>by
  rw [VR,ir]
  have e:m * (bc a * de r) / bc a=m * de r:=by
   rw [<-OY,Pa m,OY,Nat.mul_div_cancel_left _ (h7 a)]
  rw [e]
  exact LF r m
noncomputable def fS (room w:List Nat) (k:Nat):List Nat:=(NC k).filter fun j=>decide (w.count j < room.getD j 0)
theorem uM (room w:List Nat):fS room w room.length=tQ room w:=rfl
theorem By (room w:List Nat) (k:Nat):fS room w (k + 1)=fS room w k++(if w.count k < room.getD k 0 then [k] else []):=by
 unfold fS
 rw [PY,RZ]
 by_cases h:w.count k < room.getD k 0
 ·rw [if_pos h,Oe (by simpa using h)]
  rfl
 ·rw [if_neg h,Oq (by simpa using h)]
  rfl
theorem Gp (room:List Nat) (ws:List (List Nat)) (i:Nat) (w:List Nat) (h:ws[i]?=some w):grow room (ws.take (i + 1))=grow room (ws.take i)++(tQ room w).map fun j=>w++[j]:=by
 unfold grow
 rw [ON,h,RE]
 simp
theorem Bz (room:List Nat) (ws:List (List Nat)) (i:Nat):(grow room (ws.take i)).length<=(grow room ws).length:=by
 have:grow room ws=grow room (ws.take i)++grow room (ws.drop i):=by
  unfold grow
  rw [<-RE,QB]
 rw [this,Nx]
 omega
end KM
end
namespace L2
open PySem PyProof.Rows
section
variable {K:Fg} {vs:List V} {H:Hp} {Q:VK} {E:XK}
noncomputable def Gq:V->Bool
 | .int _=>true
 | _=>false
noncomputable def cS:V->Int->Int->Bool
 | .int i,lo,hi=>decide (lo<=i) && decide (i<=hi)
 | _,_,_=>false
noncomputable def fN (K:Fg) (H:Hp) (x:V):Prop:=∃ t b1 b2,gk K H x t/\NZ K t (.type "int")=some b1/\NZ K t (.type "bool")=some b2/\(b1 && !b2)=Gq x
theorem fN.int {K:Fg} {H:Hp} (i:Int):fN K H (.int i):=⟨_,_,_,.int i,uG K,rN K,rfl⟩
theorem Gr {K:Fg} {H H':Hp} {x:V} {t:Value} (h:gk K H x t) (s:am H H'):gk K H' x t:=by
 cases h with
 | non=>exact .non
 | bl b=>exact .bl b
 | int i=>exact .int i
 | str x=>exact .str x
 | flt x=>exact .flt x
 | lst e=>exact .lst (s _ _ e)
 | frz e=>exact .frz (s _ _ e)
 | tup e=>exact .tup (s _ _ e)
 | dK e=>exact .dK (s _ _ e)
 | dT e=>exact .dT (s _ _ e)
 | ins e cl ha hn htk hm=>exact .ins (s _ _ e) cl ha hn htk hm
theorem fN.same {K:Fg} {H H':Hp} {x:V} (h:fN K H x) (s:am H H'):fN K H' x:=by
 obtain ⟨t,b1,b2,ty,r⟩:=h
 exact ⟨t,b1,b2,Gr ty s,r⟩
noncomputable def Ke (K:Fg):Sp:=fun vs H Q _=>∃ x,vs=[x]/\fN K H x/\Q (.bl (Gq x)) H
noncomputable abbrev iX (K:Fg):Sp:=Ke K
noncomputable def wt (K:Fg):TS:=(aJ (ik (tCB (iP K) (ac (aa 0) (ac (tC (.ty "int")) ag))) (vW (tCB (iP K) (ac (aa 0) (ac (tC (.ty "bool")) ag))))))
theorem CS (h:iX K vs H Q E):wt K { nx:=fun _ H'=>Q .non H',rt:=Q } (start ["thing"] vs) H:=by
 obtain ⟨x,rfl,⟨t,b1,b2,ty,k1,k2,e⟩,q⟩:=h
 refine ⟨_,rfl,_,_,_,_,rfl,ty,k1,_,rfl,jC (fun c=>?_) (fun c=>?_)⟩
 ·subst c
  refine ⟨_,rfl,_,_,_,_,rfl,ty,k2,_,rfl,?_⟩
  rw [<-e,Ra] at q
  exact q
 ·subst c
  rw [<-e,RF] at q
  exact q
noncomputable def Ih (K:Fg):Sp:=fun vs H Q _=>∃ x lo hi,vs=[x,.int lo,.int hi]/\fN K H x/\Q (.bl (cS x lo hi)) H
noncomputable abbrev eM (K:Fg):Sp:=Ih K
noncomputable def uN (K:Fg):TS:=(aJ (ik (av (iX K) [] E0 (ac (aa 0) ag)) (A6 (rI0 fun i j=>.bl (decide (i<=j))) (rI0 fun i j=>.bl (decide (i<=j))) (aa 1) (aa 0) (aa 2))))
theorem BA (h:eM K vs H Q E):uN K { nx:=fun _ H'=>Q .non H',rt:=Q } (start ["thing","least","most"] vs) H:=by
 obtain ⟨x,lo,hi,rfl,pl,q⟩:=h
 refine ⟨_,rfl,x,rfl,pl,_,rfl,jC (fun c=>?_) (fun c=>?_)⟩
 ·cases x with
  | int i=>
   refine ⟨_,rfl,_,rfl,_,_,rfl,rfl,_,rfl,jC (fun d=>?_) (fun d=>?_)⟩
   ·refine ⟨_,rfl,_,_,rfl,rfl,?_⟩
    have q':Q (.bl (decide (lo<=i) && decide (i<=hi))) H:=q
    rw [d,Ra] at q'
    exact q'
   ·have q':Q (.bl (decide (lo<=i) && decide (i<=hi))) H:=q
    rw [d,RF] at q'
    exact q'
  | _=>cases c
 ·cases x with
  | int i=>cases c
  | _=>exact q
noncomputable def oJ (zs:List V):Int:=(zs.map fun z=>match z with | .int i=>i | _=>0).sum
noncomputable def JG (x:V) (zs:List V):Bool:=match x with
 | .int c=>(decide (0<=c) && decide (c<=12)) && (decide (1<=zs.length) && decide (zs.length<=5)) && zs.all (fun z=>cS z 0 c) && decide (oJ zs<=c)
 | _=>false
theorem yr {zs:List V} {lo hi:Int} (h:zs.all (fun z=>cS z lo hi)=true):∃ ns:List Int,zs=ns.map V.int/\oJ zs=ns.sum:=by
 induction zs with
 | nil=>exact ⟨[],rfl,rfl⟩
 | cons z r ih=>
  rw [QG,OU] at h
  obtain ⟨ns,e,es⟩:=ih h.2
  cases z with
  | int i=>
   refine ⟨i :: ns,by rw [e]; rfl,?_⟩
   show i + oJ r=(i :: ns).sum
   rw [es,NG]
  | _=>exact absurd h.1 Nk
noncomputable def JH (K:Fg) (H:Hp) (y:V) (zs:Option (List V)):Prop:=match zs with
 | some zs=>∃ a,y=.ref a/\(H a=some (.lst zs)\/∃ o,H a=some (.frz o (.lst zs)))/\zs.length<=1000/\∀ z∈zs,fN K H z
 | none=>∃ t,gk K H y t/\NZ K t (.type "list")=some false
noncomputable def wu (x:V):Option (List V)->Bool
 | some zs=>JG x zs
 | none=>false
noncomputable def LI (K:Fg):Sp:=fun vs H Q _=>∃ x y zs,vs=[x,y]/\fN K H x/\JH K H y zs/\∀ H',am H H'->Q (.bl (wu x zs)) H'
noncomputable abbrev qg (K:Fg):Sp:=LI K
noncomputable def zv (K:Fg):TS:=(ap (bp (dt (tB (av (eM K) [] E0 (ac (aa 0) (ac (tC (.int 0)) (ac (tC (.int 12)) ag)))))) (aJ (tC (.bl false))) aY)
 (ap (bp (tOr (dt (tB (tCB (iP K) (ac (aa 1) (ac (tC (.ty "list")) ag))))) (dt (tB (av (eM K) [] E0 (ac (tCB (fc K) (ac (aa 1) ag)) (ac (tC (.int 1)) (ac (tC (.int 5)) ag))))))) (aJ (tC (.bl false))) aY)
 (aJ (ik (tCB (Ek K) (ac (bu (ce K (aa 1)) (fun _ _ _ _=>(aj 0)) (fun _ _ _ _=>aV) (fun _ _ _ _=>(av (eM K) [] E0 (ac (aa 0) (ac (tC (.int 0)) (ac (aa 1) ag))))) [none,some 0]) ag)) (tOp (rI0 fun i j=>.bl (decide (i<=j))) (tCB (vh K) (ac (aa 1) ag)) (aa 0))))))
theorem Ew (h:qg K vs H Q E):zv K { nx:=fun _ H'=>Q .non H',rt:=Q } (start ["cards","sizes"] vs) H:=by
 obtain ⟨x,y,zs,rfl,px,hz,q⟩:=h
 refine ⟨_,rfl,x,0,12,rfl,px,_,rfl,jC (fun c=>?_) (fun c=>?_)⟩
 ·
  have e:wu x zs=false:=by
   have c':cS x 0 12=false:=by simpa using c
   cases zs with
   | none=>rfl
   | some zs=>
    cases x with
    | int i=>
     show ((decide (0<=i) && decide (i<=12)) && (decide (1<=zs.length) && decide (zs.length<=5)) && zs.all (fun z=>cS z 0 i) && decide (oJ zs<=i))=false
     rw [show (decide (0<=i) && decide (i<=12))=false from c']
     rfl
    | _=>rfl
  have:=q H (am.refl H)
  rw [e] at this
  exact this
 ·have c':cS x 0 12=true:=by simpa using c
  cases x with
  | int i=>
   cases zs with
   | none=>
    obtain ⟨t,ty,k⟩:=hz
    refine ⟨_,rfl,_,_,_,_,rfl,ty,k,_,rfl,lN (lN ?_)⟩
    exact q H (am.refl H)
   | some zs=>
    obtain ⟨a,rfl,ha,hlen,hp⟩:=hz
    have hS:SqL K H a zs:=ha.elim (fun h=>.inl (.inl h)) (fun h=>.inl (.inr h))
    have ty:gk K H (.ref a) (.type "list"):=ha.elim (fun h=>.lst h) (fun ⟨o,h⟩=>.frz h)
    refine ⟨_,rfl,_,_,_,_,rfl,ty,kU K,_,rfl,lM ?_⟩
    refine ⟨_,rfl,a,_,rfl,.inl hS,_,1,5,rfl,fN.int _,_,rfl,jC (fun d=>?_) (fun d=>?_)⟩
    ·have e:wu (.int i) (some zs)=false:=by
      have d0:cS (.int (zs.length:Int)) 1 5=false:=by simpa using d
      have d':(decide ((1:Int)<=(zs.length:Int)) && decide ((zs.length:Int)<=5))=false:=d0
      show ((decide (0<=i) && decide (i<=12)) && (decide (1<=zs.length) && decide (zs.length<=5)) && zs.all (fun z=>cS z 0 i) && decide (oJ zs<=i))=false
      have e1:decide (1<=zs.length)=decide ((1:Int)<=(zs.length:Int)):=decide_eq_decide.mpr (by omega)
      have e2:decide (zs.length<=5)=decide ((zs.length:Int)<=5):=decide_eq_decide.mpr (by omega)
      rw [e1,e2,d',RH]
      rfl
     have:=q H (am.refl H)
     rw [e] at this
     exact this
    ·have d0:cS (.int (zs.length:Int)) 1 5=true:=by simpa using d
     have d':(decide ((1:Int)<=(zs.length:Int)) && decide ((zs.length:Int)<=5))=true:=d0
     have e0:wu (.int i) (some zs)=(zs.all (fun z=>cS z 0 i) && decide (oJ zs<=i)):=by
      show ((decide (0<=i) && decide (i<=12)) && (decide (1<=zs.length) && decide (zs.length<=5)) && zs.all (fun z=>cS z 0 i) && decide (oJ zs<=i))=_
      have e1:decide (1<=zs.length)=decide ((1:Int)<=(zs.length:Int)):=decide_eq_decide.mpr (by omega)
      have e2:decide (zs.length<=5)=decide ((zs.length:Int)<=5):=decide_eq_decide.mpr (by omega)
      rw [e1,e2,d',show (decide (0<=i) && decide (i<=12))=true from c',Ra,Ra]
     rw [e0] at q
     refine ⟨_,rfl,a,rfl,⟨_,hS⟩,fun p hp'=>zl (K:=K) (a:=a) (xs:=zs) (fun k acc H2=>acc=((zs.take k).map fun z=>cS z 0 i).map V.bl/\am H H2/\H2 p=some (.lst acc)) ⟨rfl,bg hp' _,ay⟩ ?_ ?_ (small hlen) ?_ ?_⟩
     ·rintro k acc H2 hk ⟨rfl,s2,e2⟩
      exact ⟨e2,by rw [M6,M6,OT]; omega⟩
     ·rintro k acc H2 hk ⟨rfl,s2,e2⟩
      exact s2.seq hS
     ·rintro _ _ _ _ k z acc H2 hzk ⟨rfl,s2,e2⟩
      refine ⟨_,rfl,_,rfl,z,0,i,rfl,(hp z (Ng hzk)).same s2,e2,?_,s2.upd hp' _,ay⟩
      rw [ON,hzk,Ny,Ny]
      rfl
     ·rintro acc H2 ⟨rfl,s2,e2⟩
      rw [NM] at e2
      refine ⟨p,_,rfl,SqL.of e2,_,rfl,?_⟩
      have ea:(zs.map fun z=>cS z 0 i).all id=zs.all fun z=>cS z 0 i:=by
       rw [Rr]
       rfl
      rw [ea]
      refine jC (fun g=>?_) (fun g=>?_)
      ·obtain ⟨ns,en,es⟩:=yr g
       rw [g,Ra,es] at q
       refine ⟨_,rfl,a,ns,rfl,by rw [<-en]; exact s2.seq hS,_,rfl,_,_,rfl,rfl,?_⟩
       exact q H2 s2
      ·rw [g,RF] at q
       exact q H2 s2
  | _=>exact absurd c' Nk
noncomputable def Gs:Sp:=fun vs H Q _=>∃ n k:Nat,vs=[.int n,.int k]/\k<=n/\n<=50/\Q (.int (KM.choose n k:Nat)) H
noncomputable abbrev qh (K:Fg):Sp:=Gs
noncomputable def zw (K:Fg):TS:=(ap (aH (tC (.int 1)) (aj 2))
 (ap (cV (gh (ac (aa 1) ag)) (aj 3) (aH (tOp (rI gi fun i j=>.int (i / j)) (tOp (rI P4 fun i j=>.int (i * j)) (aa 2) (tOp (rI0 fun i j=>.int (i - j)) (aa 0) (aa 3))) (tOp (rI0 fun i j=>.int (i + j)) (aa 3) (tC (.int 1)))) (aj 2)))
 (aJ (aa 2))))
theorem Ex (h:qh K vs H Q E):zw K { nx:=fun _ H'=>Q .non H',rt:=Q } (start ["many","taken","ways","step"] vs) H:=by
 obtain ⟨n,k,rfl,hk,hn,q⟩:=h
 refine ⟨_,rfl,_,rfl,by omega,by omega,rF (lo:=0) (n:=((k:Nat):Int).toNat) (fun i σ H2=>∃ st,σ=[some (.int n),some (.int k),some (.int (KM.choose n i:Nat)),st]/\H2=H) ⟨none,by rw [KM.kW]; rfl,rfl⟩ ?_ ?_⟩
 ·rintro i σ H2 hi ⟨st,rfl,rfl⟩
  have hi':i + 1<=n:=by omega
  refine ⟨_,rfl,_,rfl,_,rfl,_,_,rfl,rfl,_,_,rfl,rfl,.of_right (R8 (by omega) (by omega)),_,rfl,_,_,rfl,rfl,_,_,rfl,rfl,⟨by omega,by omega⟩,?_⟩
  dsimp only
  rw [KM.Bx hi']
  exact ⟨_,rfl,rfl⟩
 ·rintro σ H2 ⟨st,rfl,rfl⟩
  refine ⟨_,rfl,?_⟩
  rw [show ((k:Nat):Int).toNat=k by omega]
  exact q
structure rV (c:Nat) (ss:List Nat):Prop where
 c12:c<=12
 l1:1<=ss.length
 l5:ss.length<=5
 sum:ss.sum<=c
noncomputable def au (ss:List Nat):List V:=ss.map fun (s:Nat)=>V.int ((s:Nat):Int)
theorem dm (ss:List Nat):au ss=(ss.map fun (s:Nat)=>((s:Nat):Int)).map V.int:=by unfold au; rw [PQ]; rfl
theorem aS (ss:List Nat):(au ss).length=ss.length:=M6 _
theorem jl:∀ ss:List Nat,(ss.map fun (s:Nat)=>((s:Nat):Int)).sum=((ss.sum:Nat):Int)
 | []=>rfl
 | a :: r=>by rw [Nt,NG,NG,jl r]; omega
theorem jF:∀ {ss:List Nat} {s:Nat},s∈ss->s<=ss.sum
 | a :: r,s,h=>by
  rw [NG]
  rcases Nc.mp h with rfl | h
  ·omega
  ·have:=jF h
   omega
theorem Ii {c:Nat} {ss:List Nat} (p:rV c ss):JG (.int c) (au ss)=true:=by
 have h1:=p.c12
 have h2:=p.l1
 have h3:=p.l5
 have h4:=p.sum
 show ((decide ((0:Int)<=(c:Int)) && decide ((c:Int)<=12)) && (decide (1<=(au ss).length) && decide ((au ss).length<=5)) && (au ss).all (fun z=>cS z 0 c) && decide (oJ (au ss)<=c))=true
 have e1:(au ss).all (fun z=>cS z 0 c)=true:=by
  unfold au
  rw [Rr,SO]
  intro s hs
  have:=jF hs
  show (decide ((0:Int)<=(s:Int)) && decide ((s:Int)<=(c:Int)))=true
  rw [decide_eq_true (by omega),decide_eq_true (by omega)]
  rfl
 have e2:oJ (au ss)=((ss.sum:Nat):Int):=by
  rw [<-jl]
  unfold oJ au
  rw [PQ]
  rfl
 rw [e1,e2,aS,decide_eq_true (by omega),decide_eq_true (by omega),decide_eq_true h2,decide_eq_true h3,decide_eq_true (by omega)]
 rfl
theorem Ij {K:Fg} {H:Hp} {a:Addr} {ss:List Nat} (h:H a=some (.lst (au ss))) (hl:ss.length<=1000):JH K H (.ref a) (some (au ss)):=
 ⟨a,rfl,.inl h,by rw [aS]; exact hl,fun z hz=>by
  obtain ⟨s,_,rfl⟩:=Os.mp hz
  exact fN.int _⟩
noncomputable def MB (K:Fg):Sp:=fun vs H Q _=>∃ (c:Nat) (a:Addr) (ss:List Nat),vs=[.int c,.ref a]/\H a=some (.lst (au ss))/\rV c ss/\∀ H',am H H'->Q (.int (KM.cA c ss:Nat)) H'
noncomputable abbrev oK (K:Fg):Sp:=MB K
noncomputable def wv (K:Fg):TS:=(ap (bp (dt (tB (av (qg K) [] E0 (ac (aa 0) (ac (aa 1) ag))))) rC aY)
 (ap (aH (tC (.int 1)) (aj 2))
 (ap (aH (aa 0) (aj 3))
 (ap (cV (ce K (aa 1)) (aj 4) (ap (aH (tOp (rI P4 fun i j=>.int (i * j)) (aa 2) (av (qh K) [] E0 (ac (aa 3) (ac (aa 4) ag)))) (aj 2))
 (aH (tOp (rI0 fun i j=>.int (i - j)) (aa 3) (aa 4)) (aj 3))))
 (aJ (aa 2))))))
theorem CT (h:oK K vs H Q E):wv K { nx:=fun _ H'=>Q .non H',rt:=Q } (start ["cards","sizes","many","left","size"] vs) H:=by
 obtain ⟨c,a,ss,rfl,ha,p,q⟩:=h
 have h12:=p.c12
 have h5:=p.l5
 refine ⟨_,rfl,_,rfl,_,_,some (au ss),rfl,fN.int _,Ij ha (by omega),fun H1 s1=>⟨_,rfl,?_⟩⟩
 rw [show wu (.int c) (some (au ss))=true from Ii p]
 refine lM ?_
 refine ⟨_,rfl,?_⟩
 refine ⟨_,rfl,a,rfl,⟨_,SqL.of (s1 _ _ ha)⟩,uZ (K:=K) (a:=a) (xs:=au ss) (fun i σ H2=>∃ (m l:Nat) (st:Option V),σ=[some (.int c),some (.ref a),some (.int m),some (.int l),st]/\H2=H1/\m * KM.cA l (ss.drop i)=KM.cA c ss/\(ss.drop i).sum<=l/\l<=12)
  ⟨1,c,none,rfl,rfl,by rw [Vk]; rfl,p.sum,h12⟩ (fun i σ H2 _ ⟨_,_,_,_,e,_⟩=>by subst e; exact SqL.of (s1 _ _ ha)) ?_ ?_⟩
 ·rintro i x σ H2 hx ⟨m,l,st,rfl,rfl,hm,hs,hl⟩
  obtain ⟨z,hz,rfl⟩:∃ z:Nat,ss[i]?=some z/\x=.int (z:Int):=by
   unfold au at hx
   rw [Nm] at hx
   cases e:ss[i]? with
   | none=>rw [e] at hx; cases hx
   | some z=>rw [e] at hx; exact ⟨z,rfl,(Nl hx).symm⟩
  have hd:ss.drop i=z :: ss.drop (i + 1):=by
   obtain ⟨h1,h2⟩:=Na.mp hz
   rw [Sz h1,h2]
  rw [hd,NG] at hs
  rw [hd,KM.cA] at hm
  have hle:=KM.Go l z
  have h2:(2:Nat) ^ l<=2 ^ 12:=Nat.pow_le_pow_right (by decide) hl
  refine ⟨_,rfl,_,rfl,_,rfl,l,z,rfl,by omega,by omega,_,_,rfl,rfl,.of_right (R8 (by omega) (by omega)),?_⟩
  refine ⟨_,rfl,_,rfl,_,_,rfl,rfl,m * KM.choose l z,l - z,some (.int (z:Int)),?_,rfl,by rw [OY]; exact hm,by omega,by omega⟩
  have e1:((m:Nat):Int) * ((KM.choose l z:Nat):Int)=((m * KM.choose l z:Nat):Int):=(Th _ _).symm
  have e2:((l:Nat):Int) - ((z:Nat):Int)=((l - z:Nat):Int):=by omega
  dsimp only
  rw [e1,e2]
  rfl
 ·rintro σ H2 ⟨m,l,st,rfl,rfl,hm,hs,hl⟩
  refine ⟨_,rfl,?_⟩
  rw [aS,List.drop_length,KM.cA,Nat.mul_one] at hm
  rw [hm]
  exact q _ s1
noncomputable def ba (H:Hp) (p:Addr) (ws:List (List Nat)):Prop:=∃ rs:List Addr,H p=some (.lst (rs.map V.ref))/\Paired (fun (a:Addr) (w:List Nat)=>H a=some (.tup (au w))) rs ws
theorem kY {H H':Hp} {rs:List Addr} {ws:List (List Nat)} (h:Paired (fun (a:Addr) (w:List Nat)=>H a=some (.tup (au w))) rs ws) (s:∀ a xs,H a=some (.tup xs)->H' a=some (.tup xs)):Paired (fun (a:Addr) (w:List Nat)=>H' a=some (.tup (au w))) rs ws:=
 Paired.mapP h fun a w e=>s _ _ e
theorem mB {α β:Type} {F:α->β->Prop}:∀ {l:List α} {m:List β} {i:Nat} {a:α},Paired F l m->l[i]?=some a->∃ b,m[i]?=some b/\F a b
 | _,_,_,_,.nil,h=>by simp at h
 | _,_,0,_,.cons r _,h=>by simp at h; subst h; exact ⟨_,rfl,r⟩
 | _,_,i + 1,a,.cons _ t,h=>by
  obtain ⟨b,h1,h2⟩:=mB (i:=i) (a:=a) t (by simpa using h)
  exact ⟨b,by simpa using h1,h2⟩
theorem qj {α β:Type} {F:α->β->Prop}:∀ {l:List α} {m:List β} {l':List α} {m':List β},Paired F l m->Paired F l' m'->Paired F (l++l') (m++m')
 | _,_,_,_,.nil,h=>h
 | _,_,_,_,.cons r t,h=>.cons r (qj t h)
theorem Ey (w:List Nat) (j:Nat):(au w).countP (fun z=>eqV z (.int (j:Int)))=w.count j:=by
 unfold au
 rw [List.countP_map,List.count_eq_countP]
 congr 1
 funext k
 show ((k:Int) == (j:Int))=(k == j)
 by_cases h:k=j
 ·subst h; simp
 ·rw [beq_eq_false_iff_ne.mpr h,beq_eq_false_iff_ne.mpr (by omega)]
theorem Gu (w:List Nat):(au w).all im=true:=by unfold au; rw [Rr]; simp [im]
noncomputable def LJ (K:Fg):Sp:=fun vs H Q _=>∃ (b r:Addr) (ws:List (List Nat)) (room:List Nat),vs=[.ref b,.ref r]/\ba H b ws/\H r=some (.lst (au room))/\room.length<=6/\(KM.grow room ws).length<=2000/\(∀ w∈ws,w.length<=12)/\
 ∀ (p:Addr) (H':Hp),am H H'->H p=none->ba H' p (KM.grow room ws)->Q (.ref p) H'
noncomputable abbrev jm (K:Fg):Sp:=LJ K
noncomputable def nX (K:Fg):TS:=(ap (aH (A8 ag) (aj 2))
 (ap (cV (ce K (aa 0)) (aj 3) (cV (i3 aR K (ac (aa 1) ag)) (da K 2 (aW (aj 4) (aW (aj 5) cZ))) (bp (be (tOp (rI0 fun i j=>.bl (decide (i < j))) (tBT Dn (aa 3) (ac (aa 4) ag)) (aa 5))) (dI (tBM K "list" ip (aa 2) (ac (tOp (Jy K) (aa 3) (Ed (ac (aa 4) ag))) ag))) aY)))
 (aJ (aa 2))))
theorem vo (h:jm K vs H Q E):nX K { nx:=fun _ H'=>Q .non H',rt:=Q } (start ["begun","room","longer","deal","who","most"] vs) H:=by
 obtain ⟨b,r,ws,room,rfl,⟨rs,hb,hp⟩,hrm,h6,h2000,h12,q⟩:=h
 refine ⟨(by show 0<=Nh; decide),fun l hl=>?_⟩
 have sl:am H (upd H l (.lst [])):=bg hl _
 have hrl:ws.length=rs.length:=hp.length.symm
 refine ⟨_,rfl,b,rfl,⟨_,SqL.of (sl _ _ hb)⟩,uZ (K:=K) (a:=b) (xs:=rs.map V.ref)
  (fun i σ H2=>∃ d wh mo:Option V,σ=[some (.ref b),some (.ref r),some (.ref l),d,wh,mo]/\am H H2/\ba H2 l (KM.grow room (ws.take i)))
  ⟨none,none,none,rfl,sl,[],by rw [ay]; rfl,.nil⟩ (fun i σ H2 _ ⟨_,_,_,_,s2,_⟩=>SqL.of (s2 _ _ hb)) ?_ ?_⟩
 ·rintro i x σ H2 hx ⟨d,wh,mo,rfl,s2,D2⟩
  obtain ⟨a,ea,rfl⟩:∃ a,rs[i]?=some a/\x=.ref a:=by
   rw [Nm] at hx
   cases e:rs[i]? with
   | none=>rw [e] at hx; cases hx
   | some a=>rw [e] at hx; exact ⟨a,rfl,(Nl hx).symm⟩
  obtain ⟨u,hu,ha⟩:=mB hp ea
  have hu12:=h12 u (Ng hu)
  have gt:=KM.Gp room ws i u hu
  have gle:=KM.Bz room ws (i + 1)
  refine ⟨_,rfl,r,_,rfl,SqL.of (s2 _ _ hrm),Bh (S:=aR) (K:=K) (a:=r) (xs:=au room)
   (fun j σ H3=>∃ wh mo:Option V,σ=[some (.ref b),some (.ref r),some (.ref l),some (.ref a),wh,mo]/\am H H3/\ba H3 l (KM.grow room (ws.take i)++(KM.fS room u j).map fun k=>u++[k]))
   ⟨wh,mo,rfl,s2,by simpa [KM.fS] using D2⟩ (fun j σ H3 _ ⟨_,_,_,s3,_⟩=>SqL.of (s3 _ _ hrm)) ?_ ?_⟩
  ·rintro j x T σ H3 hxj ⟨wh',mo',rfl,s3,qs,hq,pq⟩ hT
   obtain ⟨m,hm,rfl⟩:∃ m:Nat,room[j]?=some m/\x=.int (m:Int):=by
    unfold au at hxj
    rw [Nm] at hxj
    cases e:room[j]? with
    | none=>rw [e] at hxj; cases hxj
    | some z=>rw [e] at hxj; exact ⟨z,rfl,(Nl hxj).symm⟩
   have hmD:room.getD j 0=m:=by rw [Np,hm]; rfl
   have hjl:j < room.length:=(Na.mp hm).1
   have nT:H T=none:=s3.free hT
   have s4:am H (upd H3 T (.tup [.int (j:Int),.int (m:Int)])):=s3.upd nT _
   have a4:(upd H3 T (.tup [.int (j:Int),.int (m:Int)])) a=some (.tup (au u)):=s4 _ _ ha
   have nlT:l≠T:=bn hq hT
   have q4:(upd H3 T (.tup [.int (j:Int),.int (m:Int)])) l=some (.lst (qs.map V.ref)):=by rw [aQ nlT]; exact hq
   have p4:Paired (fun (a:Addr) (w:List Nat)=>(upd H3 T (.tup [.int (j:Int),.int (m:Int)])) a=some (.tup (au w))) qs (KM.grow room (ws.take i)++(KM.fS room u j).map fun k=>u++[k]):=
    kY pq fun a xs e=>by rw [aQ (bn e hT)]; exact e
   have hqlen:qs.length<=2000:=by
    have e1:=pq.length
    rw [Nx,M6] at e1
    rw [gt,Nx,M6,<-KM.uM] at gle
    have e3:(KM.fS room u j).length<=(KM.fS room u room.length).length:=by
     unfold KM.fS
     have:(NC j).Sublist (NC room.length):=List.range_sublist.mpr (by omega)
     exact (this.filter _).length_le
    omega
   have t4:(upd H3 T (.tup [.int (j:Int),.int (m:Int)])) T=some (.tup [.int (j:Int),.int (m:Int)]):=ay
   generalize upd H3 T (.tup [.int (j:Int),.int (m:Int)])=H4 at s4 a4 q4 p4 t4
   have ns:=KM.By room u j
   rw [hmD] at ns
   refine ⟨T,_,rfl,SqT.of t4,rfl,_,_,rfl,_,_,rfl,rfl,?_⟩
   refine ⟨_,rfl,⟨a,_,rfl,a4⟩,_,rfl,a,_,_,rfl,rfl,a4,rfl,Gu u,_,rfl,_,_,rfl,rfl,_,rfl,?_⟩
   rw [Ey]
   refine jC (fun c=>?_) (fun c=>?_)
   ·have c':u.count j < m:=by have:=of_decide_eq_true c; omega
    rw [if_pos c'] at ns
    have fin:∀ (d:Addr) (H5:Hp),am H4 H5->H5 d=some (.tup (au (u++[j])))->∃ (l':Addr) (xs:List V) (y:V),V.ref l=.ref l'/\[V.ref d]=[y]/\H5 l'=some (.lst xs)/\xs.length < Nh/\
      ∃ wh mo:Option V,([some (.ref b),some (.ref r),some (.ref l),some (.ref a),some (.int (j:Int)),some (.int (m:Int))]:L2.St)=[some (.ref b),some (.ref r),some (.ref l),some (.ref a),wh,mo]/\am H (upd H5 l' (.lst (xs++[y])))/\
       ba (upd H5 l' (.lst (xs++[y]))) l (KM.grow room (ws.take i)++(KM.fS room u (j + 1)).map fun k=>u++[k]):=by
     intro d H5 s5 e5
     refine ⟨l,_,_,rfl,rfl,s5 _ _ q4,Ql (by rw [M6]; exact hqlen) (by decide),_,_,rfl,(s4.trans s5).upd hl _,qs++[d],by rw [ay,Ny]; rfl,?_⟩
     have keep:∀ (c:Addr) (xs:List V),H5 c=some (.tup xs)->upd H5 l (.lst (qs.map V.ref++[V.ref d])) c=some (.tup xs):=fun c xs e=>by
      rw [aQ (Az e (s5 _ _ q4) (by intro z; cases z))]
      exact e
     rw [ns,Ny,<-Sn]
     exact qj (kY (kY p4 fun c xs e=>s5 _ _ e) keep) (.cons (keep _ _ e5) .nil)
    refine ⟨_,rfl,.inl ⟨rfl,_,SqL.of q4⟩,_,rfl,_,rfl,(by show 1<=Nh; decide),fun t ht=>?_⟩
    have st:am H4 (upd H4 t (.tup [.int (j:Int)])):=bg ht _
    have ej:au (u++[j])=au u++[.int (j:Int)]:=by unfold au; rw [Ny]; rfl
    refine ⟨a,t,au u,[.int (j:Int)],rfl,rfl,SqT.of (st _ _ a4),SqT.of ay,small (by rw [aS]; show u.length + 1<=1000; omega),fun e0=>?_,fun _ e0=>(nomatch e0),fun _ _ p hp'=>?_⟩
    ·exact fin t _ st (by rw [ay,ej,e0]; rfl)
    ·exact fin p _ (st.trans (bg hp' _)) (by rw [ay,ej])
   ·have c':¬ u.count j < m:=by have:=of_decide_eq_false c; omega
    rw [if_neg c',O6] at ns
    exact ⟨_,_,rfl,s4,qs,q4,by rw [ns]; exact p4⟩
  ·rintro σ H3 ⟨wh',mo',rfl,s3,D3⟩
   rw [aS,KM.uM,<-gt] at D3
   exact ⟨_,_,_,rfl,s3,D3⟩
 ·rintro σ H2 ⟨d,wh,mo,rfl,s2,D2⟩
  refine ⟨_,rfl,?_⟩
  rw [M6,<-hrl,NM] at D2
  exact q l H2 s2 hl D2
noncomputable def Kf (K:Fg):Sp:=fun vs H Q _=>∃ (c:Nat) (a:Addr) (ss:List Nat),vs=[.int c,.ref a]/\H a=some (.lst (au ss))/\rV c ss/\KM.cA c ss<=2000/\
 ∀ (p:Addr) (H':Hp),am H H'->H p=none->ba H' p (KM.bR (ss++[c - ss.sum]) c)->Q (.ref p) H'
theorem h8 (ss:List Nat) (c:Nat):au ss++[.int (c:Int)]=au (ss++[c]):=by unfold au; rw [Ny]; rfl
noncomputable abbrev kZ (K:Fg):Sp:=Kf K
noncomputable def ww (K:Fg):TS:=(ap (bp (be (tOp (rI0 fun i j=>.bl (decide (j < i))) (av (oK K) [] E0 (ac (aa 0) (ac (aa 1) ag))) (tC (.int 2000)))) rC aY)
 (ap (aH (tOp Lb (aa 1) (A8 (ac (tOp (rI0 fun i j=>.int (i - j)) (aa 0) (tCB (vh K) (ac (aa 1) ag))) ag))) (aj 2))
 (ap (aH (A8 (ac (Ed ag) ag)) (aj 3))
 (ap (cV (gh (ac (aa 0) ag)) (aj 4) (aH (av (jm K) [] E0 (ac (aa 3) (ac (aa 2) ag))) (aj 3)))
 (aJ (aa 3))))))
theorem CU (h:kZ K vs H Q E):ww K { nx:=fun _ H'=>Q .non H',rt:=Q } (start ["cards","sizes","room","begun","card"] vs) H:=by
 obtain ⟨c,a,ss,rfl,ha,p,hm,q⟩:=h
 have h12:=p.c12
 have h5:=p.l5
 have hsum:=p.sum
 refine ⟨_,rfl,_,rfl,c,a,ss,rfl,ha,p,fun H1 s1=>?_⟩
 refine ⟨_,_,rfl,rfl,_,rfl,jC (fun k=>?_) (fun _=>?_)⟩
 ·have k':(2000:Int) < ((KM.cA c ss:Nat):Int):=of_decide_eq_true k
  omega
 have a1:=s1 _ _ ha
 refine ⟨_,rfl,_,rfl,_,rfl,a,_,rfl,by rw [<-dm]; exact SqL.of a1,_,_,rfl,rfl,(by show 1<=Nh; decide),fun l hl=>?_⟩
 have s2:am H (upd H1 l (.lst [.int ((c:Int) - (ss.map fun (s:Nat)=>((s:Nat):Int)).sum)])):=s1.trans (bg hl _)
 have e2:(upd H1 l (.lst [.int ((c:Int) - (ss.map fun (s:Nat)=>((s:Nat):Int)).sum)])) l=some (.lst [.int ((c:Int) - (ss.map fun (s:Nat)=>((s:Nat):Int)).sum)]):=ay
 rw [show (c:Int) - (ss.map fun (s:Nat)=>((s:Nat):Int)).sum=((c - ss.sum:Nat):Int) by rw [jl]; omega] at s2 e2
 dsimp only
 rw [show (c:Int) - (ss.map fun (s:Nat)=>((s:Nat):Int)).sum=((c - ss.sum:Nat):Int) by rw [jl]; omega]
 generalize upd H1 l (.lst [.int ((c - ss.sum:Nat):Int)])=H2 at s2 e2
 refine ⟨a,l,_,_,rfl,rfl,s2 _ _ ha,e2,small (by rw [aS]; show ss.length + 1<=1000; omega),fun rm hrm=>?_⟩
 rw [h8]
 have hRs:(ss++[c - ss.sum]).sum=c:=by rw [OE,NG,QC]; omega
 have hRl:(ss++[c - ss.sum]).length<=6:=by rw [Nx]; show ss.length + 1<=6; omega
 have hlev:=KM.kX hsum
 have s3:am H (upd H2 rm (.lst (au (ss++[c - ss.sum])))):=s2.trans (bg hrm _)
 have e3:(upd H2 rm (.lst (au (ss++[c - ss.sum])))) rm=some (.lst (au (ss++[c - ss.sum]))):=ay
 generalize ss++[c - ss.sum]=R at *
 generalize upd H2 rm (.lst (au R))=H3 at s3 e3
 refine ⟨(by show 0<=Nh; decide),fun t ht=>⟨(by show 1<=Nh; decide),fun b hb=>?_⟩⟩
 have s4:am H3 (upd (upd H3 t (.tup [])) b (.lst [.ref t])):=(bg ht _).trans (bg hb _)
 have D4:ba (upd (upd H3 t (.tup [])) b (.lst [.ref t])) b (KM.bR R 0):=⟨[t],ay,.cons (by rw [aQ (bn (ay (o:=HO.tup [])) hb)]; exact ay) .nil⟩
 have f4:H b=none:=by
  have:H3 b=none:=(bg ht _).free hb
  exact s3.free this
 generalize upd (upd H3 t (.tup [])) b (.lst [.ref t])=H4 at s4 D4
 refine ⟨_,rfl,_,rfl,by omega,by omega,rF (lo:=0) (n:=((c:Nat):Int).toNat) (fun i σ H5=>∃ (b:Addr) (st:Option V),σ=[some (.int c),some (.ref a),some (.ref rm),some (.ref b),st]/\am H3 H5/\H b=none/\ba H5 b (KM.bR R i)) ⟨b,none,rfl,s4,f4,D4⟩ ?_ ?_⟩
 ·rintro i σ H5 hi ⟨b',st,rfl,s5,f5,D5⟩
  have hi':i + 1<=c:=by omega
  refine ⟨_,rfl,_,rfl,b',rm,_,R,rfl,D5,s5 _ _ e3,hRl,?_,fun u hu=>?_,fun p' H6 s6 f6 D6=>?_⟩
  ·have h1:=KM.Ig (room:=R) (i:=i + 1) (by omega)
   rw [hRs,hlev] at h1
   exact NQ h1 hm
  ·have:=(KM.gO R i u hu).len
   omega
  ·exact ⟨p',_,rfl,s5.trans s6,(s3.trans s5).free f6,D6⟩
 ·rintro σ H5 ⟨b',st,rfl,s5,f5,D5⟩
  refine ⟨_,rfl,?_⟩
  rw [show ((c:Nat):Int).toNat=c by omega] at D5
  exact q b' H5 (s3.trans s5) f5 D5
noncomputable def oM (xs:List Int) (w:Int) (i:Nat):List Int:=((NC i).filter fun j=>decide (xs[j]?=some w)).map fun (j:Nat)=>((j:Nat):Int)
theorem rW (xs:List Int) (w:Int) (i:Nat):oM xs w (i + 1)=oM xs w i++(if xs[i]?=some w then [(i:Int)] else []):=by
 unfold oM
 rw [PY,RZ,Ny]
 by_cases h:xs[i]?=some w
 ·rw [if_pos h,Oe (by simpa using h)]
  rfl
 ·rw [if_neg h,Oq (by simpa using h)]
  rfl
theorem Ik (xs:List Int) (w:Int) (i:Nat):(oM xs w i).length<=i:=by
 unfold oM
 rw [M6]
 have h:=TJ (fun j=>decide (xs[j]?=some w)) (NC i)
 rw [OO] at h
 exact h
noncomputable def Kg (K:Fg):Sp:=fun vs H Q _=>∃ (d:Addr) (xs:List Int) (v:Int),vs=[.ref d,.int v]/\SqT K H d (xs.map V.int)/\xs.length<=1000/\
 ∀ (r:Addr) (H':Hp),am H H'->H' r=some (.tup ((oM xs v xs.length).map V.int))->Q (.ref r) H'
theorem rX {xs:List Int} {i:Nat} {x:V} (h:(xs.map V.int)[i]?=some x):∃ z,xs[i]?=some z/\x=.int z:=by
 rw [Nm] at h
 cases e:xs[i]? with
 | none=>rw [e] at h; cases h
 | some z=>rw [e] at h; exact ⟨z,rfl,(Nl h).symm⟩
noncomputable abbrev k9 (K:Fg):Sp:=Kg K
noncomputable def wx (K:Fg):TS:=(aJ (tCB (Lx K) (ac (bu (i3 eD K (ac (aa 0) ag)) (fun _ _ _ _=>(da K 2 (aW (aj 0) (aW (aj 1) cZ)))) (fun _ _ _ _=>(be (tOp rEq (aa 1) (aa 2)))) (fun _ _ _ _=>(aa 0)) [none,none,some 1]) ag)))
theorem CV (h:k9 K vs H Q E):wx K { nx:=fun _ H'=>Q .non H',rt:=Q } (start ["deal","who"] vs) H:=by
 obtain ⟨d,xs,v,rfl,hd,hlen,q⟩:=h
 have hl:(xs.map V.int).length=xs.length:=M6 _
 refine ⟨_,rfl,d,_,rfl,hd,fun p hp=>zm (S:=eD) (K:=K) (a:=d) (xs:=xs.map V.int) (fun i acc H2=>acc=(oM xs v i).map V.int/\am H H2/\H2 p=some (.lst acc)) ⟨rfl,bg hp _,ay⟩ ?_ ?_ ?_ ?_ ?_⟩
 ·rintro i acc H2 hi ⟨rfl,s2,e2⟩
  exact ⟨e2,by rw [M6]; exact Ik _ _ _⟩
 ·rintro i acc H2 hi ⟨rfl,s2,e2⟩
  exact s2.tup hd
 ·rw [hl]
  exact small hlen
 ·rintro _ _ _ _ i x T acc H2 hx ⟨rfl,s2,e2⟩ hT
  obtain ⟨z,hz,rfl⟩:=rX hx
  have nTp:p≠T:=bn e2 hT
  have nT:H T=none:=s2.free hT
  refine ⟨T,_,rfl,SqT.of ay,rfl,_,_,rfl,_,_,rfl,rfl,_,rfl,_,rfl,rfl,_,rfl,?_⟩
  have eu:=rW xs v i
  refine jC (fun c=>?_) (fun c=>?_)
  ·have c':z=v:=by
    have:=of_decide_eq_true c
    injection this
   subst c'
   rw [if_pos hz] at eu
   refine ⟨_,rfl,by rw [aQ nTp]; exact e2,?_,(s2.upd nT _).upd hp _,ay⟩
   rw [eu,Ny]
   rfl
  ·have c':¬ xs[i]?=some v:=by
    rw [hz]
    intro e
    have:=of_decide_eq_false c
    exact this (by rw [Nl e])
   rw [if_neg c',O6] at eu
   exact ⟨by rw [eu],s2.upd nT _,by rw [aQ nTp]; exact e2⟩
 ·rintro acc H2 ⟨rfl,s2,e2⟩
  rw [hl] at e2
  exact ⟨p,_,rfl,.inl ⟨SqL.of e2,fun t ht=>q t _ (s2.trans (bg ht _)) ay⟩⟩
theorem fg {ss:List Nat} {i:Nat} {x:V} (hx:(au ss)[i]?=some x):∃ z:Nat,ss[i]?=some z/\x=.int (z:Int):=by
 unfold au at hx
 rw [Nm] at hx
 cases e:ss[i]? with
 | none=>rw [e] at hx; cases hx
 | some z=>rw [e] at hx; exact ⟨z,rfl,(Nl hx).symm⟩
end
section
variable {K:Fg} {vs:List V} {H:Hp} {Q:VK} {E:XK}
noncomputable abbrev bz (K:Fg):Sp:=Lg K
noncomputable def lc (K:Fg):TS:=(ap (bp (be (tOp (rI0 fun i j=>.bl (decide (i < j))) (aa 1) (tCB (fc K) (ac (aa 0) ag)))) (aJ (tOp (cb K) (aa 0) (aa 1))) aY)
 (ap (aH (tOp (rI0 fun i j=>.int (i + j)) (tOp (rI P4 fun i j=>.int (i * j)) (aa 1) (tC (.int 7919))) (tC (.int 5))) (aj 2))
 (ap (bp (be (tOp (rI0 fun i j=>.bl (decide (j < i))) (tCB (fc K) (ac (aa 0) ag)) (tC (.int 0)))) (aH (tOp (rI0 fun i j=>.int (i + j)) (tOp (rI P4 fun i j=>.int (i * j)) (tOp (cb K) (aa 0) (tOp (rI (fun _ j=>0 < j) fun i j=>.int (i % j)) (tOp (rI P4 fun i j=>.int (i * j)) (aa 1) (tC (.int 7))) (tCB (fc K) (ac (aa 0) ag)))) (tC (.int 48271))) (tOp (rI P4 fun i j=>.int (i * j)) (aa 1) (tC (.int 7919)))) (aj 2)) aY)
 (ap (aH (tOp (rI (fun _ j=>0 < j) fun i j=>.int (i % j)) (tOp (rI P4 fun i j=>.int (i * j)) (aa 2) (aa 2)) (tC (.int 2147483629))) (aj 2))
 (aJ (tOp (rI (fun _ j=>0 < j) fun i j=>.int (i % j)) (tOp (rI P4 fun i j=>.int (i * j)) (tOp (rI0 fun i j=>.int (i + j)) (aa 2) (aa 1)) (tOp (rI0 fun i j=>.int (i + j)) (aa 2) (tC (.int 69621)))) (tC (.int 2147483587))))))))
theorem BB (h:bz K vs H Q E):lc K { nx:=fun _ H'=>Q .non H',rt:=Q } (start ["_law_script","_law_k","_law_number"] vs) H:=by
 obtain ⟨a,ns,k,rfl,⟨hS,h63,hbits⟩,h0,h1,q⟩:=h
 show lc K _ [some _,some _,none] _
 unfold lc
 have hl:(ns.map V.int).length=ns.length:=M6 _
 walk_at "rd"
 rw [hl]
 refine dC (fun c=>?_) (fun c=>?_)
 ·walk_at "rd"
  refine bI hS (Bi h0 c) ?_
  have e:cz ns k=ns.getD k.toNat 0:=by unfold cz; rw [if_pos c]
  rw [e] at q
  exact q
 ·refine Gd ?_
  dsimp only
  refine bA ?_
  walk_at "rs"
  refine ko fun NX hNX=>?_
  have last:∀ n0:Int,N3 n0<=1048600->cz ns k=((n0 * n0 % 2147483629) + k) * ((n0 * n0 % 2147483629) + 69621) % 2147483587->NX [some (.ref a),some (.int k),some (.int n0)] H:=by
   intro n0 hb e
   refine hNX _ _ ?_
   have z1:0<=n0 * n0 % 2147483629:=PX _ (by decide)
   have z2:n0 * n0 % 2147483629 < 2147483629:=Pu _ (by decide)
   refine bA ?_
   refine nQ ?_
   refine vf ?_
   refine vf ?_
   refine p9 rfl ?_
   refine p9 rfl ?_
   refine r_I (.of_le hb hb (by decide)) ?_
   walk_at "rd"
   rw [e] at q
   exact q
  walk_at "rs"
  rw [hl]
  refine dC (fun d=>?_) (fun d=>?_)
  ·have m1:0<=k * 7 % (ns.length:Int):=PX _ (by omega)
   have m2:k * 7 % (ns.length:Int) < (ns.length:Int):=Pu _ d
   walk_at "rs"
   rw [hl]
   refine bI hS (Bi m1 m2) ?_
   walk_at "rs"
   refine last _ ?_ ?_
   ·have b1:=Gb hbits (k * 7 % (ns.length:Int)).toNat
    have b2:N3 (48271:Int)<=16:=by decide
    have b3:N3 k<=20:=intBits_le_iff.mpr (by have:(2:Nat) ^ 20=1048576:=(by decide); omega)
    have b4:N3 (7919:Int)<=13:=by decide
    exact NQ (intBits_add_le (TK b1 b2) (TK b3 b4)) (by decide)
   ·unfold cz
    rw [if_neg c,if_pos d]
  ·walk_at "rs"
   refine last _ ?_ ?_
   ·have b3:N3 k<=20:=intBits_le_iff.mpr (by have:(2:Nat) ^ 20=1048576:=(by decide); omega)
    have b4:N3 (7919:Int)<=13:=by decide
    have b5:N3 (5:Int)<=3:=by decide
    exact NQ (intBits_add_le (TK b3 b4) b5) (by decide)
   ·unfold cz
    rw [if_neg c,if_neg d]
noncomputable def gW (_:Fg):Sp:=fun vs H Q _=>∃ n:Nat,vs=[.int n]/\n<=12/\Q (.int (KM.bc n:Nat)) H
noncomputable def iu (K:Fg):TS:=(ap (aH (tC (.int 1)) (aj 1))
 (ap (cV (gh (ac (aa 0) ag)) (aj 2) (aH (tOp (rI P4 fun i j=>.int (i * j)) (aa 1) (tOp (rI0 fun i j=>.int (i + j)) (aa 2) (tC (.int 1)))) (aj 1)))
 (aJ (aa 1))))
theorem KM.fact_le {n m : Nat} (h : n ≤ m) : KM.bc n ≤ KM.bc m := by
  induction m with
  | zero => have : n = 0 := by omega
            subst this; exact M9 _
  | succ m ih =>
    by_cases e : n = m + 1
    · subst e; exact M9 _
    · have := ih (by omega)
      rw [KM.bc]
      exact NQ this (Nat.le_mul_of_pos_right _ (UJ m))
theorem Gv {n:Nat} (h:n<=12):KM.bc n<=479001600:=NQ (KM.fact_le h) (by decide)
theorem wz (h:gW K vs H Q E):iu K { nx:=fun _ H'=>Q .non H',rt:=Q } (start ["_law_many","_law_found","_law_k"] vs) H:=by
 obtain ⟨n,rfl,hn,q⟩:=h
 show iu K _ [some _,none,none] _
 unfold iu
 walk_at "rd"
 refine kt n (by omega) (by omega) (by omega) (fun i σ H2=>∃ st,σ=[some (.int n),some (.int (KM.bc i:Nat)),st]/\H2=H) ⟨none,rfl,rfl⟩ ?_ ?_
 ·rintro i σ H2 hi ⟨st,rfl,rfl⟩
  have:=Gv (n:=i) (by omega)
  walk_at "rd"
  refine ⟨some (.int i),?_,rfl⟩
  rw [KM.bc,Th,show ((i:Int) + 1)=((i + 1:Nat):Int) by omega]
 ·rintro σ H2 ⟨st,rfl,rfl⟩
  walk_at "rd"
  exact q
noncomputable def i5 (_:Fg):Sp:=fun vs H Q _=>∃ (c:Nat) (a:Addr) (ss:List Nat),vs=[.int c,.ref a]/\H a=some (.lst (au ss))/\ss.sum<=c/\c<=12/\ss.length<=100/\∀ H',am H H'->Q (.int (KM.cA c ss:Nat)) H'
noncomputable def jG (K:Fg):TS:=(ap (aH (av (gW K) [] E0 (ac (aa 0) ag)) (aj 2))
 (ap (cV (ce K (tOp vi (aa 1) (d5 (ac (tOp (rI0 fun i j=>.int (i - j)) (aa 0) (tCB (vh K) (ac (aa 1) ag))) ag)))) (aj 3) (aH (tOp (rI gi fun i j=>.int (i / j)) (aa 2) (av (gW K) [] E0 (ac (aa 3) ag))) (aj 2)))
 (aJ (aa 2))))
theorem zG (h:i5 K vs H Q E):jG K { nx:=fun _ H'=>Q .non H',rt:=Q } (start ["_law_cards","_law_sizes","_law_found","_law_many"] vs) H:=by
 obtain ⟨c,a,ss,rfl,ha,hs,hc,hl,q⟩:=h
 show jG K _ [some _,some _,none,none] _
 unfold jG
 walk_at "rd"
 refine ⟨c,rfl,hc,?_⟩
 walk_at "rd"
 refine En (ns:=ss.map fun (s:Nat)=>((s:Nat):Int)) (SqL.of (by rw [<-dm]; exact ha)) ?_
 walk_at "rd"
 rw [jl,show (c:Int) - ((ss.sum:Nat):Int)=((c - ss.sum:Nat):Int) by omega]
 refine ⟨by simp [Nf],fun b H1 hb s1 e1=>wg (s1 _ _ ha) e1 (by rw [aS,Nf]; simp; omega) fun p H2 hp s2 e2=>?_⟩
 rw [h8] at e2
 generalize hR:ss++[c - ss.sum]=R at e2
 have hRs:R.sum=c:=by rw [<-hR,OE,NG,QC]; omega
 have hpf:KM.cA c ss * KM.de R=KM.bc c:=by rw [<-hR]; exact KM.uL c ss hs
 have hdv:R.foldl (fun f s=>f / KM.bc s) (KM.bc c)=KM.cA c ss:=by rw [<-hpf]; exact KM.LF R _
 have s12:=s1.trans s2
 refine oY (au R) (SqL.of e2) (fun i σ H3=>∃ st,σ=[some (.int c),some (.ref a),some (.int (((R.take i).foldl (fun f s=>f / KM.bc s) (KM.bc c):Nat):Int)),st]/\H3=H2) ⟨none,rfl,rfl⟩ (fun i σ H3 _ ⟨_,_,e⟩=>by subst e; exact SqL.of e2) ?_ ?_
 ·rintro i x σ H3 hx ⟨st,rfl,rfl⟩
  obtain ⟨z,hz,rfl⟩:=fg hx
  have hz12:z<=12:=by
   have:=jF (Ng hz)
   omega
  walk_at "rd"
  refine ⟨z,rfl,hz12,?_⟩
  have h1:=KM.h7 z
  have h2:=Gv hz12
  walk_at "rd"
  refine ⟨some (.int z),?_,rfl⟩
  rw [ON,hz,UV,<-VA]
  rfl
 ·rintro σ H3 ⟨st,rfl,rfl⟩
  walk_at "rd"
  rw [aS,NM,hdv]
  exact q _ s12
noncomputable def mY (K:Fg):Sp:=fun vs H Q _=>∃ (a:Addr) (ns:List Int) (at_ most:Int),vs=[.ref a,.int at_,.int most]/\hZ K H a ns/\0<=at_/\at_<=1000/\1<=most/\
 ∀ (c:Nat) (ss:List Nat) (p q:Addr) (H':Hp),am H H'->H p=none->H q=none->H' p=some (.tup [.int c,.ref q])->H' q=some (.lst (au ss))->rV c ss->((KM.cA c ss:Nat):Int)<=most->Q (.ref p) H'
theorem wA:∀ ss:List Nat,ss.sum<=0->KM.cA 0 ss=1
 | [],_=>rfl
 | a :: r,h=>by
  rw [NG] at h
  have ha:a=0:=by omega
  subst ha
  rw [KM.cA,KM.kW,wA r (by omega)]
theorem vq (ss:List Nat) (j m:Nat):(au ss).set j (.int (m:Int))=au (ss.set j m):=by
 unfold au
 rw [UL]
theorem Il {ss:List Nat} {M:Int} (h:M∈ss.map fun (s:Nat)=>((s:Nat):Int)):∃ m:Nat,m∈ss/\M=(m:Int):=by
 obtain ⟨m,hm,e⟩:=Os.mp h
 exact ⟨m,hm,e.symm⟩
theorem Im {ss:List Nat} {j m:Nat} (h:ss[j]?=some m) (hm:0 < m):(ss.set j (m - 1)).sum + 1=ss.sum:=by
 obtain ⟨h1,h2⟩:=Na.mp h
 have e:ss.getD j 0=m:=by rw [Np,h]; rfl
 have:=KM.yp ss j h1 (by rw [e]; exact hm)
 rw [e] at this
 exact this
noncomputable def Ds (K:Fg):TS:=(ap (mQ (be (tOp (rI0 fun i j=>.bl (decide (j < i))) (av (i5 K) [] E0 (ac (aa 3) (ac (aa 4) ag))) (aa 2))) (ap (bp (be (tOp (rI0 fun i j=>.bl (decide (j < i))) (tCB (yn K) (ac (aa 4) ag)) (tOp (rI0 fun i j=>.int (i - j)) (aa 3) (tCB (vh K) (ac (aa 4) ag))))) (aH (tOp (rI0 fun i j=>.int (i - j)) (tCB (yn K) (ac (aa 4) ag)) (tC (.int 1))) (kj (aa 4) (tBM K "list" Bk (aa 4) (ac (tCB (yn K) (ac (aa 4) ag)) ag)) kS)) aY)
 (aH (tOp (rI0 fun i j=>.int (i - j)) (aa 3) (tC (.int 1))) (aj 3))))
 (aJ (dN (ac (aa 3) (ac (aa 4) ag)))))
theorem Gw {K:Fg} {H0 H:Hp} {Q:VK} {NX:St->Hp->Prop} {x y:V} {most:Int} {c:Nat} {q:Addr} {ss:List Nat} {dy:St} (s0:am H0 H) (hq0:H0 q=none) (hq:H q=some (.lst (au ss))) (h1:1<=ss.length) (h5:ss.length<=5) (hs:ss.sum<=c) (hc:c<=12) (hm:1<=most)
  (g:∀ (c:Nat) (ss:List Nat) (p q:Addr) (H':Hp),am H0 H'->H0 p=none->H0 q=none->H' p=some (.tup [.int c,.ref q])->H' q=some (.lst (au ss))->rV c ss->((KM.cA c ss:Nat):Int)<=most->Q (.ref p) H'):
  Ds K { nx:=NX,rt:=Q } (some x :: some y :: some (.int most) :: some (.int c) :: some (.ref q) :: dy) H:=by
 unfold Ds
 refine bA ?_
 refine AE (fun m σ H2=>∃ (c:Nat) (ss:List Nat),σ=(some x :: some y :: some (.int most) :: some (.int c) :: some (.ref q) :: dy)/\am H0 H2/\H2 q=some (.lst (au ss))/\1<=ss.length/\ss.length<=5/\ss.sum<=c/\c<=12/\m=c) c ⟨c,ss,rfl,s0,hq,h1,h5,hs,hc,rfl⟩ ?_
 clear s0 hq h1 h5 hs hc
 rintro m σ H2 ⟨c,ss,rfl,s0,hq,h1,h5,hs,hc,hmc⟩
 have hmc':=hmc.symm
 subst hmc'
 walk_at "rd"
 refine ⟨c,q,ss,rfl,hq,hs,hc,by omega,fun H3 s3=>?_⟩
 have s3':=s0.trans s3
 have hq3:=s3 _ _ hq
 have hS:SqL K H3 q ((ss.map fun (s:Nat)=>((s:Nat):Int)).map V.int):=by rw [<-dm]; exact SqL.of hq3
 walk_at "rd"
 refine dC (fun hgt=>?_) (fun hle=>?_)
 ·have hc1:1<=c:=by
   rcases Qo c with z | z
   ·subst z
    rw [wA ss hs] at hgt
    omega
   ·exact z
  refine AD ?_
  walk_at "rd"
  have hne:(ss.map fun (s:Nat)=>((s:Nat):Int))≠[]:=by
   intro z
   have:=congrArg List.length z
   rw [M6] at this
   simp at this
   subst this
   simp at h1
  refine ⟨q,_,rfl,hS,hne,fun M hM hmax=>?_⟩
  obtain ⟨mx,hmx,rfl⟩:=Il hM
  have hle:=jF hmx
  walk_at "rd"
  refine En hS ?_
  walk_at "rd"
  rw [jl]
  refine dC (fun hbig=>?_) (fun hsm=>?_)
  ·walk_at "rd"
   refine ⟨q,_,rfl,hS,hne,fun M2 hM2 hmax2=>?_⟩
   obtain rfl:M2=((mx:Nat):Int):=V4 (hmax M2 hM2) (hmax2 _ hM)
   walk_at "rd"
   refine ⟨qa hq3,?_⟩
   walk_at "rd"
   refine ⟨q,_,rfl,hS,hne,fun M3 hM3 hmax3=>?_⟩
   obtain rfl:M3=((mx:Nat):Int):=V4 (hmax M3 hM3) (hmax3 _ hM)
   obtain ⟨j,hj,hfirst⟩:=Bm hM
   have hj':ss[j]?=some mx:=by
    rw [Nm] at hj
    cases e:ss[j]? with
    | none=>rw [e] at hj; cases hj
    | some z=>rw [e] at hj; have hzz:((z:Nat):Int)=(mx:Int):=Nl hj; rw [show z=mx by omega]
   have hjl:j < ss.length:=(Na.mp hj').1
   walk_at "rd"
   refine ⟨q,_,_,j,rfl,rfl,by rw [<-dm]; exact hq3,hj,hfirst,by omega,?_⟩
   walk_at "rd"
   refine mS hq3 (j:=j) (by unfold ixN; rw [aS,if_pos (by omega),if_pos (by omega)]; simp) ?_
   walk_at "rd"
   have hss:=Im hj' (by omega)
   refine ⟨c - 1,by omega,c - 1,ss.set j (mx - 1),?_,s3'.upd hq0 _,?_,by rw [Pk]; exact h1,by rw [Pk]; exact h5,by omega,by omega,rfl⟩
   ·rw [show (c:Int) - 1=((c - 1:Nat):Int) by omega]
   ·rw [ay,show ((mx:Nat):Int) - 1=((mx - 1:Nat):Int) by omega,vq]
  ·walk_at "rd"
   refine ⟨c - 1,by omega,c - 1,ss,?_,s3',hq3,h1,h5,?_,by omega,rfl⟩
   ·rw [show (c:Int) - 1=((c - 1:Nat):Int) by omega]
   ·by_cases e:ss.sum=c
    ·have z:mx=0:=by omega
     have all0:∀ s∈ss,s=0:=fun s hs'=>by
      have:=hmax _ (Ut (f:=fun (s:Nat)=>((s:Nat):Int)) hs')
      have:(s:Int)<=(mx:Int):=this
      omega
     have:ss.sum=0:=by
      clear hmax hM hq hq3 hS hne hgt hsm hmx hle h1 h5 hs e
      induction ss with
      | nil=>rfl
      | cons b r ih=>rw [NG,all0 b Nd,ih fun s hs=>all0 s (Nn _ hs)]
     omega
    ·omega
 ·walk_at "rd"
  exact ⟨by simp [Nf],fun p H4 hp s4 e4=>g c ss p q H4 (s3'.trans s4) (s3'.free hp) hq0 e4 (s4 _ _ hq3) ⟨hc,h1,h5,hs⟩ (by omega)⟩
end
section
variable {K:Fg} {vs:List V} {H:Hp} {Q:VK} {E:XK}
noncomputable def ku (_:Fg):Sp:=fun vs H Q _=>∃ (a:Addr) (ns:List Int),vs=[.ref a]/\H a=some (.lst (ns.map V.int))/\ns.length<=100000/\∀ H',am H H'->Q (.bl true) H'
noncomputable def i6 (K:Fg):TS:=(ap (bp (dt (tB (tCB (iP K) (ac (aa 0) (ac (tC (.ty "list")) ag))))) (aJ (tC (.bl false))) aY)
 (aJ (tOp (jB (SqL K) false) (bu (ce K (aa 0)) (fun _ _ _ _=>(aj 0)) (fun _ _ _ _=>(tOr (dt (tB (tCB (iP K) (ac (aa 0) (ac (tC (.ty "int")) ag))))) (tB (tCB (iP K) (ac (aa 0) (ac (tC (.ty "bool")) ag)))))) (fun _ _ _ _=>(aa 0)) [none]) (d5 ag))))
theorem yt (h:ku K vs H Q E):i6 K { nx:=fun _ H'=>Q .non H',rt:=Q } (start ["_law_found"] vs) H:=by
 obtain ⟨a,ns,rfl,e,hl,q⟩:=h
 show i6 K _ [some _] _
 unfold i6
 walk_at "rd"
 refine gU (.lst e) (kU K) ?_
 walk_at "rd"
 refine cF (ns.map V.int) (SqL.of e) (by rw [M6]; omega) (fun i acc _=>acc=[]) (fun _ _=>rfl) ?_ ?_
 ·intro p hp C s' H' fp i x acc H2 hx ⟨s2,e2,l2,r2⟩
  obtain ⟨z,hz,rfl⟩:=rX hx
  subst r2
  walk_at "rd"
  refine gU (.int _) (uG K) ?_
  walk_at "rd"
  refine gU (.int _) (rN K) ?_
  walk_at "rd"
  exact bf.skip s2 e2 l2 rfl
 ·intro p acc H2 hp s2 e2 r2
  subst r2
  walk_at "rd"
  refine ⟨by simp [Nf],fun p3 H3 hp3 s3 e3=>?_⟩
  refine JC (ns:=[]) (ms:=[]) (SqL.of (s3 _ _ e2)) (SqL.of e3) ?_
  exact q _ (s2.trans s3)
end
section
variable {K:Fg} {vs:List V} {H:Hp} {Q:VK} {E:XK}
noncomputable def gB (K:Fg):Sp:=fun vs H Q _=>∃ (a:Addr) (xs:List V) (ks:List MK) (s:Bool),vs=[.ref a]/\H a=some (.lst xs)/\Paired (ci H) xs ks/\(∀ k∈ks,gn k=s)/\ks.length<=100000/\
 ∀ p H',H p=none->am H H'->H' p=some (.lst (au (bm ks)))->Q (.ref p) H'
noncomputable def jH (K:Fg):TS:=(ap (aH o0 (aj 1))
 (ap (aH (d5 ag) (aj 2))
 (ap (cV (i3 aR K (ac (aa 0) ag)) (da K 2 (aW (aj 3) (aW (aj 4) cZ))) (ap (bp (be (tOp (vn true) (aa 4) (aa 1))) (aH (aa 3) (kj (aa 1) (aa 4) wn)) aY)
 (dI (tBM K "list" ip (aa 2) (ac (tOp AG (aa 1) (aa 4)) ag)))))
 (aJ (aa 2)))))
theorem zH (h:gB K vs H Q E):jH K { nx:=fun _ H'=>Q .non H',rt:=Q } (start ["_law_signs","_law_first","_law_found","_law_place","_law_sign"] vs) H:=by
 obtain ⟨a,xs,ks,s,rfl,e,hk,hs,hl,q⟩:=h
 show jH K _ [some _,none,none,none,none] _
 unfold jH
 have hlen:xs.length=ks.length:=NP hk
 walk_at "rd"
 refine tN s fun d H1 hd s1 dx1=>?_
 walk_at "rd"
 refine ⟨by simp [Nf],fun f H2 hf s2 e2=>?_⟩
 walk_at "rd"
 refine mL (S:=aR) xs (SqL.of (s2 _ _ (s1 _ _ e))) (fun i σ H3=>∃ (u v:Option V),σ=[some (.ref a),some (.ref d),some (.ref f),u,v]/\am H H3/\Dx H3 d s (gA ks i) i/\H3 f=some (.lst (au ((bm ks).take i)))) ?_ ?_ ?_ ?_
 ·exact ⟨none,none,rfl,s1.trans s2,(dx1.congr uJ).same s2,e2⟩
 ·rintro i σ H3 hi ⟨u,v,rfl,s3,dx3,e3⟩
  exact SqL.of (s3 _ _ e)
 ·rintro i x T σ H3 H4 hx ⟨u,v,rfl,s3,dx3,e3⟩ hT s4 eT
  obtain ⟨k,hki,hkv⟩:=bx hk hx
  have hks:=hs k (Ng hki)
  have hi:i < ks.length:=(Na.mp hki).1
  refine dO (SqT.of eT) ?_
  have hkv4:=hkv.keep (s3.trans s4).keep
  have dx4:=dx3.same s4
  have e4:=s4 _ _ e3
  have s34:=s3.trans s4
  have hfd:=dx4.ne_lst e4
  have hdH:H d=none:=hd
  have hfH:H f=none:=s1.free hf
  refine ko fun NX hNX=>?_
  have key:∀ H5,am H H5->Dx H5 d s (gA ks (i + 1)) (i + 1)->H5 f=some (.lst (au ((bm ks).take i)))->ci H5 x k->NX [some (.ref a),some (.ref d),some (.ref f),some (.int (i:Nat)),some x] H5:=by
   intro H5 s5 dx5 e5 hk5
   refine hNX _ _ ?_
   walk_at "rd"
   refine ⟨qa e5,?_⟩
   walk_at "rd"
   refine Gk dx5 hk5 hks (nU (CP hki)) ?_
   walk_at "rd"
   refine kr e5 (by rw [aS,OT,cR,Nf]; omega) fun H6 o6 e6=>?_
   refine ⟨_,_,rfl,s5.off hfH o6,dx5.off e5 o6,?_⟩
   rw [e6,rS hki,h8]
  walk_at "rd"
  refine Bt dx4 hkv4 hks ?_
  walk_at "rd"
  by_cases hm:k∈ks.take i
  ·rw [nU hm]
   refine lM ?_
   exact key H4 s34 ((dx4.congr (wo hki hm)).le (Pn i)) e4 hkv4
  ·rw [uI hm]
   refine lN ?_
   walk_at "rd"
   refine Bu dx4 hkv4 hks (by rw [Nf]; omega) fun H5 o5 dx5=>?_
   have kp:=dx4.offK o5
   exact key H5 (s34.off hdH o5) (dx5.congr (wp hki hm)) (by rw [o5 _ hfd]; exact e4) (hkv4.keep kp)
 ·rintro σ H3 ⟨u,v,rfl,s3,dx3,e3⟩
  walk_at "rd"
  refine q _ _ (s1.free hf) s3 ?_
  rw [e3,PM (by rw [cR,hlen]; exact M9 _)]
end
section
variable {K:Fg} {vs:List V} {H:Hp} {Q:VK} {E:XK}
theorem jn {ss:List Nat} {j z:Nat} (h:ss[j]?=some z):atI (au ss) (j:Int)=some (.int (z:Int)):=cP (by unfold au; rw [Nm,h]; rfl)
end
noncomputable def wB:V->Bool
 | .non=>true
 | .bl _=>true
 | .int _=>true
 | _=>false
inductive iw (K:Fg) (H:Hp):Nat->V->V->Prop where
 | flat {n:Nat} {x:V} (h:wB x=true):iw K H n x x
 | lst {n:Nat} {a b:Addr} {xs ys:List V} (e1:SqL K H a xs) (e2:SqL K H b ys) (hl:xs.length=ys.length) (h:∀ (i:Nat) (x y:V),xs[i]?=some x->ys[i]?=some y->iw K H n x y):iw K H (n + 1) (.ref a) (.ref b)
 | tup {n:Nat} {a b:Addr} {xs ys:List V} (e1:SqT K H a xs) (e2:SqT K H b ys) (hl:xs.length=ys.length) (h:∀ (i:Nat) (x y:V),xs[i]?=some x->ys[i]?=some y->iw K H n x y):iw K H (n + 1) (.ref a) (.ref b)
noncomputable def mZ (K:Fg) (neg:Bool):R2:=fun x y H Q=>∃ n,n<=30/\iw K H n x y/\Q (.bl (!neg)) H
section
variable {K:Fg} {H:Hp} {Q:VK}
theorem Kh {x y:V} (n:Nat) (hn:n<=30) (h:iw K H n x y) (q:Q (.bl true) H):mZ K false x y H Q:=⟨n,hn,h,q⟩
theorem Dt {x y:V} (n:Nat) (hn:n<=30) (h:iw K H n x y) (q:Q (.bl false) H):mZ K true x y H Q:=⟨n,hn,h,q⟩
theorem wC {a b:Addr} {xs:List V} (e1:SqL K H a xs) (e2:SqL K H b xs) (hf:∀ x∈xs,wB x=true):iw K H 1 (.ref a) (.ref b):=
 .lst e1 e2 rfl fun i x y hx hy=>by
  rw [hx] at hy
  cases hy
  exact .flat (hf x (Ng hx))
theorem Ez {a b:Addr} {xs:List V} (e1:SqT K H a xs) (e2:SqT K H b xs) (hf:∀ x∈xs,wB x=true):iw K H 1 (.ref a) (.ref b):=
 .tup e1 e2 rfl fun i x y hx hy=>by
  rw [hx] at hy
  cases hy
  exact .flat (hf x (Ng hx))
theorem zx (ns:List Int):∀ x∈ns.map V.int,wB x=true:=fun x hx=>by obtain ⟨n,_,rfl⟩:=Os.mp hx; rfl
end
section
variable {g:CF TG} {tt:CF TT} {te:CF TE} {σ₀:St} {Q:VK} {H:Hp} {K:Fg}
theorem Du {S:Src} {a:Addr} (xs:List V) (hx:S.Sq K H a xs) (kx:∀ H',am H H'->S.Sq K H' a xs) (hz:xs.length<=1000000) (R:Nat->List V->Hp->Prop) (h0:∀ H',am H H'->R 0 [] H')
  (hs:∀ p,H p=none->∀ C s' H' fp,∀ i x T acc H2 H3,xs[i]?=some x->bf H p R i acc H2->H2 T=none->am H2 H3->H3 T=some (.tup [.int i,x])->H3 p=some (.lst acc)->g C s' H' fp (.ref T) σ₀ H3 fun σ2 H4=>tt C s' H' fp σ2 H4 fun b H5=>if b=true then te C s' H' fp σ2 H5 fun y H6=>H6 p=some (.lst acc)/\bf H p R (i + 1) (acc++[y]) (upd H6 p (.lst (acc++[y]))) else bf H p R (i + 1) acc H5)
  (hd:∀ p acc H2,H p=none->am H H2->H2 p=some (.lst acc)->R xs.length acc H2->Q (.ref p) H2):
  ∃ a' xs',[V.ref a]=[.ref a']/\S.Sq K H a' xs'/\∀ p,H p=none->∃ W:Nat->Nat->List V->Hp->Prop,(∃ m,W 0 m [] (upd H p (.lst [])))/\∀ C s' H' fp,bO (Ite S K a') (g C s' H' fp) (tt C s' H' fp) (te C s' H' fp) σ₀ p Q W:=
 ⟨a,xs,rfl,hx,fun p hp=>zm (bf H p R) ⟨bg hp _,ay,M9 _,h0 _ (bg hp _)⟩ (fun i acc H2 _ c=>⟨c.2.1,c.2.2.1⟩) (fun i acc H2 _ c=>kx _ c.1) (by rw [Nf]; omega)
  (fun C s' H' fp i x T acc H2 hi c hT=>hs p hp C s' H' fp i x T acc H2 _ hi c hT (bg hT _) ay (by rw [aQ (bn c.2.1 hT)]; exact c.2.1)) fun acc H2 c=>hd p acc H2 hp c.1 c.2.1 c.2.2.2⟩
end
section
variable {K:Fg} {vs:List V} {H:Hp} {Q:VK} {E:XK}
noncomputable def fq (K:Fg):Sp:=fun vs H Q _=>∃ (a:Addr) (xs:List V) (ks:List MK) (s:Bool),vs=[.ref a]/\H a=some (.lst xs)/\Paired (ci H) xs ks/\(∀ k∈ks,gn k=s)/\ks.length<=100000/\
 ∀ p H',H p=none->am H H'->H' p=some (.lst (au (bm ks)))->Q (.ref p) H'
noncomputable def fO (K:Fg):TS:=(ap (aH o0 (aj 1))
 (ap (cV (i3 aR K (ac (aa 0) ag)) (da K 2 (aW (aj 2) (aW (aj 3) cZ))) (dI (tXM Bs (aa 1) (ac (aa 3) (ac (aa 2) ag)))))
 (aJ (bu (ce K (aa 0)) (fun _ _ _ _=>(aj 0)) (fun _ _ _ _=>aV) (fun _ _ _ _=>(tOp AG (aa 1) (aa 0))) [none,some 1]))))
theorem rY (h:fq K vs H Q E):fO K { nx:=fun _ H'=>Q .non H',rt:=Q } (start ["marks","firsts","thing","mark"] vs) H:=by
 obtain ⟨a,xs,ks,s,rfl,e,hk,hs,hl,q⟩:=h
 show fO K _ [some _,none,none,none] _
 unfold fO
 have hlen:xs.length=ks.length:=NP hk
 walk_at "rd"
 refine tN s fun d H1 hd s1 dx1=>?_
 walk_at "rd"
 refine mL (S:=aR) xs (SqL.of (s1 _ _ e)) (fun i σ H3=>∃ (u v:Option V),σ=[some (.ref a),some (.ref d),u,v]/\am H H3/\Dx H3 d s (gA ks i) i) ?_ ?_ ?_ ?_
 ·exact ⟨none,none,rfl,s1,dx1.congr uJ⟩
 ·rintro i σ H3 hi ⟨u,v,rfl,s3,dx3⟩
  exact SqL.of (s3 _ _ e)
 ·rintro i x T σ H3 H4 hx ⟨u,v,rfl,s3,dx3⟩ hT s4 eT
  obtain ⟨k,hki,hkv⟩:=bx hk hx
  have hks:=hs k (Ng hki)
  have hi:i < ks.length:=(Na.mp hki).1
  refine dO (SqT.of eT) ?_
  have s34:=s3.trans s4
  have hkv4:=hkv.keep s34.keep
  have dx4:=dx3.same s4
  walk_at "rd"
  refine MY ?_
  walk_at "rd"
  refine ⟨⟨d,s,_,_,rfl,dx4⟩,?_⟩
  walk_at "rd"
  refine Kd dx4 hkv4 hks (by rw [Nf]; omega) (fun w hw=>?_) (fun hn H5 o5 dx5=>?_)
  ·have hm:k∈ks.take i:=by
    by_cases q:k∈ks.take i
    ·exact q
    ·rw [uI q] at hw; cases hw
   exact ⟨_,_,rfl,s34,(dx4.congr (wo hki hm)).le (Pn i)⟩
  ·have hm:k∉ks.take i:=fun q=>by rw [nU q] at hn; cases hn
   exact ⟨_,_,rfl,s34.off hd o5,dx5.congr (wp hki hm)⟩
 ·rintro σ H3 ⟨u,v,rfl,s3,dx3⟩
  walk_at "rd"
  refine cF xs (SqL.of (s3 _ _ e)) (by omega) (fun i acc _=>acc=au ((bm ks).take i)) (fun H' _=>rfl) ?_ ?_
  ·rintro p hp C s' H' fp i x acc H4 hx ⟨s4,e4,l4,rfl⟩
   obtain ⟨k,hki,hkv⟩:=bx hk hx
   have hks:=hs k (Ng hki)
   have hi:i < ks.length:=(Na.mp hki).1
   walk_at "rd"
   refine Gk (dx3.same s4) (hkv.keep (s3.trans s4).keep) hks (nU (by rw [hlen,NM]; exact Ng hki)) ?_
   refine bf.put hp (fun _ _ _ _ r _=>r) s4 e4 l4 ?_
   rw [rS hki,h8]
  ·rintro p acc H4 hp s4 e4 rfl
   refine q _ _ (s3.free hp) (s3.trans s4) ?_
   rw [e4,PM (by rw [cR,hlen]; exact M9 _)]
noncomputable def eX (w:List Nat) (h:Int):List Int:=oM (w.map fun (s:Nat)=>((s:Nat):Int)) h w.length
noncomputable def vt (ns:List Int):MK:=.inr (ns.map fun n=>(OZ (some n):IK))
theorem Io (a b:List Int) (e:vt a=vt b):a=b:=by
 have h:a.map (fun n=>(OZ (some n):IK))=b.map (fun n=>(OZ (some n):IK)):=QI e
 clear e
 induction a generalizing b with
 | nil=>cases b with
  | nil=>rfl
  | cons _ _=>simp at h
 | cons x r ih=>cases b with
  | nil=>simp at h
  | cons y t=>
   rw [Nt,Nt] at h
   injection h with h1 h2
   injection h1 with h1
   injection h1 with h1
   rw [h1,ih t h2]
noncomputable def lC (ws:List (List Nat)) (h:Int):List Nat:=bm (ws.map fun w=>eX w h)
theorem uO (ws:List (List Nat)) (h:Int):bm (ws.map fun w=>vt (eX w h))=lC ws h:=by
 unfold lC
 rw [<-uH (f:=vt) Io,PQ]
 rfl
theorem ba.to' {H H':Hp} {p:Addr} {ws:List (List Nat)} (d:ba H p ws) (k:fb H H') (e:∀ rs:List Addr,H p=some (.lst (rs.map V.ref))->H' p=some (.lst (rs.map V.ref))):ba H' p ws:=by
 obtain ⟨rs,h1,h2⟩:=d
 exact ⟨rs,e rs h1,kY h2 fun a xs e=>k _ _ e⟩
theorem ba.same' {H H':Hp} {p:Addr} {ws:List (List Nat)} (d:ba H p ws) (s:am H H'):ba H' p ws:=d.to' s.keep fun rs e=>s _ _ e
theorem m5 {rs:List Addr} {i:Nat} {x:V} (hx:(rs.map V.ref)[i]?=some x):∃ a,rs[i]?=some a/\x=.ref a:=by
 rw [Nm] at hx
 cases e:rs[i]? with
 | none=>rw [e] at hx; cases hx
 | some z=>rw [e] at hx; exact ⟨z,rfl,(Nl hx).symm⟩
noncomputable def lR (K:Fg):Sp:=fun vs H Q _=>∃ (a:Addr) (ws:List (List Nat)) (h:Int),vs=[.ref a,.int h]/\ba H a ws/\(∀ w∈ws,w.length<=1000)/\ws.length<=100000/\
 ∀ p H',H p=none->am H H'->H' p=some (.lst (au (lC ws h)))->Q (.ref p) H'
theorem Gx {H:Hp} {xs:List V} {ks:List MK} {x:V} {k:MK} (h:Paired (ci H) xs ks) (q:ci H x k):Paired (ci H) (xs++[x]) (ks++[k]):=by
 induction h with
 | nil=>exact .cons q .nil
 | cons r _ ih=>exact .cons r ih
noncomputable def jI (K:Fg):TS:=(aJ (av (fq K) [] E0 (ac (bu (ce K (aa 0)) (fun _ _ _ _=>(aj 0)) (fun _ _ _ _=>aV) (fun _ _ _ _=>(av (k9 K) [] E0 (ac (aa 0) (ac (aa 1) ag)))) [none,some 1]) ag)))
theorem zI (h:lR K vs H Q E):jI K { nx:=fun _ H'=>Q .non H',rt:=Q } (start ["deals","hand"] vs) H:=by
 obtain ⟨a,ws,h,rfl,hD,hw,hl,q⟩:=h
 show jI K _ [some _,some _] _
 unfold jI
 obtain ⟨rs,e,hr⟩:=id hD
 have hlr:rs.length=ws.length:=NP hr
 walk_at "rd"
 refine cF (rs.map V.ref) (SqL.of e) (by rw [M6]; omega) (fun i acc H'=>Paired (ci H') acc ((ws.take i).map fun w=>vt (eX w h))) (fun H' _=>.nil) ?_ ?_
 ·rintro p hp C s' H' fp i x acc H2 hx ⟨s2,e2,l2,r2⟩
  obtain ⟨b,hb,rfl⟩:=m5 hx
  obtain ⟨w,hwi,ew⟩:=bx hr hb
  walk_at "rd"
  refine ⟨b,w.map fun (s:Nat)=>((s:Nat):Int),h,rfl,by rw [<-dm]; exact SqT.of (s2 _ _ ew),by rw [M6]; exact hw w (Ng hwi),fun r H3 s3 e3=>?_⟩
  rw [M6] at e3
  refine bf.put hp (fun _ _ _ _ r k=>zp r k) (s2.trans s3) (s3 _ _ e2) l2 ?_
  rw [bX hwi,Ny]
  exact Gx (zp r2 s3.keep) (Dp (ns:=eX w h) e3)
 ·rintro p acc H2 hp s2 e2 r2
  rw [M6,hlr,NM] at r2
  walk_at "rd"
  refine ⟨p,acc,_,true,rfl,e2,r2,?_,by rw [M6]; omega,fun p3 H3 hp3 s3 e3=>?_⟩
  ·intro k hk
   obtain ⟨w,_,rfl⟩:=Os.mp hk
   rfl
  ·rw [uO] at e3
   exact q _ _ (s2.free hp3) (s2.trans s3) e3
end
noncomputable def JI:List V->Hp->VK->Prop:=fun xs H Q=>∃ n:Nat,xs=[.int (n:Int)]/\n<=1000000/\New H (.rng 0 (n:Int)) fun p H2=>Q (.ref p) H2
noncomputable def AH:List V->Hp->VK->Prop:=fun xs H Q=>∃ (p:Addr) (n:Nat),xs=[.ref p]/\H p=some (.rng 0 (n:Int))/\n<=1000000/\New H (.lst ((NC n).map fun (i:Nat)=>V.int ((i:Nat):Int))) fun p H2=>Q (.ref p) H2
noncomputable def JJ (ta:TA):TE:=tCB AH (ac (tCB JI ta) ag)
theorem MC {H:Hp} {Q:VK} {n:Nat} (hn:n<=1000000) (h:New H (.lst ((NC n).map fun (i:Nat)=>V.int ((i:Nat):Int))) fun p H2=>Q (.ref p) H2):New H (.rng 0 (n:Int)) fun p H2=>AH [.ref p] H2 Q:=
 fun p H' _ s e=>⟨p,n,rfl,e,hn,fun l H2 hl s2 e2=>h l H2 (s.free hl) (s.trans s2) e2⟩
noncomputable def mM (H:Hp) (ts:List Addr) (ps:List (V×V)):Prop:=Paired (fun (t:Addr) (p:V×V)=>H t=some (.tup [p.1,p.2])) ts ps
noncomputable def EA (S1 S2:Src) (K:Fg) (ta:TA):TE:=fun σ H Q=>ta σ H fun vs H1=>∃ a b xs ys,vs=[.ref a,.ref b]/\S1.Sq K H1 a xs/\S2.Sq K H1 b ys/\xs.length<=1000000/\
 ∀ p H',H1 p=none->am H1 H'->(∃ ts:List Addr,H' p=some (.lst (ts.map V.ref))/\mM H' ts (xs.zip ys))->Q (.ref p) H'
section
variable {σ:St} {H:Hp} {Q:VK} {K:Fg}
theorem LK {ta:TA} (h:ta σ H fun vs H1=>∃ n:Nat,vs=[.int (n:Int)]/\n<=1000000/\New H1 (.rng 0 (n:Int)) fun p H2=>AH [.ref p] H2 Q):JJ ta σ H Q:=h
theorem LL {S1 S2:Src} {ta:TA} (h:ta σ H fun vs H1=>∃ a b xs ys,vs=[.ref a,.ref b]/\S1.Sq K H1 a xs/\S2.Sq K H1 b ys/\xs.length<=1000000/\
 ∀ p H',H1 p=none->am H1 H'->(∃ ts:List Addr,H' p=some (.lst (ts.map V.ref))/\mM H' ts (xs.zip ys))->Q (.ref p) H'):EA S1 S2 K ta σ H Q:=h
end
end L2
section
namespace KF
noncomputable def fv (ps:List Nat):Prop:=∀ x y:Nat,ps[x]?=some y->y<=x
inductive bD (ps:List Nat):Nat->Nat->Prop where
 | stop {x:Nat} (h:ps[x]?=some x):bD ps x x
 | step {x y r:Nat} (h:ps[x]?=some y) (hl:y < x) (t:bD ps y r):bD ps x r
theorem bD.inj {ps:List Nat} {x r r':Nat} (a:bD ps x r) (b:bD ps x r'):r=r':=by
 induction a with
 | stop h=>cases b with
  | stop _=>rfl
  | step h' hl _=>rw [h] at h'; cases h'; omega
 | step h hl _ ih=>cases b with
  | stop h'=>rw [h] at h'; cases h'; omega
  | step h' _ t=>rw [h] at h'; cases h'; exact ih t
theorem fv.root {ps:List Nat} (f:fv ps):∀ x,x < ps.length->∃ r,bD ps x r:=by
 intro x
 induction x using Nat.strongRecOn with
 | ind x ih=>
  intro hx
  have e:=M7 hx
  have hy:=f x _ e
  rcases QT hy with h | h
  ·obtain ⟨r,hr⟩:=ih _ h (by omega)
   exact ⟨r,.step e h hr⟩
  ·rw [h] at e
   exact ⟨x,.stop e⟩
theorem bD.le {ps:List Nat} {x r:Nat} (a:bD ps x r):r<=x:=by
 induction a with
 | stop _=>exact M9 _
 | step _ hl _ ih=>omega
theorem bD.self {ps:List Nat} {x r:Nat} (a:bD ps x r):ps[r]?=some r:=by
 induction a with
 | stop h=>exact h
 | step _ _ _ ih=>exact ih
theorem bD.lt {ps:List Nat} {x r:Nat} (a:bD ps x r):x < ps.length:=by
 cases a with
 | stop h=>exact (Na.mp h).1
 | step h _ _=>exact (Na.mp h).1
theorem fv.range (n:Nat):fv (NC n):=fun x y h=>by
 obtain ⟨h1,h2⟩:=Na.mp h
 rw [R3] at h2
 omega
theorem bD.range {n x:Nat} (h:x < n):bD (NC n) x x:=.stop (by rw [OL h])
theorem LM {ps:List Nat} {e g y z:Nat} (h:(ps.set e g)[y]?=some z):(y=e/\z=g)\/(y≠e/\ps[y]?=some z):=by
 rw [Qx] at h
 by_cases q:e=y
 ·rw [if_pos q] at h
  split at h
  ·cases h; exact .inl ⟨q.symm,rfl⟩
  ·cases h
 ·rw [if_neg q] at h
  exact .inr ⟨fun z=>q z.symm,h⟩
theorem pb {ps:List Nat} {e g y:Nat} (h:y≠e):(ps.set e g)[y]?=ps[y]?:=by
 rw [Qx,if_neg (fun z=>h z.symm)]
theorem lD {ps:List Nat} {e g:Nat} (h:e < ps.length):(ps.set e g)[e]?=some g:=by
 rw [Qx,if_pos rfl,if_pos h]
theorem fv.set {ps:List Nat} (f:fv ps) {e g:Nat} (h:g<=e):fv (ps.set e g):=fun x y q=>by
 rcases LM q with ⟨rfl,rfl⟩ | ⟨_,q⟩
 ·exact h
 ·exact f x y q
theorem bD.halve {ps:List Nat} (f:fv ps) {e p g:Nat} (h1:ps[e]?=some p) (h2:ps[p]?=some g) {y r:Nat} (a:bD ps y r):bD (ps.set e g) y r:=by
 have he:e < ps.length:=(Na.mp h1).1
 induction a with
 | @stop x h=>
  by_cases q:x=e
  ·subst q
   rw [h] at h1
   cases h1
   rw [h] at h2
   cases h2
   exact .stop (lD he)
  ·exact .stop (by rw [pb q]; exact h)
 | @step x y r h hl t ih=>
  by_cases q:x=e
  ·subst q
   rw [h] at h1
   cases h1
   have e1:(ps.set x g)[p]?=some g:=by rw [pb (by omega)]; exact h2
   cases ih with
   | stop h'=>
    rw [e1] at h'
    cases h'
    exact .step (lD he) hl (.stop e1)
   | step h' hl' t'=>
    rw [e1] at h'
    cases h'
    exact .step (lD he) (by omega) t'
  ·exact .step (by rw [pb q]; exact h) hl ih
theorem bD.link {ps:List Nat} {M m:Nat} (hM:ps[M]?=some M) (hm:ps[m]?=some m) (hle:m<=M) {y r:Nat} (a:bD ps y r):bD (ps.set M m) y (if r=M then m else r):=by
 have hMl:M < ps.length:=(Na.mp hM).1
 induction a with
 | @stop x h=>
  by_cases q:x=M
  ·subst q
   rw [if_pos rfl]
   rcases QT hle with l | l
   ·exact .step (lD hMl) l (.stop (by rw [pb (by omega)]; exact hm))
   ·subst l
    exact .stop (lD hMl)
  ·rw [if_neg q]
   exact .stop (by rw [pb q]; exact h)
 | @step x y r h hl t ih=>
  have q:x≠M:=by
   intro q
   subst q
   rw [h] at hM
   cases hM
   omega
  exact .step (by rw [pb q]; exact h) hl ih
inductive dY (P:Nat->Nat->Prop):Nat->Nat->Prop where
 | refl (x:Nat):dY P x x
 | one {x y:Nat} (h:P x y):dY P x y
 | symm {x y:Nat} (h:dY P x y):dY P y x
 | trans {x y z:Nat} (h:dY P x y) (t:dY P y z):dY P x z
theorem dY.mono {P P':Nat->Nat->Prop} (h:∀ x y,P x y->P' x y) {x y:Nat} (c:dY P x y):dY P' x y:=by
 induction c with
 | refl x=>exact .refl x
 | one q=>exact .one (h _ _ q)
 | symm _ ih=>exact .symm ih
 | trans _ _ a b=>exact .trans a b
theorem dY.keeps {P:Nat->Nat->Prop} {α:Type} {f:Nat->α} (h:∀ x y,P x y->f x=f y) {x y:Nat} (c:dY P x y):f x=f y:=by
 induction c with
 | refl x=>rfl
 | one q=>exact h _ _ q
 | symm _ ih=>exact ih.symm
 | trans _ _ a b=>exact a.trans b
noncomputable def i7 (n:Nat) (vs:List (List Nat)) (x y:Nat):Prop:=∃ v∈vs,x < n/\v[x]?=some y
structure rZ (n:Nat) (P:Nat->Nat->Prop) (r:List Nat):Prop where
 len:r.length=n
 le:∀ i x:Nat,r[i]?=some x->x<=i
 conn:∀ i x:Nat,r[i]?=some x->dY P i x
 same:∀ i j:Nat,i < n->j < n->dY P i j->r[i]?=r[j]?
structure dP (n:Nat) (P:Nat->Nat->Prop) (ps:List Nat):Prop where
 len:ps.length=n
 forest:fv ps
 conn:∀ x r,bD ps x r->dY P x r
 same:∀ x y,P x y->∃ r,bD ps x r/\bD ps y r
theorem dP.join {n:Nat} {P:Nat->Nat->Prop} {ps r:List Nat} (t:dP n P ps) (hl:r.length=n) (hr:∀ i x:Nat,r[i]?=some x->bD ps i x):rZ n P r where
 len:=hl
 le:=fun i x h=>(hr i x h).le
 conn:=fun i x h=>t.conn _ _ (hr i x h)
 same:=by
  have key:∀ i j,dY P i j->∀ x,(bD ps i x↔bD ps j x):=by
   intro i j c
   induction c with
   | refl x=>intro x; exact V7
   | one q=>
    intro x
    obtain ⟨r,h1,h2⟩:=t.same _ _ q
    exact ⟨fun a=>by rw [a.inj h1]; exact h2,fun a=>by rw [a.inj h2]; exact h1⟩
   | symm _ ih=>intro x; exact (ih x).symm
   | trans _ _ a b=>intro x; exact (a x).trans (b x)
  intro i j hi hj c
  have e1:=M7 (l:=r) (i:=i) (by rw [hl]; exact hi)
  have e2:=M7 (l:=r) (i:=j) (by rw [hl]; exact hj)
  have q1:=(key i j c _).mp (hr _ _ e1)
  rw [e1,e2,q1.inj (hr _ _ e2)]
theorem dP.start (n:Nat):dP n (fun _ _=>False) (NC n) where
 len:=OO
 forest:=fv.range n
 conn:=fun x r h=>by
  have hx:x < n:=by have:=h.lt; rw [OO] at this; exact this
  rw [h.inj (bD.range hx)]
  exact .refl x
 same:=fun _ _ h=>h.elim
theorem dP.moved {n:Nat} {P:Nat->Nat->Prop} {ps ps':List Nat} (t:dP n P ps) (f:fv ps') (hl:ps'.length=n) (h:∀ y r,bD ps y r->bD ps' y r):dP n P ps' where
 len:=hl
 forest:=f
 conn:=fun x r a=>by
  obtain ⟨r',b⟩:=t.forest.root x (by rw [t.len,<-hl]; exact a.lt)
  rw [a.inj (h _ _ b)]
  exact t.conn _ _ b
 same:=fun x y q=>by
  obtain ⟨r,h1,h2⟩:=t.same x y q
  exact ⟨r,h _ _ h1,h _ _ h2⟩
theorem dP.link {n:Nat} {P P':Nat->Nat->Prop} {ps:List Nat} {a b ra rb M m:Nat} (t:dP n P ps) (ha:bD ps a ra) (hb:bD ps b rb) (hM:(M=ra/\m=rb)\/(M=rb/\m=ra)) (hle:m<=M)
  (h1:∀ x y,P x y->P' x y) (h2:∀ x y,P' x y->P x y\/(x=a/\y=b)) (h3:P' a b):dP n P' (ps.set M m):=by
 have sM:ps[M]?=some M:=by
  rcases hM with ⟨rfl,_⟩ | ⟨rfl,_⟩
  ·exact ha.self
  ·exact hb.self
 have sm:ps[m]?=some m:=by
  rcases hM with ⟨_,rfl⟩ | ⟨_,rfl⟩
  ·exact hb.self
  ·exact ha.self
 have cMm:dY P' M m:=by
  have c1:dY P' a ra:=(t.conn _ _ ha).mono h1
  have c2:dY P' b rb:=(t.conn _ _ hb).mono h1
  rcases hM with ⟨rfl,rfl⟩ | ⟨rfl,rfl⟩
  ·exact .trans (.symm c1) (.trans (.one h3) c2)
  ·exact .trans (.symm c2) (.trans (.symm (.one h3)) c1)
 have rt:∀ {y r:Nat},bD ps y r->bD (ps.set M m) y (if r=M then m else r):=fun q=>bD.link sM sm hle q
 refine ⟨by rw [Pk]; exact t.len,t.forest.set hle,fun x r q=>?_,fun x y q=>?_⟩
 ·obtain ⟨r',h⟩:=t.forest.root x (by have:=q.lt; rw [Pk] at this; exact this)
  rw [q.inj (rt h)]
  have c:dY P' x r':=(t.conn _ _ h).mono h1
  split
  ·rename_i e
   rw [e] at c
   exact .trans c cMm
  ·exact c
 ·rcases h2 x y q with q | ⟨rfl,rfl⟩
  ·obtain ⟨r,q1,q2⟩:=t.same x y q
   exact ⟨_,rt q1,rt q2⟩
  ·refine ⟨m,?_,?_⟩
   ·have:=rt ha
    rcases hM with ⟨e1,e2⟩ | ⟨e1,e2⟩
    ·rw [if_pos e1.symm] at this; exact this
    ·by_cases z:ra=M
     ·rw [if_pos z] at this; exact this
     ·rw [if_neg z,<-e2] at this; exact this
   ·have:=rt hb
    rcases hM with ⟨e1,e2⟩ | ⟨e1,e2⟩
    ·by_cases z:rb=M
     ·rw [if_pos z] at this; exact this
     ·rw [if_neg z,<-e2] at this; exact this
    ·rw [if_pos e1.symm] at this; exact this
end KF
end
namespace L2
open PySem PyProof.Rows
section
variable {K:Fg} {vs:List V} {H:Hp} {Q:VK} {E:XK}
open KF
section
variable {g:CF TG} {tt:CF TT} {te:CF TE} {σ₀:St} {Q:VK} {H:Hp} {K:Fg}
theorem Gy {j:Int} (n:Nat) (hn:j.toNat=n) (hj:j<=1000000) (hj0:-1000000<=j) (R:Addr->Nat->List V->Hp->Prop) (h0:∀ p H',H p=none->am H H'->H' p=some (.lst [])->R p 0 [] H')
  (hp:∀ p i acc H',R p i acc H'->H' p=some (.lst acc)/\acc.length<=i)
  (hs:∀ p,H p=none->∀ C s' H' fp,∀ i acc H2,i < n->R p i acc H2->g C s' H' fp (.int i) σ₀ H2 fun σ2 H3=>tt C s' H' fp σ2 H3 fun b H4=>if b=true then te C s' H' fp σ2 H4 fun y H5=>H5 p=some (.lst acc)/\R p (i + 1) (acc++[y]) (upd H5 p (.lst (acc++[y]))) else R p (i + 1) acc H4)
  (hd:∀ p acc H2,H p=none->R p n acc H2->Q (.ref p) H2):
  ∃ j':Int,[V.int j]=[.int j']/\-(2 ^ 62)<=j'/\j' < 2 ^ 62/\∀ p,H p=none->∃ W:Nat->Nat->List V->Hp->Prop,(∃ m,W 0 m [] (upd H p (.lst [])))/\∀ C s' H' fp,bO (Itr 0 j'.toNat) (g C s' H' fp) (tt C s' H' fp) (te C s' H' fp) σ₀ p Q W:=by
 refine ⟨j,rfl,by omega,by omega,fun p hpn=>?_⟩
 subst hn
 exact p6 (lo:=0) (R p) (h0 p _ hpn (bg hpn _) ay) (fun i acc H2 _ c=>hp p i acc H2 c) (by rw [Nf]; omega) (fun C s' H' fp i acc H2 hi c=>by rw [SV]; exact hs p hpn C s' H' fp i acc H2 hi c) fun acc H2 c=>hd p acc H2 hpn c
end
theorem yu {n j:Nat} (h:j < n):ixN n (j:Int)=some j:=by unfold ixN; rw [if_pos (by omega),if_pos (by omega)]; simp
theorem EB (n:Nat):(NC n).map (fun (i:Nat)=>V.int ((i:Nat):Int))=au (NC n):=rfl
noncomputable def lE (_:Fg):Sp:=fun vs H Q _=>∃ (p:Addr) (ps:List Nat) (x r:Nat),vs=[.ref p,.int (x:Int)]/\H p=some (.lst (au ps))/\fv ps/\bD ps x r/\
 ∀ H' ps',Off p H H'->H' p=some (.lst (au ps'))->ps'.length=ps.length->fv ps'->(∀ y s,bD ps y s->bD ps' y s)->Q (.int (r:Int)) H'
noncomputable def qk (K:Fg):TS:=(ap (aH (aa 1) (aj 2))
 (ap (mQ (be (tOp rNe (tOp (cb K) (aa 0) (aa 2)) (aa 2))) (ap (aH (tOp (cb K) (aa 0) (tOp (cb K) (aa 0) (aa 2))) (kj (aa 0) (aa 2) kS))
 (aH (tOp (cb K) (aa 0) (aa 2)) (aj 2))))
 (aJ (aa 2))))
theorem Ip {p:Addr} {H:Hp}:Off p H H:=fun _ _=>rfl
theorem r9 {p:Addr} {H H1 H2:Hp} (a:Off p H H1) (b:Off p H1 H2):Off p H H2:=fun c hc=>(b c hc).trans (a c hc)
theorem Gz (h:lE K vs H Q E):qk K { nx:=fun _ H'=>Q .non H',rt:=Q } (start ["points","thing","end"] vs) H:=by
 obtain ⟨p,ps,x,r,rfl,e,hf,hr,q⟩:=h
 show qk K _ [some _,some _,none] _
 unfold qk
 walk_at "rd"
 refine AE (fun m σ H1=>∃ (ps':List Nat),σ=[some (.ref p),some (.int (x:Int)),some (.int (m:Int))]/\Off p H H1/\H1 p=some (.lst (au ps'))/\ps'.length=ps.length/\fv ps'/\(∀ y s,bD ps y s->bD ps' y s)/\bD ps' m r) x ⟨ps,rfl,Ip,e,rfl,hf,fun _ _ h=>h,hr⟩ ?_
 rintro m σ H1 ⟨ps',rfl,o1,e1,hl,hf1,hk,hr1⟩
 have hm:=hr1.lt
 obtain ⟨y,hy⟩:∃ y,ps'[m]?=some y:=⟨_,M7 hm⟩
 walk_at "rd"
 refine bI (SqL.of e1) (jn hy) ?_
 walk_at "rd"
 refine vg (fun c=>?_) (fun c=>?_)
 ·have hym:y < m:=by have:=hf1 m y hy; omega
  obtain ⟨g,hg⟩:∃ g,ps'[y]?=some g:=⟨_,M7 (by omega)⟩
  have hgy:=hf1 y g hg
  refine AD ?_
  walk_at "rd"
  refine bI (SqL.of e1) (jn hy) ?_
  walk_at "rd"
  refine bI (SqL.of e1) (jn hg) ?_
  walk_at "rd"
  refine mS e1 (yu (by rw [aS]; exact hm)) ?_
  rw [vq]
  walk_at "rd"
  refine bI (SqL.of ay) (jn (z:=g) (lD hm)) ?_
  walk_at "rd"
  refine ⟨g,by omega,ps'.set m g,rfl,r9 o1 iq,ay,by rw [Pk]; exact hl,hf1.set (by omega),fun a s h=>bD.halve hf1 hy hg (hk a s h),?_⟩
  have:=bD.halve hf1 hy hg hr1
  cases this with
  | stop h=>
   rw [lD hm] at h
   cases h
   omega
  | step h _ t=>
   rw [lD hm] at h
   cases h
   exact t
 ·have:y=m:=by omega
  subst this
  walk_at "rd"
  have er:y=r:=(bD.stop hy).inj hr1
  rw [er]
  exact q H1 ps' o1 e1 hl hf1 hk
noncomputable def yv (_:Fg):Sp:=fun vs H Q _=>∃ (p:Addr) (ps:List Nat) (n:Nat) (P P':Nat->Nat->Prop) (a b:Nat),vs=[.ref p,.int (a:Int),.int (b:Int)]/\H p=some (.lst (au ps))/\dP n P ps/\a < n/\b < n/\
 (∀ x y,P x y->P' x y)/\(∀ x y,P' x y->P x y\/(x=a/\y=b))/\P' a b/\∀ H' ps',Off p H H'->H' p=some (.lst (au ps'))->dP n P' ps'->Q .non H'
noncomputable def wD (K:Fg):TS:=(ap (aH (av (lE K) [] E0 (ac (aa 0) (ac (aa 1) ag))) (aj 3))
 (ap (aH (av (lE K) [] E0 (ac (aa 0) (ac (aa 2) ag))) (aj 4))
 (aH (tCB El (ac (aa 3) (ac (aa 4) ag))) (kj (aa 0) (tCB JB (ac (aa 3) (ac (aa 4) ag))) kS))))
theorem Ki (h:yv K vs H Q E):wD K { nx:=fun _ H'=>Q .non H',rt:=Q } (start ["points","one","other","first","second"] vs) H:=by
 obtain ⟨p,ps,n,P,P',a,b,rfl,e,ht,ha,hb,h1,h2,h3,q⟩:=h
 show wD K _ [some _,some _,some _,none,none] _
 unfold wD
 obtain ⟨ra,hra⟩:=ht.forest.root a (by rw [ht.len]; exact ha)
 walk_at "rd"
 refine ⟨p,ps,a,ra,rfl,e,ht.forest,hra,fun H1 ps1 o1 e1 l1 f1 k1=>?_⟩
 have ht1:=ht.moved f1 (by rw [l1]; exact ht.len) k1
 obtain ⟨rb,hrb⟩:=ht1.forest.root b (by rw [ht1.len]; exact hb)
 walk_at "rd"
 refine ⟨p,ps1,b,rb,rfl,e1,f1,hrb,fun H2 ps2 o2 e2 l2 f2 k2=>?_⟩
 have ht2:=ht1.moved f2 (by rw [l2]; exact ht1.len) k2
 have hra2:=k2 _ _ (k1 _ _ hra)
 have hrb2:=k2 _ _ hrb
 walk_at "rd"
 have la:=hra2.le
 have lb:=hrb2.le
 obtain ⟨M,m,hM,hm,hd,hle⟩:∃ M m:Nat,(if (rb:Int) > (ra:Int) then (rb:Int) else (ra:Int))=(M:Int)/\(if (rb:Int) < (ra:Int) then (rb:Int) else (ra:Int))=(m:Int)/\((M=ra/\m=rb)\/(M=rb/\m=ra))/\m<=M:=by
  by_cases c:rb < ra
  ·exact ⟨ra,rb,by rw [if_neg (by omega)],by rw [if_pos (by omega)],.inl ⟨rfl,rfl⟩,by omega⟩
  ·by_cases d:ra < rb
   ·exact ⟨rb,ra,by rw [if_pos (by omega)],by rw [if_neg (by omega)],.inr ⟨rfl,rfl⟩,by omega⟩
   ·exact ⟨ra,ra,by rw [if_neg (by omega)],by rw [if_neg (by omega)],.inr ⟨by omega,rfl⟩,M9 _⟩
 rw [hm,hM]
 have hMl:M < ps2.length:=by
  rw [ht2.len]
  rcases hd with ⟨rfl,_⟩ | ⟨rfl,_⟩ <;> omega
 refine mS e2 (yu (by rw [aS]; exact hMl)) ?_
 rw [vq]
 exact q _ _ (r9 (r9 o1 o2) iq) ay (ht2.link hra2 hrb2 hd hle h1 h2 h3)
noncomputable def dW (H:Hp) (a:Addr) (vs:List (List Nat)):Prop:=∃ rs:List Addr,H a=some (.lst (rs.map V.ref))/\Paired (fun (r:Addr) (v:List Nat)=>H r=some (.lst (au v))) rs vs
theorem dW.same {H H':Hp} {a:Addr} {vs:List (List Nat)} (h:dW H a vs) (s:am H H'):dW H' a vs:=by
 obtain ⟨rs,e,r⟩:=h
 exact ⟨rs,s _ _ e,Paired.mapP r fun _ _ q=>s _ _ q⟩
noncomputable def Within (n:Nat) (v:List Nat):Prop:=v.length=n/\∀ x∈v,x < n
theorem kB {rs:List Addr} {i:Nat} {x:V} (hx:(rs.map V.ref)[i]?=some x):∃ a,rs[i]?=some a/\x=.ref a:=by
 rw [Nm] at hx
 cases e:rs[i]? with
 | none=>rw [e] at hx; cases hx
 | some z=>rw [e] at hx; exact ⟨z,rfl,(Nl hx).symm⟩
noncomputable def sd (_:Fg):Sp:=fun vs H Q _=>∃ (n:Nat) (a:Addr) (ws:List (List Nat)),vs=[.int (n:Int),.ref a]/\dW H a ws/\(∀ v∈ws,Within n v)/\n<=100000/\
 ∀ r p H',rZ n (i7 n ws) r->H p=none->am H H'->H' p=some (.lst (au r))->Q (.ref p) H'
noncomputable def ql (K:Fg):TS:=(ap (aH (JJ (ac (aa 0) ag)) (aj 2))
 (ap (cV (ce K (aa 1)) (aj 3) (cV (i3 aR K (ac (aa 3) ag)) (da K 2 (aW (aj 4) (aW (aj 5) cZ))) (dI (av (yv K) [] E0 (ac (aa 2) (ac (aa 4) (ac (aa 5) ag)))))))
 (aJ (bu (gh (ac (aa 0) ag)) (fun _ _ _ _=>(aj 0)) (fun _ _ _ _=>aV) (fun _ _ _ _=>(av (lE K) [] E0 (ac (aa 1) (ac (aa 0) ag)))) [none,some 2]))))
theorem EC {n:Nat} {ws:List (List Nat)} {i:Nat} {v:List Nat} (hv:ws[i]?=some v) {x y:Nat}:i7 n (ws.take (i + 1)) x y↔i7 n (ws.take i) x y\/(x < n/\v[x]?=some y):=by
 unfold i7
 rw [bX hv]
 constructor
 ·rintro ⟨w,hw,h1,h2⟩
  rcases NH.mp hw with hw | hw
  ·exact .inl ⟨w,hw,h1,h2⟩
  ·rw [M8.mp hw] at h2; exact .inr ⟨h1,h2⟩
 ·rintro (⟨w,hw,h1,h2⟩ | ⟨h1,h2⟩)
  ·exact ⟨w,Ow _ hw,h1,h2⟩
  ·exact ⟨v,NY _ (M8.mpr rfl),h1,h2⟩
theorem _root_.KF.dP.congr {n:Nat} {P P':Nat->Nat->Prop} {ps:List Nat} (t:dP n P ps) (h:∀ x y,P x y↔P' x y):dP n P' ps:=by
 have e:P=P':=by funext x y; exact propext (h x y)
 rw [<-e]; exact t
theorem GB (h:sd K vs H Q E):ql K { nx:=fun _ H'=>Q .non H',rt:=Q } (start ["many","views","points","view","thing","least"] vs) H:=by
 obtain ⟨n,a,ws,rfl,hV,hw,hn,q⟩:=h
 show ql K _ [some _,some _,none,none,none,none] _
 unfold ql
 obtain ⟨rs,ea,hr⟩:=id hV
 have hlr:rs.length=ws.length:=NP hr
 walk_at "rd"
 refine LK ?_
 walk_at "rd"
 refine ⟨n,rfl,by omega,MC (by omega) fun p H1 hp s1 e1=>?_⟩
 rw [EB] at e1
 walk_at "rd"
 refine oY (rs.map V.ref) (SqL.of (s1 _ _ ea)) (fun i σ H2=>∃ (u1 u2 u3:Option V) (ps:List Nat),σ=[some (.int (n:Int)),some (.ref a),some (.ref p),u1,u2,u3]/\am H H2/\H2 p=some (.lst (au ps))/\dP n (i7 n (ws.take i)) ps) ?_ ?_ ?_ ?_
 ·refine ⟨_,_,_,_,rfl,s1,e1,(dP.start n).congr fun x y=>⟨fun h=>h.elim,fun ⟨w,hw,_⟩=>by simp at hw⟩⟩
 ·rintro i σ H2 hi ⟨u1,u2,u3,ps,rfl,s2,e2,t2⟩
  exact SqL.of (s2 _ _ ea)
 ·rintro i x σ H2 hx ⟨u1,u2,u3,ps,rfl,s2,e2,t2⟩
  obtain ⟨b,hb,rfl⟩:=kB hx
  obtain ⟨v,hv,ev⟩:=bx hr hb
  obtain ⟨hvl,hvx⟩:=hw v (Ng hv)
  walk_at "rd"
  refine mL (S:=aR) (au v) (SqL.of (s2 _ _ ev)) (fun j σ H3=>∃ (u2 u3:Option V) (ps:List Nat),σ=[some (.int (n:Int)),some (.ref a),some (.ref p),some (.ref b),u2,u3]/\am H H3/\H3 p=some (.lst (au ps))/\dP n (fun x y=>i7 n (ws.take i) x y\/(x < j/\v[x]?=some y)) ps) ?_ ?_ ?_ ?_
  ·exact ⟨_,_,ps,rfl,s2,e2,t2.congr fun x y=>⟨.inl,fun h=>h.elim (fun h=>h) fun h=>absurd h.1 (by omega)⟩⟩
  ·rintro j σ H3 hj ⟨u2,u3,ps,rfl,s3,e3,t3⟩
   exact SqL.of (s3 _ _ ev)
  ·rintro j x T σ H3 H4 hx ⟨u2,u3,ps,rfl,s3,e3,t3⟩ hT s4 eT
   obtain ⟨z,hz,rfl⟩:=fg hx
   have hjl:j < v.length:=(Na.mp hz).1
   refine dO (SqT.of eT) ?_
   walk_at "rd"
   refine ⟨p,ps,n,_,(fun x y=>i7 n (ws.take i) x y\/(x < j + 1/\v[x]?=some y)),j,z,rfl,s4 _ _ e3,t3,by omega,hvx z (Ng hz),?_,?_,.inr ⟨by omega,hz⟩,fun H5 ps5 o5 e5 t5=>?_⟩
   ·rintro x y (h | h)
    ·exact .inl h
    ·exact .inr ⟨by omega,h.2⟩
   ·rintro x y (h | ⟨h1,h2⟩)
    ·exact .inl (.inl h)
    ·by_cases c:x=j
     ·subst c
      rw [hz] at h2
      cases h2
      exact .inr ⟨rfl,rfl⟩
     ·exact .inl (.inr ⟨by omega,h2⟩)
   ·exact ⟨_,_,ps5,rfl,(s3.trans s4).off hp o5,e5,t5⟩
  ·rintro σ H3 ⟨u2,u3,ps,rfl,s3,e3,t3⟩
   rw [aS] at t3
   exact ⟨_,_,_,ps,rfl,s3,e3,t3.congr fun x y=>by rw [EC hv,hvl]⟩
 ·rintro σ H2 ⟨u1,u2,u3,ps,rfl,s2,e2,t2⟩
  rw [M6,hlr,NM] at t2
  walk_at "rd"
  refine Gy n (by omega) (by omega) (by omega) (fun l i acc H3=>∃ (ps' rr:List Nat),acc=au rr/\rr.length=i/\H3 l=some (.lst acc)/\l≠p/\H l=none/\am H H3/\H3 p=some (.lst (au ps'))/\dP n (i7 n ws) ps'/\(∀ y s,bD ps y s->bD ps' y s)/\∀ k x:Nat,rr[k]?=some x->bD ps k x) ?_ ?_ ?_ ?_
  ·intro l H3 hl s3 e3
   exact ⟨ps,[],rfl,rfl,e3,(bn e2 hl).symm,s2.free hl,s2.trans s3,s3 _ _ e2,t2,fun _ _ h=>h,fun k x h=>by simp at h⟩
  ·rintro l i acc H3 ⟨ps',rr,rfl,hl,e3,_⟩
   exact ⟨e3,by rw [aS]; omega⟩
  ·rintro l hl C s' H' fp i acc H3 hi ⟨ps',rr,rfl,hlr',e3,nl,hlH,s3,ep3,t3,k3,g3⟩
   obtain ⟨r,hr⟩:=t2.forest.root i (by rw [t2.len]; exact hi)
   walk_at "rd"
   refine ⟨p,ps',i,r,rfl,ep3,t3.forest,k3 _ _ hr,fun H4 ps4 o4 e4 l4 f4 k4=>?_⟩
   refine ⟨by rw [o4 l nl]; exact e3,ps4,rr++[r],h8 rr r,by simp [hlr'],ay,nl,hlH,(s3.off hp o4).off hlH iq,by rw [aQ nl.symm]; exact e4,t3.moved f4 (by rw [l4]; exact t3.len) k4,fun y s h=>k4 _ _ (k3 _ _ h),fun k x h=>?_⟩
   rw [List.getElem?_append] at h
   by_cases c:k < rr.length
   ·rw [if_pos c] at h
    exact g3 k x h
   ·rw [if_neg c] at h
    have hk:k=i:=by
     by_cases d:k - rr.length=0
     ·omega
     ·rw [NR (by simp; omega)] at h; cases h
    subst hk
    rw [<-hlr',UK] at h
    cases h
    exact hr
  ·rintro l acc H3 hl ⟨ps',rr,rfl,hlr',e3,nl,hlH,s3,ep3,t3,k3,g3⟩
   exact q rr l H3 (t2.join hlr' g3) hlH s3 e3
end
noncomputable def BC (H:Hp) (p:Addr) (fs:List (List Nat)) (i:Nat) (acc:List V) (H2:Hp):Prop:=
 am H H2/\H2 p=some (.lst acc)/\acc.length<=i/\∃ rs:List Addr,acc=rs.map V.ref/\Paired (fun (r:Addr) (v:List Nat)=>H2 r=some (.lst (au v))/\r≠p) rs (fs.take i)
theorem BC.put {H H2 H5:Hp} {p r:Addr} {fs:List (List Nat)} {i:Nat} {acc:List V} {v:List Nat} (hp:H p=none) (h:BC H p fs i acc H2) (hv:fs[i]?=some v) (hr:H2 r=none) (s:am H2 H5) (e:H5 r=some (.lst (au v))):
  H5 p=some (.lst acc)/\BC H p fs (i + 1) (acc++[.ref r]) (upd H5 p (.lst (acc++[.ref r]))):=by
 obtain ⟨s2,e2,l2,rs,rfl,h2⟩:=h
 have nr:r≠p:=(bn e2 hr).symm
 refine ⟨s _ _ e2,(s2.trans s).upd hp _,ay,by simp at l2 ⊢; omega,rs++[r],by simp,?_⟩
 rw [bX hv]
 have go:∀ {l:List Addr} {m:List (List Nat)},Paired (fun (r:Addr) (v:List Nat)=>H2 r=some (.lst (au v))/\r≠p) l m->Paired (fun (r':Addr) (v:List Nat)=>(upd H5 p (.lst (rs.map V.ref++[.ref r]))) r'=some (.lst (au v))/\r'≠p) (l++[r]) (m++[v]):=by
  intro l m q
  induction q with
  | nil=>exact .cons ⟨by rw [aQ nr]; exact e,nr⟩ .nil
  | cons h t ih=>exact .cons ⟨by rw [aQ h.2]; exact s _ _ h.1,h.2⟩ ih
 exact go h2
theorem BC.views {H H2:Hp} {p:Addr} {fs:List (List Nat)} {acc:List V} (h:BC H p fs fs.length acc H2):am H H2/\dW H2 p fs:=by
 obtain ⟨s2,e2,l2,rs,rfl,h2⟩:=h
 rw [NM] at h2
 exact ⟨s2,rs,e2,Paired.mapP h2 fun _ _ z=>z.1⟩
section
variable {g:CF TG} {tt:CF TT} {te:CF TE} {σ₀:St} {Q:VK} {H:Hp} {K:Fg}
end
theorem m6 {H:Hp} {a:Addr} {fs:List (List Nat)} (h:dW H a fs):∃ rs:List Addr,H a=some (.lst (rs.map V.ref))/\rs.length=fs.length/\∀ (i:Nat) (r:Addr),rs[i]?=some r->∃ v,fs[i]?=some v/\H r=some (.lst (au v)):=by
 obtain ⟨rs,e,p⟩:=h
 exact ⟨rs,e,NP p,fun i r hr=>bx p hr⟩
end L2
section
namespace L2
open PySem PyProof.Rows
inductive Sy where
 | holds (w c:Nat) | sees (h:Nat) | not (s:Sy) | and (s t:Sy) | or (s t:Sy) | knows (h:Nat) (s:Sy) | all (g:List Nat) (s:Sy) | common (g:List Nat) (s:Sy)
namespace Sy
noncomputable def words:Sy->Nat
 | .holds _ _=>1 | .sees _=>1 | .not s=>s.words + 1 | .and s t=>s.words + t.words + 1 | .or s t=>s.words + t.words + 1 | .knows _ s=>s.words + 1 | .all _ s=>s.words + 1 | .common _ s=>s.words + 1
noncomputable def subs:Sy->List Sy
 | .holds _ _=>[] | .sees _=>[] | .not s=>[s] | .and s t=>[s,t] | .or s t=>[s,t] | .knows _ s=>[s] | .all _ s=>[s] | .common _ s=>[s]
noncomputable def word:Sy->Str
 | .holds _ _=>"holds" | .sees _=>"sees" | .not _=>"not" | .and _ _=>"and" | .or _ _=>"or" | .knows _ _=>"knows" | .all _ _=>"all" | .common _ _=>"common"
noncomputable def form:Sy->List Str
 | .holds _ _=>["holder","card"] | .sees _=>["hand"] | .not _=>["saying"] | .and _ _=>["saying","saying"] | .or _ _=>["saying","saying"] | .knows _ _=>["hand","saying"] | .all _ _=>["hands","saying"] | .common _ _=>["hands","saying"]
noncomputable def plain:Sy->Bool
 | .holds _ _=>true | .not _=>true | .and _ _=>true | .or _ _=>true | _=>false
noncomputable def Ok (cards hands:Nat):Sy->Prop
 | .holds w c=>w<=hands/\c < cards | .sees h=>h < hands | .not s=>s.Ok cards hands | .and s t=>s.Ok cards hands/\t.Ok cards hands | .or s t=>s.Ok cards hands/\t.Ok cards hands
 | .knows h s=>h < hands/\s.Ok cards hands | .all g s=>(g.Pairwise (· < ·)/\∀ k∈g,k < hands)/\s.Ok cards hands | .common g s=>(g.Pairwise (· < ·)/\∀ k∈g,k < hands)/\s.Ok cards hands
theorem words_pos (s:Sy):1<=s.words:=by cases s <;> simp [words]
theorem words_subs (s:Sy):s.words=1 + (s.subs.map words).sum:=by cases s <;> simp [words,subs] <;> omega
theorem sub_words {s t:Sy} (h:t∈s.subs):t.words + 1<=s.words:=by
 rw [words_subs s]
 have:=jF (Ut (f:=words) h)
 omega
end Sy
noncomputable def aU (H:Hp):V->Sy->Prop
 | v,.holds w c=>∃ a,v=.ref a/\H a=some (.tup [.str "holds",.int w,.int c])
 | v,.sees h=>∃ a,v=.ref a/\H a=some (.tup [.str "sees",.int h])
 | v,.not s=>∃ a x,v=.ref a/\H a=some (.tup [.str "not",x])/\aU H x s
 | v,.and s t=>∃ a x y,v=.ref a/\H a=some (.tup [.str "and",x,y])/\aU H x s/\aU H y t
 | v,.or s t=>∃ a x y,v=.ref a/\H a=some (.tup [.str "or",x,y])/\aU H x s/\aU H y t
 | v,.knows h s=>∃ a x,v=.ref a/\H a=some (.tup [.str "knows",.int h,x])/\aU H x s
 | v,.all g s=>∃ a b x,v=.ref a/\H a=some (.tup [.str "all",.ref b,x])/\H b=some (.tup (au g))/\aU H x s
 | v,.common g s=>∃ a b x,v=.ref a/\H a=some (.tup [.str "common",.ref b,x])/\H b=some (.tup (au g))/\aU H x s
theorem aU.keep {H H':Hp} (k:fb H H'):∀ {s:Sy} {v:V},aU H v s->aU H' v s
 | .holds _ _,_,⟨a,e,h⟩=>⟨a,e,k _ _ h⟩
 | .sees _,_,⟨a,e,h⟩=>⟨a,e,k _ _ h⟩
 | .not _,_,⟨a,x,e,h,r⟩=>⟨a,x,e,k _ _ h,aU.keep k r⟩
 | .and _ _,_,⟨a,x,y,e,h,r,q⟩=>⟨a,x,y,e,k _ _ h,aU.keep k r,aU.keep k q⟩
 | .or _ _,_,⟨a,x,y,e,h,r,q⟩=>⟨a,x,y,e,k _ _ h,aU.keep k r,aU.keep k q⟩
 | .knows _ _,_,⟨a,x,e,h,r⟩=>⟨a,x,e,k _ _ h,aU.keep k r⟩
 | .all _ _,_,⟨a,b,x,e,h,i,r⟩=>⟨a,b,x,e,k _ _ h,k _ _ i,aU.keep k r⟩
 | .common _ _,_,⟨a,b,x,e,h,i,r⟩=>⟨a,b,x,e,k _ _ h,k _ _ i,aU.keep k r⟩
noncomputable def jo (form:List Str) (items:List V):List V:=((form.zip items).filter fun p=>decide (p.1=("saying":Str))).map (·.2)
noncomputable def iz (H:Hp) (xs:List V) (ss:List Sy):Prop:=Paired (aU H) xs ss
theorem iz.keep {H H':Hp} (k:fb H H') {xs:List V} {ss:List Sy} (h:iz H xs ss):iz H' xs ss:=Paired.mapP h fun _ _ r=>r.keep k
theorem ns1:decide (("holder":Str)="saying")=false:=by decide +kernel
theorem ns2:decide (("card":Str)="saying")=false:=by decide +kernel
theorem ns3:decide (("hand":Str)="saying")=false:=by decide +kernel
theorem ns4:decide (("hands":Str)="saying")=false:=by decide +kernel
theorem Kj {H:Hp} {v:V} {s:Sy} (h:aU H v s):∃ a items,v=.ref a/\H a=some (.tup (.str s.word :: items))/\items.length=s.form.length/\iz H (jo s.form items) s.subs:=by
 cases s with
 | holds w c=>obtain ⟨a,e,h⟩:=h; exact ⟨a,_,e,h,rfl,by simp only [jo,Sy.form,OG,Pj,Pe,ns1,ns2]; exact .nil⟩
 | sees w=>obtain ⟨a,e,h⟩:=h; exact ⟨a,_,e,h,rfl,by simp only [jo,Sy.form,OG,Pj,Pe,ns3]; exact .nil⟩
 | not s=>obtain ⟨a,x,e,h,r⟩:=h; exact ⟨a,_,e,h,rfl,by simp only [jo,Sy.form,OG,Pj,Pe,decide_true]; exact .cons r .nil⟩
 | and s t=>obtain ⟨a,x,y,e,h,r,q⟩:=h; exact ⟨a,_,e,h,rfl,by simp only [jo,Sy.form,OG,Pj,Pe,decide_true]; exact .cons r (.cons q .nil)⟩
 | or s t=>obtain ⟨a,x,y,e,h,r,q⟩:=h; exact ⟨a,_,e,h,rfl,by simp only [jo,Sy.form,OG,Pj,Pe,decide_true]; exact .cons r (.cons q .nil)⟩
 | knows w s=>obtain ⟨a,x,e,h,r⟩:=h; exact ⟨a,_,e,h,rfl,by simp only [jo,Sy.form,OG,Pj,Pe,decide_true,ns3]; exact .cons r .nil⟩
 | all g s=>obtain ⟨a,b,x,e,h,i,r⟩:=h; exact ⟨a,_,e,h,rfl,by simp only [jo,Sy.form,OG,Pj,Pe,decide_true,ns4]; exact .cons r .nil⟩
 | common g s=>obtain ⟨a,b,x,e,h,i,r⟩:=h; exact ⟨a,_,e,h,rfl,by simp only [jo,Sy.form,OG,Pj,Pe,decide_true,ns4]; exact .cons r .nil⟩
set_option genInjectivity false in
structure Glo where
 forms:Addr
 cw:Addr
 f1:Addr
 f2:Addr
 f3:Addr
 f4:Addr
 f5:Addr
 f6:Addr
 f7:Addr
 f8:Addr
noncomputable def Glo.kvs (G:Glo):List (Str×V):=[("holds",.ref G.f1),("not",.ref G.f2),("and",.ref G.f3),("or",.ref G.f4),("knows",.ref G.f5),("all",.ref G.f6),("common",.ref G.f7),("sees",.ref G.f8)]
structure wE (K:Fg) (G:Glo):Prop where
 t1:lQ K G.f1 [.str "holder",.str "card"]
 t2:lQ K G.f2 [.str "saying"]
 t3:lQ K G.f3 [.str "saying",.str "saying"]
 t4:lQ K G.f4 [.str "saying",.str "saying"]
 t5:lQ K G.f5 [.str "hand",.str "saying"]
 t6:lQ K G.f6 [.str "hands",.str "saying"]
 t7:lQ K G.f7 [.str "hands",.str "saying"]
 t8:lQ K G.f8 [.str "hand"]
theorem wE.form {K:Fg} {G:Glo} (g:wE K G) (s:Sy):∃ f,G.kvs.lookup s.word=some (.ref f)/\lQ K f (s.form.map V.str):=by
 cases s with
 | holds w c=>exact ⟨G.f1,rfl,g.t1⟩
 | sees w=>exact ⟨G.f8,rfl,g.t8⟩
 | not s=>exact ⟨G.f2,rfl,g.t2⟩
 | and s t=>exact ⟨G.f3,rfl,g.t3⟩
 | or s t=>exact ⟨G.f4,rfl,g.t4⟩
 | knows w s=>exact ⟨G.f5,rfl,g.t5⟩
 | all g' s=>exact ⟨G.f6,rfl,g.t6⟩
 | common g' s=>exact ⟨G.f7,rfl,g.t7⟩
theorem mN (x:V) (xs:List V):atI (x :: xs) 0=some x:=by
 have:atI (x :: xs) ((0:Nat):Int)=some x:=cP rfl
 exact this
theorem GC (form:List Str) (items:List V) (i:Nat) (f:Str) (x:V) (hf:form[i]?=some f) (hx:items[i]?=some x):jo (form.take (i + 1)) (items.take (i + 1))=jo (form.take i) (items.take i)++(if f="saying" then [x] else []):=by
 unfold jo
 have e:(form.take (i + 1)).zip (items.take (i + 1))=(form.take i).zip (items.take i)++[(f,x)]:=by
  rw [ON,ON,hf,hx]
  rw [List.zip_append (by
   have h1:=(Na.mp hf).1
   have h2:=(Na.mp hx).1
   rw [OT,OT]
   omega)]
  rfl
 rw [e,RZ,Ny]
 congr 1
 by_cases h:f="saying"
 ·rw [if_pos h,Oe (by simpa using h)]
  rfl
 ·rw [if_neg h,Oq (by simpa using h)]
  rfl
theorem Iq (form:List Str) (items:List V):(jo form items).length<=form.length:=by
 unfold jo
 rw [M6]
 refine NQ (TJ _ _) ?_
 rw [OS]
 omega
theorem Sy.form_len (s:Sy):s.form.length<=2:=by cases s <;> simp [Sy.form]
theorem nY {H:Hp} {xs:List V} {ss:List Sy} {i:Nat} {x:V} (h:iz H xs ss) (e:xs[i]?=some x):∃ s,ss[i]?=some s/\aU H x s:=mB h e
theorem h9 {H:Hp} {xs:List V} {ss:List Sy} (h:iz H xs ss):xs.length=ss.length:=by
 induction h with
 | nil=>rfl
 | cons _ _ ih=>rw [NK,NK,ih]
end L2
end
section
namespace L2
open PySem
noncomputable def LN (t1 t2:String):Bool:=t1 == t2 || (t1 == "bool" && t2 == "int")
noncomputable def GD:List String:=["NoneType","bool","int","str","tuple","list","dict"]
noncomputable def Dv:List String:=["bool","int","str","tuple","list"]
theorem BD (K:Fg) (t:String):NZ K (.type t) (.type t)=some true:=by unfold NZ; rw [if_pos (beq_self_eq_true _)]
theorem LP {K:Fg} {t1 t2:String} {b:Bool} (h:(if (Ov t1 == Ov t2)=true then some true else if Tf t2=true then (TC t1).map (·.contains (.type t2)) else none)=some b):NZ K (.type t1) (.type t2)=some b:=h
theorem Dw (K:Fg):∀ t1∈GD,∀ t2∈Dv,NZ K (.type t1) (.type t2)=some (LN t1 t2):=by
 have go:∀ t1∈GD,∀ t2∈Dv,(if (Ov t1 == Ov t2)=true then some true else if Tf t2=true then (TC t1).map (·.contains (.type t2)) else none)=some (LN t1 t2):=by decide +kernel
 exact fun t1 h1 t2 h2=>LP (go t1 h1 t2 h2)
end L2
end
namespace L2
open PySem PyProof.Rows
section
variable {K:Fg} {vs:List V} {H:Hp} {Q:VK} {E:XK}
open KF
open Classical in
noncomputable def blV (n:Nat) (P:Nat->Prop):List V:=(NC n).map fun i=>V.bl (decide (P i))
theorem cdf {p:Prop} (h:¬ p):false=@decide p (N5 p):=(@decide_eq_false p (N5 p) h).symm
theorem cdt {p:Prop} (h:p):true=@decide p (N5 p):=(@decide_eq_true p (N5 p) h).symm
theorem cde {p q:Prop} [i:Decidable p] (h:p↔q):decide p=@decide q (N5 q):=@decide_eq_decide p q i (N5 q) |>.mpr h
section
open Classical
variable {n i:Nat} {P P':Nat->Prop}
theorem br (n:Nat) (P:Nat->Prop):(blV n P).length=n:=by unfold blV; simp
theorem kC (h:i < n):(blV n P)[i]?=some (.bl (decide (P i))):=by unfold blV; rw [Nm,OL h]; rfl
theorem BE (h:i < n):atI (blV n P) (i:Int)=some (.bl (decide (P i))):=cP (kC h)
theorem eO {x:V} (h:(blV n P)[i]?=some x):i < n/\x=.bl (decide (P i)):=by
 have hi:i < n:=by have:=(Na.mp h).1; rw [br] at this; exact this
 rw [kC hi] at h
 exact ⟨hi,(Nl h).symm⟩
theorem lG (h:∀ i,i < n->(P i↔P' i)):blV n P=blV n P':=by
 unfold blV
 refine Pl fun i hi=>?_
 rw [show P i=P' i from propext (h i (O1.mp hi))]
theorem cc (n:Nat) (P:Nat->Prop):blV (n + 1) P=blV n P++[.bl (decide (P n))]:=by unfold blV; rw [PY,Ny]; rfl
theorem Kk (h:i < n) {b:Bool} (hb:∀ j,j < n->j≠i->(P j↔P' j)) (hi:b=decide (P' i)):(blV n P).set i (.bl b)=blV n P':=by
 refine PH fun k=>?_
 rw [Qx,br]
 by_cases e:i=k
 ·subst e
  rw [if_pos rfl,if_pos h,kC h,hi]
 ·rw [if_neg e]
  by_cases hk:k < n
  ·rw [kC hk,kC hk,show P k=P' k from propext (hb k hk (fun z=>e z.symm))]
  ·rw [NR (by rw [br]; omega),NR (by rw [br]; omega)]
theorem BF (n:Nat) (h:∀ i,P i):(NT n [V.bl true]).flatten=blV n P:=by
 induction n with
 | zero=>rfl
 | succ n ih=>
  rw [cc,<-ih,QF,List.flatten_append,decide_eq_true (h n)]
  simp
theorem Ir (n:Nat) (P:Nat->Prop):∀ x∈blV n P,wB x=true:=fun x hx=>by
 unfold blV at hx
 obtain ⟨i,_,rfl⟩:=Os.mp hx
 rfl
end
noncomputable def tT (_:Fg):Sp:=fun vs H Q _=>∃ (a b:Addr) (n:Nat) (P P':Nat->Prop),vs=[.ref a,.ref b]/\H a=some (.lst (blV n P))/\H b=some (.lst (blV n P'))/\n<=100000/\
 ∀ p H',H p=none->am H H'->H' p=some (.lst (blV n fun i=>P i/\P' i))->Q (.ref p) H'
noncomputable def wF (K:Fg):TS:=(aJ (bu (lO aR aR K (ac (aa 0) (ac (aa 1) ag))) (fun _ _ _ _=>(da K 2 (aW (aj 0) (aW (aj 1) cZ)))) (fun _ _ _ _=>aV) (fun _ _ _ _=>(ik (aa 0) (aa 1))) [none,none]))
section
open Classical
theorem Kl (h:tT K vs H Q E):wF K { nx:=fun _ H'=>Q .non H',rt:=Q } (start ["ones","others"] vs) H:=by
 obtain ⟨a,b,n,P,P',rfl,ea,eb,hn,q⟩:=h
 show wF K _ [some _,some _] _
 unfold wF
 walk_at "rd"
 refine mU (S1:=aR) (S2:=aR) _ _ (SqL.of ea) (SqL.of eb) (fun H' s=>s.seq (SqL.of ea)) (fun H' s=>s.seq (SqL.of eb)) (by rw [br]; omega) (fun i acc _=>acc=blV i fun i=>P i/\P' i) (fun _ _=>rfl) ?_ ?_
 ·rintro p hp C s' H' fp i x y T acc H2 H3 hx hy ⟨s2,e2,l2,rfl⟩ hT s3 e3 e4
  obtain ⟨hi,rfl⟩:=eO hx
  obtain ⟨_,rfl⟩:=eO hy
  walk_at "rd"
  refine dO (SqT.of e3) ?_
  walk_at "rd"
  by_cases h:P i
  ·rw [decide_eq_true h]
   refine lN ?_
   walk_at "rd"
   refine bf.put hp (fun _ _ _ _ r _=>r) (s2.trans s3) e4 l2 ?_
   rw [cc]
   congr 3
   exact decide_eq_decide.mpr ⟨fun q=>⟨h,q⟩,fun q=>q.2⟩
  ·rw [decide_eq_false h]
   refine lM ?_
   refine bf.put hp (fun _ _ _ _ r _=>r) (s2.trans s3) e4 l2 ?_
   rw [cc]
   congr 3
   exact cdf fun q=>h q.1
 ·rintro p acc H2 hp s2 e2 rfl
  rw [br,br,PP] at e2
  exact q _ _ hp s2 e2
end
noncomputable def se (_:Fg):Sp:=fun vs H Q _=>∃ (a b:Addr) (n:Nat) (P P':Nat->Prop),vs=[.ref a,.ref b]/\H a=some (.lst (blV n P))/\H b=some (.lst (blV n P'))/\n<=100000/\
 ∀ p H',H p=none->am H H'->H' p=some (.lst (blV n fun i=>P i\/P' i))->Q (.ref p) H'
noncomputable def qm (K:Fg):TS:=(aJ (bu (lO aR aR K (ac (aa 0) (ac (aa 1) ag))) (fun _ _ _ _=>(da K 2 (aW (aj 0) (aW (aj 1) cZ)))) (fun _ _ _ _=>aV) (fun _ _ _ _=>(yh (aa 0) (aa 1))) [none,none]))
section
open Classical
theorem GG (h:se K vs H Q E):qm K { nx:=fun _ H'=>Q .non H',rt:=Q } (start ["ones","others"] vs) H:=by
 obtain ⟨a,b,n,P,P',rfl,ea,eb,hn,q⟩:=h
 show qm K _ [some _,some _] _
 unfold qm
 walk_at "rd"
 refine mU (S1:=aR) (S2:=aR) _ _ (SqL.of ea) (SqL.of eb) (fun H' s=>s.seq (SqL.of ea)) (fun H' s=>s.seq (SqL.of eb)) (by rw [br]; omega) (fun i acc _=>acc=blV i fun i=>P i\/P' i) (fun _ _=>rfl) ?_ ?_
 ·rintro p hp C s' H' fp i x y T acc H2 H3 hx hy ⟨s2,e2,l2,rfl⟩ hT s3 e3 e4
  obtain ⟨hi,rfl⟩:=eO hx
  obtain ⟨_,rfl⟩:=eO hy
  walk_at "rd"
  refine dO (SqT.of e3) ?_
  walk_at "rd"
  by_cases h:P i
  ·rw [decide_eq_true h]
   refine lN ?_
   refine bf.put hp (fun _ _ _ _ r _=>r) (s2.trans s3) e4 l2 ?_
   rw [cc]
   congr 3
   exact cdt (.inl h)
  ·rw [decide_eq_false h]
   refine lM ?_
   walk_at "rd"
   refine bf.put hp (fun _ _ _ _ r _=>r) (s2.trans s3) e4 l2 ?_
   rw [cc]
   congr 3
   exact decide_eq_decide.mpr ⟨.inr,fun q=>q.resolve_left h⟩
 ·rintro p acc H2 hp s2 e2 rfl
  rw [br,br,PP] at e2
  exact q _ _ hp s2 e2
end
noncomputable def KN (n:Nat) (v:List Nat) (P:Nat->Prop) (i:Nat):Prop:=∀ j,j < n->v.getD j 0=v.getD i 0->P j
theorem dJ {n:Nat} {v:List Nat} (h:Within n v) {i:Nat} (hi:i < n):v[i]?=some (v.getD i 0)/\v.getD i 0 < n:=by
 have hl:i < v.length:=by rw [h.1]; exact hi
 have e:v[i]?=some (v.getD i 0):=by rw [Np,M7 hl]; rfl
 exact ⟨e,h.2 _ (Ng e)⟩
noncomputable def kD (_:Fg):Sp:=fun vs H Q _=>∃ (a b:Addr) (n:Nat) (v:List Nat) (P:Nat->Prop),vs=[.ref a,.ref b]/\H a=some (.lst (au v))/\H b=some (.lst (blV n P))/\Within n v/\n<=100000/\
 ∀ p H',H p=none->am H H'->H' p=some (.lst (blV n (KN n v P)))->Q (.ref p) H'
noncomputable def tU (K:Fg):TS:=(ap (aH (tOp HV (d5 (ac (tC (.bl true)) ag)) (tCB (fc K) (ac (aa 0) ag))) (aj 2))
 (ap (cV (lO aR aR K (ac (aa 0) (ac (aa 1) ag))) (da K 2 (aW (aj 3) (aW (aj 4) cZ))) (bp (dt (tB (aa 4))) (aH (tC (.bl false)) (kj (aa 2) (aa 3) kS)) aY))
 (aJ (bu (ce K (aa 0)) (fun _ _ _ _=>(aj 0)) (fun _ _ _ _=>aV) (fun _ _ _ _=>(tOp (cb K) (aa 1) (aa 0))) [none,some 2]))))
section
open Classical
theorem Iu (h:kD K vs H Q E):tU K { nx:=fun _ H'=>Q .non H',rt:=Q } (start ["view","truths","sure","least","truth"] vs) H:=by
 obtain ⟨a,b,n,v,P,rfl,ea,eb,hv,hn,q⟩:=h
 show tU K _ [some _,some _,none,none,none] _
 unfold tU
 have hvl:=hv.1
 walk_at "rd"
 refine ⟨by simp [Nf],fun l H1 hl s1 e1=>?_⟩
 walk_at "rd"
 refine tL (SqL.of (s1 _ _ ea)) ?_
 walk_at "rd"
 rw [aS,hvl]
 refine ⟨l,(n:Int),[.bl true],rfl,rfl,e1,by omega,by omega,by rw [Nf]; simp; omega,fun p H2 hp s2 e2=>?_⟩
 rw [Qw,BF (P:=fun x=>∀ j,j < 0->v.getD j 0=x->P j) n (fun _ j h=>absurd h (by omega))] at e2
 have s02:=s1.trans s2
 have hpH:H p=none:=s1.free hp
 walk_at "rd"
 refine LD (S1:=aR) (S2:=aR) (au v) (blV n P) (SqL.of (s02 _ _ ea)) (SqL.of (s02 _ _ eb)) (fun i σ H3=>∃ (u1 u2:Option V),σ=[some (.ref a),some (.ref b),some (.ref p),u1,u2]/\am H H3/\H3 p=some (.lst (blV n fun x=>∀ j,j < i->v.getD j 0=x->P j))) ?_ ?_ ?_ ?_
 ·exact ⟨_,_,rfl,s02,e2⟩
 ·rintro i σ H3 ⟨u1,u2,rfl,s3,e3⟩
  exact ⟨SqL.of (s3 _ _ ea),SqL.of (s3 _ _ eb)⟩
 ·rintro i x y T σ H3 H4 hx hy ⟨u1,u2,rfl,s3,e3⟩ hT s4 eT
  obtain ⟨hi,rfl⟩:=eO hy
  obtain ⟨z,hz,rfl⟩:=fg hx
  obtain ⟨hz',hzn⟩:=dJ hv hi
  rw [hz] at hz'
  have ez:z=v.getD i 0:=Nl hz'
  refine dO (SqT.of eT) ?_
  walk_at "rd"
  by_cases h:P i
  ·rw [decide_eq_true h]
   walk_at "rd"
   refine ⟨_,_,rfl,s3.trans s4,?_⟩
   rw [s4 _ _ e3]
   congr 2
   refine lG fun x _=>⟨fun f j hj e=>?_,fun f j hj e=>f j (by omega) e⟩
   by_cases c:j=i
   ·rw [c]; exact h
   ·exact f j (by omega) e
  ·rw [decide_eq_false h]
   walk_at "rd"
   refine mS (s4 _ _ e3) (yu (by rw [br,ez]; exact hzn)) ?_
   refine ⟨_,_,rfl,(s3.trans s4).off hpH iq,?_⟩
   rw [ay]
   congr 2
   refine Kk (by rw [ez]; exact hzn) (fun x _ hxz=>⟨fun f j hj e=>?_,fun f j hj e=>f j (by omega) e⟩) ?_
   ·by_cases c:j=i
    ·subst c
     exact absurd (e.symm.trans ez.symm) hxz
    ·exact f j (by omega) e
   ·exact cdf fun f=>h (f i (by omega) ez.symm)
 ·rintro σ H3 ⟨u1,u2,rfl,s3,e3⟩
  rw [aS,br,hvl,PP] at e3
  walk_at "rd"
  refine cF (au v) (SqL.of (s3 _ _ ea)) (by rw [aS]; omega) (fun i acc _=>acc=blV i (KN n v P)) (fun _ _=>rfl) ?_ ?_
  ·rintro r hr C s' H' fp i x acc H4 hx ⟨s4,e4,l4,rfl⟩
   obtain ⟨z,hz,rfl⟩:=fg hx
   have hi:i < n:=by have:=(Na.mp hz).1; omega
   obtain ⟨hz',hzn⟩:=dJ hv hi
   rw [hz] at hz'
   have ez:z=v.getD i 0:=Nl hz'
   walk_at "rd"
   refine bI (SqL.of (s4 _ _ e3)) (BE (by rw [ez]; exact hzn)) ?_
   refine bf.put hr (fun _ _ _ _ r _=>r) s4 e4 l4 ?_
   rw [cc]
   congr 3
   rw [ez]
   rfl
  ·rintro r acc H4 hr s4 e4 rfl
   rw [aS,hvl] at e4
   exact q _ _ (s3.free hr) (s3.trans s4) e4
end
noncomputable def jJ (_:Fg):Sp:=fun vs H Q _=>∃ (a b:Addr) (n:Nat) (ws:List (List Nat)) (P:Nat->Prop),vs=[.ref a,.ref b]/\dW H a ws/\H b=some (.lst (blV n P))/\(∀ v∈ws,Within n v)/\n<=100000/\
 ∀ p H',H p=none->am H H'->H' p=some (.lst (blV n fun i=>∀ v∈ws,KN n v P i))->Q (.ref p) H'
noncomputable def iA (K:Fg):TS:=(ap (aH (tOp HV (d5 (ac (tC (.bl true)) ag)) (tCB (fc K) (ac (aa 1) ag))) (aj 2))
 (ap (cV (ce K (aa 0)) (aj 3) (aH (av (tT K) [] E0 (ac (aa 2) (ac (av (kD K) [] E0 (ac (aa 3) (ac (aa 1) ag))) ag))) (aj 2)))
 (aJ (aa 2))))
theorem wG (h:jJ K vs H Q E):iA K { nx:=fun _ H'=>Q .non H',rt:=Q } (start ["views","truths","answers","view"] vs) H:=by
 obtain ⟨a,b,n,ws,P,rfl,hV,eb,hw,hn,q⟩:=h
 show iA K _ [some _,some _,none,none] _
 unfold iA
 obtain ⟨rs,ea,hlr,hr⟩:=m6 hV
 walk_at "rd"
 refine ⟨by simp [Nf],fun l H1 hl s1 e1=>?_⟩
 walk_at "rd"
 refine tL (SqL.of (s1 _ _ eb)) ?_
 walk_at "rd"
 rw [br]
 refine ⟨l,(n:Int),[.bl true],rfl,rfl,e1,by omega,by omega,by rw [Nf]; simp; omega,fun p H2 hp s2 e2=>?_⟩
 rw [Qw,BF (P:=fun i=>∀ v∈ws.take 0,KN n v P i) n (fun _ v h=>by simp at h)] at e2
 have s02:=s1.trans s2
 have hpH:H p=none:=s1.free hp
 walk_at "rd"
 refine oY (rs.map V.ref) (SqL.of (s02 _ _ ea)) (fun i σ H3=>∃ (u1:Option V) (p:Addr),σ=[some (.ref a),some (.ref b),some (.ref p),u1]/\H p=none/\am H H3/\H3 p=some (.lst (blV n fun k=>∀ v∈ws.take i,KN n v P k))) ?_ ?_ ?_ ?_
 ·exact ⟨_,p,rfl,hpH,s02,e2⟩
 ·rintro i σ H3 _ ⟨u1,p,rfl,hp,s3,e3⟩
  exact SqL.of (s3 _ _ ea)
 ·rintro i x σ H3 hx ⟨u1,p,rfl,hp,s3,e3⟩
  obtain ⟨c,hc,rfl⟩:=kB hx
  obtain ⟨v,hv,ev⟩:=hr i c hc
  walk_at "rd"
  refine ⟨c,b,n,v,P,rfl,s3 _ _ ev,s3 _ _ eb,hw v (Ng hv),hn,fun k H4 hk s4 e4=>?_⟩
  walk_at "rd"
  refine ⟨p,k,n,_,_,rfl,s4 _ _ e3,e4,hn,fun k2 H5 hk2 s5 e5=>?_⟩
  have s35:=s4.trans s5
  refine ⟨_,k2,rfl,s3.free (s4.free hk2),s3.trans s35,?_⟩
  rw [e5]
  congr 2
  refine lG fun i _=>?_
  rw [bX hv]
  exact ⟨fun h w hw=>(NH.mp hw).elim (h.1 w) fun z=>by rw [M8.mp z]; exact h.2,fun h=>⟨fun w hw=>h w (Ow _ hw),h v (by simp)⟩⟩
 ·rintro σ H3 ⟨u1,p,rfl,hp,s3,e3⟩
  rw [M6,hlr,NM] at e3
  walk_at "rd"
  exact q _ _ hp s3 e3
noncomputable def Dy (H:Hp) (a:Addr) (ps:List (List Int)):Prop:=∃ rs:List Addr,H a=some (.lst (rs.map V.ref))/\Paired (fun (r:Addr) (xs:List Int)=>H r=some (.tup (xs.map V.int))) rs ps
noncomputable def qo (n:Nat) (ps:List (List Int)) (v:List Nat) (j:Nat):Prop:=ps.getD j []=ps.getD (v.getD j 0) []
noncomputable def yw (_:Fg):Sp:=fun vs H Q _=>∃ (a b:Addr) (n:Nat) (v:List Nat) (ps:List (List Int)),vs=[.ref a,.ref b]/\Dy H a ps/\ps.length=n/\H b=some (.lst (au v))/\Within n v/\n<=100000/\
 ∀ p H',H p=none->am H H'->H' p=some (.lst (blV n (KN n v (qo n ps v))))->Q (.ref p) H'
theorem nZ {H:Hp} {rs:List Addr} {ps:List (List Int)} (h:Paired (fun (r:Addr) (xs:List Int)=>H r=some (.tup (xs.map V.int))) rs ps) {i:Nat} (hi:i < ps.length):∃ r,rs[i]?=some r/\H r=some (.tup ((ps.getD i []).map V.int)):=by
 have hl:=NP h
 obtain ⟨r,hr⟩:∃ r,rs[i]?=some r:=⟨_,M7 (by omega)⟩
 obtain ⟨xs,hx,e⟩:=bx h hr
 refine ⟨r,hr,?_⟩
 rw [Np,hx]
 exact e
noncomputable def wH (K:Fg):TS:=(aJ (av (kD K) [] E0 (ac (aa 1) (ac (bu (lO aR aR K (ac (aa 0) (ac (aa 1) ag))) (fun _ _ _ _=>(da K 2 (aW (aj 0) (aW (aj 1) cZ)))) (fun _ _ _ _=>aV) (fun _ _ _ _=>(tOp (jB (SqT K) false) (aa 0) (tOp (cb K) (aa 2) (aa 1)))) [none,none,some 0]) ag))))
section
open Classical
theorem Km (h:yw K vs H Q E):wH K { nx:=fun _ H'=>Q .non H',rt:=Q } (start ["piles","view"] vs) H:=by
 obtain ⟨a,b,n,v,ps,rfl,⟨rs,ea,hr⟩,hpl,eb,hv,hn,q⟩:=h
 show wH K _ [some _,some _] _
 unfold wH
 have hlr:rs.length=ps.length:=NP hr
 have hvl:=hv.1
 walk_at "rd"
 refine mU (S1:=aR) (S2:=aR) (rs.map V.ref) (au v) (SqL.of ea) (SqL.of eb) (fun H' s=>s.seq (SqL.of ea)) (fun H' s=>s.seq (SqL.of eb)) (by rw [M6]; omega) (fun i acc _=>acc=blV i (qo n ps v)) (fun _ _=>rfl) ?_ ?_
 ·rintro p hp C s' H' fp i x y T acc H2 H3 hx hy ⟨s2,e2,l2,rfl⟩ hT s3 e3 e4
  obtain ⟨c,hc,rfl⟩:=kB hx
  obtain ⟨z,hz,rfl⟩:=fg hy
  have hi:i < n:=by have:=(Na.mp hz).1; omega
  obtain ⟨hz',hzn⟩:=dJ hv hi
  rw [hz] at hz'
  have ez:z=v.getD i 0:=Nl hz'
  obtain ⟨c',hc',ec⟩:=nZ hr (i:=i) (by omega)
  rw [hc] at hc'
  cases hc'
  obtain ⟨d,hd,ed⟩:=nZ hr (i:=z) (by omega)
  have s23:=s2.trans s3
  walk_at "rd"
  refine dO (SqT.of e3) ?_
  walk_at "rd"
  refine bI (SqL.of (s23 _ _ ea)) (v:=.ref d) (cP (by rw [Nm,hd]; rfl)) ?_
  walk_at "rd"
  refine Mw (SqT.of (s23 _ _ ec)) (SqT.of (s23 _ _ ed)) ?_
  refine bf.put hp (fun _ _ _ _ r _=>r) s23 e4 l2 ?_
  rw [cc]
  congr 3
  rw [ez]
  exact cde V7
 ·rintro p acc H2 hp s2 e2 rfl
  rw [M6,aS,hlr,hpl,hvl,PP] at e2
  walk_at "rd"
  exact ⟨b,p,n,v,_,rfl,s2 _ _ eb,e2,hv,hn,fun r H3 hr s3 e3=>q r H3 (s2.free hr) (s2.trans s3) e3⟩
end
end
section
open KF
noncomputable def TR (n:Nat) (ws vs:List (List Nat)):Sy->Nat->Prop
 | .holds w c,i=>(ws.getD i []).getD c 0=w
 | .sees h,i=>KN n (vs.getD h []) (qo n (ws.map fun w=>eX w (vs.length:Nat)) (vs.getD h [])) i
 | .not s,i=>¬ TR n ws vs s i
 | .and s t,i=>TR n ws vs s i/\TR n ws vs t i
 | .or s t,i=>TR n ws vs s i\/TR n ws vs t i
 | .knows h s,i=>KN n (vs.getD h []) (TR n ws vs s) i
 | .all g s,i=>∀ v∈g.map (fun h=>vs.getD h []),KN n v (TR n ws vs s) i
 | .common g s,i=>∀ j,j < n->dY (i7 n (g.map fun h=>vs.getD h [])) i j->TR n ws vs s j
theorem wI {n:Nat} {P:Nat->Nat->Prop} {r:List Nat} (h:rZ n P r) {i j:Nat} (hi:i < n) (hj:j < n):r.getD j 0=r.getD i 0↔dY P i j:=by
 have ei:r[i]?=some (r.getD i 0):=by rw [Np,M7 (by rw [h.len]; exact hi)]; rfl
 have ej:r[j]?=some (r.getD j 0):=by rw [Np,M7 (by rw [h.len]; exact hj)]; rfl
 constructor
 ·intro e
  have c1:=h.conn _ _ ei
  have c2:=h.conn _ _ ej
  rw [e] at c2
  exact .trans c1 (.symm c2)
 ·intro c
  have:=h.same i j hi hj c
  rw [ei,ej] at this
  exact (Nl this).symm
theorem CW {n:Nat} {P:Nat->Nat->Prop} {r:List Nat} (h:rZ n P r):Within n r:=⟨h.len,fun x hx=>by
 obtain ⟨i,hi⟩:=Rj.mp hx
 have:=h.le i x hi
 have:=(Na.mp hi).1
 rw [h.len] at this
 omega⟩
theorem Kn {n:Nat} {P:Nat->Nat->Prop} {r:List Nat} (h:rZ n P r) {F:Nat->Prop} {i:Nat} (hi:i < n):KN n r F i↔∀ j,j < n->dY P i j->F j:=
 ⟨fun k j hj c=>k j hj ((wI h hi hj).mpr c),fun k j hj e=>k j hj ((wI h hi hj).mp e)⟩
theorem wJ:∀ {g:List Nat} {m:Nat},g.Pairwise (· < ·)->(∀ k∈g,k < m)->g.length<=m:=by
 intro g m hp hk
 have go:∀ (l:List Nat) (lo:Nat),l.Pairwise (· < ·)->(∀ k∈l,lo<=k/\k < m)->l.length + lo<=m\/l=[]:=by
  intro l
  induction l with
  | nil=>intro _ _ _; exact .inr rfl
  | cons x r ih=>
   intro lo hp hk
   obtain ⟨h1,h2⟩:=R5.mp hp
   have hx:=hk x (Nd ..)
   rcases ih (x + 1) h2 (fun k hkr=>⟨h1 k hkr,(hk k (Nn _ hkr)).2⟩) with h | h
   ·left; rw [NK]; omega
   ·left; rw [h]; simp; omega
 rcases go g 0 hp (fun k h=>⟨N9 _,hk k h⟩) with h | h
 ·omega
 ·rw [h]; simp
structure Table (H:Hp) (a b:Addr) (c n:Nat) (ws vs:List (List Nat)):Prop where
 deals:ba H a ws
 len:ws.length=n
 cards:∀ w∈ws,w.length=c
 small:n<=100000
 few:c<=1000
 views:dW H b vs
 win:∀ v∈vs,Within n v
 hands:vs.length<=1000
theorem Table.same {H H':Hp} {a b:Addr} {c n:Nat} {ws vs:List (List Nat)} (t:Table H a b c n ws vs) (s:am H H'):Table H' a b c n ws vs:=⟨t.deals.same' s,t.len,t.cards,t.small,t.few,t.views.same s,t.win,t.hands⟩
theorem gP {ws:List (List Nat)} {i:Nat} {w:List Nat} (h:ws[i]?=some w):ws.getD i []=w:=by rw [Np,h]; rfl
theorem jw {H:Hp} {b:Addr} {vs:List (List Nat)} (h:dW H b vs) {k:Nat} (hk:k < vs.length):∃ (rs:List Addr) (r:Addr),H b=some (.lst (rs.map V.ref))/\atI (rs.map V.ref) (k:Int)=some (.ref r)/\H r=some (.lst (au (vs.getD k [])))/\vs.getD k []∈vs:=by
 obtain ⟨rs,e,hl,hr⟩:=m6 h
 obtain ⟨r,hrk⟩:∃ r,rs[k]?=some r:=⟨_,M7 (by omega)⟩
 obtain ⟨v,hv,ev⟩:=hr k r hrk
 refine ⟨rs,r,e,cP (by rw [Nm,hrk]; rfl),?_,?_⟩
 ·rw [gP hv]; exact ev
 ·rw [gP hv]; exact Ng hv
noncomputable def cj (_:Fg) (m:Nat):Sp:=fun vals H Q _=>∃ (a b:Addr) (x:V) (c n:Nat) (ws vs:List (List Nat)) (s:Sy),vals=[.ref a,.ref b,x]/\Table H a b c n ws vs/\aU H x s/\s.Ok c vs.length/\s.words<=m/\
 ∀ p H',H p=none->am H H'->H' p=some (.lst (blV n (TR n ws vs s)))->Q (.ref p) H'
noncomputable def lg (K:Fg) (n:Nat):TS:=(ap (aH (tOp (bZ K) (aa 2) (tC (.int 0))) (aj 3))
 (ap (bp (be (tOp rEq (aa 3) (tC (.str "holds")))) (aJ (bu (ce K (aa 0)) (fun _ _ _ _=>(aj 0)) (fun _ _ _ _=>aV) (fun _ _ _ _=>(tOp rEq (tOp (bZ K) (aa 0) (tOp (bZ K) (aa 1) (tC (.int 2)))) (tOp (bZ K) (aa 1) (tC (.int 1))))) [none,some 2])) aY)
 (ap (bp (be (tOp rEq (aa 3) (tC (.str "sees")))) (aJ (av (yw K) [] E0 (ac (bu (ce K (aa 0)) (fun _ _ _ _=>(aj 0)) (fun _ _ _ _=>aV) (fun _ _ _ _=>(av (k9 K) [] E0 (ac (aa 0) (ac (tCB (fc K) (ac (aa 1) ag)) ag)))) [none,some 1]) (ac (tOp (cb K) (aa 1) (tOp (bZ K) (aa 2) (tC (.int 1)))) ag)))) aY)
 (ap (bp (be (tOp rEq (aa 3) (tC (.str "not")))) (aJ (bu (ce K (av (cj K n) [] E0 (ac (aa 0) (ac (aa 1) (ac (tOp (bZ K) (aa 2) (tC (.int 1))) ag))))) (fun _ _ _ _=>(aj 0)) (fun _ _ _ _=>aV) (fun _ _ _ _=>(vW (aa 0))) [none])) aY)
 (ap (bp (be (tOp rEq (aa 3) (tC (.str "and")))) (aJ (av (tT K) [] E0 (ac (av (cj K n) [] E0 (ac (aa 0) (ac (aa 1) (ac (tOp (bZ K) (aa 2) (tC (.int 1))) ag)))) (ac (av (cj K n) [] E0 (ac (aa 0) (ac (aa 1) (ac (tOp (bZ K) (aa 2) (tC (.int 2))) ag)))) ag)))) aY)
 (ap (bp (be (tOp rEq (aa 3) (tC (.str "or")))) (aJ (av (se K) [] E0 (ac (av (cj K n) [] E0 (ac (aa 0) (ac (aa 1) (ac (tOp (bZ K) (aa 2) (tC (.int 1))) ag)))) (ac (av (cj K n) [] E0 (ac (aa 0) (ac (aa 1) (ac (tOp (bZ K) (aa 2) (tC (.int 2))) ag)))) ag)))) aY)
 (ap (aH (av (cj K n) [] E0 (ac (aa 0) (ac (aa 1) (ac (tOp (bZ K) (aa 2) (tC (.int 2))) ag)))) (aj 4))
 (ap (bp (be (tOp rEq (aa 3) (tC (.str "knows")))) (aJ (av (kD K) [] E0 (ac (tOp (cb K) (aa 1) (tOp (bZ K) (aa 2) (tC (.int 1)))) (ac (aa 4) ag)))) aY)
 (ap (aH (bu (rD K (tOp (bZ K) (aa 2) (tC (.int 1)))) (fun _ _ _ _=>(aj 0)) (fun _ _ _ _=>aV) (fun _ _ _ _=>(tOp (cb K) (aa 1) (aa 0))) [none,some 1]) (aj 5))
 (ap (bp (be (tOp rEq (aa 3) (tC (.str "all")))) (aJ (av (jJ K) [] E0 (ac (aa 5) (ac (aa 4) ag)))) aY)
 (aJ (av (kD K) [] E0 (ac (av (sd K) [] E0 (ac (tCB (fc K) (ac (aa 0) ag)) (ac (aa 5) ag))) (ac (aa 4) ag))))))))))))))
noncomputable abbrev CY:List Str:=["deals","views","S","word","inner","some"]
theorem sf {K:Fg} {vs:List V} {H:Hp} {Q:VK} {E:XK} (h:cj K 0 vs H Q E):False:=by
 obtain ⟨a,b,x,c,n,ws,vs,s,rfl,_,_,_,h,_⟩:=h
 have:=s.words_pos
 omega
theorem wK {H:Hp} {rs:List Addr} {ps:List (List Int)} {r:Addr} {xs:List Int} (h:Paired (fun (r:Addr) (xs:List Int)=>H r=some (.tup (xs.map V.int))) rs ps) (e:H r=some (.tup (xs.map V.int))):Paired (fun (r:Addr) (xs:List Int)=>H r=some (.tup (xs.map V.int))) (rs++[r]) (ps++[xs]):=by
 induction h with
 | nil=>exact .cons e .nil
 | cons a _ ih=>exact .cons a ih
theorem ED {H:Hp} {rs:List Addr} {vs:List (List Nat)} {r:Addr} {v:List Nat} (h:Paired (fun (r:Addr) (v:List Nat)=>H r=some (.lst (au v))) rs vs) (e:H r=some (.lst (au v))):Paired (fun (r:Addr) (v:List Nat)=>H r=some (.lst (au v))) (rs++[r]) (vs++[v]):=by
 induction h with
 | nil=>exact .cons e .nil
 | cons a _ ih=>exact .cons a ih
theorem GH {K:Fg} {H:Hp} {b e:Addr} {g:List Nat} {vs:List (List Nat)} {Q:VK} {σ₀:St} {gg:CF TG} {tt:CF TT} {te:CF TE} (hV:dW H b vs) (hg:∀ k∈g,k < vs.length) (hgl:g.length<=1000) (eg:H e=some (.tup (au g)))
  (hs:∀ C s' H' fp (k:Nat) (rs:List Addr) (r:Addr) H2 (R:V->Hp->Prop) (N:Hp->Prop),H2 b=some (.lst (rs.map V.ref))->atI (rs.map V.ref) (k:Int)=some (.ref r)->R (.ref r) H2->gg C s' H' fp (.int (k:Int)) σ₀ H2 fun σ2 H3=>tt C s' H' fp σ2 H3 fun c H4=>if c=true then te C s' H' fp σ2 H4 fun y H5=>R y H5 else N H4)
  (q:∀ p H',H p=none->am H H'->dW H' p (g.map fun h=>vs.getD h [])->Q (.ref p) H'):
  ∃ a',V.ref e=.ref a'/\(∃ xs,SqT K H a' xs)/\∀ p,H p=none->∃ W:Nat->Nat->List V->Hp->Prop,(∃ m,W 0 m [] (upd H p (.lst [])))/\∀ C s' H' fp,bO (Itt K a') (gg C s' H' fp) (tt C s' H' fp) (te C s' H' fp) σ₀ p Q W:=by
 obtain ⟨rs,eb,hl,hr⟩:=m6 hV
 refine ⟨e,rfl,⟨_,SqT.of eg⟩,fun p hp=>Hx (xs:=au g) (fun i acc H2=>am H H2/\H2 p=some (.lst acc)/\acc.length<=i/\∃ ts:List Addr,acc=ts.map V.ref/\Paired (fun (r:Addr) (v:List Nat)=>H r=some (.lst (au v))) ts ((g.take i).map fun h=>vs.getD h [])) ⟨bg hp _,ay,M9 _,[],rfl,.nil⟩ (fun i acc H2 _ c=>⟨c.2.1,c.2.2.1⟩) (fun i acc H2 _ c=>c.1.tup (SqT.of eg)) (by rw [aS,Nf]; omega) (fun C s' H' fp i x acc H2 hx c=>?_) fun acc H2 c=>?_⟩
 ·obtain ⟨k,hk,rfl⟩:=fg hx
  have hkm:=hg k (Ng hk)
  obtain ⟨r,hrk⟩:∃ r,rs[k]?=some r:=⟨_,M7 (by omega)⟩
  obtain ⟨v,hv,ev⟩:=hr k r hrk
  obtain ⟨s2,e2,l2,ts,rfl,ht⟩:=c
  refine hs C s' H' fp k rs r H2 _ _ (s2 _ _ eb) (cP (by rw [Nm,hrk]; rfl)) ⟨e2,s2.upd hp _,ay,by simp at l2 ⊢; omega,ts++[r],by simp,?_⟩
  rw [bX hk,Ny]
  exact ED ht (by show H r=some (.lst (au (vs.getD k []))); rw [gP hv]; exact ev)
 ·obtain ⟨s2,e2,l2,ts,rfl,ht⟩:=c
  rw [aS,NM] at ht
  exact q p H2 hp s2 ⟨ts,e2,Paired.mapP ht fun r v h=>s2 _ _ h⟩
section
open Classical
theorem BG {K:Fg} {m:Nat} {vals:List V} {H:Hp} {Q:VK} {E:XK} (h:cj K (m + 1) vals H Q E):lg K m { nx:=fun _ H'=>Q .non H',rt:=Q } (start CY vals) H:=by
 obtain ⟨a,b,x,c,n,ws,vs,s,rfl,T,hS,hok,hw,q⟩:=h
 show lg K m _ [some _,some _,some _,none,none,none] _
 unfold lg
 obtain ⟨rs,ea,hr⟩:=id T.deals
 have hlr:rs.length=ws.length:=NP hr
 have hn:=T.small
 have hlen:=T.len
 cases s with
 | holds w k=>
  obtain ⟨t,rfl,et⟩:=hS
  obtain ⟨hwh,hkc⟩:=hok
  walk_at "rd"
  refine aD (SqT.of et) (i:=0) rfl ?_
  walk_at "rd"
  refine cE rfl ?_
  walk_at "rd"
  refine cF (rs.map V.ref) (SqL.of ea) (by rw [M6]; omega) (fun i acc _=>acc=blV i (TR n ws vs (.holds w k))) (fun _ _=>rfl) ?_ ?_
  ·rintro p hp C s' H' fp i x acc H2 hx ⟨s2,e2,l2,rfl⟩
   obtain ⟨d,hd,rfl⟩:=kB hx
   obtain ⟨u,hu,eu⟩:=bx hr hd
   have huc:=T.cards u (Ng hu)
   have e1:u[k]?=some (u.getD k 0):=by rw [Np,M7 (by omega)]; rfl
   walk_at "rd"
   refine aD (SqT.of (s2 _ _ et)) (i:=2) rfl ?_
   walk_at "rd"
   refine aD (SqT.of (s2 _ _ eu)) (jn e1) ?_
   walk_at "rd"
   refine aD (SqT.of (s2 _ _ et)) (i:=1) rfl ?_
   walk_at "rd"
   refine bf.put hp (fun _ _ _ _ r _=>r) s2 e2 l2 ?_
   rw [cc]
   congr 3
   refine cde ?_
   show _↔(ws.getD i []).getD k 0=w
   rw [gP hu]
   omega
  ·rintro p acc H2 hp s2 e2 rfl
   rw [M6,hlr,hlen] at e2
   exact q _ _ hp s2 e2
 | sees k=>
  obtain ⟨t,rfl,et⟩:=hS
  have hk:k < vs.length:=hok
  walk_at "rd"
  refine aD (SqT.of et) (i:=0) rfl ?_
  walk_at "rd"
  refine aB (by decide) ?_
  walk_at "rd"
  refine cE rfl ?_
  walk_at "rd"
  obtain ⟨vrs,evb,hvl,_⟩:=m6 T.views
  refine cF (rs.map V.ref) (SqL.of ea) (by rw [M6]; omega) (fun i acc H2=>∃ ts:List Addr,acc=ts.map V.ref/\Paired (fun (r:Addr) (xs:List Int)=>H2 r=some (.tup (xs.map V.int))) ts ((ws.take i).map fun w=>eX w (vs.length:Nat))) (fun _ _=>⟨[],rfl,.nil⟩) ?_ ?_
  ·rintro p hp C s' H' fp i x acc H2 hx ⟨s2,e2,l2,ts,rfl,ht⟩
   obtain ⟨d,hd,rfl⟩:=kB hx
   obtain ⟨u,hu,eu⟩:=bx hr hd
   have huc:=T.cards u (Ng hu)
   have:=T.few
   walk_at "rd"
   refine tL (SqL.of (s2 _ _ evb)) ?_
   walk_at "rd"
   rw [M6,hvl]
   refine ⟨d,u.map fun (s:Nat)=>((s:Nat):Int),(vs.length:Nat),rfl,by rw [<-dm]; exact SqT.of (s2 _ _ eu),by rw [M6]; omega,fun r H3 s3 e3=>?_⟩
   rw [M6] at e3
   refine bf.put hp (fun _ _ _ _ ⟨ts,e,r⟩ k=>⟨ts,e,Paired.mapP r fun _ _ z=>k _ _ z⟩) (s2.trans s3) (s3 _ _ e2) l2 ⟨ts++[r],by simp,?_⟩
   rw [bX hu,Ny]
   exact wK (Paired.mapP ht fun _ _ z=>s3 _ _ z) e3
  ·rintro p acc H2 hp s2 e2 ⟨ts,rfl,ht⟩
   rw [M6,hlr,NM] at ht
   walk_at "rd"
   refine aD (SqT.of (s2 _ _ et)) (i:=1) rfl ?_
   walk_at "rd"
   obtain ⟨vr,r,e1,e3,e4,e5⟩:=jw (T.views.same s2) hk
   refine bI (SqL.of e1) e3 ?_
   walk_at "rd"
   exact ⟨p,r,n,vs.getD k [],_,rfl,⟨ts,e2,ht⟩,by rw [M6]; exact hlen,e4,T.win _ e5,hn,fun p2 H3 hp2 s3 e6=>q p2 H3 (s2.free hp2) (s2.trans s3) e6⟩
 | not s=>
  obtain ⟨t,y,rfl,et,hy⟩:=hS
  have hw':s.words<=m:=by simp only [Sy.words] at hw; omega
  walk_at "rd"
  refine aD (SqT.of et) (i:=0) rfl ?_
  walk_at "rd"
  refine aB (by decide) ?_
  walk_at "rd"
  refine aB (by decide) ?_
  walk_at "rd"
  refine cE rfl ?_
  walk_at "rd"
  refine aD (SqT.of et) (i:=1) rfl ?_
  walk_at "rd"
  refine ⟨a,b,y,c,n,ws,vs,s,rfl,T,hy,hok,hw',fun l H1 hl s1 e1=>?_⟩
  walk_at "rd"
  refine cF _ (SqL.of e1) (by rw [br]; omega) (fun i acc _=>acc=blV i (TR n ws vs (.not s))) (fun _ _=>rfl) ?_ ?_
  ·rintro p hp C s' H' fp i x acc H2 hx ⟨s2,e2,l2,rfl⟩
   obtain ⟨hi,rfl⟩:=eO hx
   walk_at "rd"
   refine bf.put hp (fun _ _ _ _ r _=>r) s2 e2 l2 ?_
   rw [cc]
   congr 3
   by_cases z:TR n ws vs s i
   ·rw [decide_eq_true z]; exact cdf fun h=>h z
   ·rw [decide_eq_false z]; exact cdt z
  ·rintro p acc H2 hp s2 e2 rfl
   rw [br] at e2
   exact q _ _ (s1.free hp) (s1.trans s2) e2
 | and s t=>
  obtain ⟨u,y,z,rfl,et,hy,hz⟩:=hS
  have hw1:s.words<=m:=by simp only [Sy.words] at hw; omega
  have hw2:t.words<=m:=by simp only [Sy.words] at hw; omega
  walk_at "rd"
  refine aD (SqT.of et) (i:=0) rfl ?_
  walk_at "rd"
  refine aB (by decide) ?_
  walk_at "rd"
  refine aB (by decide) ?_
  walk_at "rd"
  refine aB (by decide) ?_
  walk_at "rd"
  refine cE rfl ?_
  walk_at "rd"
  refine aD (SqT.of et) (i:=1) rfl ?_
  walk_at "rd"
  refine ⟨a,b,y,c,n,ws,vs,s,rfl,T,hy,hok.1,hw1,fun l H1 hl s1 e1=>?_⟩
  walk_at "rd"
  refine aD (SqT.of (s1 _ _ et)) (i:=2) rfl ?_
  walk_at "rd"
  refine ⟨a,b,z,c,n,ws,vs,t,rfl,T.same s1,hz.keep s1.keep,hok.2,hw2,fun l2 H2 hl2 s2 e2=>?_⟩
  walk_at "rd"
  exact ⟨l,l2,n,_,_,rfl,s2 _ _ e1,e2,hn,fun p H3 hp s3 e3=>q p H3 (s1.free (s2.free hp)) ((s1.trans s2).trans s3) e3⟩
 | or s t=>
  obtain ⟨u,y,z,rfl,et,hy,hz⟩:=hS
  have hw1:s.words<=m:=by simp only [Sy.words] at hw; omega
  have hw2:t.words<=m:=by simp only [Sy.words] at hw; omega
  walk_at "rd"
  refine aD (SqT.of et) (i:=0) rfl ?_
  walk_at "rd"
  refine aB (by decide) ?_
  walk_at "rd"
  refine aB (by decide) ?_
  walk_at "rd"
  refine aB (by decide) ?_
  walk_at "rd"
  refine aB (by decide) ?_
  walk_at "rd"
  refine cE rfl ?_
  walk_at "rd"
  refine aD (SqT.of et) (i:=1) rfl ?_
  walk_at "rd"
  refine ⟨a,b,y,c,n,ws,vs,s,rfl,T,hy,hok.1,hw1,fun l H1 hl s1 e1=>?_⟩
  walk_at "rd"
  refine aD (SqT.of (s1 _ _ et)) (i:=2) rfl ?_
  walk_at "rd"
  refine ⟨a,b,z,c,n,ws,vs,t,rfl,T.same s1,hz.keep s1.keep,hok.2,hw2,fun l2 H2 hl2 s2 e2=>?_⟩
  walk_at "rd"
  exact ⟨l,l2,n,_,_,rfl,s2 _ _ e1,e2,hn,fun p H3 hp s3 e3=>q p H3 (s1.free (s2.free hp)) ((s1.trans s2).trans s3) e3⟩
 | knows k s=>
  obtain ⟨t,y,rfl,et,hy⟩:=hS
  have hw':s.words<=m:=by simp only [Sy.words] at hw; omega
  walk_at "rd"
  refine aD (SqT.of et) (i:=0) rfl ?_
  walk_at "rd"
  refine aB (by decide) ?_
  walk_at "rd"
  refine aB (by decide) ?_
  walk_at "rd"
  refine aB (by decide) ?_
  walk_at "rd"
  refine aB (by decide) ?_
  walk_at "rd"
  refine aB (by decide) ?_
  walk_at "rd"
  refine aD (SqT.of et) (i:=2) rfl ?_
  walk_at "rd"
  refine ⟨a,b,y,c,n,ws,vs,s,rfl,T,hy,hok.2,hw',fun l H1 hl s1 e1=>?_⟩
  walk_at "rd"
  refine cE rfl ?_
  walk_at "rd"
  refine aD (SqT.of (s1 _ _ et)) (i:=1) rfl ?_
  walk_at "rd"
  obtain ⟨vr,r,e2,e3,e4,e5⟩:=jw (T.views.same s1) hok.1
  refine bI (SqL.of e2) e3 ?_
  walk_at "rd"
  exact ⟨r,l,n,vs.getD k [],_,rfl,e4,e1,T.win _ e5,hn,fun p2 H3 hp2 s3 e6=>q p2 H3 (s1.free hp2) (s1.trans s3) e6⟩
 | all g s=>
  obtain ⟨t,u,y,rfl,et,eu,hy⟩:=hS
  have hw':s.words<=m:=by simp only [Sy.words] at hw; omega
  obtain ⟨⟨hpw,hg⟩,hok'⟩:=hok
  walk_at "rd"
  refine aD (SqT.of et) (i:=0) rfl ?_
  walk_at "rd"
  refine aB (by decide) ?_
  walk_at "rd"
  refine aB (by decide) ?_
  walk_at "rd"
  refine aB (by decide) ?_
  walk_at "rd"
  refine aB (by decide) ?_
  walk_at "rd"
  refine aB (by decide) ?_
  walk_at "rd"
  refine aD (SqT.of et) (i:=2) rfl ?_
  walk_at "rd"
  refine ⟨a,b,y,c,n,ws,vs,s,rfl,T,hy,hok',hw',fun l H1 hl s1 e1=>?_⟩
  walk_at "rd"
  refine aB (by decide) ?_
  walk_at "rd"
  refine aD (SqT.of (s1 _ _ et)) (i:=1) rfl ?_
  refine GH (T.views.same s1) hg (NQ (wJ hpw hg) T.hands) (s1 _ _ eu) ?_ ?_
  ·intro C s' H' fp k rs r H2 R N e2 e3 hR
   walk_at "rd"
   exact bI (SqL.of e2) e3 hR
  ·intro p H2 hp s2 V2
   walk_at "rd"
   refine cE rfl ?_
   walk_at "rd"
   refine ⟨p,l,n,_,_,rfl,V2,s2 _ _ e1,?_,hn,fun p2 H3 hp2 s3 e6=>q p2 H3 (s1.free (s2.free hp2)) ((s1.trans s2).trans s3) e6⟩
   intro v hv
   obtain ⟨k,hk,rfl⟩:=Os.mp hv
   obtain ⟨_,_,_,_,_,e5⟩:=jw T.views (hg k hk)
   exact T.win _ e5
 | common g s=>
  obtain ⟨t,u,y,rfl,et,eu,hy⟩:=hS
  have hw':s.words<=m:=by simp only [Sy.words] at hw; omega
  obtain ⟨⟨hpw,hg⟩,hok'⟩:=hok
  walk_at "rd"
  refine aD (SqT.of et) (i:=0) rfl ?_
  walk_at "rd"
  refine aB (by decide) ?_
  walk_at "rd"
  refine aB (by decide) ?_
  walk_at "rd"
  refine aB (by decide) ?_
  walk_at "rd"
  refine aB (by decide) ?_
  walk_at "rd"
  refine aB (by decide) ?_
  walk_at "rd"
  refine aD (SqT.of et) (i:=2) rfl ?_
  walk_at "rd"
  refine ⟨a,b,y,c,n,ws,vs,s,rfl,T,hy,hok',hw',fun l H1 hl s1 e1=>?_⟩
  walk_at "rd"
  refine aB (by decide) ?_
  walk_at "rd"
  refine aD (SqT.of (s1 _ _ et)) (i:=1) rfl ?_
  refine GH (T.views.same s1) hg (NQ (wJ hpw hg) T.hands) (s1 _ _ eu) ?_ ?_
  ·intro C s' H' fp k rs r H2 R N e2 e3 hR
   walk_at "rd"
   exact bI (SqL.of e2) e3 hR
  ·intro p H2 hp s2 V2
   have s12:=s1.trans s2
   have hwin:∀ v∈g.map (fun h=>vs.getD h []),Within n v:=by
    intro v hv
    obtain ⟨k,hk,rfl⟩:=Os.mp hv
    obtain ⟨_,_,_,_,_,e5⟩:=jw T.views (hg k hk)
    exact T.win _ e5
   walk_at "rd"
   refine aB (by decide) ?_
   walk_at "rd"
   refine tL (SqL.of (s12 _ _ ea)) ?_
   walk_at "rd"
   rw [M6,hlr,hlen]
   refine ⟨n,p,_,rfl,V2,hwin,hn,fun r j H3 hj hjn s3 e3=>?_⟩
   walk_at "rd"
   refine ⟨j,l,n,r,_,rfl,e3,s3 _ _ (s2 _ _ e1),CW hj,hn,fun p2 H4 hp2 s4 e4=>q p2 H4 (s1.free (s2.free (s3.free hp2))) ((s12.trans s3).trans s4) ?_⟩
   rw [e4]
   congr 2
   exact lG fun i hi=>Kn hj hi
end
end
section
variable {K:Fg} {vs:List V} {H:Hp} {Q:VK} {E:XK}
noncomputable def gC (v:List Nat) (as:List IA):List Nat:=bm (v.zip as)
noncomputable def BH (p:Nat×IA):MK:=.inr [.inl (some ((p.1:Nat):Int)),.inl p.2]
theorem Iv (a b:Nat×IA) (e:BH a=BH b):a=b:=by
 have h:=QI e
 injection h with h1 h2
 injection h1 with h1
 injection h1 with h1
 injection h2 with h2 _
 injection h2 with h2
 obtain ⟨a1,a2⟩:=a
 obtain ⟨b1,b2⟩:=b
 simp only at h1 h2
 rw [show a1=b1 by omega,h2]
theorem oN (v:List Nat) (as:List IA):bm ((v.zip as).map BH)=gC v as:=uH (f:=BH) Iv _
noncomputable def vx (_:Fg):Sp:=fun vs H Q _=>∃ (a b:Addr) (v:List Nat) (ys:List V) (as:List IA),vs=[.ref a,.ref b]/\H a=some (.lst (au v))/\H b=some (.lst ys)/\ys.map iaV=as.map some/\v.length=as.length/\v.length<=100000/\
 ∀ p H',H p=none->am H H'->H' p=some (.lst (au (gC v as)))->Q (.ref p) H'
theorem qp {H:Hp}:∀ {ts:List Addr} {v:List Nat} {ys:List V} {as:List IA},mM H ts ((au v).zip ys)->ys.map iaV=as.map some->Paired (ci H) (ts.map V.ref) ((v.zip as).map BH)
 | ts,[],ys,as,h,_=>by
  have e:(au []).zip ys=[]:=rfl
  rw [e] at h
  cases h
  rw [show ([]:List Nat).zip as=[] from rfl]
  exact .nil
 | ts,x :: v,[],as,h,e=>by
  have z:(au (x :: v)).zip ([]:List V)=[]:=by simp
  rw [z] at h
  cases h
  have:as=[]:=by
   cases as with
   | nil=>rfl
   | cons _ _=>simp at e
  rw [this]
  simp only [List.zip_nil_right]
  exact .nil
 | ts,x :: v,y :: ys,as,h,e=>by
  cases as with
  | nil=>simp at e
  | cons a as=>
   rw [Nt,Nt] at e
   injection e with e1 e2
   have z:(au (x :: v)).zip (y :: ys)=(.int (x:Int),y) :: (au v).zip ys:=rfl
   rw [z] at h
   cases h with
   | cons h t=>
    rw [OG,Nt,Nt]
    exact .cons ⟨_,_,rfl,h,.cons rfl (.cons e1 .nil)⟩ (qp t e2)
noncomputable def tV (K:Fg):TS:=(aJ (av (fq K) [] E0 (ac (EA aR aR K (ac (aa 0) (ac (aa 1) ag))) ag)))
theorem Iw (h:vx K vs H Q E):tV K { nx:=fun _ H'=>Q .non H',rt:=Q } (start ["view","values"] vs) H:=by
 obtain ⟨a,b,v,ys,as,rfl,ea,eb,hi,hl,hn,q⟩:=h
 show tV K _ [some _,some _] _
 unfold tV
 walk_at "rd"
 refine LL ?_
 walk_at "rd"
 refine ⟨a,b,au v,ys,rfl,SqL.of ea,SqL.of eb,by rw [aS]; omega,fun p H1 hp s1 ⟨ts,e1,pt⟩=>?_⟩
 walk_at "rd"
 refine ⟨p,_,_,true,rfl,e1,qp pt hi,?_,by rw [M6,OS]; omega,fun p2 H2 hp2 s2 e2=>?_⟩
 ·intro k hk
  obtain ⟨w,_,rfl⟩:=Os.mp hk
  rfl
 ·rw [oN] at e2
  exact q _ _ (s1.free hp2) (s1.trans s2) e2
end
end L2
section
namespace L2
open KF
section
variable {α β γ:Type} [DecidableEq α] [DecidableEq β] [DecidableEq γ]
theorem sg {ks:List α} {i:Nat} {k:α} (h:ks[i]?=some k):ks[ks.idxOf k]?=some k:=by
 rw [M7 (RX (Ng h)),List.getElem_idxOf]
theorem lH {ks:List α} {i:Nat} {k:α} (h:ks[i]?=some k):(bm ks)[i]?=some (ks.idxOf k):=by unfold bm; rw [Nm,h]; rfl
theorem wL {ks:List α} {j:Nat} {k:α} (h:ks[j]?=some k):ks.idxOf k<=j:=by obtain ⟨_,_,_,hle⟩:=wl (lH h); exact hle
theorem lI {l:List α} {i:Nat} (h:i < l.length):∃ x,l[i]?=some x:=⟨_,M7 h⟩
theorem uP {ks:List α} {ls:List β} (hl:ks.length=ls.length) (h:∀ i j,i < ks.length->j < ks.length->(ks[i]?=ks[j]?↔ls[i]?=ls[j]?)):bm ks=bm ls:=by
 refine PH fun i=>?_
 by_cases hi:i < ks.length
 ·obtain ⟨k,hk⟩:=lI hi
  obtain ⟨l,hL⟩:=lI (l:=ls) (i:=i) (by omega)
  rw [lH hk,lH hL]
  have a1:=sg hk
  have b1:=sg hL
  have la:=wL hk
  have lb:=wL hL
  have e1:ls[ks.idxOf k]?=some l:=by rw [<-hL]; exact ((h _ _ (by omega) hi).mp (a1.trans hk.symm))
  have e2:ks[ls.idxOf l]?=some k:=by rw [<-hk]; exact ((h _ _ (by omega) hi).mpr (b1.trans hL.symm))
  have q1:=wL e1
  have q2:=wL e2
  congr 1
  omega
 ·rw [NR (by rw [cR]; omega),NR (by rw [cR]; omega)]
theorem GI {ks:List α} {i j:Nat} (hi:i < ks.length) (hj:j < ks.length):(bm ks)[i]?=(bm ks)[j]?↔ks[i]?=ks[j]?:=by
 obtain ⟨k,hk⟩:=lI hi
 obtain ⟨l,hL⟩:=lI hj
 rw [lH hk,lH hL,hk,hL]
 constructor
 ·intro e
  rw [<-sg hk,<-sg hL,Nl e]
 ·intro e
  rw [Nl e]
theorem uQ (ks:List α):bm (bm ks)=bm ks:=uP (cR ks) fun i j hi hj=>by rw [cR] at hi hj; exact GI hi hj
theorem zy {ks:List α} {i m:Nat} (h:(bm ks)[i]?=some m):ks[m]?=ks[i]?/\m<=i/\i < ks.length:=by
 obtain ⟨k,hk,rfl,hle⟩:=wl h
 exact ⟨(sg hk).trans hk.symm,hle,(Na.mp hk).1⟩
theorem Dz {v:List α} {as:List β} (hl:v.length=as.length) {i j:Nat} (hi:i < v.length) (hj:j < v.length):(v.zip as)[i]?=(v.zip as)[j]?↔v[i]?=v[j]?/\as[i]?=as[j]?:=by
 obtain ⟨x,hx⟩:=lI hi
 obtain ⟨y,hy⟩:=lI hj
 obtain ⟨a,ha⟩:=lI (l:=as) (i:=i) (by omega)
 obtain ⟨b,hb⟩:=lI (l:=as) (i:=j) (by omega)
 have e1:(v.zip as)[i]?=some (x,a):=by rw [Pw]; exact ⟨hx,ha⟩
 have e2:(v.zip as)[j]?=some (y,b):=by rw [Pw]; exact ⟨hy,hb⟩
 rw [e1,e2,hx,hy,ha,hb]
 simp only [Nv.injEq,Prod.mk.injEq]
noncomputable def spl (v:List Nat) (as:List β):List Nat:=bm (v.zip as)
theorem LQ {v:List Nat} {w:List Nat} {as:List β} {bs:List γ} (h1:v.length=as.length) (h2:w.length=bs.length) (h3:v.length=w.length) (h:∀ i j,i < v.length->j < v.length->(v[i]?=v[j]?/\as[i]?=as[j]?↔w[i]?=w[j]?/\bs[i]?=bs[j]?)):spl v as=spl w bs:=by
 refine uP (by rw [OS,OS]; omega) fun i j hi hj=>?_
 rw [OS] at hi hj
 rw [Dz h1 (by omega) (by omega),Dz h2 (by omega) (by omega)]
 exact h i j (by omega) (by omega)
end
theorem GJ {v:List Nat} (hv:bm v=v) {x y:Nat} (h:v[x]?=some y):v[x]?=v[y]?/\y<=x:=by
 have h':(bm v)[x]?=some y:=by rw [hv]; exact h
 obtain ⟨q,hle,_⟩:=zy h'
 exact ⟨q.symm,hle⟩
end L2
end
namespace L2
open PySem PyProof.Rows
section
open KF
open Classical in
noncomputable def blA (n:Nat) (P:Nat->Prop):List IA:=(NC n).map fun i=>some (if decide (P i) then 1 else 0)
theorem tW (n:Nat) (P:Nat->Prop):(blA n P).length=n:=by unfold blA; simp
theorem BI (n:Nat) (P:Nat->Prop):(blV n P).map iaV=(blA n P).map some:=by
 unfold blV blA
 rw [PQ,PQ]
 exact Pl fun i _=>rfl
open Classical in
theorem DC {n i:Nat} {P:Nat->Prop} (h:i < n):(blA n P)[i]?=some (some (if decide (P i) then 1 else 0)):=by unfold blA; rw [Nm,OL h]; rfl
theorem Ko {n i j:Nat} {P:Nat->Prop} (hi:i < n) (hj:j < n):(blA n P)[i]?=(blA n P)[j]?↔(P i↔P j):=by
 rw [DC hi,DC hj]
 by_cases a:P i <;> by_cases b:P j <;> simp [a,b]
theorem si {α:Type} [DecidableEq α] {ks:List α} {n:Nat} (h:ks.length=n):Within n (bm ks):=⟨by rw [cR,h],fun x hx=>by
 obtain ⟨i,hi⟩:=Rj.mp hx
 obtain ⟨_,h1,h2⟩:=zy hi
 omega⟩
theorem m7 {n:Nat} {v:List Nat} {as:List IA} (hv:Within n v) (hl:as.length=n):Within n (gC v as):=si (by rw [OS,hv.1,hl,PP])
theorem GK (v:List Nat) (as:List IA):bm (gC v as)=gC v as:=uQ _
noncomputable def lrn (vw:List (List Nat)) (g:List Nat) (as:List IA):List (List Nat):=g.foldl (fun w h=>w.set h (gC (w.getD h []) as)) vw
theorem mO (as:List IA):∀ (g:List Nat) (vw:List (List Nat)),(lrn vw g as).length=vw.length
 | [],_=>rfl
 | h :: g,vw=>by
  show (lrn (vw.set h _) g as).length=_
  rw [mO as g,Pk]
theorem BJ (vw:List (List Nat)) (g:List Nat) (h:Nat) (as:List IA):lrn vw (g++[h]) as=(lrn vw g as).set h (gC ((lrn vw g as).getD h []) as):=by
 unfold lrn
 rw [UV]
 rfl
theorem pc {as:List IA} {P:List Nat->Prop} (hs:∀ v,P v->P (gC v as)):∀ (g:List Nat) (vw:List (List Nat)),(∀ h∈g,h < vw.length)->(∀ v∈vw,P v)->∀ v∈lrn vw g as,P v
 | [],_,_,h=>h
 | k :: g,vw,hk,h=>by
  show ∀ v∈lrn (vw.set k _) g as,P v
  refine pc hs g _ (fun x hx=>by rw [Pk]; exact hk x (Nn _ hx)) fun v hv=>?_
  rcases List.mem_or_eq_of_mem_set hv with z | z
  ·exact h v z
  ·rw [z]
   have hl:=hk k Nd
   refine hs _ (h _ ?_)
   rw [Np,M7 hl]
   exact Pq hl
set_option genInjectivity false in
structure TM where
 c:Nat
 ss:List Nat
 vw:List (List Nat)
 ds:List (List Nat×List V)
noncomputable def TM.ws (T:TM):List (List Nat):=KM.bR (T.ss++[T.c - T.ss.sum]) T.c
noncomputable def TM.n (T:TM):Nat:=T.ws.length
noncomputable def TM.k (T:TM):Nat:=T.ss.length
noncomputable def TM.tr (T:TM) (s:Sy):Nat->Prop:=TR T.n T.ws T.vw s
noncomputable def TM.learn (T:TM) (g:List Nat) (as:List IA) (ys:List V):TM:={ T with vw:=lrn T.vw g as,ds:=T.ds++[(g,ys)] }
noncomputable def TM.word (T:TM) (g:List Nat) (s:Sy):TM:=T.learn g (blA T.n (T.tr s)) (blV T.n (T.tr s))
noncomputable def TM.begun (c:Nat) (ss:List Nat):TM:=⟨c,ss,(NC ss.length).map fun i=>lC (KM.bR (ss++[c - ss.sum]) c) ((i:Nat):Int),[]⟩
structure TM.Ok (T:TM):Prop where
 pk:rV T.c T.ss
 few:KM.cA T.c T.ss<=2000
 len:T.vw.length=T.k
 win:∀ v∈T.vw,Within T.n v
 can:∀ v∈T.vw,bm v=v
theorem TM.Ok.n2 {T:TM} (h:T.Ok):T.n<=2000:=by
 show (KM.bR _ _).length<=_
 rw [KM.kX h.pk.sum]
 exact h.few
theorem TM.Ok.cards {T:TM} (h:T.Ok):∀ w∈T.ws,w.length=T.c:=fun w hw=>(KM.gO _ T.c w hw).len
theorem TM.Ok.begun {c:Nat} {ss:List Nat} (pk:rV c ss) (few:KM.cA c ss<=2000):(TM.begun c ss).Ok:=⟨pk,few,by show (List.map _ _).length=ss.length; rw [M6,OO],fun v hv=>by
 obtain ⟨i,_,rfl⟩:=Os.mp hv
 exact si (by rw [M6]; rfl),fun v hv=>by
 obtain ⟨i,_,rfl⟩:=Os.mp hv
 exact uQ _⟩
theorem TM.Ok.learn {T:TM} (h:T.Ok) {g:List Nat} {as:List IA} {ys:List V} (hg:∀ x∈g,x < T.k) (hl:as.length=T.n):(T.learn g as ys).Ok:=
 ⟨h.pk,h.few,by show (lrn T.vw g as).length=_; rw [mO]; exact h.len,pc (fun v hv=>m7 hv hl) g T.vw (by rw [h.len]; exact hg) h.win,pc (fun v _=>GK v as) g T.vw (by rw [h.len]; exact hg) h.can⟩
theorem TM.Ok.word {T:TM} (h:T.Ok) {g:List Nat} {s:Sy} (hg:∀ x∈g,x < T.k):(T.word g s).Ok:=h.learn hg (tW _ _)
end
section
variable {K:Fg} {vs:List V} {H:Hp} {Q:VK} {E:XK}
theorem Kq {i lo hi:Int} (h1:lo<=i) (h2:i<=hi):cS (.int i) lo hi=true:=by
 show (decide (lo<=i) && decide (i<=hi))=true
 rw [decide_eq_true h1,decide_eq_true h2]
 rfl
noncomputable def dL (_:Fg):Sp:=fun vs H Q _=>∃ (i b:Int),vs=[.int i,.int b]/\Q (.bl (decide (0<=i) && decide (i<=b - 1))) H
noncomputable def mC (K:Fg):TS:=(aJ (av (eM K) [] E0 (ac (aa 0) (ac (tC (.int 0)) (ac (tOp (rI0 fun i j=>.int (i - j)) (aa 1) (tC (.int 1))) ag)))))
theorem CZ (h:dL K vs H Q E):mC K { nx:=fun _ H'=>Q .non H',rt:=Q } (start ["thing","bound"] vs) H:=by
 obtain ⟨i,b,rfl,q⟩:=h
 show mC K _ [some _,some _] _
 unfold mC
 walk_at "rd"
 exact ⟨.int i,0,b - 1,rfl,fN.int _,q⟩
theorem ib {i b:Int} (h1:0<=i) (h2:i<=b):(decide (0<=i) && decide (i<=b))=true:=by rw [decide_eq_true h1,decide_eq_true h2]; rfl
noncomputable def jK (_:Fg):Sp:=fun vs H Q _=>∃ (a:Addr) (g:List Nat) (h:Nat),vs=[.ref a,.int h]/\H a=some (.tup (au g))/\g.Pairwise (· < ·)/\(∀ k∈g,k < h)/\Q (.bl true) H
noncomputable def lh (K:Fg):TS:=(ap (bp (dt (tB (tCB (iP K) (ac (aa 0) (ac (tC (.ty "tuple")) ag))))) (aJ (tC (.bl false))) aY)
 (ap (aH (tC (.int 0)) (aj 2))
 (ap (cV (rD K (aa 0)) (aj 3) (ap (bp (dt (tB (av (eM K) [] E0 (ac (aa 3) (ac (aa 2) (ac (tOp (rI0 fun i j=>.int (i - j)) (aa 1) (tC (.int 1))) ag)))))) (aJ (tC (.bl false))) aY)
 (aH (tOp (rI0 fun i j=>.int (i + j)) (aa 3) (tC (.int 1))) (aj 2))))
 (aJ (tC (.bl true))))))
theorem BK (h:jK K vs H Q E):lh K { nx:=fun _ H'=>Q .non H',rt:=Q } (start ["thing","hands","least","hand"] vs) H:=by
 obtain ⟨a,g,h,rfl,e,pw,hg,q⟩:=h
 show lh K _ [some _,some _,none,none] _
 unfold lh
 walk_at "rd"
 refine gU (.tup e) (kT K) ?_
 walk_at "rd"
 refine rR (au g) (SqT.of e) (fun i σ H2=>∃ (lo:Int) (st:Option V),σ=[some (.ref a),some (.int h),some (.int lo),st]/\H2=H/\∀ k∈g.drop i,lo<=(k:Int)) ⟨0,none,rfl,rfl,fun k _=>by omega⟩ (fun i σ H2 _ ⟨_,_,_,eH,_⟩=>by subst eH; exact SqT.of e) ?_ ?_
 ·rintro i y σ H2 hy ⟨lo,st,rfl,rfl,hlo⟩
  obtain ⟨k,hk,rfl⟩:=fg hy
  obtain ⟨h1,h2⟩:=Na.mp hk
  have hd:g.drop i=k :: g.drop (i + 1):=by rw [Sz h1,h2]
  have hkh:=hg k (Ng hk)
  have pd:(g.drop i).Pairwise (· < ·):=pw.sublist (List.drop_sublist i g)
  rw [hd] at hlo pd
  have l1:=hlo k Nd
  walk_at "rd"
  refine ⟨.int (k:Int),lo,(h:Int) - 1,rfl,fN.int _,?_⟩
  rw [Kq l1 (show (k:Int)<=(h:Int) - 1 by omega)]
  walk_at "rd"
  refine ⟨_,_,rfl,rfl,fun j hj=>?_⟩
  have:=(R5.mp pd).1 j hj
  omega
 ·rintro σ H2 ⟨lo,st,rfl,rfl,_⟩
  walk_at "rd"
  exact q
noncomputable def oO (_:Fg):Sp:=fun vs H Q _=>∃ (v:V) (s:Sy),vs=[v]/\aU H v s/\∀ (p:Addr) (xs:List V) (H':Hp),am H H'->H p=none->H' p=some (.lst xs)->iz H' xs s.subs->xs.length<=2->Q (.ref p) H'
noncomputable def mD (K:Fg) (G:Glo):TS:=(ap (aH (tOp (Ep G.kvs G.forms) (tC (.ref G.forms)) (tOp (bZ K) (aa 0) (tC (.int 0)))) (aj 1))
 (aJ (bu (lO eD eD K (ac (aa 1) (ac (tSl (Bn K) (aa 0) (v2 (tC (.int 1))) oV) ag))) (fun _ _ _ _=>(da K 2 (aW (aj 0) (aW (aj 1) cZ)))) (fun _ _ _ _=>(be (tOp rEq (aa 0) (tC (.str "saying"))))) (fun _ _ _ _=>(aa 1)) [none,none])))
theorem C0 {K:Fg} {G:Glo} (g:wE K G) {vs:List V} {H:Hp} {Q:VK} {E:XK} (h:oO K vs H Q E):mD K G { nx:=fun _ H'=>Q .non H',rt:=Q } (start ["saying","form"] vs) H:=by
 obtain ⟨v,s,rfl,hs,q⟩:=h
 obtain ⟨a,items,rfl,ha,hl,hp⟩:=Kj hs
 obtain ⟨f,hf,tf⟩:=g.form s
 show mD K G _ [some _,none] _
 unfold mD
 walk_at "rd"
 refine aD (SqT.of ha) (mN _ _) ?_
 refine JD hf ?_
 walk_at "rd"
 refine Eo (SqT.of ha) (oF _ _) fun b H1 hb s1 e1=>?_
 rw [vm] at e1
 walk_at "rd"
 have hml:min (s.form.map V.str).length items.length=s.form.length:=by rw [M6,hl]; omega
 refine mU (S1:=eD) (S2:=eD) (s.form.map V.str) items (tf.sq _) (SqT.of e1) (fun H' _=>tf.sq _) (fun H' s'=>SqT.of (s' _ _ e1)) (by rw [M6]; have:=s.form_len; omega) (fun i acc _=>acc=jo (s.form.take i) (items.take i)) (fun _ _=>rfl) ?_ ?_
 ·intro p hp' C s' H' fp i x y T acc H2 H3 hx hy ⟨s2,e2,l2,r2⟩ hT s3 e3 e4
  obtain ⟨z,hz,rfl⟩:∃ z,s.form[i]?=some z/\x=.str z:=by
   rw [Nm] at hx
   cases e:s.form[i]? with
   | none=>rw [e] at hx; cases hx
   | some z=>rw [e] at hx; exact ⟨z,rfl,(Nl hx).symm⟩
  have pt:=GC s.form items i z y hz hy
  subst r2
  refine dO (SqT.of e3) ?_
  walk_at "rd"
  refine dC (fun c=>?_) (fun c=>?_)
  ·walk_at "rd"
   rw [if_pos c] at pt
   exact bf.put hp' (fun _ _ _ _ r _=>r) (s2.trans s3) e4 l2 pt.symm
  ·rw [if_neg c,O6] at pt
   exact bf.skip (s2.trans s3) e4 l2 pt.symm
 ·intro p acc H2 hp' s2 e2 r2
  rw [hml,<-hl,NM,hl,NM] at r2
  subst r2
  refine q p _ H2 (s1.trans s2) (s1.free hp') e2 (hp.keep (s1.trans s2).keep) (NQ (Iq _ _) s.form_len)
noncomputable def jL (H:Hp) (c h:Nat) (p:Str) (x:V):Prop:=(p="holder"/\∃ k:Nat,x=.int k/\k<=h)\/(p="card"/\∃ k:Nat,x=.int k/\k < c)\/(p="hand"/\∃ k:Nat,x=.int k/\k < h)\/(p="hands"/\∃ a g,x=.ref a/\H a=some (.tup (au g))/\g.Pairwise (· < ·)/\∀ k∈g,k < h)\/p="saying"
noncomputable def yx (_:Fg):Sp:=fun vs H Q _=>∃ (c h:Nat) (p:Str) (x:V),vs=[.int c,.int h,.str p,x]/\jL H c h p x/\Q (.bl true) H
noncomputable def wM (K:Fg):TS:=(ap (bp (be (tOp rEq (aa 2) (tC (.str "holder")))) (aJ (av (dL K) [] E0 (ac (aa 3) (ac (tOp (rI0 fun i j=>.int (i + j)) (aa 1) (tC (.int 1))) ag)))) aY)
 (ap (bp (be (tOp rEq (aa 2) (tC (.str "card")))) (aJ (av (dL K) [] E0 (ac (aa 3) (ac (aa 0) ag)))) aY)
 (ap (bp (be (tOp rEq (aa 2) (tC (.str "hand")))) (aJ (av (dL K) [] E0 (ac (aa 3) (ac (aa 1) ag)))) aY)
 (ap (bp (be (tOp rEq (aa 2) (tC (.str "hands")))) (aJ (av (jK K) [] E0 (ac (aa 3) (ac (aa 1) ag)))) aY)
 (aJ (tC (.bl true)))))))
theorem Kr (h:yx K vs H Q E):wM K { nx:=fun _ H'=>Q .non H',rt:=Q } (start ["cards","hands","place","part"] vs) H:=by
 obtain ⟨c,h,p,x,rfl,k,q⟩:=h
 show wM K _ [some _,some _,some _,some _] _
 unfold wM
 rcases k with ⟨rfl,k,rfl,hk⟩ | ⟨rfl,k,rfl,hk⟩ | ⟨rfl,k,rfl,hk⟩ | ⟨rfl,a,g,rfl,e,pw,hg⟩ | rfl
 ·walk_at "rd"
  refine cE rfl ?_
  walk_at "rd"
  refine ⟨_,_,rfl,?_⟩
  rw [ib (by omega) (by omega)]
  exact q
 ·walk_at "rd"
  refine aB (by decide +kernel) ?_
  walk_at "rd"
  refine cE rfl ?_
  walk_at "rd"
  refine ⟨_,_,rfl,?_⟩
  rw [ib (by omega) (by omega)]
  exact q
 ·walk_at "rd"
  refine aB (by decide +kernel) ?_
  walk_at "rd"
  refine aB (by decide +kernel) ?_
  walk_at "rd"
  refine cE rfl ?_
  walk_at "rd"
  refine ⟨_,_,rfl,?_⟩
  rw [ib (by omega) (by omega)]
  exact q
 ·walk_at "rd"
  refine aB (by decide +kernel) ?_
  walk_at "rd"
  refine aB (by decide +kernel) ?_
  walk_at "rd"
  refine aB (by decide +kernel) ?_
  walk_at "rd"
  refine cE rfl ?_
  walk_at "rd"
  exact ⟨a,g,h,rfl,e,pw,hg,q⟩
 ·walk_at "rd"
  refine aB (by decide +kernel) ?_
  walk_at "rd"
  refine aB (by decide +kernel) ?_
  walk_at "rd"
  refine aB (by decide +kernel) ?_
  walk_at "rd"
  refine aB (by decide +kernel) ?_
  walk_at "rd"
  exact q
theorem Ix {H:Hp} {c h:Nat} {v:V} {s:Sy} (hs:aU H v s) (ok:s.Ok c h):∃ a items,v=.ref a/\H a=some (.tup (.str s.word :: items))/\items.length=s.form.length/\∀ (i:Nat) (p:Str) (x:V),s.form[i]?=some p->items[i]?=some x->jL H c h p x:=by
 have one:∀ {p:Str} {x:V},jL H c h p x->∀ (i:Nat) (p':Str) (x':V),[p][i]?=some p'->[x][i]?=some x'->jL H c h p' x':=fun f i p' x' hp hx=>by
  match i,hp,hx with
  | 0,hp,hx=>cases hp; cases hx; exact f
 have two:∀ {p q:Str} {x y:V},jL H c h p x->jL H c h q y->∀ (i:Nat) (p':Str) (x':V),[p,q][i]?=some p'->[x,y][i]?=some x'->jL H c h p' x':=fun f g i p' x' hp hx=>by
  match i,hp,hx with
  | 0,hp,hx=>cases hp; cases hx; exact f
  | 1,hp,hx=>cases hp; cases hx; exact g
 have sy:∀ {x:V},jL H c h "saying" x:=.inr (.inr (.inr (.inr rfl)))
 cases s with
 | holds w k=>obtain ⟨a,e,q⟩:=hs; exact ⟨a,_,e,q,rfl,two (.inl ⟨rfl,w,rfl,ok.1⟩) (.inr (.inl ⟨rfl,k,rfl,ok.2⟩))⟩
 | sees k=>obtain ⟨a,e,q⟩:=hs; exact ⟨a,_,e,q,rfl,one (.inr (.inr (.inl ⟨rfl,k,rfl,ok⟩)))⟩
 | not s=>obtain ⟨a,x,e,q,r⟩:=hs; exact ⟨a,_,e,q,rfl,one sy⟩
 | and s t=>obtain ⟨a,x,y,e,q,r,r'⟩:=hs; exact ⟨a,_,e,q,rfl,two sy sy⟩
 | or s t=>obtain ⟨a,x,y,e,q,r,r'⟩:=hs; exact ⟨a,_,e,q,rfl,two sy sy⟩
 | knows k s=>obtain ⟨a,x,e,q,r⟩:=hs; exact ⟨a,_,e,q,rfl,two (.inr (.inr (.inl ⟨rfl,k,rfl,ok.1⟩))) sy⟩
 | all g s=>obtain ⟨a,b,x,e,q,j,r⟩:=hs; exact ⟨a,_,e,q,rfl,two (.inr (.inr (.inr (.inl ⟨rfl,b,g,rfl,j,ok.1.1,ok.1.2⟩)))) sy⟩
 | common g s=>obtain ⟨a,b,x,e,q,j,r⟩:=hs; exact ⟨a,_,e,q,rfl,two (.inr (.inr (.inr (.inl ⟨rfl,b,g,rfl,j,ok.1.1,ok.1.2⟩)))) sy⟩
theorem jL.same {H H':Hp} (s:am H H') {c h:Nat} {p:Str} {x:V} (f:jL H c h p x):jL H' c h p x:=by
 rcases f with f | f | f | ⟨e,a,g,e2,q,r⟩ | f
 ·exact .inl f
 ·exact .inr (.inl f)
 ·exact .inr (.inr (.inl f))
 ·exact .inr (.inr (.inr (.inl ⟨e,a,g,e2,s _ _ q,r⟩)))
 ·exact .inr (.inr (.inr (.inr f)))
noncomputable def qq (_:Fg):Sp:=fun vs H Q _=>∃ (c h:Nat) (v:V) (s:Sy),vs=[.int c,.int h,v]/\aU H v s/\s.Ok c h/\∀ H',am H H'->Q (.bl true) H'
noncomputable def n9 (K:Fg) (G:Glo):TS:=(ap (bp (tOr (dt (tB (tCB (iP K) (ac (aa 2) (ac (tC (.ty "tuple")) ag))))) (be (tOp rEq (tCB (fc K) (ac (aa 2) ag)) (tC (.int 0))))) (aJ (tC (.bl false))) aY)
 (ap (bp (tOr (dt (tB (tCB (iP K) (ac (tOp (bZ K) (aa 2) (tC (.int 0))) (ac (tC (.ty "str")) ag))))) (be (tOp (Bo G.kvs G.forms true) (tOp (bZ K) (aa 2) (tC (.int 0))) (tC (.ref G.forms))))) (aJ (tC (.bl false))) aY)
 (ap (aH (tOp (Ep G.kvs G.forms) (tC (.ref G.forms)) (tOp (bZ K) (aa 2) (tC (.int 0)))) (aj 3))
 (ap (bp (be (tOp rNe (tCB (fc K) (ac (aa 2) ag)) (tOp (rI0 fun i j=>.int (i + j)) (tC (.int 1)) (tCB (fc K) (ac (aa 3) ag))))) (aJ (tC (.bl false))) aY)
 (aJ (tCB (Ek K) (ac (bu (lO eD eD K (ac (aa 3) (ac (tSl (Bn K) (aa 2) (v2 (tC (.int 1))) oV) ag))) (fun _ _ _ _=>(da K 2 (aW (aj 0) (aW (aj 1) cZ)))) (fun _ _ _ _=>aV) (fun _ _ _ _=>(av (yx K) [] E0 (ac (aa 2) (ac (aa 3) (ac (aa 0) (ac (aa 1) ag)))))) [none,none,some 0,some 1]) ag)))))))
theorem LS {H:Hp} {Q:VK} {kvs:List (Str×V)} {a:Addr} {k:Str} {v:V} (e:kvs.lookup k=some v) (h:Q (.bl false) H):Bo kvs a true (.str k) (.ref a) H Q:=⟨rfl,k,rfl,by rw [e]; exact h⟩
theorem Iy (K:Fg):NZ K (.type "str") (.type "str")=some true:=BD K "str"
theorem EE {K:Fg} {G:Glo} (g:wE K G) {vs:List V} {H:Hp} {Q:VK} {E:XK} (h:qq K vs H Q E):n9 K G { nx:=fun _ H'=>Q .non H',rt:=Q } (start ["cards","hands","thing","form"] vs) H:=by
 obtain ⟨c,h,v,s,rfl,hs,ok,q⟩:=h
 obtain ⟨a,items,rfl,ha,hl,hf⟩:=Ix hs ok
 obtain ⟨f,hk,tf⟩:=g.form s
 have hfl:=s.form_len
 show n9 K G _ [some _,some _,some _,none] _
 unfold n9
 walk_at "rd"
 refine gU (.tup ha) (kT K) ?_
 walk_at "rd"
 refine aB (by show ¬ (((items.length + 1:Nat):Int)=0); omega) ?_
 walk_at "rd"
 refine aD (SqT.of ha) (mN _ _) ?_
 walk_at "rd"
 refine gU (.str _) (Iy K) ?_
 walk_at "rd"
 refine aD (SqT.of ha) (mN _ _) ?_
 walk_at "rd"
 refine LS hk ?_
 walk_at "rd"
 refine aD (SqT.of ha) (mN _ _) ?_
 refine JD hk ?_
 walk_at "rd"
 refine Do (tf.sq _) ?_
 walk_at "rd"
 rw [M6]
 refine vg (fun n=>absurd (show ((items.length + 1:Nat):Int)=1 + ((s.form.length:Nat):Int) by omega) n) (fun _=>?_)
 walk_at "rd"
 refine Eo (SqT.of ha) (oF _ _) fun b H1 hb s1 e1=>?_
 rw [vm] at e1
 walk_at "rd"
 refine mU (S1:=eD) (S2:=eD) (s.form.map V.str) items (tf.sq _) (SqT.of e1) (fun H' _=>tf.sq _) (fun H' s'=>SqT.of (s' _ _ e1)) (by rw [M6]; omega) (fun i acc _=>acc=(NT i true).map V.bl) (fun _ _=>rfl) ?_ ?_
 ·rintro p hp C s' H' fp i x y T acc H2 H3 hx hy ⟨s2,e2,l2,rfl⟩ hT s3 e3 e4
  obtain ⟨z,hz,rfl⟩:∃ z,s.form[i]?=some z/\x=.str z:=by
   rw [Nm] at hx
   cases e:s.form[i]? with
   | none=>rw [e] at hx; cases hx
   | some z=>rw [e] at hx; exact ⟨z,rfl,(Nl hx).symm⟩
  refine dO (SqT.of e3) ?_
  walk_at "rd"
  refine ⟨c,h,z,y,rfl,(hf i z y hz hy).same ((s1.trans s2).trans s3),?_⟩
  exact bf.put hp (fun _ _ _ _ r _=>r) (s2.trans s3) e4 l2 (by rw [QF,Ny]; rfl)
 ·rintro p acc H2 hp s2 e2 rfl
  walk_at "rd"
  refine ⟨p,_,rfl,SqL.of e2,?_⟩
  rw [show ∀ n:Nat,(NT n true).all id=true from fun n=>by simp]
  exact q _ (s1.trans s2)
noncomputable def jM (_:Fg):Sp:=fun vs H Q _=>∃ (l:Addr) (xs:List V) (ss:List Sy),vs=[.ref l]/\H l=some (.lst xs)/\iz H xs ss/\xs.length<=100/\∀ (p:Addr) (ys:List V) (H':Hp),am H H'->H p=none->H' p=some (.lst ys)->iz H' ys (ss.flatMap Sy.subs)->Q (.ref p) H'
noncomputable def iB (K:Fg):TS:=(ap (aH (d5 ag) (aj 1))
 (ap (cV (ce K (aa 0)) (aj 2) (dI (tBM K "list" yk (aa 1) (ac (av (oO K) [] E0 (ac (aa 2) ag)) ag))))
 (aJ (aa 1))))
theorem LT {α β:Type} {F:α->β->Prop} {l l':List α} {m m':List β} (h:Paired F l m) (q:Paired F l' m'):Paired F (l++l') (m++m'):=by
 induction h with
 | nil=>exact q
 | cons x _ ih=>exact .cons x ih
theorem DD:∀ ss:List Sy,(ss.flatMap Sy.subs).length<=2 * ss.length
 | []=>M9 _
 | s :: r=>by
  have:=DD r
  have:s.subs.length<=2:=by cases s <;> simp [Sy.subs]
  rw [Su,Nx,NK]
  omega
theorem wN (h:jM K vs H Q E):iB K { nx:=fun _ H'=>Q .non H',rt:=Q } (start ["sayings","parts","saying"] vs) H:=by
 obtain ⟨l,xs,ss,rfl,el,hx,h100,q⟩:=h
 show iB K _ [some _,none,none] _
 unfold iB
 have lxs:=h9 hx
 walk_at "rd"
 refine ⟨by simp [Nf],fun p H1 hp s1 e1=>?_⟩
 walk_at "rd"
 refine oY xs (SqL.of (s1 _ _ el)) (fun i σ H2=>∃ (u:Option V) (ys:List V),σ=[some (.ref l),some (.ref p),u]/\am H H2/\H2 p=some (.lst ys)/\iz H2 ys ((ss.take i).flatMap Sy.subs)) ⟨none,[],rfl,s1,e1,.nil⟩ ?_ ?_ ?_
 ·rintro i σ H2 hi ⟨u,ys,rfl,s2,_⟩
  exact SqL.of (s2 _ _ el)
 ·rintro i x σ H2 hxi ⟨u,ys,rfl,s2,e2,p2⟩
  obtain ⟨s,hs,is⟩:=nY hx hxi
  have lys:=h9 p2
  have:=DD (ss.take i)
  rw [OT] at this
  walk_at "rd"
  refine ⟨.inl ⟨rfl,_,SqL.of e2⟩,?_⟩
  walk_at "rd"
  refine ⟨x,s,rfl,is.keep s2.keep,fun p3 zs H3 s3 hp3 e3 y3 l3=>?_⟩
  walk_at "rd"
  refine HX (s3 _ _ e2) e3 (by rw [Nf]; omega) fun H4 o4 e4=>?_
  have k4:fb H3 H4:=fun b ws e=>(o4 b fun z=>by rw [z,s3 _ _ e2] at e; cases e).trans e
  refine ⟨_,ys++zs,rfl,(s2.trans s3).off hp o4,e4,?_⟩
  rw [ON,hs,RE]
  refine LT ((p2.keep s3.keep).keep k4) ?_
  show Paired _ zs (s.subs++[])
  rw [O6]
  exact y3.keep k4
 ·rintro σ H2 ⟨u,ys,rfl,s2,e2,p2⟩
  rw [lxs,NM] at p2
  walk_at "rd"
  exact q p ys H2 s2 hp e2 p2
theorem BL:∀ ss:List Sy,(ss.map Sy.words).sum=ss.length + ((ss.flatMap Sy.subs).map Sy.words).sum
 | []=>rfl
 | s :: r=>by
  rw [Nt,NG,BL r,s.words_subs,Su,Ny,OE,NK]
  omega
theorem Ks {c h:Nat} {s:Sy} (ok:s.Ok c h):∀ t∈s.subs,t.Ok c h:=by
 cases s with
 | holds w k=>exact fun t ht=>nomatch ht
 | sees k=>exact fun t ht=>nomatch ht
 | not s=>exact fun t ht=>by rw [M8.mp ht]; exact ok
 | and s t=>exact fun u hu=>(Nc.mp hu).elim (fun z=>z ▸ ok.1) fun z=>M8.mp z ▸ ok.2
 | or s t=>exact fun u hu=>(Nc.mp hu).elim (fun z=>z ▸ ok.1) fun z=>M8.mp z ▸ ok.2
 | knows k s=>exact fun t ht=>by rw [M8.mp ht]; exact ok.2
 | all g s=>exact fun t ht=>by rw [M8.mp ht]; exact ok.2
 | common g s=>exact fun t ht=>by rw [M8.mp ht]; exact ok.2
noncomputable def m8 (_:Fg):Sp:=fun vs H Q _=>∃ (c h:Nat) (v:V) (s:Sy),vs=[.int c,.int h,v]/\aU H v s/\s.Ok c h/\s.words<=30/\∀ H',am H H'->Q (.bl true) H'
noncomputable def li (K:Fg):TS:=(ap (bp (tOr (dt (tB (av (iX K) [] E0 (ac (aa 0) ag)))) (dt (tB (av (iX K) [] E0 (ac (aa 1) ag))))) (aJ (tC (.bl false))) aY)
 (ap (aH (tC (.int 0)) (aj 3))
 (ap (aH (d5 (ac (aa 2) ag)) (aj 4))
 (ap (mQ (be (tOp (rI0 fun i j=>.bl (decide (j < i))) (tCB (fc K) (ac (aa 4) ag)) (tC (.int 0)))) (ap (aH (tOp (rI0 fun i j=>.int (i + j)) (aa 3) (tCB (fc K) (ac (aa 4) ag))) (aj 3))
 (ap (bp (tOr (be (tOp (rI0 fun i j=>.bl (decide (j < i))) (aa 3) (tC (.int 30)))) (dt (tB (tCB (Ek K) (ac (bu (ce K (aa 4)) (fun _ _ _ _=>(aj 0)) (fun _ _ _ _=>aV) (fun _ _ _ _=>(av (qq K) [] E0 (ac (aa 1) (ac (aa 2) (ac (aa 0) ag))))) [none,some 0,some 1]) ag))))) (aJ (tC (.bl false))) aY)
 (aH (av (jM K) [] E0 (ac (aa 4) ag)) (aj 4)))))
 (aJ (tC (.bl true)))))))
theorem BM (h:m8 K vs H Q E):li K { nx:=fun _ H'=>Q .non H',rt:=Q } (start ["cards","hands","thing","words","level"] vs) H:=by
 obtain ⟨c,h,v,s,rfl,hs,ok,hw,q⟩:=h
 show li K _ [some _,some _,some _,none,none] _
 unfold li
 walk_at "rd"
 refine ⟨_,rfl,fN.int _,?_⟩
 walk_at "rd"
 refine Ej ?_
 walk_at "rd"
 refine ⟨_,rfl,fN.int _,?_⟩
 walk_at "rd"
 refine Ej ?_
 walk_at "rd"
 refine ⟨by simp [Nf],fun p H1 hp s1 e1=>?_⟩
 refine jE ?_
 dsimp only [Pc,Pd]
 refine bA ?_
 refine AE (fun m σ H2=>∃ (W:Nat) (l:Addr) (xs:List V) (ss:List Sy),σ=[some (.int c),some (.int h),some v,some (.int W),some (.ref l)]/\am H H2/\H2 l=some (.lst xs)/\iz H2 xs ss/\(∀ t∈ss,t.Ok c h)/\m=(ss.map Sy.words).sum/\W + m<=30) s.words
  ⟨0,p,[v],[s],rfl,s1,e1,.cons (hs.keep s1.keep) .nil,fun t ht=>by rw [M8.mp ht]; exact ok,by simp,by omega⟩ ?_
 rintro m σ H2 ⟨W,l,xs,ss,rfl,s2,e2,hx,hok,rfl,hW⟩
 have lxs:=h9 hx
 have e:=BL ss
 walk_at "rd"
 refine dC (fun c0=>?_) (fun c0=>?_)
 ·refine AD ?_
  walk_at "rd"
  refine aB (by omega) ?_
  walk_at "rd"
  refine cF xs (SqL.of e2) (by omega) (fun i acc _=>acc=(NT i true).map V.bl) (fun _ _=>rfl) ?_ ?_
  ·rintro p' hp' C s' H' fp i x acc H3 hxi ⟨s3,e3,l3,rfl⟩
   obtain ⟨t,ht,it⟩:=nY hx hxi
   walk_at "rd"
   refine ⟨c,h,x,t,rfl,it.keep s3.keep,hok t (Ng ht),fun H4 s4=>?_⟩
   exact bf.put hp' (fun _ _ _ _ r _=>r) (s3.trans s4) (s4 _ _ e3) l3 (by rw [QF,Ny]; rfl)
  ·rintro p' acc H3 hp' s3 e3 rfl
   walk_at "rd"
   refine ⟨p',_,rfl,SqL.of e3,?_⟩
   rw [show ∀ n:Nat,(NT n true).all id=true from fun n=>by simp]
   walk_at "rd"
   refine ⟨l,xs,ss,rfl,s3 _ _ e2,hx.keep s3.keep,by omega,fun p4 ys H4 s4 hp4 e4 y4=>?_⟩
   walk_at "rd"
   refine ⟨_,by omega,W + xs.length,p4,ys,_,rfl,(s2.trans s3).trans s4,e4,y4,fun t ht=>?_,rfl,by omega⟩
   obtain ⟨u,hu,ht⟩:=Vz.mp ht
   exact Ks (hok u hu) t ht
 ·walk_at "rd"
  exact q _ s2
end
section
variable {K:Fg} {vs:List V} {H:Hp} {Q:VK} {E:XK}
noncomputable def lj (K:Fg):TS:=(ap (aH (tOp (rI (fun _ j=>0 < j) fun i j=>.int (i % j)) (av (bz K) [] E0 (ac (aa 0) (ac (aa 1) ag))) (tC (.int 8))) (aj 3))
 (ap (bp (be (tOp rEq (tOp (rI (fun _ j=>0 < j) fun i j=>.int (i % j)) (tOp (rI gi fun i j=>.int (i / j)) (av (bz K) [] E0 (ac (aa 0) (ac (aa 1) ag))) (tC (.int 8))) (tC (.int 16))) (tC (.int 5)))) (aH (tOp (rI0 fun i j=>.int (i + j)) (tC (.int 8)) (tOp (rI (fun _ j=>0 < j) fun i j=>.int (i % j)) (tOp (rI gi fun i j=>.int (i / j)) (av (bz K) [] E0 (ac (aa 0) (ac (aa 1) ag))) (tC (.int 128))) (tC (.int 5)))) (aj 3)) aY)
 (ap (aH (d5 ag) (aj 4))
 (ap (cV (gh (ac (tOp (rI0 fun i j=>.int (i + j)) (tC (.int 1)) (tOp (rI (fun _ j=>0 < j) fun i j=>.int (i % j)) (av (bz K) [] E0 (ac (aa 0) (ac (tOp (rI0 fun i j=>.int (i + j)) (aa 1) (tC (.int 1))) ag))) (tC (.int 5)))) ag)) (aj 5) (dI (tBM K "list" ip (aa 4) (ac (tOp (rI (fun _ j=>0 < j) fun i j=>.int (i % j)) (av (bz K) [] E0 (ac (aa 0) (ac (tOp (rI0 fun i j=>.int (i + j)) (tOp (rI0 fun i j=>.int (i + j)) (aa 1) (tC (.int 2))) (aa 5)) ag))) (tOp (rI0 fun i j=>.int (i + j)) (tCB El (ac (tC (.int 4)) (ac (tOp (rI0 fun i j=>.int (i - j)) (aa 3) (tCB (vh K) (ac (aa 4) ag))) ag))) (tC (.int 1)))) ag))))
 (ap (mQ (be (tOp (rI0 fun i j=>.bl (decide (j < i))) (av (i5 K) [] E0 (ac (aa 3) (ac (aa 4) ag))) (aa 2))) (ap (bp (be (tOp (rI0 fun i j=>.bl (decide (j < i))) (tCB (yn K) (ac (aa 4) ag)) (tOp (rI0 fun i j=>.int (i - j)) (aa 3) (tCB (vh K) (ac (aa 4) ag))))) (aH (tOp (rI0 fun i j=>.int (i - j)) (tCB (yn K) (ac (aa 4) ag)) (tC (.int 1))) (kj (aa 4) (tBM K "list" Bk (aa 4) (ac (tCB (yn K) (ac (aa 4) ag)) ag)) kS)) aY)
 (aH (tOp (rI0 fun i j=>.int (i - j)) (aa 3) (tC (.int 1))) (aj 3))))
 (aJ (dN (ac (aa 3) (ac (aa 4) ag)))))))))
theorem BN (h:mY K vs H Q E):lj K { nx:=fun _ H'=>Q .non H',rt:=Q } (start ["_law_script","_law_at","_law_most","_law_cards","_law_sizes","_law_k"] vs) H:=by
 obtain ⟨a,ns,at_,most,rfl,hSc,ha0,ha1,hm,g⟩:=h
 show lj K _ [some _,some _,some _,none,none,none] _
 unfold lj
 refine bA ?_
 walk_at "rs"
 refine ⟨a,ns,at_,rfl,hSc,ha0,by omega,?_⟩
 walk_at "rs"
 refine ko fun NX hNX=>?_
 have key:∀ c:Nat,c<=12->NX [some (.ref a),some (.int at_),some (.int most),some (.int c),none,none] H:=by
  intro c hc
  refine hNX _ _ ?_
  refine bA ?_
  walk_at "rs"
  refine ⟨by simp [Nf],fun q H1 hq s1 e1=>?_⟩
  walk_at "rs"
  refine ko fun NX hNX=>?_
  have hSc1:=hSc.same s1
  walk_at "rs"
  refine ⟨a,ns,at_ + 1,rfl,hSc1,by omega,by omega,?_⟩
  walk_at "rs"
  refine kt (1 + cz ns (at_ + 1) % 5).toNat rfl (by omega) (by omega) (fun i σ H2=>∃ (ss:List Nat) (st:Option V),σ=[some (.ref a),some (.int at_),some (.int most),some (.int c),some (.ref q),st]/\am H H2/\H2 q=some (.lst (au ss))/\ss.length=i/\ss.sum<=c) ⟨[],none,rfl,s1,e1,rfl,N9 _⟩ ?_ ?_
  ·rintro i σ H2 hi ⟨ss,st,rfl,s2,e2,hl,hs⟩
   have hSc2:=hSc.same s2
   walk_at "rd"
   refine ⟨qa e2,?_⟩
   walk_at "rd"
   refine ⟨a,ns,at_ + 2 + (i:Int),rfl,hSc2,by omega,by omega,?_⟩
   walk_at "rd"
   refine En (ns:=ss.map fun (s:Nat)=>((s:Nat):Int)) (by rw [<-dm]; exact SqL.of e2) ?_
   walk_at "rd"
   rw [jl]
   obtain ⟨lst,hlst,hlst2⟩:∃ l:Nat,(if (c:Int) - ((ss.sum:Nat):Int) < 4 then (c:Int) - ((ss.sum:Nat):Int) else 4)=(l:Int)/\l<=c - ss.sum:=by
    by_cases h:(c:Int) - ((ss.sum:Nat):Int) < 4
    ·exact ⟨c - ss.sum,by rw [if_pos h]; omega,M9 _⟩
    ·exact ⟨4,by rw [if_neg h]; rfl,by omega⟩
   rw [hlst]
   walk_at "rd"
   obtain ⟨z,hz,hz2⟩:∃ z:Nat,cz ns (at_ + 2 + (i:Int)) % ((lst:Int) + 1)=(z:Int)/\z<=lst:=by
    have m1:=PX (cz ns (at_ + 2 + (i:Int))) (b:=(lst:Int) + 1) (by omega)
    have m2:=Pu (cz ns (at_ + 2 + (i:Int))) (b:=(lst:Int) + 1) (by omega)
    exact ⟨(cz ns (at_ + 2 + (i:Int)) % ((lst:Int) + 1)).toNat,by omega,by omega⟩
   rw [hz]
   refine kr e2 (by rw [aS,Nf]; omega) fun H4 o4 e4=>?_
   rw [h8] at e4
   refine ⟨ss++[z],_,rfl,s2.off hq o4,e4,by rw [Nx,hl]; rfl,?_⟩
   rw [OE,NG,QC]
   omega
  ·rintro σ H2 ⟨ss,st,rfl,s2,e2,hl,hs⟩
   exact hNX _ _ (Gw s2 hq e2 (by omega) (by omega) hs hc hm g)
 walk_at "rs"
 refine ⟨a,ns,at_,rfl,hSc,ha0,by omega,?_⟩
 walk_at "rs"
 refine dC (fun hb=>?_) (fun hb=>?_)
 ·walk_at "rs"
  refine ⟨a,ns,at_,rfl,hSc,ha0,by omega,?_⟩
  walk_at "rs"
  have:=key (8 + cz ns at_ / 128 % 5).toNat (by omega)
  rw [show (((8 + cz ns at_ / 128 % 5).toNat:Nat):Int)=8 + cz ns at_ / 128 % 5 by omega] at this
  exact this
 ·walk_at "rs"
  have:=key (cz ns at_ % 8).toNat (by omega)
  rw [show (((cz ns at_ % 8).toNat:Nat):Int)=cz ns at_ % 8 by omega] at this
  exact this
end
theorem bf.putW {H H4:Hp} {p:Addr} {R:Nat->List V->Hp->Prop} {i:Nat} {acc:List V} {y:V} (hp:H p=none) (s:am H H4) (e:H4 p=some (.lst acc)) (l:acc.length<=i) (r:∀ H6,Off p H4 H6->R (i + 1) (acc++[y]) H6):
  H4 p=some (.lst acc)/\bf H p R (i + 1) (acc++[y]) (upd H4 p (.lst (acc++[y]))):=
 ⟨e,s.upd hp _,ay,by rw [Nx]; exact T7 l 1,r _ iq⟩
section
variable {g:CF TG} {tt:CF TT} {te:CF TE} {σ₀:St} {Q:VK} {H:Hp} {K:Fg}
theorem GL {j:Int} (n:Nat) (hn:j.toNat=n) (hj:j<=1000000) (hj0:-1000000<=j) (R:Addr->Nat->List V->Hp->Prop) (h0:∀ p H',am H H'->R p 0 [] H')
  (hs:∀ p,H p=none->∀ C s' H' fp,∀ i acc H2,i < n->bf H p (R p) i acc H2->g C s' H' fp (.int i) σ₀ H2 fun σ2 H3=>tt C s' H' fp σ2 H3 fun b H4=>if b=true then te C s' H' fp σ2 H4 fun y H5=>H5 p=some (.lst acc)/\bf H p (R p) (i + 1) (acc++[y]) (upd H5 p (.lst (acc++[y]))) else bf H p (R p) (i + 1) acc H4)
  (hd:∀ p acc H2,H p=none->am H H2->H2 p=some (.lst acc)->R p n acc H2->Q (.ref p) H2):
  ∃ j':Int,[V.int j]=[.int j']/\-(2 ^ 62)<=j'/\j' < 2 ^ 62/\∀ p,H p=none->∃ W:Nat->Nat->List V->Hp->Prop,(∃ m,W 0 m [] (upd H p (.lst [])))/\∀ C s' H' fp,bO (Itr 0 j'.toNat) (g C s' H' fp) (tt C s' H' fp) (te C s' H' fp) σ₀ p Q W:=by
 refine ⟨j,rfl,by omega,by omega,fun p hp=>?_⟩
 subst hn
 exact p6 (lo:=0) (bf H p (R p)) ⟨bg hp _,ay,M9 _,h0 _ _ (bg hp _)⟩ (fun i acc H2 _ c=>⟨c.2.1,c.2.2.1⟩) (by rw [Nf]; omega) (fun C s' H' fp i acc H2 hi c=>by rw [SV]; exact hs p hp C s' H' fp i acc H2 hi c) fun acc H2 c=>hd p acc H2 hp c.1 c.2.1 c.2.2.2
end
section
open PySem.Spec
theorem ca.units64 {k:Nat} {A:Around} (r:ca k A):A.units + 64 < cLine:=by have:=r.un; omega
section
variable {X:Cx}
theorem OpR.weak {f:Value->Value->Sem Value} {r r':R2} (h:OpR X f r) (w:∀ x y H Q,r' x y H Q->r x y H Q):OpR X f r':=fun pins s σ H x y v u Q I rx ry q=>h pins s σ H x y v u Q I rx ry (w x y H Q q)
theorem cU.weak {f:Value} {r r':List V->Hp->VK->Prop} (h:cU X f r) (w:∀ xs H Q,r' xs H Q->r xs H Q):cU X f r':=fun pins s σ H xs us Q I rx q=>h pins s σ H xs us Q I rx (w xs H Q q)
theorem sj:OpR X (P3 .Add) vi:=F1.weak fun _ _ _ _ ⟨l,b,xs,zs,e1,e2,h1,h2,hz,q⟩=>⟨l,b,xs,zs,e1,e2,h1,h2,hz,q.upd⟩
theorem GM:OpR X (P3 .Mult) HV:=Lc.weak fun _ _ _ _ ⟨l,k,xs,e1,e2,h1,h2,h3,hz,q⟩=>⟨l,k,xs,e1,e2,h1,h2,h3,hz,q.upd⟩
theorem pi:cU X (.type "list") (mT X.K):=Bc.weak fun _ _ _ ⟨p,ys,e,h,q⟩=>⟨p,ys,e,h,q.upd⟩
theorem vy:cU X (.type "tuple") (oX X.K):=qK.weak fun _ _ _ ⟨p,ys,e,h,q⟩=>⟨p,ys,e,.inl ⟨h,q.upd⟩⟩
end
section
variable {X:Cx} {es:List Expr} {t:TA} {pos:Pos}
theorem ck {x1} (h:PA X es t):PE X (.Tuple es x1 pos) (dN t):=by
 intro pins s σ H Q I hq
 refine Um (thn (h pos pins s σ H _ I hq) fun us s1 ⟨xs,H1,I1,r,z,q⟩=>⟨by rw [<-r.length]; exact z,?_⟩)
 have hf:H1 s1.heap.objs.size=none:=I1.hok.fresh (M9 _)
 refine ⟨.ref s1.heap.objs.size,upd H1 s1.heap.objs.size (.tup xs),I1.laid (t':=s1.toks) (fun b u e=>M4 _ e) (M9 _) ?_,rfl,q.upd _ hf⟩
 exact ⟨z,us,r,gz.new _ _⟩
theorem cy (h:PA X es t):PE X (.List es pos) (d5 t):=by
 intro pins s σ H Q I hq
 refine UD (thn (h pos pins s σ H _ I hq) fun us s1 ⟨xs,H1,I1,r,z,q⟩=>⟨by rw [<-r.length]; exact z,?_⟩)
 have hf:H1 s1.heap.objs.size=none:=I1.hok.fresh (M9 _)
 refine ⟨.ref s1.heap.objs.size,upd H1 s1.heap.objs.size (.lst xs),I1.laid (t':=s1.toks) (fun b u e=>M4 _ e) (M9 _) ?_,rfl,q.upd _ hf⟩
 exact ⟨z,us,0,r,Nj _ rfl⟩
end
section
variable {X:Cx} {es:List Expr} {te:TE} {t:TA}
theorem ar {v:Const} {j:Nat} {p:Pos} (ha:PE X (.Constant v j p) te) (hr:PA X es t):PA X (.Constant v j p :: es) (ac te t):=gL ha hr rfl
theorem ad {x:Str} {p:Pos} (ha:PE X (.Name x p) te) (hr:PA X es t):PA X (.Name x p :: es) (ac te t):=gL ha hr rfl
theorem aX {a b:Expr} {o:Operator} {p:Pos} (ha:PE X (.BinOp a o b p) te) (hr:PA X es t):PA X (.BinOp a o b p :: es) (ac te t):=gL ha hr rfl
theorem aZ {f:Expr} {as:List Expr} {ks:List Keyword} {p:Pos} (ha:PE X (.Call f as ks p) te) (hr:PA X es t):PA X (.Call f as ks p :: es) (ac te t):=gL ha hr rfl
theorem bF {as:List Expr} {k:Nat} {p:Pos} (ha:PE X (.Tuple as k p) te) (hr:PA X es t):PA X (.Tuple as k p :: es) (ac te t):=gL ha hr rfl
theorem Iz {as:List Expr} {p:Pos} (ha:PE X (.List as p) te) (hr:PA X es t):PA X (.List as p :: es) (ac te t):=gL ha hr rfl
theorem aE {a b:Expr} {p:Pos} (ha:PE X (.Subscript a b p) te) (hr:PA X es t):PA X (.Subscript a b p :: es) (ac te t):=gL ha hr rfl
theorem uR {a:Expr} {os:List CmpOp} {bs:List Expr} {p:Pos} (ha:PE X (.Compare a os bs p) te) (hr:PA X es t):PA X (.Compare a os bs p :: es) (ac te t):=gL ha hr rfl
theorem bE {e:Expr} (ha:PE X e te) (hr:PA X es t) (hs:NA (e :: es) X.env=(false,eval e X.env) :: NA es X.env:=by rfl):PA X (e :: es) (ac te t):=gL ha hr hs
structure ah (N:List Str) (sc:Scope) (i:Nat) (x:Str):Prop where
 n:N[i]?=some x
 v:Vis sc x
 d:(x == ("__debug__":Str))=false
 c:(x == ("__classdict__":Str))=false
theorem pvQ {N:List Str} {sc:Scope} {i:Nat} {x:Str} {pos:Pos} (h:ah N sc i x) (hN:X.N=N) (hS:X.env.scope=sc):PE X (.Name x pos) (aa i):=by
 subst hN hS
 exact FM h.n h.v h.d h.c
end
end
section
open PySem.Spec
theorem BO {X:Cx}:SlR X (Bn X.K):=fun pins s σ H x v vl vu lo hi sl Q I rx hs pl pu ⟨a,xs,e,h,n,q⟩=>La pins s σ H x v vl vu lo hi sl Q I rx hs pl pu ⟨a,xs,e,h,n,q.upd⟩
noncomputable def wO (P:Program) (w:World) (K:Fg) (a:Addr) (kvs:List (Str×V)):Prop:=
 (a == O4)=false/\∃ (o:Obj) (es:Array Uz) (ep:Nat) (vs:List (Key×Value)),K.lookup a=some o/\o.ExactDict/\o.data=.dict es ep/\KeysOf (jv P w) es/\Pairs (jv P w) es.toList vs/\(vs.map (·.1)).Nodup/\
  Paired (fun (p:Str×V) (q:Key×Value)=>q.1=.inr p.1/\aK p.2 q.2) kvs vs
theorem lT {k:Str} {v:V}:∀ {kvs:List (Str×V)} {vs:List (Key×Value)},Paired (fun (p:Str×V) (q:Key×Value)=>q.1=.inr p.1/\aK p.2 q.2) kvs vs->kvs.lookup k=some v->∃ u,valueAt vs (.inr k)=some u/\aK v u
 | _,_,.nil,h=>by cases h
 | _,_,.cons (a:=p) (b:=q) r t,h=>by
  obtain ⟨x,y⟩:=p
  obtain ⟨kq,u⟩:=q
  obtain ⟨r1,r2⟩:=r
  simp only at r1 r2
  subst r1
  rw [Oo] at h
  unfold valueAt
  rw [NO]
  by_cases e:k=x
  ·subst e
   rw [beq_self_eq_true] at h
   cases h
   rw [show decide ((O0 k:Key)=O0 k)=true from decide_eq_true rfl]
   exact ⟨u,rfl,r2⟩
  ·rw [show (k == x)=false from beq_eq_false_iff_ne.mpr e] at h
   rw [show decide ((O0 x:Key)=O0 k)=false from decide_eq_false fun z=>e (QI z).symm]
   exact lT t h
section
variable {X:Cx} {o i:Expr} {pos:Pos} {td ty:TE} {a:Addr} {kvs:List (Str×V)}
theorem wO.of {pins:List (Addr×Obj)} {σ:St} {H:Hp} {s:Shared} (D:wO X.prog X.w X.K a kvs) (I:Inv X pins σ H s):∃ vs,s.heap.DictOf (jv X.prog X.w) a vs/\Paired (fun (p:Str×V) (q:Key×Value)=>q.1=.inr p.1/\aK p.2 q.2) kvs vs:=by
 obtain ⟨_,o,es,ep,vs,lk,ex,hd,hk,hp,nd,rel⟩:=D
 exact ⟨vs,⟨o,es,ep,I.kIn a o lk,ex,hd,hk,hp,nd⟩,rel⟩
theorem GN (D:wO X.prog X.w X.K a kvs) (ho:PE X o td) (hi:PE X i ty) (hs:HZ i):PE X (.Subscript o i pos) (tOp (Ep kvs a) td ty):=by
 intro pins s σ H Q I h
 refine Dr SB.lookup hs (thn (ho pins s σ H _ I h) fun u s1 ⟨x,H1,I1,rx,q1⟩=>thn (hi pins s1 σ H1 _ I1 q1) fun iv s2 ⟨y,H2,I2,ry,ex,k,v,ey,el,q2⟩=>?_)
 subst ex ey
 obtain rfl:u=NI a:=rx
 obtain ⟨vs,dd,rel⟩:=D.of I2
 obtain ⟨w',hw,rw'⟩:=lT rel el
 exact ⟨dd.typeIs,VB (JE (k:=.inr k) ry) dd.mapOf hw ⟨v,H2,I2.tok _,rw',q2⟩⟩
theorem uS {k:Str}:∀ {kvs:List (Str×V)} {vs:List (Key×Value)},Paired (fun (p:Str×V) (q:Key×Value)=>q.1=.inr p.1/\aK p.2 q.2) kvs vs->kvs.lookup k=none->valueAt vs (.inr k)=none
 | _,_,.nil,_=>rfl
 | _,_,.cons (a:=p) (b:=q) r t,h=>by
  obtain ⟨x,y⟩:=p
  obtain ⟨kq,u⟩:=q
  obtain ⟨r1,r2⟩:=r
  simp only at r1 r2
  subst r1
  rw [Oo] at h
  unfold valueAt
  rw [NO]
  by_cases e:k=x
  ·subst e
   rw [beq_self_eq_true] at h
   cases h
  ·rw [show (k == x)=false from beq_eq_false_iff_ne.mpr e] at h
   rw [show decide ((O0 x:Key)=O0 k)=false from decide_eq_false fun z=>e (QI z).symm]
   exact uS t h
theorem BP (D:wO X.prog X.w X.K a kvs):OpR X (O2 .NotIn) (Bo kvs a true):=by
 intro pins s σ H x y v u Q I rx ry h
 obtain ⟨rfl,k,rfl,q⟩:=h
 obtain rfl:u=NI a:=ry
 obtain ⟨vs,dd,rel⟩:=D.of I
 refine wpAny_notIn_of (JE (k:=.inr k) rx) D.1 dd.mapOf ?_
 refine ⟨.bl (!(kvs.lookup k).isSome),H,I.tok _,?_,q⟩
 cases e:kvs.lookup k with
 | none=>rw [uS rel e]; rfl
 | some v'=>
  obtain ⟨w',hw,_⟩:=lT rel e
  rw [hw]
  rfl
end
end
section
open PySem.Spec
structure IB (P:Program) (w:World) (K:Fg) (mg:Str->Option Value) (G:Glo):Prop where
 ok:wE K G
 mf:mg "FORMS"=some (.ref G.forms)
 df:wO P w K G.forms G.kvs
theorem jx {K:Fg} {a:Addr} {od:Option Addr} {its:Array Value} {n:Nat} {sl:Array (Option Value)} (l:K.lookup a=some ⟨.type "tuple",od,.seq its n,sl⟩) (xs:List V) (hz:its.size<=Nh) (r:aL xs its.toList):lQ K a xs:=⟨_,its,n,l,rfl,rfl,hz,r⟩
theorem Kt {P:Program} {w:World} {K:Fg} {mg:Str->Option Value} {aF aC f1 f2 f3 f4 f5 f6 f7 f8:Addr} {k1 k2 k3 k4 k5 k6 k7 k8 u1 u2 u3 u4 u5 u6 u7 u8 u9 ua ub uc ud ue:Tok} {ep n1 n2 n3 n4 n5 n6 n7 n8:Nat} {o1 o2 o3 o4 o5 o6 o7 o8:Option Addr} {s1 s2 s3 s4 s5 s6 s7 s8:Array (Option Value)}
  (nF:(aF == O4)=false) (mf:mg "FORMS"=some (.ref aF))
  (lF:K.lookup aF=some ⟨.type "dict",none,.dict #[⟨Of w.params "holds",.str "holds" k1,.ref f1⟩,⟨Of w.params "not",.str "not" k2,.ref f2⟩,⟨Of w.params "and",.str "and" k3,.ref f3⟩,⟨Of w.params "or",.str "or" k4,.ref f4⟩,
   ⟨Of w.params "knows",.str "knows" k5,.ref f5⟩,⟨Of w.params "all",.str "all" k6,.ref f6⟩,⟨Of w.params "common",.str "common" k7,.ref f7⟩,⟨Of w.params "sees",.str "sees" k8,.ref f8⟩] ep,#[]⟩)
  (l1:K.lookup f1=some ⟨.type "tuple",o1,.seq #[.str "holder" u1,.str "card" u2] n1,s1⟩) (l2:K.lookup f2=some ⟨.type "tuple",o2,.seq #[.str "saying" u3] n2,s2⟩) (l3:K.lookup f3=some ⟨.type "tuple",o3,.seq #[.str "saying" u4,.str "saying" u5] n3,s3⟩) (l4:K.lookup f4=some ⟨.type "tuple",o4,.seq #[.str "saying" u6,.str "saying" u7] n4,s4⟩)
  (l5:K.lookup f5=some ⟨.type "tuple",o5,.seq #[.str "hand" u8,.str "saying" u9] n5,s5⟩) (l6:K.lookup f6=some ⟨.type "tuple",o6,.seq #[.str "hands" ua,.str "saying" ub] n6,s6⟩) (l7:K.lookup f7=some ⟨.type "tuple",o7,.seq #[.str "hands" uc,.str "saying" ud] n7,s7⟩) (l8:K.lookup f8=some ⟨.type "tuple",o8,.seq #[.str "hand" ue] n8,s8⟩)
  : IB P w K mg ⟨aF,aC,f1,f2,f3,f4,f5,f6,f7,f8⟩ where
 mf:=mf
 ok:=⟨jx l1 _ (by show 2<=Nh; decide) (.cons ⟨_,rfl⟩ (.cons ⟨_,rfl⟩ .nil)),jx l2 _ (by show 1<=Nh; decide) (.cons ⟨_,rfl⟩ .nil),jx l3 _ (by show 2<=Nh; decide) (.cons ⟨_,rfl⟩ (.cons ⟨_,rfl⟩ .nil)),jx l4 _ (by show 2<=Nh; decide) (.cons ⟨_,rfl⟩ (.cons ⟨_,rfl⟩ .nil)),
  jx l5 _ (by show 2<=Nh; decide) (.cons ⟨_,rfl⟩ (.cons ⟨_,rfl⟩ .nil)),jx l6 _ (by show 2<=Nh; decide) (.cons ⟨_,rfl⟩ (.cons ⟨_,rfl⟩ .nil)),jx l7 _ (by show 2<=Nh; decide) (.cons ⟨_,rfl⟩ (.cons ⟨_,rfl⟩ .nil)),jx l8 _ (by show 1<=Nh; decide) (.cons ⟨_,rfl⟩ .nil)⟩
 df:=by
  refine ⟨nF,_,_,_,[(.inr "holds",.ref f1),(.inr "not",.ref f2),(.inr "and",.ref f3),(.inr "or",.ref f4),(.inr "knows",.ref f5),(.inr "all",.ref f6),(.inr "common",.ref f7),(.inr "sees",.ref f8)],lF,⟨rfl,rfl,rfl⟩,rfl,?_,?_,?_,?_⟩
  ·intro e he
   simp only [List.mem_toArray,Array.mem_def,Nc,Ob,or_false] at he
   rcases he with rfl | rfl | rfl | rfl | rfl | rfl | rfl | rfl
   ·exact ⟨.inr "holds",bB P w _ _,rfl⟩
   ·exact ⟨.inr "not",bB P w _ _,rfl⟩
   ·exact ⟨.inr "and",bB P w _ _,rfl⟩
   ·exact ⟨.inr "or",bB P w _ _,rfl⟩
   ·exact ⟨.inr "knows",bB P w _ _,rfl⟩
   ·exact ⟨.inr "all",bB P w _ _,rfl⟩
   ·exact ⟨.inr "common",bB P w _ _,rfl⟩
   ·exact ⟨.inr "sees",bB P w _ _,rfl⟩
  ·exact .cons (bB P w _ _) rfl (.cons (bB P w _ _) rfl (.cons (bB P w _ _) rfl (.cons (bB P w _ _) rfl (.cons (bB P w _ _) rfl (.cons (bB P w _ _) rfl (.cons (bB P w _ _) rfl (.cons (bB P w _ _) rfl .nil)))))))
  ·show ([.inr "holds",.inr "not",.inr "and",.inr "or",.inr "knows",.inr "all",.inr "common",.inr "sees"]:List Key).Nodup
   decide +kernel
  ·exact .cons ⟨rfl,rfl⟩ (.cons ⟨rfl,rfl⟩ (.cons ⟨rfl,rfl⟩ (.cons ⟨rfl,rfl⟩ (.cons ⟨rfl,rfl⟩ (.cons ⟨rfl,rfl⟩ (.cons ⟨rfl,rfl⟩ (.cons ⟨rfl,rfl⟩ .nil)))))))
end
section
open PySem.Spec
noncomputable def CX1 (P:Program) (w:World):CXT:=fun outer H s E e s'=>
 ∃ (a C:Addr) (a0:Value) (H':Hp) (B:Heap),e=.ref a/\s'.os=s.os/\AllBare s'.gens/\Un (frs outer) [] H H' s.heap s'.heap/\HOk P w H' s'.heap/\
  Heap.FlyingW B outer a (.ref C) a0 s'.heap/\(∀ b o,s.heap.get? b=some o->H b=none->b∉frs outer->B.get? b=some o)/\
  (∀ b o,s.heap.get? b=some o->b∉frs outer->∃ o',B.get? b=some o')/\(∀ b u o,H' b=some u->s'.heap.get? b=some o->B.get? b=some o)/\H' a=none/\E (.ref C) (some a) H'
theorem bQ.there {P:Program} {w:World} {H:Hp} {h:Heap} {a:Addr} {o:HO} (x:bQ P w H h a o):∃ ob,h.get? a=some ob:=by
 cases o with
 | lst xs=>obtain ⟨_,_,_,_,e⟩:=x; exact ⟨_,e⟩
 | tup xs=>obtain ⟨_,_,_,_,e,_⟩:=x; exact ⟨_,e⟩
 | dK kvs=>obtain ⟨_,_,_,_,o,_,_,e,_⟩:=x; exact ⟨_,e⟩
 | dT kvs=>obtain ⟨_,_,_,_,o,_,_,e,_⟩:=x; exact ⟨_,e⟩
 | set S n=>obtain ⟨o,_,_,_,e,_⟩:=x; exact ⟨_,e⟩
 | ins C dx fs=>obtain ⟨_,_,_,e,_⟩:=x; exact ⟨_,e⟩
 | own y=>exact x
 | xd fs=>obtain ⟨_,⟨_,_,_,e,_⟩,_⟩:=x; exact ⟨_,e⟩
 | rng lo hi=>obtain ⟨_,_,_,e⟩:=x; exact ⟨_,e⟩
 | frz ob u=>obtain ⟨e,_⟩:=x; exact ⟨_,e⟩
 | tbl ps=>exact ⟨_,x⟩
 | met f y=>exact ⟨_,x⟩
 | ext φ=>obtain ⟨_,e,_⟩:=x; exact e
section
variable {P:Program} {w:World} {K:Fg} {mg:Str->Option Value} {base:Heap} {N:List Str} {qual:Str} {scope:Scope} {f:Addr} {cd:Value} {A:Around} {outer:List Env} {s:Shared} {H:Hp} {E:XK}
end
end
section
open PySem.Spec
section
variable {X:Cx} {pins:List (Addr×Obj)} {σ:St} {H:Hp} {s:Shared} {B h':Heap}
end
section
variable {X:Cx} {pins pn pins':List (Addr×Obj)} {σ:St} {H:Hp} {s:Shared} {B:Heap} {E:Value->Shared->Prop} {a:Addr}
end
end
section
open PySem.Spec PySem.W
section
variable {prog:Program} {w:World} {A:Around} {E:Value->Shared->Prop} {h:Heap} {g:Array TX} {d:Drawn} {t:Nat} {os:OsState} {a:Addr} {o:Obj} {C:Addr} {K:Frag}
end
end
section
open PySem.Spec PySem.W
noncomputable def FnX (P:Program) (w:World) (K:Frag) (mg:Str->Option Value) (base:Heap) (k:Nat) (x:Str) (ps:List Str) (sp:Sp):Prop:=
 ∃ f fd,dz P w K mg base (CX1 P w) k f fd ps sp/\mg x=some (.ref f)/\keepIn K (.ref f)=true/\fM K fd ps []
theorem FnX.mono {P:Program} {w:World} {K:Frag} {mg:Str->Option Value} {base:Heap} {j k:Nat} {x:Str} {ps:List Str} {sp:Sp} (F:FnX P w K mg base j x ps sp) (h:j<=k):FnX P w K mg base k x ps sp:=by
 obtain ⟨f,fd,ok,r⟩:=F
 exact ⟨f,fd,ok.mono h,r⟩
end
section
open PySem.Spec PySem.W
section
variable {P:Program} {w:World} {K:Frag} {mg:Str->Option Value} {base:Heap} {k:Nat} {f:Addr} {fd:Nr} {ps:List Str}
theorem dz.or {CX:CXT} {sp sp':Sp} (F:dz P w K mg base CX k f fd ps sp) (G:dz P w K mg base CX k f fd ps sp'):dz P w K mg base CX k f fd ps (fun vs H Q E=>sp vs H Q E\/sp' vs H Q E):=
 ⟨fun vs H Q E h=>h.elim (F.len vs H Q E) (G.len vs H Q E),fun A outer s H args us vs Q E hr he hb hv hs=>hs.elim (F.run A outer s H args us vs Q E hr he hb hv) (G.run A outer s H args us vs Q E hr he hb hv)⟩
end
end
section
open PySem.Spec PySem.W
section
variable {P:Program} {w:World} {K:Frag} {mg:Str->Option Value} {base:Heap}
noncomputable def FnM (P:Program) (w:World) (K:Frag) (mg:Str->Option Value) (base:Heap) (k:Nat) (C:Addr) (m:Str) (ps:List Str) (sp:Sp):Prop:=
 ∃ f fd,dz P w K mg base CX0 k f fd ps sp/\A7 K C m f/\fM K fd ps []
theorem FnM.mono {j k:Nat} {C:Addr} {m:Str} {ps:List Str} {sp:Sp} (F:FnM P w K mg base j C m ps sp) (h:j<=k):FnM P w K mg base k C m ps sp:=by
 obtain ⟨f,fd,ok,r⟩:=F
 exact ⟨f,fd,ok.mono h,r⟩
structure jp (K:Frag) (C:Addr) (m qual:Str) (st:Stmt) (ps:List Str) (f:Addr) (fd:Nr):Prop where
 fn:Fun K m qual st f fd
 mt:A7 K C m f
 b:fM K fd ps []
theorem jp.ok {C:Addr} {m qual:Str} {st:Stmt} {N ps:List Str} {f:Addr} {fd:Nr} {k:Nat} {sp:Sp} (D:jp K C m qual st ps f fd) (S:aA N ps (ab st)) (len:∀ vs H Q E,sp vs H Q E->vs.length=ps.length)
  (hbody:∀ (cdv:Value) (A:Around) (outer:List Env) (s:Shared) (H:Hp) (vs:List V) (Q:VK) (E:XK),ca k (A.deeper (envOfC qual (ab st) s.heap.objs.size f cdv))->sp vs H Q E->
   ∃ t,PSs (pW CX0 P w K mg base N qual (ab st) f cdv A outer s H E).nox (fP st) t/\t { nx:=fun _ H'=>Q .non H',rt:=Q } (start N vs) H):FnM P w K mg base (k + 1) C m ps sp:=
 ⟨f,fd,D.fn.ok S len hbody,D.mt,D.b⟩
noncomputable def FnI (P:Program) (w:World) (K:Frag) (mg:Str->Option Value) (base:Heap) (k:Nat) (C:Addr) (ps:List Str) (sp:Sp):Prop:=
 ∃ f fd,dz P w K mg base CX0 k f fd ps sp/\Mk K C f/\fM K fd ps []
structure BQ (K:Frag) (C:Addr) (qual:Str) (st:Stmt) (ps:List Str) (f:Addr) (fd:Nr):Prop where
 fn:Fun K "__init__" qual st f fd
 made:Mk K C f
 b:fM K fd ps []
theorem BQ.ok {C:Addr} {qual:Str} {st:Stmt} {N ps:List Str} {f:Addr} {fd:Nr} {k:Nat} {sp:Sp} (D:BQ K C qual st ps f fd) (S:aA N ps (ab st)) (len:∀ vs H Q E,sp vs H Q E->vs.length=ps.length)
  (hbody:∀ (cdv:Value) (A:Around) (outer:List Env) (s:Shared) (H:Hp) (vs:List V) (Q:VK) (E:XK),ca k (A.deeper (envOfC qual (ab st) s.heap.objs.size f cdv))->sp vs H Q E->
   ∃ t,PSs (pW CX0 P w K mg base N qual (ab st) f cdv A outer s H E).nox (fP st) t/\t { nx:=fun _ H'=>Q .non H',rt:=Q } (start N vs) H):FnI P w K mg base (k + 1) C ps sp:=
 ⟨f,fd,D.fn.ok S len hbody,D.made,D.b⟩
end
section
variable {X:Cx} {k:Nat} {C:Addr} {m:Str} {ps:List Str} {sp:Sp} {p pos apos:Pos} {o e:Expr} {es:List Expr} {ta:TE} {t:TA}
theorem b7 {a:Expr} {f:Str} {p:Pos} {te:TE} (ha:PE X (.Attribute a f p) te) (hr:PA X es t):PA X (.Attribute a f p :: es) (ac te t):=gL ha hr rfl
theorem gq {pl:Sem Bool} (F:FnM X.prog X.w X.K X.mg X.base k C m ps sp) (hr:ca k X.A) (c:Cls X.K C) (he:PE X o ta) (ha:PA X (e :: es) t)
  (hst:NA (e :: es) X.env=(false,eval e X.env) :: NA es X.env:=by rfl) (hpl:(backTo pos (NA es X.env)).any (·.1)=false:=by rfl)
  (ht:eval (.Call (.Attribute o m apos) (e :: es) [] pos) X.env=(do
   let ov <-eval o X.env
   standAt apos.atName
   let (f,first) <-holding [ov] (RQ ov m pl)
   Vq pos f first (backTo pos (NA (e :: es) X.env)) (Rc pos (Qr [] X.env))):=by rfl):
  PE X (.Call (.Attribute o m apos) (e :: es) [] pos) (gm C m sp [] E0 ta t):=by
 obtain ⟨f,fd,ok,mt,b⟩:=F
 exact JX he c mt ok hr b .nil AC ha hst hpl ht
theorem GO {pl:Sem Bool} (F:FnM X.prog X.w X.K X.mg X.base k C m ps sp) (hr:ca k X.A) (c:Cls X.K C) (he:PE X o ta)
  (ht:eval (.Call (.Attribute o m apos) [] [] pos) X.env=(do
   let ov <-eval o X.env
   standAt apos.atName
   let (f,first) <-holding [ov] (RQ ov m pl)
   Vq pos f first (backTo pos (NA [] X.env)) (Rc pos (Qr [] X.env))):=by rfl):
  PE X (.Call (.Attribute o m apos) [] [] pos) (gm C m sp [] E0 ta ag):=by
 obtain ⟨f,fd,ok,mt,b⟩:=F
 exact Ht he c mt ok hr b .nil AC ht
theorem IC {x:Str} (F:FnI X.prog X.w X.K X.mg X.base k C ps sp) (hr:ca (k + 1) X.A) (hm:X.mg x=some (.ref C)) (ha:PA X (e :: es) t) (hg:Gl X x:=by rfl)
  (hdb:(x == ("__debug__":Str))=false:=by decide) (he:NA (e :: es) X.env=(false,eval e X.env) :: NA es X.env:=by rfl) (hpl:(backTo pos (NA es X.env)).any (·.1)=false:=by rfl):
  PE X (.Call (.Name x p) (e :: es) [] pos) (AB C sp [] E0 t):=by
 obtain ⟨f,fd,ok,mk,b⟩:=F
 exact JY mk ok hr hg hm b .nil AC ha hdb he hpl
end
end
section
open PySem.Spec PySem.W
structure sk (K:Frag) (C:Addr):Prop where
 cl:Cls K C
 n1:fo K C "dealt"
 n2:fo K C "cards"
 n3:fo K C "sizes"
 n4:fo K C "hands"
 n5:fo K C "views"
 n6:fo K C "deeds"
set_option genInjectivity false in
structure GF extends Glo where
 Table:Addr
structure fw (P:Program) (w:World) (K:Frag) (mg:Str->Option Value) (G:GF):Prop where
 tb:IB P w K mg G.toGlo
 m_Table:mg "Table"=some (.ref G.Table)
 ct:sk K G.Table
theorem fw.cl_Table {P:Program} {w:World} {K:Frag} {mg:Str->Option Value} {G:GF} (T:fw P w K mg G):Cls K G.Table:=T.ct.cl
theorem ID {P:Program} {w:World} {K:Frag} {mg:Str->Option Value} {G:Glo} {aT:Addr} (t:IB P w K mg G) (m:mg "Table"=some (.ref aT)) (pg:plainGet K aT V8=true) (hd:hasDictIn K aT=true) (po:plainOver K aT=true) (sa:findIn K (.ref aT) "__setattr__"=some (some (.builtin "object.__setattr__")))
  (n1:findIn K (.ref aT) "dealt"=some none) (n2:findIn K (.ref aT) "cards"=some none) (n3:findIn K (.ref aT) "sizes"=some none) (n4:findIn K (.ref aT) "hands"=some none) (n5:findIn K (.ref aT) "views"=some none) (n6:findIn K (.ref aT) "deeds"=some none):fw P w K mg ⟨G,aT⟩:=
 ⟨t,m,⟨⟨pg,hd,po,sa⟩,n1,n2,n3,n4,n5,n6⟩⟩
end
end L2
section
namespace L2
open PySem
end L2
end
section
namespace L2
open PySem
noncomputable def vz (K:Fg) (t:TA):TE:=fun σ H Q=>t σ H fun xs H1=>∃ (p:Addr) (ns:List Int),xs=[.ref p]/\SqL K H1 p (ns.map V.int)/\ns.length < 64/\
 ∀ (q:Addr) (H':Hp) (ms:List Int),H1 q=none->am H1 H'->H' q=some (.lst (ms.map V.int))->ms.Pairwise (· < ·)->(∀ y,y∈ms↔y∈ns)->Q (.ref q) H'
theorem GP {K:Fg} {t:TA} {σ:St} {H:Hp} {Q:VK} (h:t σ H fun xs H1=>∃ (p:Addr) (ns:List Int),xs=[.ref p]/\SqL K H1 p (ns.map V.int)/\ns.length < 64/\
 ∀ (q:Addr) (H':Hp) (ms:List Int),H1 q=none->am H1 H'->H' q=some (.lst (ms.map V.int))->ms.Pairwise (· < ·)->(∀ y,y∈ms↔y∈ns)->Q (.ref q) H'):vz K t σ H Q:=h
theorem BR {α:Type} [DecidableEq α]:∀ {l m:List α},l.Nodup->(∀ x∈l,x∈m)->l.length<=m.length
 | [],m,_,_=>N9 _
 | x :: l,m,nd,h=>by
  have hx:x∈m:=h x Nd
  obtain ⟨n1,n2⟩:=PV.mp nd
  have:=BR (m:=m.erase x) n2 fun y hy=>(List.mem_erase_of_ne (fun e:y=x=>n1 (e ▸ hy))).mpr (h y (Nn _ hy))
  rw [List.length_erase_of_mem hx] at this
  have:=List.length_pos_of_mem hx
  rw [NK]
  omega
end L2
end
namespace L2
open PySem PyProof.Rows
noncomputable def GE (P:Hp->V->Prop) (σ:St) (H0:Hp) (te:TE):Prop:=∀ H,am H0 H->∀ Q:VK,(∀ x H',am H H'->P H' x->Q x H')->te σ H Q
noncomputable def GA (P:Hp->V->Prop) (σ:St) (H0:Hp) (n:Nat) (ta:TA):Prop:=∀ H,am H0 H->∀ R:List V->Hp->Prop,(∀ xs H',am H H'->xs.length=n->(∀ x∈xs,P H' x)->R xs H')->ta σ H R
theorem GA.nil {P:Hp->V->Prop} {σ:St} {H0:Hp}:GA P σ H0 0 ag:=fun H s R q=>JA (q [] H (am.refl _) rfl fun _ h=>(nomatch h))
theorem GA.cons {P:Hp->V->Prop} (st:∀ H H' x,am H H'->P H x->P H' x) {σ:St} {H0:Hp} {n:Nat} {te:TE} {tr:TA} (b:GE P σ H0 te) (t:GA P σ H0 n tr):GA P σ H0 (n + 1) (ac te tr):=fun H s R q=>
 Ge (b H s _ fun x H1 s1 px=>t H1 (s.trans s1) _ fun xs H2 s2 hl hb=>q (x :: xs) H2 (s1.trans s2) (by rw [NK,hl]) fun y hy=>by
  rcases Nc.mp hy with rfl | hy
  ·exact st _ _ _ s2 px
  ·exact hb y hy)
theorem sn {P:Hp->V->Prop} (st:∀ H H' x,am H H'->P H x->P H' x) {σ:St} {H0 H:Hp} {n:Nat} {ta:TA} {R:List V->Hp->Prop} (s:am H0 H) (b:GA P σ H0 n ta) (q:∀ xs H',am H H'->xs.length=n->(∀ x∈xs,P H' x)->R xs H'):ta σ H R:=b H s R q
theorem og (z:Int) {m:Int} (h:0 < m):∃ k:Nat,z % m=(k:Int)/\(k:Int) < m:=by
 have m1:=PX z (b:=m) (by omega)
 have m2:=Pu z h
 exact ⟨(z % m).toNat,by omega,by omega⟩
section
variable {K:Fg} {vs:List V} {H:Hp} {Q:VK} {E:XK}
noncomputable def fh (_:Fg):Sp:=fun vs H Q _=>∃ (z:Int) (h:Nat),vs=[.int z,.int h]/\h<=5/\∀ (p:Addr) (g:List Nat) (H':Hp),am H H'->H' p=some (.tup (au g))->g.Pairwise (· < ·)->(∀ k∈g,k < h)->Q (.ref p) H'
noncomputable def jN (K:Fg):TS:=(aJ (tCB (oX K) (ac (bu (gh (ac (aa 1) ag)) (fun _ _ _ _=>(aj 0)) (fun _ _ _ _=>(be (tOp rEq (tOp (rI (fun _ j=>0 < j) fun i j=>.int (i % j)) (tOp (rI gi fun i j=>.int (i / j)) (aa 1) (tOp (cb K) (d5 (ac (tC (.int 1)) (ac (tC (.int 2)) (ac (tC (.int 4)) (ac (tC (.int 8)) (ac (tC (.int 16)) ag)))))) (aa 0))) (tC (.int 2))) (tC (.int 1))))) (fun _ _ _ _=>(aa 0)) [none,some 0]) ag)))
theorem at5 {i:Nat} (h:i < 5):∃ v:Int,atI [V.int 1,V.int 2,V.int 4,V.int 8,V.int 16] (i:Int)=some (.int v)/\0 < v/\v<=16:=by
 match i,h with
 | 0,_=>exact ⟨1,rfl,by decide,by decide⟩
 | 1,_=>exact ⟨2,rfl,by decide,by decide⟩
 | 2,_=>exact ⟨4,rfl,by decide,by decide⟩
 | 3,_=>exact ⟨8,rfl,by decide,by decide⟩
 | 4,_=>exact ⟨16,rfl,by decide,by decide⟩
theorem zJ (h:fh K vs H Q E):jN K { nx:=fun _ H'=>Q .non H',rt:=Q } (start ["_law_number","_law_hands"] vs) H:=by
 obtain ⟨z,h,rfl,h5,q⟩:=h
 show jN K _ [some _,some _] _
 unfold jN
 walk_at "rd"
 refine vk h (by omega) (by omega) (by omega) (fun i acc _=>∃ g:List Nat,acc=au g/\g.Pairwise (· < ·)/\∀ k∈g,k < i) (fun _ _=>⟨[],rfl,.nil,fun _ h=>(nomatch h)⟩) ?_ ?_
 ·rintro p hp C s' H' fp i acc H2 hi ⟨s2,e2,l2,g,rfl,pw,hb⟩
  walk_at "rd"
  refine ⟨by simp [Nf],fun b H3 hb3 s3 e3=>?_⟩
  walk_at "rd"
  obtain ⟨v,hv,v0,v16⟩:=at5 (i:=i) (by omega)
  refine bI (SqL.of e3) hv ?_
  walk_at "rd"
  have e23:=s3 _ _ e2
  refine dC (fun c=>?_) (fun c=>?_)
  ·walk_at "rd"
   refine bf.put hp (fun _ _ _ _ r _=>r) (s2.trans s3) e23 l2 ⟨g++[i],by rw [<-h8],?_,fun k hk=>?_⟩
   ·rw [Ry]
    exact ⟨pw,S4 _ _,fun x hx y hy=>by rw [M8] at hy; have:=hb x hx; omega⟩
   ·rcases NH.mp hk with hk | hk
    ·have:=hb k hk; omega
    ·rw [M8] at hk; omega
  ·exact bf.skip (s2.trans s3) e23 l2 ⟨g,rfl,pw,fun k hk=>by have:=hb k hk; omega⟩
 ·intro p acc H2 hp s2 e2 ⟨g,hg,pw,hb⟩
  subst hg
  walk_at "rd"
  exact yo (SqL.of e2) fun t H3 ht s3 e3=>q t g H3 (s2.trans s3) e3 pw hb
noncomputable def wP (H:Hp) (x:V):Option Sy->Prop
 | some t=>aU H x t
 | none=>(∃ i,x=.int i)\/∃ b g,x=.ref b/\H b=some (.tup (au g))
theorem wP.keep {H H':Hp} (k:fb H H') {x:V} {o:Option Sy} (h:wP H x o):wP H' x o:=by
 cases o with
 | some t=>exact aU.keep k h
 | none=>
  rcases h with h | ⟨b,g,e,h⟩
  ·exact .inl h
  ·exact .inr ⟨b,g,e,k _ _ h⟩
theorem DE {H:Hp} {v:V} {s:Sy} (h:aU H v s):∃ a items os,v=.ref a/\H a=some (.tup (.str s.word :: items))/\Paired (wP H) items os/\os.filterMap id=s.subs/\items.length<=2:=by
 cases s with
 | holds w c=>obtain ⟨a,e,h⟩:=h; exact ⟨a,_,[none,none],e,h,.cons (.inl ⟨_,rfl⟩) (.cons (.inl ⟨_,rfl⟩) .nil),rfl,by simp⟩
 | sees w=>obtain ⟨a,e,h⟩:=h; exact ⟨a,_,[none],e,h,.cons (.inl ⟨_,rfl⟩) .nil,rfl,by simp⟩
 | not s=>obtain ⟨a,x,e,h,r⟩:=h; exact ⟨a,_,[some s],e,h,.cons r .nil,rfl,by simp⟩
 | and s t=>obtain ⟨a,x,y,e,h,r,q⟩:=h; exact ⟨a,_,[some s,some t],e,h,.cons r (.cons q .nil),rfl,by simp⟩
 | or s t=>obtain ⟨a,x,y,e,h,r,q⟩:=h; exact ⟨a,_,[some s,some t],e,h,.cons r (.cons q .nil),rfl,by simp⟩
 | knows w s=>obtain ⟨a,x,e,h,r⟩:=h; exact ⟨a,_,[none,some s],e,h,.cons (.inl ⟨_,rfl⟩) (.cons r .nil),rfl,by simp⟩
 | all g s=>obtain ⟨a,b,x,e,h,i,r⟩:=h; exact ⟨a,_,[none,some s],e,h,.cons (.inr ⟨b,g,rfl,i⟩) (.cons r .nil),rfl,by simp⟩
 | common g s=>obtain ⟨a,b,x,e,h,i,r⟩:=h; exact ⟨a,_,[none,some s],e,h,.cons (.inr ⟨b,g,rfl,i⟩) (.cons r .nil),rfl,by simp⟩
noncomputable def fi (_:Fg) (n:Nat):Sp:=fun vs H Q _=>∃ (v:V) (s:Sy),vs=[v]/\aU H v s/\s.words<=n/\∀ H',am H H'->Q (.int (s.words:Nat)) H'
noncomputable def jO (K:Fg) (n:Nat):TS:=(ap (aH (tC (.int 1)) (aj 1))
 (ap (cV (rD K (tSl (Bn K) (aa 0) (v2 (tC (.int 1))) oV)) (aj 2) (bp (A1 (tB (tCB (iP K) (ac (aa 2) (ac (tC (.ty "tuple")) ag)))) (A1 (be (tOp (jB (SqT K) true) (aa 2) (dN ag))) (tB (tCB (iP K) (ac (tOp (bZ K) (aa 2) (tC (.int 0))) (ac (tC (.ty "str")) ag)))))) (aH (tOp (rI0 fun i j=>.int (i + j)) (aa 1) (av (fi K n) [] E0 (ac (aa 2) ag))) (aj 1)) aY))
 (aJ (aa 1))))
theorem qM (h:fi K 0 vs H Q E):False:=by
 obtain ⟨v,s,rfl,_,h,_⟩:=h
 have:=s.words_pos
 omega
theorem GQ {K:Fg} {H:Hp} {Q:VK} {a b:Addr} {xs:List V} (h1:SqT K H a xs) (h2:SqT K H b []) (q:Q (.bl (!xs.isEmpty)) H):jB (SqT K) true (.ref a) (.ref b) H Q:=by
 refine ⟨a,b,xs,[],fun _=>true,rfl,rfl,h1,h2,fun j x y _ hy=>by simp at hy,?_⟩
 cases xs with
 | nil=>exact q
 | cons x r=>exact q
noncomputable def lU (os:List (Option Sy)):Nat:=((os.filterMap id).map Sy.words).sum
noncomputable def BS:Option Sy->Nat
 | some t=>t.words
 | none=>0
theorem GR (os:List (Option Sy)) (i:Nat) (o:Option Sy) (h:os[i]?=some o):lU (os.take (i + 1))=lU (os.take i) + BS o:=by
 unfold lU
 rw [ON,h,List.filterMap_append,Ny,OE]
 cases o with
 | none=>simp [BS]
 | some t=>simp [BS]
theorem zK {K:Fg} {n:Nat} {vs:List V} {H:Hp} {Q:VK} {E:XK} (h:fi K (n + 1) vs H Q E):jO K n { nx:=fun _ H'=>Q .non H',rt:=Q } (start ["_law_saying_here","_law_found","_law_part"] vs) H:=by
 obtain ⟨v,s,rfl,hs,hw,q⟩:=h
 obtain ⟨a,items,os,rfl,e,hp,hos,h2⟩:=DE hs
 show jO K n _ [some _,none,none] _
 unfold jO
 walk_at "rd"
 refine Eo (SqT.of e) (oF _ _) fun b H1 hb s1 e1=>?_
 rw [vm] at e1
 have hw':=s.words_subs
 have hol:items.length=os.length:=by
  clear hos h2 e e1
  induction hp with
  | nil=>rfl
  | cons _ _ ih=>rw [NK,NK,ih]
 refine rR items (SqT.of e1) (fun i σ H2=>∃ st,σ=[some (.ref a),some (.int (1 + lU (os.take i):Nat)),st]/\am H1 H2) ⟨none,rfl,am.refl _⟩ (fun i σ H2 _ ⟨_,_,s2⟩=>SqT.of (s2 _ _ e1)) ?_ ?_
 ·rintro i x σ H2 hx ⟨st,rfl,s2⟩
  obtain ⟨o,ho,io⟩:=mB hp hx
  have ot:=GR os i o ho
  have io2:=io.keep (s1.trans s2).keep
  cases o with
  | none=>
   have ot':lU (os.take (i + 1))=lU (os.take i):=ot
   rcases io2 with ⟨j,rfl⟩ | ⟨g,gs,rfl,eg⟩
   ·walk_at "rd"
    refine gU (.int _) (Dw K "int" (by decide) "tuple" (by decide)) ?_
    walk_at "rd"
    refine lM ?_
    walk_at "rd"
    exact ⟨_,by rw [ot'],s2⟩
   ·walk_at "rd"
    refine gU (.tup eg) (kT K) ?_
    walk_at "rd"
    refine ⟨by simp [Nf],fun u H3 hu s3 e3=>?_⟩
    refine GQ (SqT.of (s3 _ _ eg)) (SqT.of e3) ?_
    walk_at "rd"
    cases gs with
    | nil=>
     refine lM ?_
     walk_at "rd"
     exact ⟨_,by rw [ot'],s2.trans s3⟩
    | cons k r=>
     refine lN ?_
     walk_at "rd"
     refine aD (SqT.of (s3 _ _ eg)) (mN _ _) ?_
     walk_at "rd"
     refine gU (.int _) (Dw K "int" (by decide) "str" (by decide)) ?_
     walk_at "rd"
     refine lM ?_
     walk_at "rd"
     exact ⟨_,by rw [ot'],s2.trans s3⟩
  | some t=>
   have ot':lU (os.take (i + 1))=lU (os.take i) + t.words:=ot
   have ts:t∈s.subs:=by rw [<-hos]; exact RP.mpr ⟨some t,Ng ho,rfl⟩
   have hb':=Sy.sub_words ts
   obtain ⟨a2,items2,_,rfl,et,_⟩:=DE io2
   walk_at "rd"
   refine gU (.tup et) (kT K) ?_
   walk_at "rd"
   refine ⟨by simp [Nf],fun u H3 hu s3 e3=>?_⟩
   refine GQ (SqT.of (s3 _ _ et)) (SqT.of e3) ?_
   walk_at "rd"
   refine lN ?_
   walk_at "rd"
   refine aD (SqT.of (s3 _ _ et)) (mN _ _) ?_
   walk_at "rd"
   refine gU (.str _) (BD K "str") ?_
   walk_at "rd"
   refine ⟨_,t,rfl,aU.keep s3.keep io2,by omega,fun H4 s4=>?_⟩
   walk_at "rd"
   refine ⟨some (.ref a2),?_,(s2.trans s3).trans s4⟩
   rw [ot',show ((1 + lU (os.take i):Nat):Int) + ((t.words:Nat):Int)=((1 + (lU (os.take i) + t.words):Nat):Int) by omega]
 ·rintro σ H2 ⟨st,rfl,s2⟩
  walk_at "rd"
  have e:lU (os.take items.length)=(s.subs.map Sy.words).sum:=by rw [hol,NM]; unfold lU; rw [hos]
  rw [e,<-hw']
  exact q _ (s1.trans s2)
structure ic (H H2:Hp) (r:Addr) (c h most:Nat) (ss:List Sy):Prop where
 same:am H H2
 new:H r=none
 at_:∃ xs,H2 r=some (.lst xs)/\iz H2 xs ss
 ne:ss≠[]
 ok:∀ s∈ss,s.Ok c h/\s.words<=most
theorem ic.push {H H2 H3:Hp} {r:Addr} {c h most:Nat} {ss:List Sy} {s:Sy} {v:V} {xs:List V} (R:ic H H2 r c h most ss) (e:H2 r=some (.lst xs)) (o:Off r H2 H3) (e3:H3 r=some (.lst (xs++[v]))) (hv:aU H2 v s) (ok:s.Ok c h) (w:s.words<=most):ic H H3 r c h most (ss++[s]) where
 same:=R.same.off R.new o
 new:=R.new
 at_:=by
  obtain ⟨ys,ey,p⟩:=R.at_
  rw [e] at ey
  cases ey
  exact ⟨_,e3,qj (p.keep (o.keep e)) (.cons (hv.keep (o.keep e)) .nil)⟩
 ne:=by simp
 ok:=fun t ht=>by
  rcases NH.mp ht with ht | ht
  ·exact R.ok t ht
  ·rw [M8] at ht; subst ht; exact ⟨ok,w⟩
theorem ic.to {H H2 H3:Hp} {r:Addr} {c h most:Nat} {ss:List Sy} (R:ic H H2 r c h most ss) (s:am H2 H3):ic H H3 r c h most ss where
 same:=R.same.trans s
 new:=R.new
 at_:=by obtain ⟨xs,e,p⟩:=R.at_; exact ⟨xs,s _ _ e,p.keep s.keep⟩
 ne:=R.ne
 ok:=R.ok
noncomputable def m9 (K:Fg):Sp:=fun vs H Q _=>∃ (a:Addr) (ns:List Int) (at_:Int) (c h:Nat),vs=[.ref a,.int at_,.int c,.int h]/\hZ K H a ns/\0<=at_/\at_<=1000/\1<=h/\∀ (r:Addr) (ss:List Sy) (H':Hp),ic H H' r c h 1 ss->ss.length<=4->Q (.ref r) H'
noncomputable def ll (K:Fg):TS:=(ap (aH (d5 (ac (dN (ac (tC (.str "sees")) (ac (tOp (rI (fun _ j=>0 < j) fun i j=>.int (i % j)) (av (bz K) [] E0 (ac (aa 0) (ac (aa 1) ag))) (aa 3)) ag))) ag)) (aj 4))
 (ap (cV (gh (ac (tOp (rI P4 fun i j=>.int (i * j)) (tC (.int 3)) (tCB Em (ac (tOp (rI0 fun i j=>.bl (decide (j < i))) (aa 2) (tC (.int 0))) ag))) ag)) (aj 5) (ap (aH (av (bz K) [] E0 (ac (aa 0) (ac (tOp (rI0 fun i j=>.int (i + j)) (tOp (rI0 fun i j=>.int (i + j)) (aa 1) (tC (.int 1))) (aa 5)) ag))) (aj 6))
 (dI (tBM K "list" ip (aa 4) (ac (dN (ac (tC (.str "holds")) (ac (tOp (rI (fun _ j=>0 < j) fun i j=>.int (i % j)) (aa 6) (tOp (rI0 fun i j=>.int (i + j)) (aa 3) (tC (.int 1)))) (ac (tOp (rI (fun _ j=>0 < j) fun i j=>.int (i % j)) (tOp (rI gi fun i j=>.int (i / j)) (aa 6) (tC (.int 7))) (aa 2)) ag)))) ag)))))
 (aJ (aa 4))))
theorem BT (h:m9 K vs H Q E):ll K { nx:=fun _ H'=>Q .non H',rt:=Q } (start ["_law_script","_law_at","_law_cards","_law_hands","_law_pool_here","_law_k","_law_cell_here"] vs) H:=by
 obtain ⟨a,ns,at_,c,h,rfl,hSc,ha0,ha1,h1,q⟩:=h
 show ll K _ [some _,some _,some _,some _,none,none,none] _
 unfold ll
 walk_at "rd"
 refine ⟨a,ns,at_,rfl,hSc,ha0,by omega,?_⟩
 walk_at "rd"
 obtain ⟨k,hk,hk2⟩:=og (cz ns at_) (m:=(h:Int)) (by omega)
 rw [hk]
 refine ⟨by simp [Nf],fun p1 H1 hp1 s1 e1=>?_⟩
 walk_at "rd"
 refine ⟨by simp [Nf],fun r H2 hr s2 e2=>?_⟩
 have R0:ic H H2 r c h 1 [.sees k]:=⟨s1.trans s2,s1.free hr,⟨_,e2,.cons ⟨p1,rfl,s2 _ _ e1⟩ .nil⟩,by simp,fun s hs=>by rw [M8] at hs; subst hs; exact ⟨show k < h by omega,M9 _⟩⟩
 walk_at "rd"
 obtain ⟨n,hn,hn3,hnc⟩:∃ n:Nat,((3:Int) * (if decide ((0:Int) < (c:Int))=true then 1 else 0))=(n:Int)/\n<=3/\(c=0->n=0):=by
  by_cases hc:(0:Int) < (c:Int)
  ·exact ⟨3,by rw [if_pos (decide_eq_true hc)]; rfl,M9 _,fun z=>by omega⟩
  ·exact ⟨0,by rw [if_neg (by rw [decide_eq_false hc]; exact Nk)]; rfl,by decide,fun _=>rfl⟩
 rw [hn]
 refine kt n (by omega) (by omega) (by omega) (fun i σ H3=>∃ (ss:List Sy) (v5 v6:Option V),σ=[some (.ref a),some (.int at_),some (.int c),some (.int h),some (.ref r),v5,v6]/\ic H H3 r c h 1 ss/\ss.length=i + 1) ⟨_,none,none,rfl,R0,rfl⟩ ?_ ?_
 ·rintro i σ H3 hi ⟨ss,v5,v6,rfl,R,hl⟩
  have hc:0 < c:=by
   rcases Qo c with z | z
   ·have:=hnc z; omega
   ·exact z
  obtain ⟨xs,e3,px⟩:=R.at_
  have hxl:=h9 px
  walk_at "rd"
  refine ⟨a,ns,at_ + 1 + (i:Int),rfl,hSc.same R.same,by omega,by omega,?_⟩
  walk_at "rd"
  refine ⟨qa e3,?_⟩
  walk_at "rd"
  obtain ⟨k1,hk1,hk12⟩:=og (cz ns (at_ + 1 + (i:Int))) (m:=(h:Int) + 1) (by omega)
  obtain ⟨k2,hk2',hk22⟩:=og (cz ns (at_ + 1 + (i:Int)) / 7) (m:=(c:Int)) (by omega)
  rw [hk1,hk2']
  refine ⟨by simp [Nf],fun p4 H4 hp4 s4 e4=>?_⟩
  walk_at "rd"
  refine kr (s4 _ _ e3) (by rw [Nf]; omega) fun H5 o5 e5=>?_
  exact ⟨_,_,_,rfl,(R.to s4).push (s4 _ _ e3) o5 e5 (s:=.holds k1 k2) ⟨p4,rfl,e4⟩ ⟨by omega,by omega⟩ (M9 _),by rw [Nx,hl]; rfl⟩
 ·rintro σ H3 ⟨ss,v5,v6,rfl,R,hl⟩
  walk_at "rd"
  exact q r ss H3 R (by omega)
noncomputable def iC (c h:Nat) (H:Hp) (x:V):Prop:=∃ s:Sy,aU H x s/\s.Ok c h/\s.words<=63
theorem iC.same {c h:Nat} {H H':Hp} {x:V} (g:iC c h H x) (s:am H H'):iC c h H' x:=by
 obtain ⟨t,i,o,w⟩:=g
 exact ⟨t,i.keep s.keep,o,w⟩
theorem so {H:Hp}:∀ {l:List V} {m:List Sy},iz H l m->l≠[]->∃ x y,atI l (-1)=some x/\y∈m/\aU H x y:=by
 intro l m p hne
 have hl:=h9 p
 have hp:0 < l.length:=RD.mpr hne
 obtain ⟨x,hx⟩:∃ x,l[l.length - 1]?=some x:=⟨_,M7 (by omega)⟩
 obtain ⟨y,hy,iy⟩:=nY p hx
 refine ⟨x,y,?_,Ng hy,iy⟩
 unfold atI ixN
 rw [if_neg (by decide),if_pos (by omega),show (-1 + (l.length:Int)).toNat=l.length - 1 by omega]
 exact hx
noncomputable def kF (K:Fg):Sp:=fun vs H Q _=>∃ (a:Addr) (ns:List Int) (at_:Int) (c h most:Nat),vs=[.ref a,.int at_,.int c,.int h,.int most]/\hZ K H a ns/\0<=at_/\at_<=1000/\1<=h/\h<=5/\1<=most/\most<=30/\∀ (v:V) (s:Sy) (H':Hp),am H H'->aU H' v s->s.Ok c h->s.words<=most->Q v H'
noncomputable def i8 (K:Fg):TS:=(ap (aH (av (m9 K) [] E0 (ac (aa 0) (ac (aa 1) (ac (aa 2) (ac (aa 3) ag))))) (aj 5))
 (ap (cV (gh (ac (tOp (rI (fun _ j=>0 < j) fun i j=>.int (i % j)) (av (bz K) [] E0 (ac (aa 0) (ac (tOp (rI0 fun i j=>.int (i + j)) (aa 1) (tC (.int 4))) ag))) (tC (.int 12))) ag)) (aj 6) (ap (aH (av (bz K) [] E0 (ac (aa 0) (ac (tOp (rI0 fun i j=>.int (i + j)) (tOp (rI0 fun i j=>.int (i + j)) (aa 1) (tC (.int 5))) (aa 6)) ag))) (aj 7))
 (ap (aH (tOp (cb K) (aa 5) (tUn (rU fun i=>.int (-i)) (tC (.int 1)))) (aj 8))
 (ap (aH (tOp (cb K) (aa 5) (tOp (rI (fun _ j=>0 < j) fun i j=>.int (i % j)) (tOp (rI gi fun i j=>.int (i / j)) (aa 7) (tC (.int 12))) (tCB (fc K) (ac (aa 5) ag)))) (aj 9))
 (ap (aH (d5 (ac (dN (ac (tC (.str "not")) (ac (aa 8) ag))) (ac (dN (ac (tC (.str "and")) (ac (aa 8) (ac (aa 9) ag)))) (ac (dN (ac (tC (.str "or")) (ac (aa 9) (ac (aa 8) ag)))) (ac (dN (ac (tC (.str "not")) (ac (aa 9) ag))) ag))))) (aj 10))
 (ap (aH (tOp vi (aa 10) (d5 (ac (dN (ac (tC (.str "knows")) (ac (tOp (rI (fun _ j=>0 < j) fun i j=>.int (i % j)) (tOp (rI gi fun i j=>.int (i / j)) (aa 7) (tC (.int 7))) (aa 3)) (ac (aa 8) ag)))) (ac (dN (ac (tC (.str "knows")) (ac (tOp (rI (fun _ j=>0 < j) fun i j=>.int (i % j)) (tOp (rI gi fun i j=>.int (i / j)) (aa 7) (tC (.int 7))) (aa 3)) (ac (dN (ac (tC (.str "not")) (ac (aa 8) ag))) ag)))) ag)))) (aj 10))
 (ap (aH (tOp vi (aa 10) (d5 (ac (dN (ac (tC (.str "all")) (ac (av (fh K) [] E0 (ac (tOp (rI gi fun i j=>.int (i / j)) (aa 7) (tC (.int 36))) (ac (aa 3) ag))) (ac (aa 8) ag)))) (ac (dN (ac (tC (.str "common")) (ac (av (fh K) [] E0 (ac (tOp (rI gi fun i j=>.int (i / j)) (aa 7) (tC (.int 36))) (ac (aa 3) ag))) (ac (aa 9) ag)))) ag)))) (aj 10))
 (ap (aH (tOp vi (aa 10) (d5 (ac (dN (ac (tC (.str "common")) (ac (av (fh K) [] E0 (ac (tOp (rI gi fun i j=>.int (i / j)) (aa 7) (tC (.int 36))) (ac (aa 3) ag))) (ac (aa 8) ag)))) (ac (dN (ac (tC (.str "knows")) (ac (tOp (rI (fun _ j=>0 < j) fun i j=>.int (i % j)) (tOp (rI gi fun i j=>.int (i / j)) (aa 7) (tC (.int 7))) (aa 3)) (ac (aa 9) ag)))) ag)))) (aj 10))
 (ap (aH (tOp vi (aa 10) (d5 (ac (dN (ac (tC (.str "and")) (ac (aa 9) (ac (dN (ac (tC (.str "not")) (ac (aa 8) ag))) ag)))) (ac (dN (ac (tC (.str "or")) (ac (aa 8) (ac (dN (ac (tC (.str "knows")) (ac (tOp (rI (fun _ j=>0 < j) fun i j=>.int (i % j)) (tOp (rI gi fun i j=>.int (i / j)) (aa 7) (tC (.int 7))) (aa 3)) (ac (aa 9) ag)))) ag)))) ag)))) (aj 10))
 (bp (be (tOp (rI0 fun i j=>.bl (decide (i<=j))) (av (fi K 70) [] E0 (ac (tOp (cb K) (aa 10) (tOp (rI (fun _ j=>0 < j) fun i j=>.int (i % j)) (aa 7) (tC (.int 12)))) ag)) (aa 4))) (dI (tBM K "list" ip (aa 5) (ac (tOp (cb K) (aa 10) (tOp (rI (fun _ j=>0 < j) fun i j=>.int (i % j)) (aa 7) (tC (.int 12)))) ag))) aY))))))))))
 (aJ (tOp (cb K) (aa 5) (tUn (rU fun i=>.int (-i)) (tC (.int 1)))))))
theorem yy (h:kF K vs H Q E):i8 K { nx:=fun _ H'=>Q .non H',rt:=Q } (start ["_law_script","_law_at","_law_cards","_law_hands","_law_most","_law_pool_here","_law_k","_law_cell_here","_law_one","_law_other","_law_some"] vs) H:=by
 obtain ⟨a,ns,at_,c,h,most,rfl,hSc,ha0,ha1,h1,h5,hm1,hm30,q⟩:=h
 show i8 K _ [some _,some _,some _,some _,some _,none,none,none,none,none,none] _
 unfold i8
 walk_at "rd"
 refine ⟨a,ns,at_,c,h,rfl,hSc,ha0,ha1,h1,fun r ss0 H1 R0 hl4=>?_⟩
 walk_at "rd"
 refine ⟨a,ns,at_ + 4,rfl,hSc.same R0.same,by omega,by omega,?_⟩
 walk_at "rd"
 have R1:ic H H1 r c h most ss0:=⟨R0.same,R0.new,R0.at_,R0.ne,fun s hs=>⟨(R0.ok s hs).1,by have:=(R0.ok s hs).2; omega⟩⟩
 refine kt (cz ns (at_ + 4) % 12).toNat rfl (by omega) (by omega) (fun i σ H2=>∃ (ss:List Sy) (v6 v7 v8 v9 v10:Option V),σ=[some (.ref a),some (.int at_),some (.int c),some (.int h),some (.int most),some (.ref r),v6,v7,v8,v9,v10]/\ic H H2 r c h most ss/\ss.length<=4 + i) ⟨ss0,none,none,none,none,none,rfl,R1,by omega⟩ ?_ ?_
 ·rintro i σ H2 hi ⟨ss,v6,v7,v8,v9,v10,rfl,R,hl⟩
  obtain ⟨xs,e2,px⟩:=R.at_
  have hxl:=h9 px
  have hne:xs≠[]:=fun z=>R.ne (Qi.mp (by rw [<-hxl,z]; rfl))
  have hpos:0 < xs.length:=RD.mpr hne
  refine jE ?_
  dsimp only [Pc,Pd]
  refine bA ?_
  walk_at "rs"
  refine ⟨a,ns,at_ + 5 + (i:Int),rfl,hSc.same R.same,by omega,by omega,?_⟩
  generalize cz ns (at_ + 5 + (i:Int))=z
  walk_at "rs"
  refine bA ?_
  walk_at "rs"
  obtain ⟨x1,s1,hx1,hs1,is1⟩:=so px hne
  obtain ⟨ok1,w1⟩:=R.ok s1 hs1
  refine bI (SqL.of e2) hx1 ?_
  walk_at "rs"
  refine bA ?_
  walk_at "rs"
  obtain ⟨x2,hx2,hm2⟩:=Gf xs (z / 12) rfl hpos
  obtain ⟨j2,hj2⟩:=T8 hm2
  obtain ⟨s2,hs2,is2⟩:=nY px hj2
  obtain ⟨ok2,w2⟩:=R.ok s2 (Ng hs2)
  refine bI (SqL.of e2) hx2 ?_
  walk_at "rs"
  refine bA ?_
  refine nQ ?_
  refine tM ?_
  refine sn (P:=iC c h) (fun _ _ _ s g=>g.same s) (H0:=H2) (n:=4) (am.refl _) ?_ fun ys0 Hy0 sy0 ly0 by0=>?_
  ·skip
   refine GA.cons (fun _ _ _ s g=>g.same s) (n:=3) ?_ ?_
   ·intro H' s' Q q
    have i1:=is1.keep s'.keep
    have i2:=is2.keep s'.keep
    walk_at "rd"
    refine ⟨by simp [Nf],fun p1 G1 hp1 t1 e1=>?_⟩
    have I1:aU G1 (.ref p1) (.not s1):=⟨p1,_,rfl,e1,(aU.keep (am.keep t1) i1)⟩
    exact q _ _ t1 ⟨_,I1,ok1,by simp only [Sy.words]; omega⟩
   refine GA.cons (fun _ _ _ s g=>g.same s) (n:=2) ?_ ?_
   ·intro H' s' Q q
    have i1:=is1.keep s'.keep
    have i2:=is2.keep s'.keep
    walk_at "rd"
    refine ⟨by simp [Nf],fun p1 G1 hp1 t1 e1=>?_⟩
    have I1:aU G1 (.ref p1) (.and s1 s2):=⟨p1,_,_,rfl,e1,(aU.keep (am.keep t1) i1),(aU.keep (am.keep t1) i2)⟩
    exact q _ _ t1 ⟨_,I1,⟨ok1,ok2⟩,by simp only [Sy.words]; omega⟩
   refine GA.cons (fun _ _ _ s g=>g.same s) (n:=1) ?_ ?_
   ·intro H' s' Q q
    have i1:=is1.keep s'.keep
    have i2:=is2.keep s'.keep
    walk_at "rd"
    refine ⟨by simp [Nf],fun p1 G1 hp1 t1 e1=>?_⟩
    have I1:aU G1 (.ref p1) (.or s2 s1):=⟨p1,_,_,rfl,e1,(aU.keep (am.keep t1) i2),(aU.keep (am.keep t1) i1)⟩
    exact q _ _ t1 ⟨_,I1,⟨ok2,ok1⟩,by simp only [Sy.words]; omega⟩
   refine GA.cons (fun _ _ _ s g=>g.same s) (n:=0) ?_ ?_
   ·intro H' s' Q q
    have i1:=is1.keep s'.keep
    have i2:=is2.keep s'.keep
    walk_at "rd"
    refine ⟨by simp [Nf],fun p1 G1 hp1 t1 e1=>?_⟩
    have I1:aU G1 (.ref p1) (.not s2):=⟨p1,_,rfl,e1,(aU.keep (am.keep t1) i2)⟩
    exact q _ _ t1 ⟨_,I1,ok2,by simp only [Sy.words]; omega⟩
   exact GA.nil
  refine ⟨by rw [ly0,Nf]; decide,fun l0 Hl0 hl0 sl0 el0=>?_⟩
  have sL0:am H2 Hl0:=sy0.trans sl0
  have L0:ys0.length=4:=ly0
  have B0:∀ x∈ys0,iC c h Hl0 x:=fun x hx=>(by0 x hx).same sl0
  have eL0:=el0
  refine jE ?_
  dsimp only [Pc,Pd]
  generalize hX0:ys0=X0 at *
  refine bA ?_
  refine nQ ?_
  refine vf ?_
  refine p9 rfl ?_
  refine tM ?_
  refine sn (P:=iC c h) (fun _ _ _ s g=>g.same s) (H0:=H2) (n:=2) sL0 ?_ fun ys1 Hy1 sy1 ly1 by1=>?_
  ·skip
   refine GA.cons (fun _ _ _ s g=>g.same s) (n:=1) ?_ ?_
   ·intro H' s' Q q
    have i1:=is1.keep s'.keep
    have i2:=is2.keep s'.keep
    walk_at "rd"
    obtain ⟨kk1,hk1,hk21⟩:=og (z / 7) (m:=(h:Int)) (by omega)
    rw [hk1]
    refine ⟨by simp [Nf],fun p1 G1 hp1 t1 e1=>?_⟩
    have I1:aU G1 (.ref p1) (.knows kk1 s1):=⟨p1,_,rfl,e1,(aU.keep (am.keep t1) i1)⟩
    exact q _ _ t1 ⟨_,I1,⟨by omega,ok1⟩,by simp only [Sy.words]; omega⟩
   refine GA.cons (fun _ _ _ s g=>g.same s) (n:=0) ?_ ?_
   ·intro H' s' Q q
    have i1:=is1.keep s'.keep
    have i2:=is2.keep s'.keep
    walk_at "rd"
    refine ⟨by simp [Nf],fun p1 G1 hp1 t1 e1=>?_⟩
    have I1:aU G1 (.ref p1) (.not s1):=⟨p1,_,rfl,e1,(aU.keep (am.keep t1) i1)⟩
    walk_at "rd"
    obtain ⟨kk2,hk2,hk22⟩:=og (z / 7) (m:=(h:Int)) (by omega)
    rw [hk2]
    refine ⟨by simp [Nf],fun p2 G2 hp2 t2 e2=>?_⟩
    have I2:aU G2 (.ref p2) (.knows kk2 (.not s1)):=⟨p2,_,rfl,e2,(aU.keep (am.keep t2) I1)⟩
    exact q _ _ (t1.trans t2) ⟨_,I2,⟨by omega,ok1⟩,by simp only [Sy.words]; omega⟩
   exact GA.nil
  refine ⟨by rw [ly1,Nf]; decide,fun l1 Hl1 hl1 sl1 el1=>?_⟩
  refine wg (sl1 _ _ (sy1 _ _ eL0)) el1 (by rw [L0,ly1,Nf]; decide) fun m1 Hm1 hm1 sm1 em1=>?_
  have sA1:=(sy1.trans sl1).trans sm1
  have sL1:am H2 Hm1:=sL0.trans sA1
  have L1:(X0++ys1).length=6:=by rw [Nx,L0,ly1]
  have B1:∀ x∈X0++ys1,iC c h Hm1 x:=fun x hx=>by
   rcases NH.mp hx with hx | hx
   ·exact (B0 x hx).same sA1
   ·exact (by1 x hx).same (sl1.trans sm1)
  have eL1:=em1
  refine jE ?_
  dsimp only [Pc,Pd]
  generalize X0++ys1=X1 at L1 B1 eL1
  clear B0 L0 eL0 by1 ly1 el1 em1
  refine bA ?_
  refine nQ ?_
  refine vf ?_
  refine p9 rfl ?_
  refine tM ?_
  refine sn (P:=iC c h) (fun _ _ _ s g=>g.same s) (H0:=H2) (n:=2) sL1 ?_ fun ys2 Hy2 sy2 ly2 by2=>?_
  ·skip
   refine GA.cons (fun _ _ _ s g=>g.same s) (n:=1) ?_ ?_
   ·intro H' s' Q q
    have i1:=is1.keep s'.keep
    have i2:=is2.keep s'.keep
    walk_at "rd"
    refine ⟨_,h,rfl,h5,fun g1 gs1 G1 t1 eg1 pw1 hb1=>?_⟩
    walk_at "rd"
    refine ⟨by simp [Nf],fun p2 G2 hp2 t2 e2=>?_⟩
    have I2:aU G2 (.ref p2) (.all gs1 s1):=⟨p2,g1,_,rfl,e2,t2 _ _ eg1,(aU.keep (am.keep (t1.trans t2)) i1)⟩
    exact q _ _ (t1.trans t2) ⟨_,I2,⟨⟨pw1,hb1⟩,ok1⟩,by simp only [Sy.words]; omega⟩
   refine GA.cons (fun _ _ _ s g=>g.same s) (n:=0) ?_ ?_
   ·intro H' s' Q q
    have i1:=is1.keep s'.keep
    have i2:=is2.keep s'.keep
    walk_at "rd"
    refine ⟨_,h,rfl,h5,fun g1 gs1 G1 t1 eg1 pw1 hb1=>?_⟩
    walk_at "rd"
    refine ⟨by simp [Nf],fun p2 G2 hp2 t2 e2=>?_⟩
    have I2:aU G2 (.ref p2) (.common gs1 s2):=⟨p2,g1,_,rfl,e2,t2 _ _ eg1,(aU.keep (am.keep (t1.trans t2)) i2)⟩
    exact q _ _ (t1.trans t2) ⟨_,I2,⟨⟨pw1,hb1⟩,ok2⟩,by simp only [Sy.words]; omega⟩
   exact GA.nil
  refine ⟨by rw [ly2,Nf]; decide,fun l2 Hl2 hl2 sl2 el2=>?_⟩
  refine wg (sl2 _ _ (sy2 _ _ eL1)) el2 (by rw [L1,ly2,Nf]; decide) fun m2 Hm2 hm2 sm2 em2=>?_
  have sA2:=(sy2.trans sl2).trans sm2
  have sL2:am H2 Hm2:=sL1.trans sA2
  have L2:(X1++ys2).length=8:=by rw [Nx,L1,ly2]
  have B2:∀ x∈X1++ys2,iC c h Hm2 x:=fun x hx=>by
   rcases NH.mp hx with hx | hx
   ·exact (B1 x hx).same sA2
   ·exact (by2 x hx).same (sl2.trans sm2)
  have eL2:=em2
  refine jE ?_
  dsimp only [Pc,Pd]
  generalize X1++ys2=X2 at L2 B2 eL2
  clear B1 L1 eL1 by2 ly2 el2 em2
  refine bA ?_
  refine nQ ?_
  refine vf ?_
  refine p9 rfl ?_
  refine tM ?_
  refine sn (P:=iC c h) (fun _ _ _ s g=>g.same s) (H0:=H2) (n:=2) sL2 ?_ fun ys3 Hy3 sy3 ly3 by3=>?_
  ·skip
   refine GA.cons (fun _ _ _ s g=>g.same s) (n:=1) ?_ ?_
   ·intro H' s' Q q
    have i1:=is1.keep s'.keep
    have i2:=is2.keep s'.keep
    walk_at "rd"
    refine ⟨_,h,rfl,h5,fun g1 gs1 G1 t1 eg1 pw1 hb1=>?_⟩
    walk_at "rd"
    refine ⟨by simp [Nf],fun p2 G2 hp2 t2 e2=>?_⟩
    have I2:aU G2 (.ref p2) (.common gs1 s1):=⟨p2,g1,_,rfl,e2,t2 _ _ eg1,(aU.keep (am.keep (t1.trans t2)) i1)⟩
    exact q _ _ (t1.trans t2) ⟨_,I2,⟨⟨pw1,hb1⟩,ok1⟩,by simp only [Sy.words]; omega⟩
   refine GA.cons (fun _ _ _ s g=>g.same s) (n:=0) ?_ ?_
   ·intro H' s' Q q
    have i1:=is1.keep s'.keep
    have i2:=is2.keep s'.keep
    walk_at "rd"
    obtain ⟨kk1,hk1,hk21⟩:=og (z / 7) (m:=(h:Int)) (by omega)
    rw [hk1]
    refine ⟨by simp [Nf],fun p1 G1 hp1 t1 e1=>?_⟩
    have I1:aU G1 (.ref p1) (.knows kk1 s2):=⟨p1,_,rfl,e1,(aU.keep (am.keep t1) i2)⟩
    exact q _ _ t1 ⟨_,I1,⟨by omega,ok2⟩,by simp only [Sy.words]; omega⟩
   exact GA.nil
  refine ⟨by rw [ly3,Nf]; decide,fun l3 Hl3 hl3 sl3 el3=>?_⟩
  refine wg (sl3 _ _ (sy3 _ _ eL2)) el3 (by rw [L2,ly3,Nf]; decide) fun m3 Hm3 hm3 sm3 em3=>?_
  have sA3:=(sy3.trans sl3).trans sm3
  have sL3:am H2 Hm3:=sL2.trans sA3
  have L3:(X2++ys3).length=10:=by rw [Nx,L2,ly3]
  have B3:∀ x∈X2++ys3,iC c h Hm3 x:=fun x hx=>by
   rcases NH.mp hx with hx | hx
   ·exact (B2 x hx).same sA3
   ·exact (by3 x hx).same (sl3.trans sm3)
  have eL3:=em3
  refine jE ?_
  dsimp only [Pc,Pd]
  generalize X2++ys3=X3 at L3 B3 eL3
  clear B2 L2 eL2 by3 ly3 el3 em3
  refine bA ?_
  refine nQ ?_
  refine vf ?_
  refine p9 rfl ?_
  refine tM ?_
  refine sn (P:=iC c h) (fun _ _ _ s g=>g.same s) (H0:=H2) (n:=2) sL3 ?_ fun ys4 Hy4 sy4 ly4 by4=>?_
  ·skip
   refine GA.cons (fun _ _ _ s g=>g.same s) (n:=1) ?_ ?_
   ·intro H' s' Q q
    have i1:=is1.keep s'.keep
    have i2:=is2.keep s'.keep
    walk_at "rd"
    refine ⟨by simp [Nf],fun p1 G1 hp1 t1 e1=>?_⟩
    have I1:aU G1 (.ref p1) (.not s1):=⟨p1,_,rfl,e1,(aU.keep (am.keep t1) i1)⟩
    walk_at "rd"
    refine ⟨by simp [Nf],fun p2 G2 hp2 t2 e2=>?_⟩
    have I2:aU G2 (.ref p2) (.and s2 (.not s1)):=⟨p2,_,_,rfl,e2,(aU.keep (am.keep (t1.trans t2)) i2),(aU.keep (am.keep t2) I1)⟩
    exact q _ _ (t1.trans t2) ⟨_,I2,⟨ok2,ok1⟩,by simp only [Sy.words]; omega⟩
   refine GA.cons (fun _ _ _ s g=>g.same s) (n:=0) ?_ ?_
   ·intro H' s' Q q
    have i1:=is1.keep s'.keep
    have i2:=is2.keep s'.keep
    walk_at "rd"
    obtain ⟨kk1,hk1,hk21⟩:=og (z / 7) (m:=(h:Int)) (by omega)
    rw [hk1]
    refine ⟨by simp [Nf],fun p1 G1 hp1 t1 e1=>?_⟩
    have I1:aU G1 (.ref p1) (.knows kk1 s2):=⟨p1,_,rfl,e1,(aU.keep (am.keep t1) i2)⟩
    walk_at "rd"
    refine ⟨by simp [Nf],fun p2 G2 hp2 t2 e2=>?_⟩
    have I2:aU G2 (.ref p2) (.or s1 (.knows kk1 s2)):=⟨p2,_,_,rfl,e2,(aU.keep (am.keep (t1.trans t2)) i1),(aU.keep (am.keep t2) I1)⟩
    exact q _ _ (t1.trans t2) ⟨_,I2,⟨ok1,⟨by omega,ok2⟩⟩,by simp only [Sy.words]; omega⟩
   exact GA.nil
  refine ⟨by rw [ly4,Nf]; decide,fun l4 Hl4 hl4 sl4 el4=>?_⟩
  refine wg (sl4 _ _ (sy4 _ _ eL3)) el4 (by rw [L3,ly4,Nf]; decide) fun m4 Hm4 hm4 sm4 em4=>?_
  have sA4:=(sy4.trans sl4).trans sm4
  have sL4:am H2 Hm4:=sL3.trans sA4
  have L4:(X3++ys4).length=12:=by rw [Nx,L3,ly4]
  have B4:∀ x∈X3++ys4,iC c h Hm4 x:=fun x hx=>by
   rcases NH.mp hx with hx | hx
   ·exact (B3 x hx).same sA4
   ·exact (by4 x hx).same (sl4.trans sm4)
  have eL4:=em4
  refine jE ?_
  dsimp only [Pc,Pd]
  generalize X3++ys4=X4 at L4 B4 eL4
  clear B3 L3 eL3 by4 ly4 el4 em4
  obtain ⟨y,hy,my⟩:=Gf X4 z (m:=12) L4 (by decide)
  obtain ⟨sy,iy,oky,wy⟩:=B4 y my
  have R4:=R.to sL4
  have e24:=sL4 _ _ e2
  walk_at "rd"
  refine bI (SqL.of eL4) hy ?_
  walk_at "rd"
  refine ⟨y,sy,rfl,iy,by omega,fun H5 s5=>?_⟩
  walk_at "rd"
  refine dC (fun cm=>?_) (fun cm=>?_)
  ·walk_at "rd"
   refine ⟨qa (s5 _ _ e24),?_⟩
   walk_at "rd"
   refine bI (SqL.of (s5 _ _ eL4)) hy ?_
   walk_at "rd"
   refine kr (s5 _ _ e24) (by rw [Nf]; omega) fun H6 o6 e6=>?_
   exact ⟨_,_,_,_,_,_,rfl,(R4.to s5).push (s5 _ _ e24) o6 e6 (iy.keep s5.keep) oky (by omega),by rw [Nx]; show ss.length + 1<=_; omega⟩
  ·walk_at "rd"
   exact ⟨_,_,_,_,_,_,rfl,R4.to s5,by omega⟩
 ·rintro σ H2 ⟨ss,v6,v7,v8,v9,v10,rfl,R,hl⟩
  obtain ⟨xs,e2,px⟩:=R.at_
  have hxl:=h9 px
  have hne:xs≠[]:=fun z=>R.ne (Qi.mp (by rw [<-hxl,z]; rfl))
  obtain ⟨x1,s1,hx1,hs1,is1⟩:=so px hne
  walk_at "rd"
  exact bI (SqL.of e2) hx1 (q x1 s1 H2 R.same is1 (R.ok s1 hs1).1 (R.ok s1 hs1).2)
end
section
variable {K:Fg} {vs:List V} {H:Hp} {Q:VK} {E:XK}
open KF
noncomputable def iaR:IA->V
 | none=>.non
 | some c=>.int c
theorem MD (a:IA):iaV (iaR a)=some a:=by cases a <;> rfl
noncomputable def wAt (w:List Nat) (c:Int):Int:=(w.getD c.toNat 0:Nat)
noncomputable def fz (w:List Nat) (h:Int) (cs:List Int) (a:IA):Prop:=
 (a=none/\∀ c∈cs,wAt w c≠h)\/∃ c,a=some c/\c∈cs/\wAt w c=h/\∀ d∈cs,wAt w d=h->c<=d
theorem fz.uniq {w:List Nat} {h:Int} {cs ds:List Int} (m:∀ y,y∈cs↔y∈ds) {a b:IA} (x:fz w h cs a) (y:fz w h ds b):a=b:=by
 rcases x with ⟨rfl,x⟩ | ⟨c,rfl,x1,x2,x3⟩
 ·rcases y with ⟨rfl,_⟩ | ⟨d,rfl,y1,y2,_⟩
  ·rfl
  ·exact absurd y2 (x d ((m d).mpr y1))
 ·rcases y with ⟨rfl,y⟩ | ⟨d,rfl,y1,y2,y3⟩
  ·exact absurd x2 (y c ((m c).mp x1))
  ·have h1:=x3 d ((m d).mpr y1) y2
   have h2:=y3 c ((m c).mp x1) x2
   rw [show c=d by omega]
theorem fz.skip {w:List Nat} {h c:Int} {cs:List Int} {a:IA} (x:fz w h cs a) (e:wAt w c≠h):fz w h (cs++[c]) a:=by
 rcases x with ⟨rfl,x⟩ | ⟨d,rfl,x1,x2,x3⟩
 ·refine .inl ⟨rfl,fun y hy=>?_⟩
  rcases NH.mp hy with z | z
  ·exact x y z
  ·rw [M8.mp z]
   exact e
 ·refine .inr ⟨d,rfl,Ow _ x1,x2,fun y hy hz=>?_⟩
  rcases NH.mp hy with z | z
  ·exact x3 y z hz
  ·rw [M8.mp z] at hz
   exact absurd hz e
theorem fz.put {w:List Nat} {h c:Int} {cs:List Int} {a:IA} (x:fz w h cs a) (e:wAt w c=h) (lt:∀ d,a=some d->c < d):fz w h (cs++[c]) (some c):=by
 refine .inr ⟨c,rfl,NY _ (M8.mpr rfl),e,fun y hy hz=>?_⟩
 rcases NH.mp hy with z | z
 ·rcases x with ⟨rfl,x⟩ | ⟨d,rfl,x1,x2,x3⟩
  ·exact absurd hz (x y z)
  ·have:=lt d rfl
   have:=x3 y z hz
   omega
 ·rw [M8.mp z]
  exact Int.le_refl _
theorem fz.stay {w:List Nat} {h c d:Int} {cs:List Int} (x:fz w h cs (some d)) (e:¬ c < d):fz w h (cs++[c]) (some d):=by
 rcases x with ⟨z,_⟩ | ⟨d',z,x1,x2,x3⟩
 ·cases z
 ·cases z
  refine .inr ⟨d,rfl,Ow _ x1,x2,fun y hy hz=>?_⟩
  rcases NH.mp hy with z | z
  ·exact x3 y z hz
  ·rw [M8.mp z]
   omega
theorem BU {w:List Nat} {c:Int} (h0:0<=c) (h1:c < w.length):atI (au w) c=some (.int (wAt w c)):=by
 obtain ⟨n,rfl⟩:∃ n:Nat,c=(n:Int):=⟨c.toNat,by omega⟩
 have hn:n < w.length:=by omega
 refine cP ?_
 unfold wAt au
 rw [Nm,M7 hn]
 simp [Np,M7 hn]
noncomputable def lV (_:Fg):Sp:=fun vs H Q _=>∃ (t p:Addr) (w:List Nat) (h:Int) (ms:List Int),vs=[.ref t,.int h,.ref p]/\H t=some (.tup (au w))/\H p=some (.lst (ms.map V.int))/\ms.Pairwise (· < ·)/\(∀ c∈ms,0<=c/\c < w.length)/\
 ∀ a,fz w h ms a->Q (iaR a) H
noncomputable def jP (K:Fg):TS:=(ap (cV (ce K (aa 2)) (aj 3) (bp (be (tOp rEq (tOp (bZ K) (aa 0) (aa 3)) (aa 1))) (aJ (aa 3)) aY))
 (aJ (tC .non)))
theorem zL (h:lV K vs H Q E):jP K { nx:=fun _ H'=>Q .non H',rt:=Q } (start ["deal","holder","rising","card"] vs) H:=by
 obtain ⟨t,p,w,h,ms,rfl,et,ep,pw,hb,q⟩:=h
 show jP K _ [some _,some _,some _,none] _
 unfold jP
 walk_at "rd"
 refine oY (ms.map V.int) (SqL.of ep) (fun i σ' H2=>∃ u:Option V,σ'=[some (.ref t),some (.int h),some (.ref p),u]/\H2=H/\∀ c∈ms.take i,wAt w c≠h) ⟨none,rfl,rfl,fun c hc=>by simp at hc⟩ ?_ ?_ ?_
 ·rintro i σ' H2 hi ⟨u,rfl,rfl,_⟩
  exact SqL.of ep
 ·rintro i x σ' H2 hx ⟨u,rfl,rfl,hn⟩
  rw [Nm] at hx
  obtain ⟨c,hc,rfl⟩:=Tu.mp hx
  have hm:c∈ms:=Ng hc
  walk_at "rd"
  refine aD (SqT.of et) (BU (hb c hm).1 (hb c hm).2) ?_
  walk_at "rd"
  by_cases e:wAt w c=h
  ·rw [if_pos (decide_eq_true e)]
   walk_at "rd"
   refine q (some c) (.inr ⟨c,rfl,hm,e,fun d hd he=>?_⟩)
   obtain ⟨j,hj⟩:=T8 hd
   obtain ⟨hi1,hi2⟩:=Na.mp hc
   obtain ⟨hj1,hj2⟩:=Na.mp hj
   rcases Sv j i with z | z | z
   ·exact absurd he (hn d (Rj.mpr ⟨j,by rw [SK z]; exact hj⟩))
   ·subst z
    rw [<-hi2,<-hj2]
    exact Int.le_refl _
   ·have:=P9.mp pw i j hi1 hj1 z
    rw [hi2,hj2] at this
    omega
  ·rw [if_neg (by rw [decide_eq_false e]; exact Nk)]
   walk_at "rd"
   refine ⟨_,rfl,rfl,fun d hd=>?_⟩
   rw [ON,hc] at hd
   rcases NH.mp hd with z | z
   ·exact hn d z
   ·rw [M8.mp z]
    exact e
 ·rintro σ' H2 ⟨u,rfl,rfl,hn⟩
  walk_at "rd"
  rw [M6,NM] at hn
  exact q none (.inl ⟨rfl,hn⟩)
noncomputable def cM (_:Fg):Sp:=fun vs H Q _=>∃ z:Str,vs=[.bl true,.str z]/\Q .non H
noncomputable def gX (K:Fg):TS:=(bp (dt (tB (aa 0))) rC aY)
theorem vA (h:cM K vs H Q E):gX K { nx:=fun _ H'=>Q .non H',rt:=Q } (start ["fit","reason"] vs) H:=by
 obtain ⟨z,rfl,q⟩:=h
 show gX K _ [some _,some _] _
 unfold gX
 walk_at "rd"
 exact q
noncomputable def ng (_:Fg):Sp:=fun vs H Q _=>∃ (p:Addr) (ns:List Int) (c:Int),vs=[.ref p,.int c]/\H p=some (.lst (ns.map V.int))/\ns.length<=1000/\(∀ n∈ns,0<=n/\n < c)/\∀ H',am H H'->Q (.bl true) H'
noncomputable def lm (K:Fg):TS:=(aJ (ik (tCB (iP K) (ac (aa 0) (ac (tC (.ty "list")) ag))) (tCB (Ek K) (ac (bu (ce K (aa 0)) (fun _ _ _ _=>(aj 0)) (fun _ _ _ _=>aV) (fun _ _ _ _=>(av (dL K) [] E0 (ac (aa 0) (ac (aa 1) ag)))) [none,some 1]) ag))))
theorem BV (h:ng K vs H Q E):lm K { nx:=fun _ H'=>Q .non H',rt:=Q } (start ["thing","cards"] vs) H:=by
 obtain ⟨p,ns,c,rfl,ep,hl,hb,q⟩:=h
 show lm K _ [some _,some _] _
 unfold lm
 walk_at "rd"
 refine gU (.lst ep) (kU K) ?_
 walk_at "rd"
 refine cF (ns.map V.int) (SqL.of ep) (by rw [M6]; omega) (fun i acc _=>acc=(NT i true).map V.bl) (fun _ _=>rfl) ?_ ?_
 ·rintro p' hp' C s' H' fp i x acc H2 hx ⟨s2,e2,l2,rfl⟩
  obtain ⟨z,hz,rfl⟩:=rX hx
  have ⟨b1,b2⟩:=hb z (Ng hz)
  walk_at "rd"
  refine ⟨z,c,rfl,?_⟩
  rw [ib b1 (show z<=c - 1 by omega)]
  exact bf.put hp' (fun i acc H H' r k=>r) s2 e2 l2 (by rw [QF,Ny]; rfl)
 ·rintro p' acc H2 hp' s2 e2 rfl
  walk_at "rd"
  refine ⟨p',NT ns.length true,rfl,SqL.of (by rw [e2,M6]),?_⟩
  have ha:(NT ns.length true).all id=true:=by simp
  rw [ha]
  exact q H2 s2
theorem pj {K:Fg} {ta tv:TE} {f:Str} {D:kh} {σ:St} {H:Hp} (h:tv σ H fun y H1=>ta σ H1 fun x H2=>∃ a C dx fs,x=.ref a/\H2 a=some (.ins C dx fs)/\Cls K C/\fo K C f/\fs.length < 1000/\D.nx σ (upd H2 a (.ins C dx (hU f y fs)))):rH K ta tv f D σ H:=h
theorem fA {K:Fg} {ta:TE} {f:Str} {σ:St} {H:Hp} {Q:VK} (h:ta σ H fun x H1=>∃ a C dx fs v,x=.ref a/\H1 a=some (.ins C dx fs)/\Cls K C/\fo K C f/\fs.lookup f=some v/\Q v H1):gj K ta f σ H Q:=h
theorem LU {C:Addr} {sp:Sp} {dvs:List V} {E:XK} {t:TA} {σ:St} {H:Hp} {Q:VK} (h:t σ H fun vs H1=>∀ x dx,H1 x=none->H1 dx=none->dx≠x->sp (.ref x :: (vs++dvs)) (upd (upd H1 dx (.own x)) x (.ins C dx [])) (fun v H2=>v=.non/\Q (.ref x) H2) E):AB C sp dvs E t σ H Q:=h
theorem iY {C:Addr} {m:Str} {sp:Sp} {dvs:List V} {E:XK} {ta:TE} {t:TA} {σ:St} {H:Hp} {Q:VK} (h:ta σ H fun x H1=>∃ a dx fs,x=.ref a/\H1 a=some (.ins C dx fs)/\fs.lookup m=none/\t σ H1 fun vs H2=>sp (x :: (vs++dvs)) H2 Q E):gm C m sp dvs E ta t σ H Q:=h
noncomputable def Kx (x:Addr) (H H':Hp):Prop:=∀ b o,b≠x->H b=some o->H' b=some o
theorem Kx.refl (x:Addr) (H:Hp):Kx x H H:=fun _ _ _ e=>e
theorem Kx.same {x:Addr} {H H1 H2:Hp} (k:Kx x H H1) (s:am H1 H2):Kx x H H2:=fun b o n e=>s _ _ (k b o n e)
theorem Kx.upd {x:Addr} {H H1:Hp} {u:HO} (k:Kx x H H1):Kx x H (L2.upd H1 x u):=fun b o n e=>by rw [aQ n]; exact k b o n e
theorem kG {H H':Hp} {x p:Addr} {ws:List (List Nat)} {C dx:Addr} {fs:List (Str×V)} (D:ba H p ws) (hx:H x=some (.ins C dx fs)) (k:Kx x H H'):ba H' p ws:=by
 obtain ⟨rs,e,hr⟩:=D
 refine ⟨rs,k _ _ (fun z=>by rw [z,hx] at e; cases e) e,Paired.mapP hr fun a w e=>k _ _ (fun z=>by rw [z,hx] at e; cases e) e⟩
theorem sr {H:Hp} {x b:Addr} {C dx:Addr} {fs:List (Str×V)} {xs:List V} (hx:H x=some (.ins C dx fs)) (e:H b=some (.lst xs)):b≠x:=fun z=>by rw [z,hx] at e; cases e
theorem tX {R:Hp->Prop} {H:Hp} {a C dx:Addr} {fs:List (Str×V)} (h:∀ H3,Kx a H H3->H3 a=some (.ins C dx fs)->R H3):R (upd H a (.ins C dx fs)):=h _ (Kx.upd (Kx.refl _ _)) ay
structure Kp (M:List Addr) (H H':Hp):Prop where
 k:∀ b o,H b=some o->(b∉M\/∀ xs,o≠.lst xs)->H' b=some o
 f:∀ b,H' b=none->H b=none
theorem Kp.of {M:List Addr} {H H':Hp} (s:am H H'):Kp M H H':=⟨fun b o e _=>s b o e,fun b h=>s.free h⟩
theorem Kp.trans {M:List Addr} {H H1 H2:Hp} (a:Kp M H H1) (b:Kp M H1 H2):Kp M H H2:=⟨fun x o e h=>b.k x o (a.k x o e h) h,fun x h=>a.f x (b.f x h)⟩
theorem Kp.mono {M N:List Addr} {H H':Hp} (a:Kp M H H') (h:∀ b∈M,b∈N):Kp N H H':=⟨fun x o e q=>a.k x o e (q.imp (fun n m=>n (h x m)) id),a.f⟩
theorem Kp.keep {M:List Addr} {H H':Hp} (a:Kp M H H'):fb H H':=fun b xs e=>a.k b _ e (.inr fun _ z=>nomatch z)
theorem Kp.tup {M:List Addr} {H H':Hp} (a:Kp M H H') {b:Addr} {xs:List V} (e:H b=some (.tup xs)):H' b=some (.tup xs):=a.keep _ _ e
theorem Kp.ins {M:List Addr} {H H':Hp} (a:Kp M H H') {b C dx:Addr} {fs:List (Str×V)} (e:H b=some (.ins C dx fs)):H' b=some (.ins C dx fs):=a.k b _ e (.inr fun _ z=>nomatch z)
theorem Kp.lst {M:List Addr} {H H':Hp} (a:Kp M H H') {b:Addr} {o:HO} (n:b∉M) (e:H b=some o):H' b=some o:=a.k b _ e (.inl n)
theorem Kp.new {M:List Addr} {H0 H H':Hp} (s:am H0 H) (a:Kp M H H') (h:∀ b∈M,H0 b=none):am H0 H':=fun b o e=>a.lst (fun m=>by rw [h b m] at e; cases e) (s b o e)
theorem Kp.upd {M:List Addr} {H H':Hp} {l:Addr} {xs ys:List V} (a:Kp M H H') (e:H' l=some (.lst xs)) (hl:l∈M):Kp M H (L2.upd H' l (.lst ys)):=⟨fun b o q n=>by
 by_cases z:b=l
 ·subst z
  have:=a.k _ _ q n
  rw [e] at this
  cases this
  rcases n with n | n
  ·exact absurd hl n
  ·exact absurd rfl (n _)
 ·rw [aQ z]
  exact a.k b o q n,fun b h=>by
 by_cases z:b=l
 ·subst z
  rw [ay] at h
  cases h
 ·rw [aQ z] at h
  exact a.f b h⟩
theorem Kp.off {M:List Addr} {H H1 H2:Hp} {l:Addr} {xs ys:List V} (a:Kp M H H1) (e:H1 l=some (.lst xs)) (hl:l∈M) (o:Off l H1 H2) (e2:H2 l=some (.lst ys)):Kp M H H2:=by
 have:H2=L2.upd H1 l (.lst ys):=by
  funext b
  by_cases z:b=l
  ·subst z; rw [ay]; exact e2
  ·rw [aQ z]; exact o b z
 rw [this]
 exact a.upd e hl
noncomputable def wQ (M:List Addr) (H:Hp) (d:V) (m:List Nat×List V):Prop:=∃ t h v,d=.ref t/\H t=some (.tup [.ref h,.ref v])/\H h=some (.tup (au m.1))/\H v=some (.lst m.2)/\v∉M
theorem wQ.kp {M N:List Addr} {H H':Hp} {d:V} {m:List Nat×List V} (h:wQ M H d m) (a:Kp N H H') (hn:∀ b∈N,b∈M):wQ M H' d m:=by
 obtain ⟨t,x,v,e,h1,h2,h3,h4⟩:=h
 exact ⟨t,x,v,e,a.tup h1,a.tup h2,a.lst (fun z=>h4 (hn _ z)) h3,h4⟩
noncomputable def BW (pd ps pv pe:Addr) (T:TM):List (Str×V):=[("dealt",.ref pd),("cards",.int T.c),("sizes",.ref ps),("hands",.int T.k),("views",.ref pv),("deeds",.ref pe)]
structure TbX (G:GF) (M:List Addr) (H:Hp) (x pv pe:Addr) (T:TM) (dx pd ps:Addr) (qs:List Addr) (es:List V):Prop where
 hx:H x=some (.ins G.Table dx (BW pd ps pv pe T))
 dl:ba H pd T.ws
 nd:pd∉M
 sz:H ps=some (.lst (au T.ss))
 ns:ps∉M
 vs:H pv=some (.lst (qs.map V.ref))
 qv:Paired (fun (q:Addr) (v:List Nat)=>H q=some (.lst (au v))/\q∉M) qs T.vw
 pes:H pe=some (.lst es)
 ed:Paired (wQ M H) es T.ds
structure Tb (G:GF) (M:List Addr) (H:Hp) (x pv pe:Addr) (T:TM):Prop where
 ok:T.Ok
 ex:∃ dx pd ps qs es,TbX G M H x pv pe T dx pd ps qs es
 ne:pv≠pe
 mv:pv∈M
 me:pe∈M
 al:∀ b∈M,H b≠none
theorem ba.kp {M:List Addr} {H H':Hp} {p:Addr} {ws:List (List Nat)} (d:ba H p ws) (a:Kp M H H') (n:p∉M):ba H' p ws:=d.to' a.keep fun rs e=>a.lst n e
theorem Tb.kp {G:GF} {M N:List Addr} {H H':Hp} {x pv pe:Addr} {T:TM} (t:Tb G M H x pv pe T) (a:Kp N H H') (hn:∀ b∈N,b∈M) (n1:pv∉N) (n2:pe∉N):Tb G M H' x pv pe T:=by
 obtain ⟨dx,pd,ps,qs,es,X⟩:=t.ex
 exact ⟨t.ok,⟨dx,pd,ps,qs,es,a.ins X.hx,X.dl.kp a fun z=>X.nd (hn _ z),X.nd,a.lst (fun z=>X.ns (hn _ z)) X.sz,X.ns,a.lst n1 X.vs,Paired.mapP X.qv fun _ _ ⟨e,n⟩=>⟨a.lst (fun z=>n (hn _ z)) e,n⟩,a.lst n2 X.pes,Paired.mapP X.ed fun _ _ h=>h.kp a hn⟩,t.ne,t.mv,t.me,fun b hb z=>t.al b hb (a.f b z)⟩
theorem Tb.same {G:GF} {M:List Addr} {H H':Hp} {x pv pe:Addr} {T:TM} (t:Tb G M H x pv pe T) (s:am H H'):Tb G M H' x pv pe T:=t.kp (N:=[]) (Kp.of s) (fun _ z=>nomatch z) (fun z=>nomatch z) (fun z=>nomatch z)
theorem Tb.grow {G:GF} {M N:List Addr} {H:Hp} {x pv pe:Addr} {T:TM} (t:Tb G M H x pv pe T) {H':Hp} (s:am H H') (hn:∀ b∈N,H b=none) (ha:∀ b∈N,H' b≠none):Tb G (N++M) H' x pv pe T:=by
 obtain ⟨dx,pd,ps,qs,es,X⟩:=t.ex
 have go:∀ {b:Addr} {o:HO},H b=some o->b∉M->b∉N++M:=fun e n z=>by
  rcases NH.mp z with z | z
  ·rw [hn _ z] at e; cases e
  ·exact n z
 have hd:pd∉N++M:=by
  obtain ⟨rs,e,_⟩:=X.dl
  exact go e X.nd
 exact ⟨t.ok,⟨dx,pd,ps,qs,es,s _ _ X.hx,X.dl.same' s,hd,s _ _ X.sz,go X.sz X.ns,s _ _ X.vs,Paired.mapP X.qv fun _ _ ⟨e,n⟩=>⟨s _ _ e,go e n⟩,s _ _ X.pes,Paired.mapP X.ed fun _ _ ⟨t,h,v,e,h1,h2,h3,h4⟩=>⟨t,h,v,e,s _ _ h1,s _ _ h2,s _ _ h3,go h3 h4⟩⟩,t.ne,NY _ t.mv,NY _ t.me,fun b hb=>by
  rcases NH.mp hb with z | z
  ·exact ha b z
  ·intro y
   exact t.al b z (s.free y)⟩
theorem Tb.off {G:GF} {M:List Addr} {H:Hp} {x pv pe:Addr} {T:TM} (t:Tb G M H x pv pe T) {p:Addr} (h:H p=none):p∉M:=fun z=>t.al p z h
theorem Tb.at {G:GF} {M:List Addr} {H:Hp} {x pv pe:Addr} {T:TM} (t:Tb G M H x pv pe T) (m:Str) (h1:(m == "dealt")=false) (h2:(m == "cards")=false) (h3:(m == "sizes")=false) (h4:(m == "hands")=false) (h5:(m == "views")=false) (h6:(m == "deeds")=false):∃ dx fs,H x=some (.ins G.Table dx fs)/\fs.lookup m=none:=by
 obtain ⟨dx,pd,ps,qs,es,X⟩:=t.ex
 refine ⟨dx,_,X.hx,?_⟩
 simp only [BW,Qq,h1,h2,h3,h4,h5,h6]
noncomputable def gD (_:Fg) (G:GF):Sp:=fun vs H Q _=>∃ (M:List Addr) (x dx a:Addr) (c:Nat) (ss:List Nat),vs=[.ref x,.int c,.ref a]/\H x=some (.ins G.Table dx [])/\H a=some (.lst (au ss))/\rV c ss/\KM.cA c ss<=2000/\(∀ b∈M,H b≠none)/\x∉M/\
 ∀ (H':Hp) (pv pe:Addr),Kx x H H'->H pv=none->H pe=none->Tb G (pv :: pe :: M) H' x pv pe (TM.begun c ss)->Q .non H'
noncomputable def jQ (K:Fg) (G:GF):TS:=(ap (rH K (aa 0) (av (kZ K) [] E0 (ac (aa 1) (ac (aa 2) ag))) "dealt")
 (ap (rH K (aa 0) (aa 1) "cards")
 (ap (rH K (aa 0) (tCB (mT K) (ac (aa 2) ag)) "sizes")
 (ap (rH K (aa 0) (tCB (fc K) (ac (aa 2) ag)) "hands")
 (ap (rH K (aa 0) (bu (gh (ac (gj K (aa 0) "hands") ag)) (fun _ _ _ _=>(aj 0)) (fun _ _ _ _=>aV) (fun _ _ _ _=>(av (lR K) [] E0 (ac (gj K (aa 1) "dealt") (ac (aa 0) ag)))) [none,some 0]) "views")
 (rH K (aa 0) (d5 ag) "deeds"))))))
noncomputable abbrev BX:List Str:=["self","cards","sizes"]
theorem su {α β:Type} {F:α->β->Prop} {l:List α} {m:List β} {a:α} {b:β} (h:Paired F l m) (q:F a b):Paired F (l++[a]) (m++[b]):=by
 induction h with
 | nil=>exact .cons q .nil
 | cons x _ ih=>exact .cons x ih
theorem BY {R:Addr->List Nat->Prop}:∀ {acc:List V} {f:Nat->List Nat},(∀ j:Nat,j < acc.length->∃ q,acc[j]?=some (.ref q)/\R q (f j))->∃ qs:List Addr,acc=qs.map V.ref/\Paired R qs ((NC acc.length).map f)
 | [],_,_=>⟨[],rfl,.nil⟩
 | x :: acc,f,h=>by
  obtain ⟨qs,e,p⟩:=BY (acc:=acc) (f:=fun j=>f (j + 1)) fun j hj=>by
   obtain ⟨q,h1,h2⟩:=h (j + 1) (by rw [NK]; omega)
   exact ⟨q,by simpa using h1,h2⟩
  obtain ⟨q,h1,h2⟩:=h 0 (by simp)
  refine ⟨q :: qs,by rw [Nt,<-e]; exact congrArg (· :: acc) (by simpa using h1),?_⟩
  rw [NK,Ts,Nt,PQ]
  exact .cons h2 p
theorem zM {K:Fg} {G:GF} (ct:sk K G.Table) {vs:List V} {H:Hp} {Q:VK} {E:XK} (h:gD K G vs H Q E):jQ K G { nx:=fun _ H'=>Q .non H',rt:=Q } (start BX vs) H:=by
 obtain ⟨M,x,dx,a,c,ss,rfl,hx,e,pk,hm,hM,hxM,q⟩:=h
 have nk:∀ {H1:Hp} {b:Addr} {fs:List (Str×V)},Kx x H H1->H1 x=some (.ins G.Table dx fs)->H1 b=none->H b=none:=fun {H1 b fs} kk ex eb=>by
  cases e:H b with
  | none=>rfl
  | some o=>
   by_cases z:b=x
   ·rw [z,ex] at eb; cases eb
   ·rw [kk _ _ z e] at eb; cases eb
 have h5:=pk.l5
 have nxa:a≠x:=fun z=>by rw [z,hx] at e; cases e
 show jQ K G _ [some _,some _,some _] _
 unfold jQ
 refine bA (pj ?_)
 walk_at "rd"
 refine ⟨c,a,ss,rfl,e,pk,hm,fun p H1 s1 hp D1=>?_⟩
 have okT:=TM.Ok.begun pk hm
 have hws:∀ w∈KM.bR (ss++[c - ss.sum]) c,w.length<=1000:=fun w hw=>by
  have:=(KM.gO _ c w hw).len
  have:=pk.c12
  omega
 have hwl:(KM.bR (ss++[c - ss.sum]) c).length<=2000:=by rw [KM.kX pk.sum]; exact hm
 obtain ⟨ws,hWs⟩:∃ ws,ws=KM.bR (ss++[c - ss.sum]) c:=⟨_,rfl⟩
 rw [<-hWs] at hws hwl D1
 walk_at "rd"
 refine ⟨x,G.Table,dx,[],rfl,s1 _ _ hx,ct.cl,ct.n1,by simp,tX fun H2 l2 x2=>?_⟩
 have k2:Kx x H H2:=fun b o n e=>l2 _ _ n (s1 _ _ e)
 have D2:=kG D1 (s1 _ _ hx) l2
 refine bA (pj ?_)
 walk_at "rd"
 refine ⟨x,G.Table,dx,_,rfl,x2,ct.cl,ct.n2,PZ rfl,tX fun H3 l3 x3=>?_⟩
 have k3:Kx x H H3:=fun b o n e=>l3 _ _ n (k2 _ _ n e)
 have D3:=kG D2 x2 l3
 refine bA (pj ?_)
 walk_at "rd"
 refine rQ (SqL.of (k3 _ _ nxa e)) fun l4 H4 hl4 s4 e4=>?_
 have nxl:l4≠x:=sr (s4 _ _ x3) e4
 walk_at "rd"
 refine ⟨x,G.Table,dx,_,rfl,s4 _ _ x3,ct.cl,ct.n3,PZ rfl,tX fun H5 l5 x5=>?_⟩
 have k5:Kx x H H5:=fun b o n e=>l5 _ _ n (s4 _ _ (k3 _ _ n e))
 have D5:=kG (D3.same' s4) (s4 _ _ x3) l5
 have a5:=k5 _ _ nxa e
 refine bA (pj ?_)
 walk_at "rd"
 rw [aS]
 refine ⟨x,G.Table,dx,_,rfl,x5,ct.cl,ct.n4,PZ rfl,tX fun H6 l6 x6=>?_⟩
 have k6:Kx x H H6:=fun b o n e=>l6 _ _ n (k5 _ _ n e)
 have D6:=kG D5 x5 l6
 have e46:H6 l4=some (.lst (au ss)):=l6 _ _ nxl (l5 _ _ nxl e4)
 refine bA (pj ?_)
 walk_at "rd"
 refine fA ?_
 walk_at "rd"
 refine ⟨x,G.Table,dx,_,_,rfl,x6,ct.cl,ct.n4,rfl,?_⟩
 walk_at "rd"
 refine GL ss.length (by omega) (by omega) (by omega) (fun p' i acc H2=>acc.length=i/\∀ j:Nat,j < i->∃ q,acc[j]?=some (.ref q)/\(q≠p'/\q∉M)/\H2 q=some (.lst (au (lC ws (j:Int))))) (fun _ _ _=>⟨rfl,fun j hj=>absurd hj (Rx _)⟩) ?_ ?_
 ·intro p' hp' C s' H' fp i acc H7 hi ⟨s7,e7,l7,r7⟩
  walk_at "rd"
  refine fA ?_
  walk_at "rd"
  refine ⟨x,G.Table,dx,_,_,rfl,s7 _ _ x6,ct.cl,ct.n1,rfl,?_⟩
  walk_at "rd"
  refine ⟨p,ws,(i:Int),rfl,D6.same' s7,hws,by omega,fun q8 H8 hq8 s8 e8=>?_⟩
  obtain ⟨r1,r2⟩:=r7
  refine bf.putW hp' (s7.trans s8) (s8 _ _ e7) l7 fun H9 o9=>⟨by rw [Nx,r1]; rfl,fun j hj=>?_⟩
  by_cases hj2:j < i
  ·obtain ⟨q,h1,h2,h3⟩:=r2 j hj2
   exact ⟨q,by rw [QL (by omega)]; exact h1,h2,(o9 _ h2.1).trans (s8 _ _ h3)⟩
  ·have ej:j=i:=by omega
   subst ej
   have hqp:q8≠p':=fun z=>by rw [z,e7] at hq8; cases hq8
   exact ⟨q8,by rw [Sa (by omega),r1,UK]; rfl,⟨hqp,fun z=>hM _ z (nk (k6.same s7) (s7 _ _ x6) hq8)⟩,(o9 _ hqp).trans e8⟩
 ·intro pv acc H7 hpv s7 e7 ⟨r1,r2⟩
  walk_at "rd"
  refine ⟨x,G.Table,dx,_,rfl,s7 _ _ x6,ct.cl,ct.n5,PZ rfl,tX fun H8 kk x8=>?_⟩
  have k8:Kx x H H8:=fun b o n e=>kk _ _ n (s7 _ _ (k6 _ _ n e))
  have D8:=kG (D6.same' s7) (s7 _ _ x6) kk
  have v8:=kk _ _ (sr (s7 _ _ x6) e7) e7
  refine pj ?_
  walk_at "rd"
  refine ⟨by simp [Nf],fun pe H9 hpe s9 e9=>?_⟩
  walk_at "rd"
  refine ⟨x,G.Table,dx,_,rfl,s9 _ _ x8,ct.cl,ct.n6,PZ rfl,tX fun HA kz xA=>?_⟩
  have kA:Kx x H HA:=fun b o n e=>kz _ _ n (s9 _ _ (k8 _ _ n e))
  have gv:=nk k6 x6 hpv
  have ge:=nk k8 x8 hpe
  have npv:pv≠pe:=bn v8 hpe
  have npd:p∉pv :: pe :: M:=fun z=>by
   obtain ⟨rs6,er6,_⟩:=id D6
   rcases Nc.mp z with z | z
   ·rw [z] at er6; rw [er6] at hpv; cases hpv
   ·rcases Nc.mp z with z | z
    ·obtain ⟨rs8,er8,_⟩:=id D8
     rw [z] at er8; rw [er8] at hpe; cases hpe
    ·exact hM _ z hp
  have e48:=kk _ _ nxl (s7 _ _ e46)
  have nps:l4∉pv :: pe :: M:=fun z=>by
   rcases Nc.mp z with z | z
   ·rw [z] at e46; rw [e46] at hpv; cases hpv
   ·rcases Nc.mp z with z | z
    ·rw [z] at e48; rw [e48] at hpe; cases hpe
    ·exact hM _ z (nk k3 x3 hl4)
  have rr:=BY (R:=fun q v=>(q≠pv/\q∉M)/\H8 q=some (.lst (au v))) (f:=fun j=>lC ws ((j:Nat):Int)) (fun j hj=>by
   obtain ⟨q,h1,h2,h3⟩:=r2 j (by rw [<-r1]; exact hj)
   exact ⟨q,h1,h2,kk _ _ (sr (s7 _ _ x6) h3) h3⟩)
  rw [r1] at rr
  obtain ⟨qs,rfl,hqs⟩:=rr
  have up:∀ {b:Addr} {xs:List V},H8 b=some (.lst xs)->HA b=some (.lst xs):=fun e=>kz _ _ (sr (s9 _ _ x8) (s9 _ _ e)) (s9 _ _ e)
  have pe9:=kz _ _ (sr (s9 _ _ x8) e9) e9
  refine q HA pv pe kA gv ge ⟨okT,⟨dx,p,l4,qs,[],xA,?_,npd,up e48,nps,up v8,?_,pe9,.nil⟩,npv,Nd,Nn _ Nd,fun b hb y=>?_⟩
  ·show ba _ p (KM.bR (ss++[c - ss.sum]) c)
   rw [<-hWs]
   exact kG (D8.same' s9) (s9 _ _ x8) kz
  ·show Paired _ qs ((NC ss.length).map fun i=>lC (KM.bR (ss++[c - ss.sum]) c) ((i:Nat):Int))
   rw [<-hWs]
   refine Paired.mapP hqs fun a' v ⟨h2,h3⟩=>⟨up h3,fun z=>?_⟩
   rcases Nc.mp z with z | z
   ·exact h2.1 z
   ·rcases Nc.mp z with z | z
    ·rw [z] at h3; rw [h3] at hpe; cases hpe
    ·exact h2.2 z
  ·rcases Nc.mp hb with z | z
   ·rw [z,up v8] at y; cases y
   ·rcases Nc.mp z with z | z
    ·rw [z,pe9] at y; cases y
    ·cases eb:H b with
     | none=>exact hM b z eb
     | some o=>rw [kA b o (fun w=>hxM (w ▸ z)) eb] at y; cases y
end
section
open KF
noncomputable def kI (_:Fg) (G:GF):Sp:=fun vs H Q _=>∃ (M:List Addr) (x pv pe:Addr) (T:TM),vs=[.ref x]/\Tb G M H x pv pe T/\∀ (p:Addr) (H':Hp),H p=none->am H H'->ba H' p T.ws->Q (.ref p) H'
noncomputable def i9 (K:Fg) (G:GF):TS:=(aJ (tCB (mT K) (ac (gj K (aa 0) "dealt") ag)))
noncomputable abbrev zN:List Str:=["self"]
theorem yz {K:Fg} {G:GF} (ct:sk K G.Table) {vs:List V} {H:Hp} {Q:VK} {E:XK} (h:kI K G vs H Q E):i9 K G { nx:=fun _ H'=>Q .non H',rt:=Q } (start zN vs) H:=by
 obtain ⟨M,x,pv,pe,T,rfl,t,q⟩:=h
 obtain ⟨dx,pd,ps,qs,es,X⟩:=t.ex
 show i9 K G _ [some _] _
 unfold i9
 walk_at "rd"
 refine fA ?_
 walk_at "rd"
 refine ⟨x,G.Table,dx,_,_,rfl,X.hx,ct.cl,ct.n1,rfl,?_⟩
 walk_at "rd"
 obtain ⟨rs,er,hr⟩:=X.dl
 refine rQ (SqL.of er) fun p H1 hp s1 e1=>?_
 exact q p H1 hp s1 ⟨rs,e1,Paired.mapP hr fun a w e=>s1 _ _ e⟩
theorem TbX.view {G:GF} {M:List Addr} {H:Hp} {x pv pe:Addr} {T:TM} {dx pd ps:Addr} {qs:List Addr} {es:List V} (X:TbX G M H x pv pe T dx pd ps qs es) {i:Nat} (hi:i < T.vw.length):∃ qi,qs[i]?=some qi/\H qi=some (.lst (au (T.vw.getD i [])))/\qi∉M:=by
 have lq:qs.length=T.vw.length:=NP X.qv
 have hq:qs[i]?=some (qs[i]'(by omega)):=M7 _
 obtain ⟨v,hv,h1,h2⟩:=bx X.qv hq
 exact ⟨_,hq,by rw [gP hv]; exact h1,h2⟩
noncomputable def lW (_:Fg) (G:GF):Sp:=fun vs H Q _=>∃ (M:List Addr) (x pv pe:Addr) (T:TM) (i:Nat),vs=[.ref x,.int i]/\Tb G M H x pv pe T/\i < T.k/\∀ (p:Addr) (H':Hp),H p=none->am H H'->H' p=some (.lst (au (T.vw.getD i [])))->Q (.ref p) H'
noncomputable def jR (K:Fg) (G:GF):TS:=(ap (dI (av (cM K) [] E0 (ac (av (dL K) [] E0 (ac (aa 1) (ac (gj K (aa 0) "hands") ag))) (ac (tC (.str "this is no hand")) ag))))
 (aJ (tCB (mT K) (ac (tOp (cb K) (gj K (aa 0) "views") (aa 1)) ag))))
noncomputable abbrev BZ:List Str:=["self","hand"]
theorem zO {K:Fg} {G:GF} (ct:sk K G.Table) {vs:List V} {H:Hp} {Q:VK} {E:XK} (h:lW K G vs H Q E):jR K G { nx:=fun _ H'=>Q .non H',rt:=Q } (start BZ vs) H:=by
 obtain ⟨M,x,pv,pe,T,i,rfl,t,hi,q⟩:=h
 obtain ⟨dx,pd,ps,qs,es,X⟩:=t.ex
 show jR K G _ [some _,some _] _
 unfold jR
 walk_at "rd"
 refine fA ?_
 walk_at "rd"
 refine ⟨x,G.Table,dx,_,_,rfl,X.hx,ct.cl,ct.n4,rfl,?_⟩
 walk_at "rd"
 refine ⟨(i:Int),(T.k:Int),rfl,?_⟩
 rw [ib (by omega) (by omega)]
 walk_at "rd"
 refine ⟨_,rfl,?_⟩
 walk_at "rd"
 refine fA ?_
 walk_at "rd"
 refine ⟨x,G.Table,dx,_,_,rfl,X.hx,ct.cl,ct.n5,rfl,?_⟩
 walk_at "rd"
 obtain ⟨qi,hq,h2,_⟩:=X.view (i:=i) (by rw [t.ok.len]; exact hi)
 refine bI (SqL.of X.vs) (cP (v:=.ref qi) (by rw [Nm,hq]; rfl)) ?_
 walk_at "rd"
 refine rQ (SqL.of h2) fun p H1 hp s1 e1=>?_
 exact q p H1 hp s1 e1
noncomputable def Tld (G:GF) (M:List Addr) (H:Hp) (x pv pe:Addr) (T:TM) (ys:List V) (Q:VK):Prop:=∀ p Hm H',Kp [pv,pe] H Hm->Tb G M Hm x pv pe T->Hm p=none->am Hm H'->H' p=some (.lst ys)->Q (.ref p) H'
theorem LV {G:GF} {M:List Addr} {H:Hp} {x pv pe:Addr} {T:TM} {ys:List V} {Q:VK} (h:∀ p H',H p=none->Kp [pv,pe] H H'->H' p=some (.lst ys)->Tb G M H' x pv pe T->Q (.ref p) H'):Tld G M H x pv pe T ys Q:=fun p _ H' k t hp s e=>h p H' (k.f _ hp) (k.trans (Kp.of s)) e (t.same s)
theorem Tld.up {G:GF} {M:List Addr} {H H0:Hp} {x pv pe:Addr} {T:TM} {ys:List V} {Q:VK} (h:Tld G M H0 x pv pe T ys Q) (s:am H0 H):Tld G M H x pv pe T ys Q:=fun p Hm H' k t hp s' e=>h p Hm H' ((Kp.of s).trans k) t hp s' e
noncomputable def iD (_:Fg) (G:GF):Sp:=fun vs H Q _=>∃ (M:List Addr) (x pv pe tp vp:Addr) (T:TM) (g:List Nat) (as:List IA) (ys:List V),vs=[.ref x,.ref tp,.ref vp]/\Tb G M H x pv pe T/\H tp=some (.tup (au g))/\(∀ h∈g,h < T.k)/\H vp=some (.lst ys)/\vp∉M/\ys.map iaV=as.map some/\as.length=T.n/\T.ds.length < 1000/\
 Tld G M H x pv pe (T.learn g as ys) ys Q
noncomputable def ja (K:Fg) (G:GF):TS:=(ap (cV (rD K (aa 1)) (aj 3) (aH (av (vx K) [] E0 (ac (tOp (cb K) (gj K (aa 0) "views") (aa 3)) (ac (aa 2) ag))) (kj (gj K (aa 0) "views") (aa 3) kS)))
 (ap (dI (tBM K "list" ip (gj K (aa 0) "deeds") (ac (dN (ac (aa 1) (ac (aa 2) ag))) ag)))
 (aJ (tCB (mT K) (ac (aa 2) ag)))))
noncomputable abbrev zP:List Str:=["self","hands","values","hand"]
theorem EF {n j:Nat} (h:j < n):ixN n (j:Int)=some j:=by
 unfold ixN
 rw [if_pos (by omega),if_pos (by omega)]
 simp
theorem wR {α β:Type} {F:α->β->Prop} {l:List α} {m:List β} (h:Paired F l m) {a:α} {b:β} (r:F a b):∀ i:Nat,Paired F (l.set i a) (m.set i b):=by
 induction h with
 | nil=>exact fun i=>.nil
 | cons r' t ih=>
  intro i
  cases i with
  | zero=>exact .cons r t
  | succ i=>exact .cons r' (ih i)
theorem yA {K:Fg} {G:GF} (ct:sk K G.Table) {vs:List V} {H:Hp} {Q:VK} {E:XK} (h:iD K G vs H Q E):ja K G { nx:=fun _ H'=>Q .non H',rt:=Q } (start zP vs) H:=by
 obtain ⟨M,x,pv,pe,tp,vp,T,g,as,ys,rfl,t,et,hg,evp,nvp,hia,hla,hds,q⟩:=h
 obtain ⟨dx,pd,ps,qs,es,X⟩:=t.ex
 have n2:=t.ok.n2
 show ja K G _ [some _,some _,some _,none] _
 unfold ja
 walk_at "rd"
 have me1:pv∈[pv,pe]:=Nd
 have me2:pe∈[pv,pe]:=Nn _ Nd
 have sub:∀ b∈[pv,pe],b∈M:=fun b hb=>by
  rcases Nc.mp hb with z | z
  ·rw [z]; exact t.mv
  ·rw [M8.mp z]; exact t.me
 have nvp':vp∉[pv,pe]:=fun z=>nvp (sub _ z)
 refine rR (au g) (SqT.of et) (fun j σ' H2=>∃ (u:Option V) (qs2:List Addr),σ'=[some (.ref x),some (.ref tp),some (.ref vp),u]/\Kp [pv] H H2/\H2 pv=some (.lst (qs2.map V.ref))/\Paired (fun (q:Addr) (v:List Nat)=>H2 q=some (.lst (au v))/\q∉M) qs2 (lrn T.vw (g.take j) as)) ⟨none,qs,rfl,Kp.of (am.refl _),X.vs,X.qv⟩ ?_ ?_ ?_
 ·rintro j σ' H2 hj ⟨u,qs2,rfl,k2,_⟩
  exact SqT.of (k2.tup et)
 ·rintro j y σ' H2 hy ⟨u,qs2,rfl,k2,e2,p2⟩
  obtain ⟨hd,hh,rfl⟩:=fg hy
  have hk:=hg hd (Ng hh)
  have hx2:=k2.ins X.hx
  have lq:qs2.length=T.vw.length:=by rw [NP p2,mO]
  have hdl:hd < qs2.length:=by rw [lq,t.ok.len]; exact hk
  have hq:qs2[hd]?=some (qs2[hd]'hdl):=M7 _
  generalize qs2[hd]'hdl=qi at hq
  obtain ⟨v,hv,h1,h2⟩:=bx p2 hq
  have hvw:Within T.n v:=pc (P:=Within T.n) (fun v hv=>m7 hv hla) (g.take j) T.vw (fun h hh=>by rw [t.ok.len]; exact hg h (T9 hh)) t.ok.win v (Ng hv)
  walk_at "rd"
  refine fA ?_
  walk_at "rd"
  refine ⟨x,G.Table,dx,_,_,rfl,hx2,ct.cl,ct.n5,rfl,?_⟩
  walk_at "rd"
  refine bI (SqL.of e2) (cP (v:=.ref qi) (by rw [Nm,hq]; rfl)) ?_
  walk_at "rd"
  refine ⟨qi,vp,v,ys,as,rfl,h1,k2.lst (fun z=>nvp' (by rw [M8.mp z]; exact me1)) evp,hia,by rw [hvw.1,hla],by rw [hvw.1]; omega,fun q' H3 hq' s3 e3=>?_⟩
  walk_at "rd"
  refine fA ?_
  walk_at "rd"
  refine ⟨x,G.Table,dx,_,_,rfl,s3 _ _ hx2,ct.cl,ct.n5,rfl,?_⟩
  walk_at "rd"
  refine mS (s3 _ _ e2) (EF (by rw [M6]; exact hdl)) ?_
  have nq:q'≠pv:=(bn e2 hq').symm
  have nqM:q'∉M:=fun z=>t.al _ z (k2.f _ hq')
  refine ⟨_,qs2.set hd q',rfl,(k2.trans (Kp.of s3)).upd (s3 _ _ e2) (M8.mpr rfl),by rw [ay,UL],?_⟩
  rw [bX hh,BJ,gP hv]
  refine wR (Paired.mapP p2 fun a w ⟨z1,z2⟩=>⟨?_,z2⟩) ⟨by rw [aQ nq]; exact e3,nqM⟩ hd
  rw [aQ (show a≠pv from fun z=>z2 (by rw [z]; exact t.mv))]
  exact s3 _ _ z1
 ·rintro σ' H2 ⟨u,qs2,rfl,k2,e2,p2⟩
  rw [aS,NM] at p2
  have hx2:=k2.ins X.hx
  have ee2:=k2.lst (fun z=>t.ne (M8.mp z).symm) X.pes
  walk_at "rd"
  refine fA ?_
  walk_at "rd"
  refine ⟨x,G.Table,dx,_,_,rfl,hx2,ct.cl,ct.n6,rfl,?_⟩
  refine ⟨.inl ⟨rfl,_,SqL.of ee2⟩,?_⟩
  walk_at "rd"
  refine ⟨by simp [Nf],fun p3 H3 hp3 s3 e3=>?_⟩
  walk_at "rd"
  have les:es.length=T.ds.length:=NP X.ed
  refine kr (s3 _ _ ee2) (by rw [Nf]; omega) fun H4 o4 e4=>?_
  have k4:Kp [pv,pe] H H4:=((k2.mono fun b hb=>by rw [M8.mp hb]; exact me1).trans (Kp.of s3)).off (s3 _ _ ee2) me2 o4 e4
  walk_at "rd"
  refine rQ (SqL.of (k4.lst nvp' evp)) fun p5 H5 hp5 s5 e5=>?_
  have keep4:∀ {b:Addr} {o:HO},b≠pe->H2 b=some o->H4 b=some o:=fun nb e=>(o4 _ nb).trans (s3 _ _ e)
  refine q p5 H4 H5 k4 ⟨t.ok.learn hg hla,⟨dx,pd,ps,qs2,es++[.ref p3],k4.ins X.hx,X.dl.kp k4 fun z=>X.nd (sub _ z),X.nd,k4.lst (fun z=>X.ns (sub _ z)) X.sz,X.ns,keep4 t.ne e2,Paired.mapP p2 fun a w ⟨z1,z2⟩=>⟨keep4 (show a≠pe from fun z=>z2 (by rw [z]; exact t.me)) z1,z2⟩,e4,?_⟩,t.ne,t.mv,t.me,fun b hb z=>t.al b hb (k4.f b z)⟩ hp5 s5 e5
  refine su (Paired.mapP X.ed fun _ _ h=>h.kp k4 sub) ⟨p3,tp,vp,rfl,?_,k4.tup et,k4.lst nvp' evp,nvp⟩
  exact (o4 _ (fun z=>by rw [z] at hp3; rw [ee2] at hp3; cases hp3)).trans e3
noncomputable def dX (_:Fg) (G:GF):Sp:=fun vs H Q _=>∃ (M:List Addr) (x pv pe:Addr) (T:TM) (v:V) (s:Sy),vs=[.ref x,v]/\Tb G M H x pv pe T/\aU H v s/\s.Ok T.c T.k/\s.words<=30/\
 ∀ p H',H p=none->am H H'->H' p=some (.lst (blV T.n (T.tr s)))->Q (.ref p) H'
noncomputable def iE (K:Fg) (G:GF):TS:=(ap (bp (dt (tB (av (m8 K) [] E0 (ac (gj K (aa 0) "cards") (ac (gj K (aa 0) "hands") (ac (aa 1) ag)))))) rC aY)
 (aJ (av (cj K 35) [] E0 (ac (gj K (aa 0) "dealt") (ac (gj K (aa 0) "views") (ac (aa 1) ag))))))
noncomputable abbrev yB:List Str:=["self","S"]
theorem Tb.tab {G:GF} {M:List Addr} {H:Hp} {x pv pe:Addr} {T:TM} {dx pd ps:Addr} {qs:List Addr} {es:List V} (ok:T.Ok) (X:TbX G M H x pv pe T dx pd ps qs es):Table H pd pv T.c T.n T.ws T.vw:=
 ⟨X.dl,rfl,ok.cards,by have:=ok.n2; omega,by have:=ok.pk.c12; omega,⟨qs,X.vs,Paired.mapP X.qv fun _ _ h=>h.1⟩,ok.win,by rw [ok.len]; have:=ok.pk.l5; show T.ss.length<=1000; omega⟩
theorem wS {K:Fg} {G:GF} (ct:sk K G.Table) {vs:List V} {H:Hp} {Q:VK} {E:XK} (h:dX K G vs H Q E):iE K G { nx:=fun _ H'=>Q .non H',rt:=Q } (start yB vs) H:=by
 obtain ⟨M,x,pv,pe,T,v,s,rfl,t,hS,hok,hw,q⟩:=h
 obtain ⟨dx,pd,ps,qs,es,X⟩:=t.ex
 show iE K G _ [some _,some _] _
 unfold iE
 walk_at "rd"
 refine fA ?_
 walk_at "rd"
 refine ⟨x,G.Table,dx,_,_,rfl,X.hx,ct.cl,ct.n2,rfl,?_⟩
 walk_at "rd"
 refine fA ?_
 walk_at "rd"
 refine ⟨x,G.Table,dx,_,_,rfl,X.hx,ct.cl,ct.n4,rfl,?_⟩
 walk_at "rd"
 refine ⟨T.c,T.k,v,s,rfl,hS,hok,hw,fun H1 s1=>?_⟩
 have x1:=s1 _ _ X.hx
 walk_at "rd"
 refine fA ?_
 walk_at "rd"
 refine ⟨x,G.Table,dx,_,_,rfl,x1,ct.cl,ct.n1,rfl,?_⟩
 walk_at "rd"
 refine fA ?_
 walk_at "rd"
 refine ⟨x,G.Table,dx,_,_,rfl,x1,ct.cl,ct.n5,rfl,?_⟩
 walk_at "rd"
 refine ⟨pd,pv,v,T.c,T.n,T.ws,T.vw,s,rfl,(Tb.tab t.ok X).same s1,hS.keep s1.keep,by rw [t.ok.len]; exact hok,by omega,fun p H2 hp2 s2 e2=>?_⟩
 walk_at "rd"
 exact q p H2 (s1.free hp2) (s1.trans s2) e2
noncomputable def lX (_:Fg) (G:GF):Sp:=fun vs H Q _=>∃ (M:List Addr) (x pv pe tp:Addr) (T:TM) (g:List Nat) (v:V) (s:Sy),vs=[.ref x,.ref tp,v]/\Tb G M H x pv pe T/\H tp=some (.tup (au g))/\g.Pairwise (· < ·)/\(∀ h∈g,h < T.k)/\aU H v s/\s.Ok T.c T.k/\s.words<=30/\T.ds.length < 1000/\
 Tld G M H x pv pe (T.word g s) (blV T.n (T.tr s)) Q
noncomputable def jS (K:Fg) (G:GF):TS:=(ap (dI (av (cM K) [] E0 (ac (av (jK K) [] E0 (ac (aa 1) (ac (gj K (aa 0) "hands") ag))) (ac (tC (.str "this is no tuple of hands")) ag))))
 (aJ (gm G.Table "learn" (iD K G) [] E0 (aa 0) (ac (aa 1) (ac (gm G.Table "truths" (dX K G) [] E0 (aa 0) (ac (aa 2) ag)) ag)))))
noncomputable abbrev B5:List Str:=["self","hands","S"]
theorem zQ {K:Fg} {G:GF} (ct:sk K G.Table) {vs:List V} {H:Hp} {Q:VK} {E:XK} (h:lX K G vs H Q E):jS K G { nx:=fun _ H'=>Q .non H',rt:=Q } (start B5 vs) H:=by
 obtain ⟨M,x,pv,pe,tp,T,g,v,s,rfl,t,et,pw,hg,hS,hok,hw,hds,q⟩:=h
 obtain ⟨dx,pd,ps,qs,es,X⟩:=t.ex
 show jS K G _ [some _,some _,some _] _
 unfold jS
 walk_at "rd"
 refine fA ?_
 walk_at "rd"
 refine ⟨x,G.Table,dx,_,_,rfl,X.hx,ct.cl,ct.n4,rfl,?_⟩
 walk_at "rd"
 refine ⟨tp,g,T.k,rfl,et,pw,hg,?_⟩
 walk_at "rd"
 refine ⟨_,rfl,?_⟩
 walk_at "rd"
 obtain ⟨dx1,fs1,hx1,hl1⟩:=t.at "learn" (by decide +kernel) (by decide +kernel) (by decide +kernel) (by decide +kernel) (by decide +kernel) (by decide +kernel)
 refine iY ?_
 walk_at "rd"
 refine ⟨x,dx1,fs1,rfl,hx1,hl1,?_⟩
 walk_at "rd"
 obtain ⟨dx2,fs2,hx2,hl2⟩:=t.at "truths" (by decide +kernel) (by decide +kernel) (by decide +kernel) (by decide +kernel) (by decide +kernel) (by decide +kernel)
 refine iY ?_
 walk_at "rd"
 refine ⟨x,dx2,fs2,rfl,hx2,hl2,?_⟩
 walk_at "rd"
 refine ⟨M,x,pv,pe,T,v,s,rfl,t,hS,hok,hw,fun p1 H1 hp1 s1 e1=>?_⟩
 walk_at "rd"
 refine ⟨M,x,pv,pe,tp,p1,T,g,_,_,rfl,t.same s1,s1 _ _ et,hg,e1,t.off hp1,BI _ _,tW _ _,hds,fun p2 Hm H2 k2 t2 hp2 s2 e2=>?_⟩
 walk_at "rd"
 exact q p2 Hm H2 ((Kp.of s1).trans k2) t2 hp2 s2 e2
noncomputable def nh (w:List Nat) (h:Int) (ns:List Int):IA:=(ns.filter fun c=>decide (wAt w c=h)).min?
theorem GS (w:List Nat) (h:Int) (ns:List Int):fz w h ns (nh w h ns):=by
 unfold nh
 cases e:(ns.filter fun c=>decide (wAt w c=h)).min? with
 | none=>
  rw [List.min?_eq_none_iff] at e
  refine .inl ⟨rfl,fun c hc z=>?_⟩
  have:c∈ns.filter fun c=>decide (wAt w c=h):=Py.mpr ⟨hc,decide_eq_true z⟩
  rw [e] at this
  cases this
 | some m=>
  rw [List.min?_eq_some_iff] at e
  obtain ⟨h1,h2⟩:=e
  obtain ⟨h3,h4⟩:=Py.mp h1
  exact .inr ⟨m,rfl,h3,of_decide_eq_true h4,fun d hd z=>h2 d (Py.mpr ⟨hd,decide_eq_true z⟩)⟩
noncomputable def fT (ws:List (List Nat)) (h:Int) (ns:List Int):List IA:=ws.map fun w=>nh w h ns
noncomputable def TM.show (T:TM) (i:Nat) (h:Int) (ns:List Int):TM:=T.learn [i] (fT T.ws h ns) ((fT T.ws h ns).map iaR)
noncomputable def lY (_:Fg) (G:GF):Sp:=fun vs H Q _=>∃ (M:List Addr) (x pv pe l:Addr) (T:TM) (i:Nat) (h:Int) (ns:List Int),vs=[.ref x,.int i,.int h,.ref l]/\Tb G M H x pv pe T/\H l=some (.lst (ns.map V.int))/\i < T.k/\0<=h/\h<=T.k/\ns.length < 64/\(∀ n∈ns,0<=n/\n < T.c)/\T.ds.length < 1000/\
 Tld G M H x pv pe (T.show i h ns) ((fT T.ws h ns).map iaR) Q
noncomputable def jT (K:Fg) (G:GF):TS:=(ap (dI (av (cM K) [] E0 (ac (av (dL K) [] E0 (ac (aa 1) (ac (gj K (aa 0) "hands") ag))) (ac (tC (.str "this is no hand")) ag))))
 (ap (dI (av (cM K) [] E0 (ac (av (dL K) [] E0 (ac (aa 2) (ac (tOp (rI0 fun i j=>.int (i + j)) (gj K (aa 0) "hands") (tC (.int 1))) ag))) (ac (tC (.str "this is no holder")) ag))))
 (ap (dI (av (cM K) [] E0 (ac (av (ng K) [] E0 (ac (aa 3) (ac (gj K (aa 0) "cards") ag))) (ac (tC (.str "this is no list of cards")) ag))))
 (ap (aH (vz K (ac (aa 3) ag)) (aj 4))
 (aJ (gm G.Table "learn" (iD K G) [] E0 (aa 0) (ac (dN (ac (aa 1) ag)) (ac (bu (ce K (gj K (aa 0) "dealt")) (fun _ _ _ _=>(aj 0)) (fun _ _ _ _=>aV) (fun _ _ _ _=>(av (lV K) [] E0 (ac (aa 0) (ac (aa 1) (ac (aa 2) ag))))) [none,some 2,some 4]) ag))))))))
noncomputable abbrev B6:List Str:=["self","hand","holder","some","rising"]
theorem zR {K:Fg} {G:GF} (ct:sk K G.Table) {vs:List V} {H:Hp} {Q:VK} {E:XK} (h:lY K G vs H Q E):jT K G { nx:=fun _ H'=>Q .non H',rt:=Q } (start B6 vs) H:=by
 obtain ⟨M,x,pv,pe,l,T,i,h,ns,rfl,t,el,hi,h0,h1,hns,hnb,hds,q⟩:=h
 obtain ⟨dx,pd,ps,qs,es,X⟩:=t.ex
 have n2:=t.ok.n2
 show jT K G _ [some _,some _,some _,some _,none] _
 unfold jT
 walk_at "rd"
 refine fA ?_
 walk_at "rd"
 refine ⟨x,G.Table,dx,_,_,rfl,X.hx,ct.cl,ct.n4,rfl,?_⟩
 walk_at "rd"
 refine ⟨(i:Int),(T.k:Int),rfl,?_⟩
 rw [ib (by omega) (by omega)]
 walk_at "rd"
 refine ⟨_,rfl,?_⟩
 walk_at "rd"
 refine fA ?_
 walk_at "rd"
 refine ⟨x,G.Table,dx,_,_,rfl,X.hx,ct.cl,ct.n4,rfl,?_⟩
 walk_at "rd"
 refine ⟨h,(T.k:Int) + 1,rfl,?_⟩
 rw [ib (by omega) (by omega)]
 walk_at "rd"
 refine ⟨_,rfl,?_⟩
 walk_at "rd"
 refine fA ?_
 walk_at "rd"
 refine ⟨x,G.Table,dx,_,_,rfl,X.hx,ct.cl,ct.n2,rfl,?_⟩
 walk_at "rd"
 refine ⟨l,ns,(T.c:Int),rfl,el,by omega,hnb,fun H1 s1=>?_⟩
 walk_at "rd"
 refine ⟨_,rfl,?_⟩
 walk_at "rd"
 refine GP ?_
 walk_at "rd"
 refine ⟨l,ns,rfl,SqL.of (s1 _ _ el),hns,fun rp H2 ms hrp s2 e2 pw mm=>?_⟩
 have s12:=s1.trans s2
 have t2:=t.same s12
 walk_at "rd"
 obtain ⟨dx1,fs1,hx1,hl1⟩:=t2.at "learn" (by decide +kernel) (by decide +kernel) (by decide +kernel) (by decide +kernel) (by decide +kernel) (by decide +kernel)
 refine iY ?_
 walk_at "rd"
 refine ⟨x,dx1,fs1,rfl,hx1,hl1,?_⟩
 walk_at "rd"
 refine ⟨by simp [Nf],fun tp H3 htp s3 e3=>?_⟩
 walk_at "rd"
 refine fA ?_
 walk_at "rd"
 have s13:=s12.trans s3
 refine ⟨x,G.Table,dx,_,_,rfl,s13 _ _ X.hx,ct.cl,ct.n1,rfl,?_⟩
 obtain ⟨rs,er,hr⟩:=X.dl.same' s13
 have lr:rs.length=T.n:=NP hr
 refine cF (rs.map V.ref) (SqL.of er) (by rw [M6]; omega) (fun j acc _=>acc=(fT (T.ws.take j) h ns).map iaR) (fun H' _=>rfl) ?_ ?_
 ·rintro p' hp' C s' H' fp j xx acc H6 hxx ⟨s6,e6,l6,rfl⟩
  obtain ⟨b',hb',rfl⟩:=m5 hxx
  obtain ⟨w,hwi,ew⟩:=bx hr hb'
  have hw1:=t.ok.cards w (Ng hwi)
  walk_at "rd"
  refine ⟨b',rp,w,h,ms,rfl,s6 _ _ ew,s6 _ _ (s3 _ _ e2),pw,fun c hc=>by rw [hw1]; exact hnb c ((mm c).mp hc),fun a ha=>?_⟩
  have ea:a=nh w h ns:=ha.uniq mm (GS w h ns)
  subst ea
  refine bf.put hp' (fun _ _ _ _ r _=>r) s6 e6 l6 ?_
  rw [bX hwi]
  unfold fT
  rw [Ny,Ny]
  rfl
 ·rintro pl acc H6 hpl s6 e6 rfl
  rw [M6,lr,show T.n=T.ws.length from rfl,NM] at e6
  walk_at "rd"
  have s16:=s13.trans s6
  refine ⟨M,x,pv,pe,tp,pl,T,[i],fT T.ws h ns,_,rfl,t.same s16,s6 _ _ e3,fun k hk=>by rw [M8.mp hk]; exact hi,e6,t.off (s13.free hpl),by rw [PQ]; exact Pl fun a _=>MD a,by unfold fT; rw [M6]; rfl,hds,fun p2 Hm H7 k7 t7 hp2 s7 e7=>?_⟩
  walk_at "rd"
  exact q p2 Hm H7 ((Kp.of s16).trans k7) t7 hp2 s7 e7
end
noncomputable def dkP (kvs:List (Key×V)) (i:Int) (v:V):List (Key×V):=
 if (kvs.any fun kv=>decide (kv.1=(OZ i:Key)))=true then kvs.map (fun kv=>if kv.1=(OZ i:Key) then (kv.1,v) else kv) else kvs++[((OZ i:Key),v)]
noncomputable def DkI (kvs:List (Key×V)):Prop:=∀ p∈kvs,∃ i:Int,p.1=OZ i
theorem DkI.put {kvs:List (Key×V)} (h:DkI kvs) (i:Int) (v:V):DkI (dkP kvs i v):=by
 unfold dkP
 split
 ·intro p hp
  obtain ⟨q,hq,rfl⟩:=Os.mp hp
  by_cases e:q.1=OZ i
  ·rw [if_pos e]; exact ⟨i,e⟩
  ·rw [if_neg e]; exact h q hq
 ·intro p hp
  rcases NH.mp hp with hp | hp
  ·exact h p hp
  ·rw [M8.mp hp]; exact ⟨i,rfl⟩
section
variable {σ:St} {H:Hp} {Q:VK} {a:Addr} {kvs:List (Key×V)} {i:Int} {v:V}
end
section
variable {g:CF TG} {tt:CF TT} {te:CF TE} {σ₀:St} {Q:VK} {H:Hp}
end
theorem DF {H:Hp} {Q:VK} {l:Addr} {xs:List V} (e:H l=some (.lst xs)) (h:∀ H',Off l H H'->H' l=some (.lst [])->Q .non H'):v3 (.ref l) [] H Q:=⟨l,xs,rfl,rfl,e,h _ iq ay⟩
section
open KF
noncomputable def d6 (M:List Addr) (H:Hp) (lv:Addr) (vw:List (List Nat)):Prop:=∃ us:List Addr,H lv=some (.lst (us.map V.ref))/\Paired (fun (u:Addr) (v:List Nat)=>H u=some (.lst (au v))/\u∉M) us vw
theorem d6.kp {M N:List Addr} {H H':Hp} {lv:Addr} {vw:List (List Nat)} (h:d6 M H lv vw) (k:Kp N H H') (hn:∀ b∈N,b∈M) (n:lv∉N):d6 M H' lv vw:=let ⟨us,e,q⟩:=h; ⟨us,k.lst n e,Paired.mapP q fun _ _ ⟨z1,z2⟩=>⟨k.lst (fun y=>z2 (hn _ y)) z1,z2⟩⟩
theorem d6.same {M:List Addr} {H H':Hp} {lv:Addr} {vw:List (List Nat)} (h:d6 M H lv vw) (s:am H H'):d6 M H' lv vw:=h.kp (N:=[]) (Kp.of s) (fun _ z=>nomatch z) (fun z=>nomatch z)
theorem d6.views {M:List Addr} {H:Hp} {lv:Addr} {vw:List (List Nat)} (h:d6 M H lv vw):dW H lv vw:=let ⟨us,e,q⟩:=h; ⟨us,e,Paired.mapP q fun _ _ z=>z.1⟩
theorem d6.get {M:List Addr} {H:Hp} {lv:Addr} {vw:List (List Nat)} (h:d6 M H lv vw) {i:Nat} (hi:i < vw.length):∃ (us:List Addr) (u:Addr),H lv=some (.lst (us.map V.ref))/\us.length=vw.length/\atI (us.map V.ref) (i:Int)=some (.ref u)/\H u=some (.lst (au (vw.getD i []))):=by
 obtain ⟨us,e,q⟩:=h
 have lu:us.length=vw.length:=NP q
 have hu:us[i]?=some (us[i]'(by omega)):=M7 _
 obtain ⟨v,hv,h1,_⟩:=bx q hu
 exact ⟨us,_,e,lu,cP (by rw [Nm,hu]; rfl),by rw [gP hv]; exact h1⟩
theorem d6.set {M:List Addr} {H:Hp} {lv nl:Addr} {vw:List (List Nat)} {us:List Addr} {v:List Nat} (h:d6 M H lv vw) (hm:lv∈M) (e:H lv=some (.lst (us.map V.ref))) (i:Nat) (en:H nl=some (.lst (au v))) (nn:nl∉M):d6 M (upd H lv (.lst ((us.map V.ref).set i (.ref nl)))) lv (vw.set i v):=by
 obtain ⟨us',e',q⟩:=h
 rw [e] at e'
 have eu:us=us':=by
  have:=HO.lst.inj (Nl e')
  exact List.map_inj_right (fun _ _ z=>V.ref.inj z) |>.mp this
 subst eu
 have ne:∀ {b:Addr},b∉M->b≠lv:=fun n z=>n (z ▸ hm)
 refine ⟨us.set i nl,by rw [ay,UL],wR (Paired.mapP q fun _ _ ⟨z1,z2⟩=>⟨by rw [aQ (ne z2)]; exact z1,z2⟩) ⟨by rw [aQ (ne nn)]; exact en,nn⟩ i⟩
theorem IE {n:Nat} {v:List Nat} (hw:Within n v) (hc:bm v=v) (i:Nat) (hi:i < n):v.getD (v.getD i 0) 0=v.getD i 0:=by
 obtain ⟨h1,h2⟩:=dJ hw hi
 have:=(GJ hc h1).1
 rw [h1] at this
 rw [Np (i:=v.getD i 0),<-this]
 rfl
theorem d6.tab {M:List Addr} {H:Hp} {lv pd:Addr} {T:TM} (h:d6 M H lv T.vw) (ok:T.Ok) (d:ba H pd T.ws):Table H pd lv T.c T.n T.ws T.vw:=
 ⟨d,rfl,ok.cards,by have:=ok.n2; omega,by have:=ok.pk.c12; omega,h.views,ok.win,by rw [ok.len]; have:=ok.pk.l5; show T.ss.length<=1000; omega⟩
theorem B7 {c:Nat} {ss:List Nat} (h:ss.sum<=c):1<=KM.cA c ss:=by
 have:=KM.qd ss c h
 have f:=KM.h7 c
 rcases Qo (KM.cA c ss) with z | z
 ·rw [z,Nat.zero_mul] at this; omega
 ·exact z
theorem TM.Ok.n1 {T:TM} (h:T.Ok):1<=T.n:=by
 show 1<=(KM.bR _ _).length
 rw [KM.kX h.pk.sum]
 exact B7 h.pk.sum
theorem zz {α β:Type} {xs:List α} {ys:List β} {i:Nat} {x:α} {y:β} (hx:xs[i]?=some x) (hy:ys[i]?=some y):(xs.zip ys).take (i + 1)=(xs.zip ys).take i++[(x,y)]:=bX (by rw [Pw]; exact ⟨hx,hy⟩)
noncomputable def fU (_:Fg) (G:GF):Sp:=fun vs H Q _=>∃ (M:List Addr) (x pv pe lv:Addr) (T:TM),vs=[.ref x,.ref lv]/\Tb G M H x pv pe T/\d6 M H lv T.vw/\∀ H',am H H'->Q (.bl true) H'
noncomputable def jb (K:Fg) (G:GF):TS:=(ap (cV (i3 aR K (ac (aa 1) ag)) (da K 2 (aW (aj 2) (aW (aj 3) cZ))) (ap (aH (gm G.Table "view" (lW K G) [] E0 (aa 0) (ac (aa 2) ag)) (aj 4))
 (ap (bp (tOr (dt (tB (av (ku K) [] E0 (ac (aa 4) ag)))) (be (tOp (mZ K true) (aa 4) (aa 3)))) (aJ (tC (.bl false))) aY)
 (dI (Eh K "list" v3 (aa 4))))))
 (aJ (tC (.bl true))))
noncomputable abbrev zT:List Str:=["_law_table","_law_views","_law_hand","_law_view","_law_seen"]
theorem yC {K:Fg} {G:GF} {vs:List V} {H:Hp} {Q:VK} {E:XK} (h:fU K G vs H Q E):jb K G { nx:=fun _ H'=>Q .non H',rt:=Q } (start zT vs) H:=by
 obtain ⟨M,x,pv,pe,lv,T,rfl,t,L,q⟩:=h
 have n2:=t.ok.n2
 obtain ⟨us,el,hu⟩:=id L
 have lu:us.length=T.vw.length:=NP hu
 show jb K G _ [some _,some _,none,none,none] _
 unfold jb
 walk_at "rd"
 refine mL (S:=aR) (us.map V.ref) (SqL.of el) (fun i σ H3=>∃ (u2 u3 u4:Option V),σ=[some (.ref x),some (.ref lv),u2,u3,u4]/\am H H3) ⟨none,none,none,rfl,am.refl _⟩ ?_ ?_ ?_
 ·rintro i σ H3 hi ⟨u2,u3,u4,rfl,s3⟩
  exact SqL.of (s3 _ _ el)
 ·rintro i y TT σ H3 H4 hy ⟨u2,u3,u4,rfl,s3⟩ hTT s4 e4
  obtain ⟨u,hui,rfl⟩:=m5 hy
  obtain ⟨v,hv,eu,_⟩:=bx hu hui
  have hi:i < T.k:=by rw [<-t.ok.len]; exact (Na.mp hv).1
  have s34:=s3.trans s4
  have t4:=t.same s34
  have hvl:=(t.ok.win v (Ng hv)).1
  walk_at "rd"
  refine dO (SqT.of e4) ?_
  walk_at "rd"
  obtain ⟨dx1,fs1,hx1',hl1⟩:=t4.at "view" (by decide +kernel) (by decide +kernel) (by decide +kernel) (by decide +kernel) (by decide +kernel) (by decide +kernel)
  refine iY ?_
  walk_at "rd"
  refine ⟨x,dx1,fs1,rfl,hx1',hl1,?_⟩
  walk_at "rd"
  refine ⟨M,x,pv,pe,T,i,rfl,t4,hi,fun pw H5 hpw s5 e5=>?_⟩
  rw [gP hv] at e5
  walk_at "rd"
  refine ⟨pw,v.map fun (s:Nat)=>((s:Nat):Int),rfl,by rw [<-dm]; exact e5,by rw [M6]; omega,fun H6 s6=>?_⟩
  walk_at "rd"
  have s06:=(s34.trans s5).trans s6
  refine Dt 1 (by decide) (wC (SqL.of (s6 _ _ e5)) (SqL.of (s06 _ _ eu)) (by rw [dm]; exact zx _)) ?_
  walk_at "rd"
  refine ⟨qa (s6 _ _ e5),?_⟩
  walk_at "rd"
  refine DF (s6 _ _ e5) fun H7 o7 e7=>?_
  exact ⟨_,_,_,rfl,s06.off (s34.free hpw) o7⟩
 ·rintro σ H3 ⟨u2,u3,u4,rfl,s3⟩
  walk_at "rd"
  exact q H3 s3
end
section
variable {K:Fg} {vs:List V} {H:Hp} {Q:VK} {E:XK}
open KF
theorem Ku {n:Nat} {P P':Nat->Prop}:Ei (blV n P) (blV n P') (fun j=>@decide (P j↔P' j) (N5 _)):=by
 intro j x y hx hy
 obtain ⟨hj,rfl⟩:=eO hx
 obtain ⟨_,rfl⟩:=eO hy
 refine .inl ⟨rfl,rfl,?_⟩
 by_cases a:P j <;> by_cases b:P' j <;> (delta eqV; simp [a,b])
theorem IF {n:Nat} {P P':Nat->Prop}:gT (blV n P) (blV n P') (fun j=>@decide (P j↔P' j) (N5 _))=@decide (∀ i,i < n->(P i↔P' i)) (N5 _):=by
 unfold gT
 rw [br,br,PP]
 by_cases h:∀ i,i < n->(P i↔P' i)
 ·rw [<-cdt h]
  simp
  intro i hi
  exact h i hi
 ·rw [<-cdf h,beq_self_eq_true,Bool.and_true,<-Vu,SO]
  intro z
  apply h
  intro i hi
  exact @of_decide_eq_true _ (N5 _) (z i (O1.mpr hi))
theorem LW {K:Fg} {H:Hp} {Q:VK} {a b:Addr} {n:Nat} {P P':Nat->Prop} (h1:SqL K H a (blV n P)) (h2:SqL K H b (blV n P')) (h:Q (.bl (@decide (∀ i,i < n->(P i↔P' i)) (N5 _))) H):jB (SqL K) false (.ref a) (.ref b) H Q:=
 ⟨a,b,_,_,_,rfl,rfl,h1,h2,Ku,by rw [IF]; exact h⟩
section
open Classical
theorem B8 {K:Fg} {H:Hp} {a b:Addr} {n:Nat} {P P':Nat->Prop} {Q:VK} (ea:H a=some (.lst (blV n P))) (eb:H b=some (.lst (blV n P'))) (hn:n<=100000) (q:∀ p H',H p=none->am H H'->H' p=some (.lst (blV n fun i=>P i/\P' i))->Q (.ref p) H'):
  ∃ a' b' xs' ys',[V.ref a,V.ref b]=[.ref a',.ref b']/\aR.Sq K H a' xs'/\aR.Sq K H b' ys'/\∀ p,H p=none->∃ W:Nat->Nat->List V->Hp->Prop,(∃ m,W 0 m [] (upd H p (.lst [])))/\∀ (C:Addr) (s':Shared) (H':Hp) (fp:List Addr),bO (Itz aR aR K a' b') (da K 2 (aW (aj 0) (aW (aj 1) cZ))) aV (ik (aa 0) (aa 1)) [none,none] p Q W:=by
 refine mU (g:=fun _ _ _ _=>da K 2 (aW (aj 0) (aW (aj 1) cZ))) (tt:=fun _ _ _ _=>aV) (te:=fun _ _ _ _=>ik (aa 0) (aa 1)) (S1:=aR) (S2:=aR) _ _ (SqL.of ea) (SqL.of eb) (fun H' s=>s.seq (SqL.of ea)) (fun H' s=>s.seq (SqL.of eb)) (by rw [br]; omega) (fun i acc _=>acc=blV i fun i=>P i/\P' i) (fun _ _=>rfl) ?_ ?_
 ·rintro p hp C s' H' fp i x y T acc H2 H3 hx hy ⟨s2,e2,l2,rfl⟩ hT s3 e3 e4
  obtain ⟨hi,rfl⟩:=eO hx
  obtain ⟨_,rfl⟩:=eO hy
  refine dO (SqT.of e3) ?_
  walk_at "rd"
  by_cases h:P i
  ·rw [decide_eq_true h]
   refine lN ?_
   walk_at "rd"
   refine bf.put hp (fun _ _ _ _ r _=>r) (s2.trans s3) e4 l2 ?_
   rw [cc]
   congr 3
   exact decide_eq_decide.mpr ⟨fun q=>⟨h,q⟩,fun q=>q.2⟩
  ·rw [decide_eq_false h]
   refine lM ?_
   refine bf.put hp (fun _ _ _ _ r _=>r) (s2.trans s3) e4 l2 ?_
   rw [cc]
   congr 3
   exact cdf fun q=>h q.1
 ·rintro p acc H2 hp s2 e2 rfl
  rw [br,br,PP] at e2
  exact q _ _ hp s2 e2
theorem ME {K:Fg} {H:Hp} {a b:Addr} {n:Nat} {P P':Nat->Prop} {Q:VK} (ea:H a=some (.lst (blV n P))) (eb:H b=some (.lst (blV n P'))) (hn:n<=100000) (q:∀ p H',H p=none->am H H'->H' p=some (.lst (blV n fun i=>P i\/P' i))->Q (.ref p) H'):
  ∃ a' b' xs' ys',[V.ref a,V.ref b]=[.ref a',.ref b']/\aR.Sq K H a' xs'/\aR.Sq K H b' ys'/\∀ p,H p=none->∃ W:Nat->Nat->List V->Hp->Prop,(∃ m,W 0 m [] (upd H p (.lst [])))/\∀ (C:Addr) (s':Shared) (H':Hp) (fp:List Addr),bO (Itz aR aR K a' b') (da K 2 (aW (aj 0) (aW (aj 1) cZ))) aV (yh (aa 0) (aa 1)) [none,none] p Q W:=by
 refine mU (g:=fun _ _ _ _=>da K 2 (aW (aj 0) (aW (aj 1) cZ))) (tt:=fun _ _ _ _=>aV) (te:=fun _ _ _ _=>yh (aa 0) (aa 1)) (S1:=aR) (S2:=aR) _ _ (SqL.of ea) (SqL.of eb) (fun H' s=>s.seq (SqL.of ea)) (fun H' s=>s.seq (SqL.of eb)) (by rw [br]; omega) (fun i acc _=>acc=blV i fun i=>P i\/P' i) (fun _ _=>rfl) ?_ ?_
 ·rintro p hp C s' H' fp i x y T acc H2 H3 hx hy ⟨s2,e2,l2,rfl⟩ hT s3 e3 e4
  obtain ⟨hi,rfl⟩:=eO hx
  obtain ⟨_,rfl⟩:=eO hy
  refine dO (SqT.of e3) ?_
  walk_at "rd"
  by_cases h:P i
  ·rw [decide_eq_true h]
   refine lN ?_
   refine bf.put hp (fun _ _ _ _ r _=>r) (s2.trans s3) e4 l2 ?_
   rw [cc]
   congr 3
   exact cdt (.inl h)
  ·rw [decide_eq_false h]
   refine lM ?_
   walk_at "rd"
   refine bf.put hp (fun _ _ _ _ r _=>r) (s2.trans s3) e4 l2 ?_
   rw [cc]
   congr 3
   exact decide_eq_decide.mpr ⟨.inr,fun q=>q.resolve_left h⟩
 ·rintro p acc H2 hp s2 e2 rfl
  rw [br,br,PP] at e2
  exact q _ _ hp s2 e2
end
noncomputable def Rep (n:Nat) (v:List Nat):Prop:=∀ i,i < n->v.getD (v.getD i 0) 0=v.getD i 0
theorem GT {K:Fg} {H:Hp} {d:Addr} {w:List Nat} {h:Int} {Q:VK} (e:H d=some (.tup (au w))) (hl:w.length<=1000) (q:∀ p H',H p=none->am H H'->H' p=some (.lst ((eX w h).map V.int))->Q (.ref p) H'):
  ∃ a' xs',[V.ref d]=[.ref a']/\eD.Sq K H a' xs'/\∀ p,H p=none->∃ W:Nat->Nat->List V->Hp->Prop,(∃ m,W 0 m [] (upd H p (.lst [])))/\∀ (C:Addr) (s':Shared) (H':Hp) (fp:List Addr),bO (Ite eD K a') (da K 2 (aW (aj 0) (aW (aj 1) cZ))) (be (tOp rEq (aa 1) (aa 2))) (aa 0) [none,none,some (.int h)] p Q W:=by
 rw [dm] at e
 refine Du (g:=fun _ _ _ _=>da K 2 (aW (aj 0) (aW (aj 1) cZ))) (tt:=fun _ _ _ _=>be (tOp rEq (aa 1) (aa 2))) (te:=fun _ _ _ _=>aa 0) (S:=eD) _ (SqT.of e) (fun H' s=>s.tup (SqT.of e)) (by rw [M6,M6]; omega) (fun i acc _=>acc=(oM (w.map fun (s:Nat)=>((s:Nat):Int)) h i).map V.int) (fun H' _=>rfl) ?_ ?_
 ·rintro r hr C s' H' fp i x T acc H2 H3 hx ⟨s2,e2,l2,rfl⟩ hT s3 e3 e4
  obtain ⟨z,hz,rfl⟩:=rX hx
  refine dO (SqT.of e3) ?_
  walk_at "rd"
  have eu:=rW (w.map fun (s:Nat)=>((s:Nat):Int)) h i
  refine dC (fun c=>?_) (fun c=>?_)
  ·walk_at "rd"
   refine bf.put hr (fun _ _ _ _ r _=>r) (s2.trans s3) e4 l2 ?_
   rw [eu,if_pos (by rw [hz,c]),Ny]
   rfl
  ·refine bf.skip (s2.trans s3) e4 l2 ?_
   rw [eu,if_neg (by rw [hz]; intro z; exact c (Nl z)),O6]
 ·rintro p acc H2 hp s2 e2 rfl
  rw [M6,M6] at e2
  exact q _ _ hp s2 e2
noncomputable def cG (_:Fg):Sp:=fun vals H Q _=>∃ (a b:Addr) (n:Nat) (P:Nat->Prop),vals=[.ref a,.ref b]/\H a=some (.lst (blV n P))/\H b=some (.lst (blV n P))/\n<=100000/\∀ H',am H H'->Q (.bl true) H'
noncomputable def fB (K:Fg):TS:=(ap (bp (tOr (dt (tB (tCB (iP K) (ac (aa 0) (ac (tC (.ty "list")) ag))))) (be (tOp (mZ K true) (aa 0) (aa 1)))) (aJ (tC (.bl false))) aY)
 (aJ (tOp (jB (SqL K) false) (bu (ce K (aa 0)) (fun _ _ _ _=>(aj 0)) (fun _ _ _ _=>(dt (tB (tCB (iP K) (ac (aa 0) (ac (tC (.ty "bool")) ag)))))) (fun _ _ _ _=>(aa 0)) [none]) (d5 ag))))
theorem rk (h:cG K vs H Q E):fB K { nx:=fun _ H'=>Q .non H',rt:=Q } (start ["_law_found","_law_due"] vs) H:=by
 obtain ⟨a,b,n,P,rfl,ea,eb,hn,q⟩:=h
 show fB K _ [some _,some _] _
 unfold fB
 walk_at "rd"
 refine gU (.lst ea) (kU K) ?_
 walk_at "rd"
 refine Dt 1 (by decide) (wC (SqL.of ea) (SqL.of eb) (Ir n P)) ?_
 walk_at "rd"
 refine cF _ (SqL.of ea) (by rw [br]; omega) (fun i acc _=>acc=[]) (fun _ _=>rfl) ?_ ?_
 ·rintro p hp C s' H' fp i x acc H2 hx ⟨s2,e2,l2,r2⟩
  obtain ⟨hi,rfl⟩:=eO hx
  subst r2
  walk_at "rd"
  refine gU (.bl _) (zF K) ?_
  walk_at "rd"
  exact bf.skip s2 e2 l2 rfl
 ·rintro p acc H2 hp s2 e2 rfl
  walk_at "rd"
  refine ⟨by simp [Nf],fun p3 H3 hp3 s3 e3=>?_⟩
  refine JC (ns:=[]) (ms:=[]) (SqL.of (s3 _ _ e2)) (SqL.of e3) ?_
  exact q _ (s2.trans s3)
end
section
variable {K:Fg} {vs:List V} {H:Hp} {Q:VK} {E:XK}
open KF
section
open Classical
noncomputable def fV (v:List Nat) (L:Nat->Prop) (i:Nat):MK->Option V:=fun k=>if ∃ j,j < i/\L j/\k=.inl (some ((v.getD j 0:Nat):Int)) then some (.bl true) else none
theorem wT (v:List Nat) (L:Nat->Prop) (k:MK):none=fV v L 0 k:=by
 unfold fV
 rw [if_neg (fun ⟨j,h,_⟩=>absurd h (by omega))]
theorem wU {v:List Nat} {L:Nat->Prop} {i:Nat} (h:¬ L i) (k:MK):fV v L i k=fV v L (i + 1) k:=by
 unfold fV
 have e:(∃ j,j < i/\L j/\k=.inl (some ((v.getD j 0:Nat):Int)))↔∃ j,j < i + 1/\L j/\k=.inl (some ((v.getD j 0:Nat):Int)):=by
  constructor
  ·rintro ⟨j,h1,h2⟩; exact ⟨j,by omega,h2⟩
  ·rintro ⟨j,h1,h2,h3⟩
   by_cases c:j=i
   ·rw [c] at h2; exact absurd h2 h
   ·exact ⟨j,by omega,h2,h3⟩
 by_cases q:∃ j,j < i/\L j/\k=.inl (some ((v.getD j 0:Nat):Int))
 ·rw [if_pos q,if_pos (e.mp q)]
 ·rw [if_neg q,if_neg (fun z=>q (e.mpr z))]
theorem zA {v:List Nat} {L:Nat->Prop} {i:Nat} (h:L i) (k:MK):i4 (fV v L i) (.inl (some ((v.getD i 0:Nat):Int))) (.bl true) k=fV v L (i + 1) k:=by
 unfold i4 fV
 by_cases c:k=.inl (some ((v.getD i 0:Nat):Int))
 ·rw [if_pos c,if_pos ⟨i,by omega,h,c⟩]
 ·rw [if_neg c]
  by_cases q:∃ j,j < i/\L j/\k=.inl (some ((v.getD j 0:Nat):Int))
  ·rw [if_pos q,if_pos (let ⟨j,h1,h2⟩:=q; ⟨j,by omega,h2⟩)]
  ·rw [if_neg q,if_neg]
   rintro ⟨j,h1,h2,h3⟩
   by_cases d:j=i
   ·rw [d] at h3; exact c h3
   ·exact q ⟨j,by omega,h2,h3⟩
theorem IG {v:List Nat} {P:Nat->Prop} {n i:Nat}:(fV v (fun j=>¬ P j) n (.inl (some ((v.getD i 0:Nat):Int)))).isNone=decide (KN n v P i):=by
 unfold fV
 by_cases q:KN n v P i
 ·rw [if_neg]
  ·exact cdt q
  ·rintro ⟨j,h1,h2,h3⟩
   injection h3 with h3
   injection h3 with h3
   exact h2 (q j h1 (by omega))
 ·rw [if_pos]
  ·exact cdf q
  ·obtain ⟨j,h⟩:=Ua.mp q
   obtain ⟨h1,h⟩:=Sw.mp h
   obtain ⟨h2,h3⟩:=Sw.mp h
   exact ⟨j,h1,h3,by rw [h2]⟩
noncomputable def jU (_:Fg):Sp:=fun vs H Q _=>∃ (a b:Addr) (n:Nat) (v:List Nat) (P:Nat->Prop),vs=[.ref a,.ref b]/\H a=some (.lst (au v))/\H b=some (.lst (blV n P))/\Within n v/\n<=100000/\
 ∀ p H',H p=none->am H H'->H' p=some (.lst (blV n (KN n v P)))->Q (.ref p) H'
noncomputable def ln (K:Fg):TS:=(ap (aH o0 (aj 2))
 (ap (cV (i3 aR K (ac (aa 1) ag)) (da K 2 (aW (aj 3) (aW (aj 4) cZ))) (bp (dt (tB (aa 4))) (aH (tC (.bl true)) (kj (aa 2) (tOp (cb K) (aa 0) (aa 3)) wn)) aY))
 (aJ (bu (ce K (aa 0)) (fun _ _ _ _=>(aj 0)) (fun _ _ _ _=>aV) (fun _ _ _ _=>(tOp (vn true) (aa 0) (aa 1))) [none,some 2]))))
theorem B9 {K:Fg} {H:Hp} {a d:Addr} {n m:Nat} {v:List Nat} {P:Nat->Prop} {Q:VK} (ea:H a=some (.lst (au v))) (hv:Within n v) (hn:n<=100000) (dx:Dx H d false (fV v (fun j=>¬ P j) n) m) (q:∀ p H',H p=none->am H H'->H' p=some (.lst (blV n (KN n v P)))->Q (.ref p) H'):
  ∃ a',V.ref a=.ref a'/\(∃ xs,SqL K H a' xs)/\∀ p,H p=none->∃ W:Nat->Nat->List V->Hp->Prop,(∃ m,W 0 m [] (upd H p (.lst [])))/\∀ (C:Addr) (s':Shared) (H':Hp) (fp:List Addr),bO (Itl K a') (aj 0) aV (tOp (vn true) (aa 0) (aa 1)) [none,some (.ref d)] p Q W:=by
 refine cF (g:=fun _ _ _ _=>aj 0) (tt:=fun _ _ _ _=>aV) (te:=fun _ _ _ _=>tOp (vn true) (aa 0) (aa 1)) (au v) (SqL.of ea) (by rw [aS,hv.1]; omega) (fun i acc _=>acc=blV i (KN n v P)) (fun _ _=>rfl) ?_ ?_
 ·rintro r hr C s' H' fp i x acc H4 hx ⟨s4,e4,l4,rfl⟩
  obtain ⟨z,hz,rfl⟩:=fg hx
  have hi:i < n:=by have:=(Na.mp hz).1; rw [hv.1] at this; exact this
  obtain ⟨hz',hzn⟩:=dJ hv hi
  rw [hz] at hz'
  have ez:z=v.getD i 0:=Nl hz'
  walk_at "rd"
  refine Bt (dx.same s4) (k:=.inl (some (z:Int))) rfl rfl ?_
  refine bf.put hr (fun _ _ _ _ r _=>r) s4 e4 l4 ?_
  rw [cc,ez,IG]
 ·rintro r acc H4 hr s4 e4 rfl
  rw [aS,hv.1] at e4
  exact q _ _ hr s4 e4
theorem Ca (h:jU K vs H Q E):ln K { nx:=fun _ H'=>Q .non H',rt:=Q } (start ["_law_view","_law_truths","_law_lacks","_law_place","_law_truth"] vs) H:=by
 obtain ⟨a,b,n,v,P,rfl,ea,eb,hv,hn,q⟩:=h
 show ln K _ [some _,some _,none,none,none] _
 unfold ln
 walk_at "rd"
 refine tN false fun d H1 hd s1 dx1=>?_
 walk_at "rd"
 refine mL (S:=aR) (blV n P) (SqL.of (s1 _ _ eb)) (fun i σ H3=>∃ (u1 u2:Option V),σ=[some (.ref a),some (.ref b),some (.ref d),u1,u2]/\am H H3/\Dx H3 d false (fV v (fun j=>¬ P j) i) i) ?_ ?_ ?_ ?_
 ·exact ⟨_,_,rfl,s1,dx1.congr (wT _ _)⟩
 ·rintro i σ H3 hi ⟨u1,u2,rfl,s3,dx3⟩
  exact SqL.of (s3 _ _ eb)
 ·rintro i x T σ H3 H4 hx ⟨u1,u2,rfl,s3,dx3⟩ hT s4 eT
  obtain ⟨hi,rfl⟩:=eO hx
  refine dO (SqT.of eT) ?_
  have dx4:=dx3.same s4
  have s34:=s3.trans s4
  walk_at "rd"
  by_cases h:P i
  ·rw [decide_eq_true h]
   walk_at "rd"
   exact ⟨_,_,rfl,s34,(dx4.congr (wU (fun z=>z h))).le (Pn i)⟩
  ·rw [decide_eq_false h]
   walk_at "rd"
   refine bI (SqL.of (s34 _ _ ea)) (jn (dJ hv hi).1) ?_
   refine Bu dx4 (k:=.inl (some ((v.getD i 0:Nat):Int))) rfl rfl (by rw [Nf]; omega) fun H5 o5 dx5=>?_
   exact ⟨_,_,rfl,s34.off hd o5,dx5.congr (zA h)⟩
 ·rintro σ H3 ⟨u1,u2,rfl,s3,dx3⟩
  rw [br] at dx3
  walk_at "rd"
  exact B9 (s3 _ _ ea) hv hn dx3 fun p H4 hp s4 e4=>q p H4 (s3.free hp) (s3.trans s4) e4
noncomputable def jV (_:Fg):Sp:=fun vals H Q _=>∃ (a g b:Addr) (n:Nat) (vs:List (List Nat)) (gs:List Nat) (P:Nat->Prop),vals=[.ref a,.ref g,.ref b]/\dW H a vs/\H g=some (.tup (au gs))/\(∀ k∈gs,k < vs.length)/\H b=some (.lst (blV n P))/\(∀ v∈vs,Within n v)/\n<=100000/\
 ∀ p H',H p=none->am H H'->H' p=some (.lst (blV n fun i=>∀ v∈gs.map (fun h=>vs.getD h []),KN n v P i))->Q (.ref p) H'
noncomputable def lp (K:Fg):TS:=(ap (aH (bu (ce K (aa 2)) (fun _ _ _ _=>(aj 0)) (fun _ _ _ _=>aV) (fun _ _ _ _=>(tC (.bl true))) [none]) (aj 3))
 (ap (cV (rD K (aa 1)) (aj 4) (aH (bu (lO aR aR K (ac (aa 3) (ac (av (jU K) [] E0 (ac (tOp (cb K) (aa 0) (aa 4)) (ac (aa 2) ag))) ag))) (fun _ _ _ _=>(da K 2 (aW (aj 0) (aW (aj 1) cZ)))) (fun _ _ _ _=>aV) (fun _ _ _ _=>(ik (aa 0) (aa 1))) [none,none]) (aj 3)))
 (aJ (aa 3))))
theorem Cb (h:jV K vs H Q E):lp K { nx:=fun _ H'=>Q .non H',rt:=Q } (start ["_law_views_here","_law_group_here","_law_truths","_law_found","_law_hand"] vs) H:=by
 obtain ⟨a,g,b,n,vs,gs,P,rfl,hV,eg,hg,eb,hw,hn,q⟩:=h
 show lp K _ [some _,some _,some _,none,none] _
 unfold lp
 walk_at "rd"
 refine cF (blV n P) (SqL.of eb) (by rw [br]; omega) (fun i acc _=>acc=blV i (fun k=>∀ v∈(gs.take 0).map (fun h=>vs.getD h []),KN n v P k)) (fun _ _=>rfl) ?_ ?_
 ·rintro p hp C s' H' fp i x acc H2 hx ⟨s2,e2,l2,rfl⟩
  walk_at "rd"
  refine bf.put hp (fun _ _ _ _ r _=>r) s2 e2 l2 ?_
  rw [cc]
  congr 3
  exact cdt (fun v hv=>by simp at hv)
 ·rintro p acc H2 hp s2 e2 rfl
  rw [br] at e2
  walk_at "rd"
  refine rR (au gs) (SqT.of (s2 _ _ eg)) (fun i σ H3=>∃ (u1:Option V) (p:Addr),σ=[some (.ref a),some (.ref g),some (.ref b),some (.ref p),u1]/\H p=none/\am H H3/\H3 p=some (.lst (blV n fun k=>∀ v∈(gs.take i).map (fun h=>vs.getD h []),KN n v P k))) ?_ ?_ ?_ ?_
  ·exact ⟨_,p,rfl,hp,s2,e2⟩
  ·rintro i σ H3 _ ⟨u1,p,rfl,hp,s3,e3⟩
   exact SqT.of (s3 _ _ eg)
  ·rintro i x σ H3 hx ⟨u1,p,rfl,hp,s3,e3⟩
   obtain ⟨k,hk,rfl⟩:=fg hx
   walk_at "rd"
   obtain ⟨vr,r,e4,e5,e6,e7⟩:=jw (hV.same s3) (hg k (Ng hk))
   refine bI (SqL.of e4) e5 ?_
   walk_at "rd"
   refine ⟨r,b,n,vs.getD k [],P,rfl,e6,s3 _ _ eb,hw _ e7,hn,fun c H4 hc s4 e8=>?_⟩
   walk_at "rd"
   refine B8 (s4 _ _ e3) e8 hn fun p2 H5 hp2 s5 e9=>?_
   walk_at "rd"
   refine ⟨_,p2,rfl,s3.free (s4.free hp2),(s3.trans s4).trans s5,?_⟩
   rw [e9]
   congr 2
   refine lG fun i _=>?_
   rw [bX hk,Ny]
   exact ⟨fun h w hw=>(NH.mp hw).elim (h.1 w) fun z=>by rw [M8.mp z]; exact h.2,fun h=>⟨fun w hw=>h w (Ow _ hw),h _ (by simp)⟩⟩
  ·rintro σ H3 ⟨u1,p,rfl,hp,s3,e3⟩
   rw [aS,NM] at e3
   walk_at "rd"
   exact q _ _ hp s3 e3
noncomputable def EG (n:Nat) (P:Nat->Prop):Nat:=((NC n).filter fun i=>decide (P i)).length
theorem LX {n:Nat} {P P':Nat->Prop} (h:∀ i,i < n->P' i->P i) (ne:¬ ∀ i,i < n->(P' i↔P i)):EG n P' < EG n P:=by
 unfold EG
 have le:∀ l:List Nat,(∀ i∈l,P' i->P i)->(l.filter fun i=>decide (P' i)).length<=(l.filter fun i=>decide (P i)).length:=by
  intro l
  induction l with
  | nil=>intro _; exact M9 _
  | cons x r ih=>
   intro hh
   have i1:=ih fun i hi=>hh i (Nn _ hi)
   by_cases a:P' x
   ·rw [Oe (by simpa using a),Oe (by simpa using hh x (Nd ..) a)]
    simp; omega
   ·rw [Oq (by simpa using a)]
    by_cases b:P x
    ·rw [Oe (by simpa using b)]; simp; omega
    ·rw [Oq (by simpa using b)]; exact i1
 have lt:∀ l:List Nat,(∀ i∈l,P' i->P i)->(∃ i∈l,¬ (P' i↔P i))->(l.filter fun i=>decide (P' i)).length < (l.filter fun i=>decide (P i)).length:=by
  intro l
  induction l with
  | nil=>rintro _ ⟨i,hi,_⟩; simp at hi
  | cons x r ih=>
   intro hh hx
   by_cases c:P' x↔P x
   ·have i1:=ih (fun i hi=>hh i (Nn _ hi)) (by
     obtain ⟨i,hi,z⟩:=hx
     rcases Nc.mp hi with rfl | hi
     ·exact absurd c z
     ·exact ⟨i,hi,z⟩)
    by_cases a:P' x
    ·rw [Oe (by simpa using a),Oe (by simpa using c.mp a)]; simp; omega
    ·rw [Oq (by simpa using a),Oq (by simpa using fun b=>a (c.mpr b))]; exact i1
   ·have a:¬ P' x:=fun a=>c ⟨fun _=>hh x (Nd ..) a,fun _=>a⟩
    have b:P x:=Classical.byContradiction fun b=>c ⟨fun z=>absurd z a,fun z=>absurd z b⟩
    rw [Oq (by simpa using a),Oe (by simpa using b)]
    have:=le r fun i hi=>hh i (Nn _ hi)
    simp; omega
 refine lt _ (fun i hi=>h i (O1.mp hi)) ?_
 obtain ⟨i,hi⟩:=Ua.mp ne
 obtain ⟨h1,h2⟩:=Sw.mp hi
 exact ⟨i,O1.mpr h1,h2⟩
noncomputable def Cc (n:Nat) (fs:List (List Nat)) (P:Nat->Prop) (i:Nat):Prop:=∀ j,j < n->dY (i7 n fs) i j->P j
theorem EH {n:Nat} {fs:List (List Nat)} {P:Nat->Prop} (hw:∀ v∈fs,Within n v) {v:List Nat} (hv:v∈fs) {i:Nat} (hi:i < n) (h:Cc n fs P i):KN n v (Cc n fs P) i:=fun j hj e k hk c=>by
 obtain ⟨e1,_⟩:=dJ (hw v hv) hi
 obtain ⟨e2,_⟩:=dJ (hw v hv) hj
 rw [e] at e2
 exact h k hk (.trans (.one ⟨v,hv,hi,e1⟩) (.trans (.symm (.one ⟨v,hv,hj,e2⟩)) c))
theorem IH {n:Nat} {fs:List (List Nat)} {P F:Nat->Prop} (hw:∀ v∈fs,Within n v) (hrep:∀ v∈fs,Rep n v) (hF:∀ i,i < n->F i->P i) (hfix:∀ i,i < n->F i->∀ v∈fs,KN n v F i) {i:Nat} (hi:i < n) (h:F i):Cc n fs P i:=by
 have st:∀ x y,i7 n fs x y->x < n/\y < n/\(F x↔F y):=by
  rintro x y ⟨v,hv,hx,hy⟩
  have hyn:=(hw v hv).2 _ (Ng hy)
  obtain ⟨e1,_⟩:=dJ (hw v hv) hx
  rw [hy] at e1
  have ey:y=v.getD x 0:=Nl e1
  have er:v.getD y 0=v.getD x 0:=by rw [ey]; exact hrep v hv x hx
  exact ⟨hx,hyn,fun f=>hfix x hx f v hv y hyn er,fun f=>hfix y hyn f v hv x hx er.symm⟩
 have go:∀ x y,dY (i7 n fs) x y->(x < n/\F x↔y < n/\F y):=by
  intro x y c
  induction c with
  | refl x=>exact V7
  | one h=>
   obtain ⟨h1,h2,h3⟩:=st _ _ h
   exact ⟨fun f=>⟨h2,h3.mp f.2⟩,fun f=>⟨h1,h3.mpr f.2⟩⟩
  | symm _ ih=>exact ih.symm
  | trans _ _ a b=>exact a.trans b
 intro j hj c
 exact hF j hj ((go i j c).mp ⟨hi,h⟩).2
noncomputable def kJ (_:Fg):Sp:=fun vals H Q _=>∃ (a g b:Addr) (n:Nat) (vs:List (List Nat)) (gs:List Nat) (P:Nat->Prop),vals=[.ref a,.ref g,.ref b]/\dW H a vs/\H g=some (.tup (au gs))/\(∀ k∈gs,k < vs.length)/\H b=some (.lst (blV n P))/\(∀ v∈vs,Within n v/\Rep n v)/\n<=100000/\
 ∀ p H',H p=none->am H H'->H' p=some (.lst (blV n (Cc n (gs.map fun h=>vs.getD h []) P)))->Q (.ref p) H'
noncomputable def jc (K:Fg):TS:=(ap (aH (tCB (mT K) (ac (aa 2) ag)) (aj 3))
 (mQ (tB (tC (.bl true))) (ap (aH (bu (lO aR aR K (ac (aa 3) (ac (av (jV K) [] E0 (ac (aa 0) (ac (aa 1) (ac (aa 3) ag)))) ag))) (fun _ _ _ _=>(da K 2 (aW (aj 0) (aW (aj 1) cZ)))) (fun _ _ _ _=>aV) (fun _ _ _ _=>(ik (aa 0) (aa 1))) [none,none]) (aj 4))
 (ap (bp (be (tOp (jB (SqL K) false) (aa 4) (aa 3))) (aJ (aa 3)) aY)
 (aH (aa 4) (aj 3))))))
theorem yD (h:kJ K vs H Q E):jc K { nx:=fun _ H'=>Q .non H',rt:=Q } (start ["_law_views_here","_law_group_here","_law_truths","_law_found","_law_more"] vs) H:=by
 obtain ⟨a,g,b,n,vs,gs,P,rfl,hV,eg,hg,eb,hw,hn,q⟩:=h
 show jc K _ [some _,some _,some _,none,none] _
 unfold jc
 have hm:∀ v∈gs.map (fun h=>vs.getD h []),Within n v/\Rep n v:=fun v hv=>by
  obtain ⟨k,hk,rfl⟩:=Os.mp hv
  obtain ⟨_,_,_,_,_,e5⟩:=jw hV (hg k hk)
  exact hw _ e5
 walk_at "rd"
 refine rQ (SqL.of eb) fun p H1 hp s1 e1=>?_
 walk_at "rd"
 refine AE (fun m σ H2=>∃ (u1:Option V) (p:Addr) (F:Nat->Prop),σ=[some (.ref a),some (.ref g),some (.ref b),some (.ref p),u1]/\EG n F=m/\H p=none/\am H H2/\H2 p=some (.lst (blV n F))/\(∀ i,i < n->F i->P i)/\∀ i,i < n->Cc n (gs.map fun h=>vs.getD h []) P i->F i) _ ⟨_,p,P,rfl,rfl,hp,s1,e1,fun _ _ h=>h,fun i hi h=>h i hi (.refl i)⟩ ?_
 rintro m σ H2 ⟨u1,p,F,rfl,rfl,hp,s2,e2,f1,f2⟩
 walk_at "rd"
 refine AD ?_
 walk_at "rd"
 refine ⟨a,g,p,n,vs,gs,F,rfl,hV.same s2,s2 _ _ eg,hg,e2,fun v hv=>(hw v hv).1,hn,fun c H3 hc s3 e3=>?_⟩
 walk_at "rd"
 refine B8 (s3 _ _ e2) e3 hn fun p2 H4 hp2 s4 e4=>?_
 walk_at "rd"
 refine LW (SqL.of e4) (SqL.of (s4 _ _ (s3 _ _ e2))) ?_
 have s24:=s3.trans s4
 walk_at "rd"
 by_cases eq:∀ i,i < n->((F i/\∀ v∈gs.map (fun h=>vs.getD h []),KN n v F i)↔F i)
 ·rw [<-cdt eq]
  walk_at "rd"
  refine q p H4 hp (s2.trans s24) ?_
  rw [s24 _ _ e2]
  congr 2
  refine lG fun i hi=>⟨fun h=>IH (fun v hv=>(hm v hv).1) (fun v hv=>(hm v hv).2) f1 (fun i hi h=>((eq i hi).mpr h).2) hi h,f2 i hi⟩
 ·rw [<-cdf eq]
  walk_at "rd"
  refine ⟨_,LX (P:=F) (fun i _ h=>h.1) eq,_,p2,_,rfl,rfl,s2.free (s3.free hp2),s2.trans s24,e4,fun i hi h=>f1 i hi h.1,fun i hi h=>⟨f2 i hi h,fun v hv j hj e=>f2 j hj (EH (fun v hv=>(hm v hv).1) hv hi h j hj e)⟩⟩
noncomputable def jW (_:Fg):Sp:=fun vals H Q _=>∃ (a b:Addr) (n:Nat) (ws:List (List Nat)) (v:List Nat) (h:Int),vals=[.ref a,.ref b,.int h]/\ba H a ws/\ws.length=n/\(∀ w∈ws,w.length<=1000)/\H b=some (.lst (au v))/\Within n v/\n<=100000/\
 ∀ p H',H p=none->am H H'->H' p=some (.lst (blV n (KN n v (qo n (ws.map fun w=>eX w h) v))))->Q (.ref p) H'
noncomputable def iF (K:Fg):TS:=(ap (aH (bu (ce K (aa 0)) (fun _ _ _ _=>(aj 0)) (fun _ _ _ _=>aV) (fun _ _ _ _=>(tCB (oX K) (ac (bu (i3 eD K (ac (aa 0) ag)) (fun _ _ _ _=>(da K 2 (aW (aj 0) (aW (aj 1) cZ)))) (fun _ _ _ _=>(be (tOp rEq (aa 1) (aa 2)))) (fun _ _ _ _=>(aa 0)) [none,none,some 1]) ag))) [none,some 2]) (aj 3))
 (ap (aH o0 (aj 4))
 (ap (cV (i3 aR K (ac (aa 1) ag)) (da K 2 (aW (aj 5) (aW (aj 6) cZ))) (bp (be (tOp (jB (SqT K) true) (tOp (cb K) (aa 3) (aa 5)) (tOp (cb K) (aa 3) (aa 6)))) (aH (tC (.bl true)) (kj (aa 4) (aa 6) wn)) aY))
 (aJ (bu (ce K (aa 1)) (fun _ _ _ _=>(aj 0)) (fun _ _ _ _=>aV) (fun _ _ _ _=>(tOp (vn true) (aa 0) (aa 1))) [none,some 4])))))
theorem II {K:Fg} {H:Hp} {a:Addr} {ws:List (List Nat)} {h:Int} {Q:VK} {σ₀:St} {te:CF TE} (hD:ba H a ws) (hw:∀ w∈ws,w.length<=1000) (hl:ws.length<=100000)
  (hs:∀ C s' H' fp (d:Addr) (w:List Nat) H2 (R:V->Hp->Prop),H2 d=some (.tup (au w))->w.length<=1000->(∀ t H3,H2 t=none->am H2 H3->H3 t=some (.tup ((eX w h).map V.int))->R (.ref t) H3)->te C s' H' fp (σ₀.set 0 (some (.ref d))) H2 R)
  (q:∀ p H',H p=none->am H H'->Dy H' p (ws.map fun w=>eX w h)->Q (.ref p) H'):
  ∃ a',V.ref a=.ref a'/\(∃ xs,SqL K H a' xs)/\∀ p,H p=none->∃ W:Nat->Nat->List V->Hp->Prop,(∃ m,W 0 m [] (upd H p (.lst [])))/\∀ C s' H' fp,bO (Itl K a') (aj 0) aV (te C s' H' fp) σ₀ p Q W:=by
 obtain ⟨rs,ea,hr⟩:=hD
 have hlr:rs.length=ws.length:=NP hr
 refine cF (g:=fun _ _ _ _=>aj 0) (tt:=fun _ _ _ _=>aV) (te:=te) (rs.map V.ref) (SqL.of ea) (by rw [M6]; omega) (fun i acc H2=>∃ ts:List Addr,acc=ts.map V.ref/\Paired (fun (r:Addr) (xs:List Int)=>H2 r=some (.tup (xs.map V.int))) ts ((ws.take i).map fun w=>eX w h)) (fun _ _=>⟨[],rfl,.nil⟩) ?_ ?_
 ·rintro p hp C s' H' fp i x acc H2 hx ⟨s2,e2,l2,ts,rfl,ht⟩
  obtain ⟨d,hd,rfl⟩:=kB hx
  obtain ⟨u,hu,eu⟩:=bx hr hd
  refine jE (Bl (lN ?_))
  refine hs C s' H' fp d u H2 _ (s2 _ _ eu) (hw u (Ng hu)) fun t H3 ht3 s3 e3=>?_
  refine bf.put hp (fun _ _ _ _ ⟨ts,e,r⟩ k=>⟨ts,e,Paired.mapP r fun _ _ z=>k _ _ z⟩) (s2.trans s3) (s3 _ _ e2) l2 ⟨ts++[t],by simp,?_⟩
  rw [bX hu,Ny]
  exact wK (Paired.mapP ht fun _ _ z=>s3 _ _ z) e3
 ·rintro p acc H2 hp s2 e2 ⟨ts,rfl,ht⟩
  rw [M6,hlr,NM] at ht
  exact q p H2 hp s2 ⟨ts,e2,ht⟩
theorem wV (h:jW K vs H Q E):iF K { nx:=fun _ H'=>Q .non H',rt:=Q } (start ["_law_deals","_law_view","_law_pile","_law_piles","_law_lacks","_law_place","_law_least_here"] vs) H:=by
 obtain ⟨a,b,n,ws,v,h,rfl,hD,hlen,hw,eb,hv,hn,q⟩:=h
 show iF K _ [some _,some _,some _,none,none,none,none] _
 unfold iF
 walk_at "rd"
 refine II (h:=h) hD hw (by omega) ?_ ?_
 ·intro C s' H' fp d w H2 R e hl hR
  walk_at "rd"
  refine GT (h:=h) e hl fun l H3 hl3 s3 e3=>?_
  walk_at "rd"
  exact yo (SqL.of e3) fun t H4 ht s4 e4=>hR t H4 (s3.free ht) (s3.trans s4) e4
 ·intro pl H1 hpl s1 hP
  have hpl':(ws.map fun w=>eX w h).length=n:=by rw [M6]; exact hlen
  generalize (ws.map fun w=>eX w h)=ps at *
  obtain ⟨ts,ep,ht⟩:=id hP
  walk_at "rd"
  refine tN false fun d H2 hd s2 dx2=>?_
  have hdH:H d=none:=s1.free hd
  have s02:=s1.trans s2
  walk_at "rd"
  refine mL (S:=aR) (au v) (SqL.of (s02 _ _ eb)) (fun i σ H3=>∃ (u1 u2:Option V),σ=[some (.ref a),some (.ref b),some (.int h),some (.ref pl),some (.ref d),u1,u2]/\am H H3/\Dx H3 d false (fV v (fun j=>¬ qo n ps v j) i) i/\H3 pl=some (.lst (ts.map V.ref))/\Paired (fun (r:Addr) (xs:List Int)=>H3 r=some (.tup (xs.map V.int))) ts ps) ?_ ?_ ?_ ?_
  ·exact ⟨_,_,rfl,s02,dx2.congr (wT _ _),s2 _ _ ep,Paired.mapP ht fun _ _ z=>s2 _ _ z⟩
  ·rintro i σ H3 hi ⟨u1,u2,rfl,s3,dx3,_⟩
   exact SqL.of (s3 _ _ eb)
  ·rintro i x T σ H3 H4 hx ⟨u1,u2,rfl,s3,dx3,ep3,ht3⟩ hT s4 eT
   obtain ⟨z,hz,rfl⟩:=fg hx
   have hi:i < n:=by have:=(Na.mp hz).1; rw [hv.1] at this; exact this
   obtain ⟨hz',hzn⟩:=dJ hv hi
   rw [hz] at hz'
   have ez:z=v.getD i 0:=Nl hz'
   obtain ⟨c1,hc1,ec1⟩:=nZ ht3 (i:=i) (by omega)
   obtain ⟨c2,hc2,ec2⟩:=nZ ht3 (i:=z) (by omega)
   refine dO (SqT.of eT) ?_
   have dx4:=dx3.same s4
   have s34:=s3.trans s4
   have ep4:=s4 _ _ ep3
   walk_at "rd"
   refine bI (SqL.of ep4) (v:=.ref c1) (cP (by rw [Nm,hc1]; rfl)) ?_
   walk_at "rd"
   refine bI (SqL.of ep4) (v:=.ref c2) (cP (by rw [Nm,hc2]; rfl)) ?_
   walk_at "rd"
   refine Mx (SqT.of (s4 _ _ ec1)) (SqT.of (s4 _ _ ec2)) ?_
   refine Lm ?_
   have ht4:Paired (fun (r:Addr) (xs:List Int)=>H4 r=some (.tup (xs.map V.int))) ts ps:=Paired.mapP ht3 fun _ _ w=>s4 _ _ w
   refine vg (fun c=>?_) (fun c=>?_)
   ·walk_at "rd"
    refine Bu dx4 (k:=.inl (some (z:Int))) rfl rfl (by rw [Nf]; omega) fun H5 o5 dx5=>?_
    have kp:=dx4.offK o5
    have npd:pl≠d:=dx4.ne_lst ep4
    refine ⟨_,_,rfl,s34.off hdH o5,dx5.congr fun k=>?_,by rw [o5 pl npd]; exact ep4,Paired.mapP ht4 fun _ _ w=>kp _ _ w⟩
    rw [ez]
    exact zA (by unfold qo; rw [<-ez]; exact c) k
   ·walk_at "rd"
    refine ⟨_,_,rfl,s34,(dx4.congr (wU fun w=>w ?_)).le (Pn i),ep4,ht4⟩
    unfold qo
    rw [<-ez]
    exact c
  ·rintro σ H3 ⟨u1,u2,rfl,s3,dx3,ep3,ht3⟩
   rw [aS,hv.1] at dx3
   walk_at "rd"
   exact B9 (s3 _ _ eb) hv hn dx3 fun p H4 hp s4 e4=>q p H4 (s3.free hp) (s3.trans s4) e4
end
end
section
open KF
noncomputable def dg (_:Fg) (m:Nat):Sp:=fun vals H Q _=>∃ (a b:Addr) (x:V) (c n:Nat) (ws vs:List (List Nat)) (s:Sy),vals=[.ref a,.ref b,x]/\Table H a b c n ws vs/\(∀ v∈vs,Rep n v)/\aU H x s/\s.Ok c vs.length/\s.words<=m/\
 ∀ p H',H p=none->am H H'->H' p=some (.lst (blV n (TR n ws vs s)))->Q (.ref p) H'
noncomputable def lx (K:Fg) (n:Nat):TS:=(ap (bp (be (tOp rEq (tOp (bZ K) (aa 2) (tC (.int 0))) (tC (.str "holds")))) (aJ (bu (ce K (aa 0)) (fun _ _ _ _=>(aj 0)) (fun _ _ _ _=>aV) (fun _ _ _ _=>(tOp rEq (tOp (bZ K) (aa 0) (tOp (bZ K) (aa 1) (tC (.int 2)))) (tOp (bZ K) (aa 1) (tC (.int 1))))) [none,some 2])) aY)
 (ap (bp (be (tOp rEq (tOp (bZ K) (aa 2) (tC (.int 0))) (tC (.str "sees")))) (aJ (av (jW K) [] E0 (ac (aa 0) (ac (tOp (cb K) (aa 1) (tOp (bZ K) (aa 2) (tC (.int 1)))) (ac (tCB (fc K) (ac (aa 1) ag)) ag))))) aY)
 (ap (aH (av (dg K n) [] E0 (ac (aa 0) (ac (aa 1) (ac (tOp (bZ K) (aa 2) (tUn (rU fun i=>.int (-i)) (tC (.int 1)))) ag)))) (aj 3))
 (ap (bp (be (tOp rEq (tOp (bZ K) (aa 2) (tC (.int 0))) (tC (.str "not")))) (aJ (bu (ce K (aa 3)) (fun _ _ _ _=>(aj 0)) (fun _ _ _ _=>aV) (fun _ _ _ _=>(vW (aa 0))) [none])) aY)
 (ap (bp (be (tOp rEq (tOp (bZ K) (aa 2) (tC (.int 0))) (tC (.str "knows")))) (aJ (av (jU K) [] E0 (ac (tOp (cb K) (aa 1) (tOp (bZ K) (aa 2) (tC (.int 1)))) (ac (aa 3) ag)))) aY)
 (ap (bp (be (tOp rEq (tOp (bZ K) (aa 2) (tC (.int 0))) (tC (.str "all")))) (aJ (av (jV K) [] E0 (ac (aa 1) (ac (tOp (bZ K) (aa 2) (tC (.int 1))) (ac (aa 3) ag))))) aY)
 (ap (bp (be (tOp rEq (tOp (bZ K) (aa 2) (tC (.int 0))) (tC (.str "common")))) (aJ (av (kJ K) [] E0 (ac (aa 1) (ac (tOp (bZ K) (aa 2) (tC (.int 1))) (ac (aa 3) ag))))) aY)
 (ap (aH (av (dg K n) [] E0 (ac (aa 0) (ac (aa 1) (ac (tOp (bZ K) (aa 2) (tC (.int 1))) ag)))) (aj 4))
 (ap (bp (be (tOp rEq (tOp (bZ K) (aa 2) (tC (.int 0))) (tC (.str "and")))) (aJ (bu (lO aR aR K (ac (aa 4) (ac (aa 3) ag))) (fun _ _ _ _=>(da K 2 (aW (aj 0) (aW (aj 1) cZ)))) (fun _ _ _ _=>aV) (fun _ _ _ _=>(ik (aa 0) (aa 1))) [none,none])) aY)
 (aJ (bu (lO aR aR K (ac (aa 4) (ac (aa 3) ag))) (fun _ _ _ _=>(da K 2 (aW (aj 0) (aW (aj 1) cZ)))) (fun _ _ _ _=>aV) (fun _ _ _ _=>(yh (aa 0) (aa 1))) [none,none])))))))))))
noncomputable abbrev C1:List Str:=["_law_deals","_law_views_here","_law_saying_here","_law_below","_law_ahead"]
theorem sw {K:Fg} {vs:List V} {H:Hp} {Q:VK} {E:XK} (h:dg K 0 vs H Q E):False:=by
 obtain ⟨a,b,x,c,n,ws,vs,s,rfl,_,_,_,_,h,_⟩:=h
 have:=s.words_pos
 omega
section
open Classical
theorem Cd {K:Fg} {m:Nat} {vals:List V} {H:Hp} {Q:VK} {E:XK} (h:dg K (m + 1) vals H Q E):lx K m { nx:=fun _ H'=>Q .non H',rt:=Q } (start C1 vals) H:=by
 obtain ⟨a,b,x,c,n,ws,vs,s,rfl,T,hrep,hS,hok,hw,q⟩:=h
 show lx K m _ [some _,some _,some _,none,none] _
 unfold lx
 obtain ⟨rs,ea,hr⟩:=id T.deals
 have hlr:rs.length=ws.length:=NP hr
 have hn:=T.small
 have hlen:=T.len
 cases s with
 | holds w k=>
  obtain ⟨t,rfl,et⟩:=hS
  obtain ⟨hwh,hkc⟩:=hok
  walk_at "rd"
  refine aD (SqT.of (et)) (i:=0) rfl ?_
  walk_at "rd"
  refine cE rfl ?_
  walk_at "rd"
  refine cF (rs.map V.ref) (SqL.of ea) (by rw [M6]; omega) (fun i acc _=>acc=blV i (TR n ws vs (.holds w k))) (fun _ _=>rfl) ?_ ?_
  ·rintro p hp C s' H' fp i x acc H2 hx ⟨s2,e2,l2,rfl⟩
   obtain ⟨d,hd,rfl⟩:=kB hx
   obtain ⟨u,hu,eu⟩:=bx hr hd
   have huc:=T.cards u (Ng hu)
   have e1:u[k]?=some (u.getD k 0):=by rw [Np,M7 (by omega)]; rfl
   walk_at "rd"
   refine aD (SqT.of (s2 _ _ et)) (i:=2) rfl ?_
   walk_at "rd"
   refine aD (SqT.of (s2 _ _ eu)) (jn e1) ?_
   walk_at "rd"
   refine aD (SqT.of (s2 _ _ et)) (i:=1) rfl ?_
   walk_at "rd"
   refine bf.put hp (fun _ _ _ _ r _=>r) s2 e2 l2 ?_
   rw [cc]
   congr 3
   refine cde ?_
   show _↔(ws.getD i []).getD k 0=w
   rw [gP hu]
   omega
  ·rintro p acc H2 hp s2 e2 rfl
   rw [M6,hlr,hlen] at e2
   exact q _ _ hp s2 e2
 | sees k=>
  obtain ⟨t,rfl,et⟩:=hS
  have hk:k < vs.length:=hok
  obtain ⟨vr,r,e1,e3,e4,e5⟩:=jw T.views hk
  obtain ⟨vrs,evb,hvl,_⟩:=m6 T.views
  have:=T.few
  walk_at "rd"
  refine aD (SqT.of (et)) (i:=0) rfl ?_
  walk_at "rd"
  refine aB (by decide) ?_
  walk_at "rd"
  refine aD (SqT.of (et)) (i:=0) rfl ?_
  walk_at "rd"
  refine cE rfl ?_
  walk_at "rd"
  refine aD (SqT.of et) (i:=1) rfl ?_
  walk_at "rd"
  refine bI (SqL.of e1) e3 ?_
  walk_at "rd"
  rw [M6,hvl]
  exact ⟨a,r,n,ws,vs.getD k [],(vs.length:Nat),rfl,T.deals,hlen,fun w hw=>by rw [T.cards w hw]; omega,e4,T.win _ e5,hn,fun p H' hp s' e'=>q p H' hp s' e'⟩
 | not s=>
  obtain ⟨t,y,rfl,et,hy⟩:=hS
  have hw':s.words<=m:=by simp only [Sy.words] at hw; omega
  walk_at "rd"
  refine aD (SqT.of (et)) (i:=0) rfl ?_
  walk_at "rd"
  refine aB (by decide) ?_
  walk_at "rd"
  refine aD (SqT.of (et)) (i:=0) rfl ?_
  walk_at "rd"
  refine aB (by decide) ?_
  walk_at "rd"
  refine aD (SqT.of et) (i:=-1) rfl ?_
  walk_at "rd"
  refine ⟨a,b,y,c,n,ws,vs,s,rfl,T,hrep,hy,hok,hw',fun l H1 hl s1 e1=>?_⟩
  walk_at "rd"
  refine aD (SqT.of (s1 _ _ et)) (i:=0) rfl ?_
  walk_at "rd"
  refine cE rfl ?_
  walk_at "rd"
  refine cF _ (SqL.of e1) (by rw [br]; omega) (fun i acc _=>acc=blV i (TR n ws vs (.not s))) (fun _ _=>rfl) ?_ ?_
  ·rintro p hp C s' H' fp i x acc H2 hx ⟨s2,e2,l2,rfl⟩
   obtain ⟨hi,rfl⟩:=eO hx
   walk_at "rd"
   refine bf.put hp (fun _ _ _ _ r _=>r) s2 e2 l2 ?_
   rw [cc]
   congr 3
   by_cases z:TR n ws vs s i
   ·rw [decide_eq_true z]; exact cdf fun h=>h z
   ·rw [decide_eq_false z]; exact cdt z
  ·rintro p acc H2 hp s2 e2 rfl
   rw [br] at e2
   exact q _ _ (s1.free hp) (s1.trans s2) e2
 | and s t=>
  obtain ⟨u,y,z,rfl,et,hy,hz⟩:=hS
  have hw1:s.words<=m:=by simp only [Sy.words] at hw; omega
  have hw2:t.words<=m:=by simp only [Sy.words] at hw; omega
  walk_at "rd"
  refine aD (SqT.of (et)) (i:=0) rfl ?_
  walk_at "rd"
  refine aB (by decide) ?_
  walk_at "rd"
  refine aD (SqT.of (et)) (i:=0) rfl ?_
  walk_at "rd"
  refine aB (by decide) ?_
  walk_at "rd"
  refine aD (SqT.of et) (i:=-1) rfl ?_
  walk_at "rd"
  refine ⟨a,b,z,c,n,ws,vs,t,rfl,T,hrep,hz,hok.2,hw2,fun l H1 hl s1 e1=>?_⟩
  walk_at "rd"
  refine aD (SqT.of (s1 _ _ et)) (i:=0) rfl ?_
  walk_at "rd"
  refine aB (by decide) ?_
  walk_at "rd"
  refine aD (SqT.of (s1 _ _ et)) (i:=0) rfl ?_
  walk_at "rd"
  refine aB (by decide) ?_
  walk_at "rd"
  refine aD (SqT.of (s1 _ _ et)) (i:=0) rfl ?_
  walk_at "rd"
  refine aB (by decide) ?_
  walk_at "rd"
  refine aD (SqT.of (s1 _ _ et)) (i:=0) rfl ?_
  walk_at "rd"
  refine aB (by decide) ?_
  walk_at "rd"
  refine aD (SqT.of (s1 _ _ et)) (i:=1) rfl ?_
  walk_at "rd"
  refine ⟨a,b,y,c,n,ws,vs,s,rfl,T.same s1,hrep,hy.keep s1.keep,hok.1,hw1,fun l2 H2 hl2 s2 e2=>?_⟩
  walk_at "rd"
  refine aD (SqT.of (s2 _ _ (s1 _ _ et))) (i:=0) rfl ?_
  walk_at "rd"
  refine cE rfl ?_
  walk_at "rd"
  exact B8 e2 (s2 _ _ e1) hn fun p H3 hp s3 e3=>q p H3 (s1.free (s2.free hp)) ((s1.trans s2).trans s3) e3
 | or s t=>
  obtain ⟨u,y,z,rfl,et,hy,hz⟩:=hS
  have hw1:s.words<=m:=by simp only [Sy.words] at hw; omega
  have hw2:t.words<=m:=by simp only [Sy.words] at hw; omega
  walk_at "rd"
  refine aD (SqT.of (et)) (i:=0) rfl ?_
  walk_at "rd"
  refine aB (by decide) ?_
  walk_at "rd"
  refine aD (SqT.of (et)) (i:=0) rfl ?_
  walk_at "rd"
  refine aB (by decide) ?_
  walk_at "rd"
  refine aD (SqT.of et) (i:=-1) rfl ?_
  walk_at "rd"
  refine ⟨a,b,z,c,n,ws,vs,t,rfl,T,hrep,hz,hok.2,hw2,fun l H1 hl s1 e1=>?_⟩
  walk_at "rd"
  refine aD (SqT.of (s1 _ _ et)) (i:=0) rfl ?_
  walk_at "rd"
  refine aB (by decide) ?_
  walk_at "rd"
  refine aD (SqT.of (s1 _ _ et)) (i:=0) rfl ?_
  walk_at "rd"
  refine aB (by decide) ?_
  walk_at "rd"
  refine aD (SqT.of (s1 _ _ et)) (i:=0) rfl ?_
  walk_at "rd"
  refine aB (by decide) ?_
  walk_at "rd"
  refine aD (SqT.of (s1 _ _ et)) (i:=0) rfl ?_
  walk_at "rd"
  refine aB (by decide) ?_
  walk_at "rd"
  refine aD (SqT.of (s1 _ _ et)) (i:=1) rfl ?_
  walk_at "rd"
  refine ⟨a,b,y,c,n,ws,vs,s,rfl,T.same s1,hrep,hy.keep s1.keep,hok.1,hw1,fun l2 H2 hl2 s2 e2=>?_⟩
  walk_at "rd"
  refine aD (SqT.of (s2 _ _ (s1 _ _ et))) (i:=0) rfl ?_
  walk_at "rd"
  refine aB (by decide) ?_
  walk_at "rd"
  exact ME e2 (s2 _ _ e1) hn fun p H3 hp s3 e3=>q p H3 (s1.free (s2.free hp)) ((s1.trans s2).trans s3) e3
 | knows k s=>
  obtain ⟨t,y,rfl,et,hy⟩:=hS
  have hw':s.words<=m:=by simp only [Sy.words] at hw; omega
  walk_at "rd"
  refine aD (SqT.of (et)) (i:=0) rfl ?_
  walk_at "rd"
  refine aB (by decide) ?_
  walk_at "rd"
  refine aD (SqT.of (et)) (i:=0) rfl ?_
  walk_at "rd"
  refine aB (by decide) ?_
  walk_at "rd"
  refine aD (SqT.of et) (i:=-1) rfl ?_
  walk_at "rd"
  refine ⟨a,b,y,c,n,ws,vs,s,rfl,T,hrep,hy,hok.2,hw',fun l H1 hl s1 e1=>?_⟩
  walk_at "rd"
  refine aD (SqT.of (s1 _ _ et)) (i:=0) rfl ?_
  walk_at "rd"
  refine aB (by decide) ?_
  walk_at "rd"
  refine aD (SqT.of (s1 _ _ et)) (i:=0) rfl ?_
  walk_at "rd"
  refine cE rfl ?_
  walk_at "rd"
  refine aD (SqT.of (s1 _ _ et)) (i:=1) rfl ?_
  walk_at "rd"
  obtain ⟨vr,r,e2,e3,e4,e5⟩:=jw (T.views.same s1) hok.1
  refine bI (SqL.of e2) e3 ?_
  walk_at "rd"
  exact ⟨r,l,n,vs.getD k [],_,rfl,e4,e1,T.win _ e5,hn,fun p2 H3 hp2 s3 e6=>q p2 H3 (s1.free hp2) (s1.trans s3) e6⟩
 | all g s=>
  obtain ⟨t,u,y,rfl,et,eu,hy⟩:=hS
  have hw':s.words<=m:=by simp only [Sy.words] at hw; omega
  obtain ⟨⟨hpw,hg⟩,hok'⟩:=hok
  walk_at "rd"
  refine aD (SqT.of (et)) (i:=0) rfl ?_
  walk_at "rd"
  refine aB (by decide) ?_
  walk_at "rd"
  refine aD (SqT.of (et)) (i:=0) rfl ?_
  walk_at "rd"
  refine aB (by decide) ?_
  walk_at "rd"
  refine aD (SqT.of et) (i:=-1) rfl ?_
  walk_at "rd"
  refine ⟨a,b,y,c,n,ws,vs,s,rfl,T,hrep,hy,hok',hw',fun l H1 hl s1 e1=>?_⟩
  walk_at "rd"
  refine aD (SqT.of (s1 _ _ et)) (i:=0) rfl ?_
  walk_at "rd"
  refine aB (by decide) ?_
  walk_at "rd"
  refine aD (SqT.of (s1 _ _ et)) (i:=0) rfl ?_
  walk_at "rd"
  refine aB (by decide) ?_
  walk_at "rd"
  refine aD (SqT.of (s1 _ _ et)) (i:=0) rfl ?_
  walk_at "rd"
  refine cE rfl ?_
  walk_at "rd"
  refine aD (SqT.of (s1 _ _ et)) (i:=1) rfl ?_
  walk_at "rd"
  exact ⟨b,u,l,n,vs,g,_,rfl,T.views.same s1,s1 _ _ eu,hg,e1,T.win,hn,fun p2 H3 hp2 s3 e6=>q p2 H3 (s1.free hp2) (s1.trans s3) e6⟩
 | common g s=>
  obtain ⟨t,u,y,rfl,et,eu,hy⟩:=hS
  have hw':s.words<=m:=by simp only [Sy.words] at hw; omega
  obtain ⟨⟨hpw,hg⟩,hok'⟩:=hok
  walk_at "rd"
  refine aD (SqT.of (et)) (i:=0) rfl ?_
  walk_at "rd"
  refine aB (by decide) ?_
  walk_at "rd"
  refine aD (SqT.of (et)) (i:=0) rfl ?_
  walk_at "rd"
  refine aB (by decide) ?_
  walk_at "rd"
  refine aD (SqT.of et) (i:=-1) rfl ?_
  walk_at "rd"
  refine ⟨a,b,y,c,n,ws,vs,s,rfl,T,hrep,hy,hok',hw',fun l H1 hl s1 e1=>?_⟩
  walk_at "rd"
  refine aD (SqT.of (s1 _ _ et)) (i:=0) rfl ?_
  walk_at "rd"
  refine aB (by decide) ?_
  walk_at "rd"
  refine aD (SqT.of (s1 _ _ et)) (i:=0) rfl ?_
  walk_at "rd"
  refine aB (by decide) ?_
  walk_at "rd"
  refine aD (SqT.of (s1 _ _ et)) (i:=0) rfl ?_
  walk_at "rd"
  refine aB (by decide) ?_
  walk_at "rd"
  refine aD (SqT.of (s1 _ _ et)) (i:=0) rfl ?_
  walk_at "rd"
  refine cE rfl ?_
  walk_at "rd"
  refine aD (SqT.of (s1 _ _ et)) (i:=1) rfl ?_
  walk_at "rd"
  exact ⟨b,u,l,n,vs,g,_,rfl,T.views.same s1,s1 _ _ eu,hg,e1,fun v hv=>⟨T.win v hv,hrep v hv⟩,hn,fun p2 H3 hp2 s3 e6=>q p2 H3 (s1.free hp2) (s1.trans s3) e6⟩
end
end
section
open KF
theorem GU {T:TM} (h:Int) (d:Int) (v:List Nat) (hv:v.length=T.n):gC v (fT T.ws h [d])=gC v (blA T.n fun i=>wAt (T.ws.getD i []) d=h):=by
 have l1:(fT T.ws h [d]).length=T.n:=by unfold fT; rw [M6]; rfl
 have g:∀ i,i < T.n->(fT T.ws h [d])[i]?=some (nh (T.ws.getD i []) h [d]):=fun i hi=>by
  unfold fT
  rw [Nm,Np,M7 (show i < T.ws.length from hi)]
  rfl
 refine LQ (by rw [l1]; exact hv) (by rw [tW]; exact hv) rfl fun i j hi hj=>?_
 rw [hv] at hi hj
 rw [Ko hi hj,g i hi,g j hj]
 refine and_congr V7 ?_
 have lf:∀ w:List Nat,nh w h [d]=if wAt w d=h then some d else none:=fun w=>by
  unfold nh
  by_cases z:wAt w d=h
  ·rw [if_pos z,Oe (by simpa using z)]; rfl
  ·rw [if_neg z,Oq (by simpa using z)]; rfl
 rw [lf,lf]
 generalize T.ws.getD i []=wi
 generalize T.ws.getD j []=wj
 by_cases a:wAt wi d=h <;> by_cases b:wAt wj d=h <;> simp [a,b]
section
open Classical
noncomputable def jX (_:Fg) (G:GF):Sp:=fun vs H Q _=>∃ (M:List Addr) (x pv pe lv pd:Addr) (T:TM) (z:Int) (k:Nat),vs=[.ref x,.ref pd,.ref lv,.int z,.int (k:Int)]/\Tb G M H x pv pe T/\T.k=k/\ba H pd T.ws/\pd∉M/\d6 M H lv T.vw/\lv∈M/\lv≠pv/\lv≠pe/\0 < T.c/\T.ds.length < 900/\
 ∀ H' T',Kp [pv,pe,lv] H H'->T'.c=T.c->T'.ss=T.ss->T'.ds.length=T.ds.length + 1->Tb G M H' x pv pe T'->d6 M H' lv T'.vw->Q .non H'
noncomputable def iG (K:Fg) (G:GF):TS:=(ap (aH (tOp (rI (fun _ j=>0 < j) fun i j=>.int (i % j)) (aa 3) (aa 4)) (aj 5))
 (ap (aH (tOp (rI (fun _ j=>0 < j) fun i j=>.int (i % j)) (tOp (rI gi fun i j=>.int (i / j)) (aa 3) (tC (.int 5))) (tOp (rI0 fun i j=>.int (i + j)) (aa 4) (tC (.int 1)))) (aj 6))
 (ap (aH (tOp (rI (fun _ j=>0 < j) fun i j=>.int (i % j)) (tOp (rI gi fun i j=>.int (i / j)) (aa 3) (tC (.int 30))) (tCB (fc K) (ac (tOp (cb K) (aa 1) (tC (.int 0))) ag))) (aj 7))
 (ap (dI (gm G.Table "show" (lY K G) [] E0 (aa 0) (ac (aa 5) (ac (aa 6) (ac (d5 (ac (aa 7) ag)) ag)))))
 (ap (aH (bu (ce K (aa 1)) (fun _ _ _ _=>(aj 0)) (fun _ _ _ _=>aV) (fun _ _ _ _=>(tOp rEq (tOp (bZ K) (aa 0) (aa 2)) (aa 1))) [none,some 6,some 7]) (aj 8))
 (aH (av (gB K) [] E0 (ac (bu (gh (ac (tCB (fc K) (ac (aa 1) ag)) ag)) (fun _ _ _ _=>(aj 0)) (fun _ _ _ _=>aV) (fun _ _ _ _=>(dN (ac (tOp (cb K) (tOp (cb K) (aa 2) (aa 3)) (aa 0)) (ac (tOp (cb K) (aa 1) (aa 0)) ag)))) [none,some 8,some 2,some 5]) ag)) (kj (aa 2) (aa 5) kS)))))))
noncomputable abbrev yE:List Str:=["_law_table","_law_deals","_law_views","_law_number","_law_hands","_law_hand","_law_holder","_law_card","_law_holds"]
theorem wW {K:Fg} {G:GF} {vs:List V} {H:Hp} {Q:VK} {E:XK} (h:jX K G vs H Q E):iG K G { nx:=fun _ H'=>Q .non H',rt:=Q } (start yE vs) H:=by
 obtain ⟨M,x,pv,pe,lv,pd,T,z,k,rfl,t,hk,D,npd,L,ml,n1,n2,hc,hds,q⟩:=h
 have hk1:1<=T.k:=t.ok.pk.l1
 have nn:=t.ok.n2
 have n1':=t.ok.n1
 have sub:∀ b∈[pv,pe],b∈M:=fun b hb=>by
  rcases Nc.mp hb with z | z
  ·rw [z]; exact t.mv
  ·rw [M8.mp z]; exact t.me
 obtain ⟨rs,er,hr⟩:=id D
 have lr:rs.length=T.n:=NP hr
 show iG K G _ [some _,some _,some _,some _,some _,none,none,none,none] _
 unfold iG
 refine bA ?_
 walk_at "rs"
 obtain ⟨i,hi,hik⟩:=og z (m:=(k:Int)) (by omega)
 rw [hi]
 refine bA ?_
 walk_at "rs"
 obtain ⟨h,hh,h0,h1⟩:∃ h:Int,z / 5 % ((k:Int) + 1)=h/\0<=h/\h<=k:=⟨_,rfl,PX _ (by omega),by have:=Pu (z / 5) (show 0 < (k:Int) + 1 by omega); omega⟩
 rw [hh]
 refine bA ?_
 walk_at "rs"
 have hr0:rs[0]?=some (rs[0]'(by omega)):=M7 _
 generalize rs[0]'(by omega)=r0 at hr0
 obtain ⟨w0,hw0,ew0⟩:=bx hr hr0
 have lw0:=t.ok.cards w0 (Ng hw0)
 refine bI (SqL.of er) (i:=0) (v:=.ref r0) (cP (j:=0) (by rw [Nm,hr0]; rfl)) ?_
 walk_at "rs"
 rw [aS,lw0]
 refine r_I (by omega) ?_
 walk_at "rs"
 obtain ⟨d,hd,d0,d1⟩:∃ d:Int,z / 30 % (T.c:Int)=d/\0<=d/\d < T.c:=⟨_,rfl,PX _ (by omega),Pu _ (by omega)⟩
 rw [hd]
 refine bA ?_
 walk_at "rs"
 obtain ⟨dx1,fs1,hx1',hl1⟩:=t.at "show" (by decide +kernel) (by decide +kernel) (by decide +kernel) (by decide +kernel) (by decide +kernel) (by decide +kernel)
 refine iY ?_
 walk_at "rs"
 refine ⟨x,dx1,fs1,rfl,hx1',hl1,?_⟩
 walk_at "rs"
 refine ⟨by simp [Nf],fun l1 H1 hl1' s1 e1=>?_⟩
 walk_at "rs"
 refine ⟨M,x,pv,pe,l1,T,i,h,[d],rfl,t.same s1,e1,by omega,h0,by omega,(show 1 < 64 by decide),fun n hn=>by rw [M8.mp hn]; exact ⟨d0,d1⟩,by omega,LV fun p2 H2 hp2 k2 e2 t2=>?_⟩
 have k02:=(Kp.of s1).trans k2
 have D2:=D.kp k02 fun z=>npd (sub _ z)
 have L2':=(L.same s1).kp k2 sub (fun z=>by
  rcases Nc.mp z with y | y
  ·exact n1 y
  ·exact n2 (M8.mp y))
 walk_at "rs"
 refine bA ?_
 walk_at "rs"
 obtain ⟨rs2,er2,hr2⟩:=id D2
 have lr2:rs2.length=T.n:=NP hr2
 refine cF (rs2.map V.ref) (SqL.of er2) (by rw [M6]; omega) (fun j acc _=>acc=blV j fun i=>wAt (T.ws.getD i []) d=h) (fun _ _=>rfl) ?_ ?_
 ·rintro p' hp' C s' H' fp j y acc H3 hy ⟨s3,e3,l3,rfl⟩
  obtain ⟨b,hb,rfl⟩:=m5 hy
  obtain ⟨w,hw,ew⟩:=bx hr2 hb
  have lw:=t.ok.cards w (Ng hw)
  walk_at "rd"
  refine aD (SqT.of (s3 _ _ ew)) (BU d0 (by omega)) ?_
  walk_at "rd"
  refine bf.put hp' (fun _ _ _ _ r _=>r) s3 e3 l3 ?_
  rw [cc]
  congr 3
  refine cde ?_
  rw [gP hw]
 rintro ph acc H3 hph s3 e3 rfl
 rw [M6,lr2] at e3
 have L3:=L2'.same s3
 have t3:=t2.same s3
 have hiv:i < T.vw.length:=by rw [t.ok.len]; omega
 obtain ⟨us,u,el3,lus,hat,eu3⟩:=L3.get hiv
 have hvm:T.vw.getD i []∈T.vw:=by
  rw [Np,M7 hiv]
  exact Pq _
 have hvl:=(t.ok.win _ hvm).1
 walk_at "rs"
 refine tL (ys:=rs2.map V.ref) (SqL.of (s3 _ _ er2)) ?_
 walk_at "rs"
 rw [M6,lr2]
 refine vk T.n (by omega) (by omega) (by omega) (fun j acc H'=>∃ ts:List Addr,acc=ts.map V.ref/\mM H' ts (((au (T.vw.getD i [])).zip (blV T.n fun i=>wAt (T.ws.getD i []) d=h)).take j)) (fun _ _=>⟨[],rfl,.nil⟩) ?_ ?_
 ·rintro p' hp' C s' H' fp j acc H4 hj ⟨s4,e4,l4,ts,rfl,r4⟩
  have hvj:(au (T.vw.getD i []))[j]?=some ((au (T.vw.getD i []))[j]'(by rw [aS]; omega)):=M7 _
  generalize (au (T.vw.getD i []))[j]'(by rw [aS]; omega)=vj at hvj
  walk_at "rd"
  refine bI (SqL.of (s4 _ _ el3)) hat ?_
  walk_at "rd"
  refine bI (SqL.of (s4 _ _ eu3)) (cP hvj) ?_
  walk_at "rd"
  refine bI (SqL.of (s4 _ _ e3)) (BE hj) ?_
  walk_at "rd"
  refine ⟨by simp [Nf],fun tp H5 htp s5 e5=>?_⟩
  refine bf.put hp' (fun _ _ _ _ r k=>by obtain ⟨ts,e,p⟩:=r; exact ⟨ts,e,Paired.mapP p fun _ _ e=>k _ _ e⟩) (s4.trans s5) (s5 _ _ e4) l4 ⟨ts++[tp],by rw [Ny]; rfl,?_⟩
  rw [zz hvj (kC hj)]
  exact su (Paired.mapP r4 fun _ _ e=>s5 _ _ e) e5
 ·rintro pl acc H4 hpl s4 e4 ⟨ts,rfl,r4⟩
  rw [PM (by rw [OS,aS,br]; omega)] at r4
  walk_at "rs"
  refine ⟨pl,_,_,true,rfl,e4,qp r4 (BI _ _),?_,by rw [M6,OS]; omega,fun nl H5 hnl s5 e5=>?_⟩
  ·intro k hk
   obtain ⟨w,_,rfl⟩:=Os.mp hk
   rfl
  rw [oN] at e5
  walk_at "rs"
  have s35:=s4.trans s5
  refine mS (s35 _ _ el3) (EF (by rw [M6]; omega)) ?_
  have nnl:nl∉M:=(t3.same s4).off hnl
  have L5:=(L3.same s35).set ml (s35 _ _ el3) i e5 nnl
  have k5:Kp [lv] H3 (upd H5 lv (.lst ((us.map V.ref).set i (.ref nl)))):=(Kp.of s35).upd (s35 _ _ el3) (M8.mpr rfl)
  refine q _ (T.show i h [d]) ?_ rfl rfl (by show (T.ds++[_]).length=_; rw [Nx]; rfl) (t3.kp k5 (fun b hb=>by rw [M8.mp hb]; exact ml) (fun z=>n1 (M8.mp z).symm) (fun z=>n2 (M8.mp z).symm)) ?_
  ·refine (k02.mono fun b hb=>?_).trans ((Kp.of s3).trans (k5.mono fun b hb=>?_))
   ·rcases Nc.mp hb with y | y
    ·rw [y]; exact Nd
    ·rw [M8.mp y]; exact Nn _ Nd
   ·rw [M8.mp hb]; exact Nn _ (Nn _ Nd)
  ·have:(T.show i h [d]).vw=T.vw.set i (gC (T.vw.getD i []) (blA T.n fun i=>wAt (T.ws.getD i []) d=h)):=by
    show T.vw.set i (gC (T.vw.getD i []) (fT T.ws h [d]))=_
    rw [GU h d _ hvl]
   rw [this]
   exact L5
end
theorem IJ {H:Hp} {i:Int} {ts:List Addr} {ws:List (List Nat)} (h:Paired (fun (t:Addr) (w:List Nat)=>H t=some (.tup ((eX w i).map V.int))) ts ws):Paired (ci H) (ts.map V.ref) (ws.map fun w=>vt (eX w i)):=by
 induction h with
 | nil=>exact .nil
 | cons r _ ih=>exact .cons (Dp (ns:=eX _ i) r) ih
theorem MZ {i:Nat} (h:i < 4):∃ v:Int,atI [V.int 1,V.int 32,V.int 1024,V.int 32768] (i:Int)=some (.int v)/\0 < v/\v<=32768:=by
 match i,h with
 | 0,_=>exact ⟨1,rfl,by decide,by decide⟩
 | 1,_=>exact ⟨32,rfl,by decide,by decide⟩
 | 2,_=>exact ⟨1024,rfl,by decide,by decide⟩
 | 3,_=>exact ⟨32768,rfl,by decide,by decide⟩
theorem M0 {i:Nat} (h:i < 4):∃ v:Int,atI [V.int 1,V.int 2,V.int 4,V.int 8] (i:Int)=some (.int v)/\0 < v/\v<=8:=by
 match i,h with
 | 0,_=>exact ⟨1,rfl,by decide,by decide⟩
 | 1,_=>exact ⟨2,rfl,by decide,by decide⟩
 | 2,_=>exact ⟨4,rfl,by decide,by decide⟩
 | 3,_=>exact ⟨8,rfl,by decide,by decide⟩
theorem EI {K:Fg} {H:Hp} {a b:Addr} {ws:List (List Nat)} (h1:ba H a ws) (h2:ba H b ws):iw K H 2 (.ref a) (.ref b):=by
 obtain ⟨rs,e1,p1⟩:=h1
 obtain ⟨ts,e2,p2⟩:=h2
 refine .lst (SqL.of e1) (SqL.of e2) (by rw [M6,M6,NP p1,NP p2]) fun i x y hx hy=>?_
 obtain ⟨r,hr,rfl⟩:=m5 hx
 obtain ⟨t,ht,rfl⟩:=m5 hy
 obtain ⟨v,hv,ev⟩:=bx p1 hr
 obtain ⟨w,hw,ew⟩:=bx p2 ht
 rw [hv] at hw
 cases hw
 exact Ez (SqT.of ev) (SqT.of ew) (by rw [dm]; exact zx _)
noncomputable abbrev LY (K:Fg):Sp:=wf K
noncomputable def AI (K:Fg) (G:GF):TS:=(ap (aH (av (mY K) [] E0 (ac (aa 0) (ac (tC (.int 0)) (ac (tOp (cb K) (d5 (ac (tC (.int 60)) (ac (tC (.int 210)) ag))) (tCB Em (ac (tOp rEq (tOp (rI (fun _ j=>0 < j) fun i j=>.int (i % j)) (av (bz K) [] E0 (ac (aa 0) (ac (tC (.int 7)) ag))) (tC (.int 16))) (tC (.int 3))) ag))) ag)))) (da K 2 (aW (aj 1) (aW (aj 2) cZ))))
 (ap (aH (tCB (fc K) (ac (aa 2) ag)) (aj 3))
 (ap (aH (av (kZ K) [] E0 (ac (aa 1) (ac (aa 2) ag))) (aj 4))
 (ap (aH (d5 ag) (aj 5))
 (ap (cV (gh (ac (aa 3) ag)) (aj 6) (dI (tBM K "list" ip (aa 5) (ac (av (gB K) [] E0 (ac (bu (ce K (aa 4)) (fun _ _ _ _=>(aj 0)) (fun _ _ _ _=>aV) (fun _ _ _ _=>(tCB (oX K) (ac (bu (i3 eD K (ac (aa 0) ag)) (fun _ _ _ _=>(da K 2 (aW (aj 0) (aW (aj 1) cZ)))) (fun _ _ _ _=>(be (tOp rEq (aa 1) (aa 2)))) (fun _ _ _ _=>(aa 0)) [none,none,some 1]) ag))) [none,some 6]) ag)) ag))))
 (ap (aH (AB G.Table (gD K G) [] E0 (ac (aa 1) (ac (aa 2) ag))) (aj 7))
 (ap (cV (gh (ac (tOp (rI (fun _ j=>0 < j) fun i j=>.int (i % j)) (av (bz K) [] E0 (ac (aa 0) (ac (tC (.int 8)) ag))) (tC (.int 5))) ag)) (aj 8) (ap (aH (av (kF K) [] E0 (ac (aa 0) (ac (tOp (rI0 fun i j=>.int (i + j)) (tC (.int 10)) (tOp (rI P4 fun i j=>.int (i * j)) (tC (.int 13)) (aa 8))) (ac (aa 1) (ac (aa 3) (ac (tC (.int 14)) ag)))))) (aj 9))
 (ap (aH (av (fh K) [] E0 (ac (tOp (rI gi fun i j=>.int (i / j)) (av (bz K) [] E0 (ac (aa 0) (ac (tC (.int 9)) ag))) (tOp (cb K) (d5 (ac (tC (.int 1)) (ac (tC (.int 32)) (ac (tC (.int 1024)) (ac (tC (.int 32768)) ag))))) (aa 8))) (ac (aa 3) ag))) (aj 10))
 (ap (aH (av (dg K 35) [] E0 (ac (aa 4) (ac (aa 5) (ac (aa 9) ag)))) (aj 11))
 (ap (bp (dt (tB (av (cG K) [] E0 (ac (gm G.Table "truths" (dX K G) [] E0 (aa 7) (ac (aa 9) ag)) (ac (aa 11) ag))))) (aJ (tC (.bl false))) aY)
 (ap (aH (gm G.Table "word" (lX K G) [] E0 (aa 7) (ac (aa 10) (ac (aa 9) ag))) (aj 12))
 (ap (bp (dt (tB (av (cG K) [] E0 (ac (aa 12) (ac (aa 11) ag))))) (aJ (tC (.bl false))) aY)
 (ap (dI (Eh K "list" v3 (aa 12)))
 (ap (cV (rD K (aa 10)) (aj 6) (aH (av (gB K) [] E0 (ac (bu (gh (ac (tCB (fc K) (ac (aa 4) ag)) ag)) (fun _ _ _ _=>(aj 0)) (fun _ _ _ _=>aV) (fun _ _ _ _=>(dN (ac (tOp (cb K) (tOp (cb K) (aa 2) (aa 3)) (aa 0)) (ac (tOp (cb K) (aa 1) (aa 0)) ag)))) [none,some 11,some 5,some 6]) ag)) (kj (aa 5) (aa 6) kS)))
 (ap (bp (tOr (dt (tB (av (fU K G) [] E0 (ac (aa 7) (ac (aa 5) ag))))) (dt (tB (av (fU K G) [] E0 (ac (aa 7) (ac (aa 5) ag)))))) (aJ (tC (.bl false))) aY)
 (ap (bp (dt (tB (av (cG K) [] E0 (ac (gm G.Table "truths" (dX K G) [] E0 (aa 7) (ac (aa 9) ag)) (ac (av (dg K 35) [] E0 (ac (aa 4) (ac (aa 5) (ac (aa 9) ag)))) ag))))) (aJ (tC (.bl false))) aY)
 (bp (A1 (be (tOp (rI0 fun i j=>.bl (decide (j < i))) (aa 1) (tC (.int 0)))) (be (tOp rEq (tOp (rI (fun _ j=>0 < j) fun i j=>.int (i % j)) (tOp (rI gi fun i j=>.int (i / j)) (av (bz K) [] E0 (ac (aa 0) (ac (tC (.int 6)) ag))) (tOp (cb K) (d5 (ac (tC (.int 1)) (ac (tC (.int 2)) (ac (tC (.int 4)) (ac (tC (.int 8)) ag))))) (aa 8))) (tC (.int 2))) (tC (.int 1))))) (ap (dI (av (jX K G) [] E0 (ac (aa 7) (ac (aa 4) (ac (aa 5) (ac (av (bz K) [] E0 (ac (aa 0) (ac (tOp (rI0 fun i j=>.int (i + j)) (tC (.int 59)) (aa 8)) ag))) (ac (aa 3) ag)))))))
 (bp (dt (tB (av (cG K) [] E0 (ac (gm G.Table "truths" (dX K G) [] E0 (aa 7) (ac (aa 9) ag)) (ac (av (dg K 35) [] E0 (ac (aa 4) (ac (aa 5) (ac (aa 9) ag)))) ag))))) (aJ (tC (.bl false))) aY)) aY))))))))))))
 (aJ (ik (av (fU K G) [] E0 (ac (aa 7) (ac (aa 5) ag))) (tOp (mZ K false) (gm G.Table "deals" (kI K G) [] E0 (aa 7) ag) (aa 4)))))))))))
noncomputable abbrev MF:List Str:=["_law_script","_law_cards","_law_sizes","_law_hands","_law_deals","_law_views","_law_hand","_law_table","_law_k","_law_saying_here","_law_group_here","_law_due","_law_found"]
theorem LZ {K:Fg} {G:GF} {vs:List V} {H:Hp} {Q:VK} {E:XK} (h:LY K vs H Q E):AI K G { nx:=fun _ H'=>Q .non H',rt:=Q } (start MF vs) H:=by
 obtain ⟨a,ns,rfl,hSc,g⟩:=h
 show AI K G _ [some _,none,none,none,none,none,none,none,none,none,none,none,none] _
 unfold AI
 refine bA ?_
 walk_at "rs"
 refine ⟨by simp [Nf],fun l0 H0 hl0 s0 e0=>?_⟩
 walk_at "rs"
 refine ⟨a,ns,7,rfl,hSc.same s0,by decide,by decide,?_⟩
 walk_at "rs"
 obtain ⟨most,hat,hm1,hm2⟩:∃ most:Int,atI [V.int 60,V.int 210] (if decide (cz ns 7 % 16=3)=true then 1 else 0)=some (.int most)/\1<=most/\most<=210:=by
  by_cases z:cz ns 7 % 16=3
  ·rw [decide_eq_true z]; exact ⟨210,rfl,by decide,by decide⟩
  ·rw [decide_eq_false z]; exact ⟨60,rfl,by decide,by decide⟩
 refine bI (SqL.of e0) hat ?_
 walk_at "rs"
 refine ⟨a,ns,0,most,rfl,hSc.same s0,by decide,by decide,hm1,fun c ss tp q H1 s1 htp hq e1 eq1 pk hm=>?_⟩
 refine dO (SqT.of e1) ?_
 have h1:=pk.l1
 have h5:=pk.l5
 have c12:=pk.c12
 have hSc1:=(hSc.same s0).same s1
 walk_at "rs"
 refine bA ?_
 walk_at "rs"
 rw [aS]
 refine bA ?_
 walk_at "rs"
 refine ⟨c,q,ss,rfl,eq1,pk,by omega,fun pd H3 s3 hpd D3=>?_⟩
 have okB:=TM.Ok.begun pk (show KM.cA c ss<=2000 by omega)
 have nB:=okB.n2
 have hwc:∀ w∈KM.bR (ss++[c - ss.sum]) c,w.length=c:=fun w hw=>(KM.gO _ c w hw).len
 have hSc3:=hSc1.same s3
 walk_at "rs"
 refine bA ?_
 walk_at "rs"
 refine ⟨by simp [Nf],fun lv H4 hlv s4 e4=>?_⟩
 walk_at "rs"
 refine ko fun NX hNX=>?_
 walk_at "rd"
 refine kt ss.length (by omega) (by omega) (by omega) (fun i σ H5=>∃ (u6:Option V) (us:List Addr),σ=[some (.ref a),some (.int c),some (.ref q),some (.int ss.length),some (.ref pd),some (.ref lv),u6,none,none,none,none,none,none]/\am H3 H5/\H5 lv=some (.lst (us.map V.ref))/\Paired (fun (u:Addr) (v:List Nat)=>H5 u=some (.lst (au v))/\u≠lv) us ((NC i).map fun (j:Nat)=>lC (KM.bR (ss++[c - ss.sum]) c) (j:Int))) ⟨none,[],rfl,s4,e4,.nil⟩ ?_ ?_
 ·rintro i σ H5 hi ⟨u6,us,rfl,s5,e5,r5⟩
  obtain ⟨rs,er,hr⟩:=D3.same' s5
  have hlr:rs.length=(KM.bR (ss++[c - ss.sum]) c).length:=NP hr
  have hn2:(KM.bR (ss++[c - ss.sum]) c).length<=2000:=nB
  generalize KM.bR (ss++[c - ss.sum]) c=ws at *
  walk_at "rd"
  refine ⟨.inl ⟨rfl,_,SqL.of e5⟩,?_⟩
  walk_at "rd"
  refine cF (rs.map V.ref) (SqL.of er) (by rw [M6]; omega) (fun j acc H'=>∃ ts:List Addr,acc=ts.map V.ref/\Paired (fun (t:Addr) (w:List Nat)=>H' t=some (.tup ((eX w (i:Int)).map V.int))) ts (ws.take j)) (fun H' _=>⟨[],rfl,.nil⟩) ?_ ?_
  ·rintro p' hp' C s' H' fp j xx acc H6 hxx ⟨s6,e6,l6,ts,rfl,r6⟩
   obtain ⟨b',hb',rfl⟩:=m5 hxx
   obtain ⟨w,hwi,ew⟩:=bx hr hb'
   have hw1:=hwc w (Ng hwi)
   have ew6:=s6 _ _ ew
   rw [dm] at ew6
   walk_at "rd"
   refine Du (S:=eD) _ (SqT.of ew6) (fun H' s=>s.tup (SqT.of ew6)) (by rw [M6,M6]; omega) (fun i' acc _=>acc=(oM (w.map fun (s:Nat)=>((s:Nat):Int)) (i:Int) i').map V.int) (fun H' _=>rfl) ?_ ?_
   ·rintro r hr' C s' H' fp i' xx T acc H7 H8 hx' ⟨s7,e7,l7,rfl⟩ hT s8 e8 e9
    obtain ⟨z,hz,rfl⟩:=rX hx'
    walk_at "rd"
    refine dO (SqT.of e8) ?_
    walk_at "rd"
    have eu:=rW (w.map fun (s:Nat)=>((s:Nat):Int)) (i:Int) i'
    refine dC (fun c=>?_) (fun c=>?_)
    ·walk_at "rd"
     refine bf.put hr' (fun _ _ _ _ r _=>r) (s7.trans s8) e9 l7 ?_
     rw [eu,if_pos (by rw [hz,c]),Ny]
     rfl
    ·refine bf.skip (s7.trans s8) e9 l7 ?_
     rw [eu,if_neg (by rw [hz]; intro z; exact c (Nl z)),O6]
   ·rintro p7 acc7 H7 hp7 s7 e7 rfl
    rw [M6,M6] at e7
    walk_at "rd"
    refine yo (SqL.of e7) fun t2 H8 ht2 s8 e8=>?_
    have s78:=s7.trans s8
    refine bf.put hp' (fun _ _ _ _ r k=>by obtain ⟨ts,e,p⟩:=r; exact ⟨ts,e,Paired.mapP p fun _ _ e=>k _ _ e⟩) (s6.trans s78) (s78 _ _ e6) l6 ⟨ts++[t2],by rw [Ny]; rfl,?_⟩
    rw [bX hwi]
    exact su (Paired.mapP r6 fun _ _ e=>s78 _ _ e) e8
  ·rintro po acc H6 hpo s6 e6 ⟨ts,rfl,r6⟩
   rw [M6,hlr,NM] at r6
   walk_at "rd"
   refine ⟨po,_,ws.map fun w=>vt (eX w (i:Int)),true,rfl,e6,IJ r6,?_,by rw [M6]; omega,fun du H9 hdu s9 e9=>?_⟩
   ·intro k hk
    obtain ⟨w,_,rfl⟩:=Os.mp hk
    rfl
   rw [uO] at e9
   have s69:=s6.trans s9
   walk_at "rd"
   have lu:us.length=i:=by rw [NP r5,M6,OO]
   refine kr (s69 _ _ e5) (by rw [M6,Nf]; omega) fun HA oA eA=>?_
   walk_at "rd"
   have ndu:du≠lv:=fun z=>by rw [z,s6 _ _ e5] at hdu; cases hdu
   refine ⟨_,us++[du],rfl,(s5.trans s69).off hlv oA,by rw [eA,Ny]; rfl,?_⟩
   rw [PY,Ny]
   exact su (Paired.mapP r5 fun u v ⟨z1,z2⟩=>⟨(oA _ z2).trans (s69 _ _ z1),z2⟩) ⟨(oA _ ndu).trans e9,ndu⟩
 ·rintro σ H5 ⟨u6,us,rfl,s5,e5,r5⟩
  refine hNX _ _ ?_
  clear hNX
  refine bA (nQ (LU ?_))
  walk_at "rd"
  intro x dx hx hdx hne
  have st:am H5 (upd (upd H5 dx (.own x)) x (.ins G.Table dx [])):=((am.refl H5).upd hdx _).upd hx _
  have xlv:x≠lv:=fun z=>by rw [z,e5] at hx; cases hx
  refine ⟨[lv],x,dx,q,c,ss,rfl,ay,st _ _ (s5 _ _ (s3 _ _ eq1)),pk,by omega,fun b hb z=>(by rw [M8.mp hb,st _ _ e5] at z; cases z),fun hb=>xlv (M8.mp hb),fun H6 pv pe kx hpv hpe t6=>?_⟩
  have s6:am H5 H6:=fun b o e=>kx _ _ (bn e hx) (st _ _ e)
  have hpv5:=st.free hpv
  have hpe5:=st.free hpe
  have lvv:lv≠pv:=fun z=>by rw [z,hpv5] at e5; cases e5
  have lve:lv≠pe:=fun z=>by rw [z,hpe5] at e5; cases e5
  have new3:∀ b∈[pv,pe,lv],H3 b=none:=fun b hb=>by
   rcases Nc.mp hb with z | z
   ·rw [z]; exact s5.free hpv5
   ·rcases Nc.mp z with z | z
    ·rw [z]; exact s5.free hpe5
    ·rw [M8.mp z]; exact hlv
  have L6:d6 [pv,pe,lv] H6 lv (TM.begun c ss).vw:=⟨us,s6 _ _ e5,Paired.mapP r5 fun u v ⟨z1,z2⟩=>⟨s6 _ _ z1,fun z=>by
   rcases Nc.mp z with y | y
   ·rw [y,hpv5] at z1; cases z1
   ·rcases Nc.mp y with y | y
    ·rw [y,hpe5] at z1; cases z1
    ·exact z2 (M8.mp y)⟩⟩
  have npd:pd∉[pv,pe,lv]:=fun z=>by
   obtain ⟨rs,er,_⟩:=id D3
   rw [new3 _ z] at er
   cases er
  have subv:∀ b∈[pv,pe],b∈[pv,pe,lv]:=fun b hb=>by
   rcases Nc.mp hb with z | z
   ·rw [z]; exact Nd
   ·rw [M8.mp z]; exact Nn _ Nd
  have mlv:lv∈[pv,pe,lv]:=Nn _ (Nn _ Nd)
  have nlv:lv∉[pv,pe]:=fun z=>by
   rcases Nc.mp z with y | y
   ·exact lvv y
   ·exact lve (M8.mp y)
  refine ⟨rfl,?_⟩
  walk_at "rs"
  refine ko fun NX hNX=>?_
  walk_at "rd"
  refine ⟨a,ns,8,rfl,(hSc3.same s5).same s6,by decide,by decide,?_⟩
  walk_at "rd"
  obtain ⟨m,hm8,hm5⟩:∃ m:Nat,cz ns 8 % 5=(m:Int)/\m < 5:=⟨(cz ns 8 % 5).toNat,by omega,by omega⟩
  rw [hm8]
  refine kt m (by omega) (by omega) (by omega) (fun i σ H7=>∃ (u6 u8 u9 u10 u11 u12:Option V) (T:TM),σ=[some (.ref a),some (.int c),some (.ref q),some (.int ss.length),some (.ref pd),some (.ref lv),u6,some (.ref x),u8,u9,u10,u11,u12]/\am H3 H7/\Tb G [pv,pe,lv] H7 x pv pe T/\d6 [pv,pe,lv] H7 lv T.vw/\T.c=c/\T.ss=ss/\T.ds.length<=2 * i) ⟨u6,none,none,none,none,none,_,rfl,s5.trans s6,t6,L6,rfl,rfl,M9 _⟩ ?_ ?_
  ·clear t6 L6 r5 e5 kx st s6 hpv hpe hpv5 hpe5
   clear us
   rintro i σ H7 hi ⟨u6,u8,u9,u10,u11,u12,T,rfl,s7,t7,L7,hc,hss,hds⟩
   have hk:T.k=ss.length:=by unfold TM.k; rw [hss]
   have hws:T.ws=KM.bR (ss++[c - ss.sum]) c:=by unfold TM.ws; rw [hc,hss]
   have D7:ba H7 pd T.ws:=by rw [hws]; exact D3.same' s7
   have n2:=t7.ok.n2
   have rep:∀ {T:TM},T.Ok->∀ v∈T.vw,Rep T.n v:=fun ok v hv=>IE (ok.win v hv) (ok.can v hv)
   refine bA ?_
   walk_at "rs"
   refine ⟨a,ns,10 + 13 * (i:Int),c,ss.length,14,rfl,hSc3.same s7,by omega,by omega,h1,h5,by decide,by decide,fun v s H8 s8 hS hok hw=>?_⟩
   have okT:s.Ok T.c T.k:=by rw [hc,hk]; exact hok
   walk_at "rs"
   refine bA ?_
   walk_at "rs"
   refine ⟨a,ns,9,rfl,(hSc3.same s7).same s8,by decide,by decide,?_⟩
   walk_at "rs"
   refine ⟨by simp [Nf],fun l9 H9 hl9 s9 e9=>?_⟩
   walk_at "rs"
   obtain ⟨dv,hdv,dv0,dv1⟩:=MZ (i:=i) (by omega)
   refine bI (SqL.of e9) hdv ?_
   walk_at "rs"
   refine ⟨_,ss.length,rfl,h5,fun gp gr HA sA eA pw hb=>?_⟩
   have s7A:=(s8.trans s9).trans sA
   walk_at "rs"
   refine bA ?_
   walk_at "rs"
   have tA:=t7.same s7A
   have LA:=L7.same s7A
   have SA:=hS.keep (s9.trans sA).keep
   refine ⟨pd,lv,v,T.c,T.n,T.ws,T.vw,s,rfl,LA.tab t7.ok (D7.same' s7A),rep t7.ok,SA,by rw [t7.ok.len]; exact okT,by omega,fun p11 HB hp11 sB eB=>?_⟩
   have eB':HB p11=some (.lst (blV T.n (T.tr s))):=eB
   have tB:=tA.same sB
   have n11:p11∉[pv,pe,lv]:=tA.off hp11
   walk_at "rs"
   refine bA ?_
   walk_at "rs"
   obtain ⟨dx1,fs1,hx1,hl1⟩:=tB.at "truths" (by decide +kernel) (by decide +kernel) (by decide +kernel) (by decide +kernel) (by decide +kernel) (by decide +kernel)
   refine iY ?_
   walk_at "rs"
   refine ⟨x,dx1,fs1,rfl,hx1,hl1,?_⟩
   walk_at "rs"
   refine ⟨_,x,pv,pe,T,v,s,rfl,tB,SA.keep sB.keep,okT,by omega,fun pC HC hpC sC eC=>?_⟩
   walk_at "rs"
   refine ⟨pC,p11,T.n,T.tr s,rfl,eC,sC _ _ eB',by omega,fun HD sD=>?_⟩
   have sBD:=sC.trans sD
   walk_at "rs"
   refine bA ?_
   walk_at "rs"
   have tD:=tB.same sBD
   obtain ⟨dx2,fs2,hx2,hl2⟩:=tD.at "word" (by decide +kernel) (by decide +kernel) (by decide +kernel) (by decide +kernel) (by decide +kernel) (by decide +kernel)
   refine iY ?_
   walk_at "rs"
   refine ⟨x,dx2,fs2,rfl,hx2,hl2,?_⟩
   walk_at "rs"
   have sAD:=sB.trans sBD
   refine ⟨_,x,pv,pe,gp,T,gr,v,s,rfl,tD,sAD _ _ eA,pw,fun h hh=>by rw [hk]; exact hb h hh,SA.keep sAD.keep,okT,by omega,by omega,fun p12 Hm HE kE tE hp12 sE eE=>?_⟩
   have s7D:=(s7A.trans sAD)
   have s3D:=s7.trans s7D
   have e11D:=sBD _ _ eB'
   have e11m:=kE.lst (fun z=>n11 (subv _ z)) e11D
   walk_at "rs"
   refine bA ?_
   walk_at "rs"
   refine ⟨p12,p11,T.n,T.tr s,rfl,eE,sE _ _ e11m,by omega,fun HF sF=>?_⟩
   walk_at "rs"
   refine bA ?_
   walk_at "rs"
   refine ⟨qa (sF _ _ eE),?_⟩
   walk_at "rs"
   refine DF (sF _ _ eE) fun HG oG eG=>?_
   have smG:am Hm HG:=(sE.trans sF).off hp12 oG
   have tG:=tE.same smG
   have kDm:Kp [pv,pe,lv] HD Hm:=kE.mono subv
   have LG:d6 [pv,pe,lv] HG lv T.vw:=(((LA.same sAD).kp kE subv nlv)).same smG
   have s3m:am H3 Hm:=kDm.new s3D new3
   have s3G:=s3m.trans smG
   have e11G:=smG _ _ e11m
   have egG:=smG _ _ (kE.tup (sAD _ _ eA))
   have DG:ba HG pd T.ws:=by rw [hws]; exact D3.same' s3G
   walk_at "rs"
   refine ko fun NX2 hNX2=>?_
   walk_at "rd"
   refine rR (au gr) (SqT.of egG) (fun j σ HH=>∃ u6:Option V,σ=[some (.ref a),some (.int c),some (.ref q),some (.int ss.length),some (.ref pd),some (.ref lv),u6,some (.ref x),some (.int i),some v,some (.ref gp),some (.ref p11),some (.ref p12)]/\Kp [lv] HG HH/\d6 [pv,pe,lv] HH lv (lrn T.vw (gr.take j) (blA T.n (T.tr s)))) ⟨u6,rfl,Kp.of (am.refl _),LG⟩ ?_ ?_ ?_
   ·rintro j σ HH hj ⟨u6,rfl,kH,LH⟩
    exact SqT.of (kH.tup egG)
   ·rintro j y σ HH hy ⟨u6,rfl,kH,LH⟩
    obtain ⟨hd,hh,rfl⟩:=fg hy
    have hk':hd < T.vw.length:=by rw [t7.ok.len,hk]; exact hb hd (Ng hh)
    have nlv1:∀ {b:Addr},b∉[pv,pe,lv]->b∉[lv]:=fun n z=>n (by rw [M8.mp z]; exact mlv)
    have e11H:=kH.lst (nlv1 n11) e11G
    obtain ⟨rs,er,hr⟩:=DG.kp kH (nlv1 npd)
    have lr:(rs.map V.ref).length=T.n:=by rw [M6]; exact NP hr
    obtain ⟨us,u,elH,lus,hat',euH⟩:=LH.get (i:=hd) (by rw [mO]; exact hk')
    rw [mO] at lus
    have hvw:Within T.n ((lrn T.vw (gr.take j) (blA T.n (T.tr s))).getD hd []):=by
     refine pc (as:=blA T.n (T.tr s)) (P:=Within T.n) (fun v hv=>m7 hv (tW _ _)) (gr.take j) T.vw (fun h hh=>by rw [t7.ok.len,hk]; exact hb h (T9 hh)) t7.ok.win _ ?_
     rw [Np,M7 (by rw [mO]; exact hk')]
     exact Pq _
    have tH:Tb G [pv,pe,lv] HH x pv pe (T.word gr s):=tG.kp kH (fun b hb=>by rw [M8.mp hb]; exact mlv) (fun z=>lvv (M8.mp z).symm) (fun z=>lve (M8.mp z).symm)
    generalize hvv:(lrn T.vw (gr.take j) (blA T.n (T.tr s))).getD hd []=vv at *
    have hvl:=hvw.1
    walk_at "rd"
    rw [lr]
    refine vk T.n (by omega) (by omega) (by omega) (fun j acc H'=>∃ ts:List Addr,acc=ts.map V.ref/\mM H' ts (((au vv).zip (blV T.n (T.tr s))).take j)) (fun _ _=>⟨[],rfl,.nil⟩) ?_ ?_
    ·rintro p' hp' C s' H' fp j acc H4 hj ⟨s4,e4,l4,ts,rfl,r4⟩
     have hvj:(au vv)[j]?=some ((au vv)[j]'(by rw [aS]; omega)):=M7 _
     generalize (au vv)[j]'(by rw [aS]; omega)=vj at hvj
     walk_at "rd"
     refine bI (SqL.of (s4 _ _ elH)) hat' ?_
     walk_at "rd"
     refine bI (SqL.of (s4 _ _ euH)) (cP hvj) ?_
     walk_at "rd"
     refine bI (SqL.of (s4 _ _ e11H)) (BE hj) ?_
     walk_at "rd"
     refine ⟨by simp [Nf],fun tp H5 htp s5 e5=>?_⟩
     refine bf.put hp' (fun _ _ _ _ r k=>by obtain ⟨ts,e,p⟩:=r; exact ⟨ts,e,Paired.mapP p fun _ _ e=>k _ _ e⟩) (s4.trans s5) (s5 _ _ e4) l4 ⟨ts++[tp],by rw [Ny]; rfl,?_⟩
     rw [zz hvj (kC hj)]
     exact su (Paired.mapP r4 fun _ _ e=>s5 _ _ e) e5
    ·rintro pl acc H4 hpl s4 e4 ⟨ts,rfl,r4⟩
     rw [PM (by rw [OS,aS,br]; omega)] at r4
     walk_at "rd"
     refine ⟨pl,_,_,true,rfl,e4,qp r4 (BI _ _),?_,by rw [M6,OS]; omega,fun nl H5 hnl s5 e5=>?_⟩
     ·intro k hk
      obtain ⟨w,_,rfl⟩:=Os.mp hk
      rfl
     rw [oN] at e5
     walk_at "rd"
     have s35:=s4.trans s5
     refine mS (s35 _ _ elH) (EF (by rw [M6]; omega)) ?_
     have nnl:nl∉[pv,pe,lv]:=(tH.same s4).off hnl
     refine ⟨_,rfl,(kH.trans (Kp.of s35)).upd (s35 _ _ elH) (M8.mpr rfl),?_⟩
     rw [bX hh,BJ,hvv]
     exact (LH.same s35).set mlv (s35 _ _ elH) hd e5 nnl
   ·rintro σ HH ⟨u6,rfl,kH,LH⟩
    refine hNX2 _ _ ?_
    clear hNX2
    rw [aS,NM] at LH
    have tH:Tb G [pv,pe,lv] HH x pv pe (T.word gr s):=tG.kp kH (fun b hb=>by rw [M8.mp hb]; exact mlv) (fun z=>lvv (M8.mp z).symm) (fun z=>lve (M8.mp z).symm)
    have s3H:am H3 HH:=kH.new s3G fun b hb=>by rw [M8.mp hb]; exact hlv
    have SH:aU HH v s:=((((SA.keep sAD.keep).keep kE.keep).keep smG.keep)).keep kH.keep
    have LH':d6 [pv,pe,lv] HH lv (T.word gr s).vw:=LH
    refine bA ?_
    walk_at "rs"
    refine ⟨_,x,pv,pe,lv,T.word gr s,rfl,tH,LH',fun HI sI=>?_⟩
    walk_at "rs"
    refine ⟨_,x,pv,pe,lv,T.word gr s,rfl,tH.same sI,LH'.same sI,fun HJ sJ=>?_⟩
    have sHJ:=sI.trans sJ
    walk_at "rs"
    have tJ:=tH.same sHJ
    refine bA ?_
    walk_at "rs"
    obtain ⟨dx3,fs3,hx3,hl3⟩:=tJ.at "truths" (by decide +kernel) (by decide +kernel) (by decide +kernel) (by decide +kernel) (by decide +kernel) (by decide +kernel)
    refine iY ?_
    walk_at "rs"
    refine ⟨x,dx3,fs3,rfl,hx3,hl3,?_⟩
    walk_at "rs"
    have SJ:=SH.keep sHJ.keep
    refine ⟨_,x,pv,pe,T.word gr s,v,s,rfl,tJ,SJ,okT,by omega,fun pK HK hpK sK eK=>?_⟩
    walk_at "rs"
    have sHK:=sHJ.trans sK
    have DK:ba HK pd (T.word gr s).ws:=by show ba HK pd T.ws; rw [hws]; exact (D3.same' s3H).same' sHK
    refine ⟨pd,lv,v,T.c,T.n,T.ws,(T.word gr s).vw,s,rfl,(LH'.same sHK).tab tH.ok DK,rep tH.ok,SJ.keep sK.keep,by rw [tH.ok.len]; exact okT,by omega,fun pN HN hpN sN eN=>?_⟩
    walk_at "rs"
    refine ⟨pK,pN,T.n,(T.word gr s).tr s,rfl,sN _ _ eK,eN,by omega,fun HO sO=>?_⟩
    have sHO:=(sHK.trans sN).trans sO
    have s3O:=s3H.trans sHO
    have tO:=tH.same sHO
    have LO:=LH'.same sHO
    have dsW:(T.word gr s).ds.length=T.ds.length + 1:=by show (T.ds++[_]).length=_; rw [Nx]; rfl
    walk_at "rs"
    have stop:∀ σ6,∃ (u6 u8 u9 u10 u11 u12:Option V) (T':TM),[some (.ref a),some (.int c),some (.ref q),some (.int ss.length),some (.ref pd),some (.ref lv),σ6,some (.ref x),some (.int (i:Int)),some v,some (.ref gp),some (.ref p11),some (.ref p12)]=[some (.ref a),some (.int c),some (.ref q),some (.int ss.length),some (.ref pd),some (.ref lv),u6,some (.ref x),u8,u9,u10,u11,u12]/\am H3 HO/\Tb G [pv,pe,lv] HO x pv pe T'/\d6 [pv,pe,lv] HO lv T'.vw/\T'.c=c/\T'.ss=ss/\T'.ds.length<=2 * (i + 1):=fun σ6=>⟨_,_,_,_,_,_,T.word gr s,rfl,s3O,tO,LO,hc,hss,by omega⟩
    refine dC (fun cp=>?_) (fun cp=>?_)
    ·walk_at "rd"
     refine ⟨a,ns,6,rfl,hSc3.same s3O,by decide,by decide,?_⟩
     walk_at "rd"
     refine ⟨by simp [Nf],fun lP HP hlP sP eP=>?_⟩
     walk_at "rd"
     obtain ⟨d2,hd2,d20,d21⟩:=M0 (i:=i) (by omega)
     refine bI (SqL.of eP) hd2 ?_
     walk_at "rd"
     refine dC (fun cq=>?_) (fun cq=>?_)
     ·walk_at "rd"
      have tP:=tO.same sP
      refine ⟨a,ns,59 + (i:Int),rfl,(hSc3.same s3O).same sP,by omega,by omega,?_⟩
      walk_at "rd"
      have DP:ba HP pd (T.word gr s).ws:=by show ba HP pd T.ws; rw [hws]; exact (D3.same' s3O).same' sP
      refine ⟨_,x,pv,pe,lv,pd,T.word gr s,_,ss.length,rfl,tP,hk,DP,npd,LO.same sP,mlv,lvv,lve,(show 0 < T.c by omega),by omega,fun HR T' kR hc' hss' hds' tR LR=>?_⟩
      have s3R:am H3 HR:=kR.new (s3O.trans sP) new3
      have hcT:T'.c=c:=hc'.trans hc
      have hssT:T'.ss=ss:=hss'.trans hss
      have hkT:T'.k=ss.length:=by unfold TM.k; rw [hssT]
      have okT':s.Ok T'.c T'.k:=by rw [hcT,hkT]; exact hok
      have hwsT:T'.ws=KM.bR (ss++[c - ss.sum]) c:=by unfold TM.ws; rw [hcT,hssT]
      have SR:=(SH.keep (sHO.trans sP).keep).keep kR.keep
      walk_at "rd"
      obtain ⟨dx4,fs4,hx4,hl4⟩:=tR.at "truths" (by decide +kernel) (by decide +kernel) (by decide +kernel) (by decide +kernel) (by decide +kernel) (by decide +kernel)
      refine iY ?_
      walk_at "rd"
      refine ⟨x,dx4,fs4,rfl,hx4,hl4,?_⟩
      walk_at "rd"
      refine ⟨_,x,pv,pe,T',v,s,rfl,tR,SR,okT',by omega,fun pS HS hpS sS eS=>?_⟩
      walk_at "rd"
      have DS:ba HS pd T'.ws:=by rw [hwsT]; exact (D3.same' s3R).same' sS
      refine ⟨pd,lv,v,T'.c,T'.n,T'.ws,T'.vw,s,rfl,(LR.same sS).tab tR.ok DS,rep tR.ok,SR.keep sS.keep,by rw [tR.ok.len]; exact okT',by omega,fun pU HU hpU sU eU=>?_⟩
      walk_at "rd"
      have nT':=tR.ok.n2
      refine ⟨pS,pU,T'.n,T'.tr s,rfl,sU _ _ eS,eU,by omega,fun HW sW=>?_⟩
      have sRW:=(sS.trans sU).trans sW
      walk_at "rd"
      exact ⟨_,_,_,_,_,_,T',rfl,s3R.trans sRW,tR.same sRW,LR.same sRW,hcT,hssT,by omega⟩
     ·walk_at "rd"
      exact ⟨_,_,_,_,_,_,T.word gr s,rfl,s3O.trans sP,tO.same sP,LO.same sP,hc,hss,by omega⟩
    ·walk_at "rd"
     exact stop _
  ·rintro σ H7 ⟨u6,u8,u9,u10,u11,u12,T,rfl,s7,t7,L7,hc,hss,hds⟩
   refine hNX _ _ ?_
   walk_at "rd"
   refine ⟨_,x,pv,pe,lv,T,rfl,t7,L7,fun H8 s8=>?_⟩
   have t8:=t7.same s8
   walk_at "rd"
   obtain ⟨dx1,fs1,hx1,hl1⟩:=t8.at "deals" (by decide +kernel) (by decide +kernel) (by decide +kernel) (by decide +kernel) (by decide +kernel) (by decide +kernel)
   refine iY ?_
   walk_at "rd"
   refine ⟨x,dx1,fs1,rfl,hx1,hl1,?_⟩
   walk_at "rd"
   refine ⟨_,x,pv,pe,T,rfl,t8,fun pd2 H9 hpd2 s9 d9=>?_⟩
   walk_at "rd"
   have D9:ba H9 pd T.ws:=by unfold TM.ws; rw [hc,hss]; exact ((D3.same' s7).same' s8).same' s9
   refine Kh 2 (by decide) (EI d9 D9) ?_
   walk_at "rd"
   exact g _
end
section
open PySem.Spec
theorem DA.stay {a:Addr} {kvs:List (IA×V)} {h1 h2:Heap} (d:DA a kvs h1) (k:∀ o,h1.get? a=some o->h2.get? a=some o):DA a kvs h2:=by
 obtain ⟨z,y,P,w,vs,r,o,es,ep,e,c⟩:=d
 exact ⟨z,y,P,w,vs,r,o,es,ep,k _ e,c⟩
theorem DB.stay {a:Addr} {zs:List (List IK×Addr×V)} {h1 h2:Heap} (d:DB a zs h1) (k:∀ o,h1.get? a=some o->h2.get? a=some o):DB a zs h2:=by
 obtain ⟨z,y,xs,r,o,es,ep,e,c⟩:=d
 exact ⟨z,y,xs,r,o,es,ep,k _ e,c⟩
theorem DA.ok {P:Program} {w:World} {H:Hp} {h:Heap} {a:Addr} {kvs:List (IA×V)} (d:DA a kvs h):bQ P w H h a (dA a kvs):=by
 obtain ⟨_,_,_,_,_,_,o,_,_,e,_⟩:=id d
 exact ⟨d,⟨o,e⟩,fun _ _ d k=>d.stay k⟩
theorem DB.ok {P:Program} {w:World} {H:Hp} {h:Heap} {a:Addr} {zs:List (List IK×Addr×V)} (d:DB a zs h):bQ P w H h a (dB a zs):=by
 obtain ⟨_,_,_,_,o,_,_,e,_⟩:=id d
 exact ⟨d,⟨o,e⟩,fun _ _ d k=>d.stay k⟩
theorem ZX.length {zs:List (List IK×Addr×V)} {xs:List (List IK×Addr×Value)} (r:ZX zs xs):zs.length=xs.length:=NP r
theorem ZX.val {zs:List (List IK×Addr×V)} {xs:List (List IK×Addr×Value)} (r:ZX zs xs) (k:List IK):gf (atZ zs k) ((atKey xs k).map (·.2)):=by
 unfold ZX at r
 induction r with
 | nil=>exact Pz
 | @cons p q ps qs h t ih=>
  obtain ⟨h1,_,h2⟩:=h
  by_cases e:p.1=k
  ·have e':q.1=k:=h1.symm.trans e
   have b:atKey (q :: qs) k=some q.2:=by simp [atKey,NO,e']
   have c:atZ (p :: ps) k=some p.2.2:=by simp [atZ,NO,e]
   rw [c,b]; exact h2
  ·have e':¬ q.1=k:=fun z=>e (h1.trans z)
   have b:atKey (q :: qs) k=atKey qs k:=by simp [atKey,NO,e']
   have c:atZ (p :: ps) k=atZ ps k:=by simp [atZ,NO,e]
   rw [c,b]; exact ih
noncomputable def lZ (zs:List (List IK×Addr×V)) (k:List IK) (b:Addr) (v:V):List (List IK×Addr×V):=
 if (atZ zs k).isSome then zs.map (fun x=>if x.1=k then (x.1,x.2.1,v) else x) else zs++[(k,b,v)]
theorem ZX.repl {zs:List (List IK×Addr×V)} {xs:List (List IK×Addr×Value)} (r:ZX zs xs) (k:List IK) {v:V} {u:Value} (rv:aK v u):ZX (zs.map fun x=>if x.1=k then (x.1,x.2.1,v) else x) (xs.map (putAt k u)):=by
 unfold ZX at r ⊢
 induction r with
 | nil=>exact .nil
 | @cons p q ps qs h t ih=>
  rw [Nt,Nt]
  refine .cons ?_ ih
  obtain ⟨h1,h2,h3⟩:=h
  unfold putAt
  by_cases e:p.1=k
  ·rw [if_pos e,if_pos (h1.symm.trans e)]; exact ⟨h1,h2,rv⟩
  ·rw [if_neg e,if_neg (fun z=>e (h1.trans z))]; exact ⟨h1,h2,h3⟩
theorem ZX.put {zs:List (List IK×Addr×V)} {xs:List (List IK×Addr×Value)} (r:ZX zs xs) (k:List IK) {b:Addr} {v:V} {u:Value} (rv:aK v u):ZX (lZ zs k b v) (storedH xs k b u):=by
 have e:(atZ zs k).isSome=(atKey xs k).isSome:=by
  rw [(r.val k).isSome_eq,Sr]
 unfold lZ storedH
 rw [e]
 by_cases q:(atKey xs k).isSome=true
 ·rw [if_pos q,if_pos q]; exact r.repl k rv
 ·rw [if_neg q,if_neg q]; exact Vi r ⟨rfl,rfl,rv⟩
theorem Kv (zs:List (List IK×Addr×V)) (k j:List IK) (b:Addr) (v:V):atZ (lZ zs k b v) j=if j=k then some v else atZ zs j:=by
 have hm:∀ ys:List (List IK×Addr×V),atZ (ys.map fun x=>if x.1=k then (x.1,x.2.1,v) else x) j=(atZ ys j).map fun y=>if j=k then v else y:=by
  intro ys
  induction ys with
  | nil=>rfl
  | cons p r ih=>
   rw [Nt]
   unfold atZ at ih ⊢
   by_cases h:p.1=k
   ·rw [if_pos h]
    by_cases e:p.1=j
    ·simp [NO,e,e.symm.trans h]
    ·simp [NO,e]; simpa using ih
   ·rw [if_neg h]
    by_cases e:p.1=j
    ·have:¬ j=k:=fun z=>h (e.trans z)
     simp [NO,e,this]
    ·simp [NO,e]; simpa using ih
 have ha:∀ ys:List (List IK×Addr×V),atZ ys k=none->atZ (ys++[(k,b,v)]) j=if j=k then some v else atZ ys j:=by
  intro ys
  induction ys with
  | nil=>
   intro _
   by_cases e:k=j
   ·simp [atZ,NO,e]
   ·have:¬ j=k:=fun z=>e z.symm
    simp [atZ,NO,e,this]
  | cons p r ih=>
   intro hn
   have hk:¬ p.1=k:=fun z=>by simp [atZ,NO,z] at hn
   have hn':atZ r k=none:=by simpa [atZ,NO,hk] using hn
   have ih':=ih hn'
   by_cases e:p.1=j
   ·have:¬ j=k:=fun z=>hk (e.trans z)
    simp [atZ,NO,e,this]
   ·have c:atZ (p :: (r++[(k,b,v)])) j=atZ (r++[(k,b,v)]) j:=by simp [atZ,NO,e]
    have c':atZ (p :: r) j=atZ r j:=by simp [atZ,NO,e]
    rw [Vy,c,c',ih']
 unfold lZ
 cases q:atZ zs k with
 | some y=>
  rw [if_pos (show (some y).isSome=true from rfl),hm]
  by_cases e:j=k
  ·subst e; rw [q,if_pos rfl]; simp
  ·rw [if_neg e]; cases atZ zs j <;> simp [e]
 | none=>rw [if_neg (show ¬ (none:Option V).isSome=true by decide)]; exact ha zs q
theorem oP (zs:List (List IK×Addr×V)) (k:List IK) (b:Addr) (v:V):(lZ zs k b v).length<=zs.length + 1:=by
 unfold lZ
 split
 ·rw [M6]; omega
 ·rw [Nx,NK,VY]; omega
theorem IL {zs:List (List IK×Addr×V)} {k:List IK} {b:Addr} {v:V} {z:List IK×Addr×V} (h:z∈lZ zs k b v):(∃ z0∈zs,z.1=z0.1/\z.2.1=z0.2.1)\/(z.1=k/\z.2.1=b):=by
 unfold lZ at h
 split at h
 ·obtain ⟨z0,h0,rfl⟩:=Os.mp h
  refine .inl ⟨z0,h0,?_⟩
  split <;> exact ⟨rfl,rfl⟩
 ·rcases NH.mp h with h | h
  ·exact .inl ⟨z,h,rfl,rfl⟩
  ·rw [M8.mp h]; exact .inr ⟨rfl,rfl⟩
section
variable {X:Cx} {pins:List (Addr×Obj)} {σ:St} {H:Hp} {s:Shared} {a:Addr} {y v:V} {u r:Value} {A:Around} {E:Value->Shared->Prop} {srt:Bool} {f:MK->Option V} {n:Nat} {k:MK}
theorem tY {k:IA} (h:iaV y=some k) (ry:aK y u):qc k u=true:=by
 cases y with
 | non=>cases h; cases ry; rfl
 | bl b=>cases h; cases ry; simp [qc]
 | int i=>cases h; obtain ⟨t,rfl⟩:=ry; simp [qc]
 | _=>cases h
theorem DH {P:Program} {w:World}:∀ {ks:List IA} {ys:List V} {us:List Value},ys.map iaV=ks.map some->aL ys us->ItemsAre (dc P w) ks us
 | [],[],_,_,.nil=>.nil
 | k :: ks,y :: ys,_,e,.cons h t=>by
  rw [Nt,Nt] at e
  injection e with e1 e2
  exact .cons (tY e1 h) (DH e2 t)
 | [],_ :: _,_,e,_=>by simp at e
 | _ :: _,[],_,e,_=>by simp at e
theorem GV (ok:HOk X.prog X.w H s.heap) {c:Addr} {xs:List V} (e:H c=some (.tup xs)):∃ its,aL xs its/\∃ o n,s.heap.get? c=some o/\o.cls=.type "tuple"/\o.data=.seq its.toArray n:=by
 obtain ⟨_,its,r,o,h1,h2,⟨n,h3⟩,_⟩:=(show bQ X.prog X.w H s.heap c (.tup xs) from ok c _ e)
 exact ⟨its,r,o,n,h1,h2,h3⟩
theorem Kw (ok:HOk X.prog X.w H s.heap) {k:IK} (h:nR H y k) (ry:aK y u):dw X.prog X.w s.heap k u:=by
 cases k with
 | inl a=>exact tY h ry
 | inr as=>
  obtain ⟨c,ys,rfl,e,q⟩:=h
  cases ry
  obtain ⟨its,rv,o,n,h1,h2,h3⟩:=GV ok e
  exact ⟨c,rfl,o,its.toArray,n,h1,h2,h3,by simpa using DH q rv⟩
theorem IM (ok:HOk X.prog X.w H s.heap) {xs:List V} {ks:List IK} {us:List Value} (p:Paired (nR H) xs ks):aL xs us->Paired (dw X.prog X.w s.heap) ks us:=by
 induction p generalizing us with
 | nil=>intro q; cases q; exact .nil
 | cons h t ih=>intro q; cases q with
  | cons r q=>exact .cons (Kw ok h r) (ih q)
theorem wX (ok:HOk X.prog X.w H s.heap) {c:Addr} {ks:List IK} (h:ci H (.ref c) (.inr ks)):iQ X.prog X.w s.heap ks c:=by
 obtain ⟨c',xs,e,ec,q⟩:=h
 cases e
 obtain ⟨its,rv,o,n,h1,h2,h3⟩:=GV ok ec
 exact ⟨o,its.toArray,n,h1,h2,h3,by simpa using IM ok q rv⟩
theorem tZ (h:ci H y k) (hs:gn k=true):∃ c ks,y=.ref c/\k=.inr ks:=by
 cases k with
 | inl _=>cases hs
 | inr ks=>obtain ⟨c,xs,e,_⟩:=h; exact ⟨c,ks,e,rfl⟩
theorem GW {P P':Program} {w w':World} {es:List Uz} {vs:List (IA×Value)} (h:Pairs (dc P w) es vs):Pairs (dc P' w') es vs:=by
 induction h with
 | nil=>exact .nil
 | cons a b _ ih=>exact .cons a b ih
theorem wY {kvs:List (IA×V)} (ok:HOk X.prog X.w H s.heap) (e:H a=some (dA a kvs)):kvs.length<=Nh/\(a == O4)=false/\∃ vs,KV kvs vs/\s.heap.DictOf (dc X.prog X.w) a vs:=by
 obtain ⟨⟨z,y,P,w,vs,r,o,es,ep,h1,h2,h3,h4,h5,h6⟩,_⟩:=(show bQ X.prog X.w H s.heap a (dA a kvs) from ok a _ e)
 exact ⟨z,y,vs,r,o,es,ep,h1,h2,h3,h4,GW h5,h6⟩
theorem wZ {zs:List (List IK×Addr×V)} (ok:HOk X.prog X.w H s.heap) (e:H a=some (dB a zs)) (hk:∀ z∈zs,ci H (.ref z.2.1) (.inr z.1)):zs.length<=Nh/\(a == O4)=false/\∃ xs,ZX zs xs/\s.heap.DictOfH (mW X.prog X.w) a xs:=by
 obtain ⟨⟨z,y,xs,r,o,es,ep,h1,h2,h3,h4,h5⟩,_⟩:=(show bQ X.prog X.w H s.heap a (dB a zs) from ok a _ e)
 refine ⟨z,y,xs,r,o,es,ep,h1,h2,h3,h4,?_,h5⟩
 have all:∀ {l:List (List IK×Addr×V)} {m:List (List IK×Addr×Value)},ZX l m->(∀ z∈l,ci H (.ref z.2.1) (.inr z.1))->∀ x∈m,(mW X.prog X.w).is s.heap x.1 x.2.1:=by
  intro l m q
  unfold ZX at q
  induction q with
  | nil=>intro _ x hx; exact nomatch hx
  | @cons p q ps qs hq t ih=>
   intro hk x hx
   rcases Nc.mp hx with e | hx
   ·subst e
    have:=hk p (Nd ..)
    rw [hq.1,hq.2.1] at this
    exact wX ok this
   ·exact ih (fun z hz=>hk z (Nn _ hz)) x hx
 exact all r hk
theorem Ky {Q:Value->Shared->Prop} (hu:A.units + 2 < cLine) (I:Inv X pins σ H s) (d:Dx H a srt f n) (hk:ci H y k) (hs:gn k=srt) (ry:aK y u) (h:∀ s',Inv X pins σ H s'->Q (.bool (f k).isNone) s'):
  wpAny (model X.prog X.w) A (O2 .NotIn u (.ref a)) Q E s:=by
 rcases d with ⟨rfl,kvs,e,hf,_⟩ | ⟨rfl,zs,e,hz,hf,_⟩
 ·cases k with
  | inr _=>cases hs
  | inl k=>
   obtain ⟨z,hd,vs,rel,dd⟩:=wY I.hok e
   refine wpAny_notIn_of (knd:=dc X.prog X.w) (tY hk ry) hd dd.mapOf ?_
   rw [<-(rel.val k).isSome_eq,hf k]
   rw [show (!(f (.inl k)).isSome)=(f (.inl k)).isNone by cases f (.inl k) <;> rfl]
   exact h _ (I.tok _)
 ·obtain ⟨c,ks,rfl,rfl⟩:=tZ hk hs
  cases ry
  obtain ⟨z,hd,xs,rel,dd⟩:=wZ I.hok e hz
  refine wpAny_notIn_heap (knd:=mW X.prog X.w) hu (wX I.hok hk) hd dd ?_
  have q:=(rel.val ks).isSome_eq
  rw [Sr,hf ks] at q
  rw [<-q,show (!(f (.inr ks)).isSome)=(f (.inr ks)).isNone by cases f (.inr ks) <;> rfl]
  exact h _ (I.tok _)
theorem MG {Q:Value->Shared->Prop} (hu:A.units + 2 < cLine) (I:Inv X pins σ H s) (d:Dx H a srt f n) (hk:ci H y k) (hs:gn k=srt) (ry:aK y u) (ev:f k=some v) (h:∀ w' s',Inv X pins σ H s'->aK v w'->Q w' s'):
  wpAny (model X.prog X.w) A (getItem (.ref a) u) Q E s:=by
 rcases d with ⟨rfl,kvs,e,hf,_⟩ | ⟨rfl,zs,e,hz,hf,_⟩
 ·cases k with
  | inr _=>cases hs
  | inl k=>
   obtain ⟨z,hd,vs,rel,dd⟩:=wY I.hok e
   obtain ⟨w',hw,rw'⟩:=gf.some_of (v:=v) (o:=valueAt vs k) (by rw [<-ev,<-hf k]; exact rel.val k)
   exact VB (knd:=dc X.prog X.w) (tY hk ry) dd.mapOf hw (h w' _ (I.tok _) rw')
 ·obtain ⟨c,ks,rfl,rfl⟩:=tZ hk hs
  cases ry
  obtain ⟨z,hd,xs,rel,dd⟩:=wZ I.hok e hz
  obtain ⟨w',hw,rw'⟩:=gf.some_of (v:=v) (o:=(atKey xs ks).map (·.2)) (by rw [<-ev,<-hf ks]; exact rel.val ks)
  obtain ⟨p,hp,hp2⟩:=Tu.mp hw
  refine wpAny_getItem_heap (knd:=mW X.prog X.w) hu (wX I.hok hk) dd hp ?_
  rw [hp2]
  exact h w' _ (I.tok _) rw'
theorem ni {o:HO}:Off a H (upd H a o):=fun b hb=>aQ hb
theorem GX {h':Heap} {t':Nat} {kvs kvs':List (IA×V)} {vs':List (IA×Value)} (I:Inv X pins σ H s) (e:H a=some (dA a kvs)) (hs:Nw a s.heap h') (z:kvs'.length<=Nh) (hd:(a == O4)=false) (rel:KV kvs' vs') (dd:h'.DictOf (dc X.prog X.w) a vs'):
  Inv X pins σ (upd H a (dA a kvs')) { s with heap:=h',toks:=t' }:=by
 have he:∃ q,h'.get? a=some q:=let ⟨q,_,_,hq,_⟩:=dd; ⟨q,hq⟩
 exact Dq I (by rw [e]; exact Pz) hs he (DA.ok ⟨z,hd,X.prog,X.w,vs',rel,dd⟩)
theorem GY {h':Heap} {t':Nat} {zs zs':List (List IK×Addr×V)} {xs':List (List IK×Addr×Value)} (I:Inv X pins σ H s) (e:H a=some (dB a zs)) (hs:Nw a s.heap h') (z:zs'.length<=Nh) (hd:(a == O4)=false) (rel:ZX zs' xs') (dd:h'.DictOfH (mW X.prog X.w) a xs'):
  Inv X pins σ (upd H a (dB a zs')) { s with heap:=h',toks:=t' }:=by
 obtain ⟨o,es,ep,h1,h2,h3,h4,_,h5⟩:=dd
 exact Dq I (by rw [e]; exact Pz) hs ⟨o,h1⟩ (DB.ok ⟨z,hd,xs',rel,o,es,ep,h1,h2,h3,h4,h5⟩)
theorem DI {kvs:List (IA×V)} {k:IA} (e:H a=some (dA a kvs)) (hf:∀ k,eF kvs k=f (.inl k)) (hn:kvs.length<=n):Dx (upd H a (dA a (jk kvs k v))) a false (i4 f (.inl k) v) (n + 1):=by
 refine .inl ⟨rfl,_,ay,fun j=>?_,?_⟩
 ·rw [HY]
  unfold i4
  by_cases q:j=k
  ·rw [if_pos q,if_pos (by rw [q])]
  ·rw [if_neg q,if_neg (fun z=>q (Vd z)),hf j]
 ·have:=oH kvs k v; omega
theorem DJ {zs:List (List IK×Addr×V)} {k:List IK} {c:Addr} (e:H a=some (dB a zs)) (hz:∀ z∈zs,ci H (.ref z.2.1) (.inr z.1)) (hk:ci H (.ref c) (.inr k)) (hf:∀ k,atZ zs k=f (.inr k)) (hn:zs.length<=n):
  Dx (upd H a (dB a (lZ zs k c v))) a true (i4 f (.inr k) v) (n + 1):=by
 have kp:fb H (upd H a (dB a (lZ zs k c v))):=ni.keepD fun xs q=>by rw [e] at q; cases q
 refine .inr ⟨rfl,_,ay,fun z h=>?_,fun j=>?_,?_⟩
 ·rcases IL h with ⟨z0,h0,e1,e2⟩ | ⟨e1,e2⟩
  ·rw [e1,e2]; exact (hz z0 h0).keep kp
  ·rw [e1,e2]; exact hk.keep kp
 ·rw [Kv]
  unfold i4
  by_cases q:j=k
  ·rw [if_pos q,if_pos (by rw [q])]
  ·rw [if_neg q,if_neg (fun z=>q (QI z)),hf j]
 ·have:=oP zs k c v; omega
theorem MH {Q:Unit->Shared->Prop} (hu:A.units + 2 < cLine) (I:Inv X pins σ H s) (d:Dx H a srt f n) (hk:ci H y k) (hs:gn k=srt) (hn:n < Nh) (ry:aK y u) (rv:aK v r)
  (h:∀ H' s',Off a H H'->Dx H' a srt (i4 f k v) (n + 1)->Inv X pins σ H' s'->Q () s'):wpAny (model X.prog X.w) A (setItem (.ref a) u r) Q E s:=by
 rcases d with ⟨rfl,kvs,e,hf,hl⟩ | ⟨rfl,zs,e,hz,hf,hl⟩
 ·cases k with
  | inr _=>cases hs
  | inl k=>
   obtain ⟨z,hd,vs,rel,dd⟩:=wY I.hok e
   have hvz:vs.length<=Nh:=by rw [<-rel.length]; exact z
   have hl':(jk kvs k v).length<=Nh:=by have:=oH kvs k v; omega
   refine wpAny_setItem_pairs (knd:=dc X.prog X.w) (hsz:=hvz) (tY hk ry) dd fun h' dd' hs'=>h _ _ ni (DI e hf hl) ?_
   exact GX I e hs' hl' hd (rel.put k rv) dd'
 ·obtain ⟨c,ks,rfl,rfl⟩:=tZ hk hs
  cases ry
  obtain ⟨z,hd,xs,rel,dd⟩:=wZ I.hok e hz
  have hvz:xs.length<=Nh:=by rw [<-rel.length]; exact z
  have hl':(lZ zs ks c v).length<=Nh:=by have:=oP zs ks c v; omega
  refine wpAny_setItem_heap (knd:=mW X.prog X.w) (hsz:=hvz) hu (wX I.hok hk) dd fun h' dd' hs'=>h _ _ ni (DJ (c:=c) e hz hk hf hl) ?_
  exact GY I e hs' hl' hd (rel.put ks rv) dd'
theorem w5 {d a:Addr} {knd:HeapKind X.prog X.w (List IK)} {xs:List (List IK×Addr×Value)} {k:List IK} {v:Value} {Q:Value->Shared->Prop} (hu:knd.room A) (hkey:knd.is s.heap k a) (hm:s.heap.DictOfH knd d xs)
  (h1:∀ p,atKey xs k=some p->Q p.2 { s with toks:=s.toks + knd.draws k })
  (h2:atKey xs k=none->∀ h',h'.DictOfH knd d (storedH xs k a v)->Nw d s.heap h'->Q v { s with heap:=h',toks:=s.toks + knd.draws k })
  (hsz:xs.length<=Nh):wpAny (model X.prog X.w) A (RK d (.ref a) v) Q E s:=by
 obtain ⟨o,es,ep,ho,hc,hd,he,his,hn⟩:=hm
 unfold RK
 try with_reducible refine On ?_
 refine M1 (knd.pyHash hu hkey ?_)
 refine M1 (wpAny_dictFind_heap (s:={ s with toks:=s.toks + knd.draws k }) hu hkey ho hd he his hn ?_ ?_)
 ·intro hno
  have hnot:k∉xs.map (·.1):=not_mem_keys_of_get hno
  refine M1 (Pp (M1 (wpAny_updateDictKeys (hz:=by have e:=size_of_entries he; omega) (s:={ s with toks:=s.toks + knd.draws k }) ho hd (M5 (h2 (Q5 hno) _ ⟨_,_,ep + 1,N7 _ ho (Obj.isFreed_of_dict (Ub hd _)),
   hc.mapDictKeys _,Ub hd _,?_,?_,?_⟩ (N8 ..))))))
  ·rw [Vm (Q5 hno)]
   simp [he,entryOfKey]
  ·rw [Vm (Q5 hno)]
   intro x hx
   rcases NH.mp hx with hx | hx
   ·exact knd.keeps (his x hx) ho hd (N8 ..)
   ·simp only [M8] at hx
    subst hx
    exact knd.keeps hkey ho hd (N8 ..)
  ·rw [Vm (Q5 hno)]
   rw [Ny,UW]
   refine ⟨hn,by simp,?_⟩
   intro x hx y hy
   simp only [Nt,QA,M8] at hy
   subst hy
   exact fun e=>hnot (e ▸ hx)
 ·intro j p hj
  refine M1 (wpAny_dictEntries (s:={ s with toks:=s.toks + knd.draws k }) ho hd ?_)
  rw [entry_at he j,hj]
  exact M1 (Pp (M5 (h1 p (atKey_of_get hn hj))))
theorem oh {d:Addr} {key dflt:Value} {Q:Fin->Shared->Prop} (hT:s.TypeIs (.ref d) "dict") (hd:(d == O4)=false) (h:wpAny (model X.prog X.w) A (RK d key dflt) (fun v s'=>Q (.done (.ret v)) s') E s):
  wpAny (model X.prog X.w) A (Builtin.«dict.setdefault» ⟨[.ref d,key,dflt],[]⟩) Q E s:=by
 unfold Builtin.«dict.setdefault»
 refine M1 ?_
 unfold Builtin.Dict.keyAndDefault
 refine M1 (wpAny_notOrdered_dict hT ?_)
 show wpAny _ _ (pure (d,key,some dflt)) _ _ s
 refine M5 ?_
 show wpAny _ _ (if (d == O4)=true then _ else (RK d key dflt >>= _)) _ _ s
 rw [if_neg (by rw [hd]; exact Nk)]
 exact M1 (OM h (fun v s' q=>M5 q) fun _ _ x=>x)
theorem Ce (I:Inv X pins σ H s) (d:Dx H a srt f n):s.TypeIs (.ref a) "dict"/\∀ b,NI a=.ref b->∃ ob,s.heap.get? b=some ob/\ob.dict=none:=by
 rcases d with ⟨_,kvs,e,_,_⟩ | ⟨_,zs,e,hz,_,_⟩
 ·obtain ⟨_,_,vs,_,dd⟩:=wY I.hok e
  refine ⟨dd.typeIs,fun b q=>?_⟩
  cases q
  obtain ⟨ob,_,_,h1,h2,_⟩:=dd
  exact ⟨ob,h1,h2.2.1⟩
 ·obtain ⟨_,_,xs,_,dd⟩:=wZ I.hok e hz
  refine ⟨dd.typeIs,fun b q=>?_⟩
  cases q
  obtain ⟨ob,_,_,h1,h2,_⟩:=dd
  exact ⟨ob,h1,h2.2.1⟩
theorem L8 {Q:Value->Shared->Prop} (hu:A.units + 2 < cLine) (I:Inv X pins σ H s) (d:Dx H a srt f n) (hk:ci H y k) (hs:gn k=srt) (hn:n < Nh) (ry:aK y u) (rv:aK v r)
  (h1:∀ x w' s',f k=some x->aK x w'->Inv X pins σ H s'->Q w' s')
  (h2:f k=none->∀ H' s',Off a H H'->Dx H' a srt (i4 f k v) (n + 1)->Inv X pins σ H' s'->Q r s'):wpAny (model X.prog X.w) A (call (.builtin "dict.setdefault") [.ref a,u,r]) Q E s:=by
 have hT:=(Ce I d).1
 refine NV RL hT PySem.F.entry_dict_setdefault ?_ (PySem.F.args_dict_setdefault_3 _ _ _)
 rcases d with ⟨rfl,kvs,e,hf,hl⟩ | ⟨rfl,zs,e,hz,hf,hl⟩
 ·cases k with
  | inr _=>cases hs
  | inl k=>
   obtain ⟨z,hd,vs,rel,dd⟩:=wY I.hok e
   have hvz:vs.length<=Nh:=by rw [<-rel.length]; exact z
   have hl':(jk kvs k v).length<=Nh:=by have:=oH kvs k v; omega
   refine oh hT hd (kt_dictSetDefault_pairs (knd:=dc X.prog X.w) (hsz:=hvz) (tY hk ry) dd (fun w' hw=>?_) fun hno h' dd' hs'=>?_)
   ·have q:=rel.val k
    rw [hf k,hw] at q
    cases ef:f (.inl k) with
    | none=>rw [ef] at q; exact (show False from q).elim
    | some x=>rw [ef] at q; exact ⟨w',rfl,h1 x w' _ ef q (I.tok _)⟩
   ·have q:=rel.val k
    rw [hf k,hno] at q
    have ef:f (.inl k)=none:=by
     cases ef:f (.inl k) with
     | none=>rfl
     | some x=>rw [ef] at q; exact (show False from q).elim
    exact ⟨r,rfl,h2 ef _ _ ni (DI e hf hl) (GX I e hs' hl' hd (rel.put k rv) dd')⟩
 ·obtain ⟨c,ks,rfl,rfl⟩:=tZ hk hs
  cases ry
  obtain ⟨z,hd,xs,rel,dd⟩:=wZ I.hok e hz
  have hvz:xs.length<=Nh:=by rw [<-rel.length]; exact z
  have hl':(lZ zs ks c v).length<=Nh:=by have:=oP zs ks c v; omega
  refine oh hT hd (w5 (X:=X) (knd:=mW X.prog X.w) hu (wX I.hok hk) dd (fun p hp=>?_) (fun hno h' dd' hs'=>?_) hvz)
  ·have q:=rel.val ks
   rw [hf ks,hp] at q
   cases ef:f (.inr ks) with
   | none=>rw [ef] at q; exact (show False from q).elim
   | some x=>rw [ef] at q; exact ⟨p.2,rfl,h1 x p.2 _ ef q (I.tok _)⟩
  ·have q:=rel.val ks
   rw [hf ks,hno] at q
   have ef:f (.inr ks)=none:=by
    cases ef:f (.inr ks) with
    | none=>rfl
    | some x=>rw [ef] at q; exact (show False from q).elim
   exact ⟨r,rfl,h2 ef _ _ ni (DJ (c:=c) e hz hk hf hl) (GY I e hs' hl' hd (rel.put ks rv) dd')⟩
end
section
variable {X:Cx}
theorem sx (hu:X.A.units + 64 < cLine):OpR X (O2 .NotIn) (vn true):=by
 intro pins s σ H x y v u Q I rx ry h
 obtain ⟨a,srt,f,n,k,rfl,d,hk,hs,q⟩:=h
 cases ry
 exact Ky (by omega) I d hk hs rx fun s' I'=>⟨.bl _,H,I',rfl,q⟩
theorem DL {o i:Expr} {pos:Pos} {td ty:TE} (hu:X.A.units + 64 < cLine) (ho:PE X o td) (hi:PE X i ty) (hs:HZ i):PE X (.Subscript o i pos) (tOp AG td ty):=by
 intro pins s σ H Q I h
 refine Dr SB.lookup hs (thn (ho pins s σ H _ I h) fun u s1 ⟨x,H1,I1,rx,q1⟩=>thn (hi pins s1 σ H1 _ I1 q1) fun iv s2 ⟨y,H2,I2,ry,a,srt,f,n,k,v,ex,d,hk,hs',ev,q2⟩=>?_)
 subst ex
 obtain rfl:u=NI a:=rx
 exact ⟨(Ce I2 d).1,MG (by omega) I2 d hk hs' ry ev fun w' s3 I3 rw'=>⟨v,H2,I3,rw',q2⟩⟩
theorem EJ (hu:X.A.units + 64 < cLine):DV X wn:=by
 intro pins s σ H o i v ov iv u Q I ro ri rv h
 obtain ⟨a,srt,f,n,k,rfl,d,hk,hs,hn,q⟩:=h
 cases ro
 exact MH (by omega) I d hk hs hn ri rv fun H' s' o' d' I'=>⟨H',I',q H' o' d'⟩
theorem qr {pos:Pos}:PE X (.Dict [] [] pos) o0:=fun pins s σ H Q I h=>by
 obtain ⟨srt,h⟩:=h
 have hd:(s.heap.objs.size == O4)=false:=beq_eq_false_iff_ne.mpr (OJ (NN I.big))
 have hp:=I.hok.fresh (M9 s.heap.objs.size)
 cases srt with
 | false=>
  refine VC ⟨.ref s.heap.objs.size,_,I.laid (a:=s.heap.objs.size) (o:=dA s.heap.objs.size []) (t':=s.toks) (fun _ _ q=>M4 _ q) (M9 _) (DA.ok ⟨N9 _,hd,X.prog,X.w,[],.nil,Heap.DictOf.new s.heap⟩),rfl,?_⟩
  exact h _ _ hp (bg hp _) (.inl ⟨rfl,[],ay,fun _=>rfl,M9 _⟩)
 | true=>
  refine VC ⟨.ref s.heap.objs.size,_,I.laid (a:=s.heap.objs.size) (o:=dB s.heap.objs.size []) (t':=s.toks) (fun _ _ q=>M4 _ q) (M9 _) (DB.ok ⟨N9 _,hd,[],.nil,_,#[],0,Nj _ rfl,⟨rfl,rfl,rfl⟩,rfl,rfl,List.nodup_nil⟩),rfl,?_⟩
  exact h _ _ hp (bg hp _) (.inr ⟨rfl,[],ay,fun z hz=>(nomatch hz),fun _=>rfl,M9 _⟩)
noncomputable def MtX (X:Cx) (id:String) (r:V->List V->Hp->VK->Prop):Prop:=
 ∀ (pins:List (Addr×Obj)) (s:Shared) (σ:St) (H:Hp) (x:V) (ys:List V) (u:Value) (us:List Value) (Q:VK),Inv X pins σ H s->aK x u->aL ys us->r x ys H Q->
  wpAny (model X.prog X.w) X.A (call (.builtin id) (u :: us)) (EP X pins σ Q) X.xe s
theorem yF (hu:X.A.units + 64 < cLine):MtX X "dict.setdefault" Bs:=by
 intro pins s σ H x ys u us Q I rx rys h
 obtain ⟨a,srt,f,n,k,y,v,rfl,rfl,d,hk,hs,hn,q1,q2⟩:=h
 cases rx
 cases rys with
 | cons r1 t1=>cases t1 with
  | cons r2 t2=>
   cases t2
   exact L8 (by omega) I d hk hs hn r1 r2 (fun x w' s' ef rw' I'=>⟨x,H,I',rw',q1 x ef⟩) fun ef H' s' o' d' I'=>⟨v,H',I',r2,q2 ef H' o' d'⟩
theorem MI {o e:Expr} {es:List Expr} {name:Str} {id:String} {r:V->List V->Hp->VK->Prop} {to:TE} {t:TA} {apos cpos:Pos} (slot:Slot "dict" name id) (hty:typeOf (.builtin id)=pure (.type "method_descriptor")) (hm:MtX X id r) (ho:PE X o to) (ha:PA X (e :: es) t)
  (hbase:Qj o name X.env (eval o X.env)=eval o X.env:=by rfl)
  (hfew:((backTo cpos (NA (e :: es) X.env)).all (fun x=>!x.1) && (Rc cpos (Qr [] X.env)).all (fun x=>x.1.isSome)
   && decide ((e :: es).length + ([]:List Keyword).length + (if ([]:List Keyword).isEmpty then 0 else 1) < 30))=true:=by rfl)
  (hline:(apos.endLine == cpos.line)=true:=by rfl) (hs:NA (e :: es) X.env=(false,eval e X.env) :: NA es X.env:=by rfl) (hplain:(backTo cpos (NA es X.env)).any (·.1)=false:=by rfl):
  PE X (.Call (.Attribute o name apos) (e :: es) [] cpos) (tXM r to t):=by
 intro pins s σ H Q I h
 refine Q7 hbase hfew hline rfl (thn (ho pins s σ H _ I h) fun v s1 ⟨x,H1,I1,r1,⟨a,srt,f,n,ex,d⟩,q1⟩=>?_)
 subst ex
 obtain rfl:v=NI a:=r1
 obtain ⟨h1,h2⟩:=Ce I1 d
 refine ⟨"dict",id,PySem.F.plainAttrs_dict,slot,hty,h1,h2,?_⟩
 have hA:=ha cpos pins s1 σ H1 _ I1 q1
 rw [hs] at hA ⊢
 refine Qs (by show (false || (backTo cpos (NA es X.env)).any (·.1))=false; rw [hplain] <;> rfl) (Rq ?_)
 exact thn hA fun us s2 ⟨vs,H2,I2,r2,q2⟩=>hm pins s2 σ H2 (.ref a) vs (.ref a) us Q I2 rfl r2 q2
end
end
section
open PySem.Spec
section
variable {X:Cx}
end
end
section
open PySem.Spec
mutual
inductive Dat (K:Fg) (H:Hp):V->PyData->Prop where
 | non:Dat K H .non .none
 | bl (b:Bool):Dat K H (.bl b) (.bool b)
 | int (i:Int):Dat K H (.int i) (.int i)
 | str (x:Str):Dat K H (.str x) (.str x)
 | lst {a:Addr} {xs:List V} {ds:List PyData} (e:SqL K H a xs) (h:ma K H xs ds):Dat K H (.ref a) (.list ds)
 | tup {a:Addr} {xs:List V} {ds:List PyData} (e:SqT K H a xs) (h:ma K H xs ds):Dat K H (.ref a) (.tuple ds)
inductive ma (K:Fg) (H:Hp):List V->List PyData->Prop where
 | nil:ma K H [] []
 | cons {x:V} {xs:List V} {d:PyData} {ds:List PyData} (h:Dat K H x d) (t:ma K H xs ds):ma K H (x :: xs) (d :: ds)
end
section
variable {X:Cx} {pins:List (Addr×Obj)} {σ:St} {H:Hp} {s:Shared}
mutual
theorem Dat.reads (I:Inv X pins σ H s):∀ {x:V} {d:PyData} {u:Value},Dat X.K H x d->aK x u->∃ as,Reads s.heap u d as
 | _,_,_,.non,r=>by cases r; exact ⟨_,.none⟩
 | _,_,_,.bl b,r=>by cases r; exact ⟨_,.bool b⟩
 | _,_,_,.int i,r=>by obtain ⟨t,rfl⟩:=r; exact ⟨_,.int i t⟩
 | _,_,_,.str x,r=>by obtain ⟨t,rfl⟩:=r; exact ⟨_,.str x t⟩
 | _,_,_,.lst e h,r=>by
  cases r
  obtain ⟨its,rv,⟨o,n,h1,h2,h3,h4⟩,_⟩:=I.list e
  obtain ⟨as,ra⟩:=ma.reads I h rv
  exact ⟨_,.list h1 h2 h4 (by simpa using ra)⟩
 | _,_,_,.tup e h,r=>by
  cases r
  obtain ⟨its,rv,⟨o,h1,h2,n,h3⟩,_⟩:=I.tuple e
  obtain ⟨as,ra⟩:=ma.reads I h rv
  exact ⟨_,.tuple h1 h2 h3 (by simpa using ra)⟩
theorem ma.reads (I:Inv X pins σ H s):∀ {xs:List V} {ds:List PyData} {us:List Value},ma X.K H xs ds->aL xs us->∃ as,ReadsAll s.heap us ds as
 | _,_,_,.nil,.nil=>⟨_,.nil⟩
 | _,_,_,.cons h t,.cons r q=>by
  obtain ⟨as,ra⟩:=Dat.reads I h r
  obtain ⟨bs,rb⟩:=ma.reads I t q
  exact ⟨_,.cons ra rb⟩
end
end
section
variable {X:Cx}
end
end
section
open PySem.Spec
mutual
theorem IN {K:Fg} {H:Hp}:∀ {n:Nat} {x y:V},iw K H n x y->∃ d,Dat K H x d/\Dat K H y d/\d.canLay0=true/\d.depth<=n
 | n,x,_,.flat h=>by
  cases x with
  | non=>exact ⟨_,.non,.non,rfl,N9 _⟩
  | bl b=>exact ⟨_,.bl b,.bl b,rfl,N9 _⟩
  | int i=>exact ⟨_,.int i,.int i,rfl,N9 _⟩
  | _=>cases h
 | _,_,_,.lst (xs:=xs) (ys:=ys) e1 e2 hl h=>by
  obtain ⟨ds,h1,h2,h3,h4⟩:=EK xs ys hl h
  exact ⟨_,.lst e1 h1,.lst e2 h2,h3,VD h4⟩
 | _,_,_,.tup (xs:=xs) (ys:=ys) e1 e2 hl h=>by
  obtain ⟨ds,h1,h2,h3,h4⟩:=EK xs ys hl h
  exact ⟨_,.tup e1 h1,.tup e2 h2,h3,VD h4⟩
theorem EK {K:Fg} {H:Hp} {n:Nat}:∀ (xs ys:List V),xs.length=ys.length->(∀ (i:Nat) (x y:V),xs[i]?=some x->ys[i]?=some y->iw K H n x y)->∃ ds,ma K H xs ds/\ma K H ys ds/\UX ds=true/\V5 ds<=n
 | [],[],_,_=>⟨[],.nil,.nil,rfl,N9 _⟩
 | x :: xs,y :: ys,hl,h=>by
  obtain ⟨d,a1,a2,a3,a4⟩:=IN (h 0 x y rfl rfl)
  obtain ⟨ds,b1,b2,b3,b4⟩:=EK xs ys (by simpa using hl) (fun i x y hx hy=>h (i + 1) x y hx hy)
  refine ⟨d :: ds,.cons a1 b1,.cons a2 b2,?_,?_⟩
  ·show (d.canLay0 && UX ds)=true
   rw [a3,b3]; rfl
  ·show max d.depth (V5 ds)<=n
   omega
 | [],_ :: _,hl,_=>by simp at hl
 | _ :: _,[],hl,_=>by simp at hl
end
section
variable {X:Cx}
theorem IO (hu:X.A.units + 64 < cLine):OpR X (O2 .Eq) (mZ X.K false):=by
 intro pins s σ H x y v u Q I rx ry h
 obtain ⟨n,hn,hd,q⟩:=h
 obtain ⟨d,h1,h2,h3,h4⟩:=IN hd
 obtain ⟨as,ra⟩:=h1.reads I rx
 obtain ⟨bs,rb⟩:=h2.reads I ry
 have sh:SX d=true:=by unfold SX; rw [h3,decide_eq_true (by omega)]; rfl
 refine eq_dataH ra rb sh sh hu ⟨.bl true,H,I,?_,q⟩
 rw [SeqAt.eqv_refl d h3]; rfl
theorem Cf (hu:X.A.units + 64 < cLine):OpR X (O2 .NotEq) (mZ X.K true):=by
 intro pins s σ H x y v u Q I rx ry h
 obtain ⟨n,hn,hd,q⟩:=h
 obtain ⟨d,h1,h2,h3,h4⟩:=IN hd
 obtain ⟨as,ra⟩:=h1.reads I rx
 obtain ⟨bs,rb⟩:=h2.reads I ry
 have sh:SX d=true:=by unfold SX; rw [h3,decide_eq_true (by omega)]; rfl
 refine ne_dataH ra rb sh sh hu ⟨.bl false,H,I,?_,q⟩
 rw [SeqAt.eqv_refl d h3]; rfl
end
end
section
open PySem.Spec
theorem Cg {scope:Scope} {env:Env} {x:Str} (h:scope.names.lookup x=some .cell\/scope.names.lookup x=some .free):(relabel scope env).names.lookup x=some .cell\/(relabel scope env).names.lookup x=some .free:=by
 have go:∀ ns:List (Str×N0),(ns.lookup x=some .cell\/ns.lookup x=some .free)->
   (ns.map fun (n,k)=>if (k == OD && env.scope.kind == .function && env.kindOf n == some .cell) then (n,Q9) else (n,k)).lookup x=some .cell\/
   (ns.map fun (n,k)=>if (k == OD && env.scope.kind == .function && env.kindOf n == some .cell) then (n,Q9) else (n,k)).lookup x=some .free:=by
  intro ns
  induction ns with
  | nil=>intro q; rcases q with q | q <;> simp at q
  | cons y r ih=>
   obtain ⟨n,k'⟩:=y
   intro q
   rw [Nt]
   rw [Oo] at q
   by_cases hc:(k' == OD && env.scope.kind == .function && env.kindOf n == some .cell)=true
   ·simp only [hc,if_true]
    rw [Oo]
    cases e:x == n with
    | true=>exact .inl rfl
    | false=>rw [e] at q; exact ih q
   ·simp only [hc]
    rw [if_neg (by simp),Oo]
    cases e:x == n with
    | true=>rw [e] at q; exact q
    | false=>rw [e] at q; exact ih q
 exact go scope.names h
theorem GZ {inner outer:Scope} {cl:List (Str×Addr)} {C:Addr} {env:Env} (h:∀ y∈inner.names,y.2=.free->outer.names.lookup y.1=some .cell\/outer.names.lookup y.1=some .free):
  ∀ y∈inner.names,y.2=.free->(T5 outer cl C env).scope.names.lookup y.1=some .cell\/(T5 outer cl C env).scope.names.lookup y.1=some .free:=fun y hy hk=>Cg (h y hy hk)
end
end L2
section
namespace L2
open PySem
noncomputable def Rs (xs:List Nat):Prop:=xs.Pairwise (· < ·)
theorem zB (xs:Array Nat) (i d:Nat) (h:i < xs.size):xs.getD i d=xs.toList[i]'(by simpa using h):=by
 rw [Uc,dif_pos h]
 simp
theorem yG (xs:Array Nat) (j:Nat) (hr:Rs xs.toList):∀ (fuel lo hi:Nat),hi - lo<=fuel->lo<=hi->hi<=xs.size->(∀ i (h:i < xs.toList.length),i < lo->xs.toList[i] < j)->(∀ i (h:i < xs.toList.length),hi<=i->j<=xs.toList[i])->
  lo<=PK xs j fuel lo hi/\PK xs j fuel lo hi<=hi/\(∀ i (h:i < xs.toList.length),i < PK xs j fuel lo hi->xs.toList[i] < j)/\(∀ i (h:i < xs.toList.length),PK xs j fuel lo hi<=i->j<=xs.toList[i])
 | 0,lo,hi,hf,hl,hs,h1,h2=>by
  have e:hi=lo:=by omega
  subst e
  exact ⟨M9 _,M9 _,h1,h2⟩
 | fuel + 1,lo,hi,hf,hl,hs,h1,h2=>by
  have eq:PK xs j (fuel + 1) lo hi=(if lo < hi then (if xs.getD ((lo + hi) / 2) j < j then PK xs j fuel ((lo + hi) / 2 + 1) hi else PK xs j fuel lo ((lo + hi) / 2)) else lo):=rfl
  by_cases hlt:lo < hi
  ·have hm:(lo + hi) / 2 < xs.size:=by omega
   have hm':(lo + hi) / 2 < xs.toList.length:=by simpa using hm
   have pw:=P9.mp hr
   rw [if_pos hlt,zB xs _ _ hm] at eq
   by_cases hc:xs.toList[(lo + hi) / 2] < j
   ·rw [if_pos hc] at eq
    obtain ⟨a,b,c,d⟩:=yG xs j hr fuel ((lo + hi) / 2 + 1) hi (by omega) (by omega) hs (fun i h hi'=>by
     rcases UM i ((lo + hi) / 2) with z | z
     ·have:=pw i ((lo + hi) / 2) h hm' z
      omega
     ·have e:i=(lo + hi) / 2:=by omega
      subst e
      exact hc) h2
    rw [eq]
    exact ⟨by omega,b,c,d⟩
   ·rw [if_neg hc] at eq
    obtain ⟨a,b,c,d⟩:=yG xs j hr fuel lo ((lo + hi) / 2) (by omega) (by omega) (by omega) h1 (fun i h hi'=>by
     rcases UM ((lo + hi) / 2) i with z | z
     ·have:=pw ((lo + hi) / 2) i hm' h z
      omega
     ·have e:i=(lo + hi) / 2:=by omega
      subst e
      omega)
    rw [eq]
    exact ⟨a,by omega,c,d⟩
  ·rw [if_neg hlt] at eq
   have e:hi=lo:=by omega
   subst e
   rw [eq]
   exact ⟨M9 _,M9 _,h1,h2⟩
theorem mE (xs:Array Nat) (j:Nat) (hr:Rs xs.toList):NF xs j<=xs.size/\(∀ i (h:i < xs.toList.length),i < NF xs j->xs.toList[i] < j)/\(∀ i (h:i < xs.toList.length),NF xs j<=i->j<=xs.toList[i]):=by
 obtain ⟨_,b,c,d⟩:=yG xs j hr xs.size 0 xs.size (by omega) (N9 _) (M9 _) (fun i h z=>absurd z (Rx _)) (fun i h z=>absurd (by simpa using h) (SC.mpr z))
 exact ⟨b,c,d⟩
theorem EL (xs:Array Nat) (hr:Rs xs.toList) {i:Nat} (h:i < xs.toList.length):NF xs (xs.toList[i] + 1)=i + 1:=by
 obtain ⟨b,c,d⟩:=mE xs (xs.toList[i] + 1) hr
 have pw:=P9.mp hr
 rcases Sv (NF xs (xs.toList[i] + 1)) (i + 1) with z | z | z
 ·have:=d i h (by omega)
  omega
 ·exact z
 ·have hi:i + 1 < xs.toList.length:=by simp at *; omega
  have:=c (i + 1) hi (by omega)
  have:=pw i (i + 1) h hi (by omega)
  omega
theorem EM (xs:Array Nat) (hr:Rs xs.toList):NF xs 0=0:=by
 obtain ⟨b,c,_⟩:=mE xs 0 hr
 rcases Qo (NF xs 0) with z | z
 ·exact z
 ·have h0:0 < xs.toList.length:=by simp; omega
  have:=c 0 h0 z
  omega
theorem L9 (xs:Array Nat) (hr:Rs xs.toList) {j:Nat} (hj:j∉xs.toList):Rs (Nz.insertAt xs (NF xs j) j).toList:=by
 obtain ⟨b,c,d⟩:=mE xs j hr
 rw [Nz.toList_insertAt]
 have hr':(xs.toList.take (NF xs j)++xs.toList.drop (NF xs j)).Pairwise (· < ·):=by rw [QB]; exact hr
 rw [Ry] at hr'
 obtain ⟨p1,p2,p3⟩:=hr'
 have lo:∀ a∈xs.toList.take (NF xs j),a < j:=fun a ha=>by
  obtain ⟨i,hi,rfl⟩:=Rz.mp ha
  rw [List.getElem_take]
  have hi':i < min (NF xs j) xs.toList.length:=by simpa using hi
  exact c i (by omega) (by omega)
 have hi:∀ a∈xs.toList.drop (NF xs j),j < a:=fun a ha=>by
  obtain ⟨i,hi,rfl⟩:=Rz.mp ha
  rw [List.getElem_drop]
  have hl:i < xs.toList.length - NF xs j:=by simpa using hi
  have h1:NF xs j + i < xs.toList.length:=by omega
  have:=d _ h1 (OV _ _)
  rcases QT this with z | z
  ·exact z
  ·exact absurd (z ▸ Pq h1) hj
 refine Ry.mpr ⟨p1,R5.mpr ⟨hi,p2⟩,fun a ha x hx=>?_⟩
 rcases Nc.mp hx with rfl | hx
 ·exact lo a ha
 ·exact p3 a ha x hx
theorem IP {xs:Array Nat} (hr:Rs xs.toList) {j:Nat} (h:¬ (xs[NF xs j]? == some j)=true):j∉xs.toList:=fun hm=>by
 obtain ⟨b,c,d⟩:=mE xs j hr
 obtain ⟨k,hk,e⟩:=Rz.mp hm
 have pw:=P9.mp hr
 have h1:NF xs j<=k:=Vs fun z=>by
  have:=c k hk z
  omega
 have h2:NF xs j=k:=by
  rcases QT h1 with z | z
  ·have hl:NF xs j < xs.toList.length:=by omega
   have:=d _ hl (M9 _)
   have:=pw _ k hl hk z
   omega
  ·exact z
 refine h ?_
 rw [h2,<-P0,M7 hk,e]
 exact beq_self_eq_true _
theorem G0 {t:Nz} (hr:Rs t.place.toList) {j:Nat} (h:∀ i,t.slot j≠.live i):j∉t.place.toList:=by
 refine IP hr fun z=>?_
 have:=h (NF t.place j)
 unfold Nz.slot at this
 rw [if_pos z] at this
 exact this rfl
theorem qt {t:Nz} {f:Nat->Int} {h:Int}:∀ (fuel:Nat) (p:Nz.Probe) {j:Nat} {d:Option Nat},(∀ x,p.dummy=some x->∀ i,t.slot x≠.live i)->UY t f h fuel p=some (.empty j d)->∀ i,t.slot (d.getD j)≠.live i
 | 0,_,_,_,_,e=>by cases e
 | fuel + 1,p,j,d,hd,e=>by
  have ha:∀ q:Nz.Probe,(t.advance q).dummy=q.dummy:=fun q=>by
   unfold Nz.advance
   split <;> rfl
  unfold UY at e
  cases hs:t.slot p.j with
  | empty=>
   rw [hs] at e
   injection e with e
   injection e with e1 e2
   subst e1 e2
   intro i
   cases hx:p.dummy with
   | none=>show t.slot p.j≠_; rw [hs]; intro z; cases z
   | some x=>exact hd x hx i
  | dummy=>
   rw [hs] at e
   refine qt fuel _ (fun x hx i=>?_) e
   rw [ha] at hx
   cases hx
   rw [hs]; intro z; cases z
  | live k=>
   rw [hs] at e
   dsimp only at e
   split at e
   ·cases e
   ·exact qt fuel _ (fun x hx=>hd x (by rw [ha] at hx; exact hx)) e
theorem EN {t:Nz} (hr:Rs t.place.toList) {h:Int} {j:Nat} {b:Bool} (e:t.freeSlot h=some (j,b)):j∉t.place.toList:=by
 unfold Nz.freeSlot at e
 split at e
 ·rename_i j' d' he
  cases e
  exact G0 hr (qt _ _ (fun x hx=>by cases hx) he)
 ·cases e
theorem IQ (n:Nat):Rs (Array.range n).toList:=by
 rw [Array.toList_range]
 exact Tv
theorem mF (t:Nz) (n:Nat):Rs (t.standIn n).place.toList:=IQ n
theorem G3 {t:Nz} (hr:Rs t.place.toList) (es:Array (Int×Value)) (h:Int) (x:Value):Rs (layNew t es h x).2.1.place.toList/\(layNew t es h x).2.1.led=t.led:=by
 unfold layNew
 split
 ·rename_i slot wd he
  dsimp only
  unfold Nz.orStandIn
  split
  ·exact ⟨L9 _ hr (EN hr he),rfl⟩
  ·exact ⟨mF _ _,rfl⟩
 ·exact ⟨mF _ _,rfl⟩
theorem Kz {mask finger moves:Nat} {led plain:Bool} {hs:Array Int} {t:Nz} {o:Array Nat} (e:Nz.laid mask finger moves led plain hs=some (t,o)):Rs t.place.toList/\t.led=led:=by
 unfold Nz.laid at e
 obtain ⟨owner,_,e⟩:=Option.bind_eq_some_iff.mp e
 cases e
 refine ⟨?_,rfl⟩
 show ((((NC (mask + 1)).filterMap fun j=>(owner.getD j none).map (j,·)).map (·.1)).toArray).toList.Pairwise (· < ·)
 have sub:List.Sublist (((NC (mask + 1)).filterMap fun j=>(owner.getD j none).map (j,·)).map (·.1)) (NC (mask + 1)):=by
  rw [List.map_filterMap]
  have:∀ l:List Nat,List.Sublist (l.filterMap fun j=>((owner.getD j none).map (j,·)).map (·.1)) l:=by
   intro l
   induction l with
   | nil=>exact .slnil
   | cons a l ih=>
    rw [QK]
    cases owner.getD a none with
    | none=>exact .cons _ ih
    | some v=>exact .cons₂ _ ih
  exact this _
 exact Tv.sublist sub
theorem C2 {t:Nz} (hr:Rs t.place.toList) (es:Array (Int×Value)) (wanted:Nat):Rs (RM t es wanted).2.1.place.toList/\(RM t es wanted).2.1.led=t.led:=by
 unfold RM
 split
 ·rename_i t' order he
  dsimp only
  split
  ·exact Kz he
  ·exact ⟨mF _ _,rfl⟩
 ·exact ⟨mF _ _,rfl⟩
end L2
end
section
namespace L2
open PySem
section
variable {prog:Program} {w:World} {K:Type} [DecidableEq K] {knd:KeyKind prog w K} {A:Around} {E:Value->Shared->Prop} {s:Shared}
noncomputable def Ent (knd:KeyKind prog w K) (k:K) (e:Int×Value):Prop:=knd.is k e.2=true/\e.1=knd.hash k/\e.2.scannable=true
inductive cB {α β:Type} (F:α->β->Prop):List α->List β->Prop
 | nil:cB F [] []
 | cons {a b l m}:F a b->cB F l m->cB F (a :: l) (b :: m)
theorem cB.len {α β:Type} {F:α->β->Prop} {l:List α} {m:List β} (h:cB F l m):l.length=m.length:=by
 induction h with
 | nil=>rfl
 | cons _ _ ih=>rw [NK,NK,ih]
theorem cB.app {α β:Type} {F:α->β->Prop} {l l':List α} {m m':List β} (h:cB F l m) (h':cB F l' m'):cB F (l++l') (m++m'):=by
 induction h with
 | nil=>exact h'
 | cons r _ ih=>exact .cons r ih
theorem cB.right {α β:Type} {F:α->β->Prop} {l:List α} {m:List β} (h:cB F l m):∀ b∈m,∃ a∈l,F a b:=by
 induction h with
 | nil=>intro b hb; cases hb
 | cons r _ ih=>
  intro b hb
  rcases Nc.mp hb with rfl | hb
  ·exact ⟨_,Nd,r⟩
  ·obtain ⟨a,ha,f⟩:=ih b hb
   exact ⟨a,Nn _ ha,f⟩
theorem cB.perm {α β:Type} {F:α->β->Prop} {m m':List β} (p:Oz m m'):∀ {l:List α},cB F l m->∃ l',Oz l l'/\cB F l' m':=by
 induction p with
 | nil=>intro l h; cases h; exact ⟨[],.nil,.nil⟩
 | cons b _ ih=>
  intro l h
  cases h with
  | cons r t=>
   obtain ⟨l',p,q⟩:=ih t
   exact ⟨_ :: l',.cons _ p,.cons r q⟩
 | swap b c m=>
  intro l h
  cases h with
  | cons r t=>cases t with
   | cons r' t'=>exact ⟨_,.swap _ _ _,.cons r' (.cons r t')⟩
 | trans _ _ ih1 ih2=>
  intro l h
  obtain ⟨l1,p1,q1⟩:=ih1 h
  obtain ⟨l2,p2,q2⟩:=ih2 q1
  exact ⟨l2,p1.trans p2,q2⟩
noncomputable def dZ (knd:KeyKind prog w K) (h:Heap) (a:Addr) (ks:List K) (led:Bool):Prop:=
 ∃ o es ep t,h.get? a=some o/\o.ExactSet/\o.data=.set es ep t/\cB (Ent knd) ks es.toList/\ks.Nodup/\es.size < QU/\t.fits es.size=true/\Rs t.place.toList/\t.led=led
theorem Ma {ks:List K} {l:List (Int×Value)} (h:cB (Ent knd) ks l):ElemsOf knd l:=fun e he=>by
 obtain ⟨k,_,f1,f2,f3⟩:=h.right e he
 exact ⟨⟨k,f1,f2⟩,f3⟩
theorem stored {h:Heap} {a:Addr} {o:Obj} {es es':Array (Int×Value)} {ep:Nat} {t t':Nz} {ks':List K} {led:Bool} (g1:h.get? a=some o) (g2:o.ExactSet) (g3:o.data=.set es ep t) (pr:cB (Ent knd) ks' es'.toList) (nd:ks'.Nodup) (sb:es'.size < QU) (ft:t'.fits es'.size=true) (rs:Rs t'.place.toList) (ld:t'.led=led):
  (h.update a (SD es' t')).get? a=some { o with data:=.set es' (ep + 1) t' }/\dZ knd (h.update a (SD es' t')) a ks' led:=by
 have hg:(h.update a (SD es' t')).get? a=some { o with data:=.set es' (ep + 1) t' }:=by
  have z:=N7 (SD es' t') g1 (by rw [putSet_of _ _ g3]; rfl)
  rw [z,putSet_of _ _ g3]
 exact ⟨hg,_,es',ep + 1,t',hg,g2,rfl,pr,nd,sb,ft,rs,ld⟩
theorem IR {ks:List K} {l:List (Int×Value)} {k:K} (h:cB (Ent knd) ks l) {j:Nat} (e:l.findIdx? (fun e=>knd.is k e.2)=some j):k∈ks:=by
 obtain ⟨hj,hp,_⟩:=Po.mp e
 obtain ⟨k',hk',f1,_⟩:=h.right _ (Pq hj)
 exact knd.inj _ _ _ hp f1 ▸ hk'
theorem G4 {ks:List K} {l:List (Int×Value)} {k:K} (h:cB (Ent knd) ks l) (e:l.findIdx? (fun e=>knd.is k e.2)=none):k∉ks:=by
 have n:=QO.mp e
 induction h with
 | nil=>intro z; cases z
 | cons r _ ih=>
  intro z
  rcases Nc.mp z with rfl | z
  ·have:=n _ Nd
   rw [r.1] at this
   cases this
  ·exact ih (QO.mpr fun e he=>n e (Nn _ he)) (fun e he=>n e (Nn _ he)) z
theorem zC {g:Bool->Sem Unit} (hg:∀ (b:Bool) (z:Shared) (P:Unit->Shared->Prop),P () z->wpAny (model prog w) A (g b) P E z) {a:Addr} {o:Obj} {es fs:Array (Int×Value)} {ep:Nat} {t u:Nz} {ks:List K} {led wd:Bool}
  (g1:s.heap.get? a=some o) (g2:o.ExactSet) (g3:o.data=.set es ep t) (kq:cB (Ent knd) ks fs.toList) (nd:ks.Nodup) (sb:fs.size < QU) (fu:u.fits fs.size=true) (ru:Rs u.place.toList) (lu:u.led=led) {R:Option Bool->Shared->Prop}
  (q:∀ h' ks',Nw a s.heap h'->dZ knd h' a ks' led->Oz ks' ks->R (some true) { s with heap:=h' }):
  wpAny (model prog w) A (storeSet a fs u >>= fun _=>if (!wd && u.tooFull)=true then (g (RM u fs (Qc fs.size)).2.2 >>= fun _=>storeSet a (RM u fs (Qc fs.size)).1 (RM u fs (Qc fs.size)).2.1 >>= fun _=>pure (some true)) else pure (some true)) R E s:=by
 apply M1
 refine UZ g1 g3 ?_ (Va sb)
 obtain ⟨g4,R1⟩:=stored (knd:=knd) g1 g2 g3 kq nd sb fu ru lu
 have b1:=N8 s.heap a (SD fs u)
 split
 ·have pm:=relayAll_perm u fs (Qc fs.size)
  have pf:=relayAll_fits u fs (Qc fs.size)
  have ⟨pr,pl⟩:=C2 ru fs (Qc fs.size)
  generalize RM u fs (Qc fs.size)=L at *
  obtain ⟨fs',u',gv⟩:=L
  dsimp only at pm pf pr pl ⊢
  obtain ⟨ks',kp,kq'⟩:=cB.perm pm.symm kq
  have hz:fs'.size=fs.size:=by rw [<-NS,pm.length_eq,NS]
  apply M1
  apply hg
  apply M1
  refine UZ g4 rfl ?_ (Va (by rw [hz]; exact sb))
  obtain ⟨_,R2⟩:=stored (knd:=knd) g4 g2 rfl kq' (kp.nodup_iff.mp nd) (by rw [hz]; exact sb) pf pr (pl.trans lu)
  exact M5 (q _ ks' (b1.trans (N8 _ a _)) R2 kp.symm)
 ·exact M5 (q _ ks b1 R1 (Oz.refl _))
theorem KA {a:Addr} {ks:List K} {led:Bool} {k:K} {x:Value} {Q:Bool->Shared->Prop} (hk:knd.is k x=true) (hx:x.scannable=true) (R:dZ knd s.heap a ks led) (room:ks.length + 1 < QU)
  (q:∀ h' ks' b,Nw a s.heap h'->dZ knd h' a ks' led->(∀ y,y∈ks'↔y∈ks\/y=k)->ks'.length<=ks.length + 1->Q b { s with heap:=h' }):wpAny (model prog w) A (setAddHashed a x (knd.hash k)) Q E s:=by
 obtain ⟨o,es,ep,t,g1,g2,g3,pr,nd,sb,ft,rs,ld⟩:=id R
 have el:=Ma pr
 have hlen:ks.length=es.size:=by rw [pr.len,NS]
 unfold setAddHashed setAddHashedIn
 apply On
 apply M1
 apply OC g1 g3 ft
 dsimp only
 rw [if_pos (byScan_of hx sb el)]
 unfold setAddByScan
 apply M1
 apply M1
 apply Pp
 apply M1
 apply wpAny_setScan_of hk g1 g3 ft el
 cases fe:List.findIdx? (fun e=>knd.is k e.2) es.toList with
 | some j=>
  dsimp only
  apply M5
  apply M5
  have z:=q s.heap ks false (Vb a s.heap) R (fun y=>⟨.inl,fun h=>h.elim id fun e=>e ▸ IR pr fe⟩) (Pn _)
  cases s
  exact z
 | none=>
  dsimp only
  have hk0:=G4 pr fe
  have pm:=layNew_perm t es (knd.hash k) x
  have pf:=layNew_fits t es (knd.hash k) x
  have ⟨pr1,pl1⟩:=G3 rs es (knd.hash k) x
  generalize layNew t es (knd.hash k) x=L at *
  obtain ⟨es1,t1,wd,gv⟩:=L
  dsimp only at pm pf pr1 pl1 ⊢
  rw [Sx] at pm
  obtain ⟨ks1,kp,kq⟩:=cB.perm pm.symm (pr.app (.cons (⟨hk,rfl,hx⟩:Ent knd k (knd.hash k,x)) .nil))
  have hz:es1.size=es.size + 1:=by rw [<-NS,pm.length_eq,Nx,NS]; rfl
  have sb1:es1.size < QU:=by rw [hz,<-hlen]; exact room
  have nd1:ks1.Nodup:=kp.nodup_iff.mp (UW.mpr ⟨nd,S4 _ _,fun y hy z hz' e=>hk0 (by rw [M8] at hz'; rw [<-hz',<-e]; exact hy)⟩)
  have fin:∀ h' ks',Nw a s.heap h'->dZ knd h' a ks' led->Oz ks' ks1->Q true { s with heap:=h' }:=fun h' ks' b R' pp=>
   q h' ks' true b R' (fun y=>by rw [pp.mem_iff,<-kp.mem_iff,NH,M8]) (by rw [pp.length_eq,<-kp.length_eq,Nx]; exact M9 _)
  apply M1
  have gw:∀ (b:Bool) (z:Shared) (P:Unit->Shared->Prop),P () z->wpAny (model prog w) A (match b with | true=>rule "set.scan.the-table-gave-way" | false=>pure ()) P E z:=fun b z P hP=>by cases b <;> first | exact M5 hP | exact Pp hP
  refine gw gv _ _ ?_
  split
  ·apply M1
   rw [hashByValue_scannable 8 hx]
   apply M5
   refine zC (led:=led) (fun b z P hP=>by cases b <;> first | exact M5 hP | exact Pp hP) g1 g2 g3 kq nd1 sb1 ?_ ?_ ?_ fun h' ks' b R' pp=>?_
   ·split
    ·exact pf
    ·exact Nz.fits_plain_off pf
   ·split <;> exact pr1
   ·split <;> exact pl1.trans ld
   ·exact M5 (fin h' ks' b R' pp)
  ·apply M1
   apply M5
   simp only [↓reduceIte]
   refine zC (led:=led) (fun b z P hP=>by cases b <;> first | exact M5 hP | exact Pp hP) g1 g2 g3 kq nd1 sb1 pf pr1 (pl1.trans ld) fun h' ks' b R' pp=>?_
   exact M5 (fin h' ks' b R' pp)
end
end L2
end
namespace L2
open PySem PyProof.Rows
section
open PySem.Spec
section
variable {prog:Program} {w:World} {K:Type} [DecidableEq K] {knd:KeyKind prog w K} {A:Around} {R:Result->Shared->Prop} {I:Addr} {fp wr:List Addr} {G:Array TX->Array TX->Prop} {n:Nat} {P:Nat->Value->Prop} {St:Nat->Shared->Prop}
theorem dZ.at {h h':Heap} {a:Addr} {ks:List K} {led:Bool} (r:dZ knd h a ks led) (k:∀ o,h.get? a=some o->h'.get? a=some o):dZ knd h' a ks led:=by
 obtain ⟨o,es,ep,t,e,z⟩:=r
 exact ⟨o,es,ep,t,k o e,z⟩
theorem IS (W:WalksS prog w A.in1 I fp wr G n P St) (S:Addr) (free:S∉fp) (key:Nat->K) (hkey:∀ i v,P i v->knd.is (key i) v=true/\v.scannable=true) (room:n + 1 < QU) {led:Bool}:
  ∀ (m i:Nat) (s:Shared) (ks:List K),n - i=m->i<=n->St i s->dZ knd s.heap S ks led->(∀ y,y∈ks↔∃ j,j < i/\key j=y)->ks.length<=i->
   (∀ s' ks',Moved (S :: wr) G s s'->dZ knd s'.heap S ks' led->(∀ y,y∈ks'↔∃ j,j < n/\key j=y)->R (.ok (.ret .none)) s')->
   codeAny (model prog w) A (.builtin "set.update.loop" ⟨[.ref S,.ref I],[]⟩) R s:=by
 have nw:S∉wr:=fun z=>free (W.sub _ z)
 have up:∀ b∈wr,b∈S :: wr:=fun b z=>Nn _ z
 intro m
 induction m with
 | zero=>
  intro i s ks hm hi st r mem len done
  obtain rfl:i=n:=by omega
  apply PF S5
  rw [Pg Q0 _]
  show wpAny _ A.in1 (pyNext (.ref I) >>= _) _ _ s
  apply M1
  refine W.done s _ _ st fun z mv=>?_
  show wpAny _ A.in1 (ret Ou) _ _ z
  exact M5 (done z ks (mv.mono up) (r.at fun o e=>mv.heap S _ nw e) mem)
 | succ m ih=>
  intro i s ks hm hi st r mem len done
  have lt:i < n:=by omega
  apply PF S5
  rw [Pg Q0 _]
  show wpAny _ A.in1 (pyNext (.ref I) >>= _) _ _ s
  apply M1
  refine W.item i s _ _ lt st fun v z pv stz mv=>?_
  obtain ⟨kv,sv⟩:=hkey i v pv
  have rz:dZ knd z.heap S ks led:=r.at fun o e=>mv.heap S _ nw e
  show wpAny _ A.in1 (holding [v] (setAdd S v) >>= _) _ _ z
  apply M1
  apply On
  unfold setAdd
  apply On
  apply M1
  refine knd.pyHash kv ?_
  refine KA (s:={ z with toks:=z.toks + 1 }) kv sv rz (by omega) fun h' ks' b sb r' mem' len'=>?_
  refine M5 ⟨Qk Q0 _,ih (i + 1) _ ks' (by omega) lt (W.frame _ z _ _ stz (Pn _) fun c hc o e=>?_) r' (fun y=>?_) (by omega) fun z' ks2 mv2 r2 mem2=>?_⟩
  ·rw [sb.2 c (fun e':c=S=>free (by rw [<-e']; exact hc))]
   exact e
  ·rw [mem',mem]
   constructor
   ·rintro (⟨j,hj,e⟩ | e)
    ·exact ⟨j,by omega,e⟩
    ·exact ⟨i,by omega,e.symm⟩
   ·rintro ⟨j,hj,e⟩
    rcases UM j i with q | q
    ·exact .inl ⟨j,q,e⟩
    ·have:j=i:=by omega
     subst this
     exact .inr e.symm
  ·refine done z' ks2 (Moved.trans W.gtrans ((mv.mono up).then_heap (Pn _) fun c o hc e=>?_) mv2) r2 mem2
   rw [sb.2 c (fun e':c=S=>hc (by rw [e']; exact Nd))]
   exact e
end
end
section
open PySem.Spec
section
variable {prog:Program} {w:World} {A:Around} {E:Value->Shared->Prop} {s:Shared}
noncomputable def eY (w:World):Bool:=w.params.followText "set-order"
noncomputable abbrev oQ (w:World):Obj:={ cls:=.type "set",dict:=none,data:=.set #[] 0 (.fresh 0 0 (!eY w)) }
theorem IT (x:Value) {Q:Value->Shared->Prop} (q:Q (.ref s.heap.objs.size) { s with heap:=s.heap.push (oQ w) }):codeAny (model prog w) A (.call (.builtin "set.__new__") ⟨[.type "set",x],[]⟩) (wants Q E) s:=by
 apply V6
 show wpAny _ A.in1 (do checkBuiltinCall "set.__new__" ⟨[.type "set",x],[]⟩; again (.builtin "set.__new__" ⟨[.type "set",x],[]⟩)) _ _ s
 apply M1
 apply Tr (PySem.F.newCall_set_1 x)
 refine M5 ⟨Qk TL _,?_⟩
 apply PF PySem.F.entry_set_new
 rw [Pg TL _]
 unfold Builtin.«set.__new__»
 unfold Builtin.Frozenset.newClass
 have self_:=sub_set_self
 obtain ⟨hp,g,d,tk,os⟩:=s
 dsimp only
 wp_walk
 apply SY
 apply M5
 dsimp only
 simp only [newObj]
 apply M1
 apply wpAny_alloc
 apply M5
 exact M5 q
theorem dZ.new {K:Type} [DecidableEq K] {knd:KeyKind prog w K} {h:Heap} {a:Addr} (e:h.get? a=some (oQ w)):dZ knd h a [] (!eY w):=
 ⟨_,#[],0,_,e,⟨rfl,rfl,rfl⟩,rfl,.nil,.nil,by decide,rfl,.nil,rfl⟩
end
end
section
open PySem.Spec
section
variable {prog:Program} {w:World} {K:Type} [DecidableEq K] {knd:KeyKind prog w K} {A:Around} {E:Value->Shared->Prop} {s:Shared}
theorem KB {l:Addr} {xs:Array Value} (key:Nat->K) {Q:Value->Shared->Prop} (calm:A.handled=none) (hl:s.heap.IsList l xs) (hkey:∀ i v,xs[i]?=some v->knd.is (key i) v=true/\v.scannable=true) (room:xs.size + 1 < QU)
  (q:∀ (h':Heap) (tk:Nat) (ks:List K),dZ knd h' s.heap.objs.size ks (!eY w)->(∀ y,y∈ks↔∃ j,j < xs.size/\key j=y)->(∀ b o,b < s.heap.objs.size->s.heap.get? b=some o->h'.get? b=some o)->Q (.ref s.heap.objs.size) { s with heap:=h',toks:=tk }):
  wpAny (model prog w) A (call (.type "set") [.ref l]) Q E s:=by
 have ft:=PySem.F.called_set
 obtain ⟨c0,tl0,mro0⟩:=ft.mro
 have made0:=ft.made
 have sub0:=ft.sub
 have not0:=ft.notType
 have can0:=ft.canCreate
 have chk0:=PySem.F.typeCall_set_1 (.ref l)
 apply VM
 apply V6
 show wpAny _ _ (callAny (.type "set") _) _ _ _
 refine M5 ⟨Code.quiet_builtin _ (by decide +kernel),?_⟩
 apply PF PySem.F.entry_type_call
 rw [Around.under_plain (weight_type_call_type "set" [.ref l] []) rfl]
 repeat (any_goals (first | assumption | wp_step))
 refine Qz (IT (.ref l) (E:=E) (Q:=fun ob z=>ob=.ref s.heap.objs.size/\z={ s with heap:=s.heap.push (oQ w) }) ⟨rfl,rfl⟩) fun r z hz=>?_
 cases r with
 | error e=>exact hz
 | ok fl=>
  cases fl with
  | next=>exact hz.elim
  | brk=>exact hz.elim
  | cont=>exact hz.elim
  | ret ob=>
   obtain ⟨rfl,rfl⟩:=hz
   have got:(s.heap.push (oQ w)).get? s.heap.objs.size=some (oQ w):=Nj _ rfl
   have isT:Ul { s with heap:=s.heap.push (oQ w) } (.ref s.heap.objs.size) "set":=⟨_,got,rfl⟩
   have look0:=ft.init.lookup
   have bind0:=ft.init.bind (.ref s.heap.objs.size)
   repeat (any_goals (first | assumption | wp_step))
   refine Qz (codeAny_call_builtin (R:=wants (fun r z=>r=.none/\∃ h' tk ks,z={ s with heap:=h',toks:=tk }/\dZ knd h' s.heap.objs.size ks (!eY w)/\(∀ y,y∈ks↔∃ j,j < xs.size/\key j=y)/\∀ b o,b < s.heap.objs.size->s.heap.get? b=some o->h'.get? b=some o) E) ft.init.plain PySem.F.entry_set_init (check_set_init_1 isT ?_)) fun r z hz=>?_
   ·obtain ⟨ob,gl,cl,nl,dl⟩:=hl
    obtain ⟨a1,a2,a3,a4⟩:=ob
    simp only at cl dl
    subst cl dl
    have gl1:(s.heap.push (oQ w)).get? l=some { cls:=.type "list",dict:=a2,data:=.seq xs nl,slots:=a4 }:=M4 _ gl
    have sls:=PySem.F.sub_list_set
    have slf:=PySem.F.sub_list_frozenset
    have nd0:(Ov "list" == Ov "dict")=false:=by decide
    have il:(s.heap.push (oQ w)).IsList l xs:=⟨_,gl1,rfl,nl,rfl⟩
    unfold Builtin.«set.__init__»
    unfold noKeywords
    unfold Builtin.Frozenset.updateFrom
    generalize gPI:pyIter=PI
    wp_walk
    subst gPI
    apply Qv il
    apply M1
    apply wpAny_runValue
    have lt:l < s.heap.objs.size:=Ni gl
    have sz:(s.heap.push (oQ w)).objs.size=s.heap.objs.size + 1:=N2 _ _
    have fr:s.heap.objs.size∉[(s.heap.push (oQ w)).objs.size,l]:=by
     rw [sz]
     intro hm
     rcases Nc.1 hm with e | hm
     ·exact absurd e (NN (OH _))
     ·rcases Nc.1 hm with e | hm
      ·exact absurd e.symm (NN lt)
      ·exact nomatch hm
    refine IS (knd:=knd) ((VT (by simp [calm]) _ l (by rw [sz]; exact NN (OB lt)) xs).toS) s.heap.objs.size fr key (fun i v hv=>hkey i v hv) room (led:=!eY w) (xs.size - 0) 0 _ [] (by omega) (N9 _) ⟨⟨_,Nj _ rfl,rfl,rfl⟩,il.push _⟩ (dZ.new (M4 _ got)) (fun y=>⟨fun z=>(nomatch z),fun ⟨j,hj,_⟩=>absurd hj (Rx _)⟩) (M9 _) fun z ks mv r mem=>?_
    obtain ⟨h',g',d',tk',os'⟩:=z
    obtain rfl:g'=s.gens:=mv.gens
    obtain rfl:d'=s.drawn:=mv.drawn
    obtain rfl:os'=s.os:=mv.os
    show wpAny _ _ _ _ _ _
    refine M5 ?_
    show wpAny _ _ (ret Ou) _ _ _
    refine M5 ⟨rfl,h',tk',ks,rfl,r,mem,fun b o hb e=>mv.heap b o (fun hm=>?_) (M4 _ (M4 _ e))⟩
    rcases Nc.1 hm with e | hm
    ·exact absurd e (NN hb)
    ·rcases Nc.1 hm with e | hm
     ·rw [sz] at e
      exact absurd e (NN (OB hb))
     ·exact nomatch hm
   ·cases r with
    | error e=>exact hz
    | ok fl=>
     cases fl with
     | next=>exact hz.elim
     | brk=>exact hz.elim
     | cont=>exact hz.elim
     | ret r=>
      obtain ⟨rfl,h',tk,ks,rfl,r1,r2,r3⟩:=hz
      repeat (any_goals (first | assumption | wp_step))
      exact q _ _ ks r1 r2 r3
end
end
section
open PySem.Spec
theorem fW:Slot "set_iterator" "__next__" "set_iterator.__next__":=by
 refine Slot.of (owner:="set_iterator") (n:="__next__") ?_ ?_ ?_ ?_ ?_ ?_
 ·rw [RA,QD]
  kernel_rfl
 ·decide +kernel
 ·decide +kernel
 ·decide +kernel
 ·first
   | exact .inl (by decide +kernel)
   | exact .inr (by decide +kernel)
 ·rw [TN]
  kernel_rfl
theorem DM:Slot "set_iterator" "__iter__" "set_iterator.__iter__":=by
 refine Slot.of (owner:="set_iterator") (n:="__iter__") ?_ ?_ ?_ ?_ ?_ ?_
 ·rw [RA,QD]
  kernel_rfl
 ·decide +kernel
 ·decide +kernel
 ·decide +kernel
 ·first
   | exact .inl (by decide +kernel)
   | exact .inr (by decide +kernel)
 ·rw [TN]
  kernel_rfl
theorem qu:entryFor table "set_iterator.__next__"=some Builtin.«set_iterator.__next__»:=by
 apply entryFor_of_tree
 kernel_rfl
theorem IU:entryFor table "set_iterator.__iter__"=some Builtin.«dict_keyiterator.__iter__»:=by
 refine entryFor_alias (id':="dict_keyiterator.__iter__") ?_ rfl ?_ ?_
 ·kernel_rfl
 ·decide +kernel
 ·kernel_rfl
theorem KC:entryFor table "set.__iter__"=some Builtin.«frozenset.__iter__»:=by
 refine entryFor_alias (id':="frozenset.__iter__") ?_ rfl ?_ ?_
 ·kernel_rfl
 ·decide +kernel
 ·kernel_rfl
theorem Ch:Manifest.owners.lookup (String.ofList ['r','o','t','a','r','e','t','i','_','t','e','s'].reverse)=some Manifest.sig_set_iterator:=by kernel_rfl
theorem qw (a:Value):argsOk "set_iterator.__next__" ⟨[a],[]⟩:=by
 unfold argsOk
 rw [signature?_of (id:="set_iterator.__next__") (n:=['_','_','t','x','e','n','_','_']) (o:=['r','o','t','a','r','e','t','i','_','t','e','s']) (by kernel_rfl) Ch]
 kernel_rfl
theorem IV (a:Value):argsOk "set_iterator.__iter__" ⟨[a],[]⟩:=by
 unfold argsOk
 rw [signature?_of (id:="set_iterator.__iter__") (n:=['_','_','r','e','t','i','_','_']) (o:=['r','o','t','a','r','e','t','i','_','t','e','s']) (by kernel_rfl) Ch]
 kernel_rfl
end
section
open PySem.Spec
noncomputable def SAt (h:Heap) (a:Addr) (es:Array (Int×Value)) (ep:Nat) (t:Nz):Prop:=∃ o,h.get? a=some o/\o.data=.set es ep t/\t.fits es.size=true
noncomputable def d7 (h:Heap) (I a:Addr) (f:Value) (i n ep:Nat):Prop:=∃ o,h.get? I=some o/\o.cls=.type "set_iterator"/\o.data=.fields #[f,.int i 0,.ref a,.int n 0,.int ep 0]
theorem SAt.at {h h':Heap} {a:Addr} {es:Array (Int×Value)} {ep:Nat} {t:Nz} (x:SAt h a es ep t) (k:∀ o,h.get? a=some o->h'.get? a=some o):SAt h' a es ep t:=by
 obtain ⟨o,e,r⟩:=x
 exact ⟨o,k o e,r⟩
theorem d7.at {h h':Heap} {I a:Addr} {f:Value} {i n ep:Nat} (x:d7 h I a f i n ep) (k:∀ o,h.get? I=some o->h'.get? I=some o):d7 h' I a f i n ep:=by
 obtain ⟨o,e,r⟩:=x
 exact ⟨o,k o e,r⟩
theorem d7.type {s:Shared} {I a:Addr} {f:Value} {i n ep:Nat} (x:d7 s.heap I a f i n ep):s.TypeIs (.ref I) "set_iterator":=by
 obtain ⟨o,e,c,_⟩:=x
 exact ⟨o,e,c⟩
theorem d7.set {h:Heap} {I a:Addr} {f g:Value} {i n ep:Nat} (x:d7 h I a f i n ep):d7 (h.update I (Sh (·.setIfInBounds 0 g))) I a g i n ep:=by
 obtain ⟨o,e,c,d⟩:=x
 refine ⟨_,N7 _ e (Rg (PN d _)),(So ..).trans c,?_⟩
 rw [PN d]
 simp
theorem d7.step {h:Heap} {I a:Addr} {f:Value} {i n ep:Nat} (x:d7 h I a f i n ep):d7 (h.update I (Sh (·.setIfInBounds 1 (rawInt ((i:Int) + 1))))) I a f (i + 1) n ep:=by
 obtain ⟨o,e,c,d⟩:=x
 refine ⟨_,N7 _ e (Rg (PN d _)),(So ..).trans c,?_⟩
 rw [PN d]
 simp [rawInt]
section
variable {prog:Program} {w:World} {A:Around} {E:Value->Shared->Prop} {s:Shared} {I a:Addr} {es:Array (Int×Value)} {ep:Nat} {t:Nz} {i:Nat}
theorem t0 {Q:Bool->Shared->Prop} (q:Q (eY w) s):wpAny (model prog w) A setsByText Q E s:=by
 unfold setsByText
 apply M1
 apply SY
 exact M5 q
theorem DN {slot:Nat} {Q:Option (Value×Nat)->Shared->Prop} (b:eY w=true) (hs:SAt s.heap a es ep t) (q:Q ((QV (w.params.setOrder a ep) es)[i]?.map fun e=>(e.2,slot)) s):wpAny (model prog w) A (setNext a slot i ep) Q E s:=by
 obtain ⟨o,g1,g3,ft⟩:=hs
 unfold setNext
 apply M1
 apply OC g1 g3 ft
 dsimp only
 apply M1
 apply t0
 rw [if_pos b,if_neg (by simp)]
 apply M1
 unfold setWalk
 apply M1
 apply OC g1 g3 ft
 dsimp only
 apply M1
 apply t0
 rw [if_pos b]
 apply M1
 apply SY
 apply M5
 exact M5 q
theorem DO {slot:Nat} {Q:Option (Value×Nat)->Shared->Prop} (b:eY w=false) (pl:(!t.plain && decide (es.size > 1))=false) (ld:t.led=true) (hs:SAt s.heap a es ep t)
  (q:Q (match es[NF t.place slot]?,t.place[NF t.place slot]? with | some (_,x),some j=>some (x,j + 1) | _,_=>none) s):wpAny (model prog w) A (setNext a slot i ep) Q E s:=by
 obtain ⟨o,g1,g3,ft⟩:=hs
 unfold setNext
 apply M1
 apply OC g1 g3 ft
 dsimp only
 apply M1
 apply t0
 rw [if_neg (by rw [b]; exact Nk)]
 show wpAny _ _ (if (!t.plain && decide (es.size > 1))=true then _ else _) _ _ _
 rw [if_neg (by rw [pl]; exact Nk)]
 apply M1
 show wpAny _ _ (if (!t.led && !es.isEmpty)=true then _ else _) _ _ _
 rw [if_neg (by rw [ld]; simp)]
 apply M5
 exact M5 q
theorem KD {p:Nat} {x:Int×Value} {Q:Value->Shared->Prop} (hs:SAt s.heap a es ep t) (hx:es[p]?=some x) (q:Q x.2 s):wpAny (model prog w) A (setNextDrawn a p ep) Q E s:=by
 obtain ⟨o,g1,g3,ft⟩:=hs
 unfold setNextDrawn
 apply M1
 apply OC g1 g3 ft
 dsimp only
 rw [if_neg (by simp),hx]
 exact M5 q
theorem DQ {slot nx:Nat} {x:Value} {Q:Option Value->Shared->Prop} (hit:d7 s.heap I a (.int slot 0) i es.size ep) (hs:SAt s.heap a es ep t)
  (hx:∀ (A:Around) (E:Value->Shared->Prop) (Q:Option (Value×Nat)->Shared->Prop),Q (some (x,nx)) s->wpAny (model prog w) A (setNext a slot i ep) Q E s)
  (q:∀ h',d7 h' I a (.int nx 0) (i + 1) es.size ep->Nw I s.heap h'->Q (some x) { s with heap:=h' }):wpAny (model prog w) A (pyNext (.ref I)) Q E s:=by
 obtain ⟨o,g1,g3,ft⟩:=id hs
 obtain ⟨u,e1,e2,e3⟩:=id hit
 unfold pyNext
 apply M1
 apply P6
 refine N4 (name:=O9 "__next__") hit.type fW ?_
 refine NV fW hit.type qu ?_ (qw _)
 refine M1 (M5 ?_)
 refine M1 (RN e1 e3 ?_)
 dsimp only
 apply M1
 unfold SE
 apply M1
 apply OC g1 g3 ft
 apply M5
 rw [if_neg (by simp)]
 apply M1
 refine hx _ _ _ ?_
 dsimp only
 refine M1 (PL e1 e3 (by simp) ?_)
 have it1:d7 (s.heap.update I (Sh (·.setIfInBounds 0 (rawInt (nx:Int))))) I a (.int nx 0) i es.size ep:=hit.set
 obtain ⟨u',e1',e2',e3'⟩:=id it1
 refine M1 (PL e1' e3' (by simp) ?_)
 exact M5 ⟨_,rfl,M5 (q _ it1.step ((N8 _ I _).trans (N8 _ I _)))⟩
theorem G5 {slot:Nat} {Q:Option Value->Shared->Prop} (calm:A.handled=none) (hit:d7 s.heap I a (.int slot 0) i es.size ep) (hs:SAt s.heap a es ep t)
  (hx:∀ (A:Around) (E:Value->Shared->Prop) (Q:Option (Value×Nat)->Shared->Prop),Q none s->wpAny (model prog w) A (setNext a slot i ep) Q E s)
  (q:∀ h',QJ I s.heap h'->Q none { s with heap:=h' }):wpAny (model prog w) A (pyNext (.ref I)) Q E s:=by
 obtain ⟨o,g1,g3,ft⟩:=id hs
 obtain ⟨u,e1,e2,e3⟩:=id hit
 unfold pyNext
 apply M1
 apply P6
 refine N4 (name:=O9 "__next__") hit.type fW ?_
 refine NV fW hit.type qu ?_ (qw _)
 refine M1 (M5 ?_)
 refine M1 (RN e1 e3 ?_)
 dsimp only
 apply M1
 unfold SE
 apply M1
 apply OC g1 g3 ft
 apply M5
 rw [if_neg (by simp)]
 apply M1
 refine hx _ _ _ ?_
 dsimp only
 refine M1 (PL e1 e3 (by simp) ?_)
 show wpAny _ _ (newExc (.type "StopIteration") [] >>= _) _ _ _
 apply M1
 simp only [newExc,Vt]
 apply M1
 refine Og ?_ (by size_fits)
 apply M1
 refine Tr (a:=Ou) (by rfl) ?_
 refine Og ?_ (by size_fits)
 simp only [raiseNew]
 refine M1 (Ui ?_)
 rw [show A.in1.handled=none from calm]
 refine Vg ?_
 apply M1
 refine Pb (T:="StopIteration") (b:=true) ?_ QX ?_
 ·exact ⟨_,Nj _ rfl,rfl⟩
 ·exact M5 (q _ (((N8 _ I _).extBut.push _).push _))
theorem IW {d:Addr} {ps:Array Value} {p:Nat} {x:Int×Value} {Q:Option Value->Shared->Prop} (hit:d7 s.heap I a (.ref d) i es.size ep) (hs:SAt s.heap a es ep t) (ht:s.heap.IsTuple d ps) (hp:ps[i]?=some (.int p 0)) (hx:es[p]?=some x)
  (q:∀ h',d7 h' I a (.ref d) (i + 1) es.size ep->Nw I s.heap h'->Q (some x.2) { s with heap:=h' }):wpAny (model prog w) A (pyNext (.ref I)) Q E s:=by
 obtain ⟨o,g1,g3,ft⟩:=id hs
 obtain ⟨u,e1,e2,e3⟩:=id hit
 unfold pyNext
 apply M1
 apply P6
 refine N4 (name:=O9 "__next__") hit.type fW ?_
 refine NV fW hit.type qu ?_ (qw _)
 refine M1 (M5 ?_)
 refine M1 (RN e1 e3 ?_)
 dsimp only
 apply M1
 unfold SE
 apply M1
 apply OC g1 g3 ft
 apply M5
 rw [if_neg (by simp)]
 obtain ⟨v,f1,f2,n,f3⟩:=id ht
 apply M1
 refine Oj f1 f3 ?_
 dsimp only
 rw [show ((i:Int)).toNat=i from rfl,hp]
 dsimp only
 apply M1
 refine KD hs hx ?_
 refine M1 (PL e1 e3 (by simp) ?_)
 exact M5 ⟨_,rfl,M5 (q _ hit.step (N8 _ I _))⟩
theorem KG {d:Addr} {ps:Array Value} {Q:Option Value->Shared->Prop} (calm:A.handled=none) (hit:d7 s.heap I a (.ref d) i es.size ep) (hs:SAt s.heap a es ep t) (ht:s.heap.IsTuple d ps) (hp:ps[i]?=none)
  (q:∀ h',QJ I s.heap h'->Q none { s with heap:=h' }):wpAny (model prog w) A (pyNext (.ref I)) Q E s:=by
 obtain ⟨o,g1,g3,ft⟩:=id hs
 obtain ⟨u,e1,e2,e3⟩:=id hit
 unfold pyNext
 apply M1
 apply P6
 refine N4 (name:=O9 "__next__") hit.type fW ?_
 refine NV fW hit.type qu ?_ (qw _)
 refine M1 (M5 ?_)
 refine M1 (RN e1 e3 ?_)
 dsimp only
 apply M1
 unfold SE
 apply M1
 apply OC g1 g3 ft
 apply M5
 rw [if_neg (by simp)]
 obtain ⟨v,f1,f2,n,f3⟩:=id ht
 apply M1
 refine Oj f1 f3 ?_
 dsimp only
 rw [show ((i:Int)).toNat=i from rfl,hp]
 dsimp only
 refine M1 (PL e1 e3 (by simp) ?_)
 have it1:d7 (s.heap.update I (Sh (·.setIfInBounds 0 (rawInt 0)))) I a (rawInt 0) i es.size ep:=hit.set
 obtain ⟨u',e1',e2',e3'⟩:=id it1
 refine M1 (PL e1' e3' (by simp) ?_)
 show wpAny _ _ (newExc (.type "StopIteration") [] >>= _) _ _ _
 apply M1
 simp only [newExc,Vt]
 apply M1
 refine Og ?_ (by size_fits)
 apply M1
 refine Tr (a:=Ou) (by rfl) ?_
 refine Og ?_ (by size_fits)
 simp only [raiseNew]
 refine M1 (Ui ?_)
 rw [show A.in1.handled=none from calm]
 refine Vg ?_
 apply M1
 refine Pb (T:="StopIteration") (b:=true) ?_ QX ?_
 ·exact ⟨_,Nj _ rfl,rfl⟩
 ·exact M5 (q _ ((((N8 _ I _).trans (N8 _ I _)).extBut.push _).push _))
theorem yH {f:Value} {n:Nat} {Q:Value->Shared->Prop} (hit:d7 s.heap I a f i n ep) (q:Q (.ref I) s):wpAny (model prog w) A (pyIter (.ref I)) Q E s:=by
 refine Vc hit.type DM ?_
 refine NV DM hit.type IU ?_ (IV _)
 show wpAny _ _ (ret (.ref I)) _ _ s
 exact M5 ⟨_,rfl,"set_iterator",_,hit.type,fW.lookup,q⟩
end
end
section
open PySem.Spec
theorem yI {α:Type}:∀ (l:List α) (i:Nat) (h:i < l.length),Oz (l[i] :: l.eraseIdx i) l
 | x :: l,0,_=>.refl _
 | x :: l,i + 1,h=>(Oz.swap x _ _).trans (.cons x (yI l i (Nat.lt_of_succ_lt_succ h)))
theorem DR {α:Type} (next:Nat->Nat):∀ (fuel k:Nat) (left:List α) (out:Array α),left.length=fuel->Oz (QV.go next fuel k left out).toList (out.toList++left)
 | 0,k,left,out,h=>by
  obtain rfl:=Qi.mp h
  rw [O6]
  exact .refl _
 | fuel + 1,k,left,out,h=>by
  have hl:next k % left.length < left.length:=Nat.mod_lt _ (by omega)
  show Oz (match left[next k % left.length]? with | some x=>QV.go next fuel (k + 1) (left.eraseIdx (next k % left.length)) (out.push x) | none=>out).toList _
  rw [M7 hl]
  refine (DR next fuel (k + 1) _ _ (by rw [Si hl,h]; rfl)).trans ?_
  rw [Sx,Sn]
  exact Oz.append_left _ (yI _ _ hl)
theorem sG {α:Type} (next:Nat->Nat) (xs:Array α):Oz (QV next xs).toList xs.toList:=DR next xs.size 0 xs.toList #[] (by simp)
section
variable {prog:Program} {w:World} {A:Around} {E:Value->Shared->Prop} {s:Shared} {I a:Addr} {es:Array (Int×Value)} {ep:Nat} {t:Nz} {i:Nat}
theorem IX {src:Source} {n:Nat} {Q:Nat->Shared->Prop} (hn:n≠0) (q:∀ i dr,i < n->Q i { s with drawn:=dr }):wpAny (model prog w) A (choose src n) Q E s:=fun _ _ _=>⟨hn,q _ _ (Nat.mod_lt _ (Nat.pos_of_ne_zero hn))⟩
theorem zD {α:Type}:∀ (n:Nat) (xs:List α) (s:Shared) (Q:List α->Shared->Prop),xs.length=n->(∀ ys dr,Oz ys xs->Q ys { s with drawn:=dr })->wpAny (model prog w) A (drawOrder n xs) Q E s
 | 0,xs,s,Q,h,q=>by
  obtain rfl:=Qi.mp h
  exact M5 (q [] s.drawn .nil)
 | n + 1,[],s,Q,h,q=>nomatch h
 | n + 1,x :: xs,s,Q,h,q=>by
  unfold drawOrder
  apply M1
  refine IX (by simp) fun i dr hi=>?_
  rw [M7 hi]
  dsimp only
  apply M1
  refine zD n _ _ _ (by rw [Si hi,h]; rfl) fun ys dr' p=>?_
  exact M5 (q _ _ ((Oz.cons _ p).trans (yI _ _ hi)))
noncomputable abbrev Ord (ord:List (Int×Value)) (i:Nat) (v:Value):Prop:=∃ e,ord[i]?=some e/\e.2=v
theorem KH (calm:A.handled=none) (b:eY w=true) (hne:a≠I):
  Walks prog w A I [I,a] [I] es.size (Ord (QV (w.params.setOrder a ep) es).toList) (fun i h=>(∃ slot:Nat,d7 h I a (.int slot 0) i es.size ep)/\SAt h a es ep t) where
 sub:=fun b hb=>by
  rw [M8.mp hb]
  exact Nd
 frame:=fun i h h' st k=>⟨st.1.elim fun n z=>⟨n,z.at (k I Nd)⟩,st.2.at (k a (Nn _ Nd))⟩
 item:=fun i s Q E hi st q=>by
  obtain ⟨⟨slot,it⟩,hs⟩:=st
  have len:=(sG (w.params.setOrder a ep) es).length_eq
  have hl:i < (QV (w.params.setOrder a ep) es).size:=by
   rw [<-NS,len,NS]
   exact hi
  refine DQ (x:=(QV (w.params.setOrder a ep) es)[i].2) (nx:=slot) it hs (fun A E Q h=>DN b hs ?_) fun h' it' sb=>?_
  ·rw [O7 hl]
   exact h
  ·refine q _ h' s.toks ⟨_,?_,rfl⟩ ⟨⟨slot,it'⟩,hs.at fun o e=>?_⟩ fun c o hc e=>?_
   ·rw [P0,O7 hl]
   ·exact sb.extBut a o hne e
   ·exact sb.extBut c o (fun z=>hc (by rw [z]; exact Nd)) e
 done:=fun s Q E st q=>by
  obtain ⟨⟨slot,it⟩,hs⟩:=st
  have len:=(sG (w.params.setOrder a ep) es).length_eq
  have hl:(QV (w.params.setOrder a ep) es).size<=es.size:=by
   rw [<-NS,len,NS]
   exact M9 _
  refine G5 calm it hs (fun A E Q h=>DN b hs ?_) fun h' xb=>q h' s.toks fun c o hc e=>?_
  ·rw [Q8 hl]
   exact h
  ·exact xb c o (fun z=>hc (by rw [z]; exact Nd)) e
 self:=fun i s Q E st q=>st.1.elim fun n z=>yH z q
noncomputable def vB (t:Nz):Nat->Nat
 | 0=>0
 | j + 1=>t.place.getD j 0 + 1
theorem w6 (rs:Rs t.place.toList):∀ i,i<=t.place.size->NF t.place (vB t i)=i
 | 0,_=>EM _ rs
 | j + 1,h=>by
  have hj:j < t.place.size:=h
  have hj':j < t.place.toList.length:=by simpa using hj
  have e:vB t (j + 1)=t.place.toList[j] + 1:=by rw [vB,zB _ _ _ hj]
  rw [e]
  exact EL _ rs hj'
theorem KI (calm:A.handled=none) (b:eY w=false) (pl:(!t.plain && decide (es.size > 1))=false) (ld:t.led=true) (rs:Rs t.place.toList) (sz:t.place.size=es.size) (hne:a≠I):
  Walks prog w A I [I,a] [I] es.size (Ord es.toList) (fun i h=>d7 h I a (.int (vB t i:Nat) 0) i es.size ep/\SAt h a es ep t) where
 sub:=fun b hb=>by
  rw [M8.mp hb]
  exact Nd
 frame:=fun i h h' st k=>⟨st.1.at (k I Nd),st.2.at (k a (Nn _ Nd))⟩
 item:=fun i s Q E hi st q=>by
  obtain ⟨it,hs⟩:=st
  have hp:i < t.place.size:=by rw [sz]; exact hi
  refine DQ (x:=es[i].2) (nx:=vB t (i + 1)) it hs (fun A E Q h=>DO b pl ld hs ?_) fun h' it' sb=>?_
  ·rw [w6 rs i (Oa hp),O7 hi,O7 hp]
   have e:vB t (i + 1)=t.place[i] + 1:=by
    rw [vB,Uc,dif_pos hp]
    rfl
   rw [e] at h
   exact h
  ·refine q _ h' s.toks ⟨_,?_,rfl⟩ ⟨it',hs.at fun o e=>?_⟩ fun c o hc e=>?_
   ·rw [P0,O7 hi]
   ·exact sb.extBut a o hne e
   ·exact sb.extBut c o (fun z=>hc (by rw [z]; exact Nd)) e
 done:=fun s Q E st q=>by
  obtain ⟨it,hs⟩:=st
  refine G5 calm it hs (fun A E Q h=>DO b pl ld hs ?_) fun h' xb=>q h' s.toks fun c o hc e=>?_
  ·rw [w6 rs es.size (by rw [sz]; exact M9 _),Q8 (M9 _)]
   exact h
  ·exact xb c o (fun z=>hc (by rw [z]; exact Nd)) e
 self:=fun i s Q E st q=>yH st.1 q
theorem qf (es:Array (Int×Value)):((NC es.size).map fun p=>es.getD p (0,.none))=es.toList:=by
 apply List.ext_getElem
 ·simp
 ·intro i h1 h2
  have hi:i < es.size:=by simpa using h2
  rw [List.getElem_map,R3,Uc,dif_pos hi]
  simp
theorem KJ (calm:A.handled=none) {d:Addr} {ps:List Nat} (pm:Oz ps (NC es.size)) (hne:a≠I) (hd:d≠I):
  Walks prog w A I [I,a,d] [I] es.size (Ord (ps.map fun p=>es.getD p (0,.none))) (fun i h=>d7 h I a (.ref d) i es.size ep/\SAt h a es ep t/\h.IsTuple d (ps.map fun p=>Qa (p:Nat) 0).toArray) where
 sub:=fun b hb=>by
  rw [M8.mp hb]
  exact Nd
 frame:=fun i h h' st k=>⟨st.1.at (k I Nd),st.2.1.at (k a (Nn _ Nd)),st.2.2.at (k d (Nn _ (Nn _ Nd)))⟩
 item:=fun i s Q E hi st q=>by
  obtain ⟨it,hs,ht⟩:=st
  have len:=pm.length_eq
  rw [OO] at len
  have hl:i < ps.length:=by rw [len]; exact hi
  have lt:ps[i] < es.size:=O1.mp (pm.mem_iff.mp (Pq hl))
  refine IW (p:=ps[i]) (x:=es[ps[i]]) it hs ht ?_ (O7 lt) fun h' it' sb=>?_
  ·rw [TQ,Nm,M7 hl]
   rfl
  ·refine q _ h' s.toks ⟨_,?_,rfl⟩ ⟨it',hs.at fun o e=>?_,ht.at fun o e=>?_⟩ fun c o hc e=>?_
   ·rw [Nm,M7 hl]
    show some (es.getD ps[i] (0,.none))=_
    rw [Uc,dif_pos lt]
    rfl
   ·exact sb.extBut a o hne e
   ·exact sb.extBut d o hd e
   ·exact sb.extBut c o (fun z=>hc (by rw [z]; exact Nd)) e
 done:=fun s Q E st q=>by
  obtain ⟨it,hs,ht⟩:=st
  have len:=pm.length_eq
  refine KG calm it hs ht ?_ fun h' xb=>q h' s.toks fun c o hc e=>?_
  ·apply Q8
   simp [len]
  ·exact xb c o (fun z=>hc (by rw [z]; exact Nd)) e
 self:=fun i s Q E st q=>yH st.1 q
end
end
section
open PySem.Spec
theorem cB.get {α β:Type} {F:α->β->Prop} {l:List α} {m:List β} (h:cB F l m):∀ {i:Nat} {b:β},m[i]?=some b->∃ a,l[i]?=some a/\F a b:=by
 induction h with
 | nil=>intro i b e; cases e
 | cons r _ ih=>
  intro i b e
  cases i with
  | zero=>
   obtain rfl:_=b:=Nl e
   exact ⟨_,rfl,r⟩
  | succ i=>exact ih e
section
variable {prog:Program} {w:World} {K:Type} [DecidableEq K] {knd:KeyKind prog w K} {A:Around} {E:Value->Shared->Prop} {s:Shared} {I a:Addr} {es:Array (Int×Value)} {ep:Nat} {t:Nz} {i:Nat}
theorem vC {fp wr:List Addr} {n:Nat} {P P':Nat->Value->Prop} {St:Nat->Heap->Prop} (W:Walks prog w A I fp wr n P St) (f:∀ i v,P i v->P' i v):Walks prog w A I fp wr n P' St where
 sub:=W.sub
 frame:=W.frame
 item:=fun i s Q E hi st q=>W.item i s Q E hi st fun v h' tk pv=>q v h' tk (f i v pv)
 done:=W.done
 self:=W.self
noncomputable abbrev dP (knd:KeyKind prog w K) (ord:List K) (i:Nat) (v:Value):Prop:=∃ k,ord[i]?=some k/\knd.is k v=true
theorem yJ {ks:List K} {l m:List (Int×Value)} (pr:cB (Ent knd) ks m) (p:Oz l m):∃ ord,Oz ord ks/\∀ i v,Ord l i v->dP knd ord i v:=by
 obtain ⟨ord,q,pr'⟩:=cB.perm p.symm pr
 refine ⟨ord,q.symm,fun i v h=>?_⟩
 obtain ⟨e,he,rfl⟩:=h
 obtain ⟨k,hk,r⟩:=pr'.get he
 exact ⟨k,hk,r.1⟩
noncomputable abbrev itO (f:Value) (a:Addr) (n ep:Nat):Obj:={ cls:=.type "set_iterator",data:=.fields #[f,.int (0:Nat) 0,.ref a,.int n 0,.int ep 0] }
theorem DT {f:Value} {F:Fin->Shared->Prop} (hs:SAt s.heap a es ep t) (q:F (.done (.ret (.ref s.heap.objs.size))) { s with heap:=s.heap.push (itO f a es.size ep) }):
  wpAny (model prog w) A (do ret (<-newFields "set_iterator" [f,rawInt 0,.ref a,rawInt es.size,rawInt (<-setEpoch a)])) F E s:=by
 obtain ⟨o,g1,g3,ft⟩:=hs
 apply M1
 refine wpAny_setEpoch_of g1 g3 ft ?_
 apply M1
 unfold newFields
 refine Og ?_
 exact M5 q
theorem IY {ks:List K} {Q:Value->Shared->Prop} (calm:A.handled=none) (r:dZ knd s.heap a ks (!eY w))
  (q:∀ (I:Addr) (h':Heap) (dr) (fp:List Addr) (St:Nat->Heap->Prop) (ord:List K),Oz ord ks->Walks prog w A I fp [I] ks.length (dP knd ord) St->St 0 h'->(∀ b∈fp,b < h'.objs.size)->(∀ b∈fp,b=a\/s.heap.objs.size<=b)->s.heap.objs.size<=I->I∈fp->(∀ b o,s.heap.get? b=some o->h'.get? b=some o)->Q (.ref I) { s with heap:=h',drawn:=dr }):
  wpAny (model prog w) A (pyIter (.ref a)) Q E s:=by
 obtain ⟨o,es,ep,t,g1,g2,g3,pr,nd,sb,ft,rs,ld⟩:=id r
 have hs:SAt s.heap a es ep t:=⟨o,g1,g3,ft⟩
 have ty:s.TypeIs (.ref a) "set":=⟨o,g1,g2.1⟩
 have len:es.size=ks.length:=by rw [pr.len,NS]
 have lt:a < s.heap.objs.size:=Ni g1
 rw [<-len] at q
 have sz:t.place.size=es.size:=by
  simp only [Nz.fits,OU,beq_iff_eq] at ft
  exact ft.1
 refine Vc ty TU ?_
 refine NV TU ty KC ?_ (PySem.F.args_set_iter_1 _)
 unfold Builtin.«frozenset.__iter__»
 refine M1 (M5 ?_)
 apply M1
 unfold Builtin.Frozenset.sizeOf
 apply M1
 unfold SE
 apply M1
 apply OC g1 g3 ft
 apply M5
 apply M5
 apply M1
 unfold setDrawn
 apply M1
 apply OC g1 g3 ft
 dsimp only
 apply M1
 apply t0
 apply M5
 show wpAny _ _ (if (!eY w && (!t.plain && decide (es.size > 1)))=true then _ else _) _ _ _
 by_cases c:(!eY w && (!t.plain && decide (es.size > 1)))=true
 ·rw [if_pos c]
  apply M1
  refine zD _ _ _ _ OO fun ps dr pm=>?_
  apply M1
  refine TH ?_ (by rw [M6,pm.length_eq,OO]; exact NQ (Oa sb) (by decide))
  have pz:=N2 s.heap { cls:=.type "tuple",data:=.seq (ps.map fun (i:Nat)=>rawInt i).toArray }
  have hs1:=hs.at (h':=s.heap.push { cls:=.type "tuple",data:=.seq (ps.map fun (i:Nat)=>rawInt i).toArray }) fun o e=>M4 _ e
  have tu:(s.heap.push { cls:=.type "tuple",data:=.seq (ps.map fun (i:Nat)=>rawInt i).toArray }).IsTuple s.heap.objs.size (ps.map fun p=>Qa (p:Nat) 0).toArray:=⟨_,Nj _ rfl,rfl,0,rfl⟩
  have kp0:∀ b o,s.heap.get? b=some o->(s.heap.push { cls:=.type "tuple",data:=.seq (ps.map fun (i:Nat)=>rawInt i).toArray }).get? b=some o:=fun b o e=>M4 _ e
  generalize s.heap.push { cls:=.type "tuple",data:=.seq (ps.map fun (i:Nat)=>rawInt i).toArray }=hp at *
  have lt1:a < hp.objs.size:=by rw [pz]; exact OB lt
  have kp:∀ b o,s.heap.get? b=some o->hp.get? b=some o:=kp0
  refine DT (s:={ s with drawn:=dr,heap:=hp }) hs1 ⟨_,rfl,"set_iterator",_,⟨_,Nj _ rfl,rfl⟩,fW.lookup,?_⟩
  obtain ⟨ord,p1,p2⟩:=yJ pr (l:=ps.map fun p=>es.getD p (0,.none)) (by rw [<-qf es]; exact pm.map _)
  refine q hp.objs.size _ dr [hp.objs.size,a,s.heap.objs.size] _ ord p1 (vC (KJ (A:=A) (es:=es) (ep:=ep) (t:=t) calm pm (NN lt1) (d:=s.heap.objs.size) (NN (by rw [pz]; exact OH _))) p2) ⟨⟨_,Nj _ rfl,rfl,rfl⟩,hs1.at fun o e=>M4 _ e,tu.push _⟩ (fun b hb=>?_) (fun b hb=>?_) (by rw [pz]; exact Pn _) Nd fun b o e=>M4 _ (kp b o e)
  ·rw [N2]
   rcases Nc.mp hb with e | hb
   ·rw [e]
    exact OH _
   ·rcases Nc.mp hb with e | hb
    ·rw [e]
     exact OB lt1
    ·rw [M8.mp hb,pz]
     exact OB (OH _)
  ·rcases Nc.mp hb with e | hb
   ·exact .inr (by rw [e,pz]; exact Pn _)
   ·rcases Nc.mp hb with e | hb
    ·exact .inl e
    ·exact .inr (by rw [M8.mp hb]; exact M9 _)
 ·rw [if_neg c]
  apply M1
  apply M5
  refine DT hs ⟨_,rfl,"set_iterator",_,⟨_,Nj _ rfl,rfl⟩,fW.lookup,?_⟩
  have it0:d7 (s.heap.push (itO (rawInt 0) a es.size ep)) s.heap.objs.size a (.int (0:Nat) 0) 0 es.size ep:=⟨_,Nj _ rfl,rfl,rfl⟩
  have hs0:SAt (s.heap.push (itO (rawInt 0) a es.size ep)) a es ep t:=hs.at fun o e=>M4 _ e
  have inb:∀ b∈[s.heap.objs.size,a],b < (s.heap.push (itO (rawInt 0) a es.size ep)).objs.size:=fun b hb=>by
   rw [N2]
   rcases Nc.mp hb with e | hb
   ·rw [e]
    exact OH _
   ·rw [M8.mp hb]
    exact OB lt
  have out:∀ b∈[s.heap.objs.size,a],b=a\/s.heap.objs.size<=b:=fun b hb=>by
   rcases Nc.mp hb with e | hb
   ·exact .inr (by rw [e]; exact M9 _)
   ·exact .inl (M8.mp hb)
  cases b:eY w with
  | true=>
   obtain ⟨ord,p1,p2⟩:=yJ pr (sG (w.params.setOrder a ep) es)
   refine q s.heap.objs.size _ s.drawn _ _ ord p1 (vC (KH (A:=A) (es:=es) (ep:=ep) (t:=t) calm b (NN lt)) p2) ⟨⟨0,it0⟩,hs0⟩ inb out (M9 _) Nd fun b o e=>M4 _ e
  | false=>
   have pl:(!t.plain && decide (es.size > 1))=false:=by
    rw [b] at c
    simpa using c
   have l1:t.led=true:=by rw [ld,b]; rfl
   obtain ⟨ord,p1,p2⟩:=yJ pr (Oz.refl es.toList)
   refine q s.heap.objs.size _ s.drawn _ _ ord p1 (vC (KI (A:=A) (es:=es) (ep:=ep) (t:=t) calm b pl l1 rs sz (NN lt)) p2) ⟨it0,hs0⟩ inb out (M9 _) Nd fun b o e=>M4 _ e
end
end
section
open PySem.Spec PySem.W
section
variable {prog:Program} {w:World} {K:Type} [DecidableEq K] {knd:KeyKind prog w K} {A:Around} {E:Value->Shared->Prop} {s:Shared} {a:Addr}
theorem IZ {Q:Bool->Shared->Prop} (ty:s.TypeIs (.ref a) "set") (q:Q false s):wpAny (model prog w) A (PR (.ref a)) Q E s:=by
 unfold PR
 apply M1
 refine OF ty PySem.F.slot_set_len.lookup ?_
 generalize hid:("set.__len__":String)=nm
 wp_delta
 rw [show splitId nm=some ("set","__len__") from by subst hid; decide +kernel]
 subst hid
 apply M1
 refine Pb (T:="set") (b:=true) ty (by rw [TN]; kernel_rfl) ?_
 refine Ti (fun z=>absurd z (by decide)) fun _=>?_
 refine Ti (fun _=>?_) fun z=>absurd (by decide +kernel) z
 apply M1
 refine SM ty ?_
 exact M5 q
theorem dZ.type {ks:List K} {led:Bool} (r:dZ knd s.heap a ks led):s.TypeIs (.ref a) "set":=by
 obtain ⟨o,es,ep,t,g1,g2,_⟩:=r
 exact ⟨o,g1,g2.1⟩
theorem dZ.small {h:Heap} {ks:List K} {led:Bool} (r:dZ knd h a ks led):ks.length < QU:=by
 obtain ⟨o,es,ep,t,g1,g2,g3,pr,nd,sb,_⟩:=r
 rw [pr.len,NS]
 exact sb
theorem EO {ks:List K} {R:Result->Shared->Prop} (calm:A.handled=none) (r:dZ knd s.heap a ks (!eY w)) (S:Addr) (ne:S≠a) (hS:s.heap.get? S=some { cls:=.type "list",data:=.seq #[] })
  (q:∀ (s':Shared) h' dr tk ord acc c,s'={ s with heap:=h',drawn:=dr,toks:=tk }->Oz ord ks->(∀ b o,b≠S->s.heap.get? b=some o->h'.get? b=some o)->h'.get? S=some { cls:=.type "list",dict:=none,data:=.seq acc c,slots:=#[] }->ItemsOf (dP knd ord) acc ks.length->R (.ok (.ret (.ref S))) s'):
  wpAny (model prog w) A.in1 (OA (.ref S) (.ref a) (.ref S)) (fun fin s'=>match fin with | .done f=>R (.ok f) s' | .again c'=>c'.quiet=true/\codeAny (model prog w) A c' R s') (fun e s'=>R (.error e) s') s:=by
 have hn:ks.length<=Nh:=NQ (Oa r.small) (by decide)
 unfold OA
 apply M1
 refine SM (T:="set") r.type ?_
 have h1:Qf (.ref S) (.ref a)=false:=by simp [Qf,ne]
 have h2:(Ov "set" == Ov "list")=false:=by decide
 have h3:(Ov "set" == Ov "tuple")=false:=by decide
 simp only [h1,h2,h3,Bool.or_false,Oi,if_false]
 apply M1
 refine IY (A:=A.in1) calm r fun I h' dr fp St ord pm W st inb out ge Ifp kp=>?_
 have hS1:=kp _ _ hS
 have lS:S < s.heap.objs.size:=Ni hS
 have r1:dZ knd h' a ks (!eY w):=r.at fun o e=>kp a o e
 have nS:S∉fp:=fun hm=>by
  rcases out S hm with z | z
  ·exact ne z
  ·exact absurd lS (SC.mpr z)
 have loop:∀ (h2:Heap) (c:Nat),(∀ b o,b≠S->h'.get? b=some o->h2.get? b=some o)->h2.get? S=some { cls:=.type "list",dict:=none,data:=.seq #[] c,slots:=#[] }->codeAny (model prog w) A (.builtin "list.extend.loop" ⟨[.ref S,.ref I,.ref S],[]⟩) R { s with heap:=h2,drawn:=dr }:=fun h2 c k2 e2=>by
  refine codeAny_extend_loopS W.toS hn S nS (.ref S) ks.length 0 _ #[] c rfl (N9 _) (W.frame 0 _ _ st fun b hb o e=>k2 b o (fun z=>nS (z ▸ hb)) e) e2 (ItemsOf.nil _) fun s' acc c' mv e3 it=>?_
  rw [Moved.eq_with mv]
  refine q _ s'.heap dr s'.toks ord acc c' rfl pm (fun b o hb e=>mv.heap b o (fun hm=>?_) (k2 b o hb (kp b o e))) e3 it
  rcases Nc.mp hm with z | hm
  ·exact hb z
  ·rw [M8.mp hm] at e
   exact absurd (Ni e) (SC.mpr ge)
 apply M1
 apply On
 refine IZ (s:={ s with heap:=h',drawn:=dr }) r1.type ?_
 refine Ti (fun _=>?_) fun _=>?_
 ·apply M1
  apply Pp
  apply M1
  show wpAny _ _ (R6 S (·.push .none) >>= fun _=>R6 S (·.pop)) _ _ _
  apply M1
  refine Qp hS1 rfl ?_
  have hS2:=N7 (Ox (·.push Ou)) hS1 rfl
  refine Qp (hz:=by seq_fits) hS2 rfl ?_
  have hS3:=N7 (Ox (·.pop)) hS2 rfl
  refine M5 ⟨Qk O8 _,loop _ _ (fun b o hb e=>?_) hS3⟩
  rw [OI _ _ (OJ hb),OI _ _ (OJ hb)]
  exact e
 ·exact M5 ⟨Qk O8 _,loop _ _ (fun b o hb e=>e) hS1⟩
theorem C3 {ks:List K} {R:List Value->Shared->Prop} (calm:A.handled=none) (r:dZ knd s.heap a ks (!eY w))
  (q:∀ h' dr tk ord (acc:Array Value),Oz ord ks->(∀ b o,s.heap.get? b=some o->h'.get? b=some o)->s.heap.objs.size < h'.objs.size->ItemsOf (dP knd ord) acc ks.length->R acc.toList { s with heap:=h',drawn:=dr,toks:=tk }):
  wpAny (model prog w) A (collect (.ref a)) R E s:=by
 have lt:a < s.heap.objs.size:=by
  obtain ⟨o,es,ep,t,g1,_⟩:=r
  exact Ni g1
 unfold collect
 apply M1
 apply wpAny_runValue
 apply PF entry_proto_collect'
 rw [Pg PySem.F.plain_proto_collect _]
 show wpAny _ A.in1 (newList [] >>= fun l=>again (.builtin "list.__iadd__" ⟨[l,.ref a],[]⟩)) _ _ s
 apply M1
 refine Og ?_
 refine M5 ⟨Qk S6 _,?_⟩
 apply PF entry_list_iadd'
 rw [Pg S6 _]
 show wpAny _ A.in1 (OA (.ref s.heap.objs.size) (.ref a) (.ref s.heap.objs.size)) _ _ _
 have key:=EO (A:=A) (s:={ s with heap:=s.heap.push { cls:=.type "list",data:=.seq ([]:List Value).toArray } })
  (R:=fun (u:Result) (s':Shared)=>∃ h' dr tk ord acc c,u=.ok (.ret (.ref s.heap.objs.size))/\s'={ s with heap:=h',drawn:=dr,toks:=tk }/\Oz ord ks/\(∀ b o,s.heap.get? b=some o->h'.get? b=some o)/\
   h'.get? s.heap.objs.size=some { cls:=.type "list",dict:=none,data:=.seq acc c,slots:=#[] }/\ItemsOf (dP knd ord) acc ks.length)
  calm (r.at fun o e=>M4 _ e) s.heap.objs.size (Pm lt) (Nj _ rfl)
  fun s' h' dr tk ord acc c e pm kp e3 it=>⟨h',dr,tk,ord,acc,c,rfl,e,pm,fun b o eb=>kp b o (NN (Ni eb)) (M4 _ eb),e3,it⟩
 refine OM key (fun fin s' x=>?_) fun e s' x=>?_
 ·cases fin with
  | done f=>
   obtain ⟨h',dr,tk,ord,acc,c,e,rfl,pm,kp,e3,it⟩:=x
   cases e
   show wpAny _ A (load s.heap.objs.size >>= _) _ _ _
   apply M1
   refine VJ e3 ?_
   exact M5 (q h' dr tk ord acc pm kp (Ni e3) it)
  | again c1=>
   refine ⟨x.1,Qz x.2 fun u s2 y=>?_⟩
   obtain ⟨h',dr,tk,ord,acc,c,rfl,rfl,pm,kp,e3,it⟩:=y
   show wpAny _ A (load s.heap.objs.size >>= _) _ _ _
   apply M1
   refine VJ e3 ?_
   exact M5 (q h' dr tk ord acc pm kp (Ni e3) it)
 ·obtain ⟨h',dr,tk,ord,acc,c,e',_⟩:=x
  cases e'
end
end
section
open PySem.Spec
section
variable {X:Cx}
end
end
section
open PySem.Spec
section
variable {prog:Program} {w:World} {A:Around} {R:Result->Shared->Prop} {I:Addr} {fp wr:List Addr} {n:Nat} {P:Nat->Value->Prop} {St:Nat->Heap->Prop} {kw:List (Str×Value)}
end
end
section
open PySem.Spec
section
variable {prog:Program} {w:World} {A:Around} {E:Value->Shared->Prop} {s:Shared}
end
end
section
open PySem.Spec
section
variable {X:Cx}
end
end
section
open PySem.Calls
section
variable {X:Cx}
end
end
section
open PySem.Spec PySem.Calls
section
variable {prog:Program} {w:World} {A:Around} {E:Value->Shared->Prop} {s:Shared} {a:Addr}
theorem zE:∀ {ord:List Int} {l:List Value},l.length=ord.length->(∀ i v,l[i]?=some v->dP (intKind prog w) ord i v)->IntsAre l ord
 | [],[],_,_=>.nil
 | [],_ :: _,h,_=>nomatch h
 | _ :: _,[],h,_=>nomatch h
 | k :: ord,v :: l,h,t=>by
  obtain ⟨k',hk,hv⟩:=t 0 v rfl
  obtain rfl:k=k':=Nl hk
  obtain ⟨tk,rfl⟩:=UN hv
  exact .cons k tk (zE (Nat.succ.inj h) fun i u hu=>t (i + 1) u hu)
theorem EQ {ks:List Int} {Q:Value->Shared->Prop} (calm:A.handled=none) (r:dZ (intKind prog w) s.heap a ks (!eY w)) (h64:ks.length < 64)
  (q:∀ (p:Addr) (h':Heap) (dr) (tk:Nat) (out:Array Value) (e:Nat) (ms:List Int),(∀ b o,s.heap.get? b=some o->h'.get? b=some o)->s.heap.objs.size<=p->h'.get? p=some (seqObj "list" out e)->IntsAre out.toList ms->ms.Perm ks->ms.Pairwise (·<=·)->Q (.ref p) { s with heap:=h',drawn:=dr,toks:=tk }):
  wpAny (model prog w) A (call (.builtin "sorted") [.ref a]) Q E s:=by
 refine call_function_entry kind_sorted plain_sorted entry_sorted (args_sorted1 _) ?_
 unfold Builtin.«sorted»
 refine M1 (m:=checkCount "sorted" 1 1 _) (M5 ?_)
 apply M1
 refine C3 (A:=A.in1) calm r fun h' dr tk ord acc pm kp gt it=>?_
 have len:acc.toList.length=ks.length:=by rw [NS]; exact it.1
 have ia:IntsAre acc.toList ord:=zE (by rw [len,pm.length_eq]) fun i v e=>it.2 i v (by rw [<-P0]; exact e)
 apply M1
 refine wpAny_newList ?_ (by rw [len]; exact NQ (Oa h64) (by decide))
 have hoL:(h'.push (seqObj "list" acc.toList.toArray 0)).get? h'.objs.size=some (seqObj "list" acc.toList.toArray 0):=Nj _ rfl
 have ge:s.heap.objs.size<=h'.objs.size:=Oa gt
 apply M1
 apply On
 refine NV slot_list_sort ⟨_,hoL,rfl⟩ entry_list_sort ?_ (args_list_sort _)
 refine list_sort_tree hoL ia (by rw [len]; exact h64) fun out ms a1 a2 a3=>⟨_,rfl,?_⟩
 obtain ⟨e,he⟩:=sortedHeap_at (n:=0) (vs:=acc.toList) (out:=out) hoL
 refine M5 ⟨_,rfl,q _ _ dr tk out e ms (fun b o eb=>?_) ge he a1 (a2.trans pm) a3⟩
 have hb:=Ni eb
 rw [sortedHeap_old (NN (NB hb ge)) (by rw [size_push']; exact OB (NB hb ge))]
 exact M4 _ (kp b o eb)
end
section
variable {X:Cx}
theorem Inv.drew {pins:List (Addr×Obj)} {σ:St} {H:Hp} {s:Shared} (I:Inv X pins σ H s) (dr):Inv X pins σ H { s with drawn:=dr }:=by
 cases I
 constructor <;> assumption
end
end
section
open PySem.Spec PySem.Calls
theorem DU:∀ {l:List Value} {ns:List Int} {i:Nat} {v:Value},IntsAre l ns->l[i]?=some v->∃ t,v=.int (ns.getD i 0) t
 | _,_,_,_,.nil,e=>nomatch e
 | _,_,0,_,.cons n t _,e=>⟨t,(Nl e).symm⟩
 | _,_,i + 1,_,.cons n t h,e=>by
  obtain ⟨t',e'⟩:=DU (i:=i) h e
  exact ⟨t',e'⟩
section
variable {X:Cx}
theorem ER {e:Expr} {p p2 pos pos2:Pos} {t:TA} (hc:X.calm=true) (hm:X.mg "sorted"=none) (hm2:X.mg "set"=none) (ha:PA X [e] t) (hg:Gl X "sorted":=by rfl) (hg2:Gl X "set":=by rfl)
  (he:NA [e] X.env=(false,eval e X.env) :: NA [] X.env:=by rfl) (hpl:(backTo pos2 (NA [] X.env)).any (·.1)=false:=by rfl)
  (he1:NA [.Call (.Name "set" p2) [e] [] pos2] X.env=(false,eval (.Call (.Name "set" p2) [e] [] pos2) X.env) :: NA [] X.env:=by rfl) (hpl1:(backTo pos (NA [] X.env)).any (·.1)=false:=by rfl):
  PE X (.Call (.Name "sorted" p) [.Call (.Name "set" p2) [e] [] pos2] [] pos) (vz X.K t):=by
 intro pins s σ H Q I h
 refine Pr (iS I hg hm boot_sorted ?_ (by decide) (by decide))
 refine Rp ?_ he1 hpl1
 rw [he1]
 show wpAny _ _ (spliced ((false,eval (.Call (.Name "set" p2) [e] [] pos2) X.env) :: backTo pos (NA [] X.env))) _ _ s
 refine RS ?_
 refine Pr (iS I hg2 hm2 boot_set ?_ (by decide) (by decide))
 refine Oy (thn (ha pos2 pins s σ H _ I h) fun us s1 ⟨vs,H1,I1,r1,q1⟩=>?_) he hpl
 obtain ⟨l,ns,rfl,hq,hl,q⟩:=q1
 obtain ⟨u,rfl,rx⟩:=r1.one
 cases rx
 obtain ⟨its,rv,pl,hz⟩:=I1.list hq
 have hi:=pX rv
 have hlen:its.length=ns.length:=by have:=rv.length; rw [M6] at this; omega
 have calm:X.A.handled=none:=I.ok.hd hc
 refine KB (knd:=intKind X.prog X.w) (fun i=>ns.getD i 0) calm pl.isList (fun i v hv=>?_) (by rw [Nq,hlen]; exact Ql (Nat.succ_le_of_lt hl) (by decide)) fun h' tk ks r mem kp=>?_
 ·rw [TQ] at hv
  obtain ⟨tk,rfl⟩:=DU hi hv
  exact ⟨by first | simp [intKind,Tj] | (unfold intKind; simp [Tj]),rfl⟩
 have memI:∀ y,y∈ks↔y∈ns:=fun y=>by
  rw [mem,Nq,hlen]
  constructor
  ·rintro ⟨j,hj,rfl⟩
   rw [Np,M7 hj]
   exact Pq hj
  ·intro hy
   obtain ⟨j,hj,rfl⟩:=List.getElem_of_mem hy
   refine ⟨j,hj,?_⟩
   rw [Np,M7 hj]
   rfl
 have nd:ks.Nodup:=by
  obtain ⟨o,es,ep,t,g1,g2,g3,pr,nd,_⟩:=r
  exact nd
 refine Sm ?_
 refine EQ calm r (Ql (BR nd fun y hy=>(memI y).mp hy) hl) fun q' h2 dr tk2 out ex ms kp2 ge hx a1 a2 a3=>?_
 have kk:∀ b o,s1.heap.get? b=some o->h2.get? b=some o:=fun b o eb=>kp2 b o (kp b o (Ni eb) eb)
 have ge1:s1.heap.objs.size<=q':=by
  obtain ⟨o,es,ep,t,g1,_⟩:=r
  exact Oa (NB (Ni g1) ge)
 have hf:H1 q'=none:=I1.hok.fresh ge1
 have nm:ms.Nodup:=a2.nodup_iff.mpr nd
 have ml:ms.length < 64:=by
  rw [a2.length_eq]
  exact Ql (BR nd fun y hy=>(memI y).mp hy) hl
 refine ⟨.ref q',_,(I1.laid (t':=tk2) (o:=.lst (ms.map V.int)) kk ge1 ?_).drew dr,rfl,q _ _ ms hf (bg hf _) ay ?_ fun y=>?_⟩
 ·exact ⟨by rw [M6,Nf]; omega,out.toList,ex,rK a1,by rw [hx,Array.toArray_toList]⟩
 ·exact (a3.and nm).imp fun ⟨z1,z2⟩=>by omega
 ·rw [a2.mem_iff,memI]
end
end
section
open PySem.Spec
section
variable {X:Cx}
end
end
section
open PySem.Spec
section
variable {X:Cx}
end
end
section
open PySem.Spec
section
variable {X:Cx}
theorem G6:cU X (.type "range") JI:=by
 intro pins s σ H xs us Q I r h
 obtain ⟨n,rfl,hn,q⟩:=h
 obtain ⟨u,rfl,rx⟩:=pV r
 obtain ⟨t,rfl⟩:=rx
 exact call_range_1 ⟨.ref s.heap.objs.size,_,I.laid (a:=s.heap.objs.size) (o:=.rng 0 (n:Int)) (t':=s.toks + 1 + 1) (fun _ _ q=>M4 _ q) (M9 _) ⟨_,_,_,Nj _ rfl⟩,rfl,q.upd _ (I.hok.fresh (M9 _))⟩
theorem G7 {n:Nat} {acc:Array Value} (h:ItemsOf (fun i v=>∃ t,v=.int ((0:Int) + i * 1) t) acc n):aL ((NC n).map fun (i:Nat)=>V.int ((i:Nat):Int)) acc.toList:=by
 obtain ⟨hl,hi⟩:=h
 have go:∀ (xs:List V) (us:List Value),xs.length=us.length->(∀ (j:Nat) (x:V) (u:Value),xs[j]?=some x->us[j]?=some u->aK x u)->aL xs us:=by
  intro xs
  induction xs with
  | nil=>intro us hl _; cases us with
   | nil=>exact .nil
   | cons _ _=>simp at hl
  | cons x r ih=>intro us hl h; cases us with
   | nil=>simp at hl
   | cons u t=>exact .cons (h 0 x u rfl rfl) (ih t (by simpa using hl) fun j x u hx hu=>h (j + 1) x u hx hu)
 refine go _ _ (by simp [hl]) fun j x u hx hu=>?_
 rw [Nm] at hx
 cases e:(NC n)[j]? with
 | none=>rw [e] at hx; cases hx
 | some z=>
  rw [e] at hx
  cases hx
  obtain ⟨h1,h2⟩:=Na.mp e
  rw [R3] at h2
  subst h2
  obtain ⟨t,rfl⟩:=hi j u (by rw [<-P0]; exact hu)
  exact ⟨t,by simp⟩
theorem G8 (hc:X.calm=true):cU X (.type "list") AH:=by
 intro pins s σ H xs us Q I r h
 obtain ⟨p,n,rfl,e,hn,q⟩:=h
 obtain ⟨u,rfl,rx⟩:=pV r
 cases rx
 obtain ⟨t,u,v,hr⟩:=(show bQ X.prog X.w H s.heap p (.rng 0 (n:Int)) from I.hok p _ e)
 refine call_list_range (n:=n) (show X.A.handled=none from I.ok.hd hc) hr (small_one (by omega) (by omega) (by omega) (by omega)) ?_ (by omega) fun h' tk acc' c' kp e' it=>?_
 ·rw [rangeSize_one]; split <;> omega
 ·exact ⟨.ref s.heap.objs.size,_,I.laid (t':=tk) kp (M9 _) (show bQ X.prog X.w _ h' _ (.lst _) from ⟨by rw [M6,OO,Nf]; omega,acc'.toList,c',G7 it,by simpa using e'⟩),rfl,q.upd _ (I.hok.fresh (M9 _))⟩
end
end
section
open PySem.Spec
noncomputable abbrev nj (h:Heap) (z TI TO:Addr) (f0:Value) (f:Bool):Prop:=
 h.get? z=some { cls:=.type "zip",dict:=none,data:=.fields #[f0,.bool f,.bool false,.ref TI,.ref TO],slots:=#[] }
section
variable {prog:Program} {w:World} {A:Around} {E:Value->Shared->Prop} {s:Shared}
theorem w9 {z TI TO a:Addr} {f:Bool} {oa:Obj} {Q:Bool->Shared->Prop} (hz:nj s.heap z TI TO (rawInt a) f) (ha:s.heap.get? a=some oa) (h:∀ g1,nj g1 z TI TO (rawInt a) true->Nw z s.heap g1->Q false { s with heap:=g1 }):
  wpAny (model prog w) A (N1 (.ref z)) Q E s:=by
 obtain ⟨hp,g,d,tk₀,os⟩:=s
 unfold N1
 refine M1 (Oc hz rfl (x:=rawInt a) rfl ?_)
 show wpAny _ _ (loadIfAlive ((a:Int).toNat) >>= _) _ _ _
 rw [Qw]
 refine M1 (PySem.W.kdx_alive ha ?_)
 simp only [Option.isNone_some,Oi,if_false]
 refine M1 (Oc hz rfl (x:=.bool f) rfl ?_)
 cases f with
 | true=>
  rw [if_neg (show ¬ ((Od true != Od true)=true) from Nk)]
  exact M5 (h hp hz (Vb _ _))
 | false=>
  rw [if_pos (show (Od false != Od true)=true from rfl)]
  exact M1 (Pt hz (by simp) fun h₃ he₃ hs₃=>M5 (h h₃ he₃ hs₃))
theorem G9 {z TI TO j1 j2 a:Addr} {f:Bool} {oa:Obj} {fp1 fp2:List Addr} {n1 n2 k:Nat} {P1 P2:Nat->Value->Prop} {S1 S2:Nat->Heap->Prop} {Q:Value->Shared->Prop} (Z:jD z TI TO j1 j2 fp1 fp2)
  (D1:Draws prog w A j1 fp1 n1 P1 S1) (D2:Draws prog w A j2 fp2 n2 P2 S2) (hz:nj s.heap z TI TO (rawInt a) f) (ha:s.heap.get? a=some oa) (hTI:IsPair s.heap TI (.ref j1) (.ref j2)) (h1:S1 k s.heap) (h2:S2 k s.heap) (l1:k < n1) (l2:k < n2)
  (hQ:∀ x y h' tk,P1 k x->P2 k y->nj h' z TI TO (rawInt a) true->S1 (k + 1) h'->S2 (k + 1) h'->IsPair h' s.heap.objs.size x y->
   (∀ c o,c∉[z,j1,j2]->s.heap.get? c=some o->h'.get? c=some o)->Q (.ref s.heap.objs.size) { s with heap:=h',toks:=tk }):
  wpAny (model prog w) A (Builtin.«zip.__next__» ⟨[.ref z],[]⟩) (fun fin s'=>∃ v,fin=.done (.ret v)/\Q v s') E s:=by
 obtain ⟨hp,g,d,tk₀,os⟩:=s
 show wpAny _ _ (field (.ref z) 2 >>= _) _ _ _
 refine M1 (Oc hz rfl (x:=.bool false) rfl ?_)
 show wpAny _ _ (field (.ref z) 3 >>= _) _ _ _
 refine M1 (Oc hz rfl (x:=.ref TI) rfl ?_)
 refine M1 (Oj hTI rfl ?_)
 show wpAny _ _ (N1 (.ref z) >>= _) _ _ _
 refine M1 (w9 hz ha fun g1 hz1 hs1=>?_)
 replace hs1:Nw z hp g1:=hs1
 simp only [Oi,if_false]
 refine M1 ?_
 rw [<-Qn]
 simp only [QN,RJ]
 refine M1 ?_
 refine M1 (On ?_)
 show wpAny _ _ (NW (.ref j1) >>= _) _ _ _
 refine M1 (D1.item k ⟨g1,g,d,tk₀,os⟩ _ _ l1 (D1.but h1 hs1 Z.b1) fun x g2 tk1 px st1 hs2=>M5 ?_)
 replace hs2:Nw j1 g1 g2:=hs2
 refine M5 ?_
 refine M1 ?_
 refine M1 (On ?_)
 show wpAny _ _ (NW (.ref j2) >>= _) _ _ _
 refine M1 (D2.item k ⟨g2,g,d,tk1,os⟩ _ _ l2 (D2.but (D2.but h2 hs1 Z.b4) hs2 Z.b6) fun y g3 tk2 py st2 hs3=>M5 ?_)
 replace hs3:Nw j2 g2 g3:=hs3
 refine M5 ?_
 refine M5 ?_
 show wpAny _ _ (Vt [x,y] >>= fun r=>ret r) _ _ _
 have hsz:g3.objs.size=hp.objs.size:=by rw [hs3.1,hs2.1,hs1.1]
 refine M1 (TH (M5 ⟨_,rfl,?_⟩))
 have up:∀ c o,g3.get? c=some o->(g3.push { cls:=.type "tuple",data:=.seq #[x,y] }).get? c=some o:=fun c o e=>M4 _ e
 have hz3:nj g3 z TI TO (rawInt a) true:=hs3.extBut _ _ Z.a4.symm (hs2.extBut _ _ Z.a3.symm hz1)
 have hT:IsPair (g3.push { cls:=.type "tuple",data:=.seq #[x,y] }) hp.objs.size x y:=by rw [<-hsz]; exact Nj _ rfl
 show Q (.ref g3.objs.size) _
 rw [hsz]
 refine hQ x y _ tk2 px py (up _ _ hz3) (D1.frame _ _ _ (D1.but st1 hs3 Z.b3) fun c _ o e=>up c o e) (D2.frame _ _ _ st2 fun c _ o e=>up c o e) hT fun c o hc e=>?_
 simp only [Nc,Ob,or_false,not_or] at hc
 exact up c o (hs3.extBut _ _ hc.2.2 (hs2.extBut _ _ hc.2.1 (hs1.extBut _ _ hc.1 e)))
theorem I0 {z TI TO j1 j2 a:Addr} {f:Bool} {oa:Obj} {fp1 fp2:List Addr} {n1 n2 k:Nat} {P1 P2:Nat->Value->Prop} {S1 S2:Nat->Heap->Prop} {Q:Fin->Shared->Prop} (Z:jD z TI TO j1 j2 fp1 fp2)
  (D1:Draws prog w A j1 fp1 n1 P1 S1) (D2:Draws prog w A j2 fp2 n2 P2 S2) (hz:nj s.heap z TI TO (rawInt a) f) (ha:s.heap.get? a=some oa) (hTI:IsPair s.heap TI (.ref j1) (.ref j2)) (h1:S1 k s.heap) (h2:S2 k s.heap) (l:k=min n1 n2)
  (hE:∀ h' e tk,(∀ c o,c∉[z,TI,TO,j1,j2]->s.heap.get? c=some o->h'.get? c=some o)->(∃ o,h'.get? e=some o/\o.cls=.type "StopIteration")->E (.ref e) { s with heap:=h',toks:=tk }):
  wpAny (model prog w) A (Builtin.«zip.__next__» ⟨[.ref z],[]⟩) Q E s:=by
 obtain ⟨hp,g,d,tk₀,os⟩:=s
 have kp:∀ {h':Heap},(∀ c o,c≠z->c≠j1->c≠j2->hp.get? c=some o->h'.get? c=some o)->∀ c o,c∉[z,TI,TO,j1,j2]->hp.get? c=some o->h'.get? c=some o:=fun {h'} q c o hc e=>by
  simp only [Nc,Ob,or_false,not_or] at hc
  exact q c o hc.1 hc.2.2.2.1 hc.2.2.2.2 e
 show wpAny _ _ (field (.ref z) 2 >>= _) _ _ _
 refine M1 (Oc hz rfl (x:=.bool false) rfl ?_)
 show wpAny _ _ (field (.ref z) 3 >>= _) _ _ _
 refine M1 (Oc hz rfl (x:=.ref TI) rfl ?_)
 refine M1 (Oj hTI rfl ?_)
 show wpAny _ _ (N1 (.ref z) >>= _) _ _ _
 refine M1 (w9 hz ha fun g1 hz1 hs1=>?_)
 replace hs1:Nw z hp g1:=hs1
 simp only [Oi,if_false]
 refine M1 ?_
 rw [<-Qn]
 simp only [QN,RJ]
 refine M1 ?_
 refine M1 (On ?_)
 show wpAny _ _ (NW (.ref j1) >>= _) _ _ _
 by_cases hk:k=n1
 ·subst hk
  refine M1 (D1.done ⟨g1,g,d,tk₀,os⟩ _ _ (D1.but h1 hs1 Z.b1) fun g2 e hs2 he=>?_)
  replace hs2:QJ j1 g1 g2:=hs2
  exact hE g2 e tk₀ (kp fun c o c1 c2 _ q=>hs2 _ _ c2 (hs1.extBut _ _ c1 q)) he
 ·have hlt:k < n1:=by omega
  have hk2:k=n2:=by omega
  refine M1 (D1.item k ⟨g1,g,d,tk₀,os⟩ _ _ hlt (D1.but h1 hs1 Z.b1) fun x g2 tk1 px st1 hs2=>M5 ?_)
  replace hs2:Nw j1 g1 g2:=hs2
  refine M5 ?_
  refine M1 ?_
  refine M1 (On ?_)
  show wpAny _ _ (NW (.ref j2) >>= _) _ _ _
  subst hk2
  refine M1 (D2.done ⟨g2,g,d,tk1,os⟩ _ _ (D2.but (D2.but h2 hs1 Z.b4) hs2 Z.b6) fun g3 e hs3 he=>?_)
  replace hs3:QJ j2 g2 g3:=hs3
  exact hE g3 e tk1 (kp fun c o c1 c2 c3 q=>hs3 _ _ c3 (hs2.extBut _ _ c2 (hs1.extBut _ _ c1 q))) he
noncomputable def ZSt (h:Heap) (z TI TO S:Addr) (i:Nat) (far:Addr->Prop):Prop:=(i=0/\IsZip h z TI TO .none/\∃ u v,IsPair h TO u v)\/∃ (a:Addr) (f:Bool) (oa:Obj),nj h z TI TO (rawInt a) f/\h.get? a=some oa/\far a/\a≠S
noncomputable def ZTs (P1 P2:Nat->Value->Prop) (lo:Addr) (h:Heap) (ts:List Addr):Prop:=∀ (j:Nat) (t:Addr),ts[j]?=some t->lo<=t/\∃ x y,P1 j x/\P2 j y/\IsPair h t x y
end
section
variable {prog:Program} {w:World} {A:Around} {s:Shared} {R:Result->Shared->Prop}
theorem Ja {z TI TO j1 j2 S lo:Addr} {fp1 fp2:List Addr} {n1 n2:Nat} {P1 P2:Nat->Value->Prop} {S1 S2:Nat->Heap->Prop} (hh:A.handled=none) (Z:jD z TI TO j1 j2 fp1 fp2)
  (D1:Draws prog w A.in1.in1 j1 fp1 n1 P1 S1) (D2:Draws prog w A.in1.in1 j2 fp2 n2 P2 S2) (hn:min n1 n2<=Nh) (hS:S∉[z,TI,TO,j1,j2]) (hS1:S∉fp1) (hS2:S∉fp2) (hlo:∀ c∈[z,TI,TO,j1,j2,S],c < lo) (hlo1:∀ c∈fp1,c < lo) (hlo2:∀ c∈fp2,c < lo) (res:Value) {h₁:Heap}
  (hR:∀ h' tk acc c ts,(∀ b o,b∉[z,TI,TO,j1,j2]->b≠S->h₁.get? b=some o->h'.get? b=some o)->h'.get? S=some { cls:=.type "list",dict:=none,data:=.seq acc c,slots:=#[] }->ts.length=min n1 n2->ZTs P1 P2 lo h' ts->
   acc.toList=ts.map NI->R (.ok (.ret res)) { s with heap:=h',toks:=tk }):
  ∀ (m i:Nat) (h:Heap) (tk c:Nat) (acc:Array Value) (ts:List Addr),min n1 n2 - i=m->i<=min n1 n2->ZSt h z TI TO S i (fun a=>lo<=a)->IsPair h TI (.ref j1) (.ref j2)->S1 i h->S2 i h->(∀ b o,b∉[z,TI,TO,j1,j2]->b≠S->h₁.get? b=some o->h.get? b=some o)->
   h.get? S=some { cls:=.type "list",dict:=none,data:=.seq acc c,slots:=#[] }->acc.toList=ts.map NI->ts.length=i->ZTs P1 P2 lo h ts->lo<=h.objs.size->
   codeAny (model prog w) A (.builtin "list.extend.loop" ⟨[.ref S,.ref z,res],[]⟩) R { s with heap:=h,toks:=tk }:=by
 have notin:∀ t,lo<=t->t∉[z,TI,TO,j1,j2]/\t≠S/\t∉fp1/\t∉fp2:=fun t ht=>⟨fun hm=>by
  have:=hlo t (show t∈[z,TI,TO,j1,j2]++[S] from Ow _ hm)
  exact absurd ht (RB.mpr this),fun e=>by
  have:=hlo S (by simp)
  rw [e] at ht
  exact absurd ht (RB.mpr this),fun hm=>absurd ht (RB.mpr (hlo1 t hm)),fun hm=>absurd ht (RB.mpr (hlo2 t hm))⟩
 intro m
 induction m with
 | zero=>
  intro i h tk c acc ts hk hi hst hTI st1 st2 hkeep hSS hacc hal hG hls
  have hin:i=min n1 n2:=by omega
  refine PF SF ?_
  rw [Pg O8 _]
  show wpAny _ A.in1 (pyNext (.ref z) >>= _) _ _ _
  have done:∀ h':Heap,∀ tk',(∀ c o,c∉[z,TI,TO,j1,j2]->h.get? c=some o->h'.get? c=some o)->R (.ok (.ret res)) { s with heap:=h',toks:=tk' }:=fun h' tk' kp=>by
   refine hR h' tk' acc c ts (fun b o h1 h2 e=>kp b o h1 (hkeep b o h1 h2 e)) (kp S _ hS hSS) (by omega) (fun j t hj=>?_) hacc
   obtain ⟨hlt,x,y,p1,p2,e⟩:=hG j t hj
   exact ⟨hlt,x,y,p1,p2,kp t _ (notin t hlt).1 e⟩
  have hT:Ul { s with heap:=h,toks:=tk } (.ref z) "zip":=by
   rcases hst with ⟨_,hz,_⟩ | ⟨a,f,oa,hz,_⟩
   ·exact ⟨_,hz,rfl⟩
   ·exact ⟨_,hz,rfl⟩
  unfold pyNext
  refine M1 (M1 (P6 (N4 (name:=O9 "__next__") hT PC (NV PC hT Re ?_ (Q3 _)))))
  rcases hst with ⟨_,hz,u,v,hTO⟩ | ⟨a,f,oa,hz,ha,_,_⟩
  ·refine Bj (s:={ s with heap:=h,toks:=tk }) Z D1 D2 hz hTI hTO st1 st2 hin fun h' e tk' kp he=>?_
   obtain ⟨o,ho,hcl⟩:=he
   exact M1 (Pb (T:="StopIteration") (b:=true) ⟨o,ho,hcl⟩ QX (M5 (M5 (done h' tk' kp))))
  ·refine I0 (s:={ s with heap:=h,toks:=tk }) Z D1 D2 hz ha hTI st1 st2 hin fun h' e tk' kp he=>?_
   obtain ⟨o,ho,hcl⟩:=he
   exact M1 (Pb (T:="StopIteration") (b:=true) ⟨o,ho,hcl⟩ QX (M5 (M5 (done h' tk' kp))))
 | succ m ih=>
  intro i h tk c acc ts hk hi hst hTI st1 st2 hkeep hSS hacc hal hG hls
  have hlt:i < min n1 n2:=by omega
  have hsz:acc.size=i:=by rw [<-NS,hacc,M6,hal]
  refine PF SF ?_
  rw [Pg O8 _]
  show wpAny _ A.in1 (pyNext (.ref z) >>= _) _ _ _
  have hT:Ul { s with heap:=h,toks:=tk } (.ref z) "zip":=by
   rcases hst with ⟨_,hz,_⟩ | ⟨a,f,oa,hz,_⟩
   ·exact ⟨_,hz,rfl⟩
   ·exact ⟨_,hz,rfl⟩
  have item:∀ (h':Heap) (tk':Nat) (x y:Value),P1 i x->P2 i y->ZSt h' z TI TO S (i + 1) (fun a=>lo<=a)->S1 (i + 1) h'->S2 (i + 1) h'->IsPair h' h.objs.size x y->(∀ c o,c∉[z,TO,j1,j2]->h.get? c=some o->h'.get? c=some o)->
    wpAny (model prog w) A.in1 (S7 (.ref S) (·.push (NI h.objs.size)) >>= fun _=>again (.builtin "list.extend.loop" ⟨[.ref S,.ref z,res],[]⟩)) (fun fin s'=>match fin with | .done f=>R (.ok f) s' | .again c'=>c'.quiet=true/\codeAny (model prog w) A c' R s') (fun e s'=>R (.error e) s') { s with heap:=h',toks:=tk' }:=by
   intro h' tk' x y px py hst' st1' st2' ht kp
   have sub:∀ c,c∉[z,TI,TO,j1,j2]->c∉[z,TO,j1,j2]:=fun c hc hm=>hc (by
    simp only [Nc,Ob,or_false] at hm ⊢
    rcases hm with e | e | e | e
    ·exact .inl e
    ·exact .inr (.inr (.inl e))
    ·exact .inr (.inr (.inr (.inl e)))
    ·exact .inr (.inr (.inr (.inr e))))
   have hS':=kp S _ (sub S hS) hSS
   have up:∀ b o,b≠S->h'.get? b=some o->(h'.update S (Ox (·.push (NI h.objs.size)))).get? b=some o:=fun b o hb e=>(OI _ _ (OJ hb)).trans e
   have hSl:S < h.objs.size:=Ni hSS
   have zS:∀ c∈[z,TI,TO,j1,j2],c≠S:=fun c hc e=>hS (by rw [<-e]; exact hc)
   have hTI':IsPair h' TI (.ref j1) (.ref j2):=kp TI _ (by
    simp only [Nc,Ob,or_false,not_or]
    exact ⟨Z.a1,Z.a5,Z.a6,Z.a7⟩) hTI
   show wpAny _ A.in1 (R6 S (·.push (NI h.objs.size)) >>= _) _ _ _
   refine M1 ?_
   refine Qp hS' rfl (M5 ⟨Qk O8 _,ih (i + 1) _ tk' _ (acc.push (NI h.objs.size)) (ts++[h.objs.size]) (by omega) hlt ?_ (up TI _ (zS TI (by simp)) hTI')
    (D1.frame _ _ _ st1' fun b hb o e=>up b o (fun q=>hS1 (by rw [<-q]; exact hb)) e) (D2.frame _ _ _ st2' fun b hb o e=>up b o (fun q=>hS2 (by rw [<-q]; exact hb)) e)
    (fun b o h1 h2 e=>up b o h2 (kp b o (sub b h1) (hkeep b o h1 h2 e))) (N7 _ hS' rfl) (by rw [Sx,hacc,Ny]; rfl) (by rw [Nx,hal]; rfl) ?_ ?_⟩) (by rw [hsz]; omega) (by show (acc.push (NI h.objs.size)).size<=Nh + 1; rw [Array.size_push,hsz]; omega)
   ·rcases hst' with ⟨e,_⟩ | ⟨a,f,oa,hz,ha,hfar,haS⟩
    ·omega
    ·exact .inr ⟨a,f,oa,up _ _ (zS z (by simp)) hz,up _ _ haS ha,hfar,haS⟩
   ·intro j t hj
    rcases Sv j ts.length with c | c | c
    ·rw [QL c] at hj
     obtain ⟨hl,x',y',p1,p2,e⟩:=hG j t hj
     obtain ⟨n1',n2',_,_⟩:=notin t hl
     exact ⟨hl,x',y',p1,p2,up t _ n2' (kp t _ (sub t n1') e)⟩
    ·subst c
     have hb:h.objs.size=t:=by simpa using hj
     subst hb
     rw [hal]
     exact ⟨hls,x,y,px,py,up _ _ (Pm hSl) ht⟩
    ·rw [NR (by rw [Nx,TB]; omega)] at hj
     cases hj
   ·have e:(h'.update S (Ox (·.push (NI h.objs.size)))).get? h.objs.size=_:=up _ _ (Pm hSl) ht
    exact NQ hls (Oa (Ni e))
  unfold pyNext
  refine M1 (M1 (P6 (N4 (name:=O9 "__next__") hT PC (NV PC hT Re ?_ (Q3 _)))))
  have hSl:S < h.objs.size:=Ni hSS
  rcases hst with ⟨_,hz,u,v,hTO⟩ | ⟨a,f,oa,hz,ha,hfar,haS⟩
  ·refine zn (s:={ s with heap:=h,toks:=tk }) Z D1 D2 hz hTI hTO st1 st2 (by omega) (by omega) fun x y h' tk' px py z1 z2 z3 z4 z5 z6 z7=>M5 ?_
   refine item h' tk' x y px py (.inr ⟨_,false,_,z1,z5,hls,Pm hSl⟩) z3 z4 z5 fun c o hc e=>?_
   by_cases q:c=TI
   ·rw [q] at e ⊢
    have:o=_:=Nl (e.symm.trans hTI)
    rw [this]
    exact z7
   ·refine z6 c o ?_ e
    simp only [Nc,Ob,or_false,not_or] at hc ⊢
    exact ⟨hc.1,q,hc.2⟩
  ·refine G9 (s:={ s with heap:=h,toks:=tk }) Z D1 D2 hz ha hTI st1 st2 (by omega) (by omega) fun x y h' tk' px py z1 z3 z4 z5 z6=>M5 ?_
   have na:=(notin a hfar).1
   refine item h' tk' x y px py (.inr ⟨a,true,oa,z1,z6 a oa ?_ ha,hfar,haS⟩) z3 z4 z5 fun c o hc e=>z6 c o ?_ e
   ·simp only [Nc,Ob,or_false,not_or] at na ⊢
    exact ⟨na.1,na.2.2.2.1,na.2.2.2.2⟩
   ·simp only [Nc,Ob,or_false,not_or] at hc ⊢
    exact ⟨hc.1,hc.2.2.1,hc.2.2.2⟩
end
end
section
open PySem.Spec
theorem Inv.news {X:Cx} {pins:List (Addr×Obj)} {σ:St} {H H':Hp} {s:Shared} {h':Heap} {t':Nat} (I:Inv X pins σ H s) (k:∀ b u,s.heap.get? b=some u->h'.get? b=some u) (hH:∀ b,b < s.heap.objs.size->H' b=H b)
  (new:∀ a o,s.heap.objs.size<=a->H' a=some o->bQ X.prog X.w H' h' a o):Inv X pins σ H' { s with heap:=h',toks:=t' }:=by
 have same:∀ b o,H b=some o->H' b=some o:=fun b o e=>(hH b (I.hok.lt e)).trans e
 refine I.un ⟨fun b o q _ _ _=>k b o q,fun b o q _ _ _=>⟨o.slots,k b o q⟩,fun b o q n _=>(hH b (Ni q)).trans n,fun b o q _=>⟨o,k b o q⟩,fun b xs e=>same b _ e,fun b o u e=>same b _ e,fun b ps e=>⟨#[],by rw [same b _ e]; simp⟩⟩ fun a o e=>?_
 by_cases c:a < s.heap.objs.size
 ·rw [hH a c] at e
  exact (I.hok a o e).stay (fun b u _ q=>k b u q) (fun b q=>same b _ q) fun b xs q=>same b _ q
 ·exact new a o (SC.mp c) e
theorem Jb {prog:Program} {w:World} {A:Around} {E:Value->Shared->Prop} {s:Shared} {z:Addr} {Q:Bool->Shared->Prop} (hT:s.TypeIs (.ref z) "zip") (h:Q true s):wpAny (model prog w) A (PR (.ref z)) Q E s:=by
 unfold PR
 refine M1 (OF hT (show TZ (.type "zip") "__len__"=pure none by rw [RA,QD]; kernel_rfl) ?_)
 show wpAny _ _ (specialOf (NI z) (O9 "__length_hint__") >>= _) _ _ _
 refine M1 (OF hT (show TZ (.type "zip") "__length_hint__"=pure none by rw [RA,QD]; kernel_rfl) ?_)
 exact M5 h
section
variable {prog:Program} {w:World} {A:Around} {E:Value->Shared->Prop} {s:Shared}
theorem ES {z TI TO j1 j2 S:Addr} {fp1 fp2:List Addr} {n1 n2:Nat} {P1 P2:Nat->Value->Prop} {S1 S2:Nat->Heap->Prop} {R:Result->Shared->Prop} (hh:A.handled=none) (Z:jD z TI TO j1 j2 fp1 fp2)
  (D1:Draws prog w A.in1.in1 j1 fp1 n1 P1 S1) (D2:Draws prog w A.in1.in1 j2 fp2 n2 P2 S2) (hn:min n1 n2<=Nh) (hS:S∉[z,TI,TO,j1,j2]) (hS1:S∉fp1) (hS2:S∉fp2) (hlo:∀ c∈[z,TI,TO,j1,j2,S],c < s.heap.objs.size) (hlo1:∀ c∈fp1,c < s.heap.objs.size) (hlo2:∀ c∈fp2,c < s.heap.objs.size)
  (hz:IsZip s.heap z TI TO .none) {u v:Value} (hTO:IsPair s.heap TO u v) (hTI:IsPair s.heap TI (.ref j1) (.ref j2)) (st1:S1 0 s.heap) (st2:S2 0 s.heap) {c₀:Nat} (hSS:s.heap.get? S=some { cls:=.type "list",data:=.seq #[] c₀ })
  (hR:∀ h' tk acc c ts,(∀ b o,b∉[z,TI,TO,j1,j2]->b≠S->s.heap.get? b=some o->h'.get? b=some o)->h'.get? S=some { cls:=.type "list",dict:=none,data:=.seq acc c,slots:=#[] }->ts.length=min n1 n2->ZTs P1 P2 s.heap.objs.size h' ts->
   acc.toList=ts.map NI->R (.ok (.ret .none)) { s with heap:=h',toks:=tk }):
  wpAny (model prog w) A.in1 (OA (.ref S) (.ref z) .none)
   (fun fin s'=>match fin with | .done f=>R (.ok f) s' | .again c'=>c'.quiet=true/\codeAny (model prog w) A c' R s') (fun e s'=>R (.error e) s') s:=by
 have zS:∀ c∈[z,TI,TO,j1,j2],c≠S:=fun c hc e=>hS (by rw [<-e]; exact hc)
 have hT:s.TypeIs (.ref z) "zip":=⟨_,hz,rfl⟩
 unfold OA
 refine M1 (SM (T:="zip") hT ?_)
 have h1:Qf (.ref S) (.ref z)=false:=by simp [Qf,(zS z (by simp)).symm]
 have h2:(Ov "zip" == Ov "list")=false:=by decide
 have h3:(Ov "zip" == Ov "tuple")=false:=by decide
 simp only [h1,h2,h3,Bool.or_false,Oi,if_false]
 refine M1 (SS hz ?_)
 refine M1 (On (Jb hT ?_))
 rw [if_pos (by simp)]
 refine M1 (Pp ?_)
 refine M1 ?_
 show wpAny _ _ (R6 S (·.push .none) >>= fun _=>R6 S (·.pop)) _ _ _
 refine M1 (Qp hSS rfl ?_)
 have hS₂:=N7 (Ox (·.push Ou)) hSS rfl
 refine Qp (hz:=by seq_fits) hS₂ rfl ?_
 have hS₃:=N7 (Ox (·.pop)) hS₂ rfl
 have oth:∀ b o,b≠S->s.heap.get? b=some o->((s.heap.update S (Ox (·.push Ou))).update S (Ox (·.pop))).get? b=some o:=fun b o hb e=>
  (OI _ _ (OJ hb)).trans ((OI _ _ (OJ hb)).trans e)
 refine M5 ⟨Qk O8 _,Ja (s:=s) (lo:=s.heap.objs.size) (h₁:=s.heap) hh Z D1 D2 hn hS hS1 hS2 hlo hlo1 hlo2 .none hR (min n1 n2) 0 _ _ _ #[] [] (Nat.sub_zero _) (N9 _) (.inl ⟨rfl,oth z _ (zS z (by simp)) hz,u,v,oth TO _ (zS TO (by simp)) hTO⟩) (oth TI _ (zS TI (by simp)) hTI)
  (D1.frame _ _ _ st1 fun b hb o e=>oth b o (fun q=>hS1 (by rw [<-q]; exact hb)) e) (D2.frame _ _ _ st2 fun b hb o e=>oth b o (fun q=>hS2 (by rw [<-q]; exact hb)) e) (fun b o _ hb e=>oth b o hb e) hS₃ rfl rfl (fun j t hj=>by simp at hj) ?_⟩
 rw [SZ,SZ]
 exact M9 _
theorem Jc {z TI TO j1 j2:Addr} {fp1 fp2:List Addr} {n1 n2:Nat} {P1 P2:Nat->Value->Prop} {S1 S2:Nat->Heap->Prop} {Q:Value->Shared->Prop} (hh:A.handled=none) (Z:jD z TI TO j1 j2 fp1 fp2)
  (D1:∀ A':Around,A'.handled=none->Draws prog w A' j1 fp1 n1 P1 S1) (D2:∀ A':Around,A'.handled=none->Draws prog w A' j2 fp2 n2 P2 S2) (hn:min n1 n2<=Nh) (hlo:∀ c∈[z,TI,TO,j1,j2],c < s.heap.objs.size) (hlo1:∀ c∈fp1,c < s.heap.objs.size) (hlo2:∀ c∈fp2,c < s.heap.objs.size)
  (hz:IsZip s.heap z TI TO .none) {u v:Value} (hTO:IsPair s.heap TO u v) (hTI:IsPair s.heap TI (.ref j1) (.ref j2)) (st1:S1 0 s.heap) (st2:S2 0 s.heap)
  (hQ:∀ h' tk acc c ts,(∀ b o,b∉[z,TI,TO,j1,j2]->s.heap.get? b=some o->h'.get? b=some o)->h'.get? s.heap.objs.size=some { cls:=.type "list",dict:=none,data:=.seq acc c,slots:=#[] }->ts.length=min n1 n2->ZTs P1 P2 (s.heap.objs.size + 1) h' ts->
   acc.toList=ts.map NI->Q (.ref s.heap.objs.size) { s with heap:=h',toks:=tk }):
  wpAny (model prog w) A (call (.type "list") [.ref z]) Q E s:=by
 refine callType_codes (Q₁:=fun obj s₁=>obj=.ref s.heap.objs.size/\s₁={ s with heap:=s.heap.push { cls:=.type "list",data:=.seq #[] } }) PySem.F.called_list (PySem.F.typeCall_list_1 _) PySem.F.entry_list_init
  (code_list_new _ ⟨rfl,rfl⟩) fun obj s₁ h₁=>?_
 obtain ⟨rfl,rfl⟩:=h₁
 have hS:(s.heap.push { cls:=.type "list",data:=.seq #[] }).get? s.heap.objs.size=some { cls:=.type "list",data:=.seq #[] }:=Nj _ rfl
 refine ⟨⟨_,hS,rfl⟩,PySem.F.args_list_init_2 _ _,?_⟩
 show wpAny _ _ (do let old <-Tw (.ref s.heap.objs.size); S7 (.ref s.heap.objs.size) (fun _=>#[]); letGo old.toList.reverse; OA (.ref s.heap.objs.size) (.ref z) .none) _ _ _
 refine M1 ?_
 unfold Tw
 refine M1 (Oj hS rfl (M5 ?_))
 show wpAny _ _ (R6 s.heap.objs.size (fun _=>#[]) >>= fun _=>letGo (#[]:Array Value).toList.reverse >>= fun _=>OA (.ref s.heap.objs.size) (.ref z) .none) _ _ _
 refine M1 (Qp hS rfl ?_)
 have hS₂:=N7 (Ox (fun _=>(#[]:Array Value))) hS rfl
 have oth:∀ b o,b≠s.heap.objs.size->(s.heap.push { cls:=.type "list",data:=.seq #[] }).get? b=some o->((s.heap.push { cls:=.type "list",data:=.seq #[] }).update s.heap.objs.size (Ox (fun _=>(#[]:Array Value)))).get? b=some o:=
  fun b o hb e=>(OI _ _ (OJ hb)).trans e
 have oth':∀ b o,s.heap.get? b=some o->((s.heap.push { cls:=.type "list",data:=.seq #[] }).update s.heap.objs.size (Ox (fun _=>(#[]:Array Value)))).get? b=some o:=fun b o e=>oth b o (NN (Ni e)) (M4 _ e)
 have sz:((s.heap.push { cls:=.type "list",data:=.seq #[] }).update s.heap.objs.size (Ox (fun _=>(#[]:Array Value)))).objs.size=s.heap.objs.size + 1:=by rw [SZ,N2]
 refine M1 (Tt ?_)
 refine ES (A:=A.in1) hh Z (D1 _ hh) (D2 _ hh) hn (fun hm=>OX _ (hlo _ hm)) (fun hm=>OX _ (hlo1 _ hm)) (fun hm=>OX _ (hlo2 _ hm)) (fun c hc=>?_) (fun c hc=>?_) (fun c hc=>?_) (oth' _ _ hz) (oth' _ _ hTO) (oth' _ _ hTI)
  ((D1 _ hh).frame _ _ _ st1 fun b _ o e=>oth' b o e) ((D2 _ hh).frame _ _ _ st2 fun b _ o e=>oth' b o e) hS₂ (fun h' tk acc c ts hk hS' hl hG hacc=>?_)
 ·show c < ((s.heap.push { cls:=.type "list",data:=.seq #[] }).update s.heap.objs.size (Ox (fun _=>(#[]:Array Value)))).objs.size
  rw [sz]
  rcases NH.mp (show c∈[z,TI,TO,j1,j2]++[s.heap.objs.size] from hc) with hc | hc
  ·exact OB (hlo c hc)
  ·rw [M8.mp hc]; exact OH _
 ·show c < ((s.heap.push { cls:=.type "list",data:=.seq #[] }).update s.heap.objs.size (Ox (fun _=>(#[]:Array Value)))).objs.size
  rw [sz]
  exact OB (hlo1 c hc)
 ·show c < ((s.heap.push { cls:=.type "list",data:=.seq #[] }).update s.heap.objs.size (Ox (fun _=>(#[]:Array Value)))).objs.size
  rw [sz]
  exact OB (hlo2 c hc)
 ·have hG':ZTs P1 P2 (s.heap.objs.size + 1) h' ts:=by rw [<-sz]; exact hG
  exact ⟨rfl,hQ h' tk acc c ts (fun b o hb e=>hk b o hb (NN (Ni e)) (oth' b o e)) hS' hl hG' hacc⟩
end
section
variable {X:Cx}
theorem KK {h:Heap} {us vs:List Value} {xs ys:List V} {lo:Addr} {ts:List Addr} (ru:aL xs us) (rv:aL ys vs) (hl:ts.length=min us.length vs.length) (G:ZTs (fun i v=>us.toArray[i]?=some v) (fun i v=>vs.toArray[i]?=some v) lo h ts):
  ∀ (i:Nat) (t:Addr),ts[i]?=some t->lo<=t/\∃ x y u v,xs[i]?=some x/\ys[i]?=some y/\aK x u/\aK y v/\IsPair h t u v:=fun i t ht=>by
 obtain ⟨h1,u,v,p1,p2,e⟩:=G i t ht
 have hi:i < ts.length:=(Na.mp ht).1
 have l1:=ru.length
 have l2:=rv.length
 obtain ⟨x,hx⟩:∃ x,xs[i]?=some x:=⟨_,M7 (by omega)⟩
 obtain ⟨y,hy⟩:∃ y,ys[i]?=some y:=⟨_,M7 (by omega)⟩
 obtain ⟨u',hu',ru'⟩:=ru.get hx
 obtain ⟨v',hv',rv'⟩:=rv.get hy
 have eu:u=u':=by
  have:us.toArray[i]?=some u':=by simpa using hu'
  rw [this] at p1
  exact (Nl p1).symm
 have ev:v=v':=by
  have:vs.toArray[i]?=some v':=by simpa using hv'
  rw [this] at p2
  exact (Nl p2).symm
 subst eu ev
 exact ⟨h1,x,y,u,v,hx,hy,ru',rv',e⟩
theorem Ci {x y:V} {u:Value} (a:aK x u) (b:aK y u):x=y:=by
 cases x <;> cases y <;> simp only [aK] at a b <;> first
  | rfl
  | (subst a; cases b; rfl)
  | (subst a; cases b; done)
  | (obtain ⟨t,rfl⟩:=a; obtain ⟨t',e⟩:=b; cases e; rfl)
  | (obtain ⟨t,rfl⟩:=a; obtain ⟨t',e⟩:=b; cases e; done)
  | (obtain ⟨t,rfl⟩:=a; cases b; done)
  | (subst a; obtain ⟨t',e⟩:=b; cases e; done)
theorem KL (S1 S2:Src) {a b:Expr} {ta:TA} {p pos p2 pos2:Pos} (hc:X.calm=true) (hgl:Gl X "list") (hml:X.mg "list"=none) (hg:Gl X "zip") (hm:X.mg "zip"=none) (ha:PA X [a,b] ta)
  (hs:NA [a,b] X.env=[(false,eval a X.env),(false,eval b X.env)]:=by rfl) (hs2:NA [b] X.env=[(false,eval b X.env)]:=by rfl)
  (hs3:NA [.Call (.Name "zip" p2) [a,b] [] pos2] X.env=[(false,eval (.Call (.Name "zip" p2) [a,b] [] pos2) X.env)]:=by rfl):
  PE X (.Call (.Name "list" p) [.Call (.Name "zip" p2) [a,b] [] pos2] [] pos) (EA S1 S2 X.K ta):=by
 intro pins s σ H Q I h
 refine Pr (iS I hgl hml Qb (Oy ?_ hs3 rfl))
 rw [hs3]
 show wpAny _ _ (spliced [(false,eval (.Call (.Name "zip" p2) [a,b] [] pos2) X.env)]) _ _ s
 refine RS ?_
 refine Call_ (iS I hg hm boot_zip (Oy (thn (ha pos2 pins s σ H _ I h) fun us s1 ⟨vs,H1,I1,r1,q1⟩=>?_) (by rw [hs,hs2]) (by rw [hs2]; rfl)))
 obtain ⟨l1,l2,xs,ys,e,hq1,hq2,hxl,q⟩:=q1
 subst e
 obtain ⟨u,v,rfl,ru,rv⟩:=r1.two
 cases ru
 cases rv
 obtain ⟨us1,rv1,p1,_⟩:=S1.get I1 hq1
 obtain ⟨us2,rv2,p2',_⟩:=S2.get I1 hq2
 refine UH F.called_zip (by decide) (Vw _ _) (VV _ _) (fun obj=>T6 obj _ _) VW (Dm S1 S2 l1 l2 us1.toArray us2.toArray) ⟨p1,p2',?_⟩
 generalize hn:s1.heap.objs.size=n
 have z1:(zh1 S1 s1.heap l1).objs.size=n + 1:=by rw [N2,hn]
 have z2:(zh2 S1 S2 s1.heap l1 l2).objs.size=n + 2:=by rw [N2,z1]
 have z3:(zh3 S1 S2 s1.heap l1 l2).objs.size=n + 3:=by rw [N2,z2]
 have z4:(zh4 S1 S2 s1.heap l1 l2).objs.size=n + 4:=by rw [N2,z3]
 have z5:(zh5 S1 S2 s1.heap l1 l2).objs.size=n + 5:=by rw [N2,z4]
 have g5:(zh5 S1 S2 s1.heap l1 l2).get? (zh4 S1 S2 s1.heap l1 l2).objs.size=some _:=Nj _ rfl
 have g4:(zh5 S1 S2 s1.heap l1 l2).get? (zh3 S1 S2 s1.heap l1 l2).objs.size=some _:=M4 _ (Nj _ rfl)
 have g3:(zh5 S1 S2 s1.heap l1 l2).get? (zh2 S1 S2 s1.heap l1 l2).objs.size=some _:=M4 _ (M4 _ (Nj _ rfl))
 have g2:(zh5 S1 S2 s1.heap l1 l2).get? (zh1 S1 s1.heap l1).objs.size=some _:=M4 _ (M4 _ (M4 _ (Nj _ rfl)))
 have g1:(zh5 S1 S2 s1.heap l1 l2).get? s1.heap.objs.size=some _:=M4 _ (M4 _ (M4 _ (M4 _ (Nj _ rfl))))
 have kp:∀ c o,s1.heap.get? c=some o->(zh5 S1 S2 s1.heap l1 l2).get? c=some o:=fun c o e=>
  M4 _ (M4 _ (M4 _ (M4 _ (M4 _ e))))
 show _/\_
 rw [z2,z3,z4] at g5
 rw [z1,z2,hn] at g3
 rw [z3] at g4
 rw [z1] at g2
 rw [hn] at g1
 rw [z4]
 refine ⟨⟨_,g5,rfl⟩,Sm ?_⟩
 have lt1:l1 < n:=by
  obtain ⟨o,_,ho,_⟩:=S1.isSeq p1
  rw [<-hn]; exact Ni ho
 have lt2:l2 < n:=by
  obtain ⟨o,_,ho,_⟩:=S2.isSeq p2'
  rw [<-hn]; exact Ni ho
 have five:∀ c:Nat,c∈[n + 4,n + 2,n + 3,n,n + 1]->n<=c/\c < n + 5:=fun c hc=>by
  simp only [Nc,Ob,or_false] at hc
  omega
 have nel:∀ l c:Nat,l < n->n<=c->c≠l:=fun l c h1 h2=>by omega
 have Z:jD (n + 4) (n + 2) (n + 3) n (n + 1) [n,l1] [n + 1,l2]:=zap (by simp) (fun c hc=>nel l1 c lt1 (five c hc).1) (fun c hc=>nel l2 c lt2 (five c hc).1)
 have is1:S1.Is (zh5 S1 S2 s1.heap l1 l2) l1 us1.toArray:=S1.isKeep p1 fun o e=>kp _ _ e
 have is2:S2.Is (zh5 S1 S2 s1.heap l1 l2) l2 us2.toArray:=S2.isKeep p2' fun o e=>kp _ _ e
 refine Jc (s:={ s1 with heap:=zh5 S1 S2 s1.heap l1 l2 }) (n1:=us1.toArray.size) (n2:=us2.toArray.size) (I1.ok.hd hc) Z (fun A' hA=>S1.draws hA n l1 (nel l1 n lt1 (M9 _)).symm us1.toArray) (fun A' hA=>S2.draws hA (n + 1) l2 (nel l2 (n + 1) lt2 (Pn _)).symm us2.toArray) ?_ ?_ ?_ ?_ g5 g4 g3 ⟨S1.mkI g1 rfl rfl,is1⟩ ⟨S2.mkI g2 rfl rfl,is2⟩ ?_
 ·have:=rv1.length
  simp only [Nq]
  rw [Nf]
  omega
 ·intro c hc
  show c < (zh5 S1 S2 s1.heap l1 l2).objs.size
  rw [z5]
  exact (five c hc).2
 ·intro c hc
  show c < (zh5 S1 S2 s1.heap l1 l2).objs.size
  rw [z5]
  rcases Nc.mp hc with rfl | hc
  ·exact Nat.lt_add_of_pos_right (by decide)
  ·rw [M8.mp hc]; exact NB lt1 (OV _ _)
 ·intro c hc
  show c < (zh5 S1 S2 s1.heap l1 l2).objs.size
  rw [z5]
  rcases Nc.mp hc with rfl | hc
  ·exact Nat.add_lt_add_left (by decide) n
  ·rw [M8.mp hc]; exact NB lt2 (OV _ _)
 intro h' tk acc c ts hk hS' hl hG hacc
 have hS'':h'.get? (n + 5)=some { cls:=.type "list",dict:=none,data:=.seq acc c,slots:=#[] }:=by rw [<-z5]; exact hS'
 have hG':ZTs (fun i v=>us1.toArray[i]?=some v) (fun i v=>us2.toArray[i]?=some v) (n + 5 + 1) h' ts:=by rw [<-z5]; exact hG
 have hl':ts.length=min us1.length us2.length:=by simpa using hl
 have G:=KK rv1 rv2 hl' hG'
 have old:∀ b o,s1.heap.get? b=some o->h'.get? b=some o:=fun b o e=>hk b o (fun hm=>by
  have:=Ni e
  rw [hn] at this
  exact absurd (five b hm).1 (RB.mpr this)) (kp b o e)
 have l1':=rv1.length
 have l2':=rv2.length
 let H':Hp:=fun b=>if b=n + 5 then some (.lst (ts.map V.ref)) else match ts.findIdx? (· == b) with
  | some i=>(match xs[i]?,ys[i]? with | some x,some y=>some (.tup [x,y]) | _,_=>H1 b)
  | none=>H1 b
 have big:∀ (i:Nat) (t:Addr),ts[i]?=some t->n + 6<=t:=fun i t ht=>(G i t ht).1
 have Hts:∀ (i:Nat) (t:Addr),ts[i]?=some t->∃ x y u v,H' t=some (.tup [x,y])/\xs[i]?=some x/\ys[i]?=some y/\aK x u/\aK y v/\IsPair h' t u v:=by
  intro i t ht
  obtain ⟨hlo,x,y,u,v,hx,hy,rx,ry,e⟩:=G i t ht
  refine ⟨x,y,u,v,?_,hx,hy,rx,ry,e⟩
  have net:t≠n + 5:=fun q=>by rw [q] at hlo; exact absurd hlo (RB.mpr (OH _))
  show (if t=n + 5 then _ else _)=_
  rw [if_neg net]
  cases hf:ts.findIdx? (· == t) with
  | none=>
   have:=QO.mp hf t (Ng ht)
   simp at this
  | some i0=>
   obtain ⟨h0,h1,_⟩:=Po.mp hf
   have ht0:ts[i0]?=some t:=by rw [M7 h0]; congr 1; exact eq_of_beq h1
   obtain ⟨_,x0,y0,u0,v0,hx0,hy0,rx0,ry0,e0⟩:=G i0 t ht0
   have eq:=Nl (e0.symm.trans e)
   have eu:u0=u/\v0=v:=by
    injection eq with _ _ eq
    injection eq with eq _
    simp at eq
    exact eq
   rw [eu.1] at rx0
   rw [eu.2] at ry0
   simp only [hx0,hy0]
   rw [Ci rx0 rx,Ci ry0 ry]
 have hH:∀ b,b < s1.heap.objs.size->H' b=H1 b:=by
  intro b hb
  rw [hn] at hb
  have ne5:b≠n + 5:=fun q=>by rw [q] at hb; exact absurd hb (SC.mpr (OV _ _))
  show (if b=n + 5 then _ else _)=_
  rw [if_neg ne5]
  cases hf:ts.findIdx? (· == b) with
  | none=>rfl
  | some i0=>
   obtain ⟨h0,h1,_⟩:=Po.mp hf
   have ht0:ts[i0]?=some b:=by rw [M7 h0]; congr 1; exact eq_of_beq h1
   have:=big i0 b ht0
   exact absurd (NB hb (NQ (OV _ _) this)) (OX _)
 have e5:H' (n + 5)=some (.lst (ts.map V.ref)):=if_pos rfl
 have hvals:aL (ts.map V.ref) acc.toList:=by
  have go:∀ l:List Addr,aL (l.map V.ref) (l.map NI):=fun l=>by
   induction l with
   | nil=>exact .nil
   | cons t r ih=>exact .cons rfl ih
  rw [hacc]
  exact go ts
 have I2:Inv X pins σ H' { s1 with heap:=h',toks:=tk }:=I1.news old hH fun a o ha eo=>by
  by_cases c5:a=n + 5
  ·subst c5
   rw [e5] at eo
   cases eo
   refine ⟨?_,acc.toList,c,hvals,by simpa using hS''⟩
   rw [M6,hl',Nf]
   omega
  ·have eo':(match ts.findIdx? (· == a) with
    | some i=>(match xs[i]?,ys[i]? with | some x,some y=>some (HO.tup [x,y]) | _,_=>H1 a)
    | none=>H1 a)=some o:=by
    have:H' a=some o:=eo
    rw [show H' a=(if a=n + 5 then some (.lst (ts.map V.ref)) else match ts.findIdx? (· == a) with
     | some i=>(match xs[i]?,ys[i]? with | some x,some y=>some (.tup [x,y]) | _,_=>H1 a)
     | none=>H1 a) from rfl,if_neg c5] at this
    exact this
   have hfr:H1 a=none:=I1.hok.fresh ha
   cases hf:ts.findIdx? (· == a) with
   | none=>rw [hf] at eo'; rw [show H1 a=some o from eo'] at hfr; cases hfr
   | some i0=>
    obtain ⟨h0,h1,_⟩:=Po.mp hf
    have ht0:ts[i0]?=some a:=by rw [M7 h0]; congr 1; exact eq_of_beq h1
    obtain ⟨_,x0,y0,u0,v0,hx0,hy0,rx0,ry0,e0⟩:=G i0 a ht0
    rw [hf] at eo'
    simp only [hx0,hy0] at eo'
    cases eo'
    exact ⟨(by show 2<=Nh; decide),[u0,v0],.cons rx0 (.cons ry0 .nil),_,e0,rfl,⟨0,rfl⟩,rfl⟩
 have hp5:H1 (n + 5)=none:=I1.hok.fresh (by rw [hn]; exact OV _ _)
 have hsame:am H1 H':=fun b o eb=>by
  rw [hH b (I1.hok.lt eb)]
  exact eb
 show ∃ v H',_/\_/\_
 refine ⟨.ref (n + 5),H',I2,by rw [<-z5]; rfl,q _ _ hp5 hsame ⟨ts,e5,?_⟩⟩
 have go:∀ (l:List Addr) (m:List (V×V)),l.length=m.length->(∀ (i:Nat) (t:Addr) (pq:V×V),l[i]?=some t->m[i]?=some pq->H' t=some (.tup [pq.1,pq.2]))->mM H' l m:=by
  intro l
  induction l with
  | nil=>intro m hl _; cases m with
   | nil=>exact .nil
   | cons _ _=>simp at hl
  | cons t r ih=>intro m hl hh; cases m with
   | nil=>simp at hl
   | cons pq m=>exact .cons (hh 0 t pq rfl rfl) (ih m (by simpa using hl) fun i t pq h1 h2=>hh (i + 1) t pq h1 h2)
 refine go _ _ (by rw [OS]; omega) fun i t pq ht hpq=>?_
 obtain ⟨x,y,u,v,e,hx,hy,_⟩:=Hts i t ht
 rw [e]
 have:(xs.zip ys)[i]?=some (x,y):=by rw [Pw]; exact ⟨hx,hy⟩
 rw [this] at hpq
 cases hpq
 rfl
end
end
end L2
section
namespace L2
open PySem PySem.Spec PySem.W PyProof.Rows
noncomputable def FnA (K:Frag) (x q:Str) (st:Stmt) (f:Addr):Prop:=∃ (oc:Value) (od:Option Addr) (kV doc pm:Value) (an:Option Addr) (cd ct:Value) (sl:Array (Option Value)),K.lookup f=some ⟨oc,od,.func (fnOf x q (km st) (fP st) (ab st) .none kV doc pm an cd ct),sl⟩/\codeIn K cd q=true/\keepIn K (.ref f)=true
noncomputable def DfA (K:Frag) (x:Str) (st:Stmt):Prop:=∃ f,nsIn K NJ x=some (some (.ref f))/\FnA K x x st f
noncomputable def MtA (K:Frag) (C:Addr) (m q:Str) (st:Stmt):Prop:=∃ f,findIn K (.ref C) m=some (some (.ref f))/\isFn K (.ref f)=true/\FnA K m q st f
theorem FnA.fn {K:Frag} {x q:Str} {st:Stmt} {f:Addr} (h:FnA K x q st f):∃ fd,Fun K x q st f fd:=let ⟨_,_,_,_,_,_,_,_,_,l,c,k⟩:=h; ⟨_,F4 l c k⟩
noncomputable abbrev BdA (x q:Str) (st:Stmt) (ps:List Str):Prop:=∀ (kV doc pm:Value) (an:Option Addr) (cdv ct:Value) (us:List Value),us.length=ps.length->bindArgs (fnOf x q (km st) (fP st) (ab st) .none kV doc pm an cdv ct) ⟨us,[]⟩=pure (ps.zip us)
theorem DfA.df {K:Frag} {mg:Str->Option Value} {h:Heap} {x:Str} {st:Stmt} {ps:List Str} (X:K.In h) (G:h.Ns NJ mg) (q:DfA K x st) (b:BdA x x st ps):∃ f fd,Def K mg x st ps f fd:=
 let ⟨f,a,l⟩:=q; let ⟨fd,F⟩:=l.fn; ⟨f,fd,F,mg_of X G a,F.binds b⟩
theorem MtA.df {K:Frag} {C:Addr} {m q:Str} {st:Stmt} {ps:List Str} (h:MtA K C m q st) (b:BdA m q st ps):∃ f fd,jp K C m q st ps f fd:=
 let ⟨f,a,i,l⟩:=h; let ⟨fd,F⟩:=l.fn; ⟨f,fd,F,⟨a,i,F.kp⟩,F.binds b⟩
theorem MtA.di {K:Frag} {C:Addr} {q:Str} {st:Stmt} {ps:List Str} (h:MtA K C "__init__" q st) (mk:makesIn K C=true) (kc:keepIn K (.ref C)=true) (b:BdA "__init__" q st ps):∃ f fd,BQ K C q st ps f fd:=
 let ⟨f,a,i,l⟩:=h; let ⟨fd,F⟩:=l.fn; ⟨f,fd,F,⟨mk,a,i,kc⟩,F.binds b⟩
theorem DfA.law {K:Frag} {mg:Str->Option Value} {h:Heap} {x p:Str} {st:Stmt} {fa:Addr} (X:K.In h) (G:h.Ns NJ mg) (q:DfA K x st) (b:BdA x x st [p]) (hf:mg x=some (.ref fa))
  (bb:∀ (kV doc pm:Value) (an:Option Addr) (cdv ct:Value) (s:Shared) (v:Value),BindsTo s (fnOf x x (km st) (fP st) (ab st) .none kV doc pm an cdv ct) ⟨[v],[]⟩ [(p,v)]):∃ fd,Def K mg x st [p] fa fd/\∀ (s:Shared) (v:Value),BindsTo s fd ⟨[v],[]⟩ [(p,v)]:=by
 obtain ⟨f,a,_,_,kV,doc,pm,an,cdv,ct,_,l,c,k⟩:=q
 have e:=hf.symm.trans (mg_of X G a)
 cases e
 have F:=F4 l c k
 exact ⟨_,⟨F,mg_of X G a,F.binds b⟩,bb kV doc pm an cdv ct⟩
end L2
end
namespace Kc_k33
open PySem L2 PyProof.Rows
local macro_rules | `(tactic| walk_at "v")=>`(tactic| exact ⟨rfl,by first | exact Nb rfl | exact PB (Nb rfl) | exact PB (PB rfl),by decide,by decide⟩)
local macro_rules | `(tactic| walk_at "w")=>`(tactic| exact ⟨rfl,rfl,rfl,by decide +kernel,rfl,by decide +kernel,by decide +kernel⟩)
local macro_rules | `(tactic| walk_at "l")=>`(tactic| (intro _ _ _ _ h; first | (obtain ⟨_,e,_⟩:=h; subst e; rfl) | (obtain ⟨_,_,e,_⟩:=h; subst e; rfl) | (obtain ⟨_,_,_,e,_⟩:=h; subst e; rfl) | (obtain ⟨_,_,_,_,e,_⟩:=h; subst e; rfl) | (obtain ⟨_,_,_,_,_,e,_⟩:=h; subst e; rfl) | (obtain ⟨_,_,_,_,_,_,e,_⟩:=h; subst e; rfl) | (obtain ⟨_,_,_,_,_,_,_,e,_⟩:=h; subst e; rfl) | (obtain ⟨_,_,_,_,_,_,_,_,e,_⟩:=h; subst e; rfl) | (obtain ⟨_,_,_,_,_,_,_,_,_,e,_⟩:=h; subst e; rfl) | (obtain ⟨_,_,_,_,_,_,_,_,_,_,e,_⟩:=h; subst e; rfl) | (obtain ⟨_,_,_,_,_,_,_,_,_,_,_,e,_⟩:=h; subst e; rfl) | (obtain ⟨_,_,_,_,_,_,_,_,_,_,_,_,e,_⟩:=h; subst e; rfl) | (obtain ⟨_,_,_,_,_,_,_,_,_,_,_,_,_,e,_⟩:=h; subst e; rfl) | (obtain ⟨_,_,_,_,_,_,_,_,_,_,_,_,_,_,e,_⟩:=h; subst e; rfl) | (obtain ⟨_,_,_,_,_,_,_,_,_,_,_,_,_,_,_,e,_⟩:=h; subst e; rfl) | (obtain ⟨_,_,_,_,_,_,_,_,_,_,_,_,_,_,_,_,e,_⟩:=h; subst e; rfl)))
local macro_rules | `(tactic| walk_at "c")=>`(tactic| (refine ⟨rfl,?_,?_,?_,?_,rfl,?_⟩ <;> decide +kernel))
local macro_rules | `(tactic| walk_at "e")=>`(tactic| (refine ⟨rfl,?_,?_,?_,?_,rfl,?_⟩ <;> first | decide +kernel | exact GZ (by decide +kernel)))
theorem pvA {X:Cx} {N:List Str} {sc:Scope} {i:Nat} {x:Str} {pos:Pos} (h:ah N sc i x) (hN:X.N=N:=by exact rfl) (hS:X.env.scope=sc:=by exact rfl):PE X (.Name x pos) (aa i):=pvQ h hN hS
theorem rmD {n k:Nat} {A:Around} (h:ca k A) (e:n<=k:=by decide):ca n A:=h.mono e
noncomputable abbrev iR:List Str:=["_law_script","_law_cards","_law_sizes","_law_hands","_law_deals","_law_views","_law_hand","_law_table","_law_k","_law_saying_here","_law_group_here","_law_due","_law_found"]
noncomputable abbrev md:List Str:=["_law_script","_law_at","_law_cards","_law_hands","_law_most","_law_pool_here","_law_k","_law_cell_here","_law_one","_law_other","_law_some"]
noncomputable abbrev np:List Str:=["_law_table","_law_deals","_law_views","_law_number","_law_hands","_law_hand","_law_holder","_law_card","_law_holds"]
noncomputable abbrev qx:List Str:=["_law_deals","_law_view","_law_pile","_law_piles","_law_lacks","_law_place","_law_least_here"]
noncomputable abbrev sH:List Str:=["_law_script","_law_at","_law_cards","_law_hands","_law_pool_here","_law_k","_law_cell_here"]
noncomputable abbrev oR:List Str:=["_law_deals","_law_views","_law_saying_here","_law_below","_law_ahead"]
noncomputable abbrev oS:List Str:=["_law_views","_law_group_here","_law_truths"]
noncomputable abbrev sL:List Str:=["_law_views","_law_group_here","_law_truths","_law_found","_law_hand"]
noncomputable abbrev vD:List Str:=["_law_script","_law_at","_law_most","_law_cards","_law_sizes","_law_k"]
noncomputable abbrev nu:List Str:=["deals","views","S","word","inner","some"]
noncomputable abbrev qy:List Str:=["_law_views","_law_group_here","_law_truths","_law_found","_law_more"]
noncomputable abbrev xa:List Str:=["_law_table","_law_deals","_law_views","_law_number","_law_hands"]
noncomputable abbrev qz:List Str:=["_law_view","_law_truths","_law_lacks","_law_place","_law_truth"]
noncomputable abbrev xc:List Str:=["_law_script","_law_at","_law_cards","_law_hands","_law_most"]
noncomputable abbrev d8:List Str:=["cards","sizes"]
noncomputable abbrev oj:List Str:=["many","views","points","view","thing","least"]
noncomputable abbrev ly:List Str:=["cards","hands","place","part"]
noncomputable abbrev eZ:List Str:=["ones","others"]
noncomputable abbrev t9:List Str:=["_law_signs","_law_first","_law_found","_law_place","_law_sign"]
noncomputable abbrev uf:List Str:=["_law_table","_law_views","_law_hand","_law_view","_law_seen"]
noncomputable abbrev lz:List Str:=["cards","hands","thing"]
noncomputable abbrev xf:List Str:=["_law_script","_law_at","_law_cards","_law_hands"]
noncomputable abbrev qA:List Str:=["begun","room","longer","deal","who","most"]
noncomputable abbrev ol:List Str:=["_law_number","_law_hands"]
noncomputable abbrev mG:List Str:=["thing","least","most"]
noncomputable abbrev ug:List Str:=["_law_deals","_law_views","_law_saying_here"]
noncomputable abbrev qB:List Str:=["cards","hands","thing","words","level"]
noncomputable abbrev jd:List Str:=["self","cards","sizes"]
noncomputable abbrev je:List Str:=["_law_one","_law_other"]
noncomputable abbrev qC:List Str:=["view","truths","sure","least","truth"]
noncomputable abbrev uh:List Str:=["self","hand","holder","some","rising"]
noncomputable abbrev mH:List Str:=["_law_found","_law_due"]
noncomputable abbrev xg:List Str:=["_law_deals","_law_view","_law_pile"]
noncomputable abbrev xh:List Str:=["_law_cards","_law_sizes","_law_found","_law_many"]
noncomputable abbrev xi:List Str:=["_law_script","_law_at","_law_most"]
noncomputable abbrev ui:List Str:=["points","one","other","first","second"]
noncomputable abbrev xj:List Str:=["cards","sizes","room","begun","card"]
noncomputable abbrev uj:List Str:=["cards","sizes","many","left","size"]
noncomputable abbrev qD:List Str:=["deal","holder","rising"]
noncomputable abbrev xk:List Str:=["_law_script","_law_k"]
noncomputable abbrev mI:List Str:=["self","hands","S"]
noncomputable abbrev xl:List Str:=["self","hand","holder","some"]
noncomputable abbrev om:List Str:=["thing","bound"]
noncomputable abbrev xm:List Str:=["_law_view","_law_truths"]
noncomputable abbrev uk:List Str:=["marks","firsts","thing","mark"]
noncomputable abbrev xn:List Str:=["self","hands","values"]
noncomputable abbrev AJ:List Str:=["cards","hands","thing","form"]
noncomputable abbrev qE:List Str:=["fit","reason"]
noncomputable abbrev on:List Str:=["thing","cards"]
noncomputable abbrev xo:List Str:=["_law_cards","_law_sizes"]
noncomputable abbrev xp:List Str:=["_law_table","_law_views"]
noncomputable abbrev xq:List Str:=["views","truths","answers","view"]
noncomputable abbrev AK:List Str:=["_law_saying_here","_law_found","_law_part"]
noncomputable abbrev oo:List Str:=["deals","hand"]
noncomputable abbrev mJ:List Str:=["piles","view"]
noncomputable abbrev xr:List Str:=["points","one","other"]
noncomputable abbrev oq:List Str:=["deal","who"]
noncomputable abbrev ou:List Str:=["view","values"]
noncomputable abbrev xt:List Str:=["deal","holder","rising","card"]
noncomputable abbrev xu:List Str:=["thing","hands","least","hand"]
noncomputable abbrev xv:List Str:=["self","hands","values","hand"]
noncomputable abbrev xw:List Str:=["many","taken","ways","step"]
noncomputable abbrev xy:List Str:=["view","truths"]
noncomputable abbrev ul:List Str:=["deals","views","S"]
noncomputable abbrev AL:List Str:=["_law_script","_law_k","_law_number"]
noncomputable abbrev ow:List Str:=["self","hand"]
noncomputable abbrev xz:List Str:=["points","thing"]
noncomputable abbrev AM:List Str:=["_law_many","_law_found","_law_k"]
noncomputable abbrev xB:List Str:=["thing","hands"]
noncomputable abbrev ox:List Str:=["self","S"]
noncomputable abbrev oy:List Str:=["_law_found"]
noncomputable abbrev um:List Str:=["_law_saying_here"]
noncomputable abbrev xC:List Str:=["views","truths"]
noncomputable abbrev AN:List Str:=["_law_least_here","_law_lacks"]
noncomputable abbrev AO:List Str:=["sayings","parts","saying"]
noncomputable abbrev xD:List Str:=["many","taken"]
noncomputable abbrev xE:List Str:=["begun","room"]
noncomputable abbrev xF:List Str:=["many","views"]
noncomputable abbrev ET:List Str:=["_law_card","_law_who","_law_pile"]
noncomputable abbrev EU:List Str:=["_law_card","_law_who","_law_hand"]
noncomputable abbrev xG:List Str:=["_law_signs"]
noncomputable abbrev JK:List Str:=["_law_place","_law_holds","_law_views","_law_hand"]
noncomputable abbrev JL:List Str:=["_law_place","_law_due","_law_views","_law_hand"]
noncomputable abbrev EV:List Str:=["place","part","cards","hands"]
noncomputable abbrev AQ:List Str:=["points","thing","end"]
noncomputable abbrev uo:List Str:=["one","other"]
noncomputable abbrev xH:List Str:=["_law_many"]
noncomputable abbrev qF:List Str:=["thing"]
noncomputable abbrev uq:List Str:=["_law_script"]
noncomputable abbrev ur:List Str:=["_law_truth"]
noncomputable abbrev JM:List Str:=["_law_deal","_law_holder","_law_card"]
noncomputable abbrev EW:List Str:=["pile","least","piles"]
noncomputable abbrev EX:List Str:=["_law_deal","_law_pile"]
noncomputable abbrev EY:List Str:=["_law_deal","_law_hand"]
noncomputable abbrev xI:List Str:=["sayings"]
noncomputable abbrev EZ:List Str:=["card","holder","who"]
noncomputable abbrev AR:List Str:=["saying","form"]
noncomputable abbrev xJ:List Str:=["saying"]
noncomputable abbrev E1 (P:Program) (w:World) (K:Fg) (mg:Str->Option Value) (base:Heap) (k:Nat):Prop:=FnB P w K mg base k "is_whole" qF (iX K)
noncomputable abbrev Cj (P:Program) (w:World) (K:Fg) (mg:Str->Option Value) (base:Heap) (k:Nat):Prop:=FnB P w K mg base k "is_within" mG (eM K)
noncomputable abbrev yK (P:Program) (w:World) (K:Fg) (mg:Str->Option Value) (base:Heap) (k:Nat):Prop:=FnB P w K mg base k "is_below" om (dL K)
noncomputable abbrev E2 (P:Program) (w:World) (K:Fg) (mg:Str->Option Value) (base:Heap) (k:Nat):Prop:=FnB P w K mg base k "are_hands" xB (jK K)
noncomputable abbrev Jd (P:Program) (w:World) (K:Fg) (mg:Str->Option Value) (base:Heap) (k:Nat):Prop:=FnB P w K mg base k "is_pack" d8 (qg K)
noncomputable abbrev Je (P:Program) (w:World) (K:Fg) (mg:Str->Option Value) (base:Heap) (k:Nat):Prop:=FnB P w K mg base k "choices" xD (qh K)
noncomputable abbrev Jf (P:Program) (w:World) (K:Fg) (mg:Str->Option Value) (base:Heap) (k:Nat):Prop:=FnB P w K mg base k "how_many" d8 (oK K)
noncomputable abbrev Jg (P:Program) (w:World) (K:Fg) (mg:Str->Option Value) (base:Heap) (k:Nat):Prop:=FnB P w K mg base k "with_one_more" xE (jm K)
noncomputable abbrev E3 (P:Program) (w:World) (K:Fg) (mg:Str->Option Value) (base:Heap) (k:Nat):Prop:=FnB P w K mg base k "deals_of" d8 (kZ K)
noncomputable abbrev E4 (P:Program) (w:World) (K:Fg) (mg:Str->Option Value) (base:Heap) (k:Nat):Prop:=FnB P w K mg base k "cards_of" oq (k9 K)
noncomputable abbrev E5 (P:Program) (w:World) (K:Fg) (mg:Str->Option Value) (base:Heap) (k:Nat):Prop:=FnB P w K mg base k "is_word" lz (qq K)
noncomputable abbrev E6 (P:Program) (w:World) (K:Fg) (mg:Str->Option Value) (base:Heap) (k:Nat):Prop:=FnB P w K mg base k "parts_of_all" xI (jM K)
noncomputable abbrev E7 (P:Program) (w:World) (K:Fg) (mg:Str->Option Value) (base:Heap) (k:Nat):Prop:=FnB P w K mg base k "is_saying" lz (m8 K)
noncomputable abbrev E8 (P:Program) (w:World) (K:Fg) (mg:Str->Option Value) (base:Heap) (k:Nat):Prop:=FnB P w K mg base k "fits" ly (yx K)
noncomputable abbrev E9 (P:Program) (w:World) (K:Fg) (mg:Str->Option Value) (base:Heap) (k:Nat):Prop:=FnB P w K mg base k "parts_of" xJ (oO K)
noncomputable abbrev AS (P:Program) (w:World) (K:Fg) (mg:Str->Option Value) (base:Heap) (k:Nat):Prop:=FnB P w K mg base k "least_with_same" ["marks"] (fq K)
noncomputable abbrev Fa (P:Program) (w:World) (K:Fg) (mg:Str->Option Value) (base:Heap) (k:Nat):Prop:=FnB P w K mg base k "first_view" oo (lR K)
noncomputable abbrev Fb (P:Program) (w:World) (K:Fg) (mg:Str->Option Value) (base:Heap) (k:Nat):Prop:=FnB P w K mg base k "split" ou (vx K)
noncomputable abbrev AT (P:Program) (w:World) (K:Fg) (mg:Str->Option Value) (base:Heap) (k:Nat):Prop:=FnB P w K mg base k "end_of" xz (lE K)
noncomputable abbrev Fc (P:Program) (w:World) (K:Fg) (mg:Str->Option Value) (base:Heap) (k:Nat):Prop:=FnB P w K mg base k "link" xr (yv K)
noncomputable abbrev Fd (P:Program) (w:World) (K:Fg) (mg:Str->Option Value) (base:Heap) (k:Nat):Prop:=FnB P w K mg base k "joined" xF (sd K)
noncomputable abbrev AU (P:Program) (w:World) (K:Fg) (mg:Str->Option Value) (base:Heap) (k:Nat):Prop:=FnB P w K mg base k "both" eZ (tT K)
noncomputable abbrev Fe (P:Program) (w:World) (K:Fg) (mg:Str->Option Value) (base:Heap) (k:Nat):Prop:=FnB P w K mg base k "either" eZ (se K)
noncomputable abbrev xK (P:Program) (w:World) (K:Fg) (mg:Str->Option Value) (base:Heap) (k:Nat):Prop:=FnB P w K mg base k "known" xy (kD K)
noncomputable abbrev Ff (P:Program) (w:World) (K:Fg) (mg:Str->Option Value) (base:Heap) (k:Nat):Prop:=FnB P w K mg base k "known_to_all" xC (jJ K)
noncomputable abbrev Fh (P:Program) (w:World) (K:Fg) (mg:Str->Option Value) (base:Heap) (k:Nat):Prop:=FnB P w K mg base k "seen" mJ (yw K)
noncomputable abbrev xL (P:Program) (w:World) (K:Fg) (mg:Str->Option Value) (base:Heap) (k:Nat):Prop:=FnB P w K mg base k "refuse_unless" qE (cM K)
noncomputable abbrev Fi (P:Program) (w:World) (K:Fg) (mg:Str->Option Value) (base:Heap) (k:Nat):Prop:=FnB P w K mg base k "are_cards" on (ng K)
noncomputable abbrev Fj (P:Program) (w:World) (K:Fg) (mg:Str->Option Value) (base:Heap) (k:Nat):Prop:=FnB P w K mg base k "least_held" qD (lV K)
noncomputable abbrev ut (P:Program) (w:World) (K:Fg) (mg:Str->Option Value) (base:Heap) (k:Nat):Prop:=FnB P w K mg base k "_law_cell" xk (bz K)
noncomputable abbrev Fk (P:Program) (w:World) (K:Fg) (mg:Str->Option Value) (base:Heap) (k:Nat):Prop:=FnB P w K mg base k "_law_product" xH (gW K)
noncomputable abbrev Fl (P:Program) (w:World) (K:Fg) (mg:Str->Option Value) (base:Heap) (k:Nat):Prop:=FnB P w K mg base k "_law_count" xo (i5 K)
noncomputable abbrev Fm (P:Program) (w:World) (K:Fg) (mg:Str->Option Value) (base:Heap) (k:Nat):Prop:=FnB P w K mg base k "_law_pack" xi (mY K)
noncomputable abbrev AV (P:Program) (w:World) (K:Fg) (mg:Str->Option Value) (base:Heap) (k:Nat):Prop:=FnB P w K mg base k "_law_least" xG (gB K)
noncomputable abbrev Fn (P:Program) (w:World) (K:Fg) (mg:Str->Option Value) (base:Heap) (k:Nat):Prop:=FnB P w K mg base k "_law_wholes" oy (ku K)
noncomputable abbrev Fo (P:Program) (w:World) (K:Fg) (mg:Str->Option Value) (base:Heap) (k:Nat):Prop:=FnB P w K mg base k "_law_truths_told" mH (cG K)
noncomputable abbrev AW (P:Program) (w:World) (K:Fg) (mg:Str->Option Value) (base:Heap) (k:Nat):Prop:=FnB P w K mg base k "_law_group" ol (fh K)
noncomputable abbrev Fp (P:Program) (w:World) (K:Fg) (mg:Str->Option Value) (base:Heap) (k:Nat):Prop:=FnB P w K mg base k "_law_pool" xf (m9 K)
noncomputable abbrev JN (P:Program) (w:World) (K:Fg) (mg:Str->Option Value) (base:Heap) (k:Nat):Prop:=FnB P w K mg base k "_law_words" um (fi K 70)
noncomputable abbrev Fq (P:Program) (w:World) (K:Fg) (mg:Str->Option Value) (base:Heap) (k:Nat):Prop:=FnB P w K mg base k "_law_saying" xc (kF K)
noncomputable abbrev AX (P:Program) (w:World) (K:Fg) (mg:Str->Option Value) (base:Heap) (k:Nat):Prop:=FnB P w K mg base k "_law_kept" xm (jU K)
noncomputable abbrev AY (P:Program) (w:World) (K:Fg) (mg:Str->Option Value) (base:Heap) (k:Nat):Prop:=FnB P w K mg base k "_law_each" oS (jV K)
noncomputable abbrev Fr (P:Program) (w:World) (K:Fg) (mg:Str->Option Value) (base:Heap) (k:Nat):Prop:=FnB P w K mg base k "_law_shared" oS (kJ K)
noncomputable abbrev Fs (P:Program) (w:World) (K:Fg) (mg:Str->Option Value) (base:Heap) (k:Nat):Prop:=FnB P w K mg base k "_law_sighted" xg (jW K)
noncomputable abbrev Ft (P:Program) (w:World) (K:Fg) (mg:Str->Option Value) (base:Heap) (G:GF) (k:Nat):Prop:=FnB P w K mg base k "_law_viewed" xp (fU K G)
noncomputable abbrev Fu (P:Program) (w:World) (K:Fg) (mg:Str->Option Value) (base:Heap) (G:GF) (k:Nat):Prop:=FnB P w K mg base k "_law_show_on" xa (jX K G)
noncomputable abbrev JO (P:Program) (w:World) (K:Fg) (mg:Str->Option Value) (base:Heap) (k:Nat):Prop:=FnB P w K mg base k "_law_read" ug (dg K 35)
noncomputable abbrev JP (P:Program) (w:World) (K:Fg) (mg:Str->Option Value) (base:Heap) (k:Nat):Prop:=FnB P w K mg base k "truths_of" ul (cj K 35)
noncomputable abbrev Jh (P:Program) (w:World) (K:Fg) (mg:Str->Option Value) (base:Heap) (G:GF) (k:Nat):Prop:=FnM P w K mg base k G.Table "view" ow (lW K G)
noncomputable abbrev Ji (P:Program) (w:World) (K:Fg) (mg:Str->Option Value) (base:Heap) (G:GF) (k:Nat):Prop:=FnM P w K mg base k G.Table "show" xl (lY K G)
noncomputable abbrev Jj (P:Program) (w:World) (K:Fg) (mg:Str->Option Value) (base:Heap) (G:GF) (k:Nat):Prop:=FnM P w K mg base k G.Table "deals" ["self"] (kI K G)
noncomputable abbrev Fv (P:Program) (w:World) (K:Fg) (mg:Str->Option Value) (base:Heap) (G:GF) (k:Nat):Prop:=FnM P w K mg base k G.Table "truths" ox (dX K G)
noncomputable abbrev Jk (P:Program) (w:World) (K:Fg) (mg:Str->Option Value) (base:Heap) (G:GF) (k:Nat):Prop:=FnM P w K mg base k G.Table "word" mI (lX K G)
noncomputable abbrev Fw (P:Program) (w:World) (K:Fg) (mg:Str->Option Value) (base:Heap) (G:GF) (k:Nat):Prop:=FnM P w K mg base k G.Table "learn" xn (iD K G)
seal L2.PE L2.PA L2.PS L2.PSs L2.PT L2.PW L2.PI L2.PG L2.PGs L2.PO L2.PTL L2.OpR L2.UnR L2.cU L2.SlR L2.IxR L2.DV
noncomputable def top (i:Nat):Stmt:=PySem.Challenge.pw_knowcards_k33_words_learned.main.body.getD i (.Pass ⟨0,0,0,0⟩)
noncomputable abbrev jY:Stmt:=top 8
theorem C4:aA qF qF (ab jY):=by walk_at "w"
theorem sQ:ah qF (ab jY) 0 "thing":=by walk_at "v"
noncomputable abbrev fJ:Stmt:=top 9
theorem Ck:aA mG mG (ab fJ):=by walk_at "w"
theorem qN:ah mG (ab fJ) 0 "thing":=by walk_at "v"
theorem zU:ah mG (ab fJ) 1 "least":=by walk_at "v"
theorem zV:ah mG (ab fJ) 2 "most":=by walk_at "v"
noncomputable abbrev iH:Stmt:=top 10
theorem C5:aA om om (ab iH):=by walk_at "w"
theorem Cl:ah om (ab iH) 0 "thing":=by walk_at "v"
theorem Cm:ah om (ab iH) 1 "bound":=by walk_at "v"
noncomputable abbrev ek:Stmt:=top 11
theorem jZ:aA xu xB (ab ek):=by walk_at "w"
theorem qO:ah xu (ab ek) 0 "thing":=by walk_at "v"
theorem zW:ah xu (ab ek) 1 "hands":=by walk_at "v"
theorem zX:ah xu (ab ek) 2 "least":=by walk_at "v"
theorem qP:ah xu (ab ek) 3 "hand":=by walk_at "v"
noncomputable abbrev ie:Stmt:=top 16
theorem Fx:aA d8 d8 (ab ie):=by walk_at "w"
theorem uT:ah d8 (ab ie) 0 "cards":=by walk_at "v"
theorem lA:ah d8 (ab ie) 1 "sizes":=by walk_at "v"
noncomputable abbrev ee:Stmt:=top 17
theorem gQ:aA uj d8 (ab ee):=by walk_at "w"
theorem sR:ah uj (ab ee) 0 "cards":=by walk_at "v"
theorem sT:ah uj (ab ee) 1 "sizes":=by walk_at "v"
theorem sV:ah uj (ab ee) 2 "many":=by walk_at "v"
theorem sX:ah uj (ab ee) 3 "left":=by walk_at "v"
theorem sY:ah uj (ab ee) 4 "size":=by walk_at "v"
noncomputable abbrev gd:Stmt:=top 18
theorem mK:aA xw xD (ab gd):=by walk_at "w"
theorem C6:ah xw (ab gd) 0 "many":=by walk_at "v"
theorem C7:ah xw (ab gd) 1 "taken":=by walk_at "v"
theorem uU:ah xw (ab gd) 2 "ways":=by walk_at "v"
theorem uV:ah xw (ab gd) 3 "step":=by walk_at "v"
noncomputable abbrev fC:Stmt:=top 19
theorem iZ:aA xj d8 (ab fC):=by walk_at "w"
theorem nv:ah xj (ab fC) 0 "cards":=by walk_at "v"
theorem ny:ah xj (ab fC) 1 "sizes":=by walk_at "v"
theorem Cn:ah xj (ab fC) 2 "room":=by walk_at "v"
theorem sZ:ah xj (ab fC) 3 "begun":=by walk_at "v"
noncomputable abbrev bS:Stmt:=top 20
theorem eQ:aA qA xE (ab bS):=by walk_at "w"
theorem uA:ah qA (ab bS) 0 "begun":=by walk_at "v"
theorem uB:ah qA (ab bS) 1 "room":=by walk_at "v"
theorem mi:ah qA (ab bS) 2 "longer":=by walk_at "v"
theorem mj:ah qA (ab bS) 3 "deal":=by walk_at "v"
theorem mn:ah qA (ab bS) 4 "who":=by walk_at "v"
theorem uC:ah qA (ab bS) 5 "most":=by walk_at "v"
noncomputable abbrev iI:Stmt:=top 21
theorem C8:aA oq oq (ab iI):=by walk_at "w"
theorem Co:ah oq (ab iI) 0 "deal":=by walk_at "v"
noncomputable abbrev cW:Stmt:=top 25
theorem ig:aA qB lz (ab cW):=by walk_at "w"
theorem zY:ah qB (ab cW) 0 "cards":=by walk_at "v"
theorem zZ:ah qB (ab cW) 1 "hands":=by walk_at "v"
theorem Aa:ah qB (ab cW) 2 "thing":=by walk_at "v"
theorem qQ:ah qB (ab cW) 3 "words":=by walk_at "v"
theorem jf:ah qB (ab cW) 4 "level":=by walk_at "v"
noncomputable abbrev ii:Stmt:=top 26
theorem xM:aA AJ lz (ab ii):=by walk_at "w"
theorem fK:ah AJ (ab ii) 2 "thing":=by walk_at "v"
theorem uW:ah AJ (ab ii) 3 "form":=by walk_at "v"
noncomputable abbrev lJ:Stmt:=top 27
theorem KO:aA ly ly (ab lJ):=by walk_at "w"
theorem Jl:ah ly (ab lJ) 0 "cards":=by walk_at "v"
theorem vE:ah ly (ab lJ) 1 "hands":=by walk_at "v"
theorem qG:ah ly (ab lJ) 2 "place":=by walk_at "v"
theorem qH:ah ly (ab lJ) 3 "part":=by walk_at "v"
noncomputable abbrev gu:Stmt:=top 28
theorem uX:aA AR xJ (ab gu):=by walk_at "w"
theorem tj:ah AR (ab gu) 0 "saying":=by walk_at "v"
theorem Cp:ah AR (ab gu) 1 "form":=by walk_at "v"
noncomputable abbrev dD:Stmt:=top 29
theorem j0:aA AO xI (ab dD):=by walk_at "w"
theorem vF:ah AO (ab dD) 0 "sayings":=by walk_at "v"
theorem nA:ah AO (ab dD) 1 "parts":=by walk_at "v"
theorem vG:ah AO (ab dD) 2 "saying":=by walk_at "v"
noncomputable abbrev fX:Stmt:=top 31
theorem Ab:aA oo oo (ab fX):=by walk_at "w"
theorem yL:ah oo (ab fX) 0 "deals":=by walk_at "v"
noncomputable abbrev mP:Stmt:=top 32
theorem Jm:aA ou ou (ab mP):=by walk_at "w"
theorem Ha:ah ou (ab mP) 0 "view":=by walk_at "v"
theorem Hb:ah ou (ab mP) 1 "values":=by walk_at "v"
noncomputable abbrev bM:Stmt:=top 33
theorem fD:aA uk ["marks"] (ab bM):=by walk_at "w"
theorem kg:ah uk (ab bM) 0 "marks":=by walk_at "v"
theorem rl:ah uk (ab bM) 1 "firsts":=by walk_at "v"
theorem rn:ah uk (ab bM) 2 "thing":=by walk_at "v"
theorem rq:ah uk (ab bM) 3 "mark":=by walk_at "v"
noncomputable abbrev eR:Stmt:=top 34
theorem lK:aA oj xF (ab eR):=by walk_at "w"
theorem xN:ah oj (ab eR) 0 "many":=by walk_at "v"
theorem Fy:ah oj (ab eR) 1 "views":=by walk_at "v"
theorem Fz:ah oj (ab eR) 2 "points":=by walk_at "v"
theorem FA:ah oj (ab eR) 3 "view":=by walk_at "v"
theorem FB:ah oj (ab eR) 4 "thing":=by walk_at "v"
theorem FC:ah oj (ab eR) 5 "least":=by walk_at "v"
noncomputable abbrev j3:Stmt:=top 35
theorem yM:aA ui xr (ab j3):=by walk_at "w"
theorem vH:ah ui (ab j3) 0 "points":=by walk_at "v"
theorem Jn:ah ui (ab j3) 1 "one":=by walk_at "v"
theorem Jo:ah ui (ab j3) 2 "other":=by walk_at "v"
theorem Cq:ah ui (ab j3) 3 "first":=by walk_at "v"
theorem Cr:ah ui (ab j3) 4 "second":=by walk_at "v"
noncomputable abbrev jq:Stmt:=top 36
theorem tm:aA AQ xz (ab jq):=by walk_at "w"
theorem j4:ah AQ (ab jq) 0 "points":=by walk_at "v"
theorem FD:ah AQ (ab jq) 1 "thing":=by walk_at "v"
theorem iJ:ah AQ (ab jq) 2 "end":=by walk_at "v"
noncomputable abbrev bT:Stmt:=top 38
theorem ij:aA nu ul (ab bT):=by walk_at "w"
theorem cK:ah nu (ab bT) 0 "deals":=by walk_at "v"
theorem dn:ah nu (ab bT) 1 "views":=by walk_at "v"
theorem cr:ah nu (ab bT) 2 "S":=by walk_at "v"
theorem d3:ah nu (ab bT) 3 "word":=by walk_at "v"
theorem mh:ah nu (ab bT) 4 "inner":=by walk_at "v"
theorem qR:ah nu (ab bT) 5 "some":=by walk_at "v"
noncomputable abbrev nC:Stmt:=top 39
theorem KP:aA eZ eZ (ab nC):=by walk_at "w"
theorem Jp:ah eZ (ab nC) 0 "ones":=by walk_at "v"
theorem Jq:ah eZ (ab nC) 1 "others":=by walk_at "v"
noncomputable abbrev jr:Stmt:=top 40
theorem Hc:aA eZ eZ (ab jr):=by walk_at "w"
theorem FE:ah eZ (ab jr) 0 "ones":=by walk_at "v"
theorem FF:ah eZ (ab jr) 1 "others":=by walk_at "v"
noncomputable abbrev gR:Stmt:=top 41
theorem qI:aA qC xy (ab gR):=by walk_at "w"
theorem tq:ah qC (ab gR) 0 "view":=by walk_at "v"
theorem Hd:ah qC (ab gR) 1 "truths":=by walk_at "v"
theorem He:ah qC (ab gR) 2 "sure":=by walk_at "v"
theorem Hf:ah qC (ab gR) 3 "least":=by walk_at "v"
theorem Hg:ah qC (ab gR) 4 "truth":=by walk_at "v"
noncomputable abbrev cT:Stmt:=top 42
theorem gY:aA xq xC (ab cT):=by walk_at "w"
theorem vI:ah xq (ab cT) 0 "views":=by walk_at "v"
theorem nD:ah xq (ab cT) 1 "truths":=by walk_at "v"
theorem nE:ah xq (ab cT) 2 "answers":=by walk_at "v"
theorem vJ:ah xq (ab cT) 3 "view":=by walk_at "v"
noncomputable abbrev nG:Stmt:=top 43
theorem KQ:aA mJ mJ (ab nG):=by walk_at "w"
theorem Jr:ah mJ (ab nG) 0 "piles":=by walk_at "v"
theorem Cs:ah mJ (ab nG) 1 "view":=by walk_at "v"
noncomputable abbrev fE:Stmt:=top 46
theorem vK:aA qE qE (ab fE):=by walk_at "w"
theorem uD:ah qE (ab fE) 0 "fit":=by walk_at "v"
noncomputable abbrev gS:Stmt:=top 47
theorem Ct:aA on on (ab gS):=by walk_at "w"
theorem qS:ah on (ab gS) 0 "thing":=by walk_at "v"
noncomputable abbrev dQ:Stmt:=top 48
theorem qT:aA xt qD (ab dQ):=by walk_at "w"
theorem yN:ah xt (ab dQ) 0 "deal":=by walk_at "v"
theorem yO:ah xt (ab dQ) 1 "holder":=by walk_at "v"
theorem yP:ah xt (ab dQ) 2 "rising":=by walk_at "v"
theorem pA:ah xt (ab dQ) 3 "card":=by walk_at "v"
noncomputable abbrev fL:Stmt:=top 50
theorem j5:aA AL xk (ab fL):=by walk_at "w"
theorem gE:ah AL (ab fL) 0 "_law_script":=by walk_at "v"
theorem fj:ah AL (ab fL) 1 "_law_k":=by walk_at "v"
theorem jg:ah AL (ab fL) 2 "_law_number":=by walk_at "v"
noncomputable abbrev dE:Stmt:=top 51
theorem gZ:aA AM xH (ab dE):=by walk_at "w"
theorem vL:ah AM (ab dE) 0 "_law_many":=by walk_at "v"
theorem nH:ah AM (ab dE) 1 "_law_found":=by walk_at "v"
theorem vM:ah AM (ab dE) 2 "_law_k":=by walk_at "v"
noncomputable abbrev dR:Stmt:=top 52
theorem jh:aA xh xo (ab dR):=by walk_at "w"
theorem pB:ah xh (ab dR) 0 "_law_cards":=by walk_at "v"
theorem pD:ah xh (ab dR) 1 "_law_sizes":=by walk_at "v"
theorem pE:ah xh (ab dR) 2 "_law_found":=by walk_at "v"
theorem yQ:ah xh (ab dR) 3 "_law_many":=by walk_at "v"
noncomputable abbrev cX:Stmt:=top 53
theorem fY:aA vD xi (ab cX):=by walk_at "w"
theorem gF:ah vD (ab cX) 0 "_law_script":=by walk_at "v"
theorem gG:ah vD (ab cX) 1 "_law_at":=by walk_at "v"
theorem Ac:ah vD (ab cX) 2 "_law_most":=by walk_at "v"
theorem gH:ah vD (ab cX) 3 "_law_cards":=by walk_at "v"
theorem cu:ah vD (ab cX) 4 "_law_sizes":=by walk_at "v"
theorem Ad:ah vD (ab cX) 5 "_law_k":=by walk_at "v"
noncomputable abbrev dh:Stmt:=top 54
theorem gI:aA t9 xG (ab dh):=by walk_at "w"
theorem yR:ah t9 (ab dh) 0 "_law_signs":=by walk_at "v"
theorem kK:ah t9 (ab dh) 1 "_law_first":=by walk_at "v"
theorem pF:ah t9 (ab dh) 2 "_law_found":=by walk_at "v"
theorem yS:ah t9 (ab dh) 3 "_law_place":=by walk_at "v"
theorem kL:ah t9 (ab dh) 4 "_law_sign":=by walk_at "v"
noncomputable abbrev fk:Stmt:=top 55
theorem yT:aA oy oy (ab fk):=by walk_at "w"
theorem oz:ah oy (ab fk) 0 "_law_found":=by walk_at "v"
noncomputable abbrev cn:Stmt:=top 56
theorem rA:aA mH mH (ab cn):=by walk_at "w"
theorem gx:ah mH (ab cn) 0 "_law_found":=by walk_at "v"
theorem qJ:ah mH (ab cn) 1 "_law_due":=by walk_at "v"
noncomputable abbrev eV:Stmt:=top 57
theorem gJ:aA AK um (ab eV):=by walk_at "w"
theorem yU:ah AK (ab eV) 0 "_law_saying_here":=by walk_at "v"
theorem pG:ah AK (ab eV) 1 "_law_found":=by walk_at "v"
theorem iK:ah AK (ab eV) 2 "_law_part":=by walk_at "v"
noncomputable abbrev fZ:Stmt:=top 58
theorem Ae:aA ol ol (ab fZ):=by walk_at "w"
theorem yV:ah ol (ab fZ) 1 "_law_hands":=by walk_at "v"
noncomputable abbrev cI:Stmt:=top 59
theorem j6:aA sH xf (ab cI):=by walk_at "w"
theorem qU:ah sH (ab cI) 0 "_law_script":=by walk_at "v"
theorem qV:ah sH (ab cI) 1 "_law_at":=by walk_at "v"
theorem qW:ah sH (ab cI) 2 "_law_cards":=by walk_at "v"
theorem qX:ah sH (ab cI) 3 "_law_hands":=by walk_at "v"
theorem qY:ah sH (ab cI) 4 "_law_pool_here":=by walk_at "v"
theorem Af:ah sH (ab cI) 5 "_law_k":=by walk_at "v"
theorem qZ:ah sH (ab cI) 6 "_law_cell_here":=by walk_at "v"
noncomputable abbrev bw:Stmt:=top 60
theorem bP:aA md xc (ab bw):=by walk_at "w"
theorem j7:ah md (ab bw) 0 "_law_script":=by walk_at "v"
theorem j8:ah md (ab bw) 1 "_law_at":=by walk_at "v"
theorem xO:ah md (ab bw) 2 "_law_cards":=by walk_at "v"
theorem cC:ah md (ab bw) 3 "_law_hands":=by walk_at "v"
theorem xP:ah md (ab bw) 4 "_law_most":=by walk_at "v"
theorem fF:ah md (ab bw) 5 "_law_pool_here":=by walk_at "v"
theorem xQ:ah md (ab bw) 6 "_law_k":=by walk_at "v"
theorem bU:ah md (ab bw) 7 "_law_cell_here":=by walk_at "v"
theorem cf:ah md (ab bw) 8 "_law_one":=by walk_at "v"
theorem dj:ah md (ab bw) 9 "_law_other":=by walk_at "v"
theorem dF:ah md (ab bw) 10 "_law_some":=by walk_at "v"
noncomputable abbrev cY:Stmt:=top 61
theorem j9:aA qz xm (ab cY):=by walk_at "w"
theorem rc:ah qz (ab cY) 0 "_law_view":=by walk_at "v"
theorem Ag:ah qz (ab cY) 1 "_law_truths":=by walk_at "v"
theorem Ah:ah qz (ab cY) 2 "_law_lacks":=by walk_at "v"
theorem Ai:ah qz (ab cY) 3 "_law_place":=by walk_at "v"
theorem Aj:ah qz (ab cY) 4 "_law_truth":=by walk_at "v"
noncomputable abbrev cJ:Stmt:=top 62
theorem ka:aA sL oS (ab cJ):=by walk_at "w"
theorem Ak:ah sL (ab cJ) 0 "_law_views":=by walk_at "v"
theorem Al:ah sL (ab cJ) 1 "_law_group_here":=by walk_at "v"
theorem re:ah sL (ab cJ) 2 "_law_truths":=by walk_at "v"
theorem rf:ah sL (ab cJ) 3 "_law_found":=by walk_at "v"
theorem Am:ah sL (ab cJ) 4 "_law_hand":=by walk_at "v"
noncomputable abbrev cv:Stmt:=top 63
theorem iL:aA qy oS (ab cv):=by walk_at "w"
theorem xR:ah qy (ab cv) 0 "_law_views":=by walk_at "v"
theorem xS:ah qy (ab cv) 1 "_law_group_here":=by walk_at "v"
theorem xT:ah qy (ab cv) 2 "_law_truths":=by walk_at "v"
theorem g0:ah qy (ab cv) 3 "_law_found":=by walk_at "v"
theorem oB:ah qy (ab cv) 4 "_law_more":=by walk_at "v"
noncomputable abbrev bJ:Stmt:=top 64
theorem fG:aA qx xg (ab bJ):=by walk_at "w"
theorem vN:ah qx (ab bJ) 0 "_law_deals":=by walk_at "v"
theorem nI:ah qx (ab bJ) 1 "_law_view":=by walk_at "v"
theorem nJ:ah qx (ab bJ) 3 "_law_piles":=by walk_at "v"
theorem vO:ah qx (ab bJ) 4 "_law_lacks":=by walk_at "v"
theorem vP:ah qx (ab bJ) 5 "_law_place":=by walk_at "v"
theorem nK:ah qx (ab bJ) 6 "_law_least_here":=by walk_at "v"
noncomputable abbrev b9:Stmt:=top 65
theorem kb:aA oR ug (ab b9):=by walk_at "w"
theorem ji:ah oR (ab b9) 0 "_law_deals":=by walk_at "v"
theorem d4:ah oR (ab b9) 1 "_law_views":=by walk_at "v"
theorem bK:ah oR (ab b9) 2 "_law_saying_here":=by walk_at "v"
theorem fm:ah oR (ab b9) 3 "_law_below":=by walk_at "v"
theorem rg:ah oR (ab b9) 4 "_law_ahead":=by walk_at "v"
noncomputable abbrev cL:Stmt:=top 66
theorem iM:aA uf xp (ab cL):=by walk_at "w"
theorem xU:ah uf (ab cL) 0 "_law_table":=by walk_at "v"
theorem xV:ah uf (ab cL) 1 "_law_views":=by walk_at "v"
theorem xW:ah uf (ab cL) 2 "_law_hand":=by walk_at "v"
theorem xX:ah uf (ab cL) 3 "_law_view":=by walk_at "v"
theorem kd:ah uf (ab cL) 4 "_law_seen":=by walk_at "v"
noncomputable abbrev bv:Stmt:=top 67
theorem fH:aA np xa (ab bv):=by walk_at "w"
theorem vQ:ah np (ab bv) 0 "_law_table":=by walk_at "v"
theorem js:ah np (ab bv) 1 "_law_deals":=by walk_at "v"
theorem vR:ah np (ab bv) 2 "_law_views":=by walk_at "v"
theorem ju:ah np (ab bv) 3 "_law_number":=by walk_at "v"
theorem nL:ah np (ab bv) 4 "_law_hands":=by walk_at "v"
theorem nM:ah np (ab bv) 5 "_law_hand":=by walk_at "v"
theorem vS:ah np (ab bv) 6 "_law_holder":=by walk_at "v"
theorem vT:ah np (ab bv) 7 "_law_card":=by walk_at "v"
noncomputable abbrev eh:Stmt:=top 68
theorem fI:aA iR uq (ab eh):=by walk_at "w"
theorem kM:ah iR (ab eh) 0 "_law_script":=by walk_at "v"
theorem uu:ah iR (ab eh) 1 "_law_cards":=by walk_at "v"
theorem yW:ah iR (ab eh) 2 "_law_sizes":=by walk_at "v"
theorem uv:ah iR (ab eh) 3 "_law_hands":=by walk_at "v"
theorem kN:ah iR (ab eh) 4 "_law_deals":=by walk_at "v"
theorem iN:ah iR (ab eh) 5 "_law_views":=by walk_at "v"
theorem KR:ah iR (ab eh) 6 "_law_hand":=by walk_at "v"
theorem iO:ah iR (ab eh) 7 "_law_table":=by walk_at "v"
theorem uw:ah iR (ab eh) 8 "_law_k":=by walk_at "v"
theorem kO:ah iR (ab eh) 9 "_law_saying_here":=by walk_at "v"
theorem Cu:ah iR (ab eh) 10 "_law_group_here":=by walk_at "v"
theorem Cv:ah iR (ab eh) 11 "_law_due":=by walk_at "v"
theorem Cw:ah iR (ab eh) 12 "_law_found":=by walk_at "v"
noncomputable abbrev dS:Stmt:=kl (top 45) 0
theorem An:aA jd jd (ab dS):=by walk_at "w"
theorem dG:ah jd (ab dS) 0 "self":=by walk_at "v"
theorem pH:ah jd (ab dS) 1 "cards":=by walk_at "v"
theorem kP:ah jd (ab dS) 2 "sizes":=by walk_at "v"
noncomputable abbrev gK:Stmt:=kl (top 45) 1
theorem yX:aA ["self"] ["self"] (ab gK):=by walk_at "w"
theorem xY:ah ["self"] (ab gK) 0 "self":=by walk_at "v"
noncomputable abbrev ga:Stmt:=kl (top 45) 2
theorem Ao:aA ow ow (ab ga):=by walk_at "w"
theorem pI:ah ow (ab ga) 0 "self":=by walk_at "v"
theorem pJ:ah ow (ab ga) 1 "hand":=by walk_at "v"
noncomputable abbrev eW:Stmt:=kl (top 45) 3
theorem Ap:aA mI mI (ab eW):=by walk_at "w"
theorem kQ:ah mI (ab eW) 0 "self":=by walk_at "v"
theorem pL:ah mI (ab eW) 1 "hands":=by walk_at "v"
theorem yY:ah mI (ab eW) 2 "S":=by walk_at "v"
noncomputable abbrev dk:Stmt:=kl (top 45) 4
theorem rh:aA uh xl (ab dk):=by walk_at "w"
theorem gb:ah uh (ab dk) 0 "self":=by walk_at "v"
theorem pM:ah uh (ab dk) 1 "hand":=by walk_at "v"
theorem yZ:ah uh (ab dk) 2 "holder":=by walk_at "v"
theorem pO:ah uh (ab dk) 3 "some":=by walk_at "v"
noncomputable abbrev em:Stmt:=kl (top 45) 5
theorem xZ:aA ox ox (ab em):=by walk_at "w"
theorem gy:ah ox (ab em) 0 "self":=by walk_at "v"
theorem nN:ah ox (ab em) 1 "S":=by walk_at "v"
noncomputable abbrev dq:Stmt:=kl (top 45) 8
theorem pP:aA xv xn (ab dq):=by walk_at "w"
theorem ke:ah xv (ab dq) 0 "self":=by walk_at "v"
theorem oC:ah xv (ab dq) 1 "hands":=by walk_at "v"
theorem kf:ah xv (ab dq) 2 "values":=by walk_at "v"
theorem oE:ah xv (ab dq) 3 "hand":=by walk_at "v"
section
variable {P:Program} {w:World} {K:Fg} {mg:Str->Option Value} {base:Heap} {f:Addr} {fd:Nr}
theorem C9 (D:Def K mg "is_whole" jY qF f fd) (B:Blt mg):E1 P w K mg base 1:=by
 refine D.ok C4 (by walk_at "l") fun _ _ _ _ _ _ _ _ hr h=>?_
 exact ⟨wt K,(ai (aw (jz (aG db rfl B.isinstance Ol (ad (pvA sQ) (ad (dU (v:=.ty "int") rfl B.int VE rfl) ae))) (g9 (A3 (aG db rfl B.isinstance Ol (ad (pvA sQ) (ad (dU (v:=.ty "bool") rfl B.bool Wa rfl) ae)))))))),CS h⟩
theorem Cy (D:Def K mg "is_within" fJ mG f fd) (B:Blt mg) (U41:E1 P w K mg base 1):Cj P w K mg base 2:=by
 refine D.ok Ck (by walk_at "l") fun _ _ _ _ _ _ _ _ hr h=>?_
 exact ⟨uN K,(ai (aw (jz (ak U41 (rmD hr) (ad (pvA qN) ae)) (g9 (Hq AA AA (pvA zU) (pvA qN) (pvA zV)))))),BA h⟩
theorem Da (D:Def K mg "is_below" iH om f fd) (B:Blt mg) (U32:Cj P w K mg base 2):yK P w K mg base 3:=by
 refine D.ok C5 (by walk_at "l") fun _ _ _ _ _ _ _ _ hr h=>?_
 exact ⟨mC K,(ai (aw (ak U32 (rmD hr) (ad (pvA Cl) (ar ao (aX (ax iU (pvA Cm) ao) ae)))))),CZ h⟩
theorem Cz (D:Def K mg "are_hands" ek xB f fd) (B:Blt mg) (U32:Cj P w K mg base 2):E2 P w K mg base 3:=by
 refine D.ok jZ (by walk_at "l") fun _ _ _ _ _ _ _ _ hr h=>?_
 exact ⟨lh K,(af (bd (bV (bG (aG db rfl B.isinstance Ol (ad (pvA qO) (ad (dU (v:=.ty "tuple") rfl B.tuple QY rfl) ae))))) (ai (aw cg)) aI)
  (af (az (i:=2) jZ.nd rfl (Nb rfl) ao)
  (af (bL ND rfl (oT (pvA qO)) (aq (i:=3) jZ.nd rfl (Nb rfl)) (af (bd (bV (bG (ak U32 (rmD hr) (ad (pvA qP) (ad (pvA zX) (aX (ax iU (pvA zW) ao) ae)))))) (ai (aw cg)) aI)
  (ai (az (i:=2) jZ.nd rfl (Nb rfl) (ax bN (pvA qP) ao)))))
  (ai (aw cg))))),BK h⟩
theorem FG (D:Def K mg "is_pack" ie d8 f fd) (B:Blt mg) {t_MOST_CARDS:Tok} (m_MOST_CARDS:mg "MOST_CARDS"=some (.int 12 t_MOST_CARDS)) {t_MOST_HANDS:Tok} (m_MOST_HANDS:mg "MOST_HANDS"=some (.int 5 t_MOST_HANDS)) (U32:Cj P w K mg base 2):Jd P w K mg base 3:=by
 refine D.ok Fx (by walk_at "l") fun _ _ _ _ _ _ _ _ hr h=>?_
 exact ⟨zv K,(af (bd (bV (bG (ak U32 (rmD hr) (ad (pvA uT) (ar ao (ad (ki (v:=(.int 12)) rfl m_MOST_CARDS ⟨_,rfl⟩) ae)))))) (ai (aw cg)) aI)
  (af (bd (PW.pt (mq (bV (bG (aG db rfl B.isinstance Ol (ad (pvA lA) (ad (dU (v:=.ty "list") rfl B.list Qb rfl) ae))))) (jy (bV (bG (ak U32 (rmD hr) (aZ (aG bj rfl B.len OW (ad (pvA lA) ae)) (ar ao (ad (ki (v:=(.int 5)) rfl m_MOST_HANDS ⟨_,rfl⟩) ae))))))))) (ai (aw cg)) aI)
  (ai (aw (jz (aG (nP rfl) rfl B.all VF (bE (bo (sc:=(ab ie)) (NX:=d8) (N:=["size","cards"]) (ix:=[none,some 0]) rfl (by walk_at "c") (bC (pvA lA)) (by intros; exact (aq (i:=0) (show (["size","cards"]:List Str).Nodup by decide +kernel) rfl (Nb rfl))) (by intros; exact bq) (by intros; exact (ak U32 (rmD hr) (ad (pv 0) (ar ao (ad (pv 1) ae)))))) ae)) (g9 (ff AA (aG (lB rfl) rfl B.sum Ud (ad (pvA lA) ae)) (pvA uT) (aO _)))))))),Ew h⟩
theorem Db (D:Def K mg "how_many" ee d8 f fd) (B:Blt mg) (U44:Je P w K mg base 1) (U45:Jd P w K mg base 3):Jf P w K mg base 4:=by
 refine D.ok gQ (by walk_at "l") fun _ _ _ _ _ _ _ _ hr h=>?_
 exact ⟨wv K,(af (bd (bV (bG (ak U45 (rmD hr) (ad (pvA sR) (ad (pvA sT) ae))))) (ai pR) aI)
  (af (az (i:=2) gQ.nd rfl (Nb rfl) ao)
  (af (az (i:=3) gQ.nd rfl (Nb rfl) (pvA sR))
  (af (bL ND rfl (bC (pvA sT)) (aq (i:=4) gQ.nd rfl (Nb rfl)) (af (az (i:=2) gQ.nd rfl (Nb rfl) (ax fR (pvA sV) (ak U44 (rmD hr) (ad (pvA sX) (ad (pvA sY) ae)))))
  (ai (az (i:=3) gQ.nd rfl (Nb rfl) (ax iU (pvA sX) (pvA sY))))))
  (ai (aw (pvA sV))))))),CT h⟩
theorem FH (D:Def K mg "choices" gd xD f fd) (B:Blt mg):Je P w K mg base 1:=by
 refine D.ok mK (by walk_at "l") fun _ _ _ _ _ _ _ _ hr h=>?_
 exact ⟨zw K,(af (az (i:=2) mK.nd rfl (Nb rfl) ao)
  (af (bL ND rfl (cN rfl B.range (ad (pvA C7) ae)) (aq (i:=3) mK.nd rfl (Nb rfl)) (ai (az (i:=2) mK.nd rfl (Nb rfl) (ax cD (ax fR (pvA uU) (ax iU (pvA C6) (pvA uV))) (ax bN (pvA uV) ao)))))
  (ai (aw (pvA uU))))),Ex h⟩
theorem Dc (D:Def K mg "deals_of" fC d8 f fd) (B:Blt mg) {t_MOST_DEALS:Tok} (m_MOST_DEALS:mg "MOST_DEALS"=some (.int 2000 t_MOST_DEALS)) (U39:Jf P w K mg base 4) (U2:Jg P w K mg base 1):E3 P w K mg base 5:=by
 refine D.ok iZ (by walk_at "l") fun _ _ _ _ _ _ _ _ hr h=>?_
 exact ⟨ww K,(af (bd (aP nO (ak U39 (rmD hr) (ad (pvA nv) (ad (pvA ny) ae))) (ki (v:=(.int 2000)) rfl m_MOST_DEALS ⟨_,rfl⟩) (aO _)) (ai pR) aI)
  (af (az (i:=2) iZ.nd rfl (Nb rfl) (ax F1 (pvA ny) (A9 (aX (ax iU (pvA nv) (aG (lB rfl) rfl B.sum Ud (ad (pvA ny) ae))) ae))))
  (af (az (i:=3) iZ.nd rfl (Nb rfl) (A9 (bF (FU ae) ae)))
  (af (bL ND rfl (cN rfl B.range (ad (pvA nv) ae)) (aq (i:=4) iZ.nd rfl (Nb rfl)) (ai (az (i:=3) iZ.nd rfl (Nb rfl) (ak U2 (rmD hr) (ad (pvA sZ) (ad (pvA Cn) ae))))))
  (ai (aw (pvA sZ))))))),CU h⟩
theorem vU (D:Def K mg "with_one_more" bS xE f fd) (B:Blt mg):Jg P w K mg base 1:=by
 refine D.ok eQ (by walk_at "l") fun _ _ _ _ _ _ _ _ hr h=>?_
 exact ⟨nX K,(af (az (i:=2) eQ.nd rfl (Nb rfl) (A9 ae))
  (af (bL ND rfl (bC (pvA uA)) (aq (i:=3) eQ.nd rfl (Nb rfl)) (ai (bL ND rfl (gN aR rfl B.enumerate (by decide) (ad (pvA uB) ae)) (cH rfl (aN (aq (i:=4) eQ.nd rfl (Nb rfl)) (aN (aq (i:=5) eQ.nd rfl (Nb rfl)) b8))) (ai (bd (aP Jw (Mh PySem.F.plainAttrs_tuple SU PySem.F.type_tuple_count Gc (pvA mj) (ad (pvA mn) ae)) (pvA uC) (aO _)) (ai (cx (mw N6 OP OQ gc (pvA mi) (aX (ax J5 (pvA mj) (FU (ad (pvA mn) ae))) ae)))) aI)))))
  (ai (aw (pvA mi))))),vo h⟩
theorem Dd (D:Def K mg "cards_of" iI oq f fd) (B:Blt mg):E4 P w K mg base 1:=by
 refine D.ok C8 (by walk_at "l") fun _ _ _ _ _ _ _ _ hr h=>?_
 exact ⟨wx K,(ai (aw (cO qK rfl B.tuple QY (bE (bo (sc:=(ab iI)) (NX:=oq) (N:=EZ) (ix:=[none,none,some 1]) rfl (by walk_at "c") (gN eD rfl B.enumerate (by decide) (ad (pvA Co) ae)) (by intros; exact (cH rfl (aN (aq (i:=0) (show (EZ:List Str).Nodup by decide +kernel) rfl (Nb rfl)) (aN (aq (i:=1) (show (EZ:List Str).Nodup by decide +kernel) rfl (Nb rfl)) b8)))) (by intros; exact (kn (aP bY (pv 1) (pv 2) (aO _)))) (by intros; exact (pv 0))) ae)))),CV h⟩
theorem CA (D:Def K mg "is_saying" cW lz f fd) (B:Blt mg) {t_MOST_WORDS:Tok} (m_MOST_WORDS:mg "MOST_WORDS"=some (.int 30 t_MOST_WORDS)) (U41:E1 P w K mg base 1) (U43:E5 P w K mg base 5) (U8:E6 P w K mg base 2):E7 P w K mg base 6:=by
 refine D.ok ig (by walk_at "l") fun _ _ _ _ _ _ _ _ hr h=>?_
 exact ⟨li K,(af (bd (PW.pt (mq (bV (bG (ak U41 (rmD hr) (ad (pvA zY) ae)))) (jy (bV (bG (ak U41 (rmD hr) (ad (pvA zZ) ae))))))) (ai (aw cg)) aI)
  (af (az (i:=3) ig.nd rfl (Nb rfl) ao)
  (af (az (i:=4) ig.nd rfl (Nb rfl) (cy (ad (pvA Aa) ae)))
  (af (pT ND (aP nO (aG bj rfl B.len OW (ad (pvA jf) ae)) ao (aO _)) (af (az (i:=3) ig.nd rfl (Nb rfl) (ax bN (pvA qQ) (aG bj rfl B.len OW (ad (pvA jf) ae))))
  (af (bd (PW.pt (mq (aP nO (pvA qQ) (ki (v:=(.int 30)) rfl m_MOST_WORDS ⟨_,rfl⟩) (aO _)) (jy (bV (bG (aG (nP rfl) rfl B.all VF (bE (bo (sc:=(ab cW)) (NX:=qB) (N:=["one","cards","hands"]) (ix:=[none,some 0,some 1]) rfl (by walk_at "c") (bC (pvA jf)) (by intros; exact (aq (i:=0) (show (["one","cards","hands"]:List Str).Nodup by decide +kernel) rfl (Nb rfl))) (by intros; exact bq) (by intros; exact (ak U43 (rmD hr) (ad (pv 1) (ad (pv 2) (ad (pv 0) ae)))))) ae))))))) (ai (aw cg)) aI)
  (ai (az (i:=4) ig.nd rfl (Nb rfl) (ak U8 (rmD hr) (ad (pvA jf) ae)))))))
  (ai (aw cg)))))),BM h⟩
theorem FI (D:Def K mg "is_word" ii lz f fd) (B:Blt mg) {G:GF} (T:fw P w K mg G) (U54:E8 P w K mg base 4):E5 P w K mg base 5:=by
 refine D.ok xM (by walk_at "l") fun _ _ _ _ _ _ _ _ hr h=>?_
 have m_FORMS:=T.tb.mf
 have d_FORMS:=T.tb.df
 exact ⟨n9 K G.toGlo,(af (bd (PW.pt (mq (bV (bG (aG db rfl B.isinstance Ol (ad (pvA fK) (ad (dU (v:=.ty "tuple") rfl B.tuple QY rfl) ae))))) (jy (aP bY (aG bj rfl B.len OW (ad (pvA fK) ae)) ao (aO _))))) (ai (aw cg)) aI)
  (af (bd (PW.pt (mq (bV (bG (aG db rfl B.isinstance Ol (aE (aM bt (pvA fK) ao (fun _ _=>rfl)) (ad (dU (v:=.ty "str") rfl B.str boot_str rfl) ae))))) (jy (aP (BP d_FORMS) (aM bt (pvA fK) ao (fun _ _=>rfl)) (ki (v:=(.ref G.forms)) rfl m_FORMS rfl) rfl)))) (ai (aw cg)) aI)
  (af (az (i:=3) xM.nd rfl (Nb rfl) (GN d_FORMS (ki (v:=(.ref G.forms)) rfl m_FORMS rfl) (aM bt (pvA fK) ao (fun _ _=>rfl)) (fun _ _=>rfl)))
  (af (bd (aP Jv (aG bj rfl B.len OW (ad (pvA fK) ae)) (ax bN ao (aG bj rfl B.len OW (ad (pvA uW) ae))) (aO _)) (ai (aw cg)) aI)
  (ai (aw (aG (nP rfl) rfl B.all VF (bE (bo (sc:=(ab ii)) (NX:=AJ) (N:=EV) (ix:=[none,none,some 0,some 1]) rfl (by walk_at "c") (iV eD eD rfl B.zip (ad (pvA uW) (aE (vd BO (pvA fK) (yj ao) yi) ae))) (by intros; exact (cH rfl (aN (aq (i:=0) (show (EV:List Str).Nodup by decide +kernel) rfl (Nb rfl)) (aN (aq (i:=1) (show (EV:List Str).Nodup by decide +kernel) rfl (Nb rfl)) b8)))) (by intros; exact bq) (by intros; exact (ak U54 (rmD hr) (ad (pv 2) (ad (pv 3) (ad (pv 0) (ad (pv 1) ae))))))) ae)))))))),EE T.tb.ok h⟩
theorem KS (D:Def K mg "fits" lJ ly f fd) (B:Blt mg) (U30:E2 P w K mg base 3) (U37:yK P w K mg base 3):E8 P w K mg base 4:=by
 refine D.ok KO (by walk_at "l") fun _ _ _ _ _ _ _ _ hr h=>?_
 exact ⟨wM K,(af (bd (aP bY (pvA qG) bh (aO _)) (ai (aw (ak U37 (rmD hr) (ad (pvA qH) (aX (ax bN (pvA vE) ao) ae))))) aI)
  (af (bd (aP bY (pvA qG) bh (aO _)) (ai (aw (ak U37 (rmD hr) (ad (pvA qH) (ad (pvA Jl) ae))))) aI)
  (af (bd (aP bY (pvA qG) bh (aO _)) (ai (aw (ak U37 (rmD hr) (ad (pvA qH) (ad (pvA vE) ae))))) aI)
  (af (bd (aP bY (pvA qG) bh (aO _)) (ai (aw (ak U30 (rmD hr) (ad (pvA qH) (ad (pvA vE) ae))))) aI)
  (ai (aw cg)))))),Kr h⟩
theorem De (D:Def K mg "parts_of" gu xJ f fd) (B:Blt mg) {G:GF} (T:fw P w K mg G):E9 P w K mg base 1:=by
 refine D.ok uX (by walk_at "l") fun _ _ _ _ _ _ _ _ hr h=>?_
 have m_FORMS:=T.tb.mf
 have d_FORMS:=T.tb.df
 exact ⟨mD K G.toGlo,(af (az (i:=1) uX.nd rfl (Nb rfl) (GN d_FORMS (ki (v:=(.ref G.forms)) rfl m_FORMS rfl) (aM bt (pvA tj) ao (fun _ _=>rfl)) (fun _ _=>rfl)))
  (ai (aw (bo (sc:=(ab gu)) (NX:=AR) (N:=["place","part"]) (ix:=[none,none]) rfl (by walk_at "c") (iV eD eD rfl B.zip (ad (pvA Cp) (aE (vd BO (pvA tj) (yj ao) yi) ae))) (by intros; exact (cH rfl (aN (aq (i:=0) (show (["place","part"]:List Str).Nodup by decide +kernel) rfl (Nb rfl)) (aN (aq (i:=1) (show (["place","part"]:List Str).Nodup by decide +kernel) rfl (Nb rfl)) b8)))) (by intros; exact (kn (aP bY (pv 0) bh (aO _)))) (by intros; exact (pv 1)))))),C0 T.tb.ok h⟩
theorem ya (D:Def K mg "parts_of_all" dD xI f fd) (B:Blt mg) (U40:E9 P w K mg base 1):E6 P w K mg base 2:=by
 refine D.ok j0 (by walk_at "l") fun _ _ _ _ _ _ _ _ hr h=>?_
 exact ⟨iB K,(af (az (i:=1) j0.nd rfl (Nb rfl) (cy ae))
  (af (bL ND rfl (bC (pvA vF)) (aq (i:=2) j0.nd rfl (Nb rfl)) (ai (cx (mw N6 PySem.F.slot_list_extend PySem.F.type_list_extend F0 (pvA nA) (aZ (ak U40 (rmD hr) (ad (pvA vG) ae)) ae)))))
  (ai (aw (pvA nA))))),wN h⟩
theorem Aq (D:Def K mg "first_view" fX oo f fd) (B:Blt mg) (U38:E4 P w K mg base 1) (U1:AS P w K mg base 1):Fa P w K mg base 2:=by
 refine D.ok Ab (by walk_at "l") fun _ _ _ _ _ _ _ _ hr h=>?_
 exact ⟨jI K,(ai (aw (ak U1 (rmD hr) (bE (bo (sc:=(ab fX)) (NX:=oo) (N:=["deal","hand"]) (ix:=[none,some 1]) rfl (by walk_at "c") (bC (pvA yL)) (by intros; exact (aq (i:=0) (show (["deal","hand"]:List Str).Nodup by decide +kernel) rfl (Nb rfl))) (by intros; exact bq) (by intros; exact (ak U38 (rmD hr) (ad (pv 0) (ad (pv 1) ae))))) ae)))),zI h⟩
theorem Js (D:Def K mg "split" mP ou f fd) (B:Blt mg) (U1:AS P w K mg base 1):Fb P w K mg base 2:=by
 refine D.ok Jm (by walk_at "l") fun _ _ _ _ _ _ _ _ hr h=>?_
 exact ⟨tV K,(ai (aw (ak U1 (rmD hr) (aZ (KL aR aR rfl rfl B.list rfl B.zip (ad (pvA Ha) (ad (pvA Hb) ae))) ae)))),Iw h⟩
theorem tw (D:Def K mg "least_with_same" bM ["marks"] f fd) (B:Blt mg):AS P w K mg base 1:=by
 refine D.ok fD (by walk_at "l") fun _ _ _ _ _ _ _ _ hr h=>?_
 have hux:=hr.units64
 exact ⟨fO K,(af (az (i:=1) fD.nd rfl (PB rfl) qr)
  (af (bL ND rfl (gN aR rfl B.enumerate (by decide) (ad (pvA kg) ae)) (cH rfl (aN (aq (i:=2) fD.nd rfl (Nb rfl)) (aN (aq (i:=3) fD.nd rfl (Nb rfl)) b8))) (ai (cx (MI RL PySem.F.type_dict_setdefault (yF hux) (pvA rl) (ad (pvA rq) (ad (pvA rn) ae))))))
  (ai (aw (bo (sc:=(ab bM)) (NX:=uk) (N:=["mark","firsts"]) (ix:=[none,some 1]) rfl (by walk_at "c") (bC (pvA kg)) (by intros; exact (aq (i:=0) (show (["mark","firsts"]:List Str).Nodup by decide +kernel) rfl (Nb rfl))) (by intros; exact bq) (by intros; exact (DL hux (pv 1) (pv 0) (fun _ _=>rfl)))))))),rY h⟩
theorem Hh (D:Def K mg "joined" eR xF f fd) (B:Blt mg) (U46:AT P w K mg base 1) (U52:Fc P w K mg base 2):Fd P w K mg base 3:=by
 refine D.ok lK (by walk_at "l") fun _ _ _ _ _ _ _ _ hr h=>?_
 exact ⟨ql K,(af (az (i:=2) lK.nd rfl (PB rfl) (cO (G8 rfl) rfl B.list Qb (aZ (cO G6 rfl B.range boot_range (ad (pvA xN) ae)) ae)))
  (af (bL ND rfl (bC (pvA Fy)) (aq (i:=3) lK.nd rfl (Nb rfl)) (ai (bL ND rfl (gN aR rfl B.enumerate (by decide) (ad (pvA FA) ae)) (cH rfl (aN (aq (i:=4) lK.nd rfl (Nb rfl)) (aN (aq (i:=5) lK.nd rfl (Nb rfl)) b8))) (ai (cx (ak U52 (rmD hr) (ad (pvA Fz) (ad (pvA FB) (ad (pvA FC) ae)))))))))
  (ai (aw (bo (sc:=(ab eR)) (NX:=oj) (N:=["thing","points"]) (ix:=[none,some 2]) rfl (by walk_at "c") (cN rfl B.range (ad (pvA xN) ae)) (by intros; exact (aq (i:=0) (show (["thing","points"]:List Str).Nodup by decide +kernel) rfl (Nb rfl))) (by intros; exact bq) (by intros; exact (ak U46 (rmD hr) (ad (pv 1) (ad (pv 0) ae))))))))),GB h⟩
theorem KU (D:Def K mg "link" j3 xr f fd) (B:Blt mg) (U46:AT P w K mg base 1):Fc P w K mg base 2:=by
 refine D.ok yM (by walk_at "l") fun _ _ _ _ _ _ _ _ hr h=>?_
 exact ⟨wD K,(af (az (i:=3) yM.nd rfl (Nb rfl) (ak U46 (rmD hr) (ad (pvA vH) (ad (pvA Jn) ae))))
  (af (az (i:=4) yM.nd rfl (Nb rfl) (ak U46 (rmD hr) (ad (pvA vH) (ad (pvA Jo) ae))))
  (ai (hJ (aG (zd rfl) rfl B.min boot_min (ad (pvA Cq) (ad (pvA Cr) ae))) (iT (pvA vH) (aG (FQ rfl) rfl B.max VG (ad (pvA Cq) (ad (pvA Cr) ae))) jj))))),Ki h⟩
theorem Hi (D:Def K mg "end_of" jq xz f fd) (B:Blt mg):AT P w K mg base 1:=by
 refine D.ok tm (by walk_at "l") fun _ _ _ _ _ _ _ _ hr h=>?_
 exact ⟨qk K,(af (az (i:=2) tm.nd rfl (Nb rfl) (pvA FD))
  (af (pT ND (aP Jv (aM bi (pvA j4) (pvA iJ) (fun _ _=>rfl)) (pvA iJ) (aO _)) (af (hJ (aM bi (pvA j4) (aM bi (pvA j4) (pvA iJ) (fun _ _=>rfl)) (fun _ _=>rfl)) (iT (pvA j4) (pvA iJ) jj))
  (ai (az (i:=2) tm.nd rfl (Nb rfl) (aM bi (pvA j4) (pvA iJ) (fun _ _=>rfl))))))
  (ai (aw (pvA iJ))))),Gz h⟩
theorem tz (D:Def K mg "truths_of" bT ul f fd) (B:Blt mg) (U51:AU P w K mg base 1) (U38:E4 P w K mg base 1) (U47:Fe P w K mg base 1) (U48:Fd P w K mg base 3) (U50:xK P w K mg base 1) (U7:Ff P w K mg base 2) (U53:Fh P w K mg base 2):∀ n,FnB P w K mg base (4 + n) "truths_of" ul (cj K n)
 | 0=>D.ok (k:=3) ij (fun vs H Q E h=>(sf h).elim) (fun cdv A outer s H vs Q E hr h=>(sf h).elim)
 | n + 1=>by
  have U33:=tz D B U51 U38 U47 U48 U50 U7 U53 n
  refine D.ok (k:=4 + n) ij (by walk_at "l") fun _ _ _ _ _ _ _ _ hr h=>?_
  exact ⟨lg K n,(af (az (i:=3) ij.nd rfl (Nb rfl) (aM bt (pvA cr) ao (fun _ _=>rfl)))
  (af (bd (aP bY (pvA d3) bh (aO _)) (ai (aw (bo (sc:=(ab bT)) (NX:=nu) (N:=["deal","S"]) (ix:=[none,some 2]) rfl (by walk_at "c") (bC (pvA cK)) (by intros; exact (aq (i:=0) (show (["deal","S"]:List Str).Nodup by decide +kernel) rfl (Nb rfl))) (by intros; exact bq) (by intros; exact (ff bY (aM bt (pv 0) (aM bt (pv 1) ao (fun _ _=>rfl)) (fun _ _=>rfl)) (aM bt (pv 1) ao (fun _ _=>rfl)) (aO _)))))) aI)
  (af (bd (aP bY (pvA d3) bh (aO _)) (ai (aw (ak U53 (hr.mono (by omega)) (bE (bo (sc:=(ab bT)) (NX:=nu) (N:=["deal","views"]) (ix:=[none,some 1]) rfl (by walk_at "c") (bC (pvA cK)) (by intros; exact (aq (i:=0) (show (["deal","views"]:List Str).Nodup by decide +kernel) rfl (Nb rfl))) (by intros; exact bq) (by intros; exact (ak U38 (hr.mono (by omega)) (ad (pv 0) (aZ (aG bj rfl B.len OW (ad (pv 1) ae)) ae))))) (aE (aM bi (pvA dn) (aM bt (pvA cr) ao (fun _ _=>rfl)) (fun _ _=>rfl)) ae))))) aI)
  (af (bd (aP bY (pvA d3) bh (aO _)) (ai (aw (bo (sc:=(ab bT)) (NX:=nu) (N:=["truth"]) (ix:=[none]) rfl (by walk_at "c") (bC (ak U33 (hr.mono (by omega)) (ad (pvA cK) (ad (pvA dn) (aE (aM bt (pvA cr) ao (fun _ _=>rfl)) ae))))) (by intros; exact (aq (i:=0) (show (["truth"]:List Str).Nodup by decide +kernel) rfl (Nb rfl))) (by intros; exact bq) (by intros; exact (A3 (pv 0)))))) aI)
  (af (bd (aP bY (pvA d3) bh (aO _)) (ai (aw (ak U51 (hr.mono (by omega)) (aZ (ak U33 (hr.mono (by omega)) (ad (pvA cK) (ad (pvA dn) (aE (aM bt (pvA cr) ao (fun _ _=>rfl)) ae)))) (aZ (ak U33 (hr.mono (by omega)) (ad (pvA cK) (ad (pvA dn) (aE (aM bt (pvA cr) ao (fun _ _=>rfl)) ae)))) ae))))) aI)
  (af (bd (aP bY (pvA d3) bh (aO _)) (ai (aw (ak U47 (hr.mono (by omega)) (aZ (ak U33 (hr.mono (by omega)) (ad (pvA cK) (ad (pvA dn) (aE (aM bt (pvA cr) ao (fun _ _=>rfl)) ae)))) (aZ (ak U33 (hr.mono (by omega)) (ad (pvA cK) (ad (pvA dn) (aE (aM bt (pvA cr) ao (fun _ _=>rfl)) ae)))) ae))))) aI)
  (af (az (i:=4) ij.nd rfl (Nb rfl) (ak U33 (hr.mono (by omega)) (ad (pvA cK) (ad (pvA dn) (aE (aM bt (pvA cr) ao (fun _ _=>rfl)) ae)))))
  (af (bd (aP bY (pvA d3) bh (aO _)) (ai (aw (ak U50 (hr.mono (by omega)) (aE (aM bi (pvA dn) (aM bt (pvA cr) ao (fun _ _=>rfl)) (fun _ _=>rfl)) (ad (pvA mh) ae))))) aI)
  (af (jA (i:=5) ij.nd rfl rfl (sc:=(ab bT)) (NX:=nu) (N:=["hand","views"]) (ix:=[none,some 1]) rfl (by walk_at "c") (oT (aM bt (pvA cr) ao (fun _ _=>rfl))) (by intros; exact (aq (i:=0) (show (["hand","views"]:List Str).Nodup by decide +kernel) rfl (Nb rfl))) (by intros; exact bq) (by intros; exact (aM bi (pv 1) (pv 0) (fun _ _=>rfl))))
  (af (bd (aP bY (pvA d3) bh (aO _)) (ai (aw (ak U7 (hr.mono (by omega)) (ad (pvA qR) (ad (pvA mh) ae))))) aI)
  (ai (aw (ak U50 (hr.mono (by omega)) (aZ (ak U48 (hr.mono (by omega)) (aZ (aG bj rfl B.len OW (ad (pvA cK) ae)) (ad (pvA qR) ae))) (ad (pvA mh) ae))))))))))))))),BG h⟩
theorem KW (D:Def K mg "both" nC eZ f fd) (B:Blt mg):AU P w K mg base 1:=by
 refine D.ok KP (by walk_at "l") fun _ _ _ _ _ _ _ _ hr h=>?_
 exact ⟨wF K,(ai (aw (bo (sc:=(ab nC)) (NX:=eZ) (N:=uo) (ix:=[none,none]) rfl (by walk_at "c") (iV aR aR rfl B.zip (ad (pvA Jp) (ad (pvA Jq) ae))) (by intros; exact (cH rfl (aN (aq (i:=0) (show (uo:List Str).Nodup by decide +kernel) rfl (Nb rfl)) (aN (aq (i:=1) (show (uo:List Str).Nodup by decide +kernel) rfl (Nb rfl)) b8)))) (by intros; exact bq) (by intros; exact (jz (pv 0) (g9 (pv 1))))))),Kl h⟩
theorem Hj (D:Def K mg "either" jr eZ f fd) (B:Blt mg):Fe P w K mg base 1:=by
 refine D.ok Hc (by walk_at "l") fun _ _ _ _ _ _ _ _ hr h=>?_
 exact ⟨qm K,(ai (aw (bo (sc:=(ab jr)) (NX:=eZ) (N:=uo) (ix:=[none,none]) rfl (by walk_at "c") (iV aR aR rfl B.zip (ad (pvA FE) (ad (pvA FF) ae))) (by intros; exact (cH rfl (aN (aq (i:=0) (show (uo:List Str).Nodup by decide +kernel) rfl (Nb rfl)) (aN (aq (i:=1) (show (uo:List Str).Nodup by decide +kernel) rfl (Nb rfl)) b8)))) (by intros; exact bq) (by intros; exact (Ju (pv 0) (g9 (pv 1))))))),GG h⟩
theorem Jt (D:Def K mg "known" gR xy f fd) (B:Blt mg):xK P w K mg base 1:=by
 refine D.ok qI (by walk_at "l") fun _ _ _ _ _ _ _ _ hr h=>?_
 exact ⟨tU K,(af (az (i:=2) qI.nd rfl (PB rfl) (ax GM (cy (ar cg ae)) (aG bj rfl B.len OW (ad (pvA tq) ae))))
  (af (bL ND rfl (iV aR aR rfl B.zip (ad (pvA tq) (ad (pvA Hd) ae))) (cH rfl (aN (aq (i:=3) qI.nd rfl (Nb rfl)) (aN (aq (i:=4) qI.nd rfl (Nb rfl)) b8))) (ai (bd (bV (bG (pvA Hg))) (ai (hJ cg (iT (pvA He) (pvA Hf) jj))) aI)))
  (ai (aw (bo (sc:=(ab gR)) (NX:=qC) (N:=["least","sure"]) (ix:=[none,some 2]) rfl (by walk_at "c") (bC (pvA tq)) (by intros; exact (aq (i:=0) (show (["least","sure"]:List Str).Nodup by decide +kernel) rfl (Nb rfl))) (by intros; exact bq) (by intros; exact (aM bi (pv 1) (pv 0) (fun _ _=>rfl)))))))),Iu h⟩
theorem yb (D:Def K mg "known_to_all" cT xC f fd) (B:Blt mg) (U51:AU P w K mg base 1) (U50:xK P w K mg base 1):Ff P w K mg base 2:=by
 refine D.ok gY (by walk_at "l") fun _ _ _ _ _ _ _ _ hr h=>?_
 exact ⟨iA K,(af (az (i:=2) gY.nd rfl (Nb rfl) (ax GM (cy (ar cg ae)) (aG bj rfl B.len OW (ad (pvA nD) ae))))
  (af (bL ND rfl (bC (pvA vI)) (aq (i:=3) gY.nd rfl (Nb rfl)) (ai (az (i:=2) gY.nd rfl (Nb rfl) (ak U51 (rmD hr) (ad (pvA nE) (aZ (ak U50 (rmD hr) (ad (pvA vJ) (ad (pvA nD) ae))) ae))))))
  (ai (aw (pvA nE))))),wG h⟩
theorem KY (D:Def K mg "seen" nG mJ f fd) (B:Blt mg) (U50:xK P w K mg base 1):Fh P w K mg base 2:=by
 refine D.ok KQ (by walk_at "l") fun _ _ _ _ _ _ _ _ hr h=>?_
 have hu:=hr.units0
 exact ⟨wH K,(ai (aw (ak U50 (rmD hr) (ad (pvA Cs) (bE (bo (sc:=(ab nG)) (NX:=mJ) (N:=EW) (ix:=[none,none,some 0]) rfl (by walk_at "c") (iV aR aR rfl B.zip (ad (pvA Jr) (ad (pvA Cs) ae))) (by intros; exact (cH rfl (aN (aq (i:=0) (show (EW:List Str).Nodup by decide +kernel) rfl (Nb rfl)) (aN (aq (i:=1) (show (EW:List Str).Nodup by decide +kernel) rfl (Nb rfl)) b8)))) (by intros; exact bq) (by intros; exact (ff (Lf hu) (pv 0) (aM bi (pv 2) (pv 1) (fun _ _=>rfl)) (aO _)))) ae))))),Km h⟩
theorem vV (D:Def K mg "refuse_unless" fE qE f fd) (B:Blt mg):xL P w K mg base 1:=by
 refine D.ok vK (by walk_at "l") fun _ _ _ _ _ _ _ _ hr h=>?_
 exact ⟨gX K,(ai (bd (bV (bG (pvA uD))) (ai pR) aI)),vA h⟩
theorem CB (D:Def K mg "are_cards" gS on f fd) (B:Blt mg) (U37:yK P w K mg base 3):Fi P w K mg base 4:=by
 refine D.ok Ct (by walk_at "l") fun _ _ _ _ _ _ _ _ hr h=>?_
 exact ⟨lm K,(ai (aw (jz (aG db rfl B.isinstance Ol (ad (pvA qS) (ad (dU (v:=.ty "list") rfl B.list Qb rfl) ae))) (g9 (aG (nP rfl) rfl B.all VF (bE (bo (sc:=(ab gS)) (NX:=on) (N:=["card","cards"]) (ix:=[none,some 1]) rfl (by walk_at "c") (bC (pvA qS)) (by intros; exact (aq (i:=0) (show (["card","cards"]:List Str).Nodup by decide +kernel) rfl (Nb rfl))) (by intros; exact bq) (by intros; exact (ak U37 (rmD hr) (ad (pv 0) (ad (pv 1) ae))))) ae)))))),BV h⟩
theorem Ar (D:Def K mg "least_held" dQ qD f fd) (B:Blt mg):Fj P w K mg base 1:=by
 refine D.ok qT (by walk_at "l") fun _ _ _ _ _ _ _ _ hr h=>?_
 exact ⟨jP K,(af (bL ND rfl (bC (pvA yP)) (aq (i:=3) qT.nd rfl (Nb rfl)) (ai (bd (aP bY (aM bt (pvA yN) (pvA pA) (fun _ _=>rfl)) (pvA yO) (aO _)) (ai (aw (pvA pA))) aI)))
  (ai (aw K4))),zL h⟩
theorem CC (D:Def K mg "_law_cell" fL xk f fd) (B:Blt mg):ut P w K mg base 1:=by
 refine D.ok j5 (by walk_at "l") fun _ _ _ _ _ _ _ _ hr h=>?_
 exact ⟨lc K,(af (bd (aP Jw (pvA fj) (aG bj rfl B.len OW (ad (pvA gE) ae)) (aO _)) (ai (aw (aM bi (pvA gE) (pvA fj) (fun _ _=>rfl)))) aI)
  (af (az (i:=2) j5.nd rfl (Nb rfl) (ax bN (ax fR (pvA fj) ao) ao))
  (af (bd (aP nO (aG bj rfl B.len OW (ad (pvA gE) ae)) ao (aO _)) (ai (az (i:=2) j5.nd rfl (Nb rfl) (ax bN (ax fR (aM bi (pvA gE) (ax bW (ax fR (pvA fj) ao) (aG bj rfl B.len OW (ad (pvA gE) ae))) (fun _ _=>rfl)) ao) (ax fR (pvA fj) ao)))) aI)
  (af (az (i:=2) j5.nd rfl (Nb rfl) (ax bW (ax fR (pvA jg) (pvA jg)) ao))
  (ai (aw (ax bW (ax fR (ax bN (pvA jg) (pvA fj)) (ax bN (pvA jg) ao)) ao))))))),BB h⟩
theorem yc (D:Def K mg "_law_product" dE xH f fd) (B:Blt mg):Fk P w K mg base 1:=by
 refine D.ok gZ (by walk_at "l") fun _ _ _ _ _ _ _ _ hr h=>?_
 exact ⟨iu K,(af (az (i:=1) gZ.nd rfl (Nb rfl) ao)
  (af (bL ND rfl (cN rfl B.range (ad (pvA vL) ae)) (aq (i:=2) gZ.nd rfl (Nb rfl)) (ai (az (i:=1) gZ.nd rfl (Nb rfl) (ax fR (pvA nH) (ax bN (pvA vM) ao)))))
  (ai (aw (pvA nH))))),wz h⟩
theorem As (D:Def K mg "_law_count" dR xo f fd) (B:Blt mg) (U9:Fk P w K mg base 1):Fl P w K mg base 2:=by
 refine D.ok jh (by walk_at "l") fun _ _ _ _ _ _ _ _ hr h=>?_
 exact ⟨jG K,(af (az (i:=2) jh.nd rfl (Nb rfl) (ak U9 (rmD hr) (ad (pvA pB) ae)))
  (af (bL ND rfl (bC (ax sj (pvA pD) (cy (aX (ax iU (pvA pB) (aG (lB rfl) rfl B.sum Ud (ad (pvA pD) ae))) ae)))) (aq (i:=3) jh.nd rfl (Nb rfl)) (ai (az (i:=2) jh.nd rfl (Nb rfl) (ax cD (pvA pE) (ak U9 (rmD hr) (ad (pvA yQ) ae))))))
  (ai (aw (pvA pE))))),zG h⟩
theorem CD (D:Def K mg "_law_pack" cX xi f fd) (B:Blt mg) (U36:ut P w K mg base 1) (U22:Fl P w K mg base 2):Fm P w K mg base 3:=by
 refine D.ok fY (by walk_at "l") fun _ _ _ _ _ _ _ _ hr h=>?_
 exact ⟨lj K,(af (az (i:=3) fY.nd rfl (Nb rfl) (ax bW (ak U36 (rmD hr) (ad (pvA gF) (ad (pvA gG) ae))) ao))
  (af (bd (aP bY (ax bW (ax cD (ak U36 (rmD hr) (ad (pvA gF) (ad (pvA gG) ae))) ao) ao) ao (aO _)) (ai (az (i:=3) fY.nd rfl (Nb rfl) (ax bN ao (ax bW (ax cD (ak U36 (rmD hr) (ad (pvA gF) (ad (pvA gG) ae))) ao) ao)))) aI)
  (af (az (i:=4) fY.nd rfl (Nb rfl) (cy ae))
  (af (bL ND rfl (cN rfl B.range (aX (ax bN ao (ax bW (ak U36 (rmD hr) (ad (pvA gF) (aX (ax bN (pvA gG) ao) ae))) ao)) ae)) (aq (i:=5) fY.nd rfl (Nb rfl)) (ai (cx (mw N6 OP OQ gc (pvA cu) (aX (ax bW (ak U36 (rmD hr) (ad (pvA gF) (aX (ax bN (ax bN (pvA gG) ao) (pvA Ad)) ae))) (ax bN (aG (zd rfl) rfl B.min boot_min (ar ao (aX (ax iU (pvA gH) (aG (lB rfl) rfl B.sum Ud (ad (pvA cu) ae))) ae))) ao)) ae)))))
  (af (pT ND (aP nO (ak U22 (rmD hr) (ad (pvA gH) (ad (pvA cu) ae))) (pvA Ac) (aO _)) (af (bd (aP nO (aG (rP rfl) rfl B.max VG (ad (pvA cu) ae)) (ax iU (pvA gH) (aG (lB rfl) rfl B.sum Ud (ad (pvA cu) ae))) (aO _)) (ai (hJ (ax iU (aG (rP rfl) rfl B.max VG (ad (pvA cu) ae)) ao) (iT (pvA cu) (mw N6 S3 PySem.F.type_list_index HM (pvA cu) (aZ (aG (rP rfl) rfl B.max VG (ad (pvA cu) ae)) ae)) jj))) aI)
  (ai (az (i:=3) fY.nd rfl (Nb rfl) (ax iU (pvA gH) ao)))))
  (ai (aw (ck (ad (pvA gH) (ad (pvA cu) ae)))))))))),BN h⟩
theorem At (D:Def K mg "_law_least" dh xG f fd) (B:Blt mg):AV P w K mg base 1:=by
 refine D.ok gI (by walk_at "l") fun _ _ _ _ _ _ _ _ hr h=>?_
 have hux:=hr.units64
 exact ⟨jH K,(af (az (i:=1) gI.nd rfl (Nb rfl) qr)
  (af (az (i:=2) gI.nd rfl (Nb rfl) (cy ae))
  (af (bL ND rfl (gN aR rfl B.enumerate (by decide) (ad (pvA yR) ae)) (cH rfl (aN (aq (i:=3) gI.nd rfl (Nb rfl)) (aN (aq (i:=4) gI.nd rfl (Nb rfl)) b8))) (af (bd (aP (sx hux) (pvA kL) (pvA kK) rfl) (ai (hJ (pvA yS) (iT (pvA kK) (pvA kL) (EJ hux)))) aI)
  (ai (cx (mw N6 OP OQ gc (pvA pF) (aE (DL hux (pvA kK) (pvA kL) (fun _ _=>rfl)) ae))))))
  (ai (aw (pvA pF)))))),zH h⟩
theorem y6 (D:Def K mg "_law_wholes" fk oy f fd) (B:Blt mg):Fn P w K mg base 1:=by
 refine D.ok yT (by walk_at "l") fun _ _ _ _ _ _ _ _ hr h=>?_
 have hu:=hr.units0
 exact ⟨i6 K,(af (bd (bV (bG (aG db rfl B.isinstance Ol (ad (pvA oz) (ad (dU (v:=.ty "list") rfl B.list Qb rfl) ae))))) (ai (aw cg)) aI)
  (ai (aw (ff (Bg hu) (bo (sc:=(ab fk)) (NX:=oy) (N:=["_law_one"]) (ix:=[none]) rfl (by walk_at "c") (bC (pvA oz)) (by intros; exact (aq (i:=0) (show (["_law_one"]:List Str).Nodup by decide +kernel) rfl (Nb rfl))) (by intros; exact (kn (PW.pt (mq (bV (bG (aG db rfl B.isinstance Ol (ad (pv 0) (ad (dU (v:=.ty "int") rfl B.int VE rfl) ae))))) (jy (bG (aG db rfl B.isinstance Ol (ad (pv 0) (ad (dU (v:=.ty "bool") rfl B.bool Wa rfl) ae))))))))) (by intros; exact (pv 0))) (cy ae) (aO _))))),yt h⟩
theorem rB (D:Def K mg "_law_truths_told" cn mH f fd) (B:Blt mg):Fo P w K mg base 1:=by
 refine D.ok rA (by walk_at "l") fun _ _ _ _ _ _ _ _ hr h=>?_
 have hu:=hr.units0
 have hux:=hr.units64
 exact ⟨fB K,(af (bd (PW.pt (mq (bV (bG (aG db rfl B.isinstance Ol (ad (pvA gx) (ad (dU (v:=.ty "list") rfl B.list Qb rfl) ae))))) (jy (aP (Cf hux) (pvA gx) (pvA qJ) (aO _))))) (ai (aw cg)) aI)
  (ai (aw (ff (Bg hu) (bo (sc:=(ab cn)) (NX:=mH) (N:=ur) (ix:=[none]) rfl (by walk_at "c") (bC (pvA gx)) (by intros; exact (aq (i:=0) (show (ur:List Str).Nodup by decide +kernel) rfl (Nb rfl))) (by intros; exact (kn (bV (bG (aG db rfl B.isinstance Ol (ad (pv 0) (ad (dU (v:=.ty "bool") rfl B.bool Wa rfl) ae))))))) (by intros; exact (pv 0))) (cy ae) (aO _))))),rk h⟩
theorem rj (D:Def K mg "_law_words" eV um f fd) (B:Blt mg):∀ n,FnB P w K mg base (1 + n) "_law_words" um (fi K n)
 | 0=>D.ok (k:=0) gJ (fun vs H Q E h=>(qM h).elim) (fun cdv A outer s H vs Q E hr h=>(qM h).elim)
 | n + 1=>by
  have U24:=rj D B n
  refine D.ok (k:=1 + n) gJ (by walk_at "l") fun _ _ _ _ _ _ _ _ hr h=>?_
  have hu:=hr.units0
  exact ⟨jO K n,(af (az (i:=1) gJ.nd rfl (Nb rfl) ao)
  (af (bL ND rfl (oT (vd BO (pvA yU) (yj ao) yi)) (aq (i:=2) gJ.nd rfl (Nb rfl)) (ai (bd (PW.pt (A2 (bG (aG db rfl B.isinstance Ol (ad (pvA iK) (ad (dU (v:=.ty "tuple") rfl B.tuple QY rfl) ae)))) (A2 (aP (F9 hu) (pvA iK) (ck ae) (aO _)) (Df (bG (aG db rfl B.isinstance Ol (aE (aM bt (pvA iK) ao (fun _ _=>rfl)) (ad (dU (v:=.ty "str") rfl B.str boot_str rfl) ae)))))))) (ai (az (i:=1) gJ.nd rfl (Nb rfl) (ax bN (pvA pG) (ak U24 (hr.mono (by omega)) (ad (pvA iK) ae))))) aI)))
  (ai (aw (pvA pG))))),zK h⟩
theorem Au (D:Def K mg "_law_group" fZ ol f fd) (B:Blt mg):AW P w K mg base 1:=by
 refine D.ok Ae (by walk_at "l") fun _ _ _ _ _ _ _ _ hr h=>?_
 exact ⟨jN K,(ai (aw (cO vy rfl B.tuple QY (bE (bo (sc:=(ab fZ)) (NX:=ol) (N:=["_law_hand","_law_number"]) (ix:=[none,some 0]) rfl (by walk_at "c") (cN rfl B.range (ad (pvA yV) ae)) (by intros; exact (aq (i:=0) (show (["_law_hand","_law_number"]:List Str).Nodup by decide +kernel) rfl (Nb rfl))) (by intros; exact (kn (aP bY (ax bW (ax cD (pv 1) (aM bi (cy (ar ao (ar ao (ar ao (ar ao (ar ao ae)))))) (pv 0) (fun _ _=>rfl))) ao) ao (aO _)))) (by intros; exact (pv 0))) ae)))),zJ h⟩
theorem CG (D:Def K mg "_law_pool" cI xf f fd) (B:Blt mg) (U36:ut P w K mg base 1):Fp P w K mg base 2:=by
 refine D.ok j6 (by walk_at "l") fun _ _ _ _ _ _ _ _ hr h=>?_
 exact ⟨ll K,(af (az (i:=4) j6.nd rfl (Nb rfl) (cy (bF (ck (ar bh (aX (ax bW (ak U36 (rmD hr) (ad (pvA qU) (ad (pvA qV) ae))) (pvA qX)) ae))) ae)))
  (af (bL ND rfl (cN rfl B.range (aX (ax fR ao (cO ze rfl B.int VE (uR (ff nO (pvA qW) ao (aO _)) ae))) ae)) (aq (i:=5) j6.nd rfl (Nb rfl)) (af (az (i:=6) j6.nd rfl (Nb rfl) (ak U36 (rmD hr) (ad (pvA qU) (aX (ax bN (ax bN (pvA qV) ao) (pvA Af)) ae))))
  (ai (cx (mw N6 OP OQ gc (pvA qY) (bF (ck (ar bh (aX (ax bW (pvA qZ) (ax bN (pvA qX) ao)) (aX (ax bW (ax cD (pvA qZ) ao) (pvA qW)) ae)))) ae))))))
  (ai (aw (pvA qY))))),BT h⟩
theorem y7 (D:Def K mg "_law_saying" bw xc f fd) (B:Blt mg) (U36:ut P w K mg base 1) (U21:AW P w K mg base 1) (U27:Fp P w K mg base 2) (U24:JN P w K mg base 71):Fq P w K mg base 72:=by
 refine D.ok bP (by walk_at "l") fun _ _ _ _ _ _ _ _ hr h=>?_
 exact ⟨i8 K,(af (az (i:=5) bP.nd rfl (Nb rfl) (ak U27 (rmD hr) (ad (pvA j7) (ad (pvA j8) (ad (pvA xO) (ad (pvA cC) ae))))))
  (af (bL ND rfl (cN rfl B.range (aX (ax bW (ak U36 (rmD hr) (ad (pvA j7) (aX (ax bN (pvA j8) ao) ae))) ao) ae)) (aq (i:=6) bP.nd rfl (Nb rfl)) (af (az (i:=7) bP.nd rfl (Nb rfl) (ak U36 (rmD hr) (ad (pvA j7) (aX (ax bN (ax bN (pvA j8) ao) (pvA xQ)) ae))))
  (af (az (i:=8) bP.nd rfl (Nb rfl) (aM bi (pvA fF) (DZ A5 ao) (fun _ _=>rfl)))
  (af (az (i:=9) bP.nd rfl (Nb rfl) (aM bi (pvA fF) (ax bW (ax cD (pvA bU) ao) (aG bj rfl B.len OW (ad (pvA fF) ae))) (fun _ _=>rfl)))
  (af (az (i:=10) bP.nd rfl (Nb rfl) (cy (bF (ck (ar bh (ad (pvA cf) ae))) (bF (ck (ar bh (ad (pvA cf) (ad (pvA dj) ae)))) (bF (ck (ar bh (ad (pvA dj) (ad (pvA cf) ae)))) (bF (ck (ar bh (ad (pvA dj) ae))) ae))))))
  (af (az (i:=10) bP.nd rfl (Nb rfl) (ax sj (pvA dF) (cy (bF (ck (ar bh (aX (ax bW (ax cD (pvA bU) ao) (pvA cC)) (ad (pvA cf) ae)))) (bF (ck (ar bh (aX (ax bW (ax cD (pvA bU) ao) (pvA cC)) (bF (ck (ar bh (ad (pvA cf) ae))) ae)))) ae)))))
  (af (az (i:=10) bP.nd rfl (Nb rfl) (ax sj (pvA dF) (cy (bF (ck (ar bh (aZ (ak U21 (rmD hr) (aX (ax cD (pvA bU) ao) (ad (pvA cC) ae))) (ad (pvA cf) ae)))) (bF (ck (ar bh (aZ (ak U21 (rmD hr) (aX (ax cD (pvA bU) ao) (ad (pvA cC) ae))) (ad (pvA dj) ae)))) ae)))))
  (af (az (i:=10) bP.nd rfl (Nb rfl) (ax sj (pvA dF) (cy (bF (ck (ar bh (aZ (ak U21 (rmD hr) (aX (ax cD (pvA bU) ao) (ad (pvA cC) ae))) (ad (pvA cf) ae)))) (bF (ck (ar bh (aX (ax bW (ax cD (pvA bU) ao) (pvA cC)) (ad (pvA dj) ae)))) ae)))))
  (af (az (i:=10) bP.nd rfl (Nb rfl) (ax sj (pvA dF) (cy (bF (ck (ar bh (ad (pvA dj) (bF (ck (ar bh (ad (pvA cf) ae))) ae)))) (bF (ck (ar bh (ad (pvA cf) (bF (ck (ar bh (aX (ax bW (ax cD (pvA bU) ao) (pvA cC)) (ad (pvA dj) ae)))) ae)))) ae)))))
  (ai (bd (aP AA (ak U24 (rmD hr) (aE (aM bi (pvA dF) (ax bW (pvA bU) ao) (fun _ _=>rfl)) ae)) (pvA xP) (aO _)) (ai (cx (mw N6 OP OQ gc (pvA fF) (aE (aM bi (pvA dF) (ax bW (pvA bU) ao) (fun _ _=>rfl)) ae)))) aI)))))))))))
  (ai (aw (aM bi (pvA fF) (DZ A5 ao) (fun _ _=>rfl)))))),yy h⟩
theorem CH (D:Def K mg "_law_kept" cY xm f fd) (B:Blt mg):AX P w K mg base 1:=by
 refine D.ok j9 (by walk_at "l") fun _ _ _ _ _ _ _ _ hr h=>?_
 have hux:=hr.units64
 exact ⟨ln K,(af (az (i:=2) j9.nd rfl (PB rfl) qr)
  (af (bL ND rfl (gN aR rfl B.enumerate (by decide) (ad (pvA Ag) ae)) (cH rfl (aN (aq (i:=3) j9.nd rfl (Nb rfl)) (aN (aq (i:=4) j9.nd rfl (Nb rfl)) b8))) (ai (bd (bV (bG (pvA Aj))) (ai (hJ cg (iT (pvA Ah) (aM bi (pvA rc) (pvA Ai) (fun _ _=>rfl)) (EJ hux)))) aI)))
  (ai (aw (bo (sc:=(ab cY)) (NX:=qz) (N:=AN) (ix:=[none,some 2]) rfl (by walk_at "c") (bC (pvA rc)) (by intros; exact (aq (i:=0) (show (AN:List Str).Nodup by decide +kernel) rfl (Nb rfl))) (by intros; exact bq) (by intros; exact (ff (sx hux) (pv 0) (pv 1) rfl))))))),Ca h⟩
theorem CI (D:Def K mg "_law_each" cJ oS f fd) (B:Blt mg) (U29:AX P w K mg base 1):AY P w K mg base 2:=by
 refine D.ok ka (by walk_at "l") fun _ _ _ _ _ _ _ _ hr h=>?_
 exact ⟨lp K,(af (jA (i:=3) ka.nd rfl rfl (sc:=(ab cJ)) (NX:=sL) (N:=ur) (ix:=[none]) rfl (by walk_at "c") (bC (pvA re)) (by intros; exact (aq (i:=0) (show (ur:List Str).Nodup by decide +kernel) rfl (Nb rfl))) (by intros; exact bq) (by intros; exact cg))
  (af (bL ND rfl (oT (pvA Al)) (aq (i:=4) ka.nd rfl (Nb rfl)) (ai (jA (i:=3) ka.nd rfl rfl (sc:=(ab cJ)) (NX:=sL) (N:=je) (ix:=[none,none]) rfl (by walk_at "c") (iV aR aR rfl B.zip (ad (pvA rf) (aZ (ak U29 (rmD hr) (aE (aM bi (pvA Ak) (pvA Am) (fun _ _=>rfl)) (ad (pvA re) ae))) ae))) (by intros; exact (cH rfl (aN (aq (i:=0) (show (je:List Str).Nodup by decide +kernel) rfl (Nb rfl)) (aN (aq (i:=1) (show (je:List Str).Nodup by decide +kernel) rfl (Nb rfl)) b8)))) (by intros; exact bq) (by intros; exact (jz (pv 0) (g9 (pv 1)))))))
  (ai (aw (pvA rf))))),Cb h⟩
theorem y8 (D:Def K mg "_law_shared" cv oS f fd) (B:Blt mg) (U26:AY P w K mg base 2):Fr P w K mg base 3:=by
 refine D.ok iL (by walk_at "l") fun _ _ _ _ _ _ _ _ hr h=>?_
 have hu:=hr.units0
 exact ⟨jc K,(af (az (i:=3) iL.nd rfl (Nb rfl) (cO pi rfl B.list Qb (ad (pvA xT) ae)))
  (ai (pT ND (bG cg) (af (jA (i:=4) iL.nd rfl rfl (sc:=(ab cv)) (NX:=qy) (N:=je) (ix:=[none,none]) rfl (by walk_at "c") (iV aR aR rfl B.zip (ad (pvA g0) (aZ (ak U26 (rmD hr) (ad (pvA xR) (ad (pvA xS) (ad (pvA g0) ae)))) ae))) (by intros; exact (cH rfl (aN (aq (i:=0) (show (je:List Str).Nodup by decide +kernel) rfl (Nb rfl)) (aN (aq (i:=1) (show (je:List Str).Nodup by decide +kernel) rfl (Nb rfl)) b8)))) (by intros; exact bq) (by intros; exact (jz (pv 0) (g9 (pv 1)))))
  (af (bd (aP (Bg hu) (pvA oB) (pvA g0) (aO _)) (ai (aw (pvA g0))) aI)
  (ai (az (i:=3) iL.nd rfl (Nb rfl) (pvA oB)))))))),yD h⟩
theorem yd (D:Def K mg "_law_sighted" bJ xg f fd) (B:Blt mg):Fs P w K mg base 1:=by
 refine D.ok fG (by walk_at "l") fun _ _ _ _ _ _ _ _ hr h=>?_
 have hu:=hr.units0
 have hux:=hr.units64
 exact ⟨iF K,(af (jA (i:=3) fG.nd rfl rfl (sc:=(ab bJ)) (NX:=qx) (N:=EX) (ix:=[none,some 2]) rfl (by walk_at "c") (bC (pvA vN)) (by intros; exact (aq (i:=0) (show (EX:List Str).Nodup by decide +kernel) rfl (Nb rfl))) (by intros; exact bq) (by intros; exact (cO vy rfl B.tuple QY (bE (bo (sc:=_) (hsc:=rfl) (NX:=EX) (N:=ET) (ix:=[none,none,some 1]) rfl (by walk_at "e") (gN eD rfl B.enumerate (by decide) (ad (pv 0) ae)) (by intros; exact (cH rfl (aN (aq (i:=0) (show (ET:List Str).Nodup by decide +kernel) rfl (Nb rfl)) (aN (aq (i:=1) (show (ET:List Str).Nodup by decide +kernel) rfl (Nb rfl)) b8)))) (by intros; exact (kn (aP bY (pv 1) (pv 2) (aO _)))) (by intros; exact (pv 0))) ae))))
  (af (az (i:=4) fG.nd rfl (PB rfl) qr)
  (af (bL ND rfl (gN aR rfl B.enumerate (by decide) (ad (pvA nI) ae)) (cH rfl (aN (aq (i:=5) fG.nd rfl (Nb rfl)) (aN (aq (i:=6) fG.nd rfl (Nb rfl)) b8))) (ai (bd (aP (F9 hu) (aM bi (pvA nJ) (pvA vP) (fun _ _=>rfl)) (aM bi (pvA nJ) (pvA nK) (fun _ _=>rfl)) (aO _)) (ai (hJ cg (iT (pvA vO) (pvA nK) (EJ hux)))) aI)))
  (ai (aw (bo (sc:=(ab bJ)) (NX:=qx) (N:=AN) (ix:=[none,some 4]) rfl (by walk_at "c") (bC (pvA nI)) (by intros; exact (aq (i:=0) (show (AN:List Str).Nodup by decide +kernel) rfl (Nb rfl))) (by intros; exact bq) (by intros; exact (ff (sx hux) (pv 0) (pv 1) rfl)))))))),wV h⟩
theorem tF (D:Def K mg "_law_read" b9 ug f fd) (B:Blt mg) (U26:AY P w K mg base 2) (U29:AX P w K mg base 1) (U10:Fr P w K mg base 3) (U4:Fs P w K mg base 1):∀ n,FnB P w K mg base (4 + n) "_law_read" ug (dg K n)
 | 0=>D.ok (k:=3) kb (fun vs H Q E h=>(sw h).elim) (fun cdv A outer s H vs Q E hr h=>(sw h).elim)
 | n + 1=>by
  have U31:=tF D B U26 U29 U10 U4 n
  refine D.ok (k:=4 + n) kb (by walk_at "l") fun _ _ _ _ _ _ _ _ hr h=>?_
  exact ⟨lx K n,(af (bd (aP bY (aM bt (pvA bK) ao (fun _ _=>rfl)) bh (aO _)) (ai (aw (bo (sc:=(ab b9)) (NX:=oR) (N:=["_law_deal","_law_saying_here"]) (ix:=[none,some 2]) rfl (by walk_at "c") (bC (pvA ji)) (by intros; exact (aq (i:=0) (show (["_law_deal","_law_saying_here"]:List Str).Nodup by decide +kernel) rfl (Nb rfl))) (by intros; exact bq) (by intros; exact (ff bY (aM bt (pv 0) (aM bt (pv 1) ao (fun _ _=>rfl)) (fun _ _=>rfl)) (aM bt (pv 1) ao (fun _ _=>rfl)) (aO _)))))) aI)
  (af (bd (aP bY (aM bt (pvA bK) ao (fun _ _=>rfl)) bh (aO _)) (ai (aw (ak U4 (hr.mono (by omega)) (ad (pvA ji) (aE (aM bi (pvA d4) (aM bt (pvA bK) ao (fun _ _=>rfl)) (fun _ _=>rfl)) (aZ (aG bj rfl B.len OW (ad (pvA d4) ae)) ae)))))) aI)
  (af (az (i:=3) kb.nd rfl (Nb rfl) (ak U31 (hr.mono (by omega)) (ad (pvA ji) (ad (pvA d4) (aE (aM bt (pvA bK) (DZ A5 ao) (fun _ _=>rfl)) ae)))))
  (af (bd (aP bY (aM bt (pvA bK) ao (fun _ _=>rfl)) bh (aO _)) (ai (aw (bo (sc:=(ab b9)) (NX:=oR) (N:=ur) (ix:=[none]) rfl (by walk_at "c") (bC (pvA fm)) (by intros; exact (aq (i:=0) (show (ur:List Str).Nodup by decide +kernel) rfl (Nb rfl))) (by intros; exact bq) (by intros; exact (A3 (pv 0)))))) aI)
  (af (bd (aP bY (aM bt (pvA bK) ao (fun _ _=>rfl)) bh (aO _)) (ai (aw (ak U29 (hr.mono (by omega)) (aE (aM bi (pvA d4) (aM bt (pvA bK) ao (fun _ _=>rfl)) (fun _ _=>rfl)) (ad (pvA fm) ae))))) aI)
  (af (bd (aP bY (aM bt (pvA bK) ao (fun _ _=>rfl)) bh (aO _)) (ai (aw (ak U26 (hr.mono (by omega)) (ad (pvA d4) (aE (aM bt (pvA bK) ao (fun _ _=>rfl)) (ad (pvA fm) ae)))))) aI)
  (af (bd (aP bY (aM bt (pvA bK) ao (fun _ _=>rfl)) bh (aO _)) (ai (aw (ak U10 (hr.mono (by omega)) (ad (pvA d4) (aE (aM bt (pvA bK) ao (fun _ _=>rfl)) (ad (pvA fm) ae)))))) aI)
  (af (az (i:=4) kb.nd rfl (Nb rfl) (ak U31 (hr.mono (by omega)) (ad (pvA ji) (ad (pvA d4) (aE (aM bt (pvA bK) ao (fun _ _=>rfl)) ae)))))
  (af (bd (aP bY (aM bt (pvA bK) ao (fun _ _=>rfl)) bh (aO _)) (ai (aw (bo (sc:=(ab b9)) (NX:=oR) (N:=je) (ix:=[none,none]) rfl (by walk_at "c") (iV aR aR rfl B.zip (ad (pvA rg) (ad (pvA fm) ae))) (by intros; exact (cH rfl (aN (aq (i:=0) (show (je:List Str).Nodup by decide +kernel) rfl (Nb rfl)) (aN (aq (i:=1) (show (je:List Str).Nodup by decide +kernel) rfl (Nb rfl)) b8)))) (by intros; exact bq) (by intros; exact (jz (pv 0) (g9 (pv 1))))))) aI)
  (ai (aw (bo (sc:=(ab b9)) (NX:=oR) (N:=je) (ix:=[none,none]) rfl (by walk_at "c") (iV aR aR rfl B.zip (ad (pvA rg) (ad (pvA fm) ae))) (by intros; exact (cH rfl (aN (aq (i:=0) (show (je:List Str).Nodup by decide +kernel) rfl (Nb rfl)) (aN (aq (i:=1) (show (je:List Str).Nodup by decide +kernel) rfl (Nb rfl)) b8)))) (by intros; exact bq) (by intros; exact (Ju (pv 0) (g9 (pv 1)))))))))))))))),Cd h⟩
theorem y9 (D:Def K mg "_law_viewed" cL xp f fd) (B:Blt mg) {G:GF} (T:fw P w K mg G) (U16:Jh P w K mg base G 4) (U13:Fn P w K mg base 1):Ft P w K mg base G 5:=by
 refine D.ok iM (by walk_at "l") fun _ _ _ _ _ _ _ _ hr h=>?_
 have hux:=hr.units64
 exact ⟨jb K G,(af (bL ND rfl (gN aR rfl B.enumerate (by decide) (ad (pvA xV) ae)) (cH rfl (aN (aq (i:=2) iM.nd rfl (Nb rfl)) (aN (aq (i:=3) iM.nd rfl (Nb rfl)) b8))) (af (az (i:=4) iM.nd rfl (Nb rfl) (gq U16 (rmD hr) T.cl_Table (pvA xU) (ad (pvA xW) ae)))
  (af (bd (PW.pt (mq (bV (bG (ak U13 (rmD hr) (ad (pvA kd) ae)))) (jy (aP (Cf hux) (pvA kd) (pvA xX) (aO _))))) (ai (aw cg)) aI)
  (ai (cx (FZ N6 S8 S9 Be (pvA kd)))))))
  (ai (aw cg))),yC h⟩
theorem ye (D:Def K mg "_law_show_on" bv xa f fd) (B:Blt mg) {G:GF} (T:fw P w K mg G) (U17:Ji P w K mg base G 5) (U19:AV P w K mg base 1):Fu P w K mg base G 6:=by
 refine D.ok fH (by walk_at "l") fun _ _ _ _ _ _ _ _ hr h=>?_
 exact ⟨iG K G,(af (az (i:=5) fH.nd rfl (PB rfl) (ax bW (pvA ju) (pvA nL)))
  (af (az (i:=6) fH.nd rfl (PB rfl) (ax bW (ax cD (pvA ju) ao) (ax bN (pvA nL) ao)))
  (af (az (i:=7) fH.nd rfl (PB rfl) (ax bW (ax cD (pvA ju) ao) (aG bj rfl B.len OW (aE (aM bi (pvA js) ao (fun _ _=>rfl)) ae))))
  (af (cx (gq U17 (rmD hr) T.cl_Table (pvA vQ) (ad (pvA nM) (ad (pvA vS) (Iz (cy (ad (pvA vT) ae)) ae)))))
  (af (az (i:=8) fH.nd rfl (PB rfl) (bo (sc:=(ab bv)) (NX:=np) (N:=JM) (ix:=[none,some 6,some 7]) rfl (by walk_at "c") (bC (pvA js)) (by intros; exact (aq (i:=0) (show (JM:List Str).Nodup by decide +kernel) rfl (Nb rfl))) (by intros; exact bq) (by intros; exact (ff bY (aM bt (pv 0) (pv 2) (fun _ _=>rfl)) (pv 1) (aO _)))))
  (ai (hJ (ak U19 (rmD hr) (bE (bo (sc:=(ab bv)) (NX:=np) (N:=JK) (ix:=[none,some 8,some 2,some 5]) rfl (by walk_at "c") (cN rfl B.range (aZ (aG bj rfl B.len OW (ad (pvA js) ae)) ae)) (by intros; exact (aq (i:=0) (show (JK:List Str).Nodup by decide +kernel) rfl (Nb rfl))) (by intros; exact bq) (by intros; exact (ck (aE (aM bi (aM bi (pv 2) (pv 3) (fun _ _=>rfl)) (pv 0) (fun _ _=>rfl)) (aE (aM bi (pv 1) (pv 0) (fun _ _=>rfl)) ae))))) ae)) (iT (pvA vR) (pvA nM) jj)))))))),wW h⟩
theorem Mb (D:Def K mg "law" eh uq f fd) (B:Blt mg) {G:GF} (T:fw P w K mg G) (U11:Jj P w K mg base G 1) (U23:FnI P w K mg base 6 G.Table jd (gD K G)) (U5:Fv P w K mg base G 40) (U20:Jk P w K mg base G 41) (U36:ut P w K mg base 1) (U21:AW P w K mg base 1) (U19:AV P w K mg base 1) (U34:Fm P w K mg base 3) (U31:JO P w K mg base 39) (U12:Fq P w K mg base 72) (U6:Fu P w K mg base G 6) (U0:Fo P w K mg base 1) (U14:Ft P w K mg base G 5) (U42:E3 P w K mg base 5):dz P w K mg base CX0 73 f fd uq (wf K):=by
 refine D.fn.ok fI (by walk_at "l") fun _ _ _ _ _ _ _ _ hr h=>?_
 have hux:=hr.units64
 exact ⟨AI K G,(af (hJ (ak U34 (rmD hr) (ad (pvA kM) (ar ao (aE (aM bi (cy (ar ao (ar ao ae))) (cO ze rfl B.int VE (uR (ff bY (ax bW (ak U36 (rmD hr) (ad (pvA kM) (ar ao ae))) ao) ao (aO _)) ae)) (fun _ _=>rfl)) ae)))) (cH rfl (aN (aq (i:=1) fI.nd rfl (Nb rfl)) (aN (aq (i:=2) fI.nd rfl (Nb rfl)) b8))))
  (af (az (i:=3) fI.nd rfl (Nb rfl) (aG bj rfl B.len OW (ad (pvA yW) ae)))
  (af (az (i:=4) fI.nd rfl (Nb rfl) (ak U42 (rmD hr) (ad (pvA uu) (ad (pvA yW) ae))))
  (af (az (i:=5) fI.nd rfl (PB rfl) (cy ae))
  (af (bL ND rfl (cN rfl B.range (ad (pvA uv) ae)) (aq (i:=6) fI.nd rfl (PB rfl)) (ai (cx (mw N6 OP OQ gc (pvA iN) (aZ (ak U19 (rmD hr) (bE (bo (sc:=(ab eh)) (NX:=iR) (N:=EY) (ix:=[none,some 6]) rfl (by walk_at "c") (bC (pvA kN)) (by intros; exact (aq (i:=0) (show (EY:List Str).Nodup by decide +kernel) rfl (Nb rfl))) (by intros; exact bq) (by intros; exact (cO vy rfl B.tuple QY (bE (bo (sc:=_) (hsc:=rfl) (NX:=EY) (N:=EU) (ix:=[none,none,some 1]) rfl (by walk_at "e") (gN eD rfl B.enumerate (by decide) (ad (pv 0) ae)) (by intros; exact (cH rfl (aN (aq (i:=0) (show (EU:List Str).Nodup by decide +kernel) rfl (Nb rfl)) (aN (aq (i:=1) (show (EU:List Str).Nodup by decide +kernel) rfl (Nb rfl)) b8)))) (by intros; exact (kn (aP bY (pv 1) (pv 2) (aO _)))) (by intros; exact (pv 0))) ae)))) ae)) ae)))))
  (af (az (i:=7) fI.nd rfl (Nb rfl) (IC U23 (rmD hr) T.m_Table (ad (pvA uu) (ad (pvA yW) ae))))
  (af (bL ND rfl (cN rfl B.range (aX (ax bW (ak U36 (rmD hr) (ad (pvA kM) (ar ao ae))) ao) ae)) (aq (i:=8) fI.nd rfl (Nb rfl)) (af (az (i:=9) fI.nd rfl (Nb rfl) (ak U12 (rmD hr) (ad (pvA kM) (aX (ax bN ao (ax fR ao (pvA uw))) (ad (pvA uu) (ad (pvA uv) (ar ao ae)))))))
  (af (az (i:=10) fI.nd rfl (Nb rfl) (ak U21 (rmD hr) (aX (ax cD (ak U36 (rmD hr) (ad (pvA kM) (ar ao ae))) (aM bi (cy (ar ao (ar ao (ar ao (ar ao ae))))) (pvA uw) (fun _ _=>rfl))) (ad (pvA uv) ae))))
  (af (az (i:=11) fI.nd rfl (PB rfl) (ak U31 (rmD hr) (ad (pvA kN) (ad (pvA iN) (ad (pvA kO) ae)))))
  (af (bd (bV (bG (ak U0 (rmD hr) (aZ (gq U5 (rmD hr) T.cl_Table (pvA iO) (ad (pvA kO) ae)) (ad (pvA Cv) ae))))) (ai (aw cg)) aI)
  (af (az (i:=12) fI.nd rfl (Nb rfl) (gq U20 (rmD hr) T.cl_Table (pvA iO) (ad (pvA Cu) (ad (pvA kO) ae))))
  (af (bd (bV (bG (ak U0 (rmD hr) (ad (pvA Cw) (ad (pvA Cv) ae))))) (ai (aw cg)) aI)
  (af (cx (FZ N6 S8 S9 Be (pvA Cw)))
  (af (bL ND rfl (oT (pvA Cu)) (aq (i:=6) fI.nd rfl (PB rfl)) (ai (hJ (ak U19 (rmD hr) (bE (bo (sc:=(ab eh)) (NX:=iR) (N:=JL) (ix:=[none,some 11,some 5,some 6]) rfl (by walk_at "c") (cN rfl B.range (aZ (aG bj rfl B.len OW (ad (pvA kN) ae)) ae)) (by intros; exact (aq (i:=0) (show (JL:List Str).Nodup by decide +kernel) rfl (Nb rfl))) (by intros; exact bq) (by intros; exact (ck (aE (aM bi (aM bi (pv 2) (pv 3) (fun _ _=>rfl)) (pv 0) (fun _ _=>rfl)) (aE (aM bi (pv 1) (pv 0) (fun _ _=>rfl)) ae))))) ae)) (iT (pvA iN) (pvA KR) jj))))
  (af (bd (PW.pt (mq (bV (bG (ak U14 (rmD hr) (ad (pvA iO) (ad (pvA iN) ae))))) (jy (bV (bG (ak U14 (rmD hr) (ad (pvA iO) (ad (pvA iN) ae)))))))) (ai (aw cg)) aI)
  (af (bd (bV (bG (ak U0 (rmD hr) (aZ (gq U5 (rmD hr) T.cl_Table (pvA iO) (ad (pvA kO) ae)) (aZ (ak U31 (rmD hr) (ad (pvA kN) (ad (pvA iN) (ad (pvA kO) ae)))) ae))))) (ai (aw cg)) aI)
  (ai (bd (PW.pt (A2 (aP nO (pvA uu) ao (aO _)) (Df (aP bY (ax bW (ax cD (ak U36 (rmD hr) (ad (pvA kM) (ar ao ae))) (aM bi (cy (ar ao (ar ao (ar ao (ar ao ae))))) (pvA uw) (fun _ _=>rfl))) ao) ao (aO _))))) (af (cx (ak U6 (rmD hr) (ad (pvA iO) (ad (pvA kN) (ad (pvA iN) (aZ (ak U36 (rmD hr) (ad (pvA kM) (aX (ax bN ao (pvA uw)) ae))) (ad (pvA uv) ae)))))))
  (ai (bd (bV (bG (ak U0 (rmD hr) (aZ (gq U5 (rmD hr) T.cl_Table (pvA iO) (ad (pvA kO) ae)) (aZ (ak U31 (rmD hr) (ad (pvA kN) (ad (pvA iN) (ad (pvA kO) ae)))) ae))))) (ai (aw cg)) aI))) aI)))))))))))))
  (ai (aw (jz (ak U14 (rmD hr) (ad (pvA iO) (ad (pvA iN) ae))) (g9 (ff (IO hux) (GO U11 (rmD hr) T.cl_Table (pvA iO)) (pvA kN) (aO _))))))))))))),LZ h⟩
theorem Av {G:GF} (D:BQ K G.Table "Table.__init__" dS jd f fd) (B:Blt mg) (T:fw P w K mg G) (U42:E3 P w K mg base 5) (U25:Fa P w K mg base 2):FnI P w K mg base 6 G.Table jd (gD K G):=by
 refine D.ok An (by walk_at "l") fun _ _ _ _ _ _ _ _ hr h=>?_
 exact ⟨jQ K G,(af (oU (pvA dG) (ak U42 (rmD hr) (ad (pvA pH) (ad (pvA kP) ae))) rfl)
  (af (oU (pvA dG) (pvA pH) rfl)
  (af (oU (pvA dG) (cO pi rfl B.list Qb (ad (pvA kP) ae)) rfl)
  (af (oU (pvA dG) (aG bj rfl B.len OW (ad (pvA kP) ae)) rfl)
  (af (oU (pvA dG) (bo (sc:=(ab dS)) (NX:=jd) (N:=["hand","self"]) (ix:=[none,some 0]) rfl (by walk_at "c") (cN rfl B.range (b7 (dM (pvA dG) rfl) ae)) (by intros; exact (aq (i:=0) (show (["hand","self"]:List Str).Nodup by decide +kernel) rfl (Nb rfl))) (by intros; exact bq) (by intros; exact (ak U25 (rmD hr) (b7 (dM (pv 1) rfl) (ad (pv 0) ae))))) rfl)
  (ai (oU (pvA dG) (cy ae) rfl))))))),zM T.ct h⟩
theorem za {G:GF} (D:jp K G.Table "deals" "Table.deals" gK ["self"] f fd) (B:Blt mg) (T:fw P w K mg G):Jj P w K mg base G 1:=by
 refine D.ok yX (by walk_at "l") fun _ _ _ _ _ _ _ _ hr h=>?_
 exact ⟨i9 K G,(ai (aw (cO pi rfl B.list Qb (b7 (dM (pvA xY) rfl) ae)))),yz T.ct h⟩
theorem Aw {G:GF} (D:jp K G.Table "view" "Table.view" ga ow f fd) (B:Blt mg) (T:fw P w K mg G) (U37:yK P w K mg base 3) (U3:xL P w K mg base 1):Jh P w K mg base G 4:=by
 refine D.ok Ao (by walk_at "l") fun _ _ _ _ _ _ _ _ hr h=>?_
 exact ⟨jR K G,(af (cx (ak U3 (rmD hr) (aZ (ak U37 (rmD hr) (ad (pvA pJ) (b7 (dM (pvA pI) rfl) ae))) (ar bh ae))))
  (ai (aw (cO pi rfl B.list Qb (aE (aM bi (dM (pvA pI) rfl) (pvA pJ) (fun _ _=>rfl)) ae))))),zO T.ct h⟩
theorem Ax {G:GF} (D:jp K G.Table "word" "Table.word" eW mI f fd) (B:Blt mg) (T:fw P w K mg G) (U15:Fw P w K mg base G 3) (U5:Fv P w K mg base G 40) (U30:E2 P w K mg base 3) (U3:xL P w K mg base 1):Jk P w K mg base G 41:=by
 refine D.ok Ap (by walk_at "l") fun _ _ _ _ _ _ _ _ hr h=>?_
 exact ⟨jS K G,(af (cx (ak U3 (rmD hr) (aZ (ak U30 (rmD hr) (ad (pvA pL) (b7 (dM (pvA kQ) rfl) ae))) (ar bh ae))))
  (ai (aw (gq U15 (rmD hr) T.cl_Table (pvA kQ) (ad (pvA pL) (aZ (gq U5 (rmD hr) T.cl_Table (pvA kQ) (ad (pvA yY) ae)) ae)))))),zQ T.ct h⟩
theorem Ay {G:GF} (D:jp K G.Table "show" "Table.show" dk xl f fd) (B:Blt mg) (T:fw P w K mg G) (m_set:mg "set"=none) (U15:Fw P w K mg base G 3) (U28:Fi P w K mg base 4) (U37:yK P w K mg base 3) (U18:Fj P w K mg base 1) (U3:xL P w K mg base 1):Ji P w K mg base G 5:=by
 refine D.ok rh (by walk_at "l") fun _ _ _ _ _ _ _ _ hr h=>?_
 exact ⟨jT K G,(af (cx (ak U3 (rmD hr) (aZ (ak U37 (rmD hr) (ad (pvA pM) (b7 (dM (pvA gb) rfl) ae))) (ar bh ae))))
  (af (cx (ak U3 (rmD hr) (aZ (ak U37 (rmD hr) (ad (pvA yZ) (aX (ax bN (dM (pvA gb) rfl) ao) ae))) (ar bh ae))))
  (af (cx (ak U3 (rmD hr) (aZ (ak U28 (rmD hr) (ad (pvA pO) (b7 (dM (pvA gb) rfl) ae))) (ar bh ae))))
  (af (az (i:=4) rh.nd rfl (PB rfl) (ER rfl B.sorted m_set (ad (pvA pO) ae)))
  (ai (aw (gq U15 (rmD hr) T.cl_Table (pvA gb) (bF (ck (ad (pvA pM) ae)) (bE (bo (sc:=(ab dk)) (NX:=uh) (N:=qD) (ix:=[none,some 2,some 4]) rfl (by walk_at "c") (bC (dM (pvA gb) rfl)) (by intros; exact (aq (i:=0) (show (qD:List Str).Nodup by decide +kernel) rfl (Nb rfl))) (by intros; exact bq) (by intros; exact (ak U18 (rmD hr) (ad (pv 0) (ad (pv 1) (ad (pv 2) ae)))))) ae))))))))),zR T.ct h⟩
theorem yf {G:GF} (D:jp K G.Table "truths" "Table.truths" em ox f fd) (B:Blt mg) (T:fw P w K mg G) (U35:E7 P w K mg base 6) (U33:JP P w K mg base 39):Fv P w K mg base G 40:=by
 refine D.ok xZ (by walk_at "l") fun _ _ _ _ _ _ _ _ hr h=>?_
 exact ⟨iE K G,(af (bd (bV (bG (ak U35 (rmD hr) (b7 (dM (pvA gy) rfl) (b7 (dM (pvA gy) rfl) (ad (pvA nN) ae)))))) (ai pR) aI)
  (ai (aw (ak U33 (rmD hr) (b7 (dM (pvA gy) rfl) (b7 (dM (pvA gy) rfl) (ad (pvA nN) ae))))))),wS T.ct h⟩
theorem zb {G:GF} (D:jp K G.Table "learn" "Table.learn" dq xn f fd) (B:Blt mg) (T:fw P w K mg G) (U49:Fb P w K mg base 2):Fw P w K mg base G 3:=by
 refine D.ok pP (by walk_at "l") fun _ _ _ _ _ _ _ _ hr h=>?_
 exact ⟨ja K G,(af (bL ND rfl (oT (pvA oC)) (aq (i:=3) pP.nd rfl (Nb rfl)) (ai (hJ (ak U49 (rmD hr) (aE (aM bi (dM (pvA ke) rfl) (pvA oE) (fun _ _=>rfl)) (ad (pvA kf) ae))) (iT (dM (pvA ke) rfl) (pvA oE) jj))))
  (af (cx (mw N6 OP OQ gc (dM (pvA ke) rfl) (bF (ck (ad (pvA oC) (ad (pvA kf) ae))) ae)))
  (ai (aw (cO pi rfl B.list Qb (ad (pvA kf) ae)))))),yA T.ct h⟩
theorem MJ (B:Blt mg) {G:GF} {f1:Addr} {fd1:Nr} (V96:Def K mg "is_whole" jY qF f1 fd1) {f2:Addr} {fd2:Nr} (V87:Def K mg "is_within" fJ mG f2 fd2) {f3:Addr} {fd3:Nr} (V92:Def K mg "is_below" iH om f3 fd3) {f4:Addr} {fd4:Nr} (V85:Def K mg "are_hands" ek xB f4 fd4) {f5:Addr} {fd5:Nr} (V100:Def K mg "is_pack" ie d8 f5 fd5) {f6:Addr} {fd6:Nr} (V94:Def K mg "how_many" ee d8 f6 fd6) {f7:Addr} {fd7:Nr} (V99:Def K mg "choices" gd xD f7 fd7) {f8:Addr} {fd8:Nr} (V97:Def K mg "deals_of" fC d8 f8 fd8) {f9:Addr} {fd9:Nr} (V57:Def K mg "with_one_more" bS xE f9 fd9) {f10:Addr} {fd10:Nr} (V93:Def K mg "cards_of" iI oq f10 fd10) {f11:Addr} {fd11:Nr} (V90:Def K mg "is_saying" cW lz f11 fd11) {f12:Addr} {fd12:Nr} (V98:Def K mg "is_word" ii lz f12 fd12) {f13:Addr} {fd13:Nr} (V109:Def K mg "fits" lJ ly f13 fd13) {f14:Addr} {fd14:Nr} (V95:Def K mg "parts_of" gu xJ f14 fd14) {f15:Addr} {fd15:Nr} (V63:Def K mg "parts_of_all" dD xI f15 fd15) {f16:Addr} {fd16:Nr} (V80:Def K mg "first_view" fX oo f16 fd16) {f17:Addr} {fd17:Nr} (V104:Def K mg "split" mP ou f17 fd17) {f18:Addr} {fd18:Nr} (V56:Def K mg "least_with_same" bM ["marks"] f18 fd18) {f19:Addr} {fd19:Nr} (V103:Def K mg "joined" eR xF f19 fd19) {f20:Addr} {fd20:Nr} (V107:Def K mg "link" j3 xr f20 fd20) {f21:Addr} {fd21:Nr} (V101:Def K mg "end_of" jq xz f21 fd21) {f22:Addr} {fd22:Nr} (V88:Def K mg "truths_of" bT ul f22 fd22) {f23:Addr} {fd23:Nr} (V106:Def K mg "both" nC eZ f23 fd23) {f24:Addr} {fd24:Nr} (V102:Def K mg "either" jr eZ f24 fd24) {f25:Addr} {fd25:Nr} (V105:Def K mg "known" gR xy f25 fd25) {f26:Addr} {fd26:Nr} (V62:Def K mg "known_to_all" cT xC f26 fd26) {f27:Addr} {fd27:Nr} (V108:Def K mg "seen" nG mJ f27 fd27) {f28:Addr} {fd28:Nr} (V58:Def K mg "refuse_unless" fE qE f28 fd28) {f29:Addr} {fd29:Nr} (V83:Def K mg "are_cards" gS on f29 fd29) {f30:Addr} {fd30:Nr} (V73:Def K mg "least_held" dQ qD f30 fd30) {f31:Addr} {fd31:Nr} (V91:Def K mg "_law_cell" fL xk f31 fd31) {f32:Addr} {fd32:Nr} (V64:Def K mg "_law_product" dE xH f32 fd32) {f33:Addr} {fd33:Nr} (V77:Def K mg "_law_count" dR xo f33 fd33) {f34:Addr} {fd34:Nr} (V89:Def K mg "_law_pack" cX xi f34 fd34) {f35:Addr} {fd35:Nr} (V74:Def K mg "_law_least" dh xG f35 fd35) {f36:Addr} {fd36:Nr} (V68:Def K mg "_law_wholes" fk oy f36 fd36) {f37:Addr} {fd37:Nr} (V55:Def K mg "_law_truths_told" cn mH f37 fd37) {f38:Addr} {fd38:Nr} (V79:Def K mg "_law_words" eV um f38 fd38) {f39:Addr} {fd39:Nr} (V76:Def K mg "_law_group" fZ ol f39 fd39) {f40:Addr} {fd40:Nr} (V82:Def K mg "_law_pool" cI xf f40 fd40) {f41:Addr} {fd41:Nr} (V67:Def K mg "_law_saying" bw xc f41 fd41) {f42:Addr} {fd42:Nr} (V84:Def K mg "_law_kept" cY xm f42 fd42) {f43:Addr} {fd43:Nr} (V81:Def K mg "_law_each" cJ oS f43 fd43) {f44:Addr} {fd44:Nr} (V65:Def K mg "_law_shared" cv oS f44 fd44) {f45:Addr} {fd45:Nr} (V59:Def K mg "_law_sighted" bJ xg f45 fd45) {f46:Addr} {fd46:Nr} (V86:Def K mg "_law_read" b9 ug f46 fd46) {f47:Addr} {fd47:Nr} (V69:Def K mg "_law_viewed" cL xp f47 fd47) {f48:Addr} {fd48:Nr} (V61:Def K mg "_law_show_on" bv xa f48 fd48) {f49:Addr} {fd49:Nr} (V110:Def K mg "law" eh uq f49 fd49) {f50:Addr} {fd50:Nr} (V78:BQ K G.Table "Table.__init__" dS jd f50 fd50) {f51:Addr} {fd51:Nr} (V66:jp K G.Table "deals" "Table.deals" gK ["self"] f51 fd51) {f52:Addr} {fd52:Nr} (V71:jp K G.Table "view" "Table.view" ga ow f52 fd52) {f53:Addr} {fd53:Nr} (V75:jp K G.Table "word" "Table.word" eW mI f53 fd53) {f54:Addr} {fd54:Nr} (V72:jp K G.Table "show" "Table.show" dk xl f54 fd54) {f55:Addr} {fd55:Nr} (V60:jp K G.Table "truths" "Table.truths" em ox f55 fd55) {f56:Addr} {fd56:Nr} (V70:jp K G.Table "learn" "Table.learn" dq xn f56 fd56) (T:fw P w K mg G) {t_MOST_CARDS:Tok} (m_MOST_CARDS:mg "MOST_CARDS"=some (.int 12 t_MOST_CARDS)) {t_MOST_HANDS:Tok} (m_MOST_HANDS:mg "MOST_HANDS"=some (.int 5 t_MOST_HANDS)) {t_MOST_DEALS:Tok} (m_MOST_DEALS:mg "MOST_DEALS"=some (.int 2000 t_MOST_DEALS)) {t_MOST_WORDS:Tok} (m_MOST_WORDS:mg "MOST_WORDS"=some (.int 30 t_MOST_WORDS)) (m_set:mg "set"=none):dz P w K mg base CX0 73 f49 fd49 uq (wf K):=by
 have U11:Jj P w K mg base G 1:=za V66 B T
 have U44:Je P w K mg base 1:=FH V99 B
 have U41:E1 P w K mg base 1:=C9 V96 B
 have U32:Cj P w K mg base 2:=Cy V87 B U41
 have U45:Jd P w K mg base 3:=FG V100 B m_MOST_CARDS m_MOST_HANDS U32
 have U39:Jf P w K mg base 4:=Db V94 B U44 U45
 have U2:Jg P w K mg base 1:=vU V57 B
 have U42:E3 P w K mg base 5:=Dc V97 B m_MOST_DEALS U39 U2
 have U38:E4 P w K mg base 1:=Dd V93 B
 have U1:AS P w K mg base 1:=tw V56 B
 have U25:Fa P w K mg base 2:=Aq V80 B U38 U1
 have U23:FnI P w K mg base 6 G.Table jd (gD K G):=Av V78 B T U42 U25
 have U30:E2 P w K mg base 3:=Cz V85 B U32
 have U37:yK P w K mg base 3:=Da V92 B U32
 have U54:E8 P w K mg base 4:=KS V109 B U30 U37
 have U43:E5 P w K mg base 5:=FI V98 B T U54
 have U40:E9 P w K mg base 1:=De V95 B T
 have U8:E6 P w K mg base 2:=ya V63 B U40
 have U35:E7 P w K mg base 6:=CA V90 B m_MOST_WORDS U41 U43 U8
 have U51:AU P w K mg base 1:=KW V106 B
 have U47:Fe P w K mg base 1:=Hj V102 B
 have U46:AT P w K mg base 1:=Hi V101 B
 have U52:Fc P w K mg base 2:=KU V107 B U46
 have U48:Fd P w K mg base 3:=Hh V103 B U46 U52
 have U50:xK P w K mg base 1:=Jt V105 B
 have U7:Ff P w K mg base 2:=yb V62 B U51 U50
 have U53:Fh P w K mg base 2:=KY V108 B U50
 have U33:JP P w K mg base 39:=tz V88 B U51 U38 U47 U48 U50 U7 U53 35
 have U5:Fv P w K mg base G 40:=yf V60 B T U35 U33
 have U49:Fb P w K mg base 2:=Js V104 B U1
 have U15:Fw P w K mg base G 3:=zb V70 B T U49
 have U3:xL P w K mg base 1:=vV V58 B
 have U20:Jk P w K mg base G 41:=Ax V75 B T U15 U5 U30 U3
 have U36:ut P w K mg base 1:=CC V91 B
 have U21:AW P w K mg base 1:=Au V76 B
 have U19:AV P w K mg base 1:=At V74 B
 have U9:Fk P w K mg base 1:=yc V64 B
 have U22:Fl P w K mg base 2:=As V77 B U9
 have U34:Fm P w K mg base 3:=CD V89 B U36 U22
 have U29:AX P w K mg base 1:=CH V84 B
 have U26:AY P w K mg base 2:=CI V81 B U29
 have U10:Fr P w K mg base 3:=y8 V65 B U26
 have U4:Fs P w K mg base 1:=yd V59 B
 have U31:JO P w K mg base 39:=tF V86 B U26 U29 U10 U4 35
 have U27:Fp P w K mg base 2:=CG V82 B U36
 have U24:JN P w K mg base 71:=rj V79 B 70
 have U12:Fq P w K mg base 72:=y7 V67 B U36 U21 U27 U24
 have U28:Fi P w K mg base 4:=CB V83 B U37
 have U18:Fj P w K mg base 1:=Ar V73 B
 have U17:Ji P w K mg base G 5:=Ay V72 B T m_set U15 U28 U37 U18 U3
 have U6:Fu P w K mg base G 6:=ye V61 B T U17 U19
 have U0:Fo P w K mg base 1:=rB V55 B
 have U16:Jh P w K mg base G 4:=Aw V71 B T U37 U3
 have U13:Fn P w K mg base 1:=y6 V68 B
 have U14:Ft P w K mg base G 5:=y9 V69 B T U16 U13
 exact Mb V110 B T U11 U23 U5 U20 U36 U21 U19 U34 U31 U12 U6 U0 U14 U42
end
@[elab_as_elim] theorem ofLen1 {α:Type} {P:List α->Prop} (us:List α) (hl:us.length=1) (h:∀ a0:α,P [a0]):P us:=match us,hl with | [a0],_=>h a0
@[elab_as_elim] theorem ofLen2 {α:Type} {P:List α->Prop} (us:List α) (hl:us.length=2) (h:∀ a0 a1:α,P [a0,a1]):P us:=match us,hl with | [a0,a1],_=>h a0 a1
@[elab_as_elim] theorem ofLen3 {α:Type} {P:List α->Prop} (us:List α) (hl:us.length=3) (h:∀ a0 a1 a2:α,P [a0,a1,a2]):P us:=match us,hl with | [a0,a1,a2],_=>h a0 a1 a2
@[elab_as_elim] theorem ofLen4 {α:Type} {P:List α->Prop} (us:List α) (hl:us.length=4) (h:∀ a0 a1 a2 a3:α,P [a0,a1,a2,a3]):P us:=match us,hl with | [a0,a1,a2,a3],_=>h a0 a1 a2 a3
@[elab_as_elim] theorem ofLen5 {α:Type} {P:List α->Prop} (us:List α) (hl:us.length=5) (h:∀ a0 a1 a2 a3 a4:α,P [a0,a1,a2,a3,a4]):P us:=match us,hl with | [a0,a1,a2,a3,a4],_=>h a0 a1 a2 a3 a4
local macro_rules | `(tactic| walk_at "b1")=>`(tactic| exact fun _ _ _ _ _ _ us hl=>ofLen1 us hl fun _=>rfl)
local macro_rules | `(tactic| walk_at "b2")=>`(tactic| exact fun _ _ _ _ _ _ us hl=>ofLen2 us hl fun _ _=>rfl)
local macro_rules | `(tactic| walk_at "b3")=>`(tactic| exact fun _ _ _ _ _ _ us hl=>ofLen3 us hl fun _ _ _=>rfl)
local macro_rules | `(tactic| walk_at "b4")=>`(tactic| exact fun _ _ _ _ _ _ us hl=>ofLen4 us hl fun _ _ _ _=>rfl)
local macro_rules | `(tactic| walk_at "b5")=>`(tactic| exact fun _ _ _ _ _ _ us hl=>ofLen5 us hl fun _ _ _ _ _=>rfl)
theorem all_mk {l:W.OpenLaw} {w:World} {K:Fg} {h:Heap} {mg:Str->Option Value} {fa:Addr} (X:K.In h) (G:h.Ns NJ mg) (hfa:mg "law"=some (.ref fa))
  {t_MOST_CARDS:Tok}  {t_MOST_HANDS:Tok}  {t_MOST_DEALS:Tok}  {t_MOST_WORDS:Tok}   {aF fm1 fm2 fm3 fm4 fm5 fm6 fm7 fm8:Addr} {tk1 tk2 tk3 tk4 tk5 tk6 tk7 tk8 tu1 tu2 tu3 tu4 tu5 tu6 tu7 tu8 tu9 tu10 tu11 tu12 tu13 tu14:Tok} {epF tn1 tn2 tn3 tn4 tn5 tn6 tn7 tn8:Nat} {to1 to2 to3 to4 to5 to6 to7 to8:Option Addr} {ts1 ts2 ts3 ts4 ts5 ts6 ts7 ts8:Array (Option Value)} {aT:Addr}
  (q1:DfA K "is_whole" jY)
  (q2:DfA K "is_within" fJ)
  (q3:DfA K "is_below" iH)
  (q4:DfA K "are_hands" ek)
  (q5:DfA K "is_pack" ie)
  (q6:DfA K "how_many" ee)
  (q7:DfA K "choices" gd)
  (q8:DfA K "deals_of" fC)
  (q9:DfA K "with_one_more" bS)
  (q10:DfA K "cards_of" iI)
  (q11:DfA K "is_saying" cW)
  (q12:DfA K "is_word" ii)
  (q13:DfA K "fits" lJ)
  (q14:DfA K "parts_of" gu)
  (q15:DfA K "parts_of_all" dD)
  (q16:DfA K "first_view" fX)
  (q17:DfA K "split" mP)
  (q18:DfA K "least_with_same" bM)
  (q19:DfA K "joined" eR)
  (q20:DfA K "link" j3)
  (q21:DfA K "end_of" jq)
  (q22:DfA K "truths_of" bT)
  (q23:DfA K "both" nC)
  (q24:DfA K "either" jr)
  (q25:DfA K "known" gR)
  (q26:DfA K "known_to_all" cT)
  (q27:DfA K "seen" nG)
  (q28:DfA K "refuse_unless" fE)
  (q29:DfA K "are_cards" gS)
  (q30:DfA K "least_held" dQ)
  (q31:DfA K "_law_cell" fL)
  (q32:DfA K "_law_product" dE)
  (q33:DfA K "_law_count" dR)
  (q34:DfA K "_law_pack" cX)
  (q35:DfA K "_law_least" dh)
  (q36:DfA K "_law_wholes" fk)
  (q37:DfA K "_law_truths_told" cn)
  (q38:DfA K "_law_words" eV)
  (q39:DfA K "_law_group" fZ)
  (q40:DfA K "_law_pool" cI)
  (q41:DfA K "_law_saying" bw)
  (q42:DfA K "_law_kept" cY)
  (q43:DfA K "_law_each" cJ)
  (q44:DfA K "_law_shared" cv)
  (q45:DfA K "_law_sighted" bJ)
  (q46:DfA K "_law_read" b9)
  (q47:DfA K "_law_viewed" cL)
  (q48:DfA K "_law_show_on" bv)
  (q49:DfA K "law" eh)
  (q50:MtA K aT "__init__" "Table.__init__" dS)
  (q51:MtA K aT "deals" "Table.deals" gK)
  (q52:MtA K aT "view" "Table.view" ga)
  (q53:MtA K aT "word" "Table.word" eW)
  (q54:MtA K aT "show" "Table.show" dk)
  (q55:MtA K aT "truths" "Table.truths" em)
  (q56:MtA K aT "learn" "Table.learn" dq)
  (y1:Ph K NJ "MOST_CARDS"=some (some (.int 12 t_MOST_CARDS)))
  (y2:Ph K NJ "MOST_HANDS"=some (some (.int 5 t_MOST_HANDS)))
  (y3:Ph K NJ "MOST_DEALS"=some (some (.int 2000 t_MOST_DEALS)))
  (y4:Ph K NJ "MOST_WORDS"=some (some (.int 30 t_MOST_WORDS)))
  (y5:Ph K NJ "set"=some none)
  (x1:Ph K NJ "FORMS"=some (some (.ref aF)))
  (x2:K.lookup aF=some ⟨.type "dict",none,.dict #[⟨Of w.params "holds",.str "holds" tk1,.ref fm1⟩,⟨Of w.params "not",.str "not" tk2,.ref fm2⟩,⟨Of w.params "and",.str "and" tk3,.ref fm3⟩,⟨Of w.params "or",.str "or" tk4,.ref fm4⟩,⟨Of w.params "knows",.str "knows" tk5,.ref fm5⟩,⟨Of w.params "all",.str "all" tk6,.ref fm6⟩,⟨Of w.params "common",.str "common" tk7,.ref fm7⟩,⟨Of w.params "sees",.str "sees" tk8,.ref fm8⟩] epF,#[]⟩)
  (x3:K.lookup fm1=some ⟨.type "tuple",to1,.seq #[.str "holder" tu1,.str "card" tu2] tn1,ts1⟩)
  (x4:K.lookup fm2=some ⟨.type "tuple",to2,.seq #[.str "saying" tu3] tn2,ts2⟩)
  (x5:K.lookup fm3=some ⟨.type "tuple",to3,.seq #[.str "saying" tu4,.str "saying" tu5] tn3,ts3⟩)
  (x6:K.lookup fm4=some ⟨.type "tuple",to4,.seq #[.str "saying" tu6,.str "saying" tu7] tn4,ts4⟩)
  (x7:K.lookup fm5=some ⟨.type "tuple",to5,.seq #[.str "hand" tu8,.str "saying" tu9] tn5,ts5⟩)
  (x8:K.lookup fm6=some ⟨.type "tuple",to6,.seq #[.str "hands" tu10,.str "saying" tu11] tn6,ts6⟩)
  (x9:K.lookup fm7=some ⟨.type "tuple",to7,.seq #[.str "hands" tu12,.str "saying" tu13] tn7,ts7⟩)
  (x10:K.lookup fm8=some ⟨.type "tuple",to8,.seq #[.str "hand" tu14] tn8,ts8⟩)
  (x11:(aF == O4)=false)
  (x12:Ph K NJ "Table"=some (some (.ref aT)))
  (x13:W.plainGet K aT V8=true)
  (x14:W.hasDictIn K aT=true)
  (x15:W.plainOver K aT=true)
  (x16:RO K (.ref aT) "__setattr__"=some (some (.builtin "object.__setattr__")))
  (x17:W.makesIn K aT=true)
  (x18:W.keepIn K (.ref aT)=true)
  (x19:RO K (.ref aT) "dealt"=some none)
  (x20:RO K (.ref aT) "cards"=some none)
  (x21:RO K (.ref aT) "sizes"=some none)
  (x22:RO K (.ref aT) "hands"=some none)
  (x23:RO K (.ref aT) "views"=some none)
  (x24:RO K (.ref aT) "deeds"=some none)
  (z1:Ph K NJ "len"=some none) (z2:Ph K NJ "range"=some none) (z3:Ph K NJ "tuple"=some none) (z4:Ph K NJ "list"=some none) (z5:Ph K NJ "int"=some none) (z6:Ph K NJ "bool"=some none) (z7:Ph K NJ "str"=some none) (z8:Ph K NJ "dict"=some none) (z9:Ph K NJ "sum"=some none) (z10:Ph K NJ "all"=some none) (z11:Ph K NJ "min"=some none) (z12:Ph K NJ "max"=some none) (z13:Ph K NJ "sorted"=some none) (z14:Ph K NJ "enumerate"=some none) (z15:Ph K NJ "zip"=some none) (z16:Ph K NJ "isinstance"=some none):
  ∃ fd:Nr,(∀ (s:Shared) (v:Value),BindsTo s fd ⟨[v],[]⟩ [("_law_script",v)])/\∀ base:Heap,K.In base->base.Ns NJ mg->dz l.prog w K mg base CX0 73 fa fd uq (wf K):=by
 have B:Blt mg:=⟨Ot X G z1,Ot X G z2,Ot X G z3,Ot X G z4,Ot X G z5,Ot X G z6,Ot X G z7,Ot X G z8,Ot X G z9,Ot X G z10,Ot X G z11,Ot X G z12,Ot X G z13,Ot X G z14,Ot X G z15,Ot X G z16⟩
 obtain ⟨_,_,D1⟩:=q1.df (ps:=qF) X G (by walk_at "b1")
 obtain ⟨_,_,D2⟩:=q2.df (ps:=mG) X G (by walk_at "b3")
 obtain ⟨_,_,D3⟩:=q3.df (ps:=om) X G (by walk_at "b2")
 obtain ⟨_,_,D4⟩:=q4.df (ps:=xB) X G (by walk_at "b2")
 obtain ⟨_,_,D5⟩:=q5.df (ps:=d8) X G (by walk_at "b2")
 obtain ⟨_,_,D6⟩:=q6.df (ps:=d8) X G (by walk_at "b2")
 obtain ⟨_,_,D7⟩:=q7.df (ps:=xD) X G (by walk_at "b2")
 obtain ⟨_,_,D8⟩:=q8.df (ps:=d8) X G (by walk_at "b2")
 obtain ⟨_,_,D9⟩:=q9.df (ps:=xE) X G (by walk_at "b2")
 obtain ⟨_,_,D10⟩:=q10.df (ps:=oq) X G (by walk_at "b2")
 obtain ⟨_,_,D11⟩:=q11.df (ps:=lz) X G (by walk_at "b3")
 obtain ⟨_,_,D12⟩:=q12.df (ps:=lz) X G (by walk_at "b3")
 obtain ⟨_,_,D13⟩:=q13.df (ps:=ly) X G (by walk_at "b4")
 obtain ⟨_,_,D14⟩:=q14.df (ps:=xJ) X G (by walk_at "b1")
 obtain ⟨_,_,D15⟩:=q15.df (ps:=xI) X G (by walk_at "b1")
 obtain ⟨_,_,D16⟩:=q16.df (ps:=oo) X G (by walk_at "b2")
 obtain ⟨_,_,D17⟩:=q17.df (ps:=ou) X G (by walk_at "b2")
 obtain ⟨_,_,D18⟩:=q18.df (ps:=["marks"]) X G (by walk_at "b1")
 obtain ⟨_,_,D19⟩:=q19.df (ps:=xF) X G (by walk_at "b2")
 obtain ⟨_,_,D20⟩:=q20.df (ps:=xr) X G (by walk_at "b3")
 obtain ⟨_,_,D21⟩:=q21.df (ps:=xz) X G (by walk_at "b2")
 obtain ⟨_,_,D22⟩:=q22.df (ps:=ul) X G (by walk_at "b3")
 obtain ⟨_,_,D23⟩:=q23.df (ps:=eZ) X G (by walk_at "b2")
 obtain ⟨_,_,D24⟩:=q24.df (ps:=eZ) X G (by walk_at "b2")
 obtain ⟨_,_,D25⟩:=q25.df (ps:=xy) X G (by walk_at "b2")
 obtain ⟨_,_,D26⟩:=q26.df (ps:=xC) X G (by walk_at "b2")
 obtain ⟨_,_,D27⟩:=q27.df (ps:=mJ) X G (by walk_at "b2")
 obtain ⟨_,_,D28⟩:=q28.df (ps:=qE) X G (by walk_at "b2")
 obtain ⟨_,_,D29⟩:=q29.df (ps:=on) X G (by walk_at "b2")
 obtain ⟨_,_,D30⟩:=q30.df (ps:=qD) X G (by walk_at "b3")
 obtain ⟨_,_,D31⟩:=q31.df (ps:=xk) X G (by walk_at "b2")
 obtain ⟨_,_,D32⟩:=q32.df (ps:=xH) X G (by walk_at "b1")
 obtain ⟨_,_,D33⟩:=q33.df (ps:=xo) X G (by walk_at "b2")
 obtain ⟨_,_,D34⟩:=q34.df (ps:=xi) X G (by walk_at "b3")
 obtain ⟨_,_,D35⟩:=q35.df (ps:=xG) X G (by walk_at "b1")
 obtain ⟨_,_,D36⟩:=q36.df (ps:=oy) X G (by walk_at "b1")
 obtain ⟨_,_,D37⟩:=q37.df (ps:=mH) X G (by walk_at "b2")
 obtain ⟨_,_,D38⟩:=q38.df (ps:=um) X G (by walk_at "b1")
 obtain ⟨_,_,D39⟩:=q39.df (ps:=ol) X G (by walk_at "b2")
 obtain ⟨_,_,D40⟩:=q40.df (ps:=xf) X G (by walk_at "b4")
 obtain ⟨_,_,D41⟩:=q41.df (ps:=xc) X G (by walk_at "b5")
 obtain ⟨_,_,D42⟩:=q42.df (ps:=xm) X G (by walk_at "b2")
 obtain ⟨_,_,D43⟩:=q43.df (ps:=oS) X G (by walk_at "b3")
 obtain ⟨_,_,D44⟩:=q44.df (ps:=oS) X G (by walk_at "b3")
 obtain ⟨_,_,D45⟩:=q45.df (ps:=xg) X G (by walk_at "b3")
 obtain ⟨_,_,D46⟩:=q46.df (ps:=ug) X G (by walk_at "b3")
 obtain ⟨_,_,D47⟩:=q47.df (ps:=xp) X G (by walk_at "b2")
 obtain ⟨_,_,D48⟩:=q48.df (ps:=xa) X G (by walk_at "b5")
 obtain ⟨fd,D49,hb⟩:=q49.law X G (by walk_at "b1") hfa fun _ _ _ _ _ _ _ _=>.of_eq rfl
 obtain ⟨_,_,D50⟩:=q50.di (ps:=jd) x17 x18 (by walk_at "b3")
 obtain ⟨_,_,D51⟩:=q51.df (ps:=["self"]) (by walk_at "b1")
 obtain ⟨_,_,D52⟩:=q52.df (ps:=ow) (by walk_at "b2")
 obtain ⟨_,_,D53⟩:=q53.df (ps:=mI) (by walk_at "b3")
 obtain ⟨_,_,D54⟩:=q54.df (ps:=xl) (by walk_at "b4")
 obtain ⟨_,_,D55⟩:=q55.df (ps:=ox) (by walk_at "b2")
 obtain ⟨_,_,D56⟩:=q56.df (ps:=xn) (by walk_at "b3")
 refine ⟨fd,hb,fun base _ _=>?_⟩
 have T:fw l.prog w K mg _:=ID (Kt (aC:=0) x11 (TV X G x1) x2 x3 x4 x5 x6 x7 x8 x9 x10) (TV X G x12) x13 x14 x15 x16 x19 x20 x21 x22 x23 x24
 exact MJ B D1 D2 D3 D4 D5 D6 D7 D8 D9 D10 D11 D12 D13 D14 D15 D16 D17 D18 D19 D20 D21 D22 D23 D24 D25 D26 D27 D28 D29 D30 D31 D32 D33 D34 D35 D36 D37 D38 D39 D40 D41 D42 D43 D44 D45 D46 D47 D48 D49 D50 D51 D52 D53 D54 D55 D56 T (TV X G y1) (TV X G y2) (TV X G y3) (TV X G y4) (Ot X G y5)
end Kc_k33
local macro_rules | `(tactic| walk_at "q1")=>`(tactic| exact ⟨_,by k_is,_,_,_,_,_,_,_,_,_,by k_is,by k_is,by k_is⟩)
local macro_rules | `(tactic| walk_at "q2")=>`(tactic| exact ⟨_,by k_is,by k_is,_,_,_,_,_,_,_,_,_,by k_is,by k_is,by k_is⟩)
noncomputable def PySem.W.Fast.tw13150186990612737403 : PySem.Program := PySem.Challenge.pw_knowcards_k33_words_learned
theorem PySem.W.Fast.te13150186990612737403 : PySem.Challenge.pw_knowcards_k33_words_learned = PySem.W.Fast.tw13150186990612737403 := rfl
noncomputable def PySem.W.Fast.tw10619240810270746877 : PySem.Params → PySem.W.Frag := fun _ => []
theorem PySem.W.Fast.te10619240810270746877 : (fun _ => [] : PySem.Params → PySem.W.Frag) = PySem.W.Fast.tw10619240810270746877 := rfl
noncomputable def PySem.W.Fast.tw8839946369425250392 : PySem.Program := PySem.Challenge.pw_knowcards_k33_words_learned
theorem PySem.W.Fast.te8839946369425250392 : PySem.Challenge.pw_knowcards_k33_words_learned = PySem.W.Fast.tw8839946369425250392 := rfl
noncomputable def PySem.W.Fast.tw4695036876484338478 : PySem.Params → PySem.Obj := fun _ => default
theorem PySem.W.Fast.te4695036876484338478 : (fun _ => default : PySem.Params → PySem.Obj) = PySem.W.Fast.tw4695036876484338478 := rfl
noncomputable def PySem.W.Fast.tw1353299470735022427 : PySem.Params → PySem.Obj := fun _ => default
theorem PySem.W.Fast.te1353299470735022427 : (fun _ => default : PySem.Params → PySem.Obj) = PySem.W.Fast.tw1353299470735022427 := rfl
noncomputable def PySem.W.Fast.tw3999415494725361132 : PySem.Params → PySem.Obj := fun _ => default
theorem PySem.W.Fast.te3999415494725361132 : (fun _ => default : PySem.Params → PySem.Obj) = PySem.W.Fast.tw3999415494725361132 := rfl
noncomputable def PySem.W.Fast.tw3198116456955768715 : PySem.Params → PySem.Obj := fun _ => default
theorem PySem.W.Fast.te3198116456955768715 : (fun _ => default : PySem.Params → PySem.Obj) = PySem.W.Fast.tw3198116456955768715 := rfl
noncomputable def PySem.W.Fast.tw2217107260094573301 : PySem.Params → PySem.Obj := fun _ => default
theorem PySem.W.Fast.te2217107260094573301 : (fun _ => default : PySem.Params → PySem.Obj) = PySem.W.Fast.tw2217107260094573301 := rfl
noncomputable def PySem.W.Fast.tw6699114844985641890 : PySem.Params → PySem.Obj := fun _ => default
theorem PySem.W.Fast.te6699114844985641890 : (fun _ => default : PySem.Params → PySem.Obj) = PySem.W.Fast.tw6699114844985641890 := rfl
noncomputable def PySem.W.Fast.tw3601993993680128782 : PySem.Params → PySem.Obj := fun _ => default
theorem PySem.W.Fast.te3601993993680128782 : (fun _ => default : PySem.Params → PySem.Obj) = PySem.W.Fast.tw3601993993680128782 := rfl
noncomputable def PySem.W.Fast.tw692131038964934479 : PySem.Params → PySem.Obj := fun _ => default
theorem PySem.W.Fast.te692131038964934479 : (fun _ => default : PySem.Params → PySem.Obj) = PySem.W.Fast.tw692131038964934479 := rfl
noncomputable def PySem.W.Fast.tw1074969804707218381 : PySem.Params → PySem.Obj := fun _ => default
theorem PySem.W.Fast.te1074969804707218381 : (fun _ => default : PySem.Params → PySem.Obj) = PySem.W.Fast.tw1074969804707218381 := rfl
noncomputable def PySem.W.Fast.tw10487636572067678955 : PySem.Params → PySem.Obj := fun _ => default
theorem PySem.W.Fast.te10487636572067678955 : (fun _ => default : PySem.Params → PySem.Obj) = PySem.W.Fast.tw10487636572067678955 := rfl
noncomputable def PySem.W.Fast.tw9973651558833943702 : PySem.Params → PySem.Obj := fun _ => default
theorem PySem.W.Fast.te9973651558833943702 : (fun _ => default : PySem.Params → PySem.Obj) = PySem.W.Fast.tw9973651558833943702 := rfl
noncomputable def PySem.W.Fast.tw2015496018210029032 : PySem.Params → PySem.Obj := fun _ => default
theorem PySem.W.Fast.te2015496018210029032 : (fun _ => default : PySem.Params → PySem.Obj) = PySem.W.Fast.tw2015496018210029032 := rfl
noncomputable def PySem.W.Fast.tw18274861598711209456 : PySem.Params → PySem.Obj := fun _ => default
theorem PySem.W.Fast.te18274861598711209456 : (fun _ => default : PySem.Params → PySem.Obj) = PySem.W.Fast.tw18274861598711209456 := rfl
open PySem PySem.W PyProof.Rows
set_option maxRecDepth 100000 in
set_option maxHeartbeats 0 in
theorem PySem.Challenge.cw_knowcards_k33_words_learned_holds : PySem.Challenge.rw_knowcards_k33_words_learned.Holds := by
 w_on; o_law; k_head; (case hw=>w_witness2)
 k_fill
 refine L2.Hz (l:=PySem.Challenge.rw_knowcards_k33_words_learned) (k:=73) (x:="_law_script") rfl rfl ⟨rfl,by decide,by decide⟩ (fun w h Y=>PySem.W.kIn_of Y) ?F
 case F=>
  intro w mg fa h KX G hmg
  refine' Kc_k33.all_mk KX G hmg ?q1 ?q2 ?q3 ?q4 ?q5 ?q6 ?q7 ?q8 ?q9 ?q10 ?q11 ?q12 ?q13 ?q14 ?q15 ?q16 ?q17 ?q18 ?q19 ?q20 ?q21 ?q22 ?q23 ?q24 ?q25 ?q26 ?q27 ?q28 ?q29 ?q30 ?q31 ?q32 ?q33 ?q34 ?q35 ?q36 ?q37 ?q38 ?q39 ?q40 ?q41 ?q42 ?q43 ?q44 ?q45 ?q46 ?q47 ?q48 ?q49 ?q50 ?q51 ?q52 ?q53 ?q54 ?q55 ?q56 ?y1 ?y2 ?y3 ?y4 ?y5 ?x1 ?x2 ?x3 ?x4 ?x5 ?x6 ?x7 ?x8 ?x9 ?x10 ?x11 ?x12 ?x13 ?x14 ?x15 ?x16 ?x17 ?x18 ?x19 ?x20 ?x21 ?x22 ?x23 ?x24 ?z1 ?z2 ?z3 ?z4 ?z5 ?z6 ?z7 ?z8 ?z9 ?z10 ?z11 ?z12 ?z13 ?z14 ?z15 ?z16
  (case q1=>walk_at "q1")
  (case q2=>walk_at "q1")
  (case q3=>walk_at "q1")
  (case q4=>walk_at "q1")
  (case q5=>walk_at "q1")
  (case q6=>walk_at "q1")
  (case q7=>walk_at "q1")
  (case q8=>walk_at "q1")
  (case q9=>walk_at "q1")
  (case q10=>walk_at "q1")
  (case q11=>walk_at "q1")
  (case q12=>walk_at "q1")
  (case q13=>walk_at "q1")
  (case q14=>walk_at "q1")
  (case q15=>walk_at "q1")
  (case q16=>walk_at "q1")
  (case q17=>walk_at "q1")
  (case q18=>walk_at "q1")
  (case q19=>walk_at "q1")
  (case q20=>walk_at "q1")
  (case q21=>walk_at "q1")
  (case q22=>walk_at "q1")
  (case q23=>walk_at "q1")
  (case q24=>walk_at "q1")
  (case q25=>walk_at "q1")
  (case q26=>walk_at "q1")
  (case q27=>walk_at "q1")
  (case q28=>walk_at "q1")
  (case q29=>walk_at "q1")
  (case q30=>walk_at "q1")
  (case q31=>walk_at "q1")
  (case q32=>walk_at "q1")
  (case q33=>walk_at "q1")
  (case q34=>walk_at "q1")
  (case q35=>walk_at "q1")
  (case q36=>walk_at "q1")
  (case q37=>walk_at "q1")
  (case q38=>walk_at "q1")
  (case q39=>walk_at "q1")
  (case q40=>walk_at "q1")
  (case q41=>walk_at "q1")
  (case q42=>walk_at "q1")
  (case q43=>walk_at "q1")
  (case q44=>walk_at "q1")
  (case q45=>walk_at "q1")
  (case q46=>walk_at "q1")
  (case q47=>walk_at "q1")
  (case q48=>walk_at "q1")
  (case q49=>walk_at "q1")
  (case y1=>k_is)
  (case y2=>k_is)
  (case y3=>k_is)
  (case y4=>k_is)
  (case y5=>k_is)
  (case x1=>k_is)
  (case x2=>k_is)
  (case x3=>k_is)
  (case x4=>k_is)
  (case x5=>k_is)
  (case x6=>k_is)
  (case x7=>k_is)
  (case x8=>k_is)
  (case x9=>k_is)
  (case x10=>k_is)
  (case x11=>rfl)
  (case x12=>k_is)
  (case x13=>k_is)
  (case x14=>k_is)
  (case x15=>k_is)
  (case x16=>k_is)
  (case x17=>k_is)
  (case x18=>k_is)
  (case x19=>k_is)
  (case x20=>k_is)
  (case x21=>k_is)
  (case x22=>k_is)
  (case x23=>k_is)
  (case x24=>k_is)
  (case q50=>walk_at "q2")
  (case q51=>walk_at "q2")
  (case q52=>walk_at "q2")
  (case q53=>walk_at "q2")
  (case q54=>walk_at "q2")
  (case q55=>walk_at "q2")
  (case q56=>walk_at "q2")
  (case z1=>k_is); (case z2=>k_is); (case z3=>k_is); (case z4=>k_is); (case z5=>k_is); (case z6=>k_is); (case z7=>k_is); (case z8=>k_is); (case z9=>k_is); (case z10=>k_is); (case z11=>k_is); (case z12=>k_is); (case z13=>k_is); (case z14=>k_is); (case z15=>k_is); (case z16=>k_is)
