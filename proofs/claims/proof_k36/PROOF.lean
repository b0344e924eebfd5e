import PyProof.Rows.All
import Wide.All
import OpenK.AllK
import Wide.FinOn
import Lean
import PyProof.EqAt
import PyProof.EqKinds
import PyProof.TupleCall
import PyProof.NeKinds
import PyProof.SumWalkG
import PyProof.ConsumeWalk
import KE.IntBitsLaws
import PyProof.ZipIter
import KE.KTryMore
import PyProof.ExcArgsOwn
import KE.KDictLaws
import KE.KEqDict
import PyProof.Rows.EqDataRows
import PyProof.SetScanFacts
import PyProof.SetKind
import PyProof.Rows.SetFrom
import KE.KDictSum
import PyProof.ListMulRoad
import PyProof.Rows.CallKwBuiltin
import PyProof.Rows.SeqMore
import PyProof.WalkInts
import KE.KMinBuiltin
import KE.KRevSl
import PyProof.Rows.SortShell
import PyProof.DictWalks
import PyProof.ListRange
import KE.KItemsList
import PyProof.Rows.Range3
import PyProof.TupleOfGen
import PyProof.TupleOfSeq
import PySem.Challenge.RW_knowcards_k36_tables_again
set_option Elab.async false
set_option linter.all false
set_option maxRecDepth 100000
set_option maxHeartbeats 4000000
set_option compiler.extract_closed false
open Array renaming append_assoc → SA, forIn_toList → OC, getD → Sg, getElem?_eq_getElem → Nn, getElem?_eq_none → Pu, getElem?_toList → Oa, length_toList → Mc, toList_push → QU
open Bool renaming and_eq_true → MY, and_false → RP, beq_eq_decide_eq → PH, eq_iff_iff → PQ, false_and → Qf, false_eq_true → MB, false_ne_true → LB, not_true → OX, true_and → Px
open Classical renaming propDecidable → Nz
open False renaming elim → Nm
open ForInStep renaming yield → OB
open Int renaming emod_lt_of_pos → NO, emod_nonneg → N9, le_antisymm → Ue, natCast_ediv → TC, natCast_mul → Rx, toNat_natCast → OK, zero_add → Rc
open List renaming Perm → MN, all_cons → Oy, all_eq_true → Q8, all_map → PY, any_cons → Pw, any_eq_false → SR, append_assoc → QO, append_nil → NG, cons_append → Tz, countP_cons → Tx, count_append → QQ, count_cons → Ud, drop_eq_getElem_cons → QW, ext_getElem? → NW, filterMap_cons → O0, filter_append → Pb, filter_cons → Nw, filter_cons_of_neg → Ow, filter_cons_of_pos → Ov, find?_cons → Ma, findIdx?_eq_none_iff → O4, findIdx?_eq_some_iff_getElem → NK, flatMap_append → Qe, flatMap_cons → QR, flatten_cons → Pk, foldl → T1, foldl_append → QS, foldl_cons → T2, forIn_cons → O2, forIn_nil → Pf, getD_eq_getElem?_getD → LJ, getElem?_append_left → NQ, getElem?_append_right → Nd, getElem?_eq_getElem → Lo, getElem?_eq_none → Mb, getElem?_eq_some_iff → Ls, getElem?_map → LD, getElem?_of_mem → Se, getElem?_range → Nk, getElem?_set → OL, getElem?_set_ne → R7, getElem?_set_self → RA, getElem?_take_of_lt → Q5, getElem?_toArray → RZ, getElem?_zip_eq_some → O3, getElem_mem → Oq, getElem_range → Qw, idxOf_append → SX, idxOf_cons → T8, idxOf_lt_length_of_mem → Qu, length_append → LG, length_cons → LX, length_drop → Ts, length_eq_zero_iff → Ox, length_eraseIdx_of_lt → QJ, length_filter_le → PK, length_map → Lp, length_nil → T9, length_pos_iff → Qd, length_range → Nj, length_set → NH, length_singleton → RO, length_take → M9, length_zip → P6, lookup → OF, lookup_cons → Mo, map_append → LS, map_congr_left → NJ, map_cons → LI, map_map → N5, map_nil → ON, mem_append → LR, mem_append_left → MT, mem_append_right → L7, mem_cons → Lq, mem_cons_of_mem → LC, mem_cons_self → Lu, mem_filter → ND, mem_filterMap → Qo, mem_flatMap → TB, mem_iff_getElem → P9, mem_iff_getElem? → PL, mem_map → MC, mem_map_of_mem → Sw, mem_of_getElem? → LA, mem_range → N1, mem_singleton → Ln, nodup_append → S0, nodup_cons → N8, not_mem_nil → Mp, of_mem_zip → Rr, pairwise_append → P8, pairwise_cons → Qx, pairwise_iff_getElem → Og, pairwise_lt_range → RK, pairwise_singleton → Rk, range → LU, range_succ → OD, range_succ_eq_map → RG, replicate → Mf, replicate_succ → Ot, replicate_succ' → OU, set_cons_succ → Nv, set_cons_zero → Nu, size_toArray → LK, sum_append → MU, sum_cons → LW, sum_nil → OQ, take_add_one → M4, take_append_drop → OO, take_length → Me, take_of_length_le → RI, zipIdx_cons → Tv, zipIdx_nil → T5, zip_cons_cons → MW, zip_nil_left → NC
open Nat renaming add_assoc → QG, add_le_add_right → OT, add_mul → Ti, eq_of_mul_eq_mul_right → QH, eq_zero_or_pos → Pa, le_add_right → Na, le_of_ble_eq_true → NP, le_of_eq → Ol, le_of_lt → Mw, le_of_not_lt → Tt, le_refl → Lr, le_succ → Oi, le_trans → L8, lt_irrefl → M5, lt_of_le_of_lt → OA, lt_of_lt_of_le → LN, lt_or_eq_of_le → Pc, lt_or_ge → SO, lt_succ_of_lt → MP, lt_succ_self → MX, lt_trichotomy → QT, min_le_right → Tr, min_self → P7, mul_assoc → Nf, mul_comm → Nr, mul_left_comm → NY, mul_pos → Tg, ne_of_gt → Nc, ne_of_lt → L9, not_le → Qb, not_lt → QY, not_lt_zero → P5, one_mul → Th, sub_self → OP, succ_le_succ → TJ, succ_pos → SN, zero_le → Mv
open Ne renaming symm → MR
open Option renaming isSome_iff_exists → Q4, isSome_map → SY, isSome_some → SL, map_eq_some_iff → RJ, map_some → P0
open Option.some renaming inj → LF
open Or renaming inl → Ly, inr → Pt
open PyProof.Rows renaming Subscript_ → TY, boot_all → TK, boot_isinstance → NI, boot_list → N0, boot_max → TL, boot_sum → Sh, boot_tuple → Q2, callWith_builtin1 → PR, callWith_type1 → MM, slot_tuple_getitem → Ou, subscriptTail → Sj, subscriptTail_builtinR → RD
open PyProof.Rows.F renaming entry_set_update_loop → Rl, plain_set_update_loop → Pi
open PySem renaming DictEntry → SC, FuncData → LL, GenState → R6, IntMulOk → N2, IsTupleKey → Ub, NameKind → Ml, PassesOwn → Mr, SetTable → LO, Within → Q3, assignEach → PN, atKey_none_of_get → Po, attributeBase → OV, backToKw → Pz, behindInMarks → QC, beq_builtin_none → Re, binaryOp → Ob, bootBuiltins → O5, boot_len → Nb, builtinLookup_eq_fast → OR, builtinsNs → TN, callSpecialIfBoundUnlessNone? → OI, callType_new → SK, callWith → Tq, call_meets → PX, cellsFrom → Rt, closureFor → QV, codeAny_builtin → NV, codeAny_compStart_list → RE, codeAny_mono → Om, codeAny_of_tree → Uh, compEnvC → PB, compareOp → NF, concat_meets → SH, dictSetDefault → Qj, eqBool → SM, eqIsQuiet → Rw, eqIsQuiet_byValue → SZ, exec_Assign_Name_used → RQ, fastBuiltinMro → RS, fits_of_scanBound → S6, foldedSetIterable → Pj, getMethod → Qp, intBits_le_64 → QB, intBits_le_64 → Sv, intBits_mul_le → RW, isInstance → Uc, isSubtype_stop → Pg, isSubtype_tuple_tuple → PJ, isSubtype_type → RY, keywordEach → OG, letOwnedTupleGo → PP, mainGlobals → L5, mem_of_lookup → Mg, newFunctionEnv → Qh, newTuple → Tu, noFill_tuple_add → Q6, pickOrder → Pe, plainId_quiet → Oz, reduceHash → Ua, relayAll → Ql, scanBound → Pd, seqIndex_neg → SI, seqIndex_of → Tc, seq_tuple_add → Si, setEntries → Q0, sizeLine → Lz, sizeLine_eq → Lw, starEach → LP, storedH_new → Tj, subscripted → RC, swapsWith → Rp, sysModules → Nl, typeIs_int → TZ, typeLookup → R8, typeLookup_type → Qa, updateSeq → Qy, wpAny_Call_Name_kw → NM, wpAny_Call_method_late → Pq, wpAny_Dict_empty → TH, wpAny_List_spliced → SG, wpAny_Name → TQ, wpAny_Tuple_spliced → Sn, wpAny_askSetting → Rg, wpAny_assign_Name → QL, wpAny_attempt → Od, wpAny_bind → Lk, wpAny_call → TX, wpAny_callSpecial?_slot → Mq, wpAny_callSpecialIfBoundUnlessNone?_slot → NU, wpAny_call_entry → Mh, wpAny_comprehension_free → O8, wpAny_execs_cons → To, wpAny_execs_nil → PM, wpAny_field → My, wpAny_fieldsOf → Qm, wpAny_forIn_list → PD, wpAny_getItem_of → TF, wpAny_handled → Sk, wpAny_holding → ME, wpAny_isInstance → Nt, wpAny_ite_split → Ry, wpAny_letGo → RH, wpAny_load → TU, wpAny_mono → M1, wpAny_newObj_type → Mx, wpAny_newTuple → RV, wpAny_of_eq → RF, wpAny_onRaise → QF, wpAny_passesOwn → N7, wpAny_pure → Lm, wpAny_pyHash_int → Tn, wpAny_pyIter_enum → SW, wpAny_pyIter_list → OJ, wpAny_pyIter_slot → S8, wpAny_pyIter_tuple → SB, wpAny_pyIter_zip → Ra, wpAny_ret_mkInt → P3, wpAny_rule → NL, wpAny_seqItems → MD, wpAny_setField → N3, wpAny_setField_rec → NN, wpAny_setState_of → MQ, wpAny_specialOf → MV, wpAny_standAt → QA, wpAny_storeSet_of → S5, wpAny_throw → Td, wpAny_truthy_bool → NB, wpAny_tupleItemsOf → Qv, wpAny_typeOf → Q7, wpAny_updateSeq → OE, wpAny_updateSeq_pair → PZ
open PySem.Around renaming under → SE, under_plainId → Ny
open PySem.Builtin.Int renaming intBits → Mn
open PySem.Builtin.List renaming listExtendWith → MO, listItems → RL, listLengthHint → N6, listSameRef → Os, listTooLong → Oo, listUpdate → Rn
open PySem.Builtin.Slice renaming sliceAdjust → O1, sliceApplied → QD, slicePlaces → Of
open PySem.Builtin.SmallTypes renaming nextOf → Mi, ownedTupleHandOut → O9, ownedTupleIsFree → Mm
open PySem.Builtin.Tuple renaming tupleExact → On, tupleHashOf → M0, tupleItemsOf → QE
open PySem.Calls renaming Name_function_global → Qz, callWith_builtin → Pr, evalArgs_plain → PU, spliced_cons → Qq, spliced_nil → QN
open PySem.Code renaming isFrame → SF
open PySem.F renaming args_object_init_3 → Sd, args_tuple_add_2 → O7, args_tuple_iterator_next_1 → Qi, args_zip_next_1 → Pm, entry_extend_loop → Q1, entry_tuple_add → Ph, entry_tuple_iterator_next → Qs, entry_zip_new → T7, entry_zip_next → PC, newCall_zip_2 → T6, plainAttrs_list → MF, plain_extend_loop → Np, plain_list_iadd → Rm, plain_set_new → RX, slot_NoneType_hash → Oe, slot_bool_hash → OH, slot_dict_getitem → QX, slot_dict_setdefault → Qk, slot_int_rmul → T3, slot_list_append → M6, slot_list_index → Rj, slot_set_iter → R3, slot_tuple_add → Pp, slot_tuple_count → Rb, slot_tuple_eq → P4, slot_tuple_hash → Pn, slot_tuple_iterator_next → Oc, slot_zip_next → NT, typeCall_zip_2 → Tw, type_list_append → M7
open PySem.Heap renaming ExtBut → OZ, SameBut → LM, get?_push_of_some → Ll, get?_push_size → Lx, get?_update_other → MZ, get?_update_self → Mt, lt_size → Lv, size_push → Md, size_update → Rh
open PySem.Heap.SameBut renaming refl → S7, update → Mu
open PySem.NameKind renaming cell → OW, free → MS
open PySem.Obj renaming cls_mapFields → QP, data_mapDictKeys → Sf, data_mapFields → N4, isFreed_of_fields → PF, mapFields → QI, mapSeq → MJ, putSet → QZ
open PySem.Paired renaming length → Mj, snoc → Tf
open PySem.PassesOwn renaming never → LY
open PySem.PyData renaming canLayAll0 → S3, depthAll → Ug, keyHash → Mz
open PySem.SeqAt renaming EqAt → L6, shaped → Rf
open PySem.SeqAt.EqAt renaming bool_bool → Sb, bool_int → Sr, bool_none → Sa, int_bool → Su, int_int → SJ, int_none → Ss, int_str → Sx, none_bool → R9, none_int → So, same → Ru, str_int → Sz
open PySem.SetTable renaming below → LV, grown → Oj
open PySem.SetTable.below renaming go → NZ
open PySem.SetTable.probe renaming go → S4
open PySem.Shared renaming TypeIs → Sm, heap → Te
open PySem.Str renaming empty → Ui, ofString → Nq
open PySem.Value renaming bool → ML, builtin → Sl, float → Ta, int → Oh, isInt → Rz, isInt_shape → SQ, none → MH, ref → LZ, str → Ro, type → MI
open PySem.W renaming callWith_K → Qr, cellsFrom_some → RB, codeIn → RN, emptyDict → Ni, findIn → Nx, findIn → Qn, fnOf → O6, handedIn → Tp, hasDictIn → QM, instObj → NR, isFn → SD, keepIn → OM, kia_one → M8, kitMeta → Rv, kitOne → Ms, kitx_dict → SV, kitx_list → SU, lookIn → Qg, makesIn → TV, methodCall_KW → RM, methodObj → QK, mg_none_of → MG, mg_of → R5, nsIn → NA, plainGet → Py, plainGet_of → Qc, plainOver → SS, takerIn → Rq
open PySem.W.WData renaming int → Pl, layable → RU, layableAll → Q9, list → Qt, weight → OS, weightAll → Ri
open PySem.Walks renaming list → T4
open Sum renaming inl → Ng, inr → Nh
open Sum.inl renaming inj → S9
open Sum.inr renaming inj → OY
open True renaming intro → NS
noncomputable abbrev Fg:=PySem.W.Frag
section
namespace L2
open PySem PySem.Spec PyProof.Rows
noncomputable abbrev Key:=Sum Int Str
noncomputable def rS:Key->Value->Bool
 | .inl k,v=>Rz k v
 | .inr x,v=>Value.isStrOf x v
noncomputable def K4 (w:World):Key->Int
 | .inl k=>hashInt k
 | .inr x=>hashStr w x
theorem db:∀ {k:Key} {v:Value},rS k v=true->(∃ i t,k=Ng i/\v=Oh i t)\/(∃ x t,k=Nh x/\v=Ro x t)
 | .inl i,v,h=>by
  obtain ⟨t,e⟩:=SQ (k:=i) (v:=v) h
  exact .inl ⟨i,t,rfl,e⟩
 | .inr x,v,h=>by
  obtain ⟨t,e⟩:=Value.isStrOf_shape (x:=x) (v:=v) h
  exact .inr ⟨x,t,rfl,e⟩
theorem DY (i:Int) (t:Tok):rS (.inl i) (.int i t)=true:=by simp [rS,Rz]
theorem DZ (x:Str) (t:Tok):rS (.inr x) (.str x t)=true:=by simp [rS,Value.isStrOf]
theorem Jp (a b:Int):decide ((Ng a:Key)=Ng b)=(a == b):=by
 by_cases e:a=b
 ·subst e; simp
 ·have h:¬ (Ng a:Key)=Ng b:=fun q=>e (S9 q)
  rw [decide_eq_false h]
  exact (beq_eq_false_iff_ne.mpr e).symm
theorem Jq (a b:Str):decide ((Nh a:Key)=Nh b)=decide (a=b):=by
 by_cases e:a=b
 ·subst e; simp
 ·have h:¬ (Nh a:Key)=Nh b:=fun q=>e (OY q)
  rw [decide_eq_false h,decide_eq_false e]
theorem Jr (a:Int) (b:Str):decide ((Ng a:Key)=Nh b)=false:=decide_eq_false (fun q=>nomatch q)
theorem Js (a:Str) (b:Int):decide ((Nh a:Key)=Ng b)=false:=decide_eq_false (fun q=>nomatch q)
noncomputable def i5 (prog:Program) (w:World):PySem.KeyKind prog w Key where
 is:=rS
 hash:=K4 w
 inj:=fun v a b ha hb=>by
  rcases db ha with ⟨i,t,rfl,rfl⟩ | ⟨x,t,rfl,rfl⟩
  ·rcases db hb with ⟨j,u,rfl,e⟩ | ⟨y,u,rfl,e⟩
   ·injection e with e1 _; rw [e1]
   ·exact nomatch e
  ·rcases db hb with ⟨j,u,rfl,e⟩ | ⟨y,u,rfl,e⟩
   ·exact nomatch e
   ·injection e with e1 _; rw [e1]
 byValue:=fun k v h=>by
  rcases db h with ⟨i,t,rfl,rfl⟩ | ⟨x,t,rfl,rfl⟩ <;> rfl
 pyHash:=fun hv h=>by
  rcases db hv with ⟨i,t,rfl,rfl⟩ | ⟨x,t,rfl,rfl⟩
  ·exact Tn h
  ·exact wpAny_pyHash_str h
 eqBool:=fun hu hv h=>by
  rcases db hu with ⟨i,t,rfl,rfl⟩ | ⟨x,t,rfl,rfl⟩
  ·rcases db hv with ⟨j,u,rfl,rfl⟩ | ⟨y,u,rfl,rfl⟩
   ·rw [Jp] at h; exact wpAny_eqBool_int h
   ·rw [Jr] at h; exact Sx i t y u _ _ _ _ h
  ·rcases db hv with ⟨j,u,rfl,rfl⟩ | ⟨y,u,rfl,rfl⟩
   ·rw [Js] at h; exact Sz x t j u _ _ _ _ h
   ·rw [Jq] at h; exact wpAny_eqBool_str h
 «strs»:=fun k x t v h=>by
  rcases db h with ⟨i,u,rfl,e⟩ | ⟨y,u,rfl,e⟩
  ·exact nomatch e
  ·injection e with e1 _
   subst e1
   cases v <;> rfl
theorem A1 (prog:Program) (w:World) (i:Int) (t:Tok):(i5 prog w).is (.inl i) (.int i t)=true:=DY i t
theorem br (prog:Program) (w:World) (x:Str) (t:Tok):(i5 prog w).is (.inr x) (.str x t)=true:=DZ x t
end L2
namespace L2
open PySem PySem.Spec PyProof.Rows
inductive V where
 | non | bl (b:Bool) | int (i:Int) | str (x:Str) | byt (b:Array UInt8) | flt (b:UInt64) | ref (a:Addr) | ty (n:String)
 deriving DecidableEq
noncomputable def aK:V->Value->Prop
 | .non,u=>u=MH
 | .bl b,u=>u=ML b
 | .int i,u=>∃ t,u=Oh i t
 | .str x,u=>∃ t,u=Ro x t
 | .byt b,u=>∃ t,u=Value.bytes b t
 | .flt b,u=>∃ t,u=Ta b t
 | .ref a,u=>u=LZ a
 | .ty n,u=>u=MI n
noncomputable abbrev aH:List V->List Value->Prop:=Paired aK
theorem aH.length {xs:List V} {us:List Value} (r:aH xs us):xs.length=us.length:=Mj r
theorem aH.get:∀ {xs:List V} {us:List Value} {i:Nat} {x:V},aH xs us->xs[i]?=some x->∃ u,us[i]?=some u/\aK x u
 | _,_,_,_,.nil,e=>by simp at e
 | _,_,0,_,.cons r _,e=>by simp at e; subst e; exact ⟨_,rfl,r⟩
 | _,_,i + 1,x,.cons _ t,e=>by
  obtain ⟨u,h1,h2⟩:=aH.get (i:=i) (x:=x) t (by simpa using e)
  exact ⟨u,by simpa using h1,h2⟩
theorem aH.set {x:V} {u:Value} (r:aK x u):∀ {xs:List V} {us:List Value} (i:Nat),aH xs us->aH (xs.set i x) (us.set i u)
 | _,_,_,.nil=>.nil
 | _,_,0,.cons _ t=>.cons r t
 | _,_,i + 1,.cons q t=>.cons q (aH.set r i t)
theorem aH.append:∀ {xs ys:List V} {us ws:List Value},aH xs us->aH ys ws->aH (xs++ys) (us++ws)
 | _,_,_,_,.nil,s=>s
 | _,_,_,_,.cons r t,s=>.cons r (aH.append t s)
theorem aH.take:∀ {xs:List V} {us:List Value} (n:Nat),aH xs us->aH (xs.take n) (us.take n)
 | _,_,0,_=>.nil
 | _,_,_ + 1,.nil=>.nil
 | _,_,n + 1,.cons r t=>.cons r (aH.take n t)
theorem aH.drop:∀ {xs:List V} {us:List Value} (n:Nat),aH xs us->aH (xs.drop n) (us.drop n)
 | _,_,0,r=>r
 | _,_,_ + 1,.nil=>.nil
 | _,_,n + 1,.cons _ t=>aH.drop n t
noncomputable def fQ:Option V->Option Value->Prop
 | some v,some u=>aK v u
 | none,none=>True
 | _,_=>False
noncomputable def KV {κ:Type}:List (κ×V)->List (κ×Value)->Prop:=Paired fun (p:κ×V) (q:κ×Value)=>p.1=q.1/\aK p.2 q.2
noncomputable def kV:Key->V
 | .inl i=>.int i
 | .inr x=>.str x
inductive HO where
 | lst (xs:List V)
 | tup (xs:List V)
 | dK (kvs:List (Key×V)) | dT (kvs:List (List Key×V))
 | set (S:Int->Bool) (n:Nat)
 | ins (C dx:Addr) (fs:List (Str×V))
 | own (x:Addr)
 | xd (fs:List (Str×V))
 | met (f x:Addr)
 | rng (lo hi:Int)
 | frz (o:Obj) (u:HO)
 | tbl (ps:Array Value)
 | ext (φ:Heap->Prop)
noncomputable abbrev Hp:=Addr->Option HO
noncomputable def upd (H:Hp) (a:Addr) (o:HO):Hp:=fun b=>if b=a then some o else H b
theorem az {H:Hp} {a:Addr} {o:HO}:upd H a o a=some o:=by unfold upd; rw [if_pos rfl]
theorem aO {H:Hp} {a b:Addr} {o:HO} (h:b≠a):upd H a o b=H b:=by unfold upd; rw [if_neg h]
theorem Cc {H:Hp} {a b:Addr} {o u:HO} (h:H a=some o) (h':H b=some u) (d:o≠u):a≠b:=by
 intro e; subst e; rw [h] at h'; exact d (LF h')
theorem aR {H:Hp} {a b:Addr} {o:HO} (h:H a=some o) (h':H b=none):a≠b:=by
 intro e; subst e; rw [h] at h'; cases h'
noncomputable def ga (h:Heap) (a:Addr) (items:Array Value):Prop:=∃ o,h.get? a=some o/\o.cls=.type "tuple"/\(∃ n,o.data=.seq items n)/\o.dict=none
theorem ga.lt {h:Heap} {a:Addr} {items:Array Value} (x:ga h a items):a < h.objs.size:=let ⟨_,e,_⟩:=x; Lv e
theorem ga.tup {h:Heap} {a:Addr} {items:Array Value} (x:ga h a items):IsTup h a items:=let ⟨o,e,c,d,_⟩:=x; ⟨o,e,c,d⟩
theorem ga.new (h:Heap) (items:Array Value):ga (h.push { cls:=.type "tuple",data:=.seq items }) h.objs.size items:=⟨_,Lx _ rfl,rfl,⟨_,rfl⟩,rfl⟩
section
variable (P:Program) (w:World)
noncomputable def bH (H:Hp) (h:Heap) (a:Addr):HO->Prop
 | .lst xs=>xs.length<=Lz/\∃ (its:List Value) (n:Nat),aH xs its/\h.get? a=some { cls:=.type "list",data:=.seq its.toArray n }
 | .tup xs=>xs.length<=Lz/\∃ its:List Value,aH xs its/\ga h a its.toArray
 | .dK kvs=>kvs.length<=Lz/\(a == Nl)=false/\∃ vs,KV kvs vs/\h.DictOf (i5 P w) a vs
 | .dT kvs=>kvs.length<=Lz/\(a == Nl)=false/\∃ xs:List (List Key×Addr×Value),
   Paired (fun (p:List Key×V) (q:List Key×Addr×Value)=>p.1=q.1/\H q.2.1=some (.tup (p.1.map kV))/\aK p.2 q.2.2) kvs xs/\
   ∃ o es ep,h.get? a=some o/\o.ExactDict/\o.data=.dict es ep/\es.toList=xs.map (entryOfKey (tupleKind (i5 P w)))/\(xs.map (·.1)).Nodup
 | .set S n=>h.SetOf (intKind P w) a S n
 | .ins C dx fs=>H dx=some (.own a)/\fs.length<=1000/\dx≠a/\h.get? a=some (NR C dx)/\
   ∃ mA,h.Ns1 dx mA/\(∀ f,fQ (fs.lookup f) (mA f))/\Q3 mA (fs.map (·.1))
 | .own _=>∃ o,h.get? a=some o
 | .xd fs=>∃ mA,h.Ns1 a mA/\∀ f,fQ (fs.lookup f) (mA f)
 | .rng lo hi=>∃ t u v,h.get? a=some { cls:=.type "range",data:=.fields #[.int lo t,.int hi u,.int 1 v] }
 | .frz o u=>h.get? a=some o/\bH H h a u
 | .tbl ps=>h.get? a=some { cls:=.none,data:=.fields ps }
 | .met f x=>h.get? a=some (QK (.ref f) (.ref x))
 | .ext φ=>φ h/\(∃ o,h.get? a=some o)/\∀ h1 h2:Heap,φ h1->(∀ o,h1.get? a=some o->h2.get? a=some o)->φ h2
noncomputable def HOk (H:Hp) (h:Heap):Prop:=∀ a o,H a=some o->bH P w H h a o
end
section
variable {P:Program} {w:World} {H H':Hp} {h h':Heap} {a:Addr} {o:HO}
theorem bH.lt (x:bH P w H h a o):a < h.objs.size:=by
 cases o with
 | lst xs=>obtain ⟨_,_,_,_,e⟩:=x; exact Lv e
 | tup xs=>obtain ⟨_,_,_,p⟩:=x; exact p.lt
 | dK kvs=>obtain ⟨_,_,_,_,o,_,_,e,_⟩:=x; exact Lv e
 | dT kvs=>obtain ⟨_,_,_,_,o,_,_,e,_⟩:=x; exact Lv e
 | set S n=>obtain ⟨o,_,_,_,e,_⟩:=x; exact Lv e
 | ins C dx fs=>obtain ⟨_,_,_,e,_⟩:=x; exact Lv e
 | own y=>obtain ⟨_,e⟩:=x; exact Lv e
 | xd fs=>obtain ⟨_,⟨_,_,_,e,_⟩,_⟩:=x; exact Lv e
 | rng lo hi=>obtain ⟨_,_,_,e⟩:=x; exact Lv e
 | frz ob u=>obtain ⟨e,_⟩:=x; exact Lv e
 | tbl ps=>exact Lv (show h.get? a=some _ from x)
 | met f y=>exact Lv (show h.get? a=some _ from x)
 | ext φ=>obtain ⟨_,⟨_,e⟩,_⟩:=x; exact Lv e
theorem Paired.mapP {α β:Type} {F G:α->β->Prop}:∀ {l₁:List α} {l₂:List β},Paired F l₁ l₂->(∀ a b,F a b->G a b)->Paired G l₁ l₂
 | _,_,.nil,_=>.nil
 | _,_,.cons r t,f=>.cons (f _ _ r) (Paired.mapP t f)
theorem bH.stay (x:bH P w H h a o) (k:∀ b u,(b=a\/H b=some (.own a))->h.get? b=some u->h'.get? b=some u)
  (ho:∀ b,H b=some (.own a)->H' b=some (.own a)) (ht:∀ b xs,H b=some (.tup xs)->H' b=some (.tup xs)):bH P w H' h' a o:=by
 induction o with
 | lst xs=>obtain ⟨z,its,n,r,e⟩:=x; exact ⟨z,its,n,r,k _ _ (.inl rfl) e⟩
 | tup xs=>obtain ⟨z,its,r,ob,e,c⟩:=x; exact ⟨z,its,r,ob,k _ _ (.inl rfl) e,c⟩
 | dK kvs=>obtain ⟨z,y,vs,r,ob,es,ep,e,c⟩:=x; exact ⟨z,y,vs,r,ob,es,ep,k _ _ (.inl rfl) e,c⟩
 | dT kvs=>
  obtain ⟨z,y,xs,r,ob,es,ep,e,c⟩:=x
  exact ⟨z,y,xs,Paired.mapP r fun p q z=>⟨z.1,ht _ _ z.2.1,z.2.2⟩,ob,es,ep,k _ _ (.inl rfl) e,c⟩
 | set S n=>obtain ⟨ob,es,ep,t,e,c⟩:=x; exact ⟨ob,es,ep,t,k _ _ (.inl rfl) e,c⟩
 | ins C dx fs=>
  obtain ⟨d,z,ne,e,mA,⟨od,es,ep,e2,c⟩,r⟩:=x
  exact ⟨ho _ d,z,ne,k _ _ (.inl rfl) e,mA,⟨od,es,ep,k _ _ (.inr d) e2,c⟩,r⟩
 | own y=>obtain ⟨ob,e⟩:=x; exact ⟨ob,k _ _ (.inl rfl) e⟩
 | xd fs=>obtain ⟨mA,⟨od,es,ep,e,c⟩,r⟩:=x; exact ⟨mA,⟨od,es,ep,k _ _ (.inl rfl) e,c⟩,r⟩
 | rng lo hi=>obtain ⟨t,u,v,e⟩:=x; exact ⟨t,u,v,k _ _ (.inl rfl) e⟩
 | frz ob u ih=>obtain ⟨e,q⟩:=x; exact ⟨k _ _ (.inl rfl) e,ih q⟩
 | tbl ps=>
  have e:h.get? a=some { cls:=.none,data:=.fields ps }:=x
  show h'.get? a=some { cls:=.none,data:=.fields ps }
  exact k a _ (.inl rfl) e
 | met f y=>
  have e:h.get? a=some (QK (.ref f) (.ref y)):=x
  show h'.get? a=some (QK (.ref f) (.ref y))
  exact k a _ (.inl rfl) e
 | ext φ=>obtain ⟨p,⟨o,e⟩,st⟩:=x; exact ⟨st _ _ p fun o q=>k _ _ (.inl rfl) q,⟨o,k _ _ (.inl rfl) e⟩,st⟩
theorem HOk.lt (x:HOk P w H h) (e:H a=some o):a < h.objs.size:=(x a o e).lt
theorem HOk.fresh (x:HOk P w H h) (e:h.objs.size<=a):H a=none:=by
 cases q:H a with
 | none=>rfl
 | some u=>exact absurd (LN (x.lt q) e) (M5 _)
theorem HOk.kept (x:HOk P w H h) (k:∀ b u,h.get? b=some u->h'.get? b=some u):HOk P w H h':=fun a o e=>
 (x a o e).stay (fun b u _ q=>k b u q) (fun _ q=>q) fun _ _ q=>q
theorem HOk.laid (x:HOk P w H h) (k:∀ b u,h.get? b=some u->h'.get? b=some u) (hp:h.objs.size<=a) (new:bH P w (upd H a o) h' a o):HOk P w (upd H a o) h':=fun b u e=>by
 have hn:=x.fresh hp
 by_cases hb:b=a
 ·subst hb; rw [az] at e; cases e; exact new
 ·rw [aO hb] at e
  exact (x b u e).stay (fun c v _ q=>k c v q) (fun c q=>by rw [aO (aR q hn)]; exact q) fun c xs q=>by rw [aO (aR q hn)]; exact q
end
noncomputable def Rd (H:Hp) (a:Addr) (u:HO):Prop:=H a=some u\/∃ o,H a=some (.frz o u)
theorem Rd.of {H:Hp} {a:Addr} {u:HO} (h:H a=some u):Rd H a u:=.inl h
theorem Rd.ok {P:Program} {w:World} {H:Hp} {h:Heap} {a:Addr} {u:HO} (r:Rd H a u) (x:HOk P w H h):bH P w H h a u:=by
 rcases r with r | ⟨o,r⟩
 ·exact x a u r
 ·obtain ⟨_,q⟩:=x a _ r
  exact q
noncomputable def Mut:Option HO->Prop
 | some (.lst _)=>True
 | some (.dK _)=>True
 | some (.dT _)=>True
 | some (.set _ _)=>True
 | some (.ins _ _ _)=>True
 | some (.ext _)=>True
 | _=>False
section
variable {P:Program} {w:World} {H:Hp} {h h':Heap} {x e:Addr} {o':HO}
theorem HOk.write (ok:HOk P w H h) (mu:Mut (H x)) (he:e=x\/H e=some (.own x)) (k:∀ b u,b≠e->h.get? b=some u->h'.get? b=some u) (heo:∃ u,h'.get? e=some u)
  (new:bH P w (upd H x o') h' x o'):HOk P w (upd H x o') h':=fun b u q=>by
 have nown:∀ c y,H c=some (.own y)->c≠x:=fun c y r z=>by subst z; rw [r] at mu; exact mu
 have ntup:∀ c xs,H c=some (.tup xs)->c≠x:=fun c xs r z=>by subst z; rw [r] at mu; exact mu
 by_cases hb:b=x
 ·subst hb; rw [az] at q; cases q; exact new
 ·rw [aO hb] at q
  by_cases hbe:b=e
  ·have q':H b=some (.own x):=by
    rcases he with z | z
    ·exact absurd (hbe.trans z) hb
    ·rw [hbe]; exact z
   rw [q] at q'; cases q'
   obtain ⟨v,hv⟩:=heo
   exact ⟨v,by rw [hbe]; exact hv⟩
  ·refine (ok b u q).stay (fun c v hc r=>k c v ?_ r) (fun c r=>by rw [aO (nown c b r)]; exact r) fun c xs r=>by rw [aO (ntup c xs r)]; exact r
   rcases hc with rfl | hc
   ·exact hbe
   ·rintro rfl
    rcases he with z | z
    ·exact nown c b hc z
    ·rw [hc] at z; cases z; exact hb rfl
end
structure Un (fs ex:List Addr) (H H':Hp) (h h':Heap):Prop where
 keep:∀ b o,h.get? b=some o->H b=none->b∉fs->b∉ex->h'.get? b=some o
 slot:∀ b o,h.get? b=some o->H b=none->b∈fs->b∉ex->∃ sl,h'.get? b=some { o with slots:=sl }
 free:∀ b o,h.get? b=some o->H b=none->b∉ex->H' b=none
 there:∀ b o,h.get? b=some o->b∉ex->∃ o',h'.get? b=some o'
 tups:∀ b xs,H b=some (.tup xs)->H' b=some (.tup xs)
 frzs:∀ b o u,H b=some (.frz o u)->H' b=some (.frz o u)
 tbls:∀ b ps,H b=some (.tbl ps)->∃ more,H' b=some (.tbl (ps++more))
section
variable {fs fs' ex ex':List Addr} {H H1 H2:Hp} {h h1 h2 h':Heap} {a x e:Addr} {o:HO}
theorem Un.any (u:Un fs ex H H1 h h1) {b:Addr} {ob:Obj} (q:h.get? b=some ob) (n:H b=none) (hx:b∉ex):∃ sl,h1.get? b=some { ob with slots:=sl }:=by
 by_cases hb:b∈fs
 ·exact u.slot b ob q n hb hx
 ·exact ⟨ob.slots,u.keep b ob q n hb hx⟩
theorem Un.trans (a:Un fs ex H H1 h h1) (b:Un fs ex H1 H2 h1 h2):Un fs ex H H2 h h2 where
 keep:=fun c ob q n hc hx=>b.keep c ob (a.keep c ob q n hc hx) (a.free c ob q n hx) hc hx
 slot:=fun c ob q n hc hx=>by
  obtain ⟨sl,e1⟩:=a.slot c ob q n hc hx
  obtain ⟨sl',e2⟩:=b.slot c _ e1 (a.free c ob q n hx) hc hx
  exact ⟨sl',e2⟩
 free:=fun c ob q n hx=>by
  obtain ⟨o',e1⟩:=a.there c ob q hx
  exact b.free c o' e1 (a.free c ob q n hx) hx
 there:=fun c ob q hx=>by
  obtain ⟨o',e1⟩:=a.there c ob q hx
  exact b.there c o' e1 hx
 tups:=fun c xs q=>b.tups c xs (a.tups c xs q)
 frzs:=fun c ob xs q=>b.frzs c ob xs (a.frzs c ob xs q)
 tbls:=fun c ps q=>by
  obtain ⟨m1,e1⟩:=a.tbls c ps q
  obtain ⟨m2,e2⟩:=b.tbls c _ e1
  exact ⟨m1++m2,by rw [e2,SA]⟩
theorem Un.kept (k:∀ b u,h.get? b=some u->h'.get? b=some u):Un fs ex H H h h':=
 ⟨fun b ob q _ _ _=>k b ob q,fun b ob q _ _ _=>⟨ob.slots,k b ob q⟩,fun _ _ _ n _=>n,fun b ob q _=>⟨ob,k b ob q⟩,fun _ _ q=>q,fun _ _ _ q=>q,fun _ ps q=>⟨#[],by rw [q]; simp⟩⟩
theorem Un.refl:Un fs ex H H h h:=Un.kept fun _ _ q=>q
theorem Un.laid (k:∀ b u,h.get? b=some u->h'.get? b=some u) (hp:h.objs.size<=a) (hn:H a=none):Un fs ex H (upd H a o) h h' where
 keep:=fun b u q _ _ _=>k b u q
 slot:=fun b u q _ _ _=>⟨u.slots,k b u q⟩
 free:=fun b u q n _=>by rw [aO (L9 (LN (Lv q) hp))]; exact n
 there:=fun b u q _=>⟨u,k b u q⟩
 tups:=fun b xs q=>by rw [aO (aR q hn)]; exact q
 frzs:=fun b u xs q=>by rw [aO (aR q hn)]; exact q
 tbls:=fun b ps q=>⟨#[],by rw [aO (aR q hn),q]; simp⟩
theorem Un.write (mu:Mut (H x)) (he:e=x\/H e=some (.own x)) (k:∀ b u,b≠e->h.get? b=some u->h'.get? b=some u) (heo:∃ u,h'.get? e=some u):Un fs ex H (upd H x o) h h':=by
 have hx:∀ b,H b=none->b≠x:=fun b n z=>by subst z; rw [n] at mu; exact mu
 have hb:∀ b,H b=none->b≠e:=fun b n z=>by
  subst z
  rcases he with r | r
  ·exact hx b n r
  ·rw [n] at r; cases r
 have hm:∀ b u,H b=some u->¬ Mut (some u)->b≠x:=fun b u q nm z=>by subst z; rw [q] at mu; exact nm mu
 refine ⟨fun b u q n _ _=>k b u (hb b n) q,fun b u q n _ _=>⟨u.slots,k b u (hb b n) q⟩,fun b u q n _=>by rw [aO (hx b n)]; exact n,fun b u q _=>?_,
  fun b xs q=>by rw [aO (hm b _ q fun z=>z)]; exact q,fun b u xs q=>by rw [aO (hm b _ q fun z=>z)]; exact q,fun b ps q=>⟨#[],by rw [aO (hm b _ q fun z=>z),q]; simp⟩⟩
 by_cases hbe:b=e
 ·subst hbe; exact heo
 ·exact ⟨u,k b u hbe q⟩
theorem Un.mono (u:Un fs ex H H1 h h1) (hs:∀ b∈fs,b∈fs') (hx:∀ b∈ex,b∈ex'):Un fs' ex' H H1 h h1:=
 ⟨fun b ob q n hb he=>u.keep b ob q n (fun z=>hb (hs b z)) fun z=>he (hx b z),fun _ _ q n _ he=>u.any q n fun z=>he (hx _ z),fun b ob q n he=>u.free b ob q n fun z=>he (hx b z),fun b ob q he=>u.there b ob q fun z=>he (hx b z),u.tups,u.frzs,u.tbls⟩
end
noncomputable def trk (h:Heap) (H:Hp):List Addr:=(LU h.objs.size).filter fun a=>(H a).isSome
noncomputable def oH (h:Heap) (H:Hp):Heap:=PySem.W.hideAll h (trk h H)
theorem D0 (h:Heap) (H:Hp):(oH h H).objs.size=h.objs.size:=PySem.W.hideAll_size _ _
theorem FG {h:Heap} {H:Hp} {b:Addr} {o:Obj} (e:h.get? b=some o) (n:H b=none):(oH h H).get? b=some o:=
 PySem.W.hideAll_get _ e fun hm=>by
  have q:(H b).isSome=true:=(ND.mp hm).2
  rw [n] at q; simp at q
theorem HQ {h:Heap} {H:Hp} {b:Addr} {o:Obj} (e:(oH h H).get? b=some o):h.get? b=some o/\H b=none:=by
 have e':h.get? b=some o:=PySem.W.of_hideAll (trk h H) e
 refine ⟨e',?_⟩
 cases q:H b with
 | none=>rfl
 | some x=>
  have hm:b∈trk h H:=ND.mpr ⟨N1.mpr (Lv e'),by simp [q]⟩
  have z:(oH h H).get? b=none:=PySem.W.hideAll_none (trk h H) hm
  rw [z] at e; cases e
noncomputable def HR (g h:Heap) (L:Addr):List (Addr×Obj):=(LU h.objs.size).filterMap fun a=>if a=L\/(g.get? a).isSome=true then none else (h.get? a).map fun o=>(a,o)
noncomputable def cV (g h:Heap) (L d:Addr):List (Addr×Obj):=(HR g h L).filter fun p=>decide (p.1≠d)
end L2
namespace L2
open PySem PySem.Spec PyProof.Rows
structure Mod (K:Fg) (mg:Str->Option Value) (base:Heap):Prop where
 kin:K.In base
 glob:base.Ns L5 mg
 blt:∃ mb,base.Ns TN mb/\∀ x:Str,x≠"__name__"->mb x=O5 x
 nolimit:base.NoLimit
set_option genInjectivity false in
structure Cx where
 prog:Program
 w:World
 K:Fg
 mg:Str->Option Value
 base:Heap
 A:Around
 N:List Str
 s₀:Shared
 H₀:Hp
 env:Env
 outer:List Env
 stack:List Env
 ex:List Addr
 fn:Str->Bool
 calm:Bool
 pn:List (Addr×Obj)
 xe:Value->Shared->Prop
noncomputable def frs (l:List Env):List Addr:=l.filterMap (·.frame)
noncomputable abbrev Cx.fs (X:Cx):List Addr:=frs X.outer
noncomputable def Vis (sc:Scope) (x:Str):Prop:=sc.names.lookup x=some .local\/sc.names.lookup x=some .cell\/sc.names.lookup x=some .free
noncomputable def Loc (sc:Scope) (x:Str):Prop:=sc.names.lookup x=some .local\/sc.names.lookup x=some .cell
noncomputable def FH (env:Env) (h:Heap) (m:Str->Option Value) (x:Str) (u:Value):Prop:=
 (env.kindOf x=some .local/\m x=some u)\/((env.kindOf x=some .cell\/env.kindOf x=some .free)/\∃ c,env.cells.lookup x=some c/\h.IsCell c (some u))
structure Cx.Ok (X:Cx):Prop where
 mod:Mod X.K X.mg X.base
 kind:X.env.scope.kind=.function
 glob:X.env.globals=L5
 blt:X.env.builtins=TN
 above:X.s₀.heap.objs.size<=X.env.locals
 inj:∀ x y c,X.env.cells.lookup x=some c->X.env.cells.lookup y=some c->x=y
 has:∀ x,(X.env.kindOf x=some .cell\/X.env.kindOf x=some .free)->∃ c,X.env.cells.lookup x=some c
 cab:∀ x c,X.fn x=true->X.env.cells.lookup x=some c->X.s₀.heap.objs.size<=c
 hd:X.calm=true->X.A.handled=none
 frames:X.A.frames=some X.stack
 stk:X.stack=X.outer\/(X.stack=X.env :: X.outer/\X.env.frame=some X.env.locals)
 exf:∀ b∈X.ex,b≠X.env.locals/\∀ x c,X.env.cells.lookup x=some c->c≠b
 bs:∀ b o,X.base.get? b=some o->X.s₀.heap.get? b=some o/\X.H₀ b=none
 bsz:X.base.objs.size<=X.s₀.heap.objs.size
 noex:∀ b o,X.base.get? b=some o->b∉X.ex
 exfs:∀ b∈X.ex,b∉X.fs
 funs:X.s₀.heap.FunFrames X.base X.outer
 frf:∀ b∈X.fs,X.H₀ b=none
structure Inv (X:Cx) (pins:List (Addr×Obj)) (σ:List (Option V)) (H:Hp) (s:Shared):Prop where
 ok:X.Ok
 os:s.os=X.s₀.os
 bare:AllBare s.gens
 base:Un X.fs X.ex X.H₀ H X.s₀.heap s.heap
 loc:∃ m,s.heap.Ns X.env.locals m/\∀ (i:Nat) (x:Str) (v:V),X.N[i]?=some x->σ[i]?=some (some v)->Vis X.env.scope x->∃ u,aK v u/\FH X.env s.heap m x u
 cell:∀ x c,X.env.cells.lookup x=some c->∃ v,s.heap.IsCell c v
 free:H X.env.locals=none
 freeC:∀ x c,X.env.cells.lookup x=some c->H c=none
 pin:∀ p∈X.pn++pins,s.heap.get? p.1=some p.2/\H p.1=none/\p.1≠X.env.locals/\p.1∉X.fs/\∀ v,p.2.data≠.cell v
 hok:HOk X.prog X.w H s.heap
 len:σ.length=X.N.length
section
variable {X:Cx} {pins:List (Addr×Obj)} {σ:List (Option V)} {H H':Hp} {s:Shared} {h':Heap}
theorem Cx.Ok.nofr (ok:X.Ok) {b:Addr} {o:Obj} (e:X.base.get? b=some o):b∉X.fs:=fun hb=>by
 have:=(ok.funs.mem hb).1
 rw [e] at this; cases this
theorem Inv.bs (I:Inv X pins σ H s):∀ b o,X.base.get? b=some o->s.heap.get? b=some o/\H b=none:=fun b o e=>
 ⟨I.base.keep b o (I.ok.bs b o e).1 (I.ok.bs b o e).2 (I.ok.nofr e) (I.ok.noex b o e),I.base.free b o (I.ok.bs b o e).1 (I.ok.bs b o e).2 (I.ok.noex b o e)⟩
theorem Inv.bk (I:Inv X pins σ H s):∀ b o,X.base.get? b=some o->s.heap.get? b=some o:=fun b o e=>(I.bs b o e).1
theorem Inv.mod (I:Inv X pins σ H s):Mod X.K X.mg X.base:=I.ok.mod
theorem Inv.kIn (I:Inv X pins σ H s):X.K.In s.heap:=I.ok.mod.kin.keeps I.bk
theorem Inv.nolimit (I:Inv X pins σ H s):s.heap.NoLimit:=I.ok.mod.nolimit.keeps I.bk
theorem Inv.fr (I:Inv X pins σ H s):∃ m,Fr X.base X.env.locals s.heap m:=
 let ⟨m,hn,_⟩:=I.loc
 ⟨m,hn,I.bk,L8 I.ok.bsz I.ok.above⟩
theorem Inv.lt (I:Inv X pins σ H s):X.env.locals < s.heap.objs.size:=let ⟨_,hn,_⟩:=I.loc; hn.lt
theorem Inv.sz (I:Inv X pins σ H s):X.s₀.heap.objs.size<=s.heap.objs.size:=L8 I.ok.above (Mw I.lt)
theorem Inv.nofs (I:Inv X pins σ H s) {a:Addr} (h:s.heap.objs.size<=a):a∉X.fs:=fun hb=>by
 obtain ⟨_,o,ho,_⟩:=I.ok.funs.mem hb
 exact absurd (LN (Lv ho) (L8 I.sz h)) (M5 _)
theorem Inv.cne (I:Inv X pins σ H s):∀ x c,X.env.cells.lookup x=some c->c≠X.env.locals:=fun x c e z=>by
 obtain ⟨v,o,ho,hd⟩:=I.cell x c e
 obtain ⟨m,⟨o',es,ep,ho',hd',_⟩,_⟩:=I.loc
 rw [z,ho'] at ho; cases ho; rw [hd'] at hd; cases hd
theorem Inv.funs (I:Inv X pins σ H s):s.heap.FunFrames X.base X.outer:=by
 have all:∀ (l:List Env),(∀ b∈frs l,b∈X.fs)->X.s₀.heap.FunFrames X.base l->s.heap.FunFrames X.base l:=by
  intro l
  induction l with
  | nil=>intro _ _; trivial
  | cons env r ih=>
   intro hs hl
   obtain ⟨hk,⟨L,o,hf,hn,ho,hd⟩,hr⟩:=hl
   have hL:L∈X.fs:=hs L (by unfold frs; rw [O0,hf]; exact Lu)
   obtain ⟨sl,e⟩:=I.base.slot L o ho (I.ok.frf L hL) hL fun z=>I.ok.exfs L z hL
   exact ⟨hk,⟨L,_,hf,hn,e,hd⟩,ih (fun b hb=>hs b (by unfold frs; rw [O0,hf]; exact LC _ hb)) hr⟩
 exact all X.outer (fun _ hb=>hb) I.ok.funs
theorem Inv.stack (I:Inv X pins σ H s):s.heap.FunFrames X.base X.stack:=by
 rcases I.ok.stk with e | ⟨e,hf⟩
 ·rw [e]; exact I.funs
 ·rw [e]
  obtain ⟨m,hn,_⟩:=I.loc
  refine .cons (by rw [I.ok.kind]; decide) hf hn ?_ I.funs
  exact Heap.get?_none_of_le (L8 I.ok.bsz I.ok.above)
theorem Inv.stkSub (I:Inv X pins σ H s):∀ b∈frs X.stack,b∈X.env.locals :: X.fs:=fun b hb=>by
 rcases I.ok.stk with e | ⟨e,hf⟩
 ·rw [e] at hb; exact LC _ hb
 ·rw [e] at hb
  unfold frs at hb
  rw [O0,hf] at hb
  exact hb
theorem Inv.stkFree (I:Inv X pins σ H s):∀ b∈frs X.stack,H b=none:=fun b hb=>by
 rcases Lq.mp (I.stkSub b hb) with e | hb
 ·rw [e]; exact I.free
 ·obtain ⟨_,o,ho,_⟩:=I.ok.funs.mem hb
  exact I.base.free b o ho (I.ok.frf b hb) fun z=>I.ok.exfs b z hb
theorem Inv.step {g':Array R6} {t':Nat} {d':Drawn} {ch:List Addr} (I:Inv X pins σ H s)
  (hch:∀ b∈ch,(b∈X.ex\/X.s₀.heap.objs.size<=b)/\b≠X.env.locals/\(∀ x c,X.env.cells.lookup x=some c->c≠b)/\∀ p∈X.pn++pins,p.1≠b)
  (keep:∀ b o,b≠X.env.locals->b∉X.fs->b∉ch->s.heap.get? b=some o->H b=none->h'.get? b=some o)
  (slot:∀ b o,b≠X.env.locals->b∈X.fs->b∉ch->s.heap.get? b=some o->H b=none->∃ sl,h'.get? b=some { o with slots:=sl }) (free:∀ b o,b∉ch->s.heap.get? b=some o->H b=none->H' b=none)
  (there:∀ b o,b∉ch->s.heap.get? b=some o->∃ o',h'.get? b=some o')
  (tups:∀ b xs,H b=some (.tup xs)->H' b=some (.tup xs)) (frzs:∀ b o u,H b=some (.frz o u)->H' b=some (.frz o u)) (tbls:∀ b ps,H b=some (.tbl ps)->∃ more,H' b=some (.tbl (ps++more)))
  (ns:∀ m,s.heap.Ns X.env.locals m->h'.Ns X.env.locals m) (hok:HOk X.prog X.w H' h') (hg:AllBare g'):
  Inv X pins σ H' { s with heap:=h',gens:=g',drawn:=d',toks:=t' }:=by
 have neL:∀ b o,X.s₀.heap.get? b=some o->b≠X.env.locals:=fun b o e=>L9 (LN (Lv e) I.ok.above)
 have neC:∀ b o,X.s₀.heap.get? b=some o->b∉X.ex->b∉ch:=fun b o e hx hb=>by
  rcases (hch b hb).1 with z | z
  ·exact hx z
  ·exact absurd (LN (Lv e) z) (M5 _)
 have cellK:∀ x c,X.env.cells.lookup x=some c->∀ v,s.heap.IsCell c v->h'.IsCell c v:=fun x c e v ⟨o,ho,hd⟩=>by
  have nch:c∉ch:=fun z=>(hch c z).2.2.1 x c e rfl
  by_cases hc:c∈X.fs
  ·obtain ⟨sl,q⟩:=slot c o (I.cne x c e) hc nch ho (I.freeC x c e)
   exact ⟨_,q,hd⟩
  ·exact ⟨o,keep c o (I.cne x c e) hc nch ho (I.freeC x c e),hd⟩
 refine ⟨I.ok,I.os,hg,⟨fun b o e n hb hx=>?_,fun b o e n hb hx=>?_,fun b o e n hx=>?_,fun b o e hx=>?_,fun b xs e=>tups b xs (I.base.tups b xs e),fun b o xs e=>frzs b o xs (I.base.frzs b o xs e),fun b ps e=>?_⟩,?_,fun x c e=>?_,?_,fun x c e=>?_,fun p hp=>?_,hok,I.len⟩
 ·exact keep b o (neL b o e) hb (neC b o e hx) (I.base.keep b o e n hb hx) (I.base.free b o e n hx)
 ·obtain ⟨sl,e1⟩:=I.base.slot b o e n hb hx
  obtain ⟨sl',e2⟩:=slot b _ (neL b o e) hb (neC b o e hx) e1 (I.base.free b o e n hx)
  exact ⟨sl',e2⟩
 ·obtain ⟨o',e1⟩:=I.base.there b o e hx
  exact free b o' (neC b o e hx) e1 (I.base.free b o e n hx)
 ·obtain ⟨o',e1⟩:=I.base.there b o e hx
  exact there b o' (neC b o e hx) e1
 ·obtain ⟨m1,e1⟩:=I.base.tbls b ps e
  obtain ⟨m2,e2⟩:=tbls b _ e1
  exact ⟨m1++m2,by rw [e2,SA]⟩
 ·obtain ⟨m,hn,hl⟩:=I.loc
  refine ⟨m,ns m hn,fun i x v e1 e2 e3=>?_⟩
  obtain ⟨u,r,l⟩:=hl i x v e1 e2 e3
  refine ⟨u,r,?_⟩
  rcases l with l | ⟨k,c,e,z⟩
  ·exact .inl l
  ·exact .inr ⟨k,c,e,cellK x c e _ z⟩
 ·obtain ⟨v,z⟩:=I.cell x c e
  exact ⟨v,cellK x c e v z⟩
 ·obtain ⟨m,⟨o,_,_,ho,_⟩,_⟩:=I.loc
  exact free _ o (fun z=>(hch _ z).2.1 rfl) ho I.free
 ·obtain ⟨v,o,ho,hd⟩:=I.cell x c e
  exact free c o (fun z=>(hch c z).2.2.1 x c e rfl) ho (I.freeC x c e)
 ·obtain ⟨e,n,ne,nf,d⟩:=I.pin p hp
  have nch:p.1∉ch:=fun z=>(hch p.1 z).2.2.2 p hp rfl
  exact ⟨keep p.1 p.2 ne nf nch e n,free p.1 p.2 nch e n,ne,nf,d⟩
theorem Inv.un {t':Nat} (I:Inv X pins σ H s) (u:Un X.fs [] H H' s.heap h') (hok:HOk X.prog X.w H' h'):Inv X pins σ H' { s with heap:=h',toks:=t' }:=by
 obtain ⟨m,⟨o,es,ep,ho,r⟩,_⟩:=id I.loc
 obtain ⟨sl,hL⟩:=u.any ho I.free (by simp)
 exact I.step (g':=s.gens) (d':=s.drawn) (ch:=[]) (fun _ z=>nomatch z) (fun b o _ hb _ e n=>u.keep b o e n hb (by simp)) (fun b o _ hb _ e n=>u.slot b o e n hb (by simp)) (fun b o _ e n=>u.free b o e n (by simp)) (fun b o _ e=>u.there b o e (by simp)) u.tups u.frzs u.tbls (fun m' hm=>by
  obtain ⟨o',es',ep',ho',r'⟩:=hm
  rw [ho] at ho'; cases ho'
  exact ⟨_,es',ep',hL,r'⟩) hok I.bare
theorem Inv.call {g':Array R6} {t':Nat} {d':Drawn} {ch:List Addr} (I:Inv X pins σ H s) (u:Un (frs X.stack) ch H H' s.heap h') (hok:HOk X.prog X.w H' h') (hg:AllBare g')
  (hch:∀ b∈ch,(b∈X.ex\/X.s₀.heap.objs.size<=b)/\b≠X.env.locals/\(∀ x c,X.env.cells.lookup x=some c->c≠b)/\∀ p∈X.pn++pins,p.1≠b):
  Inv X pins σ H' { s with heap:=h',gens:=g',drawn:=d',toks:=t' }:=by
 obtain ⟨m,⟨o,es,ep,ho,r⟩,_⟩:=id I.loc
 obtain ⟨sl,hL⟩:=u.any ho I.free fun z=>(hch _ z).2.1 rfl
 exact I.step (ch:=ch) hch (fun b o hL hb hc e n=>u.keep b o e n (fun z=>(Lq.mp (I.stkSub b z)).elim hL hb) hc) (fun b o _ _ hc e n=>u.any e n hc) (fun b o hc e n=>u.free b o e n hc) (fun b o hc e=>u.there b o e hc) u.tups u.frzs u.tbls (fun m' hm=>by
  obtain ⟨o',es',ep',ho',r'⟩:=hm
  rw [ho] at ho'; cases ho'
  exact ⟨_,es',ep',hL,r'⟩) hok hg
theorem Inv.turned {t':Nat} {it:Addr} (I:Inv X pins σ H s) (k:∀ b o,b≠it->s.heap.get? b=some o->h'.get? b=some o) (hn:H it=none) (hL:it≠X.env.locals)
  (h1:it∈X.ex\/X.s₀.heap.objs.size<=it) (h2:∀ x c,X.env.cells.lookup x=some c->c≠it) (h3:∀ p∈X.pn++pins,p.1≠it):Inv X pins σ H { s with heap:=h',toks:=t' }:=by
 have nit:∀ b u,H b=some u->b≠it:=fun b u e z=>by rw [z,hn] at e; cases e
 refine I.step (g':=s.gens) (d':=s.drawn) (ch:=[it]) (fun b hb=>?_) (fun b o _ _ hc e _=>k b o (fun z=>hc (by simp [z])) e) (fun b o _ _ hc e _=>⟨o.slots,k b o (fun z=>hc (by simp [z])) e⟩) (fun _ _ _ _ n=>n)
  (fun b o hc e=>⟨o,k b o (fun z=>hc (by simp [z])) e⟩) (fun _ _ e=>e) (fun _ _ _ e=>e) (fun b ps e=>⟨#[],by rw [e]; simp⟩) (fun m hm=>?_) (fun b u e=>?_) I.bare
 ·have e:b=it:=by simpa using hb
  subst e
  exact ⟨h1,hL,h2,h3⟩
 ·obtain ⟨o,es,ep,ho,r⟩:=hm
  exact ⟨o,es,ep,k _ o (MR hL) ho,r⟩
 ·refine (I.hok b u e).stay (fun c v hc q=>k c v ?_ q) (fun _ q=>q) fun _ _ q=>q
  rcases hc with z | z
  ·rw [z]; exact nit b u e
  ·exact nit c _ z
theorem Inv.tok (I:Inv X pins σ H s) (t:Nat):Inv X pins σ H { s with toks:=t }:=I.un (h':=s.heap) (t':=t) Un.refl I.hok
theorem Inv.kept {t':Nat} (I:Inv X pins σ H s) (k:∀ b u,s.heap.get? b=some u->h'.get? b=some u):Inv X pins σ H { s with heap:=h',toks:=t' }:=I.un (Un.kept k) (I.hok.kept k)
theorem Inv.laid {a:Addr} {o:HO} {t':Nat} (I:Inv X pins σ H s) (k:∀ b u,s.heap.get? b=some u->h'.get? b=some u) (hp:s.heap.objs.size<=a) (new:bH X.prog X.w (upd H a o) h' a o):
  Inv X pins σ (upd H a o) { s with heap:=h',toks:=t' }:=I.un (Un.laid k hp (I.hok.fresh hp)) (I.hok.laid k hp new)
theorem Inv.write {x e:Addr} {o:HO} {t':Nat} (I:Inv X pins σ H s) (mu:Mut (H x)) (he:e=x\/H e=some (.own x)) (k:∀ b u,b≠e->s.heap.get? b=some u->h'.get? b=some u) (heo:∃ u,h'.get? e=some u)
  (new:bH X.prog X.w (upd H x o) h' x o):Inv X pins σ (upd H x o) { s with heap:=h',toks:=t' }:=I.un (Un.write mu he k heo) (I.hok.write mu he k heo new)
theorem Inv.pins_of {pins':List (Addr×Obj)} (I:Inv X pins σ H s) (h:∀ p∈pins',s.heap.get? p.1=some p.2/\H p.1=none/\p.1≠X.env.locals/\p.1∉X.fs/\∀ v,p.2.data≠.cell v):Inv X pins' σ H s:=
 ⟨I.ok,I.os,I.bare,I.base,I.loc,I.cell,I.free,I.freeC,fun p hp=>(LR.mp hp).elim (fun z=>I.pin p (MT _ z)) (h p),I.hok,I.len⟩
theorem zf {N:List Str} (hN:N.Nodup) {i j:Nat} {x:Str} (a:N[i]?=some x) (b:N[j]?=some x):i=j:=by
 obtain ⟨h1,e1⟩:=Ls.mp a
 obtain ⟨h2,e2⟩:=Ls.mp b
 exact (List.getElem_inj hN).mp (e1.trans e2.symm)
theorem qx {M:Model} {A:Around} {E:Value->Shared->Prop} {i:Nat} {x:Str} {v:V} {u:Value} {Q:Unit->Shared->Prop} (I:Inv X pins σ H s) (hN:X.N.Nodup) (hi:X.N[i]?=some x) (hx:Loc X.env.scope x) (r:aK v u)
  (h:∀ s',Inv X pins (σ.set i (some v)) H s'->(∃ a,LM a s.heap s'.heap/\(a=X.env.locals\/X.env.cells.lookup x=some a))->Q () s') (hf:X.fn x=true\/X.env.scope.names.lookup x=some .local:=by first | exact .inl rfl | exact .inr rfl | assumption):wpAny M A (storeName X.env x u) Q E s:=by
 obtain ⟨m,hn,hl⟩:=id I.loc
 have hcls:(X.env.scope.kind == .class || (X.env.scope.kind == .module && X.env.locals != X.env.globals))=false:=by rw [I.ok.kind]; rfl
 have hiσ:i < σ.length:=by rw [I.len]; exact (Ls.mp hi).1
 have cne:=I.cne
 have tracked:∀ {a:Addr} {h':Heap},(∃ o,s.heap.get? a=some o/\H a=none)->LM a s.heap h'->HOk X.prog X.w H h':=fun {a h'} ha hs b ob e=>by
  obtain ⟨_,_,hfree⟩:=ha
  refine (I.hok b ob e).stay (fun c w' hc q=>(hs.2 c ?_).trans q) (fun _ q=>q) fun _ _ q=>q
  rintro rfl
  rcases hc with rfl | hc
  ·rw [hfree] at e; cases e
  ·rw [hfree] at hc; cases hc
 rcases hx with hk | hk
 ·refine wpAny_storeName_local hk hn (fun h' hn' hs=>?_) hcls
  obtain ⟨oL,_,_,hoL,_⟩:=id hn
  refine h _ ⟨I.ok,I.os,I.bare,⟨fun b o e n hb hx=>?_,fun b o e n hb hx=>?_,I.base.free,fun b o e hx=>?_,I.base.tups,I.base.frzs,I.base.tbls⟩,⟨_,hn',fun j y v' e1 e2 e3=>?_⟩,fun y c e=>?_,I.free,I.freeC,fun p hp=>?_,tracked ⟨oL,hoL,I.free⟩ hs,by simpa using I.len⟩ ⟨_,hs,.inl rfl⟩
  ·exact (hs.2 b (L9 (LN (Lv e) I.ok.above))).trans (I.base.keep b o e n hb hx)
  ·obtain ⟨sl,e1⟩:=I.base.slot b o e n hb hx
   exact ⟨sl,(hs.2 b (L9 (LN (Lv e) I.ok.above))).trans e1⟩
  ·obtain ⟨o',e1⟩:=I.base.there b o e hx
   exact ⟨o',(hs.2 b (L9 (LN (Lv e) I.ok.above))).trans e1⟩
  ·by_cases hj:j=i
   ·subst hj
    rw [hi] at e1; cases e1
    rw [RA hiσ] at e2
    cases e2
    exact ⟨u,r,.inl ⟨hk,by simp⟩⟩
   ·rw [R7 (MR hj)] at e2
    obtain ⟨u',r',q⟩:=hl j y v' e1 e2 e3
    refine ⟨u',r',?_⟩
    rcases q with ⟨k,e⟩ | ⟨k,c,e,z⟩
    ·refine .inl ⟨k,?_⟩
     have:y≠x:=fun e=>hj (zf hN e1 (e ▸ hi))
     simp [this,e]
    ·exact .inr ⟨k,c,e,z.sameBut hs (cne y c e)⟩
  ·obtain ⟨w',z⟩:=I.cell y c e
   exact ⟨w',z.sameBut hs (cne y c e)⟩
  ·obtain ⟨e,n,ne,nf,d⟩:=I.pin p hp
   exact ⟨(hs.2 p.1 ne).trans e,n,ne,nf,d⟩
 ·have hfn:X.fn x=true:=by
   rcases hf with z | z
   ·exact z
   ·rw [z] at hk; cases hk
  obtain ⟨c,hc⟩:=I.ok.has x (.inl hk)
  obtain ⟨w',z⟩:=I.cell x c hc
  refine wpAny_storeName_cell I.ok.kind hk hc z (fun h' hc' hs=>?_)
  obtain ⟨oc,hoc,hocd⟩:=id z
  refine h { s with heap:=h' } ⟨I.ok,I.os,I.bare,⟨fun b o e n hb hx=>?_,fun b o e n hb hx=>?_,I.base.free,fun b o e hx=>?_,I.base.tups,I.base.frzs,I.base.tbls⟩,⟨m,hn.sameBut hs (MR (cne x c hc)),fun j y v' e1 e2 e3=>?_⟩,fun y c' e=>?_,I.free,I.freeC,fun p hp=>?_,tracked ⟨oc,hoc,I.freeC x c hc⟩ hs,by simpa using I.len⟩ ⟨c,hs,.inr hc⟩
  ·exact (hs.2 b (L9 (LN (Lv e) (I.ok.cab x c hfn hc)))).trans (I.base.keep b o e n hb hx)
  ·obtain ⟨sl,e1⟩:=I.base.slot b o e n hb hx
   exact ⟨sl,(hs.2 b (L9 (LN (Lv e) (I.ok.cab x c hfn hc)))).trans e1⟩
  ·obtain ⟨o',e1⟩:=I.base.there b o e hx
   exact ⟨o',(hs.2 b (L9 (LN (Lv e) (I.ok.cab x c hfn hc)))).trans e1⟩
  ·by_cases hj:j=i
   ·subst hj
    rw [hi] at e1; cases e1
    rw [RA hiσ] at e2
    cases e2
    exact ⟨u,r,.inr ⟨.inl hk,c,hc,hc'⟩⟩
   ·rw [R7 (MR hj)] at e2
    obtain ⟨u',r',q⟩:=hl j y v' e1 e2 e3
    refine ⟨u',r',?_⟩
    rcases q with q | ⟨k,c',e,z'⟩
    ·exact .inl q
    ·refine .inr ⟨k,c',e,z'.sameBut hs ?_⟩
     rintro rfl
     exact hj (zf hN e1 (I.ok.inj _ _ _ e hc ▸ hi))
  ·by_cases hcc:c'=c
   ·subst hcc; exact ⟨_,hc'⟩
   ·obtain ⟨w2,z2⟩:=I.cell y c' e
    exact ⟨w2,z2.sameBut hs hcc⟩
  ·obtain ⟨e,n,ne,nf,d⟩:=I.pin p hp
   refine ⟨(hs.2 p.1 ?_).trans e,n,ne,nf,d⟩
   intro q
   rw [q,hoc] at e
   have q':oc=p.2:=LF e
   exact d w' (by rw [<-q']; exact hocd)
theorem zg {M:Model} {A:Around} {E:Value->Shared->Prop} {i:Nat} {x:Str} {v:V} {u:Value} {Q:Unit->Shared->Prop} (I:Inv X pins σ H s) (hN:X.N.Nodup) (hi:X.N[i]?=some x) (hx:Loc X.env.scope x) (r:aK v u)
  (h:∀ s',Inv X pins (σ.set i (some v)) H s'->Q () s') (hf:X.fn x=true\/X.env.scope.names.lookup x=some .local:=by first | exact .inl rfl | exact .inr rfl | assumption):wpAny M A (storeName X.env x u) Q E s:=
 qx I hN hi hx r (fun s' I' _=>h s' I') hf
theorem Inv.call' {s':Shared} {ch:List Addr} (I:Inv X pins σ H s) (ho:s'.os=s.os) (u:Un (frs X.stack) ch H H' s.heap s'.heap) (hok:HOk X.prog X.w H' s'.heap) (hg:AllBare s'.gens)
  (hch:∀ b∈ch,(b∈X.ex\/X.s₀.heap.objs.size<=b)/\b≠X.env.locals/\(∀ x c,X.env.cells.lookup x=some c->c≠b)/\∀ p∈X.pn++pins,p.1≠b):Inv X pins σ H' s':=by
 obtain ⟨h',g',d',t',o'⟩:=s'
 have e:o'=s.os:=ho
 subst e
 exact I.call (g':=g') (t':=t') (d':=d') u hok hg hch
end
noncomputable abbrev XK:=Value->Option Addr->Hp->Prop
noncomputable abbrev St:=List (Option V)
noncomputable abbrev VK:=V->Hp->Prop
noncomputable abbrev TE:=St->Hp->VK->Prop
noncomputable abbrev TT:=St->Hp->(Bool->Hp->Prop)->Prop
noncomputable abbrev TA:=St->Hp->(List V->Hp->Prop)->Prop
set_option genInjectivity false in
structure jW where
 nx:St->Hp->Prop
 rt:VK
 bk:St->Hp->Prop:=fun _ _=>False
 ct:St->Hp->Prop:=fun _ _=>False
noncomputable abbrev TS:=jW->St->Hp->Prop
noncomputable def EP (X:Cx) (pins:List (Addr×Obj)) (σ:St) (Q:VK) (u:Value) (s':Shared):Prop:=∃ v H',Inv X pins σ H' s'/\aK v u/\Q v H'
noncomputable def TP (X:Cx) (pins:List (Addr×Obj)) (σ:St) (Q:Bool->Hp->Prop) (b:Bool) (s':Shared):Prop:=∃ H',Inv X pins σ H' s'/\Q b H'
noncomputable def AP (X:Cx) (pins:List (Addr×Obj)) (σ:St) (Q:List V->Hp->Prop) (us:List Value) (s':Shared):Prop:=∃ vs H',Inv X pins σ H' s'/\aH vs us/\Q vs H'
noncomputable def SP (X:Cx) (pins:List (Addr×Obj)) (D:jW) (f:Flow) (s':Shared):Prop:=
 match f with
 | .next=>∃ σ' H',Inv X pins σ' H' s'/\D.nx σ' H'
 | .brk=>∃ σ' H',Inv X pins σ' H' s'/\D.bk σ' H'
 | .cont=>∃ σ' H',Inv X pins σ' H' s'/\D.ct σ' H'
 | .ret u=>∃ v σ' H',Inv X pins σ' H' s'/\aK v u/\D.rt v H'
noncomputable def PE (X:Cx) (e:Expr) (t:TE):Prop:=
 ∀ (pins:List (Addr×Obj)) (s:Shared) (σ:St) (H:Hp) (Q:VK),Inv X pins σ H s->t σ H Q->wpAny (model X.prog X.w) X.A (eval e X.env) (EP X pins σ Q) X.xe s
noncomputable def PT (X:Cx) (e:Expr) (t:TT):Prop:=
 ∀ (pins:List (Addr×Obj)) (s:Shared) (σ:St) (H:Hp) (Q:Bool->Hp->Prop),Inv X pins σ H s->t σ H Q->wpAny (model X.prog X.w) X.A (isTrue e X.env (eval e X.env)) (TP X pins σ Q) X.xe s
noncomputable def PW (X:Cx) (e:Expr) (t:TT):Prop:=
 ∀ (whole:Sem Value) (pins:List (Addr×Obj)) (s:Shared) (σ:St) (H:Hp) (Q:Bool->Hp->Prop),Inv X pins σ H s->t σ H Q->wpAny (model X.prog X.w) X.A (isTrue e X.env whole) (TP X pins σ Q) X.xe s
theorem PW.pt {X:Cx} {e:Expr} {t:TT} (h:PW X e t):PT X e t:=h _
noncomputable def PA (X:Cx) (es:List Expr) (t:TA):Prop:=
 ∀ (pos:Pos) (pins:List (Addr×Obj)) (s:Shared) (σ:St) (H:Hp) (Q:List V->Hp->Prop),Inv X pins σ H s->t σ H Q->wpAny (model X.prog X.w) X.A (spliced (backTo pos (LP es X.env))) (AP X pins σ Q) X.xe s
noncomputable def PS (X:Cx) (st:Stmt) (t:TS):Prop:=
 ∀ (pins:List (Addr×Obj)) (s:Shared) (σ:St) (H:Hp) (D:jW),Inv X pins σ H s->t D σ H->wpAny (model X.prog X.w) X.A (exec st X.env) (SP X pins D) X.xe s
noncomputable def PSs (X:Cx) (st:List Stmt) (t:TS):Prop:=
 ∀ (pins:List (Addr×Obj)) (s:Shared) (σ:St) (H:Hp) (D:jW),Inv X pins σ H s->t D σ H->wpAny (model X.prog X.w) X.A (execs st X.env) (SP X pins D) X.xe s
theorem thn {α:Type} {t:Sem α} {Q Q':α->Shared->Prop} {M:Model} {A:Around} {E:Value->Shared->Prop} {s:Shared} (h:wpAny M A t Q E s) (hQ:∀ a s,Q a s->Q' a s):wpAny M A t Q' E s:=M1 h hQ fun _ _ x=>x
end L2
namespace L2
open PySem PySem.Spec PyProof.Rows
section
variable {X:Cx}
noncomputable def ac (i:Nat):TE:=fun σ H Q=>∃ v,σ[i]?=some (some v)/\Q v H
noncomputable def tC (v:V):TE:=fun _ H Q=>Q v H
theorem Ea {i:Nat} {x:Str} {pos:Pos} (hN:X.N[i]?=some x) (hv:Vis X.env.scope x) (hd:(x == ("__debug__":Str))=false:=by decide) (hcd:(x == ("__classdict__":Str))=false:=by decide):PE X (.Name x pos) (ac i):=by
 intro pins s σ H Q I h
 obtain ⟨v,e,h⟩:=h
 obtain ⟨m,hn,hl⟩:=I.loc
 obtain ⟨u,r,l⟩:=hl i x v hN e hv
 have fin:EP X pins σ Q u s:=⟨v,H,I,r,h⟩
 rcases l with ⟨hk,hm⟩ | ⟨hk,c,hc,hcell⟩
 ·exact TQ (wpAny_loadName_local I.ok.kind hk hn hm fin) hd
 ·rcases hk with hk | hk
  ·exact TQ (wpAny_loadName_cell I.ok.kind hk hc hcell fin) hd
  ·exact TQ (wpAny_loadName_free I.ok.kind hk hc hcell fin hcd) hd
theorem am {i j pos}:PE X (.Constant (.int i) j pos) (tC (.int i)):=fun _ _ _ H _ I h=>wpAny_Constant_int ⟨.int i,H,I.tok _,⟨_,rfl⟩,h⟩
theorem dP {b j pos}:PE X (.Constant (.bool b) j pos) (tC (.bl b)):=fun _ _ _ H _ I h=>Constant_bool ⟨.bl b,H,I,rfl,h⟩
theorem Eb {j pos}:PE X (.Constant .none j pos) (tC .non):=fun _ _ _ H _ I h=>Constant_none ⟨.non,H,I,rfl,h⟩
theorem aW {x j pos}:PE X (.Constant (.str x) j pos) (tC (.str x)):=fun _ _ _ H _ I h=>Calls.Constant_str ⟨.str x,H,I.tok _,⟨_,rfl⟩,h⟩
noncomputable def Gl (X:Cx) (x:Str):Prop:=X.env.kindOf x=some .globalImplicit
theorem wu {E:Value->Shared->Prop} {pins:List (Addr×Obj)} {s:Shared} {σ:St} {H:Hp} {x:Str} {u:Value} {pos:Pos} {Q:Value->Shared->Prop} (I:Inv X pins σ H s) (hg:Gl X x) (hm:X.mg x=some u) (h:Q u s)
  (hd:(x == ("__debug__":Str))=false:=by decide):wpAny (model X.prog X.w) X.A (eval (.Name x pos) X.env) Q E s:=
 Qz I.ok.kind hg (Calls.loadGlobal_global (by rw [I.ok.glob]; exact I.mod.glob.keeps I.bk) hm h) hd
theorem iz {E:Value->Shared->Prop} {pins:List (Addr×Obj)} {s:Shared} {σ:St} {H:Hp} {x:Str} {u:Value} {pos:Pos} {Q:Value->Shared->Prop} (I:Inv X pins σ H s) (hg:Gl X x) (hm:X.mg x=none) (hv:O5 x=some u) (h:Q u s)
  (hn:x≠"__name__":=by decide) (hd:(x == ("__debug__":Str))=false:=by decide):wpAny (model X.prog X.w) X.A (eval (.Name x pos) X.env) Q E s:=by
 obtain ⟨mb,h1,h2⟩:=I.mod.blt
 exact Qz I.ok.kind hg (Calls.loadGlobal_builtin (by rw [I.ok.glob]; exact I.mod.glob.keeps I.bk) hm (by rw [I.ok.blt]; exact h1.keeps I.bk) ((h2 x hn).trans hv) h) hd
theorem jX {x:Str} {v:V} {u:Value} {pos:Pos} (hg:Gl X x) (hm:X.mg x=some u) (r:aK v u) (hd:(x == ("__debug__":Str))=false:=by decide):PE X (.Name x pos) (tC v):=
 fun _ _ _ H _ I h=>wu I hg hm ⟨v,H,I,r,h⟩ hd
theorem gT {x:Str} {v:V} {u:Value} {pos:Pos} (hg:Gl X x) (hm:X.mg x=none) (hv:O5 x=some u) (r:aK v u) (hn:x≠"__name__":=by decide) (hd:(x == ("__debug__":Str))=false:=by decide):PE X (.Name x pos) (tC v):=
 fun _ _ _ H _ I h=>iz I hg hm hv ⟨v,H,I,r,h⟩ hn hd
variable {a b:Expr} {ta tb:TE} {pos:Pos}
noncomputable def tB (t:TE):TT:=fun σ H Q=>t σ H fun x H1=>∃ c,x=.bl c/\Q c H1
theorem dO {e:Expr} {t:TE} (h:PE X e t) (he:∀ whole,isTrue e X.env whole=(do let v <-whole; standAt e.pos; holding [v] (truthy v)):=by intro _; rfl):PT X e (tB t):=by
 intro pins s σ H Q I hw
 refine isTrue_plain (thn (h pins s σ H _ I hw) fun v s1 ⟨x,H1,I1,r1,q1⟩=>?_) (he _)
 obtain ⟨d,rfl,q⟩:=q1
 cases r1
 exact NB ⟨H1,I1,q⟩
variable {tA tB':TT} {cV:List Expr}
noncomputable def Cd (t u:TT):TT:=fun σ H Q=>t σ H fun c H1=>if c=true then u σ H1 Q else Q false H1
noncomputable def tOr (t u:TT):TT:=fun σ H Q=>t σ H fun c H1=>if c=true then Q true H1 else u σ H1 Q
noncomputable def iu (t:TT):TT:=fun σ H Q=>t σ H fun c H1=>Q (!c) H1
theorem HS (ha:PT X a tA):PW X (.BoolOp .And [a] pos) tA:=by
 intro wh pins s σ H Q I h
 refine isTrue_and (thn (ha pins s σ H Q I h) fun c s1 e=>?_)
 cases c with
 | true=>exact isTrue_and_nil e
 | false=>exact e
theorem je (ha:PT X a tA):PW X (.BoolOp .Or [a] pos) tA:=by
 intro wh pins s σ H Q I h
 refine isTrue_or (thn (ha pins s σ H Q I h) fun c s1 e=>?_)
 cases c with
 | false=>exact isTrue_or_nil e
 | true=>exact e
theorem Ec (ha:PT X a tA) (hb:PW X (.BoolOp .And (b :: cV) pos) tB'):PW X (.BoolOp .And (a :: b :: cV) pos) (Cd tA tB'):=by
 intro wh pins s σ H Q I h
 refine isTrue_and (thn (ha pins s σ H _ I h) fun c s1 ⟨H1,I1,q1⟩=>?_)
 cases c with
 | true=>exact hb wh pins s1 σ H1 Q I1 q1
 | false=>exact ⟨H1,I1,q1⟩
theorem lv (ha:PT X a tA) (hb:PW X (.BoolOp .Or (b :: cV) pos) tB'):PW X (.BoolOp .Or (a :: b :: cV) pos) (tOr tA tB'):=by
 intro wh pins s σ H Q I h
 refine isTrue_or (thn (ha pins s σ H _ I h) fun c s1 ⟨H1,I1,q1⟩=>?_)
 cases c with
 | true=>exact ⟨H1,I1,q1⟩
 | false=>exact hb wh pins s1 σ H1 Q I1 q1
theorem eY (ha:PT X a tA):PT X (.UnaryOp .Not a pos) (iu tA):=by
 intro pins s σ H Q I h
 exact isTrue_not (ha pins s σ H (fun c H1=>Q (!c) H1) I h)
noncomputable def oI (ta tb:TE):TE:=fun σ H Q=>ta σ H fun x H1=>∃ c,x=.bl c/\if c=true then tb σ H1 Q else Q (.bl false) H1
noncomputable def FI (ta tb:TE):TE:=fun σ H Q=>ta σ H fun x H1=>∃ c,x=.bl c/\if c=true then Q (.bl true) H1 else tb σ H1 Q
noncomputable def yN (ta:TE):TE:=fun σ H Q=>ta σ H fun x H1=>∃ c,x=.bl c/\Q (.bl (!c)) H1
theorem nL {op} {t:TE} (h:PE X a t):PE X (.BoolOp op [a] pos) t:=fun pins s σ H Q I hw=>BoolOp_one (h pins s σ H Q I hw)
theorem qy (ha:PE X a ta) (hb:PE X (.BoolOp .And (b :: cV) pos) tb):PE X (.BoolOp .And (a :: b :: cV) pos) (oI ta tb):=by
 intro pins s σ H Q I h
 refine BoolOp_and (thn (ha pins s σ H _ I h) fun v s1 ⟨x,H1,I1,r1,q1⟩=>?_)
 obtain ⟨c,rfl,q1⟩:=q1
 cases r1
 refine NB ?_
 cases c with
 | true=>exact hb pins s1 σ H1 Q I1 q1
 | false=>exact ⟨.bl false,H1,I1,rfl,q1⟩
theorem Ko (ha:PE X a ta) (hb:PE X (.BoolOp .Or (b :: cV) pos) tb):PE X (.BoolOp .Or (a :: b :: cV) pos) (FI ta tb):=by
 intro pins s σ H Q I h
 refine BoolOp_or (thn (ha pins s σ H _ I h) fun v s1 ⟨x,H1,I1,r1,q1⟩=>?_)
 obtain ⟨c,rfl,q1⟩:=q1
 cases r1
 refine NB ?_
 cases c with
 | false=>exact hb pins s1 σ H1 Q I1 q1
 | true=>exact ⟨.bl true,H1,I1,rfl,q1⟩
theorem Ed (ha:PE X a ta):PE X (.UnaryOp .Not a pos) (yN ta):=by
 intro pins s σ H Q I h
 refine UnaryOp_ (thn (ha pins s σ H _ I h) fun v s1 ⟨x,H1,I1,r1,q1⟩=>?_)
 obtain ⟨c,rfl,q1⟩:=q1
 cases r1
 exact not_of (NB ⟨.bl (!c),H1,I1,rfl,q1⟩)
noncomputable def tIf (t:TT) (ta tb:TE):TE:=fun σ H Q=>t σ H fun c H1=>if c=true then ta σ H1 Q else tb σ H1 Q
end
end L2
namespace L2
open PySem PySem.Spec PyProof.Rows
noncomputable def SqL (K:Fg) (H:Hp) (a:Addr) (xs:List V):Prop:=
 Rd H a (.lst xs)\/
  ∃ (o:Obj) (its:Array Value) (n:Nat),K.lookup a=some o/\o.cls=.type "list"/\o.dict=none/\o.data=.seq its n/\its.size<=Lz/\aH xs its.toList
noncomputable def SqT (K:Fg) (H:Hp) (a:Addr) (xs:List V):Prop:=
 Rd H a (.tup xs)\/
  ∃ (o:Obj) (its:Array Value) (n:Nat),K.lookup a=some o/\o.cls=.type "tuple"/\o.data=.seq its n/\its.size<=Lz/\aH xs its.toList
noncomputable def K5:Value->Option V
 | .none=>some .non
 | .bool b=>some (.bl b)
 | .int i _=>some (.int i)
 | .str x _=>some (.str x)
 | .bytes b _=>some (.byt b)
 | .float b _=>some (.flt b)
 | .ref a=>some (.ref a)
 | .type n=>some (.ty n)
 | _=>none
theorem aK.abs {x:V} {u:Value} (r:aK x u):K5 u=some x:=by
 cases x with
 | non=>cases r; rfl
 | bl _=>cases r; rfl
 | int _=>obtain ⟨t,rfl⟩:=r; rfl
 | str _=>obtain ⟨t,rfl⟩:=r; rfl
 | byt _=>obtain ⟨t,rfl⟩:=r; rfl
 | flt _=>obtain ⟨t,rfl⟩:=r; rfl
 | ref _=>cases r; rfl
 | ty _=>cases r; rfl
theorem aK.inj {x y:V} {u:Value} (r:aK x u) (q:aK y u):x=y:=LF (r.abs.symm.trans q.abs)
theorem aH.inj {xs ys:List V} {us:List Value} (h:aH xs us):aH ys us->xs=ys:=by
 induction h generalizing ys with
 | nil=>intro h; cases h; rfl
 | cons r t ih=>intro h; cases h with
  | cons r' t'=>rw [r.inj r',ih t']
section
variable {X:Cx} {pins:List (Addr×Obj)} {σ:St} {H:Hp} {s:Shared} {a:Addr} {xs ys:List V}
theorem SqL.of {K:Fg} (h:H a=some (.lst xs)):SqL K H a xs:=.inl (.inl h)
theorem SqT.of {K:Fg} (h:H a=some (.tup xs)):SqT K H a xs:=.inl (.inl h)
theorem Inv.list (I:Inv X pins σ H s) (h:SqL X.K H a xs):∃ its:List Value,aH xs its/\PlainL s.heap a its.toArray/\xs.length<=Lz:=by
 rcases h with h | ⟨o,its,n,hk,hc,hd,hs,hz,r⟩
 ·obtain ⟨z,its,n,r,e⟩:=h.ok I.hok
  exact ⟨its,r,⟨_,n,e,rfl,rfl,rfl⟩,z⟩
 ·refine ⟨its.toList,r,⟨o,n,I.kIn a o hk,hc,hd,by simpa using hs⟩,?_⟩
  have e:=r.length
  simp only [Mc] at e
  omega
theorem Inv.tuple (I:Inv X pins σ H s) (h:SqT X.K H a xs):∃ its:List Value,aH xs its/\IsTup s.heap a its.toArray/\xs.length<=Lz:=by
 rcases h with h | ⟨o,its,n,hk,hc,hs,hz,r⟩
 ·obtain ⟨z,its,r,p⟩:=h.ok I.hok
  exact ⟨its,r,p.tup,z⟩
 ·refine ⟨its.toList,r,⟨o,I.kIn a o hk,hc,n,by simpa using hs⟩,?_⟩
  have e:=r.length
  simp only [Mc] at e
  omega
theorem Inv.list_inj (I:Inv X pins σ H s) (h:SqL X.K H a xs) (h':SqL X.K H a ys):xs=ys:=by
 obtain ⟨its,r,⟨o,n,e,_,_,d⟩,_⟩:=I.list h
 obtain ⟨its',r',⟨o',n',e',_,_,d'⟩,_⟩:=I.list h'
 rw [e] at e'; cases e'
 rw [d] at d'
 injection d' with d1 _
 have:its=its':=by simpa using congrArg Array.toList d1
 subst this
 exact r.inj r'
theorem Inv.tuple_inj (I:Inv X pins σ H s) (h:SqT X.K H a xs) (h':SqT X.K H a ys):xs=ys:=by
 obtain ⟨its,r,⟨o,e,_,n,d⟩,_⟩:=I.tuple h
 obtain ⟨its',r',⟨o',e',_,n',d'⟩,_⟩:=I.tuple h'
 rw [e] at e'; cases e'
 rw [d] at d'
 injection d' with d1 _
 have:its=its':=by simpa using congrArg Array.toList d1
 subst this
 exact r.inj r'
end
noncomputable abbrev Cx.wish (X:Cx) (E:Value->Shared->Prop):Cx:={ X with xe:=E }
noncomputable abbrev Cx.nox (X:Cx):Cx:=X.wish fun _ _=>False
theorem Cx.Ok.wish {X:Cx} (ok:X.Ok) (E:Value->Shared->Prop):(X.wish E).Ok:=
 ⟨ok.mod,ok.kind,ok.glob,ok.blt,ok.above,ok.inj,ok.has,ok.cab,ok.hd,ok.frames,ok.stk,ok.exf,ok.bs,ok.bsz,ok.noex,ok.exfs,ok.funs,ok.frf⟩
theorem Cx.Ok.unwish {X:Cx} {E:Value->Shared->Prop} (ok:(X.wish E).Ok):X.Ok:=
 ⟨ok.mod,ok.kind,ok.glob,ok.blt,ok.above,ok.inj,ok.has,ok.cab,ok.hd,ok.frames,ok.stk,ok.exf,ok.bs,ok.bsz,ok.noex,ok.exfs,ok.funs,ok.frf⟩
section
variable {X:Cx} {pins:List (Addr×Obj)} {σ:St} {H:Hp} {s:Shared} {E:Value->Shared->Prop}
theorem Inv.wish (I:Inv X pins σ H s) (E:Value->Shared->Prop):Inv (X.wish E) pins σ H s:=⟨I.ok.wish E,I.os,I.bare,I.base,I.loc,I.cell,I.free,I.freeC,I.pin,I.hok,I.len⟩
theorem Inv.unwish (I:Inv (X.wish E) pins σ H s):Inv X pins σ H s:=⟨I.ok.unwish,I.os,I.bare,I.base,I.loc,I.cell,I.free,I.freeC,I.pin,I.hok,I.len⟩
theorem SP.unwish {D:jW} {f:Flow} {s':Shared} (h:SP (X.wish E) pins D f s'):SP X pins D f s':=by
 cases f with
 | next=>obtain ⟨σ',H',I,q⟩:=h; exact ⟨σ',H',I.unwish,q⟩
 | brk=>obtain ⟨σ',H',I,q⟩:=h; exact ⟨σ',H',I.unwish,q⟩
 | cont=>obtain ⟨σ',H',I,q⟩:=h; exact ⟨σ',H',I.unwish,q⟩
 | ret u=>obtain ⟨v,σ',H',I,r,q⟩:=h; exact ⟨v,σ',H',I.unwish,r,q⟩
theorem PE.nox {e:Expr} {t:TE} (h:PE X.nox e t):PE X e t:=fun pins s σ H Q I hw=>
 M1 (h pins s σ H Q (I.wish _) hw) (fun _ _ ⟨v,H',I',r,q⟩=>⟨v,H',I'.unwish,r,q⟩) fun _ _ z=>Nm z
theorem PT.nox {e:Expr} {t:TT} (h:PT X.nox e t):PT X e t:=fun pins s σ H Q I hw=>
 M1 (h pins s σ H Q (I.wish _) hw) (fun _ _ ⟨H',I',q⟩=>⟨H',I'.unwish,q⟩) fun _ _ z=>Nm z
theorem PSs.nox {st:List Stmt} {t:TS} (h:PSs X.nox st t):PSs X st t:=fun pins s σ H D I hw=>
 M1 (h pins s σ H D (I.wish _) hw) (fun _ _ q=>q.unwish) fun _ _ z=>Nm z
end
section
variable {X:Cx} {st:Stmt} {cV:List Stmt} {t u:TS} {e:Expr} {te:TE} {pos:Pos}
noncomputable def bh:TS:=fun D σ H=>D.nx σ H
noncomputable def aw (t u:TS):TS:=fun D σ H=>t { D with nx:=u D } σ H
theorem aS:PSs X [] bh:=fun _ _ σ H _ I h=>PM ⟨σ,H,I,h⟩
theorem ai (h1:PS X st t) (h2:PSs X cV u):PSs X (st :: cV) (aw t u):=by
 intro pins s σ H D I h
 refine To (thn (h1 pins s σ H { D with nx:=u D } I h) fun f s1 q=>?_)
 cases f with
 | next=>
  obtain ⟨σ',H',I',q⟩:=q
  exact h2 pins s1 σ' H' D I' q
 | ret v=>exact q
 | brk=>exact q
 | cont=>exact q
theorem ao (h1:PS X st t):PSs X [st] t:=by
 intro pins s σ H D I h
 refine To (thn (h1 pins s σ H D I h) fun f s1 q=>?_)
 cases f with
 | next=>exact PM q
 | ret v=>exact q
 | brk=>exact q
 | cont=>exact q
noncomputable def Jt:TS:=fun D σ H=>D.bk σ H
noncomputable def Kq:TS:=fun D σ H=>D.ct σ H
theorem Inv.quiet {pins:List (Addr×Obj)} {σ:St} {H:Hp} {s:Shared} (I:Inv X pins σ H s):interactive X.env=false:=by simp [interactive,I.ok.kind]
noncomputable def dw (te:TE):TS:=fun D σ H=>te σ H fun _ H1=>D.nx σ H1
theorem cj (he:PE X e te) (hs:Rp e none pos.line X.env=pure false:=by rfl):PS X (.Expr e pos) (dw te):=by
 intro pins s σ H D I h
 exact wpAny_Expr_any (thn (he pins s σ H _ I h) fun v s1 ⟨x,H1,I1,r1,q1⟩=>⟨σ,H1,I1,q1⟩) I.quiet hs
noncomputable def aN (te:TE):TS:=fun D σ H=>te σ H D.rt
theorem ay (he:PE X e te):PS X (.Return (some e) pos) (aN te):=by
 intro pins s σ H D I h
 exact wpAny_Return_some (thn (he pins s σ H _ I h) fun v s1 ⟨x,H1,I1,r1,q1⟩=>⟨x,σ,H1,I1,r1,q1⟩)
noncomputable def Kr:TS:=fun D _ H=>D.rt .non H
noncomputable def bD (c:TT) (t u:TS):TS:=fun D σ H=>c σ H fun b H1=>if b=true then t D σ H1 else u D σ H1
theorem bo {c:Expr} {a b:List Stmt} {tc:TT} (hc:PT X c tc) (ha:PSs X a t) (hb:PSs X b u):PS X (.If c a b pos) (bD tc t u):=by
 intro pins s σ H D I h
 refine wpAny_If (thn (hc pins s σ H _ I h) fun d s1 ⟨H1,I1,q1⟩=>?_)
 cases d with
 | true=>exact ha pins s1 σ H1 D I1 q1
 | false=>exact hb pins s1 σ H1 D I1 q1
noncomputable def qz:TS:=fun _ _ _=>False
theorem oJ:PS X st qz:=fun _ _ _ _ _ _ h=>h.elim
end
noncomputable abbrev TG:=V->St->Hp->(St->Hp->Prop)->Prop
noncomputable abbrev TGs:=List V->St->Hp->(St->Hp->Prop)->Prop
noncomputable def PG (X:Cx) (target:Expr) (t:TG):Prop:=
 ∀ (pins:List (Addr×Obj)) (s:Shared) (σ:St) (H:Hp) (v:V) (u:Value) (Q:St->Hp->Prop),Inv X pins σ H s->aK v u->t v σ H Q->
  wpAny (model X.prog X.w) X.A (assign target X.env u) (fun _ s'=>∃ σ' H',Inv X pins σ' H' s'/\Q σ' H') X.xe s
noncomputable def PGs (X:Cx) (ts:List Expr) (t:TGs):Prop:=
 ∀ (pins:List (Addr×Obj)) (s:Shared) (σ:St) (H:Hp) (vs:List V) (us:List Value) (Q:St->Hp->Prop),Inv X pins σ H s->aH vs us->t vs σ H Q->
  wpAny (model X.prog X.w) X.A (assignInOrder ((PN ts X.env).map (·.2)) us) (fun _ s'=>∃ σ' H',Inv X pins σ' H' s'/\Q σ' H') X.xe s
noncomputable abbrev Ce:=V->V->V->Hp->(Hp->Prop)->Prop
noncomputable def FJ (X:Cx) (t:Ce):Prop:=
 ∀ (pins:List (Addr×Obj)) (s:Shared) (σ:St) (H:Hp) (o i v:V) (ov iv u:Value) (Q:Hp->Prop),Inv X pins σ H s->aK o ov->aK i iv->aK v u->t o i v H Q->
  wpAny (model X.prog X.w) X.A (setItem ov iv u) (fun _ s'=>∃ H',Inv X pins σ H' s'/\Q H') X.xe s
section
variable {X:Cx} {pos:Pos}
noncomputable def aq (i:Nat):TG:=fun v σ H Q=>Q (σ.set i (some v)) H
theorem aB {i:Nat} {x:Str} (hN:X.N.Nodup) (hi:X.N[i]?=some x) (hx:Loc X.env.scope x) (hf:X.fn x=true\/X.env.scope.names.lookup x=some .local:=by first | exact .inl rfl | exact .inr rfl | assumption):PG X (.Name x pos) (aq i):=by
 intro pins s σ H v u Q I r h
 exact QL (zg I hN hi hx r (fun s' I'=>⟨_,H,I',h⟩) hf)
noncomputable def jf:TGs:=fun vs σ H Q=>vs=[]/\Q σ H
noncomputable def ca (t:TG) (u:TGs):TGs:=fun vs σ H Q=>∃ v r,vs=v :: r/\t v σ H fun σ' H'=>u r σ' H' Q
theorem eR:PGs X [] jf:=by
 intro pins s σ H vs us Q I r h
 obtain ⟨e,h⟩:=h
 subst e
 cases r
 exact assignInOrder_nil ⟨σ,H,I,h⟩
theorem bq {e:Expr} {es:List Expr} {t:TG} {u:TGs} (h1:PG X e t) (h2:PGs X es u)
  (hs:(PN (e :: es) X.env).map (·.2)=assign e X.env :: (PN es X.env).map (·.2):=by rfl):PGs X (e :: es) (ca t u):=by
 intro pins s σ H vs us Q I r h
 obtain ⟨v,vr,e1,h⟩:=h
 subst e1
 cases r with
 | cons r rr=>
  rw [hs]
  refine assignInOrder_cons (thn (h1 pins s σ H _ _ _ I r h) fun _ s1 ⟨σ1,H1,I1,q1⟩=>?_)
  exact h2 pins s1 σ1 H1 _ _ Q I1 rr q1
noncomputable def jg (K:Fg) (n:Nat) (t:TGs):TG:=fun v σ H Q=>∃ a xs,v=.ref a/\SqT K H a xs/\xs.length=n/\t xs σ H Q
theorem gb {es:List Expr} {k:Nat} {t:TGs} {n:Nat} (hc:X.calm=true) (h:PGs X es t)
  (hn:(PN es X.env).length=n:=by rfl) (hst:(PN es X.env).findIdx? (·.1)=none:=by rfl):PG X (.Tuple es k pos) (jg X.K n t):=by
 intro pins s σ H v u Q I r hw
 obtain ⟨a,xs,e1,hq,hl,hw⟩:=hw
 subst e1
 cases r
 obtain ⟨its,rv,ht,hz⟩:=I.tuple hq
 refine assign_Tuple_tuple (I.ok.hd hc) ht (by simp [hn,<-hl,rv.length]) hst fun h' hx=>?_
 have I1:Inv X pins σ H { s with heap:=h' }:=I.kept (t':=s.toks) fun b o e=>hx b o (L9 (Lv e)) e
 exact h pins _ σ H xs _ Q I1 (by simpa using rv) hw
noncomputable def qA (to ti:TE) (t:Ce):TG:=fun v σ H Q=>to σ H fun o H1=>ti σ H1 fun i H2=>t o i v H2 fun H3=>Q σ H3
theorem qB {o i:Expr} {to ti:TE} {t:Ce} (ho:PE X o to) (hi:PE X i ti) (hs:FJ X t)
  (ha:∀ v,assign (.Subscript o i pos) X.env v=(do
   let ov <-holding [v] (eval o X.env)
   let iv <-holding [v,ov] (eval i X.env)
   standAt pos
   holding [v,ov,iv] (setItem ov iv v)
   release [v,ov,iv] []):=by intro _; rfl):PG X (.Subscript o i pos) (qA to ti t):=by
 intro pins s σ H v u Q I r h
 rw [ha]
 refine Lk (ME (thn (ho pins s σ H _ I h) fun ov s1 ⟨x,H1,I1,r1,q1⟩=>?_))
 refine Lk (ME (thn (hi pins s1 σ H1 _ I1 q1) fun iv s2 ⟨y,H2,I2,r2,q2⟩=>?_))
 refine Lk (QA (Lk (ME (thn (hs pins s2 σ H2 x y v ov iv u _ I2 r1 r2 r q2) fun _ s3 ⟨H3,I3,q3⟩=>?_))))
 exact wpAny_release ⟨σ,H3,I3,q3⟩
noncomputable def aI (te:TE) (g:TG):TS:=fun D σ H=>te σ H fun x H1=>g x σ H1 D.nx
theorem nN {tg e:Expr} {te:TE} {g:TG} (he:PE X e te) (hg:PG X tg g) (hs:swapsWithSole [tg] e pos.line X.env=pure false:=by rfl) (hw:swappedStores [tg] e X.env=pure none:=by rfl)
  (h1:(PN [tg] X.env).map (·.2)=[assign tg X.env]:=by rfl):PS X (.Assign [tg] e pos) (aI te g):=by
 intro pins s σ H D I h
 refine wpAny_Assign_stores (thn (he pins s σ H _ I h) fun v s1 ⟨x,H1,I1,r1,q1⟩=>?_) hs hw
 rw [h1]
 exact thn (hg pins s1 σ H1 x v _ I1 r1 q1) fun _ s2 q=>q
theorem aA {i:Nat} {x:Str} {e:Expr} {te:TE} {pos':Pos} (hN:X.N.Nodup) (hi:X.N[i]?=some x) (hx:Loc X.env.scope x) (he:PE X e te) (hs:Rp e (some (.Name x pos')) pos.line X.env=pure false:=by rfl) (hf:X.fn x=true\/X.env.scope.names.lookup x=some .local:=by first | exact .inl rfl | exact .inr rfl | assumption):
  PS X (.Assign [.Name x pos'] e pos) (aI te (aq i)):=by
 intro pins s σ H D I h
 refine wpAny_Assign_Name (thn (he pins s σ H _ I h) fun v s1 ⟨y,H1,I1,r1,q1⟩=>?_) hs
 exact zg I1 hN hi hx r1 (fun s2 I2=>⟨_,H1,I2,q1⟩) hf
end
section
variable {X:Cx} {pos:Pos}
noncomputable def nO (c:TT) (tb:TS):TS:=fun D σ H=>∃ W:Nat->St->Hp->Prop,(∃ m,W m σ H)/\∀ m σ H,W m σ H->
 c σ H fun b H1=>if b=true then ∃ N:St->Hp->Prop,(∀ σ' H',N σ' H'->∃ m',m' < m/\W m' σ' H')/\tb { D with nx:=N,ct:=N,bk:=D.nx } σ H1 else D.nx σ H1
theorem tQ {c:Expr} {body:List Stmt} {tc:TT} {tb:TS} (hp:Mr (model X.prog X.w) X.A X.env X.xe) (hc:PT X c tc) (hb:PSs X body tb):PS X (.While c body [] pos) (nO tc tb):=by
 intro pins s σ H D I h
 obtain ⟨W,⟨m0,w0⟩,turn⟩:=h
 refine wpAny_While (codeAny_whileLoop (fun n s'=>∃ σ' H',Inv X pins σ' H' s'/\W n σ' H') ?_ m0 ⟨σ,H,I,w0⟩)
 rintro n s1 ⟨σ1,H1,I1,w1⟩
 refine N7 hp (thn (hc pins s1 σ1 H1 _ I1 (turn n σ1 H1 w1)) fun b s2 ⟨H2,I2,q2⟩=>?_)
 cases b with
 | true=>
  obtain ⟨N,hN,q2⟩:=q2
  rw [if_pos rfl]
  refine N7 hp (thn (hb pins s2 σ1 H2 _ I2 q2) fun f s3 q3=>?_)
  cases f with
  | next=>
   obtain ⟨σ3,H3,I3,n3⟩:=q3
   obtain ⟨m',hm,w3⟩:=hN σ3 H3 n3
   exact ⟨m',hm,σ3,H3,I3,w3⟩
  | cont=>
   obtain ⟨σ3,H3,I3,n3⟩:=q3
   obtain ⟨m',hm,w3⟩:=hN σ3 H3 n3
   exact ⟨m',hm,σ3,H3,I3,w3⟩
  | brk=>exact q3
  | ret v=>exact q3
 | false=>
  rw [if_neg LB]
  exact PM ⟨σ1,H2,I2,q2⟩
end
set_option genInjectivity false in
structure It where
 go:Nat->Hp->Prop
 yld:Nat->Hp->V->Hp->Prop
 stop:Nat->Hp->Prop
noncomputable def jh (X:Cx) (pins:List (Addr×Obj)) (H:Hp) (b:Addr):Prop:=
 H b=none/\b≠X.env.locals/\b∉X.fs/\(b∈X.ex\/X.s₀.heap.objs.size<=b)/\(∀ x c,X.env.cells.lookup x=some c->c≠b)/\∀ p∈X.pn++pins,p.1≠b
theorem Inv.fpOk {X:Cx} {pins:List (Addr×Obj)} {σ:St} {H H':Hp} {s:Shared} {b:Addr} (I:Inv X pins σ H s) (hb:s.heap.objs.size<=b) (hn:H' b=none):jh X pins H' b:=by
 refine ⟨hn,Nc (LN I.lt hb),I.nofs hb,.inr (L8 I.sz hb),fun x c e z=>?_,fun p hp z=>?_⟩
 ·obtain ⟨v,q⟩:=I.cell x c e
  exact absurd (LN q.lt (by rw [z]; exact hb)) (M5 _)
 ·exact absurd (LN (Lv (I.pin p hp).1) (by rw [z]; exact hb)) (M5 _)
structure qC (P:Program) (w:World) (K:Fg) (tg:Expr) (J:It) (fp:List Addr) (it:Addr) (tn:Nat->Heap->Prop):Prop where
 mem:it∈fp
 obj:∀ i h,tn i h->∀ b∈fp,∃ o,h.get? b=some o/\∀ v,o.data≠.cell v
 keep:∀ i h h',tn i h->(∀ b∈fp,∀ o,h.get? b=some o->h'.get? b=some o)->tn i h'
 item:∀ (X:Cx),X.prog=P->X.w=w->X.K=K->X.calm=true->∀ (i:Nat) (pins:List (Addr×Obj)) (s:Shared) (σ:St) (H:Hp) (E:Value->Shared->Prop),Inv X pins σ H s->(∀ b∈fp,jh X pins H b)->tn i s.heap->J.go i H->
  wpAny (model P w) X.A (pyNext (.ref it)) (fun r s1=>∃ u,r=some u/\
   wpAny (model P w) X.A (PP tg (.ref it) u) (fun _ s2=>∃ x H',Inv X pins σ H' s2/\aK x u/\J.yld i H x H'/\tn (i + 1) s2.heap/\∀ b∈fp,H' b=none) E s1) E s
 done:∀ (X:Cx),X.prog=P->X.w=w->X.K=K->X.calm=true->∀ (i:Nat) (pins:List (Addr×Obj)) (s:Shared) (σ:St) (H:Hp) (E:Value->Shared->Prop),Inv X pins σ H s->(∀ b∈fp,jh X pins H b)->tn i s.heap->J.stop i H->
  wpAny (model P w) X.A (pyNext (.ref it)) (fun r s1=>r=none/\Inv X pins σ H s1) E s
 self:∀ (A:Around) (i:Nat) (s:Shared) (Q:Value->Shared->Prop) (E:Value->Shared->Prop),tn i s.heap->Q (.ref it) s->wpAny (model P w) A (pyIter (.ref it)) Q E s
noncomputable abbrev TI:=St->Hp->(It->Hp->Prop)->Prop
noncomputable def PIE (X:Cx) (pins:List (Addr×Obj)) (σ:St) (tg:Expr) (R:It->Hp->Prop) (itv:Value) (s2:Shared):Prop:=
 ∃ (it:Addr) (fp:List Addr) (tn:Nat->Heap->Prop) (J:It) (H':Hp),itv=.ref it/\Inv X pins σ H' s2/\qC X.prog X.w X.K tg J fp it tn/\tn 0 s2.heap/\(∀ b∈fp,jh X pins H' b)/\R J H'
noncomputable def PI (X:Cx) (tg iter:Expr) (wi:TI):Prop:=
 ∀ (pins:List (Addr×Obj)) (s:Shared) (σ:St) (H:Hp) (R:It->Hp->Prop),Inv X pins σ H s->wi σ H R->
  wpAny (model X.prog X.w) X.A (eval iter X.env) (fun v s1=>wpAny (model X.prog X.w) X.A (pyIter v) (PIE X pins σ tg R) X.xe s1) X.xe s
theorem Cf {M : Model} {A : Around} {E : Value → Shared → Prop} {s : Shared} {tg : Expr} {it : Addr} {u : Value} {o : Obj} {n : String} {vs : Array Value} {Q : Unit → Shared → Prop} (ho : s.heap.get? it = some o) (hc : o.cls = .type n) (hd : o.data = .fields vs)
    (hn : ["enumerate", "zip", "dict_itemiterator", "dict_reverseitemiterator", "odict_iterator", "itertools.zip_longest", "itertools.pairwise"].contains n = false) (hQ : Q () s) : wpAny M A (PP tg (.ref it) u) Q E s := by
  unfold PP
  cases tg <;> first
    | exact Lm hQ
    | (cases u <;> first
        | exact Lm hQ
        | (refine Lk (TU ho ?_)
           rw [hc, hd]
           show wpAny M A (if (["enumerate", "zip", "dict_itemiterator", "dict_reverseitemiterator", "odict_iterator", "itertools.zip_longest", "itertools.pairwise"].contains n && vs[0]? == some (rawInt _)) = true then _ else _) Q E s
           rw [if_neg (by intro h; rw [hn, Qf] at h; cases h)]
           exact Lm hQ))
noncomputable def Itl (K:Fg) (a:Addr):It:=
 ⟨fun i H=>∃ xs x,SqL K H a xs/\xs[i]?=some x,fun i H x H'=>H'=H/\∀ xs,SqL K H a xs->xs[i]?=some x,fun i H=>∃ xs,SqL K H a xs/\xs.length<=i⟩
noncomputable def Itt (K:Fg) (a:Addr):It:=
 ⟨fun i H=>∃ xs x,SqT K H a xs/\xs[i]?=some x,fun i H x H'=>H'=H/\∀ xs,SqT K H a xs->xs[i]?=some x,fun i H=>∃ xs,SqT K H a xs/\xs.length<=i⟩
noncomputable def Itr (lo:Int) (n:Nat):It:=⟨fun i _=>i < n,fun i H x H'=>H'=H/\x=.int (lo + i),fun i _=>n<=i⟩
theorem Ee {P:Program} {w:World} {K:Fg} {tg:Expr} (a it:Addr):qC P w K tg (Itl K a) [it] it (fun i h=>h.IsListIter it a i) where
 mem:=by simp
 obj:=fun i h st b hb=>by
  have e:b=it:=by simpa using hb
  subst e
  obtain ⟨o,e,c,d⟩:=st
  exact ⟨o,e,fun v z=>by rw [d] at z; cases z⟩
 keep:=fun i h h' st k=>st.at fun o e=>k it (by simp) o e
 item:=by
  intro X hP hw hK hc i pins s σ H E I hf st hg
  subst hP hw hK
  obtain ⟨xs,x,hq,hx⟩:=hg
  obtain ⟨its,rv,p,hz⟩:=I.list hq
  obtain ⟨u,hu,ru⟩:=rv.get hx
  obtain ⟨f0,f1,f2,f3,f4,f5⟩:=hf it (by simp)
  refine wpAny_pyNext_list_item st p.isList (x:=u) (by simpa using hu) fun h' st' sb=>?_
  have I1:Inv X pins σ H { s with heap:=h' }:=I.turned (t':=s.toks) (fun b o hb e=>(sb.2 b hb).trans e) f0 f1 f3 f4 f5
  obtain ⟨o,e,c,d⟩:=id st'
  exact ⟨u,rfl,Cf (s:={ s with heap:=h' }) e c d (by decide) ⟨x,H,I1,ru,⟨rfl,fun ys hy=>by rw [I.list_inj hy hq]; exact hx⟩,st',fun b hb=>(hf b hb).1⟩⟩
 done:=by
  intro X hP hw hK hc i pins s σ H E I hf st hg
  subst hP hw hK
  obtain ⟨xs,hq,hx⟩:=hg
  obtain ⟨its,rv,p,hz⟩:=I.list hq
  obtain ⟨f0,f1,f2,f3,f4,f5⟩:=hf it (by simp)
  have hl:=rv.length
  exact wpAny_pyNext_list_end (I.ok.hd hc) st p.isList (by simp; omega) fun h' eb=>⟨rfl,I.turned (t':=s.toks) (fun b o hb e=>eb b o hb e) f0 f1 f3 f4 f5⟩
 self:=fun _ _ _ _ _ st h=>wpAny_pyIter_listiter st h
theorem Cg {P:Program} {w:World} {K:Fg} {tg:Expr} (a it:Addr):qC P w K tg (Itt K a) [it] it (fun i h=>h.IsTupleIter it a i) where
 mem:=by simp
 obj:=fun i h st b hb=>by
  have e:b=it:=by simpa using hb
  subst e
  obtain ⟨o,e,c,d⟩:=st
  exact ⟨o,e,fun v z=>by rw [d] at z; cases z⟩
 keep:=fun i h h' st k=>st.at fun o e=>k it (by simp) o e
 item:=by
  intro X hP hw hK hc i pins s σ H E I hf st hg
  subst hP hw hK
  obtain ⟨xs,x,hq,hx⟩:=hg
  obtain ⟨its,rv,p,hz⟩:=I.tuple hq
  obtain ⟨u,hu,ru⟩:=rv.get hx
  obtain ⟨f0,f1,f2,f3,f4,f5⟩:=hf it (by simp)
  refine wpAny_pyNext_tuple_item st (show s.heap.IsTuple a its.toArray from p) (x:=u) (by simpa using hu) fun h' st' sb=>?_
  have I1:Inv X pins σ H { s with heap:=h' }:=I.turned (t':=s.toks) (fun b o hb e=>(sb.2 b hb).trans e) f0 f1 f3 f4 f5
  obtain ⟨o,e,c,d⟩:=id st'
  exact ⟨u,rfl,Cf (s:={ s with heap:=h' }) e c d (by decide) ⟨x,H,I1,ru,⟨rfl,fun ys hy=>by rw [I.tuple_inj hy hq]; exact hx⟩,st',fun b hb=>(hf b hb).1⟩⟩
 done:=by
  intro X hP hw hK hc i pins s σ H E I hf st hg
  subst hP hw hK
  obtain ⟨xs,hq,hx⟩:=hg
  obtain ⟨its,rv,p,hz⟩:=I.tuple hq
  obtain ⟨f0,f1,f2,f3,f4,f5⟩:=hf it (by simp)
  have hl:=rv.length
  exact wpAny_pyNext_tuple_end (I.ok.hd hc) st (show s.heap.IsTuple a its.toArray from p) (by simp; omega) fun h' eb=>⟨rfl,I.turned (t':=s.toks) (fun b o hb e=>eb b o hb e) f0 f1 f3 f4 f5⟩
 self:=fun _ _ _ _ _ st h=>wpAny_pyIter_tupleiter st h
theorem Ch {P:Program} {w:World} {K:Fg} {tg:Expr} (it:Addr) (lo:Int) (n:Nat):qC P w K tg (Itr lo n) [it] it (fun i h=>IsRangeIter h it (lo + (i:Nat) * 1) ((n:Int) - (i:Nat)) 1) where
 mem:=by simp
 obj:=fun i h st b hb=>by
  have e:b=it:=by simpa using hb
  subst e
  exact ⟨_,st,fun v z=>by
   have z':Data.fields _=Data.cell v:=z
   cases z'⟩
 keep:=fun i h h' st k=>k it (by simp) _ st
 item:=by
  intro X hP hw hK hc i pins s σ H E I hf st hg
  subst hP hw hK
  obtain ⟨f0,f1,f2,f3,f4,f5⟩:=hf it (by simp)
  have W:=Walks.range (prog:=X.prog) (w:=X.w) (I.ok.hd hc) it lo 1 n
  refine W.item i s _ _ hg st fun v h' tk hv st' kk=>?_
  obtain ⟨t,rfl⟩:=hv
  have I1:Inv X pins σ H { s with heap:=h',toks:=tk }:=I.turned (fun b o hb e=>kk b o (by simpa using hb) e) f0 f1 f3 f4 f5
  refine ⟨_,rfl,Cf (s:={ s with heap:=h',toks:=tk }) (n:="range_iterator") st' rfl rfl (by decide) ⟨.int (lo + i),H,I1,⟨t,?_⟩,⟨rfl,rfl⟩,st',fun b hb=>(hf b hb).1⟩⟩
  rw [Int.mul_one]
 done:=by
  intro X hP hw hK hc i pins s σ H E I hf st hg
  subst hP hw hK
  obtain ⟨f0,f1,f2,f3,f4,f5⟩:=hf it (by simp)
  exact wpAny_pyNext_range_end (I.ok.hd hc) st (by have:n<=i:=hg; omega) fun h' eb=>⟨rfl,I.turned (t':=s.toks) (fun b o hb e=>eb b o hb e) f0 f1 f3 f4 f5⟩
 self:=fun _ _ _ _ _ st h=>wpAny_pyIter_rangeiter st h
end L2
namespace L2
open PySem PySem.Spec PyProof.Rows
section
variable {X:Cx} {tg:Expr}
noncomputable def dc (K:Fg) (tl:TE):TI:=fun σ H R=>tl σ H fun x H1=>∃ a,x=.ref a/\(∃ xs,SqL K H1 a xs)/\R (Itl K a) H1
noncomputable def wv (K:Fg) (tl:TE):TI:=fun σ H R=>tl σ H fun x H1=>∃ a,x=.ref a/\(∃ xs,SqT K H1 a xs)/\R (Itt K a) H1
theorem cb {l:Expr} {tl:TE} (hl:PE X l tl):PI X tg l (dc X.K tl):=by
 intro pins s σ H R I h
 refine thn (hl pins s σ H _ I h) fun v s1 ⟨x,H1,I1,r1,q1⟩=>?_
 obtain ⟨a,e,⟨xs,hq⟩,q⟩:=q1
 subst e
 cases r1
 obtain ⟨its,rv,p,hz⟩:=I1.list hq
 refine OJ p.isList ?_
 refine ⟨s1.heap.objs.size,[s1.heap.objs.size],_,_,H1,rfl,I1.kept (t':=s1.toks) fun b o e=>Ll _ e,Ee a _,⟨_,Lx _ rfl,rfl,rfl⟩,fun b hb=>?_,q⟩
 have e:b=s1.heap.objs.size:=by simpa using hb
 subst e
 exact I1.fpOk (Lr _) (I1.hok.fresh (Lr _))
theorem uE {l:Expr} {tl:TE} (hl:PE X l tl):PI X tg l (wv X.K tl):=by
 intro pins s σ H R I h
 refine thn (hl pins s σ H _ I h) fun v s1 ⟨x,H1,I1,r1,q1⟩=>?_
 obtain ⟨a,e,⟨xs,hq⟩,q⟩:=q1
 subst e
 cases r1
 obtain ⟨its,rv,p,hz⟩:=I1.tuple hq
 refine SB (show s1.heap.IsTuple a its.toArray from p) ?_
 refine ⟨s1.heap.objs.size,[s1.heap.objs.size],_,_,H1,rfl,I1.kept (t':=s1.toks) fun b o e=>Ll _ e,Cg a _,⟨_,Lx _ rfl,rfl,rfl⟩,fun b hb=>?_,q⟩
 have e:b=s1.heap.objs.size:=by simpa using hb
 subst e
 exact I1.fpOk (Lr _) (I1.hok.fresh (Lr _))
theorem FK {pins:List (Addr×Obj)} {σ:St} {H:Hp} {s:Shared} {R:It->Hp->Prop} {E:Value->Shared->Prop} {lo hi:Int} {t u v:Tok} {tk:Nat} (I:Inv X pins σ H s) (h1:-(2 ^ 62)<=lo) (h2:lo < 2 ^ 62) (h3:-(2 ^ 62)<=hi) (h4:hi < 2 ^ 62)
  (q:R (Itr lo (hi - lo).toNat) H):wpAny (model X.prog X.w) X.A (pyIter (.ref s.heap.objs.size)) (PIE X pins σ tg R) E { s with heap:=s.heap.push { cls:=.type "range",data:=.fields #[.int lo t,.int hi u,.int 1 v] },toks:=tk }:=by
 refine wpAny_pyIter_range (IsRange.new ..) (small_one h1 h2 h3 h4) ?_
 have I1:Inv X pins σ H { s with heap:=s.heap.push { cls:=.type "range",data:=.fields #[.int lo t,.int hi u,.int 1 v] },toks:=tk }:=I.kept fun b o e=>Ll _ e
 refine ⟨(s.heap.push { cls:=.type "range",data:=.fields #[.int lo t,.int hi u,.int 1 v] }).objs.size,[(s.heap.push { cls:=.type "range",data:=.fields #[.int lo t,.int hi u,.int 1 v] }).objs.size],_,_,H,rfl,
  I1.kept (t':=tk) fun b o e=>Ll _ e,Ch _ lo (hi - lo).toNat,?_,fun b hb=>?_,q⟩
 ·have e1:lo + ((0:Nat):Int) * 1=lo:=by simp
  have e2:(((hi - lo).toNat:Nat):Int) - ((0:Nat):Int)=Builtin.Range.rangeSize lo hi 1:=by rw [rangeSize_one]; split <;> omega
  show IsRangeIter _ _ (lo + ((0:Nat):Int) * 1) ((((hi - lo).toNat:Nat):Int) - ((0:Nat):Int)) 1
  rw [e1,e2]
  exact Lx _ rfl
 ·have e:b=(s.heap.push { cls:=.type "range",data:=.fields #[.int lo t,.int hi u,.int 1 v] }).objs.size:=by simpa using hb
  subst e
  exact I1.fpOk (Lr _) (I1.hok.fresh (Lr _))
noncomputable def fA (ta:TA):TI:=fun σ H R=>ta σ H fun vs H1=>∃ j:Int,vs=[.int j]/\-(2 ^ 62)<=j/\j < 2 ^ 62/\R (Itr 0 j.toNat) H1
noncomputable def Ks (ta:TA):TI:=fun σ H R=>ta σ H fun vs H1=>∃ i j:Int,vs=[.int i,.int j]/\(-(2 ^ 62)<=i/\i < 2 ^ 62/\-(2 ^ 62)<=j/\j < 2 ^ 62)/\R (Itr i (j - i).toNat) H1
theorem cc {a:Expr} {ta:TA} {p pos:Pos} (hg:Gl X "range") (hm:X.mg "range"=none) (ha:PA X [a] ta) (hs:LP [a] X.env=[(false,eval a X.env)]:=by rfl):PI X tg (.Call (.Name "range" p) [a] [] pos) (fA ta):=by
 intro pins s σ H R I h
 refine Call_ (iz I hg hm boot_range (MM (thn (ha pos pins s σ H _ I h) fun us s1 ⟨vs,H1,I1,r1,q1⟩=>?_) hs rfl))
 obtain ⟨j,e,q1,q2,q⟩:=q1
 subst e
 cases r1 with
 | cons r rr=>
  cases rr
  obtain ⟨t,rfl⟩:=r
  exact call_range_1 (FK I1 (by omega) (by omega) q1 q2 (by simpa using q))
noncomputable def dI (wi:TI) (g:TG) (tb:TS):TS:=fun D σ H=>wi σ H fun J H1=>∃ W:Nat->Nat->St->Hp->Prop,(∃ m,W 0 m σ H1)/\∀ i m σ H,W i m σ H->
 (J.stop i H/\D.nx σ H)\/(J.go i H/\∃ N:St->Hp->Prop,(∀ σ' H',N σ' H'->∃ m',m' < m/\W (i + 1) m' σ' H')/\∀ x H',J.yld i H x H'->g x σ H' fun σ2 H2=>tb { D with nx:=N,ct:=N,bk:=D.nx } σ2 H2)
noncomputable def nP (fp:List Addr) (h:Heap):List (Addr×Obj):=fp.filterMap fun b=>(h.get? b).map fun o=>(b,o)
theorem gU {fp:List Addr} {h:Heap} {b:Addr} {o:Obj} (hb:b∈fp) (e:h.get? b=some o):(b,o)∈nP fp h:=Qo.mpr ⟨b,hb,by rw [e]; rfl⟩
theorem Ef {fp:List Addr} {h:Heap} {p:Addr×Obj} (hp:p∈nP fp h):p.1∈fp/\h.get? p.1=some p.2:=by
 obtain ⟨b,hb,e⟩:=Qo.mp hp
 cases q:h.get? b with
 | none=>rw [q] at e; cases e
 | some o=>
  rw [q] at e
  have e':(b,o)=p:=LF e
  subst e'
  exact ⟨hb,q⟩
theorem Inv.pinned {pins:List (Addr×Obj)} {σ:St} {H:Hp} {s:Shared} {fp:List Addr} (I:Inv X pins σ H s) (hf:∀ b∈fp,jh X pins H b) (ho:∀ b∈fp,∃ o,s.heap.get? b=some o/\∀ v,o.data≠.cell v):Inv X (pins++nP fp s.heap) σ H s:=
 I.pins_of fun p hp=>(LR.mp hp).elim (fun z=>I.pin p (L7 _ z)) fun z=>by
  obtain ⟨hb,e⟩:=Ef z
  obtain ⟨f0,f1,f2,_⟩:=hf p.1 hb
  obtain ⟨o,e',d⟩:=ho p.1 hb
  rw [e] at e'; cases e'
  exact ⟨e,f0,f1,f2,d⟩
theorem Inv.unpinned {pins pl:List (Addr×Obj)} {σ:St} {H:Hp} {s:Shared} (I:Inv X (pins++pl) σ H s):Inv X pins σ H s:=I.pins_of fun p hp=>I.pin p (L7 _ (MT _ hp))
theorem bX {iter:Expr} {body:List Stmt} {wi:TI} {g:TG} {tb:TS} {pos:Pos} (hp:Mr (model X.prog X.w) X.A X.env X.xe) (hc:X.calm=true) (hi:PI X tg iter wi) (hg:PG X tg g) (hb:PSs X body tb)
  (hs:∀ x,Pj iter X.env x=pure x:=by intro _; rfl):PS X (.For tg iter body [] pos) (dI wi g tb):=by
 intro pins s σ H D I h
 refine wpAny_For (thn (hi pins s σ H _ I h) fun v s1 h1=>thn h1 fun itv s2 h2=>?_) hs
 obtain ⟨it,fp,tn,J,H2,e,I2,T,st2,f2,W,⟨m0,w0⟩,turn⟩:=h2
 subst e
 have stat:∀ {H':Hp},(∀ b∈fp,H' b=none)->∀ b∈fp,jh X pins H' b:=fun hn b hb=>⟨hn b hb,(f2 b hb).2⟩
 refine codeAny_forLoop_any (fun n s'=>∃ i σ' H',Inv X pins σ' H' s'/\tn i s'.heap/\(∀ b∈fp,H' b=none)/\W i n σ' H') ?_ m0 ⟨0,σ,H2,I2,st2,fun b hb=>(f2 b hb).1,w0⟩
 rintro n s3 ⟨i,σ3,H3,I3,st3,fr3,w3⟩
 rcases turn i n σ3 H3 w3 with ⟨stop,qn⟩ | ⟨go,N,hN,step⟩
 ·refine N7 hp (thn (T.done X rfl rfl rfl hc i pins s3 σ3 H3 X.xe I3 (stat fr3) st3 stop) fun r s4 ⟨hr,I4⟩=>?_)
  subst hr
  exact PM ⟨σ3,H3,I4,qn⟩
 ·refine N7 hp (thn (T.item X rfl rfl rfl hc i pins s3 σ3 H3 X.xe I3 (stat fr3) st3 go) fun r s4 ⟨u,hr,h4⟩=>?_)
  subst hr
  refine N7 hp (thn h4 fun _ s5 ⟨x,H5,I5,r5,y5,st5,fr5⟩=>?_)
  have I5':=I5.pinned (stat fr5) (T.obj _ _ st5)
  refine N7 hp (thn (hg _ s5 σ3 H5 x u _ I5' r5 (step x H5 y5)) fun _ s6 ⟨σ6,H6,I6,q6⟩=>?_)
  refine N7 hp (thn (hb _ s6 σ6 H6 _ I6 q6) fun f s7 q7=>?_)
  have again:∀ {σ7:St} {H7:Hp},Inv X (pins++nP fp s5.heap) σ7 H7 s7->N σ7 H7->∃ m,m < n/\∃ i σ' H',Inv X pins σ' H' s7/\tn i s7.heap/\(∀ b∈fp,H' b=none)/\W i m σ' H':=fun {σ7 H7} I7 n7=>by
   obtain ⟨m',hm,w7⟩:=hN σ7 H7 n7
   refine ⟨m',hm,i + 1,σ7,H7,I7.unpinned,T.keep _ _ _ st5 fun b hb o e=>(I7.pin (b,o) (L7 _ (L7 _ (gU hb e)))).1,fun b hb=>?_,w7⟩
   obtain ⟨o,e,d⟩:=T.obj _ _ st5 b hb
   exact (I7.pin (b,o) (L7 _ (L7 _ (gU hb e)))).2.1
  cases f with
  | next=>obtain ⟨σ7,H7,I7,n7⟩:=q7; exact again I7 n7
  | cont=>obtain ⟨σ7,H7,I7,n7⟩:=q7; exact again I7 n7
  | brk=>obtain ⟨σ7,H7,I7,q7⟩:=q7; exact ⟨σ7,H7,I7.unpinned,q7⟩
  | ret v=>obtain ⟨x7,σ7,H7,I7,r7,q7⟩:=q7; exact ⟨x7,σ7,H7,I7.unpinned,r7,q7⟩
end
theorem tR {K:Fg} {a:Addr} {xs:List V} {g:TG} {tb:TS} {D:jW} {σ:St} {H:Hp} (Pv:Nat->St->Hp->Prop) (h0:Pv 0 σ H) (hl:∀ i σ H,i<=xs.length->Pv i σ H->SqL K H a xs)
  (hs:∀ i x σ H,xs[i]?=some x->Pv i σ H->g x σ H fun σ2 H2=>tb { D with nx:=Pv (i + 1),ct:=Pv (i + 1),bk:=D.nx } σ2 H2) (hd:∀ σ H,Pv xs.length σ H->D.nx σ H):
  ∃ W:Nat->Nat->St->Hp->Prop,(∃ m,W 0 m σ H)/\∀ i m σ H,W i m σ H->
   ((Itl K a).stop i H/\D.nx σ H)\/((Itl K a).go i H/\∃ N:St->Hp->Prop,(∀ σ' H',N σ' H'->∃ m',m' < m/\W (i + 1) m' σ' H')/\∀ x H',(Itl K a).yld i H x H'->g x σ H' fun σ2 H2=>tb { D with nx:=N,ct:=N,bk:=D.nx } σ2 H2):=by
 refine ⟨fun i m σ H=>m=xs.length - i/\i<=xs.length/\Pv i σ H,⟨xs.length,by simp,Mv _,h0⟩,?_⟩
 rintro i m σ H ⟨rfl,hi,p⟩
 have q:=hl i σ H hi p
 by_cases hlt:i < xs.length
 ·refine .inr ⟨⟨xs,xs[i],q,by simp [hlt]⟩,Pv (i + 1),fun σ' H' p'=>⟨xs.length - (i + 1),by omega,rfl,hlt,p'⟩,fun x H' y=>?_⟩
  obtain ⟨e,y⟩:=y
  subst e
  exact hs i x σ _ (y xs q) p
 ·have e:i=xs.length:=by omega
  subst e
  exact .inl ⟨⟨xs,q,Lr _⟩,hd σ H p⟩
theorem HU {K:Fg} {a:Addr} {xs:List V} {g:TG} {tb:TS} {D:jW} {σ:St} {H:Hp} (Pv:Nat->St->Hp->Prop) (h0:Pv 0 σ H) (hl:∀ i σ H,i<=xs.length->Pv i σ H->SqT K H a xs)
  (hs:∀ i x σ H,xs[i]?=some x->Pv i σ H->g x σ H fun σ2 H2=>tb { D with nx:=Pv (i + 1),ct:=Pv (i + 1),bk:=D.nx } σ2 H2) (hd:∀ σ H,Pv xs.length σ H->D.nx σ H):
  ∃ W:Nat->Nat->St->Hp->Prop,(∃ m,W 0 m σ H)/\∀ i m σ H,W i m σ H->
   ((Itt K a).stop i H/\D.nx σ H)\/((Itt K a).go i H/\∃ N:St->Hp->Prop,(∀ σ' H',N σ' H'->∃ m',m' < m/\W (i + 1) m' σ' H')/\∀ x H',(Itt K a).yld i H x H'->g x σ H' fun σ2 H2=>tb { D with nx:=N,ct:=N,bk:=D.nx } σ2 H2):=by
 refine ⟨fun i m σ H=>m=xs.length - i/\i<=xs.length/\Pv i σ H,⟨xs.length,by simp,Mv _,h0⟩,?_⟩
 rintro i m σ H ⟨rfl,hi,p⟩
 have q:=hl i σ H hi p
 by_cases hlt:i < xs.length
 ·refine .inr ⟨⟨xs,xs[i],q,by simp [hlt]⟩,Pv (i + 1),fun σ' H' p'=>⟨xs.length - (i + 1),by omega,rfl,hlt,p'⟩,fun x H' y=>?_⟩
  obtain ⟨e,y⟩:=y
  subst e
  exact hs i x σ _ (y xs q) p
 ·have e:i=xs.length:=by omega
  subst e
  exact .inl ⟨⟨xs,q,Lr _⟩,hd σ H p⟩
theorem qD {lo:Int} {n:Nat} {g:TG} {tb:TS} {D:jW} {σ:St} {H:Hp} (Pv:Nat->St->Hp->Prop) (h0:Pv 0 σ H)
  (hs:∀ i σ H,i < n->Pv i σ H->g (.int (lo + i)) σ H fun σ2 H2=>tb { D with nx:=Pv (i + 1),ct:=Pv (i + 1),bk:=D.nx } σ2 H2) (hd:∀ σ H,Pv n σ H->D.nx σ H):
  ∃ W:Nat->Nat->St->Hp->Prop,(∃ m,W 0 m σ H)/\∀ i m σ H,W i m σ H->
   ((Itr lo n).stop i H/\D.nx σ H)\/((Itr lo n).go i H/\∃ N:St->Hp->Prop,(∀ σ' H',N σ' H'->∃ m',m' < m/\W (i + 1) m' σ' H')/\∀ x H',(Itr lo n).yld i H x H'->g x σ H' fun σ2 H2=>tb { D with nx:=N,ct:=N,bk:=D.nx } σ2 H2):=by
 refine ⟨fun i m σ H=>m=n - i/\i<=n/\Pv i σ H,⟨n,by simp,Mv _,h0⟩,?_⟩
 rintro i m σ H ⟨rfl,hi,p⟩
 by_cases hlt:i < n
 ·refine .inr ⟨hlt,Pv (i + 1),fun σ' H' p'=>⟨n - (i + 1),by omega,rfl,hlt,p'⟩,fun x H' y=>?_⟩
  obtain ⟨e,y⟩:=y
  subst e y
  exact hs i σ _ hlt p
 ·have e:i=n:=by omega
  subst e
  exact .inl ⟨Lr _,hd σ H p⟩
end L2
namespace L2
open PySem PySem.Spec PyProof.Rows
noncomputable abbrev R2:=V->V->Hp->VK->Prop
noncomputable def OpR (X:Cx) (f:Value->Value->Sem Value) (r:R2):Prop:=
 ∀ (pins:List (Addr×Obj)) (s:Shared) (σ:St) (H:Hp) (x y:V) (v u:Value) (Q:VK),Inv X pins σ H s->aK x v->aK y u->r x y H Q->
  wpAny (model X.prog X.w) X.A (f v u) (EP X pins σ Q) X.xe s
noncomputable def UnR (X:Cx) (f:Value->Sem Value) (r:V->Hp->VK->Prop):Prop:=
 ∀ (pins:List (Addr×Obj)) (s:Shared) (σ:St) (H:Hp) (x:V) (v:Value) (Q:VK),Inv X pins σ H s->aK x v->r x H Q->
  wpAny (model X.prog X.w) X.A (f v) (EP X pins σ Q) X.xe s
noncomputable def cF (X:Cx) (f:Value) (r:List V->Hp->VK->Prop):Prop:=
 ∀ (pins:List (Addr×Obj)) (s:Shared) (σ:St) (H:Hp) (xs:List V) (us:List Value) (Q:VK),Inv X pins σ H s->aH xs us->r xs H Q->
  wpAny (model X.prog X.w) X.A (call f us) (EP X pins σ Q) X.xe s
noncomputable def tOp (r:R2) (ta tb:TE):TE:=fun σ H Q=>ta σ H fun x H1=>tb σ H1 fun y H2=>r x y H2 Q
noncomputable def tUn (r:V->Hp->VK->Prop) (ta:TE):TE:=fun σ H Q=>ta σ H fun x H1=>r x H1 Q
noncomputable def rI (C:Int->Int->Prop) (g:Int->Int->V):R2:=fun x y H Q=>∃ i j,x=.int i/\y=.int j/\C i j/\Q (g i j) H
noncomputable def rI0 (g:Int->Int->V):R2:=fun x y H Q=>∃ i j,x=.int i/\y=.int j/\Q (g i j) H
noncomputable def rU (g:Int->V):V->Hp->VK->Prop:=fun x H Q=>∃ i,x=.int i/\Q (g i) H
section
variable {X:Cx} {a b c:Expr} {ta tb tc:TE} {pos:Pos}
theorem FL (ha:PE X a ta) (hb:PE X b tb) {pins:List (Addr×Obj)} {s:Shared} {σ:St} {H:Hp} {R:V->V->Hp->Prop} (I:Inv X pins σ H s)
  (h:ta σ H fun x H1=>tb σ H1 fun y H2=>R x y H2) {Q:Value->Shared->Prop} {f:Value->Value->Sem Value}
  (hf:∀ v u s2 x y H2,Inv X pins σ H2 s2->aK x v->aK y u->R x y H2->wpAny (model X.prog X.w) X.A (f v u) Q X.xe s2):
  wpAny (model X.prog X.w) X.A (eval a X.env) (fun v s₁=>wpAny (model X.prog X.w) X.A (eval b X.env) (fun u s₂=>wpAny (model X.prog X.w) X.A (f v u) Q X.xe s₂) X.xe s₁) X.xe s:=by
 refine thn (ha pins s σ H _ I h) fun v s1 ⟨x,H1,I1,r1,q1⟩=>?_
 refine thn (hb pins s1 σ H1 _ I1 q1) fun u s2 ⟨y,H2,I2,r2,q2⟩=>?_
 exact hf v u s2 x y H2 I2 r1 r2 q2
theorem av {op:Operator} {r:R2} (ho:OpR X (Ob op) r) (ha:PE X a ta) (hb:PE X b tb):PE X (.BinOp a op b pos) (tOp r ta tb):=by
 intro pins s σ H Q I h
 exact wpAny_BinOp (FL ha hb I h fun v u s2 x y H2 I2 rx ry q=>ho pins s2 σ H2 x y v u Q I2 rx ry q)
theorem Hk {op:UnaryOp} {r:V->Hp->VK->Prop} (ho:UnR X (unaryOp op) r) (ha:PE X a ta):PE X (.UnaryOp op a pos) (tUn r ta):=by
 intro pins s σ H Q I h
 exact UnaryOp_ (thn (ha pins s σ H _ I h) fun v s1 ⟨x,H1,I1,r1,q1⟩=>ho pins s1 σ H1 x v Q I1 r1 q1)
theorem opI {f:Value->Value->Sem Value} {C:Int->Int->Prop} {g:Int->Int->Int}
  (rule:∀ (i j:Int) (t u:Tok) (s:Shared) (Q:Value->Shared->Prop) (E:Value->Shared->Prop),C i j->Q (.int (g i j) s.toks) { s with toks:=s.toks + 1 }->wpAny (model X.prog X.w) X.A (f (.int i t) (.int j u)) Q E s):
  OpR X f (rI C fun i j=>.int (g i j)):=by
 intro pins s σ H x y v u Q I rx ry h
 obtain ⟨i,j,rfl,rfl,hc,q⟩:=h
 obtain ⟨t,rfl⟩:=rx
 obtain ⟨t',rfl⟩:=ry
 exact rule i j t t' s _ _ hc ⟨.int (g i j),H,I.tok _,⟨_,rfl⟩,q⟩
theorem Ju {f:Value->Value->Sem Value} {g:Int->Int->Int}
  (rule:∀ (i j:Int) (t u:Tok) (s:Shared) (Q:Value->Shared->Prop) (E:Value->Shared->Prop),Q (.int (g i j) s.toks) { s with toks:=s.toks + 1 }->wpAny (model X.prog X.w) X.A (f (.int i t) (.int j u)) Q E s):
  OpR X f (rI0 fun i j=>.int (g i j)):=by
 intro pins s σ H x y v u Q I rx ry h
 obtain ⟨i,j,rfl,rfl,q⟩:=h
 obtain ⟨t,rfl⟩:=rx
 obtain ⟨t',rfl⟩:=ry
 exact rule i j t t' s _ _ ⟨.int (g i j),H,I.tok _,⟨_,rfl⟩,q⟩
theorem FM {f:Value->Value->Sem Value} {g:Int->Int->Bool}
  (rule:∀ (i j:Int) (t u:Tok) (s:Shared) (Q:Value->Shared->Prop) (E:Value->Shared->Prop),Q (.bool (g i j)) s->wpAny (model X.prog X.w) X.A (f (.int i t) (.int j u)) Q E s):
  OpR X f (rI0 fun i j=>.bl (g i j)):=by
 intro pins s σ H x y v u Q I rx ry h
 obtain ⟨i,j,rfl,rfl,q⟩:=h
 obtain ⟨t,rfl⟩:=rx
 obtain ⟨t',rfl⟩:=ry
 exact rule i j t t' s _ _ ⟨.bl (g i j),H,I,rfl,q⟩
noncomputable def fE (i j:Int):Prop:=0 < j/\j < 1073741824
noncomputable def Jv (i j:Int):Prop:=(-(2 ^ 64) < i/\i < 2 ^ 64)\/(-(2 ^ 64) < j/\j < 2 ^ 64)
theorem Jv.ok {i j:Int} (h:Jv i j):N2 i j:=by
 rcases h with ⟨h1,h2⟩ | ⟨h1,h2⟩
 ·exact .of_left (QB h1 h2)
 ·exact .of_right (QB h1 h2)
theorem bt:OpR X (Ob .Add) (rI0 fun i j=>.int (i + j)):=Ju fun _ _ _ _ _ _ _ q=>add_int q
theorem eZ:OpR X (Ob .Sub) (rI0 fun i j=>.int (i - j)):=Ju fun _ _ _ _ _ _ _ q=>sub_int q
theorem ck:OpR X (Ob .FloorDiv) (rI fE fun i j=>.int (i / j)):=opI fun i j _ _ _ _ _ hc q=>by
 have h1:(0:Int) < j:=hc.1
 have h2:j < 1073741824:=hc.2
 exact floordiv_int (by omega) (by rw [Int.fdiv_eq_ediv_of_nonneg i (by omega)]; exact q) (.inl (PyProof.noPylong_small (by omega)))
theorem bx:OpR X (Ob .Mod) (rI (fun _ j=>0 < j) fun i j=>.int (i % j)):=opI fun i j _ _ _ _ _ hc q=>by
 have h1:(0:Int) < j:=hc
 exact mod_int' (by omega) (by rw [Int.fmod_eq_emod_of_nonneg i (by omega)]; exact q)
theorem unI {f:Value->Sem Value} {g:Int->Int}
  (rule:∀ (i:Int) (t:Tok) (s:Shared) (Q:Value->Shared->Prop) (E:Value->Shared->Prop),Q (.int (g i) s.toks) { s with toks:=s.toks + 1 }->wpAny (model X.prog X.w) X.A (f (.int i t)) Q E s):
  UnR X f (rU fun i=>.int (g i)):=by
 intro pins s σ H x v Q I rx h
 obtain ⟨i,rfl,q⟩:=h
 obtain ⟨t,rfl⟩:=rx
 exact rule i t s _ _ ⟨.int (g i),H,I.tok _,⟨_,rfl⟩,q⟩
theorem Eg:UnR X (unaryOp .USub) (rU fun i=>.int (-i)):=unI fun _ _ _ _ _ q=>neg_int q
end
noncomputable def Jw:V->V->Bool
 | .non,.non=>true | .non,.int _=>true | .int _,.non=>true | .non,.bl _=>true | .bl _,.non=>true | .non,.str _=>true | .str _,.non=>true
 | .int _,.int _=>true | .bl _,.bl _=>true | .str _,.str _=>true | .byt _,.byt _=>true
 | .int _,.str _=>true | .str _,.int _=>true | .bl _,.str _=>true | .str _,.bl _=>true
 | _,_=>false
noncomputable def rEq:R2:=fun x y H Q=>Jw x y=true/\Q (.bl (decide (x=y))) H
noncomputable def rNe:R2:=fun x y H Q=>Jw x y=true/\Q (.bl (!decide (x=y))) H
theorem BF {i j:Int}:decide (V.int i=V.int j)=(i == j):=by
 rw [PQ]
 simp
theorem Eh {i j:Bool}:decide (V.bl i=V.bl j)=(i == j):=by
 rw [PQ]
 simp
theorem BG {i j:Str}:decide (V.str i=V.str j)=(i == j):=by
 rw [PQ]
 simp
theorem BH {i j:Array UInt8}:decide (V.byt i=V.byt j)=(i.toList == j.toList):=by
 rw [PQ]
 cases i
 cases j
 simp
section
variable {X:Cx} {a b c:Expr} {ta tb tc:TE} {pos:Pos}
theorem bz {pins:List (Addr×Obj)} {σ:St} {H:Hp} {s:Shared} {Q:VK} {k k':Bool} (I:Inv X pins σ H s) (q:Q (.bl k) H) (e:k=k'):EP X pins σ Q (.bool k') s:=by
 subst e
 exact ⟨.bl k,H,I,rfl,q⟩
theorem de:OpR X (NF .Eq) rEq:=by
 intro pins s σ H x y v u Q I rx ry h
 obtain ⟨hs,q⟩:=h
 cases x with
 | non=>
  cases rx
  cases y with
  | non=>cases ry; exact PySem.EqNone.eq_none_none (bz I q (by simp))
  | bl j=>cases ry; exact PySem.EqNone.eq_none_bool (bz I q (by simp))
  | int j=>obtain ⟨t',rfl⟩:=ry; exact PySem.EqNone.eq_none_int (bz I q (by simp))
  | str j=>obtain ⟨t',rfl⟩:=ry; exact PySem.EqNone.eq_none_str (bz I q (by simp))
  | _=>exact absurd (show false=true from hs) LB
 | bl i=>
  cases rx
  cases y with
  | non=>cases ry; exact PySem.EqNone.eq_bool_none (bz I q (by simp))
  | bl j=>cases ry; exact eq_bool (bz I q Eh)
  | str j=>obtain ⟨t',rfl⟩:=ry; exact PySem.EqMixed.eq_bool_str (bz I q (by simp))
  | _=>exact absurd (show false=true from hs) LB
 | int i=>
  obtain ⟨t,rfl⟩:=rx
  cases y with
  | non=>cases ry; exact PySem.EqNone.eq_int_none (bz I q (by simp))
  | int j=>obtain ⟨t',rfl⟩:=ry; exact eq_int (bz I q BF)
  | str j=>obtain ⟨t',rfl⟩:=ry; exact PySem.EqMixed.eq_int_str (bz I q (by simp))
  | _=>exact absurd (show false=true from hs) LB
 | str i=>
  obtain ⟨t,rfl⟩:=rx
  cases y with
  | non=>cases ry; exact PySem.EqNone.eq_str_none (bz I q (by simp))
  | bl j=>cases ry; exact PySem.EqMixed.eq_str_bool (bz I q (by simp))
  | int j=>obtain ⟨t',rfl⟩:=ry; exact PySem.EqMixed.eq_str_int (bz I q (by simp))
  | str j=>obtain ⟨t',rfl⟩:=ry; exact eq_str (bz I q BG)
  | _=>exact absurd (show false=true from hs) LB
 | byt i=>
  obtain ⟨t,rfl⟩:=rx
  cases y with
  | byt j=>obtain ⟨t',rfl⟩:=ry; exact PySem.W.eq_bytes (bz I q BH)
  | _=>exact absurd (show false=true from hs) LB
 | _=>cases y <;> exact absurd (show false=true from hs) LB
theorem Hl:OpR X (NF .NotEq) rNe:=by
 intro pins s σ H x y v u Q I rx ry h
 obtain ⟨hs,q⟩:=h
 cases x with
 | non=>
  cases rx
  cases y with
  | non=>cases ry; exact PySem.EqNone.ne_none_none (bz I q (by simp))
  | bl j=>cases ry; exact PySem.EqNone.ne_none_bool (bz I q (by simp))
  | int j=>obtain ⟨t',rfl⟩:=ry; exact PySem.EqNone.ne_none_int (bz I q (by simp))
  | str j=>obtain ⟨t',rfl⟩:=ry; exact PySem.EqNone.ne_none_str (bz I q (by simp))
  | _=>exact absurd (show false=true from hs) LB
 | bl i=>
  cases rx
  cases y with
  | non=>cases ry; exact PySem.EqNone.ne_bool_none (bz I q (by simp))
  | bl j=>cases ry; exact ne_bool (bz I q (congrArg not Eh))
  | str j=>obtain ⟨t',rfl⟩:=ry; exact PySem.EqMixed.ne_bool_str (bz I q (by simp))
  | _=>exact absurd (show false=true from hs) LB
 | int i=>
  obtain ⟨t,rfl⟩:=rx
  cases y with
  | non=>cases ry; exact PySem.EqNone.ne_int_none (bz I q (by simp))
  | int j=>obtain ⟨t',rfl⟩:=ry; exact ne_int (bz I q (congrArg not BF))
  | str j=>obtain ⟨t',rfl⟩:=ry; exact PySem.EqMixed.ne_int_str (bz I q (by simp))
  | _=>exact absurd (show false=true from hs) LB
 | str i=>
  obtain ⟨t,rfl⟩:=rx
  cases y with
  | non=>cases ry; exact PySem.EqNone.ne_str_none (bz I q (by simp))
  | bl j=>cases ry; exact PySem.EqMixed.ne_str_bool (bz I q (by simp))
  | int j=>obtain ⟨t',rfl⟩:=ry; exact PySem.EqMixed.ne_str_int (bz I q (by simp))
  | str j=>obtain ⟨t',rfl⟩:=ry; exact ne_str (bz I q (congrArg not BG))
  | _=>exact absurd (show false=true from hs) LB
 | byt i=>
  obtain ⟨t,rfl⟩:=rx
  cases y with
  | byt j=>obtain ⟨t',rfl⟩:=ry; exact PySem.W.ne_bytes (bz I q (congrArg not BH))
  | _=>exact absurd (show false=true from hs) LB
 | _=>cases y <;> exact absurd (show false=true from hs) LB
theorem Hn:OpR X (NF .Lt) (rI0 fun i j=>.bl (decide (i < j))):=FM fun _ _ _ _ _ _ _ q=>lt_int q
theorem yO:OpR X (NF .LtE) (rI0 fun i j=>.bl (decide (i<=j))):=FM fun _ _ _ _ _ _ _ q=>le_int q
theorem mL:OpR X (NF .Gt) (rI0 fun i j=>.bl (decide (j < i))):=FM fun _ _ _ _ _ _ _ q=>gt_int q
theorem OpR.or {f:Value->Value->Sem Value} {r r':R2} (h:OpR X f r) (h':OpR X f r'):OpR X f (fun x y H Q=>r x y H Q\/r' x y H Q):=by
 intro pins s σ H x y v u Q I rx ry q
 rcases q with q | q
 ·exact h pins s σ H x y v u Q I rx ry q
 ·exact h' pins s σ H x y v u Q I rx ry q
theorem aU (b:Expr) {op:CmpOp} (h:op≠.In:=by decide) (h2:op≠.NotIn:=by decide):QC op b=false:=by
 have e1:(op == CmpOp.In)=false:=by cases op <;> first | rfl | exact absurd rfl h
 have e2:(op == CmpOp.NotIn)=false:=by cases op <;> first | rfl | exact absurd rfl h2
 cases b <;> simp [QC,e1,e2]
theorem nQ {op:CmpOp} {r:R2} (ho:OpR X (NF op) r) (ha:PE X a ta) (hb:PE X b tb) (hm:QC op b=false):PE X (.Compare a [op] [b] pos) (tOp r ta tb):=by
 intro pins s σ H Q I h
 exact wpAny_Compare1 (FL ha hb I h fun v u s2 x y H2 I2 rx ry q=>ho pins s2 σ H2 x y v u Q I2 rx ry q) hm
noncomputable def bc (t:TE):TT:=fun σ H Q=>t σ H fun x H'=>∃ k,x=.bl k/\Q k H'
theorem aQ {op:CmpOp} {r:R2} (ho:OpR X (NF op) r) (ha:PE X a ta) (hb:PE X b tb) (hm:QC op b=false):PT X (.Compare a [op] [b] pos) (bc (tOp r ta tb)):=by
 intro pins s σ H Q I h
 refine wpAny_isTrue_Compare1 (thn (ha pins s σ H _ I h) fun v s1 ⟨x,H1,I1,r1,q1⟩=>thn (hb pins s1 σ H1 _ I1 q1) fun u s2 ⟨y,H2,I2,r2,q2⟩=>
  thn (ho pins s2 σ H2 x y v u _ I2 r1 r2 q2) fun c s3 ⟨z,H3,I3,r3,k,e,q3⟩=>?_) hm
 subst e
 cases r3
 exact NB ⟨H3,I3,q3⟩
noncomputable def zh (r r':R2) (ta tb tc:TE):TE:=fun σ H Q=>ta σ H fun x H1=>tb σ H1 fun y H2=>r x y H2 fun z H3=>∃ k,z=.bl k/\
 (if k=true then tc σ H3 fun w' H4=>r' y w' H4 Q else Q (.bl false) H3)
theorem FN {op op':CmpOp} {r r':R2} (ho:OpR X (NF op) r) (ho':OpR X (NF op') r') (ha:PE X a ta) (hb:PE X b tb) (hc:PE X c tc)
  (hm:lastMarks [op,op'] [b,c]=false:=by with_unfolding_all rfl):PE X (.Compare a [op,op'] [b,c] pos) (zh r r' ta tb tc):=by
 intro pins s σ H Q I h
 refine Compare_chain (thn (ha pins s σ H _ I h) fun v s1 ⟨x,H1,I1,r1,q1⟩=>chain_link (thn (hb pins s1 σ H1 _ I1 q1) fun u s2 ⟨y,H2,I2,r2,q2⟩=>
  thn (ho pins s2 σ H2 x y v u _ I2 r1 r2 q2) fun d s3 ⟨z,H3,I3,r3,k,e,q3⟩=>?_)) hm
 subst e
 cases r3
 refine NB ?_
 cases k with
 | false=>exact ite_ff ⟨.bl false,H3,I3,rfl,q3⟩
 | true=>exact ite_tt (chain_last (thn (hc pins s3 σ H3 _ I3 q3) fun w' s4 ⟨z',H4,I4,r4,q4⟩=>ho' pins s4 σ H4 y z' u w' Q I4 r2 r4 q4))
theorem uF:(Lz:Nat) < 2 ^ 63:=by rw [Lw]; decide
theorem oK {x:V} {us:List Value} (r:aH [x] us):∃ u,us=[u]/\aK x u:=by
 cases r with
 | cons r1 r2=>cases r2; exact ⟨_,rfl,r1⟩
theorem Ho {x y:V} {us:List Value} (r:aH [x,y] us):∃ u w',us=[u,w']/\aK x u/\aK y w':=by
 cases r with
 | cons r1 r2=>
  cases r2 with
  | cons r3 r4=>cases r4; exact ⟨_,_,rfl,r1,r3⟩
theorem Ei (hc:X.calm=true):cF X (.builtin "max") (fun xs H Q=>∃ i j,xs=[.int i,.int j]/\Q (.int (if j > i then j else i)) H):=by
 intro pins s σ H xs us Q I r h
 obtain ⟨i,j,rfl,q⟩:=h
 obtain ⟨u,w',rfl,⟨t,rfl⟩,⟨t',rfl⟩⟩:=Ho r
 refine max_two_ints (I.ok.hd hc) fun h' tk k=>⟨_,H,I.kept k,?_,q⟩
 by_cases hj:j > i
 ·rw [if_pos hj,if_pos hj]; exact ⟨_,rfl⟩
 ·rw [if_neg hj,if_neg hj]; exact ⟨_,rfl⟩
theorem xt (hc:X.calm=true):cF X (.builtin "min") (fun xs H Q=>∃ i j,xs=[.int i,.int j]/\Q (.int (if j < i then j else i)) H):=by
 intro pins s σ H xs us Q I r h
 obtain ⟨i,j,rfl,q⟩:=h
 obtain ⟨u,w',rfl,⟨t,rfl⟩,⟨t',rfl⟩⟩:=Ho r
 refine min_two_ints (I.ok.hd hc) fun h' tk k=>⟨_,H,I.kept k,?_,q⟩
 by_cases hj:j < i
 ·rw [if_pos hj,if_pos hj]; exact ⟨_,rfl⟩
 ·rw [if_neg hj,if_neg hj]; exact ⟨_,rfl⟩
theorem Ej:cF X (.type "int") (fun xs H Q=>(∃ i,xs=[.int i]/\Q (.int i) H)\/∃ k,xs=[.bl k]/\Q (.int (if k then 1 else 0)) H):=by
 intro pins s σ H xs us Q I r h
 rcases h with ⟨i,rfl,q⟩ | ⟨k,rfl,q⟩
 ·obtain ⟨u,rfl,t,rfl⟩:=oK r
  exact call_int_int ⟨.int i,H,I,⟨_,rfl⟩,q⟩
 ·obtain ⟨u,rfl,r1⟩:=oK r
  cases r1
  exact call_int_bool ⟨.int (if k then 1 else 0),H,I.tok _,⟨_,rfl⟩,q⟩
end
end L2
namespace L2
open PySem PySem.Spec PyProof.Rows
structure tS (h:Heap) (x dx C:Addr) (mA:Str->Option Value):Prop where
 obj:h.get? x=some (NR C dx)
 ns:h.Ns1 dx mA
 ne:dx≠x
theorem Ek {h:Heap} {dx:Addr} {mA:Str->Option Value} (n:h.Ns1 dx mA):∃ od,h.get? dx=some od/\∀ name,Qg name od=some (mA name):=by
 obtain ⟨o,es,ep,ho,hd,hk,_,hm⟩:=n
 refine ⟨o,ho,fun name=>?_⟩
 have e:=hm name
 unfold nsFind findBy at e
 rw [<-Array.find?_toList] at e
 unfold Qg
 rw [hd]
 dsimp only
 split
 ·rename_i y q
  rw [q] at e
  exact congrArg some e
 ·rename_i q
  rw [q] at e
  have a:es.toList.any (·.refKey)=false:=by
   rw [SR]
   intro y hy
   obtain ⟨z,t,hkey⟩:=hk y (Array.mem_toList_iff.mp hy)
   simp [SC.refKey,hkey]
  have a':¬ es.toList.any (·.refKey)=true:=by rw [a]; exact LB
  rw [if_neg a']
  exact congrArg some e
theorem tS.look {h:Heap} {x dx C:Addr} {mA:Str->Option Value} (I:tS h x dx C mA):∃ od,PySem.W.InstAt h x (NR C dx) C (some od)/\∀ name,Qg name od=some (mA name):=
 let ⟨od,ho,hl⟩:=Ek I.ns
 ⟨od,⟨I.obj,rfl,rfl,ho⟩,hl⟩
section
variable {prog:Program} {w:World} {A:Around} {E:Value->Shared->Prop} {s:Shared} {K:Fg} {x dx C f:Addr} {mA:Str->Option Value} {name:Str} {v:Value}
theorem HV {expr:Bool} {Q:Value->Shared->Prop} (X:K.In s.heap) (I:tS s.heap x dx C mA) (hg:Py K C name=true) (hh:QM K C=true)
  (ha:Nx K (.ref C) name=some none) (hv:mA name=some v) (hv':Tp v=true) (h:Q v { s with toks:=s.toks + 1 }):
  wpAny (model prog w) A (getAttr (.ref x) name expr) Q E s:=by
 obtain ⟨od,J,hl⟩:=I.look
 exact PySem.W.get_value X J (Qc hg).1 (PySem.W.findObj_own hh ha rfl (by rw [hl,hv])) hv' h
theorem FO {pl:Sem Bool} {Q:Value×List Value->Shared->Prop} (X:K.In s.heap) (I:tS s.heap x dx C mA) (hg:Py K C name=true)
  (hf:Nx K (.ref C) name=some (some (.ref f))) (ht:SD K (.ref f)=true) (hv:mA name=none) (h:Q (.ref f,[.ref x]) s):
  wpAny (model prog w) A (Qp (.ref x) name pl) Q E s:=by
 obtain ⟨od,J,hl⟩:=I.look
 exact PySem.W.method_fn X J (Qc hg).1 (Qc hg).2 hf (beq_iff_eq.mp ht) (by show (Qg name od).map (·.isSome)=some false; rw [hl,hv]; rfl) h
theorem HW {ns:List Str} {Q:Unit->Shared->Prop} (X:K.In s.heap) (I:tS s.heap x dx C mA)
  (hs:Nx K (.ref C) "__setattr__"=some (some (.builtin "object.__setattr__"))) (hp:SS K C=true) (ht:Rq K C name=some none) (hh:QM K C=true)
  (hw:Q3 mA ns) (hsz:ns.length<=Lz)
  (h:∀ h',tS h' x dx C (fun y=>if y=name then some v else mA y)->LM dx s.heap h'->Q () { s with heap:=h',toks:=s.toks + 2 }):
  wpAny (model prog w) A (setAttr (.ref x) name v) Q E s:=by
 obtain ⟨od,J,hl⟩:=I.look
 refine PySem.W.set_plain X J hs (PySem.W.osa_open (s:={ s with toks:=s.toks + 1 }) (r:=none) X J hp ht fun b=>?_)
 obtain ⟨cd,hc,hd'⟩:=PySem.W.any_some hh
 have hx:s.heap.get? x=some ⟨.ref C,some dx,.plain,#[]⟩:=I.obj
 refine Lk (Lm (Lk (Lk (wpAny_loadPart hx (Lk (PySem.W.Looks.here (s:={ s with toks:=s.toks + 1 }) (PySem.W.looks_clsIn X hc) ?_))))))
 rw [hd']
 refine Lm (a:=some dx) (Lk (Lm (Lk ?_)))
 refine wpAny_nsSet1 (s:={ s with toks:=s.toks + 1 }) I.ns fun h' hn2 hs2=>?_
 obtain ⟨oD,esD,epD,hoD,hdD,hcD⟩:=hn2.count (Q3.cons name v hw)
 refine Lk (wpAny_lookBehind hoD (by rw [hdD]; exact pastItsLine_dict (L8 hcD (by rw [LX]; omega))) ?_)
 exact Lm (h _ ⟨(hs2.2 _ (MR I.ne)).trans I.obj,hn2,I.ne⟩ hs2)
theorem FP {R:Result->Shared->Prop} {vs:List Value} {kw:List (Str×Value)} (X:K.In s.heap) (hm:TV K C=true)
  (hi:Nx K (.ref C) "__init__"=some (some (.ref f))) (hf:PySem.W.typeIn K (.ref f)=some (.type "function"))
  (h:codeAny (model prog w) (A.under (.builtin "type.__call__" ⟨.ref C :: vs,kw⟩)) (.call (.ref f) ⟨.ref (s.heap.objs.size + 1) :: vs,kw⟩) (PySem.W.InitBack (s.heap.objs.size + 1) R)
   { s with heap:=(s.heap.push Ni).push (NR C s.heap.objs.size) }):
  codeAny (model prog w) A (.call (.ref C) ⟨vs,kw⟩) R s:=by
 obtain ⟨hh,g,d,t,os⟩:=s
 exact PySem.W.make_core (PySem.W.makes_of X hm) (PySem.W.looks_findIn X hi) (fun self=>PySem.W.bind_fn X self hf) (.inl rfl) h
end
noncomputable def gF (f:Str) (v:V):List (Str×V)->List (Str×V)
 | []=>[(f,v)]
 | (g,x) :: r=>if g=f then (g,v) :: r else (g,x) :: gF f v r
theorem sY (f g:Str) (v:V):∀ fs:List (Str×V),(gF f v fs).lookup g=if g=f then some v else fs.lookup g
 | []=>by
  show OF g [(f,v)]=_
  by_cases h:g=f
  ·have hb:(g == f)=true:=beq_iff_eq.mpr h
   simp only [OF,hb,if_pos h]
  ·have hb:(g == f)=false:=beq_eq_false_iff_ne.mpr h
   simp only [OF,hb,if_neg h]
 | (k,x) :: r=>by
  have ih:=sY f g v r
  rw [show gF f v ((k,x) :: r)=(if k=f then (k,v) :: r else (k,x) :: gF f v r) from rfl]
  by_cases hk:k=f
  ·rw [if_pos hk]
   by_cases h:g=k
   ·have hb:(g == k)=true:=beq_iff_eq.mpr h
    simp only [OF,hb,if_pos (h.trans hk)]
   ·have hb:(g == k)=false:=beq_eq_false_iff_ne.mpr h
    simp only [OF,hb,if_neg (fun e:g=f=>h (e.trans hk.symm))]
  ·rw [if_neg hk]
   by_cases h:g=k
   ·have hb:(g == k)=true:=beq_iff_eq.mpr h
    simp only [OF,hb,if_neg (fun e:g=f=>hk (h.symm.trans e))]
   ·have hb:(g == k)=false:=beq_eq_false_iff_ne.mpr h
    simp only [OF,hb]
    exact ih
theorem qE (f:Str) (v:V):∀ fs:List (Str×V),f∈(gF f v fs).map (·.1)/\∀ g,g∈fs.map (·.1)->g∈(gF f v fs).map (·.1)
 | []=>⟨by simp [gF],fun g h=>by simp at h⟩
 | (k,x) :: r=>by
  obtain ⟨i1,i2⟩:=qE f v r
  rw [show gF f v ((k,x) :: r)=(if k=f then (k,v) :: r else (k,x) :: gF f v r) from rfl]
  by_cases hk:k=f
  ·rw [if_pos hk]
   subst hk
   exact ⟨by simp,fun g h=>by simpa using h⟩
  ·rw [if_neg hk]
   refine ⟨?_,fun g h=>?_⟩
   ·rw [LI]
    exact LC _ i1
   ·rw [LI] at h ⊢
    rcases Lq.mp h with e | e
    ·exact Lq.mpr (.inl e)
    ·exact LC _ (i2 g e)
theorem sZ (f:Str) (v:V):∀ fs:List (Str×V),(gF f v fs).length<=fs.length + 1
 | []=>by simp [gF]
 | (k,x) :: r=>by
  have ih:=sZ f v r
  rw [show gF f v ((k,x) :: r)=(if k=f then (k,v) :: r else (k,x) :: gF f v r) from rfl]
  by_cases hk:k=f
  ·rw [if_pos hk,LX,LX]; omega
  ·rw [if_neg hk,LX,LX]; omega
theorem fQ.some_of {v:V} {o:Option Value} (r:fQ (some v) o):∃ u,o=some u/\aK v u:=by
 cases o with
 | none=>exact (show False from r).elim
 | some u=>exact ⟨u,rfl,r⟩
theorem fQ.none_of {o:Option Value} (r:fQ none o):o=none:=by
 cases o with
 | none=>rfl
 | some u=>exact (show False from r).elim
theorem El {v:V} {u:Value} (r:aK v u):Tp u=true:=by
 cases v with
 | non=>cases (show u=MH from r); rfl
 | bl b=>cases (show u=ML b from r); rfl
 | int i=>obtain ⟨t,e⟩:=(show ∃ t,u=Oh i t from r); cases e; rfl
 | str x=>obtain ⟨t,e⟩:=(show ∃ t,u=Ro x t from r); cases e; rfl
 | byt b=>obtain ⟨t,e⟩:=(show ∃ t,u=Value.bytes b t from r); cases e; rfl
 | flt b=>obtain ⟨t,e⟩:=(show ∃ t,u=Ta b t from r); cases e; rfl
 | ref a=>cases (show u=LZ a from r); rfl
 | ty n=>cases (show u=MI n from r); rfl
section
variable {P:Program} {w:World} {H H':Hp} {h h':Heap} {a C dx:Addr} {fs fs':List (Str×V)}
theorem rT (hok:HOk P w H h) (e:H a=some (.ins C dx fs)):∃ mA,tS h a dx C mA/\(∀ f,fQ (fs.lookup f) (mA f))/\Q3 mA (fs.map (·.1))/\fs.length<=1000/\H dx=some (.own a):=by
 obtain ⟨d,z,ne,ob,mA,n,r,q⟩:=(show bH P w H h a (.ins C dx fs) from hok a _ e)
 exact ⟨mA,⟨ob,n,ne⟩,r,q,z,d⟩
end
structure Cls (K:Fg) (C:Addr):Prop where
 pg:Py K C Ui=true
 hd:QM K C=true
 po:SS K C=true
 sa:Nx K (.ref C) "__setattr__"=some (some (.builtin "object.__setattr__"))
theorem Cls.get {K:Fg} {C:Addr} (c:Cls K C) (f:Str):Py K C f=true:=c.pg
noncomputable def fb (K:Fg) (C:Addr) (f:Str):Prop:=Nx K (.ref C) f=some none
theorem fb.taker {K:Fg} {C:Addr} {f:Str} (n:fb K C f):Rq K C f=some none:=by
 unfold Rq
 rw [show Nx K (.ref C) f=some none from n]
 rfl
structure zi (K:Fg) (C:Addr) (m:Str) (f:Addr):Prop where
 at_:Nx K (.ref C) m=some (some (.ref f))
 fn:SD K (.ref f)=true
 kp:OM K (.ref f)=true
section
variable {X:Cx} {pins:List (Addr×Obj)} {σ:St} {H:Hp} {s:Shared} {a C dx:Addr} {fs:List (Str×V)} {f:Str} {v:V} {A:Around} {E:Value->Shared->Prop}
theorem Ci {b:Bool} {Q:Value->Shared->Prop} (I:Inv X pins σ H s) (e:H a=some (.ins C dx fs)) (c:Cls X.K C) (n:fb X.K C f) (l:fs.lookup f=some v)
  (h:∀ u s',Inv X pins σ H s'->aK v u->Q u s'):wpAny (model X.prog X.w) A (getAttr (.ref a) f b) Q E s:=by
 obtain ⟨mA,O,r,_,_,_⟩:=rT I.hok e
 obtain ⟨u,hu,ru⟩:=fQ.some_of (v:=v) (o:=mA f) (by rw [<-l]; exact r f)
 exact HV I.kIn O (c.get f) c.hd n hu (El ru) (h u _ (I.tok _) ru)
theorem uG {m:Str} {g:Addr} {pl:Sem Bool} {Q:Value×List Value->Shared->Prop} (I:Inv X pins σ H s) (e:H a=some (.ins C dx fs)) (c:Cls X.K C) (k:zi X.K C m g) (l:fs.lookup m=none)
  (h:Q (.ref g,[.ref a]) s):wpAny (model X.prog X.w) A (Qp (.ref a) m pl) Q E s:=by
 obtain ⟨mA,O,r,_,_,_⟩:=rT I.hok e
 have hn:mA m=none:=fQ.none_of (by rw [<-l]; exact r m)
 exact FO I.kIn O (c.get m) k.at_ k.fn hn h
theorem Cj {y:V} {u:Value} {Q:Unit->Shared->Prop} (I:Inv X pins σ H s) (e:H a=some (.ins C dx fs)) (c:Cls X.K C) (n:fb X.K C f) (hl:fs.length < 1000) (ry:aK y u)
  (h:∀ s',Inv X pins σ (upd H a (.ins C dx (gF f y fs))) s'->Q () s'):wpAny (model X.prog X.w) A (setAttr (.ref a) f u) Q E s:=by
 obtain ⟨mA,O,r,wi,_,ho⟩:=rT I.hok e
 have hz:(fs.map (·.1)).length<=Lz:=by rw [Lp,Lw]; omega
 refine HW I.kIn O c.sa c.po n.taker c.hd wi hz fun h' O' sb=>h _ ?_
 have hd:∃ o,h'.get? dx=some o:=let ⟨o,_,_,e',_⟩:=O'.ns; ⟨o,e'⟩
 refine I.write (x:=a) (e:=dx) (by rw [e]; exact NS) (.inr ho) (fun b q hb z=>(sb.2 b hb).trans z) hd ?_
 refine ⟨by rw [aO O.ne]; exact ho,?_,O.ne,O'.obj,_,O'.ns,fun g=>?_,fun g hg=>?_⟩
 ·have:=sZ f y fs; omega
 ·show fQ ((gF f y fs).lookup g) (if g=f then some u else mA g)
  rw [sY]
  by_cases q:g=f
  ·rw [if_pos q,if_pos q]; exact ry
  ·rw [if_neg q,if_neg q]; exact r g
 ·by_cases q:g=f
  ·rw [q]; exact (qE f y fs).1
  ·refine (qE f y fs).2 g (wi g fun z=>hg ?_)
   show (if g=f then some u else mA g)=none
   rw [if_neg q]; exact z
theorem Inv.made (I:Inv X pins σ H s):Inv X pins σ (upd (upd H s.heap.objs.size (.own (s.heap.objs.size + 1))) (s.heap.objs.size + 1) (.ins C s.heap.objs.size []))
  { s with heap:=(s.heap.push Ni).push (NR C s.heap.objs.size) }:=by
 have e1:(s.heap.push Ni).get? s.heap.objs.size=some Ni:=Lx s.heap rfl
 have e2:((s.heap.push Ni).push (NR C s.heap.objs.size)).get? (s.heap.objs.size + 1)=some (NR C s.heap.objs.size):=by
  have:=Lx (s.heap.push Ni) (o:=NR C s.heap.objs.size) rfl
  rwa [Md] at this
 have e3:(s.heap.push Ni).Ns s.heap.objs.size (fun _=>none):=⟨Ni,#[],_,e1,rfl,(fun e he=>absurd he (by simp)),fun _=>rfl⟩
 have I1:=I.laid (a:=s.heap.objs.size) (o:=.own (s.heap.objs.size + 1)) (h':=s.heap.push Ni) (t':=s.toks) (fun b u q=>Ll _ q) (Lr _) ⟨_,e1⟩
 refine I1.laid (a:=s.heap.objs.size + 1) (o:=.ins C s.heap.objs.size []) (t':=s.toks) (fun b u q=>Ll _ q) (Ol (Md _ _)) ?_
 have ne:s.heap.objs.size≠s.heap.objs.size + 1:=L9 (MX _)
 refine ⟨by rw [aO ne,az],Mv _,ne,e2,fun _=>none,(Heap.Ns1.of_empty e3).at fun o q=>Ll _ q,fun _=>NS,fun y hy=>absurd rfl hy⟩
theorem HX {prog:Program} {w:World} {env:Env} {e:Expr} {f:Str} {pos:Pos} {s:Shared} {Q:Value->Shared->Prop} (hb:OV e f env (eval e env)=eval e env)
  (h:wpAny (model prog w) A (eval e env) (fun o s₁=>wpAny (model prog w) A (getAttr o f true) Q E s₁) E s):wpAny (model prog w) A (eval (.Attribute e f pos) env) Q E s:=
 Attribute_any_ h (by rw [arm_eval_Attribute,hb])
end
noncomputable def cW (K:Fg) (ta:TE) (f:Str):TE:=fun σ H Q=>ta σ H fun x H1=>∃ a C dx fs v,x=.ref a/\H1 a=some (.ins C dx fs)/\Cls K C/\fb K C f/\fs.lookup f=some v/\Q v H1
noncomputable def ny (K:Fg) (ta tv:TE) (f:Str):TS:=fun D σ H=>tv σ H fun y H1=>ta σ H1 fun x H2=>∃ a C dx fs,x=.ref a/\H2 a=some (.ins C dx fs)/\Cls K C/\fb K C f/\fs.length < 1000/\
 D.nx σ (upd H2 a (.ins C dx (gF f y fs)))
section
variable {X:Cx} {o e value:Expr} {f:Str} {pos pos' tpos:Pos} {ta tv:TE}
theorem bO (he:PE X e ta) (hb:OV e f X.env (eval e X.env)=eval e X.env):PE X (.Attribute e f pos) (cW X.K ta f):=by
 intro pins s σ H Q I h
 refine HX hb (thn (he pins s σ H _ I h) fun u s1 ⟨x,H1,I1,rx,a,C,dx,fs,v,ex,ea,c,n,l,q⟩=>?_)
 subst ex
 obtain rfl:u=LZ a:=rx
 exact Ci I1 ea c n l fun u' s2 I2 ru=>⟨v,H1,I2,ru,q⟩
theorem kH (ha:PE X o ta) (hv:PE X value tv) (hs:Rp value (some (.Attribute o f pos')) pos.line X.env=pure false):PS X (.Assign [.Attribute o f pos'] value pos) (ny X.K ta tv f):=by
 intro pins s σ H D I h
 refine plainObj_wpAny_Assign_Attribute (thn (hv pins s σ H _ I h) fun u s1 ⟨y,H1,I1,ry,q⟩=>thn (ha pins s1 σ H1 _ I1 q) fun ov s2 ⟨x,H2,I2,rx,a,C,dx,fs,ex,ea,c,n,l,q2⟩=>?_) hs
 subst ex
 obtain rfl:ov=LZ a:=rx
 exact Cj I2 ea c n l ry fun s3 I3=>⟨σ,_,I3,q2⟩
end
section
variable {X:Cx} {pins:List (Addr×Obj)} {σ:St} {H:Hp} {s:Shared} {A:Around} {E:Value->Shared->Prop} {Q:Value->Shared->Prop} {c:Value} {b:Bool}
inductive fR (K:Fg) (H:Hp):V->Value->Prop where
 | non:fR K H .non (.type "NoneType")
 | bl (x:Bool):fR K H (.bl x) (.type "bool")
 | int (i:Int):fR K H (.int i) (.type "int")
 | str (x:Str):fR K H (.str x) (.type "str")
 | flt (x:UInt64):fR K H (.flt x) (.type "float")
 | lst {a:Addr} {xs:List V} (e:H a=some (.lst xs)):fR K H (.ref a) (.type "list")
 | frz {a:Addr} {o:Obj} {xs:List V} (e:H a=some (.frz o (.lst xs))):fR K H (.ref a) (.type "list")
 | tup {a:Addr} {xs:List V} (e:H a=some (.tup xs)):fR K H (.ref a) (.type "tuple")
 | dK {a:Addr} {kvs:List (Key×V)} (e:H a=some (.dK kvs)):fR K H (.ref a) (.type "dict")
 | dT {a:Addr} {kvs:List (List Key×V)} (e:H a=some (.dT kvs)):fR K H (.ref a) (.type "dict")
 | ins {a C dx:Addr} {fs:List (Str×V)} (e:H a=some (.ins C dx fs)) (cl:Cls K C) (ha:Nx K (.ref C) "__class__"=some (some (.builtin "object.__class__")))
   (hn:PySem.W.specialIn K (.builtin "object.__class__") "__get__"=some (some (.builtin "getset_descriptor.__get__"))) (htk:PySem.W.takesIn K (.builtin "object.__class__")=some true)
   (hm:PySem.W.mroIn K C (.type "object")=some true):fR K H (.ref a) (.ref C)
theorem Em {x:V} {u t:Value} (I:Inv X pins σ H s) (rx:aK x u) (ty:fR X.K H x t) (e:Ms X.K t c=some b) (h:∀ tk,Q (.bool b) { s with toks:=tk }):
  wpAny (model X.prog X.w) A (call (.builtin "isinstance") [u,c]) Q E s:=by
 cases ty with
 | non=>cases (show u=MH from rx); exact M8 PySem.W.kitx_none I.kIn NS e (fun z=>nomatch z) h
 | bl y=>cases (show u=ML y from rx); exact M8 PySem.W.kitx_bool I.kIn NS e (fun z=>nomatch z) h
 | int i=>obtain ⟨t,q⟩:=(show ∃ t,u=Oh i t from rx); cases q; exact M8 PySem.W.kitx_int I.kIn NS e (fun z=>nomatch z) h
 | str y=>obtain ⟨t,q⟩:=(show ∃ t,u=Ro y t from rx); cases q; exact M8 PySem.W.kitx_str I.kIn NS e (fun z=>nomatch z) h
 | flt y=>obtain ⟨t,q⟩:=(show ∃ t,u=Ta y t from rx); cases q; exact M8 PySem.W.kitx_float I.kIn NS e (fun z=>nomatch z) h
 | @lst a xs ea=>
  cases (show u=LZ a from rx)
  obtain ⟨_,_,n,_,h1⟩:=(show bH X.prog X.w H s.heap a (.lst xs) from I.hok a _ ea)
  exact M8 SU I.kIn ⟨_,h1,rfl⟩ e (fun z=>nomatch z) h
 | @frz a ob xs ea=>
  cases (show u=LZ a from rx)
  obtain ⟨_,_,_,n,_,h1⟩:=(show bH X.prog X.w H s.heap a (.frz ob (.lst xs)) from I.hok a _ ea)
  exact M8 SU I.kIn ⟨_,h1,rfl⟩ e (fun z=>nomatch z) h
 | @tup a xs ea=>
  cases (show u=LZ a from rx)
  obtain ⟨_,_,_,p⟩:=(show bH X.prog X.w H s.heap a (.tup xs) from I.hok a _ ea)
  obtain ⟨o,h1,h2,_⟩:=p
  exact M8 PySem.W.kitx_tuple I.kIn ⟨o,h1,h2⟩ e (fun z=>nomatch z) h
 | @dK a kvs ea=>
  cases (show u=LZ a from rx)
  obtain ⟨_,_,vs,_,p⟩:=(show bH X.prog X.w H s.heap a (.dK kvs) from I.hok a _ ea)
  obtain ⟨o,es,ep,h1,h2,_⟩:=p
  exact M8 SV I.kIn ⟨o,h1,h2.1⟩ e (fun z=>nomatch z) h
 | @dT a kvs ea=>
  cases (show u=LZ a from rx)
  obtain ⟨_,_,xs,_,o,es,ep,h1,h2,_⟩:=(show bH X.prog X.w H s.heap a (.dT kvs) from I.hok a _ ea)
  exact M8 SV I.kIn ⟨o,h1,h2.1⟩ e (fun z=>nomatch z) h
 | @ins a C dx fs ea cl ha hn htk hm=>
  cases (show u=LZ a from rx)
  obtain ⟨mA,O,_⟩:=rT I.hok ea
  obtain ⟨od,J,_⟩:=O.look
  exact M8 (PySem.W.kitx_own (cl.get _) cl.hd ha hn htk hm) I.kIn J e (fun z=>nomatch z) h
end
end L2
namespace L2
open PySem PySem.Spec PyProof.Rows
structure bQ (k:Nat) (A:Around):Prop where
 hd:A.handled=none
 dp:A.depth + 3 * k + 5 < recursionLimit
 un:A.units + 16 * k + 200 < cLine
theorem bQ.mono {j k:Nat} {A:Around} (r:bQ k A) (h:j<=k):bQ j A:=⟨r.hd,by have:=r.dp; omega,by have:=r.un; omega⟩
theorem bQ.deeper {k:Nat} {A:Around} (r:bQ (k + 1) A) (env:Env):bQ k (A.deeper env):=
 ⟨r.hd,by have:=r.dp; show A.depth + 1 + 3 * k + 5 < _; omega,by have:=r.un; show A.units + 3 + 16 * k + 200 < _; omega⟩
theorem Ck {A:Around} {C:Addr} {us:List Value} {kw:List (Str×Value)}:(A.under (.builtin "type.__call__" ⟨.ref C :: us,kw⟩)).depth=A.depth + 1:=by
 first | rfl | simp [SE,Code.weight,Code.isCreation,Code.isGuard,Code.isCaller,Code.frames,SF,guardIds]
theorem Cl {A:Around} {C:Addr} {us:List Value} {kw:List (Str×Value)}:(A.under (.builtin "type.__call__" ⟨.ref C :: us,kw⟩)).units=A.units + 1:=by
 first | rfl | simp [SE,Code.cUnits,Code.frames,SF]
theorem bQ.make {k:Nat} {A:Around} (r:bQ (k + 1) A) (C:Addr) (us:List Value) (kw:List (Str×Value)):bQ k (A.under (.builtin "type.__call__" ⟨.ref C :: us,kw⟩)):=
 ⟨r.hd,by have:=r.dp; rw [Ck]; omega,by have:=r.un; rw [Cl]; omega⟩
theorem bQ.depth {k:Nat} {A:Around} (r:bQ k A):A.depth < recursionLimit:=by have:=r.dp; omega
theorem bQ.units {k:Nat} {A:Around} (r:bQ k A):A.units + 64 < cLine:=by have:=r.un; omega
theorem bQ.units0 {k:Nat} {A:Around} (r:bQ k A):A.units < cLine:=by have:=r.un; omega
noncomputable def ah:TA:=fun _ H Q=>Q [] H
noncomputable def aa (ta:TE) (tr:TA):TA:=fun σ H Q=>ta σ H fun x H1=>tr σ H1 fun xs H2=>Q (x :: xs) H2
section
variable {X:Cx} {e:Expr} {es:List Expr} {te:TE} {t:TA} {pos:Pos}
theorem ag:PA X [] ah:=fun _ _ _ _ H Q I h=>QN ⟨[],H,I,.nil,h⟩
theorem gW (ha:PE X e te) (hr:PA X es t) (hs:LP (e :: es) X.env=(false,eval e X.env) :: LP es X.env:=by rfl):PA X (e :: es) (aa te t):=by
 intro pos pins s σ H Q I h
 rw [hs]
 show wpAny _ _ (spliced ((false,eval e X.env) :: backTo pos (LP es X.env))) _ _ s
 refine Qq (thn (ha pins s σ H _ I h) fun u s1 ⟨x,H1,I1,r1,q1⟩=>?_)
 exact thn (hr pos pins s1 σ H1 _ I1 q1) fun us s2 ⟨xs,H2,I2,r2,q2⟩=>⟨x :: xs,H2,I2,.cons r1 r2,q2⟩
noncomputable def Cm (t:TA):TE:=fun σ H Q=>t σ H fun xs H1=>xs.length<=Lz/\∀ p,H1 p=none->Q (.ref p) (upd H1 p (.tup xs))
noncomputable def zj (t:TA):TE:=fun σ H Q=>t σ H fun xs H1=>xs.length<=Lz/\∀ p,H1 p=none->Q (.ref p) (upd H1 p (.lst xs))
theorem En {x1} (h:PA X es t):PE X (.Tuple es x1 pos) (Cm t):=by
 intro pins s σ H Q I hq
 refine Sn (thn (h pos pins s σ H _ I hq) fun us s1 ⟨xs,H1,I1,r,z,q⟩=>⟨by rw [<-r.length]; exact z,?_⟩)
 have hf:H1 s1.heap.objs.size=none:=I1.hok.fresh (Lr _)
 refine ⟨.ref s1.heap.objs.size,upd H1 s1.heap.objs.size (.tup xs),I1.laid (t':=s1.toks) (fun b u e=>Ll _ e) (Lr _) ?_,rfl,q _ hf⟩
 exact ⟨z,us,r,ga.new _ _⟩
theorem zk (h:PA X es t):PE X (.List es pos) (zj t):=by
 intro pins s σ H Q I hq
 refine SG (thn (h pos pins s σ H _ I hq) fun us s1 ⟨xs,H1,I1,r,z,q⟩=>⟨by rw [<-r.length]; exact z,?_⟩)
 have hf:H1 s1.heap.objs.size=none:=I1.hok.fresh (Lr _)
 refine ⟨.ref s1.heap.objs.size,upd H1 s1.heap.objs.size (.lst xs),I1.laid (t':=s1.toks) (fun b u e=>Ll _ e) (Lr _) ?_,rfl,q _ hf⟩
 exact ⟨z,us,0,r,Lx _ rfl⟩
end
noncomputable abbrev Sp:=List V->Hp->VK->XK->Prop
noncomputable abbrev CXT:=List Env->Hp->Shared->XK->Value->Shared->Prop
structure tT (P:Program) (w:World) (K:Fg) (mg:Str->Option Value) (base:Heap) (A:Around) (outer:List Env) (s:Shared) (H:Hp):Prop where
 frames:A.frames=some outer
 mod:Mod K mg base
 bs:∀ b o,base.get? b=some o->s.heap.get? b=some o/\H b=none
 bsz:base.objs.size<=s.heap.objs.size
 funs:s.heap.FunFrames base outer
 frf:∀ b∈frs outer,H b=none
 hok:HOk P w H s.heap
 bare:AllBare s.gens
noncomputable def CE (outer:List Env) (P:Program) (w:World) (H:Hp) (s:Shared) (Q:VK) (u:Value) (s':Shared):Prop:=
 ∃ v H',s'.os=s.os/\AllBare s'.gens/\Un (frs outer) [] H H' s.heap s'.heap/\HOk P w H' s'.heap/\aK v u/\Q v H'
noncomputable def CR (CX:CXT) (outer:List Env) (P:Program) (w:World) (H:Hp) (s:Shared) (Q:VK) (E:XK) (r:Result) (s':Shared):Prop:=
 match r with
 | .ok (.ret u)=>CE outer P w H s Q u s'
 | .ok _=>False
 | .error e=>CX outer H s E e s'
structure cH (P:Program) (w:World) (K:Fg) (mg:Str->Option Value) (base:Heap) (CX:CXT) (k:Nat) (f:Addr) (fd:LL) (ps:List Str) (sp:Sp):Prop where
 len:∀ vs H Q E,sp vs H Q E->vs.length=ps.length
 run:∀ (A:Around) (outer:List Env) (s:Shared) (H:Hp) (args:Args) (us:List Value) (vs:List V) (Q:VK) (E:XK),bQ k A->tT P w K mg base A outer s H->BindsTo s fd args (ps.zip us)->aH vs us->sp vs H Q E->
  codeAny (model P w) A (.call (.ref f) args) (CR CX outer P w H s Q E) s
theorem cH.mono {P:Program} {w:World} {K:Fg} {mg:Str->Option Value} {base:Heap} {CX:CXT} {j k:Nat} {f:Addr} {fd:LL} {ps:List Str} {sp:Sp} (F:cH P w K mg base CX j f fd ps sp) (h:j<=k):
  cH P w K mg base CX k f fd ps sp:=⟨F.len,fun A outer s H args us vs Q E hr=>F.run A outer s H args us vs Q E (hr.mono h)⟩
theorem cH.imp {P:Program} {w:World} {K:Fg} {mg:Str->Option Value} {base:Heap} {CX:CXT} {k:Nat} {f:Addr} {fd:LL} {ps:List Str} {sp sp':Sp} (F:cH P w K mg base CX k f fd ps sp)
  (h:∀ vs H Q E,sp' vs H Q E->sp vs H Q E):cH P w K mg base CX k f fd ps sp':=
 ⟨fun vs H Q E q=>F.len vs H Q E (h _ _ _ _ q),fun A outer s H args us vs Q E hr he hb hv hs=>F.run A outer s H args us vs Q E hr he hb hv (h _ _ _ _ hs)⟩
theorem tT.make {P:Program} {w:World} {K:Fg} {mg:Str->Option Value} {base:Heap} {A:Around} {outer:List Env} {s:Shared} {H:Hp} (e:tT P w K mg base A outer s H) (C:Addr) (us:List Value) (kw:List (Str×Value)):
  tT P w K mg base (A.under (.builtin "type.__call__" ⟨.ref C :: us,kw⟩)) outer s H:=⟨by first | exact e.frames | (simpa [SE,Code.envs,SF,pushEnvs] using e.frames),e.mod,e.bs,e.bsz,e.funs,e.frf,e.hok,e.bare⟩
section
variable {X:Cx} {pins:List (Addr×Obj)} {σ:St} {H:Hp} {s s':Shared}
theorem Inv.env0 (I:Inv X pins σ H s):tT X.prog X.w X.K X.mg X.base X.A X.stack s H:=
 ⟨I.ok.frames,I.ok.mod,I.bs,L8 I.ok.bsz I.sz,I.stack,I.stkFree,I.hok,I.bare⟩
theorem Inv.after {Q:VK} {u:Value} (I:Inv X pins σ H s) (h:CE X.stack X.prog X.w H s Q u s'):EP X pins σ Q u s':=by
 obtain ⟨v,H',os,bare,un,hok,r,q⟩:=h
 obtain ⟨hh,g,d,t,os'⟩:=s'
 obtain rfl:os'=s.os:=os
 exact ⟨v,H',I.call (h':=hh) (g':=g) (d':=d) (t':=t) (ch:=[]) un hok bare (fun b z=>absurd z (by simp)),r,q⟩
end
noncomputable def au (sp:Sp) (dvs:List V) (E:XK) (t:TA):TE:=fun σ H Q=>t σ H fun vs H1=>sp (vs++dvs) H1 Q E
noncomputable def dy (C:Addr) (m:Str) (sp:Sp) (dvs:List V) (E:XK) (ta:TE) (t:TA):TE:=fun σ H Q=>ta σ H fun x H1=>∃ a dx fs,x=.ref a/\H1 a=some (.ins C dx fs)/\fs.lookup m=none/\
 t σ H1 fun vs H2=>sp (x :: (vs++dvs)) H2 Q E
noncomputable def rV (C:Addr) (sp:Sp) (dvs:List V) (E:XK) (t:TA):TE:=fun σ H Q=>t σ H fun vs H1=>∀ x dx,H1 x=none->H1 dx=none->dx≠x->
 sp (.ref x :: (vs++dvs)) (upd (upd H1 dx (.own x)) x (.ins C dx [])) (fun v H2=>v=.non/\Q (.ref x) H2) E
noncomputable def fB (K:Fg) (fd:LL) (ps:List Str) (ds:List Value):Prop:=
 ∀ (s:Shared) (us:List Value),K.In s.heap->(us++ds).length=ps.length->BindsTo s fd ⟨us,[]⟩ (ps.zip (us++ds))
theorem fB.all {K:Fg} {fd:LL} {ps:List Str} (h:∀ us:List Value,us.length=ps.length->bindArgs fd ⟨us,[]⟩=pure (ps.zip us)):fB K fd ps []:=fun s us _ hl=>by
 rw [NG] at hl ⊢
 exact .of_eq (h us hl)
noncomputable def lP (CX:CXT) (X:Cx) (E:XK):Prop:=∀ (pins:List (Addr×Obj)) (σ:St) (H:Hp) (s:Shared) (e:Value) (s':Shared),Inv X pins σ H s->CX X.stack H s E e s'->X.xe e s'
section
variable {X:Cx} {CX:CXT} {k:Nat} {f C:Addr} {fd:LL} {ps:List Str} {sp:Sp} {dvs:List V} {ds:List Value} {E:XK} {x m:Str} {p pos apos:Pos} {e o:Expr} {es:List Expr} {ta:TE} {t:TA}
theorem zl {pins:List (Addr×Obj)} {σ:St} {H:Hp} {s:Shared} {Q:VK} {us:List Value} {vs:List V} (F:cH X.prog X.w X.K X.mg X.base CX k f fd ps sp) (hr:bQ k X.A) (hb:fB X.K fd ps ds) (hd:aH dvs ds) (hx:lP CX X E)
  (I:Inv X pins σ H s) (r:aH vs us) (h:sp (vs++dvs) H Q E):wpAny (model X.prog X.w) X.A (call (.ref f) us) (EP X pins σ Q) X.xe s:=by
 have r2:aH (vs++dvs) (us++ds):=r.append hd
 have hl:(us++ds).length=ps.length:=by rw [<-r2.length]; exact F.len _ _ _ _ h
 refine TX (Om (F.run X.A X.stack s H ⟨us,[]⟩ (us++ds) (vs++dvs) Q E hr I.env0 (hb s us I.kIn hl) r2 h) fun r s' hq=>?_)
 cases r with
 | error e=>exact hx pins σ H s e s' I hq
 | ok fl=>
  cases fl with
  | ret u=>exact I.after hq
  | next=>exact Nm hq
  | brk=>exact Nm hq
  | cont=>exact Nm hq
theorem HY (F:cH X.prog X.w X.K X.mg X.base CX k f fd ps sp) (hr:bQ k X.A) (hg:Gl X x) (hm:X.mg x=some (.ref f)) (hk:OM X.K (.ref f)=true) (hb:fB X.K fd ps ds) (hd:aH dvs ds) (hx:lP CX X E)
  (ha:PA X (e :: es) t) (hdb:(x == ("__debug__":Str))=false:=by decide) (he:LP (e :: es) X.env=(false,eval e X.env) :: LP es X.env:=by rfl) (hpl:(backTo pos (LP es X.env)).any (·.1)=false:=by rfl):
  PE X (.Call (.Name x p) (e :: es) [] pos) (au sp dvs E t):=by
 intro pins s σ H Q I h
 refine NM (wu I hg hm ?_ hdb)
 refine Qr (h₀:=X.base) I.ok.mod.kin hk (thn (ha pos pins s σ H _ I h) fun us s1 ⟨vs,H1,I1,r,q⟩=>⟨I1.kIn,?_⟩) he hpl
 exact zl F hr hb hd hx I1 r q
theorem HZ {pl:Sem Bool} (he:PE X o ta) (c:Cls X.K C) (hm:zi X.K C m f) (F:cH X.prog X.w X.K X.mg X.base CX k f fd ps sp) (hr:bQ k X.A) (hb:fB X.K fd ps ds) (hd:aH dvs ds) (hx:lP CX X E) (ha:PA X (e :: es) t)
  (hst:LP (e :: es) X.env=(false,eval e X.env) :: LP es X.env:=by rfl) (hpl:(backTo pos (LP es X.env)).any (·.1)=false:=by rfl)
  (ht:eval (.Call (.Attribute o m apos) (e :: es) [] pos) X.env=(do
   let ov <-eval o X.env
   standAt apos.atName
   let (f,first) <-holding [ov] (Qp ov m pl)
   Tq pos f first (backTo pos (LP (e :: es) X.env)) (Pz pos (OG [] X.env))):=by rfl):
  PE X (.Call (.Attribute o m apos) (e :: es) [] pos) (dy C m sp dvs E ta t):=by
 intro pins s σ H Q I h
 refine RM (pl:=pl) (thn (he pins s σ H _ I h) fun u s1 ⟨x,H1,I1,rx,a,dx,fs,ex,ea,l,q⟩=>?_) ht
 subst ex
 obtain rfl:u=LZ a:=rx
 refine uG I1 ea c hm l ?_
 refine Qr (first:=[.ref a]) (h₀:=X.base) I.ok.mod.kin hm.kp (thn (ha pos pins s1 σ H1 _ I1 q) fun us s2 ⟨vs,H2,I2,r,q2⟩=>⟨I2.kIn,?_⟩) hst hpl
 exact zl (us:=.ref a :: us) (vs:=.ref a :: vs) F hr hb hd hx I2 (.cons rfl r) q2
theorem FQ {pl:Sem Bool} (he:PE X o ta) (c:Cls X.K C) (hm:zi X.K C m f) (F:cH X.prog X.w X.K X.mg X.base CX k f fd ps sp) (hr:bQ k X.A) (hb:fB X.K fd ps ds) (hd:aH dvs ds) (hx:lP CX X E)
  (ht:eval (.Call (.Attribute o m apos) [] [] pos) X.env=(do
   let ov <-eval o X.env
   standAt apos.atName
   let (f,first) <-holding [ov] (Qp ov m pl)
   Tq pos f first (backTo pos (LP [] X.env)) (Pz pos (OG [] X.env))):=by rfl):
  PE X (.Call (.Attribute o m apos) [] [] pos) (dy C m sp dvs E ta ah):=by
 intro pins s σ H Q I h
 refine RM (pl:=pl) (thn (he pins s σ H _ I h) fun u s1 ⟨x,H1,I1,rx,a,dx,fs,ex,ea,l,q⟩=>?_) ht
 subst ex
 obtain rfl:u=LZ a:=rx
 refine uG I1 ea c hm l ?_
 exact PySem.W.callWith_K0 (first:=[.ref a]) I1.kIn hm.kp (zl (us:=[.ref a]) (vs:=[.ref a]) F hr hb hd hx I1 (.cons rfl .nil) q)
structure Mk (K:Fg) (C f:Addr):Prop where
 makes:TV K C=true
 init:Nx K (.ref C) "__init__"=some (some (.ref f))
 fn:SD K (.ref f)=true
 kp:OM K (.ref C)=true
theorem FR {pins:List (Addr×Obj)} {σ:St} {H:Hp} {s:Shared} {Q:VK} {us:List Value} {vs:List V} (M:Mk X.K C f) (F:cH X.prog X.w X.K X.mg X.base CX k f fd ps sp) (hr:bQ (k + 1) X.A) (hb:fB X.K fd ps ds) (hd:aH dvs ds)
  (hx:lP CX X E) (I:Inv X pins σ H s) (r:aH vs us)
  (h:∀ x dx,H x=none->H dx=none->dx≠x->sp (.ref x :: (vs++dvs)) (upd (upd H dx (.own x)) x (.ins C dx [])) (fun v H2=>v=.non/\Q (.ref x) H2) E):
  wpAny (model X.prog X.w) X.A (call (.ref C) us) (EP X pins σ Q) X.xe s:=by
 have hq:=h (s.heap.objs.size + 1) s.heap.objs.size (I.hok.fresh (Oi _)) (I.hok.fresh (Lr _)) (L9 (MX _))
 have I2:=Inv.made (C:=C) I
 have r2:aH (V.ref (s.heap.objs.size + 1) :: (vs++dvs)) (LZ (s.heap.objs.size + 1) :: (us++ds)):=.cons rfl (r.append hd)
 have hl:(LZ (s.heap.objs.size + 1) :: us++ds).length=ps.length:=by
  have e:=r2.length
  rw [F.len _ _ _ _ hq] at e
  exact e.symm
 refine TX (FP (f:=f) I.kIn M.makes M.init (beq_iff_eq.mp M.fn) (Om (F.run _ X.stack _ _ ⟨LZ (s.heap.objs.size + 1) :: us,[]⟩ (LZ (s.heap.objs.size + 1) :: (us++ds)) _ _ E (hr.make C us [])
  (I2.env0.make C us []) (hb _ (LZ (s.heap.objs.size + 1) :: us) I2.kIn hl) r2 hq) fun r s' hq'=>?_))
 cases r with
 | error e=>exact hx pins σ _ _ e s' I2 hq'
 | ok fl=>
  cases fl with
  | ret u=>
   obtain ⟨v,H',I3,rv,ev,q3⟩:=I2.after hq'
   subst ev
   exact ⟨rv,⟨V.ref (s.heap.objs.size + 1),H',I3,rfl,q3⟩⟩
  | next=>exact Nm hq'
  | brk=>exact Nm hq'
  | cont=>exact Nm hq'
theorem Ia (M:Mk X.K C f) (F:cH X.prog X.w X.K X.mg X.base CX k f fd ps sp) (hr:bQ (k + 1) X.A) (hg:Gl X x) (hm:X.mg x=some (.ref C)) (hb:fB X.K fd ps ds) (hd:aH dvs ds) (hx:lP CX X E)
  (ha:PA X (e :: es) t) (hdb:(x == ("__debug__":Str))=false:=by decide) (he:LP (e :: es) X.env=(false,eval e X.env) :: LP es X.env:=by rfl) (hpl:(backTo pos (LP es X.env)).any (·.1)=false:=by rfl):
  PE X (.Call (.Name x p) (e :: es) [] pos) (rV C sp dvs E t):=by
 intro pins s σ H Q I h
 refine NM (wu I hg hm ?_ hdb)
 refine Qr (h₀:=X.base) I.ok.mod.kin M.kp (thn (ha pos pins s σ H _ I h) fun us s1 ⟨vs,H1,I1,r,q⟩=>⟨I1.kIn,?_⟩) he hpl
 exact FR M F hr hb hd hx I1 r q
end
section
variable {X:Cx} {CX:CXT} {k:Nat} {f C:Addr} {fd:LL} {ps ks:List Str} {sp:Sp} {E:XK} {x m:Str} {p pos apos kpos:Pos} {e o:Expr} {es:List Expr} {kws:List Keyword} {te ta:TE} {t tk:TA} {nm:Option Str}
variable {g:List Value->List Value->List Value} {gV:List V->List V->List V}
end
structure aE (N P:List Str) (sc:Scope):Prop where
 kind:sc.kind=.function
 co:sc.isCoroutine=false
 gen:sc.isGenerator=false
 nd:N.Nodup
 pre:N.take P.length=P
 par:∀ x∈P,sc.names.lookup x=some .local\/sc.names.lookup x=some .cell
 nofree:∀ y∈sc.names,y.2≠.free
theorem xu {kindOf:Str->Option Ml} {x:Str}:∀ {binds:List (Str×Value)} {m:Str->Option Value},(∀ v,(x,v)∉binds)->bindL kindOf binds m x=m x
 | [],_,_=>rfl
 | (n,v) :: r,m,h=>by
  unfold bindL
  rw [xu fun w hw=>h w (LC _ hw)]
  split
  ·have:x≠n:=by rintro rfl; exact h v Lu
   simp [this]
  ·rfl
theorem xv {kindOf:Str->Option Ml} {x:Str}:∀ {binds:List (Str×Value)} {m:Str->Option Value},(∀ v,(x,v)∉binds)->bindC kindOf binds m x=m x
 | [],_,_=>rfl
 | (n,v) :: r,m,h=>by
  unfold bindC
  rw [xv fun w hw=>h w (LC _ hw)]
  split
  ·rfl
  ·have:x≠n:=by rintro rfl; exact h v Lu
   simp [this]
theorem xw {kindOf:Str->Option Ml} {x:Str} {v:Value}:∀ {P:List Str} {vs:List Value} {i:Nat} {m:Str->Option Value},P.Nodup->P[i]?=some x->vs[i]?=some v->kindOf x=some .local->
  bindL kindOf (P.zip vs) m x=some v
 | [],_,_,_,_,h,_,_=>by simp at h
 | _ :: _,[],_,_,_,_,h,_=>by simp at h
 | p :: P,w :: vs,0,m,nd,h1,h2,hk=>by
  simp at h1 h2; subst h1; subst h2
  show bindL kindOf ((p,w) :: P.zip vs) m p=_
  unfold bindL
  rw [xu fun v hv=>(N8.mp nd).1 (Rr hv).1,if_pos hk]
  simp
 | p :: P,w :: vs,i + 1,m,nd,h1,h2,hk=>by
  show bindL kindOf ((p,w) :: P.zip vs) m x=_
  unfold bindL
  exact xw (i:=i) (N8.mp nd).2 (by simpa using h1) (by simpa using h2) hk
theorem xy {kindOf:Str->Option Ml} {x:Str} {v:Value}:∀ {P:List Str} {vs:List Value} {i:Nat} {m:Str->Option Value},P.Nodup->P[i]?=some x->vs[i]?=some v->kindOf x≠some .local->
  bindC kindOf (P.zip vs) m x=some v
 | [],_,_,_,_,h,_,_=>by simp at h
 | _ :: _,[],_,_,_,_,h,_=>by simp at h
 | p :: P,w :: vs,0,m,nd,h1,h2,hk=>by
  simp at h1 h2; subst h1; subst h2
  show bindC kindOf ((p,w) :: P.zip vs) m p=_
  unfold bindC
  rw [xv fun v hv=>(N8.mp nd).1 (Rr hv).1,if_neg hk]
  simp
 | p :: P,w :: vs,i + 1,m,nd,h1,h2,hk=>by
  show bindC kindOf ((p,w) :: P.zip vs) m x=_
  unfold bindC
  exact xy (i:=i) (N8.mp nd).2 (by simpa using h1) (by simpa using h2) hk
noncomputable def start (N:List Str) (vs:List V):St:=vs.map some++Mf (N.length - vs.length) none
noncomputable def oM (CX:CXT) (P:Program) (w:World) (K:Fg) (mg:Str->Option Value) (base:Heap) (N:List Str) (qual:Str) (scope:Scope) (f:Addr) (cd:Value) (A:Around) (outer:List Env) (s:Shared) (H:Hp) (E:XK):Cx where
 prog:=P
 w:=w
 K:=K
 mg:=mg
 base:=base
 A:=A.deeper (envOfC qual scope s.heap.objs.size f cd)
 N:=N
 s₀:=s
 H₀:=H
 env:=envOfC qual scope s.heap.objs.size f cd
 outer:=outer
 stack:=envOfC qual scope s.heap.objs.size f cd :: outer
 ex:=[]
 calm:=true
 fn:=fun _=>true
 pn:=[]
 xe:=fun e s'=>wpAny (model P w) (A.deeper (envOfC qual scope s.heap.objs.size f cd)) («leaving» (envOfC qual scope s.heap.objs.size f cd) e) (fun _ s''=>CX outer H s E e s'') (fun e' s''=>CX outer H s E e' s'') s'
theorem zm {sc:Scope} {n:Nat} {x:Str} (h:sc.names.lookup x=some .cell):∃ c,(Rt n sc.names []).lookup x=some c:=by
 have q:=RB sc.names n [] (.inl h)
 exact Q4.mp q
theorem Eo {CX:CXT} {P:Program} {w:World} {K:Fg} {mg:Str->Option Value} {base:Heap} {N ps:List Str} {qual:Str} {scope:Scope} {f:Addr} {cd:Value} {A:Around} {outer:List Env} {s s1:Shared} {H:Hp} {E:XK} {us:List Value} {vs:List V}
  (S:aE N ps scope) (hd:A.handled=none) (e0:tT P w K mg base A outer s H) (hl:vs.length=ps.length) (r:aH vs us)
  (x:InCallC s s.heap.objs.size (bindL (envOfC qual scope s.heap.objs.size f cd).kindOf (ps.zip us) fun _=>none) (Rt (s.heap.objs.size + 1) scope.names []) (bindC (envOfC qual scope s.heap.objs.size f cd).kindOf (ps.zip us) fun _=>none) s1):
  Inv (oM CX P w K mg base N qual scope f cd A outer s H E) [] (start N vs) H s1:=by
 have hpl:ps.length<=N.length:=by have:=congrArg List.length S.pre; rw [M9] at this; omega
 obtain ⟨h1,tk,rfl,hk⟩:=x.done
 have noA:∀ b:Addr,b∉(oM CX P w K mg base N qual scope f cd A outer s H E).ex:=fun b z=>absurd (show b∈([]:List Addr) from z) (by simp)
 refine ⟨⟨e0.mod,S.kind,rfl,rfl,Lr _,fun y z c h1 h2=>?_,fun y hy=>?_,fun y c _ h=>?_,fun _=>hd,Around.frames_deeper e0.frames,.inr ⟨rfl,rfl⟩,fun b z=>absurd z (noA b),e0.bs,e0.bsz,fun b _ _=>noA b,fun b z=>absurd z (noA b),e0.funs,e0.frf⟩,
  rfl,e0.bare,Un.kept hk,⟨_,x.toInCall.ns,fun i y v h1 h2 h3=>?_⟩,fun y c h=>⟨_,x.cell y c h⟩,e0.hok.fresh (Lr _),fun y c h=>?_,fun p hp=>absurd (show p∈([]:List (Addr×Obj)) from hp) (by simp),e0.hok.kept hk,?_⟩
 ·exact name_of_addr x.apart (Mg h1) (Mg h2)
 ·have hy:scope.names.lookup y=some .cell\/scope.names.lookup y=some .free:=hy
  rcases hy with hy | hy
  ·exact zm hy
  ·exact absurd rfl (S.nofree _ (Mg hy))
 ·exact Mw (x.above y c (Mg h))
 ·have hi:i < vs.length:=by
   unfold start at h2
   by_cases hi:i < vs.length
   ·exact hi
   ·rw [Nd (by simpa using hi)] at h2
    rw [List.getElem?_replicate] at h2
    split at h2 <;> cases h2
  have ha:vs[i]?=some v:=by
   unfold start at h2
   rw [NQ (by simpa using hi),LD] at h2
   cases e:vs[i]? with
   | none=>rw [e] at h2; cases h2
   | some a=>rw [e] at h2; cases h2; rfl
  obtain ⟨u,hu,rv⟩:=r.get ha
  have hp:ps[i]?=some y:=by
   rw [<-S.pre,Q5 (by omega)]; exact h1
  have ndP:ps.Nodup:=by rw [<-S.pre]; exact S.nd.sublist (List.take_sublist _ _)
  refine ⟨u,rv,?_⟩
  rcases S.par y (LA hp) with k | k
  ·exact .inl ⟨k,xw ndP hp hu k⟩
  ·obtain ⟨c,e⟩:=zm (n:=s.heap.objs.size + 1) k
   refine .inr ⟨.inl k,c,e,?_⟩
   have q:=x.cell y c e
   rw [xy ndP hp hu (by show scope.names.lookup y≠_; rw [k]; decide)] at q
   exact q
 ·exact e0.hok.fresh (Mw (x.above y c (Mg h)))
 ·unfold start
  show _=N.length
  rw [LG,Lp,List.length_replicate]
  omega
theorem Kt {CX:CXT} {P:Program} {w:World} {K:Fg} {mg:Str->Option Value} {base:Heap} {k:Nat} {f:Addr} {name qual:Str} {params:Arguments} {body:List Stmt} {scope:Scope} {dV kV doc pm cdv ct oc:Value} {an od:Option Addr}
  {osl:Array (Option Value)} {N ps:List Str} {sp:Sp} (lk:K.lookup f=some ⟨oc,od,.func (O6 name qual params body scope dV kV doc pm an cdv ct),osl⟩) (hcd:RN K cdv qual=true) (S:aE N ps scope)
  (len:∀ vs H Q E,sp vs H Q E->vs.length=ps.length)
  (hbody:∀ (A:Around) (outer:List Env) (s:Shared) (H:Hp) (vs:List V) (Q:VK) (E:XK),bQ k (A.deeper (envOfC qual scope s.heap.objs.size f cdv))->sp vs H Q E->
   ∃ t,PSs (oM CX P w K mg base N qual scope f cdv A outer s H E) body t/\t { nx:=fun _ H'=>Q .non H',rt:=Q } (start N vs) H):
  cH P w K mg base CX (k + 1) f (O6 name qual params body scope dV kV doc pm an cdv ct) ps sp:=by
 refine ⟨len,fun A outer s H args us vs Q E hr e0 hb r hsp=>?_⟩
 have hl:=len _ _ _ _ hsp
 have KX:K.In s.heap:=e0.mod.kin.keeps fun b o e=>(e0.bs b o e).1
 have lim:s.heap.NoLimit:=e0.mod.nolimit.keeps fun b o e=>(e0.bs b o e).1
 have hkind:∀ y∈ps.zip us,scope.names.lookup y.1=some .local\/(scope.names.lookup y.1=some .cell/\((Rt (s.heap.objs.size + 1) scope.names []).lookup y.1).isSome=true):=fun ⟨n,v⟩ hy=>by
  rcases S.par n (Rr hy).1 with q | q
  ·exact .inl q
  ·exact .inr ⟨q,RB _ _ _ (.inl q)⟩
 refine codeAny_call_function hr.depth (KX _ _ lk) rfl S.co S.gen rfl (PySem.W.codeRec_of KX hcd) (hb _ _ _ _ ?_)
 refine wpAny_newFunctionEnv_cells S.kind hkind fun env he s1 x=>?_
 subst he
 refine ⟨lim.keeps x.toInCall.keep,codeAny_func ?_⟩
 obtain ⟨t,ht,hq⟩:=hbody A outer s H vs Q E (hr.deeper _) hsp
 have I:Inv (oM CX P w K mg base N qual scope f cdv A outer s H E) [] (start N vs) H s1:=Eo S hr.hd e0 hl r x
 refine M1 (ht [] s1 (start N vs) H _ I hq) (fun fl s' hs=>?_) fun e s' hs=>hs
 have fin:∀ {σ':St} {H':Hp} {v:V} {u:Value},Inv (oM CX P w K mg base N qual scope f cdv A outer s H E) [] σ' H' s'->aK v u->Q v H'->CE outer P w H s Q u s':=
  fun {σ' H' v u} J rv q=>⟨v,H',J.os,J.bare,J.base,J.hok,rv,q⟩
 cases fl with
 | ret u=>
  obtain ⟨v,σ',H',J,rv,q⟩:=hs
  exact fin J rv q
 | next=>
  obtain ⟨σ',H',J,q⟩:=hs
  exact fin (v:=V.non) (u:=MH) J rfl q
 | brk=>
  obtain ⟨_,_,_,q⟩:=hs
  exact Nm q
 | cont=>
  obtain ⟨_,_,_,q⟩:=hs
  exact Nm q
end L2
namespace L2
open PySem PySem.Spec PyProof.Rows
section
variable {X:Cx} {x:Str} {p pos:Pos} {e:Expr} {es:List Expr} {t:TA} {id T:String} {r:List V->Hp->VK->Prop}
noncomputable def tCB (r:List V->Hp->VK->Prop) (t:TA):TE:=fun σ H Q=>t σ H fun vs H1=>r vs H1 Q
theorem aJ (hc:cF X (.builtin id) r) (hg:Gl X x) (hm:X.mg x=none) (hv:O5 x=some (.builtin id)) (ha:PA X (e :: es) t) (hn:x≠"__name__":=by decide) (hdb:(x == ("__debug__":Str))=false:=by decide)
  (he:LP (e :: es) X.env=(false,eval e X.env) :: LP es X.env:=by rfl) (hpl:(backTo pos (LP es X.env)).any (·.1)=false:=by rfl):PE X (.Call (.Name x p) (e :: es) [] pos) (tCB r t):=by
 intro pins s σ H Q I h
 refine NM (iz I hg hm hv ?_ hn hdb)
 exact PR (thn (ha pos pins s σ H _ I h) fun us s1 ⟨vs,H1,I1,r1,q1⟩=>hc pins s1 σ H1 vs us Q I1 r1 q1) he hpl
theorem ce (hc:cF X (.type T) r) (hg:Gl X x) (hm:X.mg x=none) (hv:O5 x=some (.type T)) (ha:PA X (e :: es) t) (hn:x≠"__name__":=by decide) (hdb:(x == ("__debug__":Str))=false:=by decide)
  (he:LP (e :: es) X.env=(false,eval e X.env) :: LP es X.env:=by rfl) (hpl:(backTo pos (LP es X.env)).any (·.1)=false:=by rfl):PE X (.Call (.Name x p) (e :: es) [] pos) (tCB r t):=by
 intro pins s σ H Q I h
 refine NM (iz I hg hm hv ?_ hn hdb)
 exact MM (thn (ha pos pins s σ H _ I h) fun us s1 ⟨vs,H1,I1,r1,q1⟩=>hc pins s1 σ H1 vs us Q I1 r1 q1) he hpl
end
end L2
namespace HT
open PySem PyProof.Rows
section
open PySem.SeqAt
open PySem.AutoSeq1 (wpAny_loadPart')
open PySem.MeetsSeq PySem.MeetsSeq2 PySem.MeetsSeq3
end
section
variable {prog:Program} {w:World} {A:Around} {E:Value->Shared->Prop} {s:Shared}
theorem Ib {t b:Addr} {vs ws:List Value} {Q:Value->Shared->Prop} (ht:IsTup s.heap t vs.toArray) (hb:IsTup s.heap b ws.toArray) (hv:vs≠[])
  (h1:ws=[]->Q (.ref t) s) (h2:ws≠[]->Q (.ref s.heap.objs.size) { s with heap:=s.heap.push { cls:=.type "tuple",data:=.seq (vs++ws).toArray } })
  (hsz:vs.length + ws.length<=Lz):wpAny (model prog w) A (Ob .Add (.ref t) (.ref b)) Q E s:=by
 obtain ⟨⟨cls,dd,data,sl⟩,ho,hc,n,hd⟩:=id ht
 obtain ⟨⟨cls2,dd2,data2,sl2⟩,ho2,hc2,n2,hd2⟩:=id hb
 simp only at hc hd hc2 hd2
 subst hc hd hc2 hd2
 have e:vs.toArray++ws.toArray=(vs++ws).toArray:=by simp
 by_cases hw:ws=[]
 ·exact SH ⟨_,ho,rfl⟩ ⟨_,ho2,rfl⟩ Q6 Si Pp Ph (O7 _ _)
   (tuple_addW1 t b vs.toArray ws.toArray n n2 dd dd2 sl sl2 (by simpa using hv) (by simp [hw])) ⟨ho,ho2,h1 hw⟩
 ·refine SH ⟨_,ho,rfl⟩ ⟨_,ho2,rfl⟩ Q6 Si Pp Ph (O7 _ _)
   (tuple_addW2 t b vs.toArray ws.toArray n n2 dd dd2 sl sl2 (by simpa using hv) (by simpa using hw) (by rw [LK,LK]; exact hsz)) ⟨ho,ho2,?_⟩
  rw [e]
  exact h2 hw
noncomputable def sIx (n d:Nat):Option Int->Nat
 | none=>d
 | some v=>if v < 0 then (v + (n:Int)).toNat else min v.toNat n
theorem Jx (n d:Nat) (hd:d<=n) (o:Option Int):sIx n d o<=n:=by
 cases o with
 | none=>exact hd
 | some v=>
  show (if v < 0 then (v + (n:Int)).toNat else min v.toNat n)<=n
  by_cases hv:v < 0
  ·rw [if_pos hv]; omega
  ·rw [if_neg hv]; exact Tr _ _
theorem BI (v:Int) (n d:Nat):(if v < 0 then max (v + (n:Int)) 0 else min v (n:Int))=((sIx n d (some v):Nat):Int):=by
 show (if v < 0 then max (v + (n:Int)) 0 else min v (n:Int))=(((if v < 0 then (v + (n:Int)).toNat else min v.toNat n):Nat):Int)
 by_cases hv:v < 0
 ·simp only [if_pos hv]; omega
 ·simp only [if_neg hv]; omega
theorem Cn (lo hi:Option Int) (n:Nat):O1 lo hi 1 (n:Int)=(((sIx n 0 lo:Nat):Int),((sIx n n hi:Nat):Int)):=by
 have h1:¬ ((1:Int) < 0):=by omega
 unfold O1
 simp only [h1,if_false]
 refine Prod.ext ?_ ?_
 ·cases lo with
  | none=>rfl
  | some v=>exact BI v n 0
 ·cases hi with
  | none=>rfl
  | some v=>exact BI v n n
theorem Co (i j:Nat):Of (i:Int) (j:Int) 1=j - i:=by
 unfold Of
 have h1:(1:Int) > 0:=by omega
 simp only [h1,if_true,Int.ediv_one]
 split <;> omega
theorem uH {v:Value} {o:Option Int} {Q:Option Int->Shared->Prop} (p:IsPart v o) (h:Q o s):wpAny (model prog w) A (Builtin.Slice.slicePartIndex v) Q E s:=by
 cases p with
 | none=>exact slicePart_none h
 | int i t=>exact slicePart_int h
theorem tU {sl:Addr} {vl vu:Value} {lo hi:Option Int} {n:Nat} {Q:Int×Int×Nat->Shared->Prop} (hs:s.heap.IsSliceOf sl vl vu .none) (pl:IsPart vl lo) (pu:IsPart vu hi)
  (h:Q (((sIx n 0 lo:Nat):Int),1,sIx n n hi - sIx n 0 lo) s):wpAny (model prog w) A (QD (.ref sl) (pure (n:Int))) Q E s:=by
 obtain ⟨os,hos,hcs,hds⟩:=id hs
 unfold QD Builtin.Slice.sliceFields
 refine Lk (Lk (My hos hds (x:=vl) rfl (Lk (My hos hds (x:=vu) rfl (Lk (My hos hds (x:=.none) rfl (Lm ?_)))))))
 refine Lk (slicePart_none ?_)
 show wpAny _ _ (if ((1:Int) == 0)=true then _ else _) _ _ s
 rw [if_neg (by decide)]
 refine Lk (uH pl (Lk (uH pu (Lk (Lm ?_)))))
 show wpAny _ _ (match O1 lo hi 1 (n:Int) with | (lo,hi)=>pure (lo,(1:Int),Of lo hi 1)) _ _ s
 rw [Cn lo hi n]
 show wpAny _ _ (pure (((sIx n 0 lo:Nat):Int),(1:Int),Of ((sIx n 0 lo:Nat):Int) ((sIx n n hi:Nat):Int) 1)) _ _ s
 rw [Co]
 exact Lm h
theorem FS (xs:Array Value) (i k:Nat):((LU k).filterMap fun (m:Nat)=>xs[((i:Int) + (m:Int) * 1).toNat]?).toArray=((xs.toList.drop i).take k).toArray:=by
 have e:(fun (m:Nat)=>xs[((i:Int) + (m:Int) * 1).toNat]?)=fun m=>xs[i + m]?:=by
  funext m
  have:((i:Int) + (m:Int) * 1).toNat=i + m:=by omega
  rw [this]
 rw [e]
 have:=pick_run xs i k
 rw [List.filterMap_map] at this
 have e2:((fun x=>xs[x]?) ∘ fun x=>i + x)=fun m=>xs[i + m]?:=rfl
 rw [e2] at this
 rw [this]
theorem sR {t sl:Addr} {items:Array Value} {vl vu:Value} {lo hi:Option Int} {Q:Value->Shared->Prop} (ht:IsTup s.heap t items) (hs:s.heap.IsSliceOf sl vl vu .none) (pl:IsPart vl lo) (pu:IsPart vu hi)
  (hw:¬ (sIx items.size 0 lo=0/\sIx items.size items.size hi=items.size))
  (h:Q (.ref s.heap.objs.size) { s with heap:=s.heap.push { cls:=.type "tuple",data:=.seq ((items.toList.drop (sIx items.size 0 lo)).take (sIx items.size items.size hi - sIx items.size 0 lo)).toArray } })
  (hsz:items.size<=Lz):wpAny (model prog w) A (getItem (.ref t) (.ref sl)) Q E s:=by
 have htake:sizeOk (.seq ((items.toList.drop (sIx items.size 0 lo)).take (sIx items.size items.size hi - sIx items.size 0 lo)).toArray):=by
  show ((items.toList.drop (sIx items.size 0 lo)).take (sIx items.size items.size hi - sIx items.size 0 lo)).toArray.size<=Lz
  rw [LK,M9,Ts,Mc]
  omega
 have hj:sIx items.size items.size hi<=items.size:=Jx _ _ (Lr _) hi
 obtain ⟨os,hos,hcs,hds⟩:=id hs
 have hTs:s.TypeIs (.ref sl) "slice":=⟨os,hos,hcs⟩
 unfold getItem
 try with_reducible refine ME ?_
 first | refine Lk (Lm ?_) | skip
 refine Lk (wpAny_sequenceKey ht.typeIs (by decide) ?_)
 refine Lk (Mq (name:=Nq "__getitem__") ht.typeIs Ou
  (Mh Ou ht.typeIs entry_tuple_getitem ?_ (args_tuple_getitem _ _)))
 show wpAny _ _ (QE (.ref t) >>= _) _ _ s
 refine Lk (tupleItemsOf_ ht ?_)
 refine Lk (Q7 hTs ?_)
 rw [if_pos (by decide)]
 refine Lk (tU hs pl pu ?_)
 have hno:¬ ((((sIx items.size 0 lo:Nat):Int) == 0 && (1:Int) == 1 && (sIx items.size items.size hi - sIx items.size 0 lo) == items.size)=true):=by
  intro q
  rw [MY,MY] at q
  have q1:((sIx items.size 0 lo:Nat):Int)=0:=eq_of_beq q.1.1
  have q2:sIx items.size items.size hi - sIx items.size 0 lo=items.size:=eq_of_beq q.2
  exact hw ⟨by omega,by omega⟩
 show wpAny _ _ (if (((sIx items.size 0 lo:Nat):Int) == 0 && (1:Int) == 1 && (sIx items.size items.size hi - sIx items.size 0 lo) == items.size)=true then _ else _) _ _ s
 rw [if_neg hno,FS]
 first
  | exact Lk (m:=On _) (Mx (Lm ⟨_,rfl,Lm h⟩) htake)
  | exact Lk (m:=On _) (Mx (Lk (Lm (Lm ⟨_,rfl,Lm h⟩))) htake)
  | exact Lk (Lk (m:=On _) (Mx (Lm (Lm ⟨_,rfl,Lm h⟩)) htake))
  | exact Lk (Lk (m:=On _) (Mx (Lm ⟨_,rfl,Lm h⟩) htake))
end
end HT
namespace L2
open PySem PySem.Spec PyProof.Rows
noncomputable abbrev TO:=St->Hp->(Option Int->Hp->Prop)->Prop
noncomputable def PO (X:Cx) (e:Option Expr) (t:TO):Prop:=
 ∀ (pins:List (Addr×Obj)) (s:Shared) (σ:St) (H:Hp) (Q:Option Int->Hp->Prop),Inv X pins σ H s->t σ H Q->
  wpAny (model X.prog X.w) X.A (evalPart e X.env) (fun u s'=>∃ o H',Inv X pins σ H' s'/\IsPart u o/\Q o H') X.xe s
noncomputable def nR:TO:=fun _ H Q=>Q none H
noncomputable def uI (t:TE):TO:=fun σ H Q=>t σ H fun x H1=>∃ i,x=.int i/\Q (some i) H1
theorem oN {ns:List Int}:∀ {us:List Value},aH (ns.map V.int) us->IntsAre us ns:=by
 induction ns with
 | nil=>intro us r; rw [ON] at r; cases r; exact .nil
 | cons n ns ih=>
  intro us r
  rw [LI] at r
  cases r with
  | cons r1 r2=>
   obtain ⟨t,e⟩:=r1
   subst e
   exact .cons n t (ih r2)
section
variable {X:Cx} {e:Expr} {te:TE} {lo hi:Option Expr} {tl th:TO} {pos p2:Pos}
theorem ww:PO X none nR:=by
 intro pins s σ H Q I h
 rw [evalPart_none]
 exact Lm ⟨none,H,I,.none,h⟩
theorem wx (h:PE X e te):PO X (some e) (uI te):=by
 intro pins s σ H Q I hw
 rw [evalPart_some]
 refine thn (h pins s σ H _ I hw) fun u s1 ⟨x,H1,I1,r1,q1⟩=>?_
 obtain ⟨i,rfl,q⟩:=q1
 obtain ⟨t,rfl⟩:=r1
 exact ⟨some i,H1,I1,.int i t,q⟩
noncomputable def SlR (X:Cx) (r:V->Option Int->Option Int->Hp->VK->Prop):Prop:=
 ∀ (pins:List (Addr×Obj)) (s:Shared) (σ:St) (H:Hp) (x:V) (v vl vu:Value) (lo hi:Option Int) (sl:Addr) (Q:VK),Inv X pins σ H s->aK x v->s.heap.IsSliceOf sl vl vu .none->IsPart vl lo->IsPart vu hi->r x lo hi H Q->
  ∃ T id,R8 (.type T) "__getitem__"=pure (some (.builtin id))/\s.TypeIs v T/\wpAny (model X.prog X.w) X.A (getItem v (.ref sl)) (EP X pins σ Q) X.xe s
theorem SlR.or {r r':V->Option Int->Option Int->Hp->VK->Prop} (h:SlR X r) (h':SlR X r'):SlR X (fun x lo hi H Q=>r x lo hi H Q\/r' x lo hi H Q):=by
 intro pins s σ H x v vl vu lo hi sl Q I rx hs pl pu q
 rcases q with q | q
 ·exact h pins s σ H x v vl vu lo hi sl Q I rx hs pl pu q
 ·exact h' pins s σ H x v vl vu lo hi sl Q I rx hs pl pu q
noncomputable def tSl (r:V->Option Int->Option Int->Hp->VK->Prop) (te:TE) (tl th:TO):TE:=fun σ H Q=>te σ H fun x H1=>tl σ H1 fun l H2=>th σ H2 fun u H3=>r x l u H3 Q
theorem tV {r:V->Option Int->Option Int->Hp->VK->Prop} (hr:SlR X r) (he:PE X e te) (hl:PO X lo tl) (hu:PO X hi th):PE X (.Subscript e (.Slice lo hi none p2) pos) (tSl r te tl th):=by
 intro pins s σ H Q I h
 refine TY (thn (he pins s σ H _ I h) fun v s1 ⟨x,H1,I1,r1,q1⟩=>?_)
 refine wpAny_Slice (thn (hl pins s1 σ H1 _ I1 q1) fun vl s2 ⟨l,H2,I2,pl,q2⟩=>thn (hu pins s2 σ H2 _ I2 q2) fun vu s3 ⟨u,H3,I3,pu,q3⟩=>?_)
 rw [evalPart_none]
 refine Lm ?_
 have I4:Inv X pins σ H3 { s3 with heap:=s3.heap.push { cls:=.type "slice",data:=.fields #[vl,vu,.none] } }:=I3.kept (t':=s3.toks) fun b ob q=>Ll _ q
 obtain ⟨T,id,hT,ht,hg⟩:=hr pins { s3 with heap:=s3.heap.push { cls:=.type "slice",data:=.fields #[vl,vu,.none] } } σ H3 x v vl vu l u s3.heap.objs.size Q I4 r1 (Heap.IsSliceOf.new ..) pl pu q3
 show wpAny (model X.prog X.w) X.A (Sj e (.Slice lo hi none p2) v (.ref s3.heap.objs.size)) (EP X pins σ Q) X.xe { s3 with heap:=s3.heap.push { cls:=.type "slice",data:=.fields #[vl,vu,.none] } }
 exact tail_any (ops:=[.ref s3.heap.objs.size,v]) ht hT hg (by with_unfolding_all rfl)
noncomputable def qF (xs:List V) (lo hi:Option Int):List V:=(xs.drop (HT.sIx xs.length 0 lo)).take (HT.sIx xs.length xs.length hi - HT.sIx xs.length 0 lo)
theorem A2 (xs:List V) (lo hi:Option Int):(qF xs lo hi).length<=xs.length:=by
 unfold qF
 rw [M9,Ts]
 omega
noncomputable def K6 (K:Fg):V->Option Int->Option Int->Hp->VK->Prop:=fun x lo hi H Q=>∃ a xs,x=.ref a/\SqT K H a xs/\
 ¬ (HT.sIx xs.length 0 lo=0/\HT.sIx xs.length xs.length hi=xs.length)/\∀ p,H p=none->Q (.ref p) (upd H p (.tup (qF xs lo hi)))
theorem Jy:SlR X (K6 X.K):=by
 intro pins s σ H x v vl vu lo hi sl Q I rx hs pl pu h
 obtain ⟨a,xs,rfl,hx,hw,q⟩:=h
 cases rx
 obtain ⟨its,r,ht,hz⟩:=I.tuple hx
 have hlen:its.toArray.size=xs.length:=by rw [LK]; exact r.length.symm
 refine ⟨"tuple",_,Ou.lookup,ht.typeIs,?_⟩
 refine HT.sR ht hs pl pu (by rw [hlen]; exact hw) ?_ (by rw [hlen]; exact hz)
 rw [hlen]
 refine ⟨.ref s.heap.objs.size,_,I.laid (t':=s.toks) (o:=.tup (qF xs lo hi)) (fun b ob q=>Ll _ q) (Lr _) ?_,rfl,q _ (I.hok.fresh (Lr _))⟩
 exact ⟨L8 (A2 xs lo hi) hz,_,(r.drop (HT.sIx xs.length 0 lo)).take (HT.sIx xs.length xs.length hi - HT.sIx xs.length 0 lo),ga.new _ _⟩
noncomputable def Ku (K:Fg):R2:=fun x y H Q=>∃ a b xs ys,x=.ref a/\y=.ref b/\SqT K H a xs/\SqT K H b ys/\xs≠[]/\xs.length + ys.length<=Lz/\
 (ys=[]->Q (.ref a) H)/\(ys≠[]->∀ p,H p=none->Q (.ref p) (upd H p (.tup (xs++ys))))
theorem aH.nil_iff {xs:List V} {us:List Value} (r:aH xs us):us=[]↔xs=[]:=by
 cases r with
 | nil=>simp
 | cons _ _=>simp
theorem Ic:OpR X (Ob .Add) (Ku X.K):=by
 intro pins s σ H x y v u Q I rx ry h
 obtain ⟨a,b,xs,ys,rfl,rfl,ha,hb,hx,hz,q1,q2⟩:=h
 cases rx
 cases ry
 obtain ⟨its,r1,p1,_⟩:=I.tuple ha
 obtain ⟨its2,r2,p2,_⟩:=I.tuple hb
 refine HT.Ib p1 p2 (fun z=>hx (r1.nil_iff.mp z)) (fun z=>⟨.ref a,H,I,rfl,q1 (r2.nil_iff.mp z)⟩) (fun z=>?_) (by rw [<-r1.length,<-r2.length]; exact hz)
 refine ⟨.ref s.heap.objs.size,_,I.laid (t':=s.toks) (o:=.tup (xs++ys)) (fun b ob q=>Ll _ q) (Lr _) ?_,rfl,q2 (fun w=>z (r2.nil_iff.mpr w)) _ (I.hok.fresh (Lr _))⟩
 exact ⟨by rw [LG]; exact hz,_,r1.append r2,ga.new _ _⟩
end
end L2
namespace L2
open PySem PySem.Spec PyProof.Rows
noncomputable def ixN (n:Nat) (i:Int):Option Nat:=if 0<=i then (if i < n then some i.toNat else none) else if -(n:Int)<=i then some (i + n).toNat else none
noncomputable def atI {α:Type} (xs:List α) (i:Int):Option α:=(ixN xs.length i).bind fun j=>xs[j]?
theorem BJ {n:Nat} {i:Int} {j:Nat} (h:ixN n i=some j):seqIndex? i n=some j/\j < n/\-(n:Int)<=i/\i < n:=by
 unfold ixN at h
 by_cases h0:0<=i
 ·rw [if_pos h0] at h
  by_cases h1:i < n
  ·rw [if_pos h1] at h
   have e:i.toNat=j:=LF h
   exact ⟨by rw [Tc h0 h1,e],by omega,by omega,h1⟩
  ·rw [if_neg h1] at h; cases h
 ·rw [if_neg h0] at h
  by_cases h1:-(n:Int)<=i
  ·rw [if_pos h1] at h
   have e:(i + n).toNat=j:=LF h
   exact ⟨by rw [SI (by omega) h1,e],by omega,h1,by omega⟩
  ·rw [if_neg h1] at h; cases h
theorem BK {α:Type} {xs:List α} {i:Int} {v:α} (h:atI xs i=some v):∃ j,seqIndex? i xs.length=some j/\xs[j]?=some v/\j < xs.length/\-(xs.length:Int)<=i/\i < xs.length:=by
 unfold atI at h
 cases e:ixN xs.length i with
 | none=>rw [e] at h; cases h
 | some j=>
  rw [e] at h
  obtain ⟨h1,h2,h3,h4⟩:=BJ e
  exact ⟨j,h1,h,h2,h3,h4⟩
theorem dz {α:Type} {xs:List α} {j:Nat} {v:α} (h:xs[j]?=some v):atI xs (j:Int)=some v:=by
 have hj:j < xs.length:=(Ls.mp h).1
 have e:ixN xs.length (j:Int)=some j:=by
  unfold ixN
  rw [if_pos (by omega),if_pos (by omega)]; simp
 unfold atI; rw [e]; exact h
noncomputable def Id (b:Expr):Prop:=∀ o i,RC b false o i=operate [o,i] (getItem o i)
noncomputable def IxR (X:Cx) (r:R2):Prop:=
 ∀ (value slice:Expr) (pins:List (Addr×Obj)) (s:Shared) (σ:St) (H:Hp) (x y:V) (v u:Value) (Q:VK),Inv X pins σ H s->aK x v->aK y u->r x y H Q->
  RC slice false v u=operate [v,u] (getItem v u)->wpAny (model X.prog X.w) X.A (Sj value slice v u) (EP X pins σ Q) X.xe s
noncomputable def MtR (X:Cx) (id:String) (r:V->List V->Hp->VK->Prop):Prop:=
 ∀ (pins:List (Addr×Obj)) (s:Shared) (σ:St) (H:Hp) (x:V) (xs:List V) (v:Value) (us:List Value) (Q:VK),Inv X pins σ H s->aK x v->aH xs us->r x xs H Q->
  wpAny (model X.prog X.w) X.A (call (.builtin id) (v :: us)) (EP X pins σ Q) X.xe s
section
variable {X:Cx} {a b:Expr} {ta tb:TE} {pos:Pos}
theorem IxR.or {r r':R2} (h:IxR X r) (h':IxR X r'):IxR X (fun x y H Q=>r x y H Q\/r' x y H Q):=by
 intro value slice pins s σ H x y v u Q I rx ry q hs
 rcases q with q | q
 ·exact h value slice pins s σ H x y v u Q I rx ry q hs
 ·exact h' value slice pins s σ H x y v u Q I rx ry q hs
theorem MtR.or {id:String} {r r':V->List V->Hp->VK->Prop} (h:MtR X id r) (h':MtR X id r'):MtR X id (fun x xs H Q=>r x xs H Q\/r' x xs H Q):=by
 intro pins s σ H x xs v us Q I rx rs q
 rcases q with q | q
 ·exact h pins s σ H x xs v us Q I rx rs q
 ·exact h' pins s σ H x xs v us Q I rx rs q
theorem aM {r:R2} (hr:IxR X r) (ha:PE X a ta) (hb:PE X b tb) (hs:Id b):PE X (.Subscript a b pos) (tOp r ta tb):=by
 intro pins s σ H Q I h
 exact TY (FL ha hb I h fun v u s2 x y H2 I2 rx ry q=>hr a b pins s2 σ H2 x y v u Q I2 rx ry q (hs _ _))
noncomputable def bR (K:Fg):R2:=fun x y H Q=>∃ p xs i v,x=.ref p/\y=.int i/\SqL K H p xs/\atI xs i=some v/\Q v H
noncomputable def bU (K:Fg):R2:=fun x y H Q=>∃ p xs i v,x=.ref p/\y=.int i/\SqT K H p xs/\atI xs i=some v/\Q v H
theorem aY:IxR X (bR X.K):=by
 intro value slice pins s σ H x y v u Q I rx ry h hs
 obtain ⟨p,xs,i,z,rfl,rfl,hq,he,q⟩:=h
 cases rx
 obtain ⟨t,rfl⟩:=ry
 obtain ⟨its,r,pl,hz⟩:=I.list hq
 obtain ⟨j,h1,h2,h3,h4,h5⟩:=BK he
 obtain ⟨w,ew,rw'⟩:=r.get h2
 have hl:=r.length
 have hn:=uF
 have fin:EP X pins σ Q w s:=⟨z,H,I,rw',q⟩
 by_cases h0:0<=i
 ·have hj:i.toNat=j:=by
   rw [Tc h0 h5] at h1
   exact LF h1
  exact item_listR pl.isList h0 (by omega) (by rw [hj]; simpa using ew) fin hs
 ·have hj:(i + (its.toArray.size:Int)).toNat=j:=by
   rw [SI (by omega) h4] at h1
   rw [LK,<-hl]
   exact LF h1
  exact RD (x:=w) pl.isList.typeIs slot_list_getitem.lookup
   (wpAny_getItem_list_neg (Q:=fun r s'=>r=w/\EP X pins σ Q r s') pl.isList (by omega) (by rw [LK] <;> omega) (by omega) (by rw [hj]; simpa using ew) ⟨rfl,fin⟩) hs
theorem bm:IxR X (bU X.K):=by
 intro value slice pins s σ H x y v u Q I rx ry h hs
 obtain ⟨p,xs,i,z,rfl,rfl,hq,he,q⟩:=h
 cases rx
 obtain ⟨t,rfl⟩:=ry
 obtain ⟨its,r,pl,hz⟩:=I.tuple hq
 obtain ⟨j,h1,h2,h3,h4,h5⟩:=BK he
 obtain ⟨w,ew,rw'⟩:=r.get h2
 have hl:=r.length
 have hn:=uF
 have fin:EP X pins σ Q w s:=⟨z,H,I,rw',q⟩
 exact RD (x:=w) pl.typeIs slot_tuple_getitem.lookup
  (getItem_tuple (j:=j) (Q:=fun r s'=>r=w/\EP X pins σ Q r s') pl (by omega) (by omega) (by rw [LK,<-hl]; exact h1) (by simpa using ew) ⟨rfl,fin⟩) hs
theorem Cp (its:List Value) (n j:Nat) (u:Value):MJ (·.setIfInBounds j u) { cls:=.type "list",data:=.seq its.toArray n }={ cls:=.type "list",data:=.seq (its.set j u).toArray n }:=by
 simp [MJ]
theorem Inv.lst {pins:List (Addr×Obj)} {σ:St} {H:Hp} {s:Shared} {p:Addr} {xs:List V} (I:Inv X pins σ H s) (h:H p=some (.lst xs)):
  ∃ (its:List Value) (n:Nat),aH xs its/\s.heap.get? p=some { cls:=.type "list",data:=.seq its.toArray n }/\xs.length<=Lz:=by
 obtain ⟨z,its,n,r,e⟩:=I.hok p _ h
 exact ⟨its,n,r,e,z⟩
theorem Inv.lstUpd {pins:List (Addr×Obj)} {σ:St} {H:Hp} {s:Shared} {p:Addr} {xs ys:List V} {its its':List Value} {n n':Nat} {f:Obj->Obj} (I:Inv X pins σ H s) (h:H p=some (.lst xs))
  (ho:s.heap.get? p=some { cls:=.type "list",data:=.seq its.toArray n }) (hf:f { cls:=.type "list",data:=.seq its.toArray n }={ cls:=.type "list",data:=.seq its'.toArray n' }) (r:aH ys its') (hz:ys.length<=Lz) (t:Nat):
  Inv X pins σ (upd H p (.lst ys)) { s with heap:=s.heap.update p f,toks:=t }:=by
 have e:(s.heap.update p f).get? p=some { cls:=.type "list",data:=.seq its'.toArray n' }:=by
  rw [Mt f ho (by rw [hf] <;> rfl),hf]
 refine I.write (x:=p) (e:=p) (by rw [h]; trivial) (.inl rfl) (fun b u hb q=>(MZ _ _ (MR hb)).trans q) ⟨_,e⟩ ?_
 exact ⟨hz,its',n',r,e⟩
noncomputable def mM:V->V->V->Hp->(Hp->Prop)->Prop:=fun o i v H Q=>∃ p xs k j,o=.ref p/\i=.int k/\H p=some (.lst xs)/\ixN xs.length k=some j/\Q (upd H p (.lst (xs.set j v)))
theorem lQ:FJ X mM:=by
 intro pins s σ H o i v ov iv u Q I ro ri rv h
 obtain ⟨p,xs,k,j,rfl,rfl,hp,hj,q⟩:=h
 cases ro
 obtain ⟨t,rfl⟩:=ri
 obtain ⟨its,n,r,ho,hz⟩:=I.lst hp
 obtain ⟨h1,h2,h3,h4⟩:=BJ hj
 have hl:=r.length
 have hn:=uF
 have I':Inv X pins σ (upd H p (.lst (xs.set j v))) { s with heap:=s.heap.update p (MJ (·.setIfInBounds j u)) }:=
  I.lstUpd hp ho (Cp its n j u) (r.set rv j) (by rw [NH]; exact hz) s.toks
 by_cases h0:0<=k
 ·have hk:k.toNat=j:=by
   rw [Tc h0 h4] at h1
   exact LF h1
  exact PySem.W.ki_setAt ho h0 (by omega) (by rw [LK,<-hl]; exact h4) (by rw [hk]; exact ⟨_,I',q⟩)
 ·have hk:(k + (its.toArray.size:Int)).toNat=j:=by
   rw [SI (by omega) h3] at h1
   rw [LK,<-hl]
   exact LF h1
  exact PySem.W.ki_setBack ho (by omega) (by rw [LK,<-hl]; exact h3) (by omega) (by rw [hk]; exact ⟨_,I',q⟩)
noncomputable def dQ:V->Bool
 | .non=>true
 | .bl _=>true
 | .int _=>true
 | .str _=>true
 | _=>false
noncomputable def eqV:V->V->Bool
 | .non,.non=>true
 | .bl a,.bl b=>a == b
 | .bl a,.int b=>(if a then 1 else 0) == b
 | .int a,.bl b=>a == (if b then 1 else 0)
 | .int a,.int b=>a == b
 | .str a,.str b=>a == b
 | _,_=>false
theorem Ep {A:Around} {s:Shared} {y x:V} {u v:Value} (ry:aK y u) (rx:aK x v) (fy:dQ y=true) (fx:dQ x=true):L6 A s u v (eqV y x):=by
 cases y with
 | non=>
  cases ry
  cases x with
  | non=>cases rx; exact Ru _
  | bl b=>cases rx; exact R9 b
  | int b=>obtain ⟨t,rfl⟩:=rx; exact So b t
  | str b=>obtain ⟨t,rfl⟩:=rx; exact L6.none_str b t
  | _=>exact absurd (show false=true from fx) LB
 | bl a=>
  cases ry
  cases x with
  | non=>cases rx; exact Sa a
  | bl b=>cases rx; exact Sb a b
  | int b=>obtain ⟨t,rfl⟩:=rx; exact Sr a b t
  | str b=>obtain ⟨t,rfl⟩:=rx; exact L6.bool_str a b t
  | _=>exact absurd (show false=true from fx) LB
 | int a=>
  obtain ⟨t',rfl⟩:=ry
  cases x with
  | non=>cases rx; exact Ss a t'
  | bl b=>cases rx; exact Su a t' b
  | int b=>obtain ⟨t,rfl⟩:=rx; exact SJ a t' b t
  | str b=>obtain ⟨t,rfl⟩:=rx; exact Sx a t' b t
  | _=>exact absurd (show false=true from fx) LB
 | str a=>
  obtain ⟨t',rfl⟩:=ry
  cases x with
  | non=>cases rx; exact L6.str_none a t'
  | bl b=>cases rx; exact L6.str_bool a t' b
  | int b=>obtain ⟨t,rfl⟩:=rx; exact Sz a t' b t
  | str b=>obtain ⟨t,rfl⟩:=rx; exact L6.str_str a t' b t
  | _=>exact absurd (show false=true from fx) LB
 | _=>exact absurd (show false=true from fy) LB
noncomputable def eqU (x:V) (u:Value):Bool:=match u with
 | .none=>eqV .non x
 | .bool b=>eqV (.bl b) x
 | .int i _=>eqV (.int i) x
 | .str z _=>eqV (.str z) x
 | _=>false
theorem zn {x y:V} {u:Value} (r:aK y u) (f:dQ y=true):eqU x u=eqV y x:=by
 cases y with
 | non=>cases r; rfl
 | bl b=>cases r; rfl
 | int i=>obtain ⟨t,rfl⟩:=r; rfl
 | str z=>obtain ⟨t,rfl⟩:=r; rfl
 | _=>exact absurd (show false=true from f) LB
theorem wz {x:V}:∀ {xs:List V} {us:List Value},aH xs us->xs.all dQ=true->us.any (eqU x)=xs.any fun y=>eqV y x
 | _,_,.nil,_=>rfl
 | y :: xs,u :: us,.cons r t,f=>by
  rw [Oy,MY] at f
  rw [Pw,Pw,zn r f.1,wz t f.2]
theorem lR {A:Around} {s:Shared} {x:V} {v:Value} (rx:aK x v) (fx:dQ x=true):∀ {xs:List V} {us:List Value},aH xs us->xs.all dQ=true->∀ u∈us,L6 A s u v (eqU x u)
 | _,_,.nil,_=>fun u hu=>by cases hu
 | y :: xs,u :: us,.cons r t,f=>fun u' hu=>by
  rw [Oy,MY] at f
  rcases Lq.mp hu with rfl | hu
  ·rw [zn r f.1]; exact Ep r rx f.1 fx
  ·exact lR rx fx t f.2 u' hu
noncomputable def inV (x:V) (xs:List V):Bool:=xs.any fun y=>eqV y x
noncomputable def rIn (K:Fg) (neg:Bool):R2:=fun x y H Q=>∃ p xs,y=.ref p/\(SqL K H p xs\/SqT K H p xs)/\dQ x=true/\xs.all dQ=true/\Q (.bl (if neg then !inV x xs else inV x xs)) H
theorem Er:OpR X (NF .In) (rIn X.K false):=by
 intro pins s σ H x y v u Q I rx ry h
 obtain ⟨p,xs,rfl,hq,fx,fs,q⟩:=h
 cases ry
 rcases hq with hq | hq
 ·obtain ⟨its,r,pl,hz⟩:=I.list hq
  refine SeqAt.in_listAt (eqU x) pl.isList (fun w hw=>lR rx fx r fs w (by simpa using hw)) ⟨.bl _,H,I,rfl,?_⟩
  rw [show its.toArray.any (eqU x)=its.any (eqU x) by simp,wz r fs]
  exact q
 ·obtain ⟨its,r,pl,hz⟩:=I.tuple hq
  refine SeqAt.in_tupleAt (eqU x) pl (fun w hw=>lR rx fx r fs w (by simpa using hw)) ⟨.bl _,H,I,rfl,?_⟩
  rw [show its.toArray.any (eqU x)=its.any (eqU x) by simp,wz r fs]
  exact q
theorem aZ:cF X (.builtin "len") (fun xs H Q=>∃ p ys,xs=[.ref p]/\(SqL X.K H p ys\/SqT X.K H p ys)/\Q (.int ys.length) H):=by
 intro pins s σ H xs us Q I r h
 obtain ⟨p,ys,rfl,hq,q⟩:=h
 obtain ⟨u,rfl,rx⟩:=oK r
 cases rx
 have hn:=uF
 rcases hq with hq | hq
 ·obtain ⟨its,r',pl,hz⟩:=I.list hq
  have hlen:=r'.length
  exact Calls.call_len_list pl.isList (by simp only [LK] <;> omega) ⟨.int ys.length,H,I.tok _,⟨s.toks + 1,by rw [LK,hlen]⟩,q⟩
 ·obtain ⟨its,r',pl,hz⟩:=I.tuple hq
  have hlen:=r'.length
  exact len_tuple pl (by simp only [LK] <;> omega) ⟨.int ys.length,H,I.tok _,⟨s.toks + 1,by rw [LK,hlen]⟩,q⟩
theorem cF.or {f:Value} {r r':List V->Hp->VK->Prop} (h:cF X f r) (h':cF X f r'):cF X f (fun xs H Q=>r xs H Q\/r' xs H Q):=by
 intro pins s σ H xs us Q I rs q
 rcases q with q | q
 ·exact h pins s σ H xs us Q I rs q
 ·exact h' pins s σ H xs us Q I rs q
theorem zo:cF X (.type "list") (fun xs H Q=>∃ p ys,xs=[.ref p]/\(SqL X.K H p ys\/SqT X.K H p ys)/\∀ l,H l=none->Q (.ref l) (upd H l (.lst ys))):=by
 intro pins s σ H xs us Q I r h
 obtain ⟨p,ys,rfl,hq,q⟩:=h
 obtain ⟨u,rfl,rx⟩:=oK r
 cases rx
 have fin:∀ (its:List Value),aH ys its->ys.length<=Lz->∀ (h':Heap) (c':Nat),(∀ b o',s.heap.get? b=some o'->h'.get? b=some o')->
   h'.get? s.heap.objs.size=some { cls:=.type "list",dict:=none,data:=.seq its.toArray c',slots:=#[] }->EP X pins σ Q (.ref s.heap.objs.size) { s with heap:=h' }:=fun its r' hz h' c' kp e=>
  ⟨.ref s.heap.objs.size,_,I.laid (t':=s.toks) kp (Lr _) (show bH X.prog X.w _ h' _ (.lst ys) from ⟨hz,its,c',r',e⟩),rfl,q _ (I.hok.fresh (Lr _))⟩
 rcases hq with hq | hq
 ·obtain ⟨its,r',pl,hz⟩:=I.list hq
  have hlen:=r'.length
  obtain ⟨o,ho,hc,n,hd⟩:=pl.isList
  exact call_list_seq p (.inl rfl) ho hc hd (fun h' c' kp e=>fin its r' hz h' c' kp e) (by simp only [LK] <;> omega)
 ·obtain ⟨its,r',pl,hz⟩:=I.tuple hq
  have hlen:=r'.length
  obtain ⟨o,ho,hc,n,hd⟩:=pl
  exact call_list_seq p (.inr rfl) ho hc hd (fun h' c' kp e=>fin its r' hz h' c' kp e) (by simp only [LK] <;> omega)
theorem pT:cF X (.type "tuple") (fun xs H Q=>∃ p ys,xs=[.ref p]/\((SqL X.K H p ys/\∀ l,H l=none->Q (.ref l) (upd H l (.tup ys)))\/(SqT X.K H p ys/\Q (.ref p) H))):=by
 intro pins s σ H xs us Q I r h
 obtain ⟨p,ys,rfl,h⟩:=h
 obtain ⟨u,rfl,rx⟩:=oK r
 cases rx
 rcases h with ⟨hq,q⟩ | ⟨hq,q⟩
 ·obtain ⟨its,r',pl,hz⟩:=I.list hq
  have hlen:=r'.length
  refine call_tuple_list pl.isList (fun h' kp=>?_) (by simp only [LK] <;> omega)
  have I1:Inv X pins σ H { s with heap:=h' }:=I.kept (t':=s.toks) kp
  have I2:Inv X pins σ (upd H h'.objs.size (.tup ys)) { s with heap:=h'.push { cls:=.type "tuple",data:=.seq its.toArray } }:=
   I1.laid (t':=s.toks) (fun b o e=>Ll _ e) (Lr _) (show bH X.prog X.w _ _ _ (.tup ys) from ⟨hz,its,r',ga.new _ _⟩)
  exact ⟨.ref h'.objs.size,_,I2,rfl,q _ (I1.hok.fresh (Lr _))⟩
 ·obtain ⟨its,r',pl,hz⟩:=I.tuple hq
  exact call_tuple_same pl ⟨.ref p,H,I,rfl,q⟩
noncomputable def tyV (K:Fg) (T:String) (x:V) (H:Hp):Prop:=match x with
 | .str _=>T="str"
 | .int _=>T="int"
 | .ref p=>(T="list"/\∃ xs,SqL K H p xs)\/(T="tuple"/\∃ o,K.lookup p=some o/\o.cls=.type "tuple"/\o.dict=none)\/
   (T="dict"/\((∃ kvs,H p=some (.dK kvs))\/∃ kvs,H p=some (.dT kvs)))\/(T="set"/\∃ S n,H p=some (.set S n))
 | _=>False
theorem Jz {pins:List (Addr×Obj)} {σ:St} {H:Hp} {s:Shared} {T:String} {x:V} {v:Value} (I:Inv X pins σ H s) (r:aK x v) (ty:tyV X.K T x H):
  s.TypeIs v T/\∀ a,v=.ref a->∃ ob,s.heap.get? a=some ob/\ob.dict=none:=by
 cases x with
 | str z=>
  obtain ⟨t,rfl⟩:=r
  cases (show T="str" from ty)
  exact ⟨typeIs_str s z t,fun _ e=>nomatch e⟩
 | int i=>
  obtain ⟨t,rfl⟩:=r
  cases (show T="int" from ty)
  exact ⟨TZ s i t,fun _ e=>nomatch e⟩
 | ref p=>
  cases r
  rcases ty with ⟨rfl,xs,hq⟩ | ⟨rfl,o,hk,hc,hd⟩ | ⟨rfl,hk⟩ | ⟨rfl,S,n,hk⟩
  ·obtain ⟨its,_,pl,_⟩:=I.list hq
   refine ⟨pl.isList.typeIs,fun a e=>?_⟩
   cases e
   obtain ⟨o,n,e,c,hd,_⟩:=pl
   exact ⟨o,e,hd⟩
  ·refine ⟨⟨o,I.kIn p o hk,hc⟩,fun a e=>?_⟩
   cases e
   exact ⟨o,I.kIn _ o hk,hd⟩
  ·have z:∃ o,s.heap.get? p=some o/\o.ExactDict:=by
    rcases hk with ⟨kvs,hk⟩ | ⟨kvs,hk⟩
    ·obtain ⟨_,_,_,_,o,_,_,e,ex,_⟩:=I.hok p _ hk
     exact ⟨o,e,ex⟩
    ·obtain ⟨_,_,_,_,o,_,_,e,ex,_⟩:=I.hok p _ hk
     exact ⟨o,e,ex⟩
   obtain ⟨o,e,ex⟩:=z
   refine ⟨⟨o,e,ex.1⟩,fun a e2=>?_⟩
   cases e2
   exact ⟨o,e,ex.2.1⟩
  ·obtain ⟨o,_,_,_,e,ex,_⟩:=I.hok p _ hk
   refine ⟨⟨o,e,ex.1⟩,fun a e2=>?_⟩
   cases e2
   exact ⟨o,e,ex.2.1⟩
 | _=>exact Nm ty
noncomputable def K7 (K:Fg) (T:String) (r:V->List V->Hp->VK->Prop) (to:TE):TE:=fun σ H Q=>to σ H fun x H1=>tyV K T x H1/\r x [] H1 Q
noncomputable def tBM (K:Fg) (T:String) (r:V->List V->Hp->VK->Prop) (to:TE) (t:TA):TE:=fun σ H Q=>to σ H fun x H1=>tyV K T x H1/\t σ H1 fun xs H2=>r x xs H2 Q
variable {o e:Expr} {es:List Expr} {to:TE} {t:TA} {name:Str} {apos cpos:Pos} {T id:String} {r:V->List V->Hp->VK->Prop}
theorem lw (pa:PlainAttrs T) (slot:Slot T name id) (hty:typeOf (.builtin id)=pure (.type "method_descriptor")) (hm:MtR X id r) (ho:PE X o to) (ha:PA X (e :: es) t)
  (hbase:OV o name X.env (eval o X.env)=eval o X.env:=by rfl)
  (hfew:((backTo cpos (LP (e :: es) X.env)).all (fun x=>!x.1) && (Pz cpos (OG [] X.env)).all (fun x=>x.1.isSome)
   && decide ((e :: es).length + ([]:List Keyword).length + (if ([]:List Keyword).isEmpty then 0 else 1) < 30))=true:=by rfl)
  (hline:(apos.endLine == cpos.line)=true:=by rfl) (hs:LP (e :: es) X.env=(false,eval e X.env) :: LP es X.env:=by rfl) (hplain:(backTo cpos (LP es X.env)).any (·.1)=false:=by rfl):
  PE X (.Call (.Attribute o name apos) (e :: es) [] cpos) (tBM X.K T r to t):=by
 intro pins s σ H Q I h
 refine Pq hbase hfew hline rfl (thn (ho pins s σ H _ I h) fun v s1 ⟨x,H1,I1,r1,ty,q1⟩=>?_)
 obtain ⟨h1,h2⟩:=Jz I1 r1 ty
 refine ⟨T,id,pa,slot,hty,h1,h2,?_⟩
 have hA:=ha cpos pins s1 σ H1 _ I1 q1
 rw [hs] at hA ⊢
 refine Pr (by show (false || (backTo cpos (LP es X.env)).any (·.1))=false; rw [hplain] <;> rfl) (PU ?_)
 exact thn hA fun us s2 ⟨vs,H2,I2,r2,q2⟩=>hm pins s2 σ H2 x vs v us Q I2 r1 r2 q2
end
end L2
namespace L2
open PySem PySem.Spec PyProof.Rows
noncomputable def MtM (X:Cx) (id:String) (r:V->List V->Hp->VK->Prop):Prop:=
 ∀ (pins:List (Addr×Obj)) (s:Shared) (σ:St) (H:Hp) (x:V) (xs:List V) (v:Value) (us:List Value) (Q:VK),Inv X pins σ H s->aK x v->aH xs us->r x xs H Q->
  wpAny (model X.prog X.w) X.A (call (.builtin id) (v :: us)) (EP X pins σ Q) X.xe s
theorem aH.one {x:V} {us:List Value} (h:aH [x] us):∃ u,us=[u]/\aK x u:=by
 cases h with
 | cons r t=>cases t; exact ⟨_,rfl,r⟩
theorem aH.two {x y:V} {us:List Value} (h:aH [x,y] us):∃ u v,us=[u,v]/\aK x u/\aK y v:=by
 cases h with
 | cons r t=>cases t with
  | cons q z=>cases z; exact ⟨_,_,rfl,r,q⟩
theorem aH.zero:∀ {us:List Value},aH [] us->us=[]
 | _,.nil=>rfl
theorem aH.rep {xs:List V} {us:List Value} (h:aH xs us):∀ k:Nat,aH (Mf k xs).flatten (Mf k us).flatten
 | 0=>.nil
 | k + 1=>by
  rw [Ot,Ot,Pk,Pk]
  exact aH.append h (aH.rep h k)
theorem xz (its:List Value):∀ (k:Nat) (acc:List Value),
  T1 (fun x1 x2=>x1++x2) acc.toArray (Mf k its.toArray)=(acc++(Mf k its).flatten).toArray
 | 0,acc=>by simp
 | k + 1,acc=>by
  have e:acc.toArray++its.toArray=(acc++its).toArray:=by simp
  have e2:(acc++its)++(Mf k its).flatten=acc++(Mf (k + 1) its).flatten:=by
   rw [Ot,Pk,QO]
  rw [<-e2,<-xz its k (acc++its),<-e,Ot,T2]
section
variable {X:Cx} {pins:List (Addr×Obj)} {σ:St} {H:Hp} {s:Shared} {l b:Addr} {xs ys zs:List V}
theorem Inv.lset {its its':List Value} {n:Nat} {f:Array Value->Array Value} {t':Nat} (I:Inv X pins σ H s) (hH:H l=some (.lst xs))
  (e:s.heap.get? l=some { cls:=.type "list",data:=.seq its.toArray n }) (hf:f its.toArray=its'.toArray) (hv:aH ys its') (hz:ys.length<=Lz):
  Inv X pins σ (upd H l (.lst ys)) { s with heap:=s.heap.update l (MJ f),toks:=t' }:=by
 have q:=PySem.IsL.update e f
 rw [hf] at q
 refine I.write (x:=l) (e:=l) (by rw [hH]; exact trivial) (.inl rfl) (fun b' u hb hu=>(MZ s.heap (MJ f) (MR hb)).trans hu) ⟨_,q⟩ ?_
 exact ⟨hz,its',_,hv,q⟩
theorem Inv.lnew {its:List Value} {t':Nat} (I:Inv X pins σ H s) (hv:aH ys its) (hz:ys.length<=Lz):
  Inv X pins σ (upd H s.heap.objs.size (.lst ys)) { s with heap:=s.heap.push { cls:=.type "list",data:=.seq its.toArray },toks:=t' }:=
 I.laid (fun _ _ q=>Ll _ q) (Lr _) ⟨hz,its,0,hv,Lx _ rfl⟩
theorem Inv.fresh (I:Inv X pins σ H s):H s.heap.objs.size=none:=I.hok.fresh (Lr _)
theorem Inv.lstM (I:Inv X pins σ H s) (hH:H l=some (.lst xs)):xs.length<=Lz/\∃ (its:List Value) (n:Nat),aH xs its/\xs.length=its.length/\s.heap.get? l=some { cls:=.type "list",data:=.seq its.toArray n }:=by
 obtain ⟨z,its,n,r,e⟩:=I.hok l _ hH
 exact ⟨z,its,n,r,r.length,e⟩
theorem zp {n:Nat} (h:n<=Lz):Oo n=false:=by
 unfold Oo
 exact decide_eq_false (by omega)
end
section
variable {X:Cx}
noncomputable def gX:V->List V->Hp->VK->Prop:=fun x vs H Q=>∃ l xs y,x=.ref l/\vs=[y]/\H l=some (.lst xs)/\xs.length < Lz/\Q .non (upd H l (.lst (xs++[y])))
theorem fc:MtM X "list.append" gX:=by
 intro pins s σ H x vs v us Q I rx rv h
 obtain ⟨l,xs,y,rfl,rfl,hH,hz,q⟩:=h
 cases rx
 obtain ⟨u,rfl,ru⟩:=rv.one
 obtain ⟨z,its,n,r,hl,e⟩:=I.lstM hH
 refine PX F.slot_list_append ⟨_,e,rfl⟩ F.entry_list_append (F.args_list_append_2 _ _) (PySem.list_append l its.toArray n u (by rw [LK]; omega)) ⟨e,?_⟩
 refine ⟨.non,_,I.lset (its':=its++[u]) hH e (by simp) (r.append (.cons ru .nil)) ?_,rfl,q⟩
 rw [LG,RO]
 omega
noncomputable def wA:V->List V->Hp->VK->Prop:=fun x vs H Q=>∃ l b xs zs,x=.ref l/\vs=[.ref b]/\H l=some (.lst xs)/\H b=some (.lst zs)/\xs.length + zs.length<=Lz/\Q .non (upd H l (.lst (xs++zs)))
theorem Es:MtM X "list.extend" wA:=by
 intro pins s σ H x vs v us Q I rx rv h
 obtain ⟨l,b,xs,zs,rfl,rfl,hH,hB,hz,q⟩:=h
 cases rx
 obtain ⟨u,rfl,ru⟩:=rv.one
 cases ru
 obtain ⟨z,its,n,r,hl,e⟩:=I.lstM hH
 obtain ⟨z2,its2,n2,r2,hl2,e2⟩:=I.lstM hB
 have hsz:its.toArray.size + its2.toArray.size<=Lz:=by rw [LK,LK]; omega
 have hlong:¬ (!its.toArray.isEmpty && Oo (its.toArray.size + its2.toArray.size))=true:=by
  rw [zp hsz,RP]
  exact LB
 refine PX F.slot_list_extend ⟨_,e,rfl⟩ F.entry_list_extend (F.args_list_extend_2 _ _)
  (AutoSeq1.list_extend_list_list_0 l its.toArray n b its2.toArray n2 hlong (by rw [LK]; omega) (by omega)) ⟨e,e2,?_⟩
 refine ⟨.non,_,I.lset (its':=its++its2) hH e (by simp) (r.append r2) ?_,rfl,q⟩
 rw [LG]
 omega
noncomputable def JA:R2:=fun x y H Q=>∃ l b xs zs,x=.ref l/\y=.ref b/\H l=some (.lst xs)/\H b=some (.lst zs)/\xs.length + zs.length<=Lz/\∀ p,H p=none->Q (.ref p) (upd H p (.lst (xs++zs)))
theorem Et:OpR X (Ob .Add) JA:=by
 intro pins s σ H x y v u Q I rx ry h
 obtain ⟨l,b,xs,zs,rfl,rfl,hH,hB,hz,q⟩:=h
 cases rx
 cases ry
 obtain ⟨z,its,n,r,hl,e⟩:=I.lstM hH
 obtain ⟨z2,its2,n2,r2,hl2,e2⟩:=I.lstM hB
 refine PySem.P.add_list e e2 ?_ (by rw [LK,LK]; omega)
 have ea:its.toArray++its2.toArray=(its++its2).toArray:=by simp
 rw [ea]
 exact ⟨.ref _,_,I.lnew (t':=s.toks) (r.append r2) (by rw [LG]; omega),rfl,q _ I.fresh⟩
noncomputable def K8:R2:=fun x y H Q=>∃ l k xs,x=.ref l/\y=.int k/\H l=some (.lst xs)/\-(2 ^ 63)<=k/\k < 2 ^ 63/\xs.length * k.toNat<=Lz/\
 ∀ p,H p=none->Q (.ref p) (upd H p (.lst (Mf k.toNat xs).flatten))
theorem Ie {α:Type} (xs:List α) (k:Nat):(Mf k xs).flatten.length=k * xs.length:=by
 induction k with
 | zero=>simp
 | succ k ih=>rw [Ot,Pk,LG,ih,Nat.succ_mul,Nat.add_comm]
theorem JB:OpR X (Ob .Mult) K8:=by
 intro pins s σ H x y v u Q I rx ry h
 obtain ⟨l,k,xs,rfl,rfl,hH,h1,h2,hz,q⟩:=h
 cases rx
 obtain ⟨t,rfl⟩:=ry
 obtain ⟨z,its,n,r,hl,e⟩:=I.lstM hH
 have hlen:its.toArray.size * k.toNat<=Lz:=by rw [LK,<-hl]; exact hz
 have hcap:¬ its.toArray.size * k.toNat > (2 ^ 63 - 1) / 8:=by
  have:(Lz:Nat)<=(2 ^ 63 - 1) / 8:=by decide
  omega
 have hfit:¬ (!Builtin.List.listFitsIndex k)=true:=by
  rw [fitsIndex_both h1 h2]
  exact LB
 have hlong:¬ Oo (its.toArray.size * k.toNat)=true:=by
  rw [zp hlen]
  exact LB
 have hnew:T1 (fun x1 x2=>x1++x2) #[] (Mf (if its.toArray.isEmpty=true then 0 else k.toNat) its.toArray)=(Mf k.toNat its).flatten.toArray:=by
  have f0:∀ m:Nat,T1 (fun x1 x2=>x1++x2) #[] (Mf m its.toArray)=(Mf m its).flatten.toArray:=fun m=>by
   have:=xz its m []
   rw [List.nil_append] at this
   exact this
  rw [f0]
  cases its with
  | nil=>simp
  | cons a r'=>rw [if_neg (by simp)]
 refine wpAny_binaryOp_repeat_ref (T:="list") (U:="int") (by decide) ⟨_,e,rfl⟩ (fun s'=>TZ s' k t) noFill_list_mul F.fills_int_mul T3 repeat_list F.slot_int_index.lookup
  (PX T3 (TZ s k t) F.entry_int_rmul (F.args_int_rmul_2 _ _) (int___rmul___int_list k t l its.toArray n)
   ⟨e,rfl,⟨_,e,rfl⟩,PX F.slot_list_mul ⟨_,e,rfl⟩ F.entry_list_mul (F.args_list_mul_2 _ _) (AutoListH.list___mul___list_int_3 l its.toArray n k t hfit hcap hlong) ⟨e,?_⟩⟩)
 rw [hnew]
 exact ⟨.ref _,_,I.lnew (t':=s.toks) (r.rep k.toNat) (by rw [Ie,Nr]; exact hz),rfl,q _ I.fresh⟩
end
section
variable {prog:Program} {w:World} {A:Around} {E:Value->Shared->Prop} {s:Shared}
end
section
variable {X:Cx}
end
end L2
namespace Att
open PySem PySem.W PySem.Calls PyProof.Rows
theorem uJ {P:Params} {h:Heap}:∀ (ns:List Int) (vs:List Value),WellAll P h vs (ns.map WData.int)->IntsAre vs ns:=by
 intro ns
 induction ns with
 | nil=>
  intro vs w
  rw [ON] at w
  cases w
  exact .nil
 | cons n ns ih=>
  intro vs w
  rw [LI] at w
  cases w with
  | cons a b=>
   cases a
   exact .cons _ _ (ih _ b)
theorem Eu {l:OpenLaw} {n:Nat} (hn:l.most=some n) {P:Params} {h:Heap} {args:List WData} {vals:List Value}
  (hpre:l.row.toRowW.claim.pre args=true) (hwl:WellAll P h vals args):
  ∃ a vs ns,vals=[LZ a]/\args=[WData.list (ns.map WData.int)]/\h.get? a=some { cls:=.type "list",data:=.seq vs.toArray }/\IntsAre vs ns/\ns.length<=n:=by
 have hsh:WShape.hasAll [] args [.list .int]=true:=(pre_splitW hpre).1
 have hc:l.pre.holds [] { args:=args }=true:=(pre_splitW hpre).2
 obtain ⟨d,r,rfl,h1,h2⟩:=hasAllW_cons hsh
 obtain rfl:=hasAllW_nil h2
 obtain ⟨xs,rfl,h3⟩:=hasW_list h1
 obtain ⟨ns,rfl⟩:=items_int h3
 have hlen:ns.length<=n:=by
  unfold OpenLaw.pre at hc
  have h4:(WTm.not (.lt (.lit (.int (n:Int))) (.len (.arg 0)))).holds [] { args:=[.list (ns.map .int)] }=true:=by
   have h4:=(holds_andW hc).1
   rw [hn] at h4
   exact h4
  have h5:=condW_of h4 (w_not (w_lt w_lit (w_len_list (w_arg rfl))))
  rw [Lp] at h5
  refine Tt fun q=>?_
  have q':(n:Int) < ((ns.length:Nat):Int):=by omega
  first
   | (rw [decide_eq_true q'] at h5; exact absurd h5 (by decide))
   | (simp at h5; omega)
 cases hwl with
 | cons w1 w2=>
  cases w2
  cases w1 with
  | list ho hall=>exact ⟨_,_,ns,rfl,rfl,ho,uJ ns _ hall,hlen⟩
theorem Ev (l:OpenLaw) (args:List WData):l.row.toRowW.claim.post args (.bool true) args=true:=
 postW_of (r:=l.row.toRowW) (X:=(true == true))
  (show WShape.has [] (.bool true) .bool=true by first | rfl | decide | simp [WShape.has,WShape.arms,WShape.armsAll])
  (show (WTm.eq .res (.lit (.bool true))).value [] { args:=args,res:=some (.bool true),after:=args }=some (.bool (true == true)) from w_eq_bool (w_res rfl) w_lit) rfl
section
variable {prog:Program} {w:World} {A:Around} {E:Value->Shared->Prop} {s:Shared} {K:Frag}
end
end Att
namespace L2
open PySem PySem.Spec PyProof.Rows
theorem qG:∀ {vs:List Value} {ns:List Int},IntsAre vs ns->aH (ns.map V.int) vs
 | _,_,.nil=>.nil
 | _,_,.cons n t h=>.cons ⟨t,rfl⟩ (qG h)
noncomputable def JC (H:Hp):Prop:=∀ b,H b=none\/∃ o xs,H b=some (.frz o (.lst xs))
theorem FT {P:Program} {w:World} {K:Fg} {mg mb:Str->Option Value} {CX:CXT} {k:Nat} {fa a:Addr} {fd:LL} {x:Str} {sp:Sp} {s₁:Shared} {vs:List Value} {ns:List Int}
  (KX:K.In s₁.heap) (hns:s₁.heap.Ns L5 mg) (hb:s₁.heap.Ns TN mb) (hbb:∀ x:Str,x≠"__name__"->mb x=O5 x) (hlim:s₁.heap.NoLimit) (hg:s₁.gens=#[])
  (ha:s₁.heap.get? a=some { cls:=.type "list",data:=.seq vs.toArray }) (hi:IntsAre vs ns) (hl:ns.length<=Lz) (hr:bQ k callerA)
  (F:∀ base:Heap,K.In base->base.Ns L5 mg->cH P w K mg base CX k fa fd [x] sp) (hbind:∀ (s:Shared) (u:Value),BindsTo s fd ⟨[u],[]⟩ [(x,u)])
  (hsp:∀ H:Hp,JC H->SqL K H a (ns.map V.int)->sp [.ref a] H (fun v _=>v=.bl true) fun _ _ _=>False)
  (hCX:∀ H e s',CX [] H s₁ (fun _ _ _=>False) e s'->False):
  codeAny (model P w) callerA (.call (.ref fa) ⟨[.ref a],[]⟩) (fun r s'=>r=.ok (.ret (.bool true))/\OldK s₁.heap s'.heap/\s'.os=s₁.os/\AllBare s'.gens) s₁:=by
 have rv:=qG hi
 have lenV:=hi.length
 have core:∀ H:Hp,JC H->SqL K H a (ns.map V.int)->HOk P w H s₁.heap->(∀ b,H b≠none->b=a)->(H a≠none->K.lookup a=none)->
   codeAny (model P w) callerA (.call (.ref fa) ⟨[.ref a],[]⟩) (fun r s'=>r=.ok (.ret (.bool true))/\OldK s₁.heap s'.heap/\s'.os=s₁.os/\AllBare s'.gens) s₁:=by
  intro H hO hS hok hA hK
  have base_of:∀ {b:Addr} {o:Obj},s₁.heap.get? b=some o->H b=none->(oH s₁.heap H).get? b=some o:=fun e n=>FG e n
  have noA:∀ {b:Addr} {o:Obj} {es:Array SC} {ep:Nat},s₁.heap.get? b=some o->o.data=.dict es ep->H b=none:=fun {b o es ep} e d=>by
   cases q:H b with
   | none=>rfl
   | some u=>
    have e':b=a:=hA b (by rw [q]; simp)
    subst e'
    rw [ha] at e; cases e
    have d':Data.seq vs.toArray _=Data.dict es ep:=d
    cases d'
  have nsK:∀ {b:Addr} {m:Str->Option Value},s₁.heap.Ns b m->(oH s₁.heap H).Ns b m:=fun {b m} ⟨o,es,ep,e,d,r⟩=>⟨o,es,ep,base_of e (noA e d),d,r⟩
  have hKb:K.In (oH s₁.heap H):=fun b o e=>base_of (KX b o e) (by
   cases q:H b with
   | none=>rfl
   | some u=>
    have e':b=a:=hA b (by rw [q]; simp)
    subst e'
    rw [hK (by rw [q]; simp)] at e; cases e)
  have hM:Mod K mg (oH s₁.heap H):=⟨hKb,nsK hns,⟨mb,nsK hb,hbb⟩,let ⟨mc,h1,h2⟩:=hlim; ⟨mc,nsK h1,h2⟩⟩
  have e0:tT P w K mg (oH s₁.heap H) callerA [] s₁ H:=⟨rfl,hM,fun b o e=>HQ e,Ol (D0 _ _),trivial,fun b hb=>absurd (show b∈([]:List Addr) from hb) (by simp),hok,.of_eq hg⟩
  refine Om ((F _ hKb (nsK hns)).run callerA [] s₁ H ⟨[.ref a],[]⟩ [.ref a] [.ref a] _ _ hr e0 (hbind s₁ (.ref a)) (.cons rfl .nil) (hsp H hO hS)) fun r s' h=>?_
  cases r with
  | error e=>exact (hCX H e s' h).elim
  | ok fl=>
   cases fl with
   | next=>exact Nm h
   | brk=>exact Nm h
   | cont=>exact Nm h
   | ret u=>
    obtain ⟨v,H',os,bare,un,hok',r',q⟩:=h
    have q':v=.bl true:=q
    subst q'
    obtain rfl:u=ML true:=r'
    refine ⟨rfl,OldK.of_keep fun b o e=>?_,os,bare⟩
    cases q:H b with
    | none=>exact un.keep b o e q (by intro z; exact absurd (show b∈([]:List Addr) from z) (by simp)) (by simp)
    | some u=>
     rcases hO b with z | ⟨ob,xs,z⟩
     ·rw [q] at z; cases z
     ·have z2:=un.frzs b ob _ z
      obtain ⟨e1,_⟩:=hok b _ z
      obtain ⟨e2,_⟩:=hok' b _ z2
      rw [e] at e1; cases e1
      exact e2
 cases hk:K.lookup a with
 | some o=>
  have e:=KX a o hk
  rw [ha] at e
  cases e
  refine core (fun _=>none) (fun _=>.inl rfl) (.inr ⟨_,vs.toArray,_,hk,rfl,rfl,rfl,by rw [LK,lenV]; exact hl,by simpa using rv⟩) (fun b u z=>by have z':(none:Option HO)=some u:=z; cases z') (fun b z=>absurd rfl z) fun z=>absurd rfl z
 | none=>
  refine core (fun b=>if b=a then some (.frz { cls:=.type "list",data:=.seq vs.toArray } (.lst (ns.map V.int))) else none) (fun b=>?_) (.inl (.inr ⟨{ cls:=.type "list",data:=.seq vs.toArray },if_pos rfl⟩)) (fun b u z=>?_) (fun b z=>?_) fun _=>hk
  ·by_cases hb:b=a
   ·exact .inr ⟨_,_,if_pos hb⟩
   ·exact .inl (if_neg hb)
  ·by_cases hb:b=a
   ·have z':=(if_pos hb).symm.trans z
    cases z'
    subst hb
    exact ⟨ha,by rw [Lp]; exact hl,vs,_,rv,ha⟩
   ·have z':=(if_neg hb).symm.trans z
    cases z'
  ·by_cases hb:b=a
   ·exact hb
   ·exact absurd (if_neg hb) z
end L2
namespace L2
open PySem PySem.Spec PyProof.Rows
end L2
namespace L2
open PySem PySem.Spec PyProof.Rows
noncomputable def gY (s:Stmt) (j:Nat):Stmt:=match s with
 | .ClassDef _ _ _ body _ _ _ _ _ _ _=>body.getD j (.Pass ⟨0,0,0,0⟩)
 | _=>.Pass ⟨0,0,0,0⟩
noncomputable def jY (s:Stmt):Arguments:=match s with
 | .FunctionDef _ a _ _ _ _ _ _ _ _=>a
 | _=>{ posonlyargs:=[],args:=[],vararg:=none,kwonlyargs:=[],kw_defaults:=[],kwarg:=none,defaults:=[] }
noncomputable def fF (s:Stmt):List Stmt:=match s with
 | .FunctionDef _ _ b _ _ _ _ _ _ _=>b
 | _=>[]
noncomputable def ae (s:Stmt):Scope:=match s with
 | .FunctionDef _ _ _ _ _ _ sc _ _ _=>sc
 | _=>{ kind:=.function,names:=[],isGenerator:=false,isCoroutine:=false }
noncomputable abbrev CX0:CXT:=fun _ _ _ _ _ _=>False
noncomputable abbrev E0:XK:=fun _ _ _=>False
theorem yP {X:Cx}:lP CX0 X E0:=fun _ _ _ _ _ _ _ h=>h.elim
structure Fun (K:Fg) (x qual:Str) (st:Stmt) (f:Addr) (fd:LL):Prop where
 ex:∃ (oc:Value) (od:Option Addr) (kV doc pm:Value) (an:Option Addr) (cdv ct:Value) (osl:Array (Option Value)),
  fd=O6 x qual (jY st) (fF st) (ae st) .none kV doc pm an cdv ct/\K.lookup f=some ⟨oc,od,.func fd,osl⟩/\RN K cdv qual=true
 kp:OM K (.ref f)=true
section
variable {P:Program} {w:World} {K:Fg} {mg:Str->Option Value} {base:Heap}
theorem Fun.ok {x qual:Str} {st:Stmt} {f:Addr} {fd:LL} {N ps:List Str} {k:Nat} {sp:Sp} (F:Fun K x qual st f fd) (S:aE N ps (ae st)) (len:∀ vs H Q E,sp vs H Q E->vs.length=ps.length)
  (hbody:∀ (cdv:Value) (A:Around) (outer:List Env) (s:Shared) (H:Hp) (vs:List V) (Q:VK) (E:XK),bQ k (A.deeper (envOfC qual (ae st) s.heap.objs.size f cdv))->sp vs H Q E->
   ∃ t,PSs (oM CX0 P w K mg base N qual (ae st) f cdv A outer s H E).nox (fF st) t/\t { nx:=fun _ H'=>Q .non H',rt:=Q } (start N vs) H):cH P w K mg base CX0 (k + 1) f fd ps sp:=by
 obtain ⟨oc,od,kV,doc,pm,an,cdv,ct,osl,rfl,lk,hcd⟩:=F.ex
 refine Kt lk hcd S len fun A outer s H vs Q E hr hsp=>?_
 obtain ⟨t,h,q⟩:=hbody cdv A outer s H vs Q E hr hsp
 exact ⟨t,h.nox,q⟩
theorem Fun.binds {x qual:Str} {st:Stmt} {f:Addr} {fd:LL} {ps:List Str} (F:Fun K x qual st f fd)
  (h:∀ (kV doc pm:Value) (an:Option Addr) (cdv ct:Value) (us:List Value),us.length=ps.length->bindArgs (O6 x qual (jY st) (fF st) (ae st) .none kV doc pm an cdv ct) ⟨us,[]⟩=pure (ps.zip us)):fB K fd ps []:=by
 obtain ⟨oc,od,kV,doc,pm,an,cdv,ct,osl,rfl,lk,hcd⟩:=F.ex
 exact .all (h kV doc pm an cdv ct)
theorem Ew {x qual:Str} {st:Stmt} {f:Addr} {oc:Value} {od an:Option Addr} {osl:Array (Option Value)} {kV doc pm cdv ct:Value} (l:K.lookup f=some ⟨oc,od,.func (O6 x qual (jY st) (fF st) (ae st) .none kV doc pm an cdv ct),osl⟩)
  (c:RN K cdv qual=true) (k:OM K (.ref f)=true):Fun K x qual st f (O6 x qual (jY st) (fF st) (ae st) .none kV doc pm an cdv ct):=⟨⟨oc,od,kV,doc,pm,an,cdv,ct,osl,rfl,l,c⟩,k⟩
end
theorem Ex {n:Nat} (h:n<=1000):n < Lz:=OA h (by decide)
section
variable {X:Cx}
theorem pv (i:Nat) {x:Str} {pos:Pos} (hN:X.N[i]?=some x:=by rfl) (hv:Vis X.env.scope x:=by first | exact Ly rfl | exact Pt (Ly rfl) | exact Pt (Pt rfl)) (hd:(x == ("__debug__":Str))=false:=by decide)
  (hcd:(x == ("__classdict__":Str))=false:=by decide):PE X (.Name x pos) (ac i):=Ea hN hv hd hcd
end
theorem oO {A B:Prop} (h:B):if false=true then A else B:=by
 rw [if_neg LB]
 exact h
theorem qH {A B:Prop} (h:A):if true=true then A else B:=by
 rw [if_pos rfl]
 exact h
noncomputable def ap (H H':Hp):Prop:=∀ b o,H b=some o->H' b=some o
theorem ap.refl (H:Hp):ap H H:=fun _ _ h=>h
theorem ap.trans {H H1 H2:Hp} (a:ap H H1) (b:ap H1 H2):ap H H2:=fun c o h=>b c o (a c o h)
theorem ap.free {H H':Hp} (e:ap H H') {l:Addr} (h:H' l=Option.none):H l=Option.none:=by
 cases q:H l with
 | none=>rfl
 | some o=>
  rw [e l o q] at h
  cases h
theorem ap.seq {K:Fg} {H H':Hp} {a:Addr} {xs:List V} (e:ap H H') (h:SqL K H a xs):SqL K H' a xs:=by
 rcases h with (h | ⟨o,h⟩) | h
 ·exact .inl (.inl (e _ _ h))
 ·exact .inl (.inr ⟨o,e _ _ h⟩)
 ·exact .inr h
end L2
end
namespace L2
open PySem PyProof.Rows
section
open PySem.Spec
theorem kS {a b:Addr} {n:Nat} (h:a < n) (h':n<=b):a≠b:=L9 (LN h h')
theorem JD {a b:Addr} {n:Nat} (h:n<=a) (h':b < n):a≠b:=Nc (LN h' h)
noncomputable def dg (env:Env):List (Str×Ml)->List (Str×Addr)->List (Str×Addr)
 | [],acc=>acc
 | (n,k) :: r,acc=>if k=.free then (match env.cells.lookup n with | some c=>dg env r ((n,c) :: acc) | none=>dg env r acc) else dg env r acc
theorem lx {env:Env}:∀ (ns:List (Str×Ml)) (acc:List (Str×Addr)),(∀ p∈acc,env.cells.lookup p.1=some p.2)->∀ p∈dg env ns acc,env.cells.lookup p.1=some p.2
 | [],acc,h=>by intro p hp; exact h p hp
 | (n,k) :: r,acc,h=>by
  intro p hp
  rw [dg] at hp
  split at hp
  ·split at hp
   ·rename_i c hc
    refine lx r _ (fun q hq=>?_) p hp
    rcases Lq.mp hq with rfl | hq
    ·exact hc
    ·exact h q hq
   ·exact lx r acc h p hp
  ·exact lx r acc h p hp
theorem oP {env:Env}:∀ (ns:List (Str×Ml)) (acc:List (Str×Addr)),∀ p∈acc,p∈dg env ns acc
 | [],acc=>fun p hp=>hp
 | (n,k) :: r,acc=>fun p hp=>by
  rw [dg]
  split
  ·split
   ·exact oP r _ p (LC _ hp)
   ·exact oP r acc p hp
  ·exact oP r acc p hp
theorem oQ {env:Env}:∀ (ns:List (Str×Ml)) (acc:List (Str×Addr)) (x:Str) (c:Addr),(x,MS)∈ns->env.cells.lookup x=some c->(x,c)∈dg env ns acc
 | [],acc,x,c=>fun h _=>(nomatch h)
 | (n,k) :: r,acc,x,c=>fun h hc=>by
  rw [dg]
  rcases Lq.mp h with e | h
  ·cases e
   rw [if_pos rfl,hc]
   exact oP r _ _ Lu
  ·split
   ·split
    ·exact oQ r _ x c h hc
    ·exact oQ r acc x c h hc
   ·exact oQ r acc x c h hc
theorem pU {α:Type} {x:Str} {c:α}:∀ {l:List (Str×α)},(x,c)∈l->∃ d,l.lookup x=some d
 | (y,d) :: r,h=>by
  rw [Mo]
  cases e:x == y with
  | true=>exact ⟨d,rfl⟩
  | false=>
   rcases Lq.mp h with q | q
   ·cases q
    rw [beq_self_eq_true] at e
    cases e
   ·exact pU q
theorem b7 {env:Env} {ns:List (Str×Ml)} {x:Str} {c:Addr} (h:(dg env ns []).lookup x=some c):env.cells.lookup x=some c:=
 lx ns [] (fun _ hp=>(nomatch hp)) (x,c) (Mg h)
theorem mN {env:Env} {ns:List (Str×Ml)} {x:Str} {c:Addr} (hm:(x,MS)∈ns) (hc:env.cells.lookup x=some c):(dg env ns []).lookup x=some c:=by
 obtain ⟨d,hd⟩:=pU (oQ ns [] x c hm hc)
 have e:=b7 hd
 rw [hc] at e
 cases e
 exact hd
theorem oR {scope:Scope} {env:Env} (h:∀ y∈scope.names,y.2=.free->∃ c,env.cells.lookup y.1=some c):QV scope env=pure (dg env scope.names []):=by
 have go:∀ (ns:List (Str×Ml)) (acc:List (Str×Addr)),(∀ y∈ns,y.2=.free->∃ c,env.cells.lookup y.1=some c)->
   (forIn ns acc fun (x:Str×Ml) (cs:List (Str×Addr))=>(match x with
    | (name,kind)=>if (kind == MS)=true then (do let c <-cellOf env name; pure (OB ((name,c) :: cs))) else pure (OB cs):Sem (ForInStep (List (Str×Addr)))))=(pure (dg env ns acc):Sem (List (Str×Addr))):=by
  intro ns
  induction ns with
  | nil=>intro acc _; rfl
  | cons y r ih=>
   intro acc hy
   obtain ⟨n,k⟩:=y
   have ih':=fun acc=>ih acc fun z hz=>hy z (LC _ hz)
   rw [O2,dg]
   by_cases hk:k=.free
   ·subst hk
    obtain ⟨c,hc⟩:=hy (n,.free) Lu rfl
    have hc':env.cells.lookup n=some c:=hc
    simp only [beq_self_eq_true,if_true,cellOf,hc',pure_bind]
    exact ih' _
   ·have hb:(k == MS)=false:=by simpa using hk
    simp only [hb,MB,if_false,pure_bind,if_neg hk]
    exact ih' _
 unfold QV
 have g:=go scope.names [] h
 simp only [bind_pure]
 exact g
structure qI (sc scope:Scope) (NX N:List Str) (ix:List (Option Nat)):Prop where
 kind:scope.kind=.function
 nocell:∀ y∈scope.names,y.2≠.cell
 names:∀ y∈scope.names,y.2=.local->scope.names.lookup y.1=some .local
 free:∀ y∈scope.names,y.2=.free->sc.names.lookup y.1=some .cell\/sc.names.lookup y.1=some .free
 nd:N.Nodup
 len:ix.length=N.length
 at_:∀ p∈N.zip ix,∀ i∈p.2,NX[i]?=some p.1/\scope.names.lookup p.1=some .free
noncomputable def sub (ix:List (Option Nat)) (σ:St):St:=ix.map fun o=>match o with | some i=>(match σ[i]? with | some v=>v | none=>none) | none=>none
noncomputable def cC (X:Cx) (N:List Str) (scope:Scope) (C:Addr) (s:Shared) (H:Hp) (fp:List Addr):Cx where
 prog:=X.prog
 w:=X.w
 K:=X.K
 mg:=X.mg
 base:=X.base
 A:=X.A
 N:=N
 s₀:=s
 H₀:=H
 env:=PB scope (dg X.env scope.names []) C X.env
 outer:=X.stack
 stack:=X.stack
 ex:=fp
 fn:=fun _=>false
 calm:=X.calm
 pn:=[]
 xe:=fun _ _=>False
theorem ji {scope:Scope} {env:Env} {x:Str} {k:Ml} (h:(relabel scope env).names.lookup x=some k):scope.names.lookup x=some k\/(k=.cell/\scope.names.lookup x=some .free):=by
 have go:∀ ns:List (Str×Ml),(ns.map fun (n,k)=>if (k == MS && env.scope.kind == .function && env.kindOf n == some .cell) then (n,OW) else (n,k)).lookup x=some k->
   ns.lookup x=some k\/(k=.cell/\ns.lookup x=some .free):=by
  intro ns
  induction ns with
  | nil=>intro q; simp at q
  | cons y r ih=>
   obtain ⟨n,k'⟩:=y
   intro q
   rw [LI] at q
   by_cases hc:(k' == MS && env.scope.kind == .function && env.kindOf n == some .cell)=true
   ·simp only [hc,if_true] at q
    have hk':k'=.free:=by
     have:=(MY _ _ ▸ hc)
     have h1:=(MY _ _ ▸ this.1)
     exact eq_of_beq h1.1
    subst hk'
    rw [Mo] at q ⊢
    cases e:x == n with
    | true=>
     rw [e] at q
     cases q
     exact .inr ⟨rfl,rfl⟩
    | false=>
     rw [e] at q
     exact ih q
   ·simp only [hc] at q
    rw [if_neg (by simp)] at q
    rw [Mo] at q ⊢
    cases e:x == n with
    | true=>rw [e] at q; exact .inl q
    | false=>rw [e] at q; exact ih q
 exact go scope.names h
theorem qJ {scope:Scope} {env:Env} {x:Str} (h:scope.names.lookup x=some .free):(relabel scope env).names.lookup x=some .cell\/(relabel scope env).names.lookup x=some .free:=by
 have go:∀ ns:List (Str×Ml),ns.lookup x=some .free->
   (ns.map fun (n,k)=>if (k == MS && env.scope.kind == .function && env.kindOf n == some .cell) then (n,OW) else (n,k)).lookup x=some .cell\/
   (ns.map fun (n,k)=>if (k == MS && env.scope.kind == .function && env.kindOf n == some .cell) then (n,OW) else (n,k)).lookup x=some .free:=by
  intro ns
  induction ns with
  | nil=>intro q; simp at q
  | cons y r ih=>
   obtain ⟨n,k'⟩:=y
   intro q
   rw [LI]
   rw [Mo] at q
   cases e:x == n with
   | true=>
    rw [e] at q
    cases q
    by_cases hc:(MS == MS && env.scope.kind == .function && env.kindOf n == some .cell)=true
    ·simp only [hc,if_true]
     rw [Mo,e]
     exact .inl rfl
    ·simp only [hc]
     rw [if_neg (by simp),Mo,e]
     exact .inr rfl
   | false=>
    rw [e] at q
    have z:=ih q
    by_cases hc:(k' == MS && env.scope.kind == .function && env.kindOf n == some .cell)=true
    ·simp only [hc,if_true]
     rw [Mo,e]
     exact z
    ·simp only [hc]
     rw [if_neg (by simp),Mo,e]
     exact z
 exact go scope.names h
theorem Inv.gone {X:Cx} {pins:List (Addr×Obj)} {σ σ₂:St} {H H₂:Hp} {s s₂:Shared} {C:Addr} {h'':Heap} (I:Inv X pins σ H s) (I2:Inv X pins σ₂ H₂ s₂) (hC:s₂.heap.objs.size<=C) (hn:H C=none) (hs:LM C s.heap h''):Inv X pins σ H { s with heap:=h'' }:=
 I.turned (t':=s.toks) (it:=C) (fun b o hb e=>hs.extBut b o hb e) hn (Nc (LN I2.lt hC)) (.inr (L8 I2.sz hC))
  (fun x c e=>by
   obtain ⟨v,o,ho,_⟩:=I2.cell x c e
   exact kS (Lv ho) hC) fun q hq=>kS (Lv (I2.pin q hq).1) hC
noncomputable def PTL (X:Cx) (ifs:List Expr) (t:TT):Prop:=
 ∀ (pins:List (Addr×Obj)) (s:Shared) (σ:St) (H:Hp) (Q:Bool->Hp->Prop),Inv X pins σ H s->t σ H Q->
  wpAny (model X.prog X.w) X.A (forIn ifs true fun c r=>if r=true then do let ok <-isTrue c X.env (eval c X.env); pure (OB ok) else pure (OB r)) (TP X pins σ Q) X.xe s
noncomputable def bM:TT:=fun _ H Q=>Q true H
theorem bV {X:Cx}:PTL X [] bM:=fun _ _ _ H _ I h=>wpAny_tests_nil ⟨H,I,h⟩
theorem rW {X:Cx} {c:Expr} {t:TT} (h:PT X c t):PTL X [c] t:=fun pins s σ H Q I q=>wpAny_tests_one (h pins s σ H Q I q)
noncomputable def cB (J:It) (g:TG) (tt:TT) (te:TE) (σ₀:St) (p:Addr) (Q:VK) (W:Nat->Nat->List V->Hp->Prop):Prop:=
 ∀ i m acc H,W i m acc H->H p=some (.lst acc)/\
  ((J.stop i H/\Q (.ref p) H)\/(J.go i H/\acc.length < Lz/\∃ N:List V->Hp->Prop,(∀ acc' H',N acc' H'->∃ m',m' < m/\W (i + 1) m' acc' H')/\
   ∀ x H1,J.yld i H x H1->g x σ₀ H1 fun σ2 H2=>tt σ2 H2 fun b H3=>if b=true then te σ2 H3 fun y H4=>H4 p=some (.lst acc)/\N (acc++[y]) (upd H4 p (.lst (acc++[y]))) else N acc H3))
noncomputable abbrev CF (α:Type):=Addr->Shared->Hp->List Addr->α
noncomputable def bW (wi:TI) (g:CF TG) (tt:CF TT) (te:CF TE) (ix:List (Option Nat)):TE:=fun σ H Q=>wi σ H fun J H1=>∀ p,H1 p=none->
 ∃ W:Nat->Nat->List V->Hp->Prop,(∃ m,W 0 m [] (upd H1 p (.lst [])))/\∀ C s' H' fp,cB J (g C s' H' fp) (tt C s' H' fp) (te C s' H' fp) (sub ix σ) p Q W
section
variable {X:Cx} {elt tg iter:Expr} {ifs:List Expr} {scope sc:Scope} {pos:Pos} {NX N:List Str} {ix:List (Option Nat)} {wi:TI} {g:CF TG} {tt:CF TT} {te:CF TE}
theorem xB {prog:Program} {w:World} {A:Around} {R:Result->Shared->Prop} {s:Shared} {it acc:Value} {env:Env} (I:Nat->Shared->Prop)
  (turn:∀ n s,I n s->wpAny (model prog w) A (pyNext it) (fun r s₁=>match r with
   | none=>R (.ok .next) s₁
   | some v=>wpAny (model prog w) A (PP tg it v) (fun _ s₁'=>wpAny (model prog w) A (assign tg env v) (fun _ s₂=>
     wpAny (model prog w) A (forIn ifs true fun c r=>if r=true then do let ok <-isTrue c env (eval c env); pure (OB ok) else pure (OB r)) (fun ok s₃=>
      if ok=true then wpAny (model prog w) A (eval elt env) (fun x s₄=>
       wpAny (model prog w) A (call (.builtin "list.append") [acc,x]) (fun _ s₅=>∃ m,m < n/\I m s₅) (fun _ _=>False) s₄) (fun _ _=>False) s₃
      else ∃ m,m < n/\I m s₃) (fun _ _=>False) s₂) (fun _ _=>False) s₁') (fun _ _=>False) s₁) (fun _ _=>False) s)
  (n:Nat) (h:I n s):codeAny (model prog w) A (.compLoop (.ListComp elt [⟨tg,iter,ifs,0⟩] scope pos) 0 it acc env) R s:=by
 refine codeAny_loop rfl I (fun n s hI=>?_) n h
 show wpAny _ A ((compTurn (.ListComp elt [⟨tg,iter,ifs,0⟩] scope pos) 0 it acc env).onRaise (fun x=>do noteFrame x env; theTreesLotGoes x)) _ _ s
 refine wpAny_noted ?_
 rw [compTurn_list]
 refine Lk (QA (Lk (M1 (turn n s hI) (fun r s₁ h₁=>?_) fun _ _ z=>z.elim)))
 cases r with
 | none=>exact Lm h₁
 | some v=>
  refine Lk (M1 h₁ (fun _ s₁' h₁'=>?_) fun _ _ z=>z.elim)
  refine Lk (M1 h₁' (fun _ s₂ h₂=>Lk (M1 h₂ (fun ok s₃ h₃=>?_) fun _ _ z=>z.elim)) fun _ _ z=>z.elim)
  cases ok with
  | false=>exact Lm ⟨rfl,h₃⟩
  | true=>exact Lk (Lk (M1 h₃ (fun x s₄ h₄=>Lk (M1 h₄ (fun _ s₅ h₅=>Lm (Lm ⟨rfl,h₅⟩)) fun _ _ z=>z.elim)) fun _ _ z=>z.elim))
theorem uK {pins:List (Addr×Obj)} {σ:St} {H:Hp} {s:Shared} {fp:List Addr} {it:Addr} {J:It} {tn:Nat->Heap->Prop} {Q:VK} {E:Value->Shared->Prop} {RR:Value->Addr->Result->Shared->Prop}
  (hc:X.calm=true) (hsc:X.env.scope=sc) (hNX:X.N=NX) (S:qI sc scope NX N ix)
  (hg:∀ C s H fp,PG (cC X N scope C s H fp) tg (g C s H fp)) (ht:∀ C s H fp,PTL (cC X N scope C s H fp) ifs (tt C s H fp)) (he:∀ C s H fp,PE (cC X N scope C s H fp) elt (te C s H fp))
  (I:Inv X pins σ H s) (T:qC X.prog X.w X.K tg J fp it tn) (st:tn 0 s.heap) (hf:∀ b∈fp,jh X pins H b)
  (hq:∀ p,H p=none->∃ W:Nat->Nat->List V->Hp->Prop,(∃ m,W 0 m [] (upd H p (.lst [])))/\∀ C s' H' fp,cB J (g C s' H' fp) (tt C s' H' fp) (te C s' H' fp) (sub ix σ) p Q W)
  (hR:∀ p C s' H' m,s.heap.objs.size<=p->s.heap.objs.size<=C->s'.heap.Ns C m->H' C=none->Q (.ref p) H'->Inv X pins σ H' s'->RR (.ref p) C (.ok .next) s'):
  wpAny (model X.prog X.w) X.A (newList []) (fun acc s₃=>wpAny (model X.prog X.w) X.A (Qh scope X.env.globals (dg X.env scope.names []) [] X.env.qual none .none (some X.env)) (fun cenv s₄=>
   codeAny (model X.prog X.w) X.A (.compStart (.ListComp elt [⟨tg,iter,ifs,0⟩] scope pos) 0 (.ref it) acc { cenv with scope:=relabel scope X.env }) (RR acc cenv.locals) s₄) E s₃) E s:=by
 refine Mx (wpAny_newFunctionEnv S.nocell (by intro y hy; simp at hy) (fun h₁ hns₁ hsb₁=>?_) S.kind)
 dsimp only at hns₁ hsb₁ ⊢
 have hsz:(s.heap.push { cls:=.type "list",dict:=none,data:=.seq ([]:List Value).toArray }).objs.size=s.heap.objs.size + 1:=Md ..
 generalize hC:(s.heap.push { cls:=.type "list",dict:=none,data:=.seq ([]:List Value).toArray }).objs.size=C at hns₁ hsb₁ ⊢
 rw [hsz] at hC
 generalize hp:s.heap.objs.size=p at hC
 have pC:p≠C:=by omega
 have old:∀ b o,s.heap.get? b=some o->h₁.get? b=some o:=fun b o e=>hsb₁.extBut b o (kS (Lv e) (by omega)) (Ll _ (Ll _ e))
 have hnew:h₁.get? p=some { cls:=.type "list",data:=.seq ([]:List Value).toArray }:=hsb₁.extBut _ _ pC (Ll _ (by rw [<-hp]; exact Lx _ rfl))
 have hfp:H p=none:=I.hok.fresh (by omega)
 have hfC:H C=none:=I.hok.fresh (by omega)
 have lt:∀ b∈fp,b < p:=fun b hb=>by
  obtain ⟨o,e,_⟩:=T.obj 0 _ st b hb
  rw [<-hp]
  exact Lv e
 have hcells:∀ y∈scope.names,y.2=.free->∃ c,X.env.cells.lookup y.1=some c:=fun y hy hk=>by
  refine I.ok.has y.1 ?_
  show X.env.scope.names.lookup y.1=some .cell\/X.env.scope.names.lookup y.1=some .free
  rw [hsc]
  exact S.free y hy hk
 have noown:∀ x,scope.names.lookup x≠some .cell:=fun x e=>S.nocell _ (Mg e) rfl
 have hok:(cC X N scope C s H fp).Ok:=by
  refine ⟨I.ok.mod,S.kind,I.ok.glob,I.ok.blt,by show s.heap.objs.size<=C; omega,fun x y c h1 h2=>I.ok.inj x y c (b7 h1) (b7 h2),fun x hx=>?_,fun x c z=>(by cases z),I.ok.hd,I.ok.frames,.inl rfl,fun b hb=>?_,I.bs,L8 I.ok.bsz I.sz,fun b o e hb=>?_,fun b hb z=>?_,I.stack,I.stkFree⟩
  ·have hx':scope.names.lookup x=some .free:=by
    rcases hx with hx | hx
    ·rcases ji hx with q | q
     ·exact absurd q (noown x)
     ·exact q.2
    ·rcases ji hx with q | q
     ·exact q
     ·exact q.2
   obtain ⟨c,hc'⟩:=hcells _ (Mg hx') rfl
   exact ⟨c,mN (Mg hx') hc'⟩
  ·refine ⟨?_,fun x c e=>(hf b hb).2.2.2.2.1 x c (b7 e)⟩
   show b≠C
   exact kS (lt b hb) (by omega)
  ·rcases (hf b hb).2.2.2.1 with z | z
   ·exact I.ok.noex b o e z
   ·exact absurd (LN (Lv e) (L8 I.ok.bsz z)) (M5 _)
  ·rcases Lq.mp (I.stkSub b z) with q | q
   ·exact (hf b hb).2.1 q
   ·exact (hf b hb).2.2.1 q
 have locs:∀ h':Heap,(∀ x c o,X.env.cells.lookup x=some c->s.heap.get? c=some o->∃ sl,h'.get? c=some { o with slots:=sl })->
   ∀ (i:Nat) (x:Str) (v:V),N[i]?=some x->(sub ix σ)[i]?=some (some v)->∃ u,aK v u/\∀ m,FH (PB scope (dg X.env scope.names []) C X.env) h' m x u:=by
  intro h' hk i x v h1 h2
  obtain ⟨k,hk',hv⟩:∃ k,ix[i]?=some (some k)/\σ[k]?=some (some v):=by
   unfold sub at h2
   rw [LD] at h2
   cases e:ix[i]? with
   | none=>rw [e] at h2; cases h2
   | some o=>
    rw [e] at h2
    cases o with
    | none=>cases h2
    | some k=>
     refine ⟨k,rfl,?_⟩
     have h2':(match σ[k]? with | some v=>v | none=>none)=some v:=LF h2
     cases e2:σ[k]? with
     | none=>rw [e2] at h2'; cases h2'
     | some z=>
      rw [e2] at h2'
      rw [show z=some v from h2']
  have hm:(x,some k)∈N.zip ix:=by
   refine LA (i:=i) ?_
   rw [O3]
   exact ⟨h1,hk'⟩
  obtain ⟨a1,a2⟩:=S.at_ _ hm k (by simp)
  have hX:=S.free _ (Mg a2) rfl
  have hvis:Vis X.env.scope x:=by
   show _\/_\/_
   rw [hsc]
   exact .inr hX
  obtain ⟨m,hn,hl⟩:=I.loc
  obtain ⟨u,r,l⟩:=hl k x v (by rw [hNX]; exact a1) hv hvis
  refine ⟨u,r,fun m'=>.inr ⟨qJ a2,?_⟩⟩
  rcases l with ⟨l,_⟩ | ⟨_,c,e,z⟩
  ·have l':X.env.scope.names.lookup x=some .local:=l
   rw [hsc] at l'
   rcases hX with q | q <;> (rw [q] at l'; cases l')
  ·obtain ⟨o,ho,hd⟩:=z
   obtain ⟨sl,e'⟩:=hk x c o e ho
   exact ⟨c,mN (Mg a2) e,_,e',hd⟩
 have hlen:(sub ix σ).length=N.length:=by
  unfold sub
  rw [Lp]
  exact S.len
 have I1:Inv (cC X N scope C s H fp) [] (sub ix σ) (upd H p (.lst [])) { s with heap:=h₁,toks:=s.toks + ([]:List (Str×Value)).length }:=by
  refine ⟨hok,rfl,I.bare,Un.laid old (Ol hp) hfp,⟨_,hns₁,fun i x v h1 h2 h3=>?_⟩,fun x c e=>?_,?_,fun x c e=>?_,fun q hq=>(nomatch hq),I.hok.laid old (Ol hp) ⟨Mv _,[],0,.nil,hnew⟩,hlen⟩
  ·obtain ⟨u,r,l⟩:=locs h₁ (fun y c o _ ho=>⟨o.slots,old c o ho⟩) i x v h1 h2
   exact ⟨u,r,l _⟩
  ·obtain ⟨v,o,ho,hd⟩:=I.cell x c (b7 e)
   exact ⟨v,o,old c o ho,hd⟩
  ·show upd H p _ C=none
   rw [aO (MR pC)]
   exact hfC
  ·have e':=b7 e
   obtain ⟨v,o,ho,hd⟩:=I.cell x c e'
   rw [aO (kS (Lv ho) (Ol hp))]
   exact I.freeC x c e'
 have back:∀ {pl:List (Addr×Obj)} {σ':St} {H':Hp} {s':Shared},Inv (cC X N scope C s H fp) pl σ' H' s'->Inv (cC X N scope C s H fp) pl (sub ix σ) H' s':=fun {pl σ' H' s'} J=>by
  obtain ⟨m,hn,_⟩:=J.loc
  refine ⟨J.ok,J.os,J.bare,J.base,⟨m,hn,fun i x v h1 h2 h3=>?_⟩,J.cell,J.free,J.freeC,J.pin,J.hok,hlen⟩
  obtain ⟨u,r,l⟩:=locs s'.heap (fun y c o hc' ho=>J.base.any ho (I.freeC y c hc') fun hb=>(hf c hb).2.2.2.2.1 y c hc' rfl) i x v h1 h2
  exact ⟨u,r,l _⟩
 obtain ⟨W,⟨m0,w0⟩,turn⟩:=hq p hfp
 have st1:tn 0 h₁:=T.keep 0 _ _ st fun b _ o e=>old b o e
 have fp1:∀ {H':Hp},(∀ b∈fp,H' b=none)->∀ b∈fp,jh (cC X N scope C s H fp) [] H' b:=fun {H'} hn b hb=>
  ⟨hn b hb,(hok.exf b hb).1,hok.exfs b hb,.inl hb,(hok.exf b hb).2,fun q hq=>(nomatch hq)⟩
 have loop:codeAny (model X.prog X.w) X.A (.compLoop (.ListComp elt [⟨tg,iter,ifs,0⟩] scope pos) 0 (.ref it) (.ref p) (PB scope (dg X.env scope.names []) C X.env)) (RR (.ref p) C) { s with heap:=h₁,toks:=s.toks + ([]:List (Str×Value)).length }:=by
  refine xB (fun n s'=>∃ i acc H',Inv (cC X N scope C s H fp) [] (sub ix σ) H' s'/\tn i s'.heap/\(∀ b∈fp,H' b=none)/\W i n acc H') ?_ m0
   ⟨0,[],_,I1,st1,fun b hb=>by rw [aO (kS (lt b hb) (Lr _))]; exact (hf b hb).1,w0⟩
  rintro n s3 ⟨i,acc,H3,I3,st3,fr3,w3⟩
  obtain ⟨hacc,w4⟩:=turn C s H fp i n acc H3 w3
  rcases w4 with ⟨stop,qn⟩ | ⟨go,hln,N',hN',step⟩
  ·refine thn (T.done (cC X N scope C s H fp) rfl rfl rfl hc i [] s3 _ H3 (fun _ _=>False) I3 (fp1 fr3) st3 stop) fun r s4 ⟨hr,I4⟩=>?_
   subst hr
   obtain ⟨m,hn,_⟩:=I4.loc
   refine hR p C s4 H3 m (by omega) (by omega) hn I4.free qn ?_
   exact I.call' I4.os I4.base I4.hok I4.bare fun b hb=>⟨(hf b hb).2.2.2.1,(hf b hb).2.1,(hf b hb).2.2.2.2.1,(hf b hb).2.2.2.2.2⟩
  ·refine thn (T.item (cC X N scope C s H fp) rfl rfl rfl hc i [] s3 _ H3 (fun _ _=>False) I3 (fp1 fr3) st3 go) fun r s4 ⟨u,hr,h4⟩=>?_
   subst hr
   refine thn h4 fun _ s5 ⟨x,H5,I5,r5,y5,st5,fr5⟩=>?_
   have I5':=I5.pinned (fp1 fr5) (T.obj _ _ st5)
   refine thn (hg C s H fp _ s5 _ H5 x u _ I5' r5 (step x H5 y5)) fun _ s6 ⟨σ6,H6,I6,q6⟩=>?_
   have later:∀ {s7:Shared} {H7:Hp} {acc':List V} {σ7:St},Inv (cC X N scope C s H fp) ([]++nP fp s5.heap) σ7 H7 s7->(∃ m',m' < n/\W (i + 1) m' acc' H7)->
     ∃ m,m < n/\∃ i acc H',Inv (cC X N scope C s H fp) [] (sub ix σ) H' s7/\tn i s7.heap/\(∀ b∈fp,H' b=none)/\W i m acc H':=fun {s7 H7 acc' σ7} I7 ⟨m',hm,w7⟩=>by
    refine ⟨m',hm,i + 1,acc',H7,back (I7.unpinned (pins:=[])),T.keep _ _ _ st5 fun b hb o e=>(I7.pin (b,o) (L7 _ (L7 _ (gU hb e)))).1,fun b hb=>?_,w7⟩
    obtain ⟨o,e,d⟩:=T.obj _ _ st5 b hb
    exact (I7.pin (b,o) (L7 _ (L7 _ (gU hb e)))).2.1
   refine thn (ht C s H fp _ s6 σ6 H6 _ I6 q6) fun ok s7 ⟨H7,I7,q7⟩=>?_
   cases ok with
   | false=>exact later I7 (hN' _ _ q7)
   | true=>
    refine thn (he C s H fp _ s7 σ6 H7 _ I7 q7) fun y s8 ⟨v8,H8,I8,r8,hacc8,w8⟩=>?_
    refine thn (fc (X:=cC X N scope C s H fp) _ s8 σ6 H8 (.ref p) [v8] (.ref p) [y] (fun _ H9=>H9=upd H8 p (.lst (acc++[v8]))) I8 rfl (.cons r8 .nil) ⟨p,acc,v8,rfl,rfl,hacc8,hln,rfl⟩) fun _ s9 ⟨_,H9,I9,_,e9⟩=>?_
    subst e9
    exact later I9 (hN' _ _ w8)
 exact RE loop (T.self _ 0 _ _ _ st1 loop)
theorem bP (hc:X.calm=true) (S:qI sc scope NX N ix) (hi:PI X tg iter wi)
  (hg:∀ C s H fp,PG (cC X N scope C s H fp) tg (g C s H fp)) (ht:∀ C s H fp,PTL (cC X N scope C s H fp) ifs (tt C s H fp)) (he:∀ C s H fp,PE (cC X N scope C s H fp) elt (te C s H fp))
  (hsc:X.env.scope=sc:=by rfl) (hNX:X.N=NX:=by rfl) (hs:∀ x,Pj iter X.env x=pure x:=by intro _; rfl):
  PE X (.ListComp elt [⟨tg,iter,ifs,0⟩] scope pos) (bW wi g tt te ix):=by
 intro pins s σ H Q I h
 rw [eval_ListComp]
 have hcells:QV scope X.env=pure (dg X.env scope.names []):=oR fun y hy hk=>by
  refine I.ok.has y.1 ?_
  show X.env.scope.names.lookup y.1=some .cell\/X.env.scope.names.lookup y.1=some .free
  rw [hsc]
  exact S.free y hy hk
 refine O8 (use:=none) rfl hs hcells S.kind S.names (thn (hi pins s σ H _ I h) fun v s1 h1=>thn h1 fun itv s2 h2=>?_)
 obtain ⟨it,fp,tn,J,H2,e,I2,T,st2,f2,hq⟩:=h2
 subst e
 refine uK (Q:=Q) (RR:=fun acc C=>compPost (model X.prog X.w) X.A X.xe none (EP X pins σ Q) acc C) hc hsc hNX S hg ht he I2 T st2 f2 hq ?_
 intro p C s' H' m hp hC hn hfree q I'
 exact ⟨m,hn,fun h'' hs''=>⟨.ref p,H',I'.gone I2 hC hfree hs'',rfl,q⟩⟩
theorem uL {i:Nat} {y:Str} {py spos:Pos} (hN:X.N.Nodup) (hy:X.N[i]?=some y) (hl:X.env.scope.names.lookup y=some .local) (hc:X.calm=true) (S:qI sc scope NX N ix) (hi:PI X tg iter wi)
  (hg:∀ C s H fp,PG (cC X N scope C s H fp) tg (g C s H fp)) (ht:∀ C s H fp,PTL (cC X N scope C s H fp) ifs (tt C s H fp)) (he:∀ C s H fp,PE (cC X N scope C s H fp) elt (te C s H fp))
  (hsw:Rp (.ListComp elt [⟨tg,iter,ifs,0⟩] scope pos) (some (.Name y py)) spos.line X.env=pure true:=by rfl)
  (hsc:X.env.scope=sc:=by rfl) (hNX:X.N=NX:=by rfl) (hs:∀ x,Pj iter X.env x=pure x:=by intro _; rfl):
  PS X (.Assign [.Name y py] (.ListComp elt [⟨tg,iter,ifs,0⟩] scope pos) spos) (aI (bW wi g tt te ix) (aq i)):=by
 intro pins s σ H D I h
 rw [RQ _ _ _ _ hsw]
 have hcells:QV scope X.env=pure (dg X.env scope.names []):=oR fun z hz hk=>by
  refine I.ok.has z.1 ?_
  show X.env.scope.names.lookup z.1=some .cell\/X.env.scope.names.lookup z.1=some .free
  rw [hsc]
  exact S.free z hz hk
 refine Lk (QA (Lk ?_))
 show wpAny _ X.A (do let _ <-comprehension (.ListComp elt [⟨tg,iter,ifs,0⟩] scope pos) scope X.env _ (newList []) false (eval iter X.env) (some (assign (.Name y py) X.env))) _ _ s
 refine Lk (thn (O8 (use:=some (assign (.Name y py) X.env)) (Q:=fun _ s'=>SP X pins D .next s') rfl hs hcells S.kind S.names (thn (hi pins s σ H _ I h) fun v s1 h1=>thn h1 fun itv s2 h2=>?_)) fun _ s' q=>Lm (Lm q))
 obtain ⟨it,fp,tn,J,H2,e,I2,T,st2,f2,hq⟩:=h2
 subst e
 refine uK (Q:=fun x H1=>aq i x σ H1 D.nx) (RR:=fun acc C=>compPost (model X.prog X.w) X.A X.xe (some (assign (.Name y py) X.env)) (fun _ s'=>SP X pins D .next s') acc C) hc hsc hNX S hg ht he I2 T st2 f2 hq ?_
 intro p C s' H' m hp hC hn hfree q I'
 refine QL (qx (v:=.ref p) I' hN hy (.inl hl) rfl (fun s'' I'' ⟨a,hsb,ha⟩=>?_) (.inr hl))
 have ne:C≠a:=by
  rcases ha with rfl | ha
  ·exact Nc (LN I2.lt hC)
  ·obtain ⟨v,o,ho,_⟩:=I2.cell y a ha
   exact Nc (LN (Lv ho) hC)
 exact ⟨m,hn.sameBut hsb ne,fun h'' hs''=>⟨_,H',I''.gone I2 hC hfree hs'',q⟩⟩
end
section
variable {g:CF TG} {tt:CF TT} {te:CF TE} {σ₀:St} {p:Addr} {Q:VK} {H:Hp}
theorem nU {J:It} {n:Nat} {Y:Nat->Hp->V->Hp->Prop} (Pv:Nat->List V->Hp->Prop) (h0:Pv 0 [] (upd H p (.lst []))) (hp:∀ i acc H,i<=n->Pv i acc H->H p=some (.lst acc)/\acc.length<=i) (hz:n<=Lz)
  (hgo:∀ i acc H,i < n->Pv i acc H->J.go i H) (hst:∀ acc H,Pv n acc H->J.stop n H) (hy:∀ i acc H x H1,i < n->Pv i acc H->J.yld i H x H1->Y i H x H1)
  (hs:∀ C s' H' fp,∀ i x acc H H1,i < n->Pv i acc H->Y i H x H1->g C s' H' fp x σ₀ H1 fun σ2 H2=>tt C s' H' fp σ2 H2 fun b H3=>if b=true then te C s' H' fp σ2 H3 fun y H4=>H4 p=some (.lst acc)/\Pv (i + 1) (acc++[y]) (upd H4 p (.lst (acc++[y]))) else Pv (i + 1) acc H3)
  (hd:∀ acc H,Pv n acc H->Q (.ref p) H):
  ∃ W:Nat->Nat->List V->Hp->Prop,(∃ m,W 0 m [] (upd H p (.lst [])))/\∀ C s' H' fp,cB J (g C s' H' fp) (tt C s' H' fp) (te C s' H' fp) σ₀ p Q W:=by
 refine ⟨fun i m acc H=>m=n - i/\i<=n/\Pv i acc H,⟨n,by simp,Mv _,h0⟩,?_⟩
 rintro C s' H' fp i m acc H ⟨rfl,hi,w⟩
 obtain ⟨h1,h2⟩:=hp i acc H hi w
 refine ⟨h1,?_⟩
 by_cases hlt:i < n
 ·exact .inr ⟨hgo i acc H hlt w,by omega,Pv (i + 1),fun acc' H' q=>⟨n - (i + 1),by omega,rfl,hlt,q⟩,fun x H1 y=>hs C s' H' fp i x acc H H1 hlt w (hy i acc H x H1 hlt w y)⟩
 ·have e:i=n:=by omega
  subst e
  exact .inl ⟨hst acc H w,hd acc H w⟩
theorem xC {K:Fg} {a:Addr} {xs:List V} (Pv:Nat->List V->Hp->Prop) (h0:Pv 0 [] (upd H p (.lst []))) (hp:∀ i acc H,i<=xs.length->Pv i acc H->H p=some (.lst acc)/\acc.length<=i) (hl:∀ i acc H,i<=xs.length->Pv i acc H->SqL K H a xs) (hz:xs.length<=Lz)
  (hs:∀ C s' H' fp,∀ i x acc H,xs[i]?=some x->Pv i acc H->g C s' H' fp x σ₀ H fun σ2 H2=>tt C s' H' fp σ2 H2 fun b H3=>if b=true then te C s' H' fp σ2 H3 fun y H4=>H4 p=some (.lst acc)/\Pv (i + 1) (acc++[y]) (upd H4 p (.lst (acc++[y]))) else Pv (i + 1) acc H3)
  (hd:∀ acc H,Pv xs.length acc H->Q (.ref p) H):
  ∃ W:Nat->Nat->List V->Hp->Prop,(∃ m,W 0 m [] (upd H p (.lst [])))/\∀ C s' H' fp,cB (Itl K a) (g C s' H' fp) (tt C s' H' fp) (te C s' H' fp) σ₀ p Q W:=
 nU (Y:=fun i H x H1=>H1=H/\xs[i]?=some x) Pv h0 hp hz (fun i acc H hi w=>⟨xs,xs[i],hl i acc H (Mw hi) w,by simp [hi]⟩) (fun acc H w=>⟨xs,hl _ acc H (Lr _) w,Lr _⟩)
  (fun i acc H x H1 hi w y=>⟨y.1,y.2 xs (hl i acc H (Mw hi) w)⟩) (fun C s' H' fp i x acc H H1 hi w y=>by
   obtain ⟨e,y⟩:=y
   subst e
   exact hs C s' H' fp i x acc _ y w) hd
theorem FU {K:Fg} {a:Addr} {xs:List V} (Pv:Nat->List V->Hp->Prop) (h0:Pv 0 [] (upd H p (.lst []))) (hp:∀ i acc H,i<=xs.length->Pv i acc H->H p=some (.lst acc)/\acc.length<=i) (hl:∀ i acc H,i<=xs.length->Pv i acc H->SqT K H a xs) (hz:xs.length<=Lz)
  (hs:∀ C s' H' fp,∀ i x acc H,xs[i]?=some x->Pv i acc H->g C s' H' fp x σ₀ H fun σ2 H2=>tt C s' H' fp σ2 H2 fun b H3=>if b=true then te C s' H' fp σ2 H3 fun y H4=>H4 p=some (.lst acc)/\Pv (i + 1) (acc++[y]) (upd H4 p (.lst (acc++[y]))) else Pv (i + 1) acc H3)
  (hd:∀ acc H,Pv xs.length acc H->Q (.ref p) H):
  ∃ W:Nat->Nat->List V->Hp->Prop,(∃ m,W 0 m [] (upd H p (.lst [])))/\∀ C s' H' fp,cB (Itt K a) (g C s' H' fp) (tt C s' H' fp) (te C s' H' fp) σ₀ p Q W:=
 nU (Y:=fun i H x H1=>H1=H/\xs[i]?=some x) Pv h0 hp hz (fun i acc H hi w=>⟨xs,xs[i],hl i acc H (Mw hi) w,by simp [hi]⟩) (fun acc H w=>⟨xs,hl _ acc H (Lr _) w,Lr _⟩)
  (fun i acc H x H1 hi w y=>⟨y.1,y.2 xs (hl i acc H (Mw hi) w)⟩) (fun C s' H' fp i x acc H H1 hi w y=>by
   obtain ⟨e,y⟩:=y
   subst e
   exact hs C s' H' fp i x acc _ y w) hd
theorem oS {lo:Int} {n:Nat} (Pv:Nat->List V->Hp->Prop) (h0:Pv 0 [] (upd H p (.lst []))) (hp:∀ i acc H,i<=n->Pv i acc H->H p=some (.lst acc)/\acc.length<=i) (hz:n<=Lz)
  (hs:∀ C s' H' fp,∀ i acc H,i < n->Pv i acc H->g C s' H' fp (.int (lo + i)) σ₀ H fun σ2 H2=>tt C s' H' fp σ2 H2 fun b H3=>if b=true then te C s' H' fp σ2 H3 fun y H4=>H4 p=some (.lst acc)/\Pv (i + 1) (acc++[y]) (upd H4 p (.lst (acc++[y]))) else Pv (i + 1) acc H3)
  (hd:∀ acc H,Pv n acc H->Q (.ref p) H):
  ∃ W:Nat->Nat->List V->Hp->Prop,(∃ m,W 0 m [] (upd H p (.lst [])))/\∀ C s' H' fp,cB (Itr lo n) (g C s' H' fp) (tt C s' H' fp) (te C s' H' fp) σ₀ p Q W:=
 nU (Y:=fun i H x H1=>H1=H/\x=.int (lo + i)) Pv h0 hp hz (fun i acc H hi w=>hi) (fun acc H w=>Lr _) (fun i acc H x H1 hi w y=>y) (fun C s' H' fp i x acc H H1 hi w y=>by
   obtain ⟨e,e2⟩:=y
   subst e e2
   exact hs C s' H' fp i acc _ hi w) hd
end
end
section
open PySem.Spec
section
variable {prog:Program} {w:World} {A:Around} {E:Value->Shared->Prop} {s:Shared}
theorem uM {jt t:Addr} {i:Nat} {its:Array Value} {y:Value} {Q:Value->Shared->Prop} (h1:s.heap.IsTupleIter jt t i) (h2:s.heap.IsTuple t its) (hy:its[i]?=some y)
  (k:∀ h',h'.IsTupleIter jt t (i + 1)->LM jt s.heap h'->Q y { s with heap:=h' }):wpAny (model prog w) A (Mi (.ref jt)) Q E s:=by
 obtain ⟨o,ho,hc,hd⟩:=id h1
 obtain ⟨ot,hot,_,nt,hdt⟩:=h2
 unfold Mi
 refine Lk (Mq (name:=Nq "__next__") h1.typeIs Oc (Mh Oc h1.typeIs Qs ?_ (Qi _)))
 show wpAny _ _ (field (.ref jt) 0 >>= _) _ _ s
 refine Lk (My ho hd (x:=.ref t) rfl ?_)
 show wpAny _ _ (if (LZ t == MH)=true then _ else _) _ _ s
 rw [if_neg (show ¬ ((LZ t == MH)=true) from LB)]
 show wpAny _ _ (field (.ref jt) 1 >>= _) _ _ s
 refine Lk (My ho hd (x:=.int i 0) rfl ?_)
 show wpAny _ _ (seqItems? (.ref t) >>= _) _ _ s
 refine Lk (MD hot hdt ?_)
 simp only [OK,hy]
 refine Lk (N3 ho hd (by simp) (Lm ⟨y,rfl,Lm (k _ ?_ (Mu ..))⟩))
 exact ⟨_,Mt _ ho (PF (N4 hd _)),(QP ..).trans hc,by rw [N4 hd]; simp [rawInt]⟩
theorem wB {jt t:Addr} {i:Nat} {its:Array Value} {Q:Value->Shared->Prop} (hh:A.handled=none) (h1:s.heap.IsTupleIter jt t i) (h2:s.heap.IsTuple t its) (hy:its[i]?=none)
  (k:∀ h' e,OZ jt s.heap h'->(∃ o,h'.get? e=some o/\o.cls=.type "StopIteration")->E (.ref e) { s with heap:=h' }):wpAny (model prog w) A (Mi (.ref jt)) Q E s:=by
 obtain ⟨o,ho,hc,hd⟩:=id h1
 obtain ⟨ot,hot,_,nt,hdt⟩:=h2
 unfold Mi
 refine Lk (Mq (name:=Nq "__next__") h1.typeIs Oc (Mh Oc h1.typeIs Qs ?_ (Qi _)))
 show wpAny _ _ (field (.ref jt) 0 >>= _) _ _ s
 refine Lk (My ho hd (x:=.ref t) rfl ?_)
 show wpAny _ _ (if (LZ t == MH)=true then _ else _) _ _ s
 rw [if_neg (show ¬ ((LZ t == MH)=true) from LB)]
 show wpAny _ _ (field (.ref jt) 1 >>= _) _ _ s
 refine Lk (My ho hd (x:=.int i 0) rfl ?_)
 show wpAny _ _ (seqItems? (.ref t) >>= _) _ _ s
 refine Lk (MD hot hdt ?_)
 simp only [OK,hy]
 refine Lk (NL (Lk (N3 ho hd (by simp) ?_)))
 show wpAny _ _ (newExc (.type "StopIteration") [] >>= _) _ _ _
 refine Lk ?_
 simp only [newExc,Tu]
 refine Lk (Mx ?_ (by size_fits))
 refine Lk (m:=firstArgMember _ _) (RF (a:=MH) (by first | rfl | (simp only [firstArgMember]; rfl)) ?_)
 refine Mx ?_ (by size_fits)
 simp only [raiseNew]
 refine Lk (Sk ?_)
 first | rw [show A.in1.handled=none from hh] | rw [hh]
 refine Lk (Lm (Td ?_))
 exact k _ _ (((Mu ..).extBut.push _).push _) ⟨_,Lx _ rfl,rfl⟩
end
theorem A3 {prog:Program} {w:World} {A:Around} (hh:A.handled=none) (jt t:Addr) (hne:t≠jt) (its:Array Value):
  Draws prog w A jt [jt,t] its.size (fun i v=>its[i]?=some v) (fun i h=>h.IsTupleIter jt t i/\h.IsTuple t its) where
 live:=fun _ _ st=>let ⟨o,ho,_⟩:=st.1; ⟨o,ho⟩
 frame:=fun _ _ _ st hk=>⟨st.1.at fun o e=>hk jt (by simp) o e,let ⟨o,ho,r⟩:=st.2; ⟨o,hk t (by simp) o ho,r⟩⟩
 item:=fun i s Q E hi st hQ=>uM st.1 st.2 (y:=its[i]) (by simp [hi]) fun h' a b=>hQ _ h' s.toks (by simp [hi]) ⟨a,st.2.extBut b.extBut hne⟩ b
 done:=fun s Q E st hE=>wB hh st.1 st.2 (by simp) hE
theorem Inv.offBase {X:Cx} {pins:List (Addr×Obj)} {σ:St} {H:Hp} {s:Shared} {c:Addr} {o:Obj} (I:Inv X pins σ H s) (f:jh X pins H c) (e:X.base.get? c=some o):False:=by
 rcases f.2.2.2.1 with z | z
 ·exact I.ok.noex c o e z
 ·exact absurd (LN (Lv e) (L8 I.ok.bsz z)) (M5 _)
set_option genInjectivity false in
structure Src where
 Sq:Fg->Hp->Addr->List V->Prop
 Is:Heap->Addr->Array Value->Prop
 It:Heap->Addr->Addr->Nat->Prop
 icls:String
 get:∀ {X:Cx} {pins:List (Addr×Obj)} {σ:St} {H:Hp} {s:Shared} {a:Addr} {xs:List V},Inv X pins σ H s->Sq X.K H a xs->∃ its:List Value,aH xs its/\Is s.heap a its.toArray/\xs.length<=Lz
 inj:∀ {X:Cx} {pins:List (Addr×Obj)} {σ:St} {H:Hp} {s:Shared} {a:Addr} {xs ys:List V},Inv X pins σ H s->Sq X.K H a xs->Sq X.K H a ys->xs=ys
 off:∀ {X:Cx} {pins:List (Addr×Obj)} {σ:St} {H:Hp} {s:Shared} {a c:Addr} {xs:List V},Inv X pins σ H s->Sq X.K H a xs->jh X pins H c->c≠a
 isSeq:∀ {h:Heap} {a:Addr} {its:Array Value},Is h a its->∃ o n,h.get? a=some o/\o.data=.seq its n
 isIt:∀ {h:Heap} {jt a:Addr} {i:Nat},It h jt a i->∃ o,h.get? jt=some o/\o.cls=.type icls/\o.data=.fields #[.ref a,.int i 0]
 mkI:∀ {h:Heap} {jt a:Addr} {i:Nat} {o:Obj},h.get? jt=some o->o.cls=.type icls->o.data=.fields #[.ref a,.int i 0]->It h jt a i
 itKeep:∀ {h h':Heap} {jt a:Addr} {i:Nat},It h jt a i->(∀ o,h.get? jt=some o->h'.get? jt=some o)->It h' jt a i
 isKeep:∀ {h h':Heap} {a:Addr} {its:Array Value},Is h a its->(∀ o,h.get? a=some o->h'.get? a=some o)->Is h' a its
 draws:∀ {prog:Program} {w:World} {A:Around},A.handled=none->∀ (jt a:Addr),a≠jt->∀ its:Array Value,Draws prog w A jt [jt,a] its.size (fun i v=>its[i]?=some v) (fun i h=>It h jt a i/\Is h a its)
 iter:∀ {prog:Program} {w:World} {A:Around} {E:Value->Shared->Prop} {s:Shared} {a:Addr} {its:Array Value} {Q:Value->Shared->Prop},Is s.heap a its->
  Q (.ref s.heap.objs.size) { s with heap:=s.heap.push { cls:=.type icls,data:=.fields #[.ref a,.int 0 0] } }->wpAny (model prog w) A (pyIter (.ref a)) Q E s
noncomputable def bS:Src where
 Sq:=SqL
 Is:=fun h a its=>h.IsList a its
 It:=fun h jt a i=>h.IsListIter jt a i
 icls:="list_iterator"
 get:=fun I h=>let ⟨its,r,p,z⟩:=I.list h; ⟨its,r,p.isList,z⟩
 inj:=fun I h h'=>I.list_inj h h'
 off:=fun {X pins σ H s a c xs} I h f e=>by
  subst e
  rcases h with (h | ⟨o,h⟩) | ⟨o,its,n,hk,_⟩
  ·rw [f.1] at h; cases h
  ·rw [f.1] at h; cases h
  ·exact I.offBase f (I.ok.mod.kin _ _ hk)
 isSeq:=fun h=>let ⟨o,ho,_,n,hd⟩:=h; ⟨o,n,ho,hd⟩
 isIt:=fun h=>h
 mkI:=fun h1 h2 h3=>⟨_,h1,h2,h3⟩
 itKeep:=fun h k=>h.at k
 isKeep:=fun h k=>h.at k
 draws:=fun hh jt a hne its=>Draws.list hh jt a hne its
 iter:=fun h q=>OJ h q
noncomputable def iU:Src where
 Sq:=SqT
 Is:=fun h a its=>h.IsTuple a its
 It:=fun h jt a i=>h.IsTupleIter jt a i
 icls:="tuple_iterator"
 get:=fun I h=>let ⟨its,r,p,z⟩:=I.tuple h; ⟨its,r,p,z⟩
 inj:=fun I h h'=>I.tuple_inj h h'
 off:=fun {X pins σ H s a c xs} I h f e=>by
  subst e
  rcases h with (h | ⟨o,h⟩) | ⟨o,its,n,hk,_⟩
  ·rw [f.1] at h; cases h
  ·rw [f.1] at h; cases h
  ·exact I.offBase f (I.ok.mod.kin _ _ hk)
 isSeq:=fun h=>let ⟨o,ho,_,n,hd⟩:=h; ⟨o,n,ho,hd⟩
 isIt:=fun h=>h
 mkI:=fun h1 h2 h3=>⟨_,h1,h2,h3⟩
 itKeep:=fun h k=>h.at k
 isKeep:=fun h k=>let ⟨o,ho,r⟩:=h; ⟨o,k o ho,r⟩
 draws:=fun hh jt a hne its=>A3 hh jt a hne its
 iter:=fun h q=>SB h q
theorem Inv.turns {X:Cx} {pins:List (Addr×Obj)} {σ:St} {H:Hp} {s:Shared} {h':Heap} {t':Nat} {ch:List Addr} {T:Addr} {o:HO} (I:Inv X pins σ H s) (hf:∀ b∈ch,jh X pins H b)
  (k:∀ b ob,b∉ch->s.heap.get? b=some ob->h'.get? b=some ob) (hT:s.heap.objs.size<=T) (new:bH X.prog X.w (upd H T o) h' T o):Inv X pins σ (upd H T o) { s with heap:=h',toks:=t' }:=by
 have hn:H T=none:=I.hok.fresh hT
 have nc:∀ b u,H b=some u->b∉ch:=fun b u e z=>by
  have:=(hf b z).1
  rw [e] at this
  cases this
 refine I.step (g':=s.gens) (d':=s.drawn) (ch:=ch) (fun b hb=>⟨(hf b hb).2.2.2.1,(hf b hb).2.1,(hf b hb).2.2.2.2.1,(hf b hb).2.2.2.2.2⟩) (fun b ob _ _ hc e _=>k b ob hc e) (fun b ob _ _ hc e _=>⟨ob.slots,k b ob hc e⟩)
  (fun b ob _ e n=>?_) (fun b ob hc e=>⟨ob,k b ob hc e⟩) (fun b xs e=>?_) (fun b ob xs e=>?_) (fun b ps e=>⟨#[],?_⟩) (fun m hm=>?_) (fun b u e=>?_) I.bare
 ·rw [aO (kS (Lv e) hT)]
  exact n
 ·rw [aO (aR e hn)]
  exact e
 ·rw [aO (aR e hn)]
  exact e
 ·rw [aO (aR e hn),e]
  simp
 ·obtain ⟨ob,es,ep,ho,r⟩:=hm
  exact ⟨ob,es,ep,k _ ob (fun z=>(hf _ z).2.1 rfl) ho,r⟩
 ·by_cases hb:b=T
  ·subst hb
   rw [az] at e
   cases e
   exact new
  ·rw [aO hb] at e
   refine (I.hok b u e).stay (fun c v hc q=>k c v ?_ q) (fun c q=>by rw [aO (aR q hn)]; exact q) fun c xs q=>by rw [aO (aR q hn)]; exact q
   rcases hc with z | z
   ·rw [z]; exact nc b u e
   ·exact nc c _ z
theorem Inv.turnsN {X:Cx} {pins:List (Addr×Obj)} {σ:St} {H:Hp} {s:Shared} {h':Heap} {t':Nat} {ch:List Addr} (I:Inv X pins σ H s) (hf:∀ b∈ch,jh X pins H b)
  (k:∀ b ob,b∉ch->s.heap.get? b=some ob->h'.get? b=some ob):Inv X pins σ H { s with heap:=h',toks:=t' }:=by
 have nc:∀ b u,H b=some u->b∉ch:=fun b u e z=>by
  have:=(hf b z).1
  rw [e] at this
  cases this
 refine I.step (g':=s.gens) (d':=s.drawn) (ch:=ch) (fun b hb=>⟨(hf b hb).2.2.2.1,(hf b hb).2.1,(hf b hb).2.2.2.2.1,(hf b hb).2.2.2.2.2⟩) (fun b ob _ _ hc e _=>k b ob hc e) (fun b ob _ _ hc e _=>⟨ob.slots,k b ob hc e⟩)
  (fun b ob _ e n=>n) (fun b ob hc e=>⟨ob,k b ob hc e⟩) (fun b xs e=>e) (fun b ob xs e=>e) (fun b ps e=>⟨#[],by rw [e]; simp⟩) (fun m hm=>?_) (fun b u e=>?_) I.bare
 ·obtain ⟨ob,es,ep,ho,r⟩:=hm
  exact ⟨ob,es,ep,k _ ob (fun z=>(hf _ z).2.1 rfl) ho,r⟩
 ·refine (I.hok b u e).stay (fun c v hc q=>k c v ?_ q) (fun c q=>q) fun c xs q=>q
  rcases hc with z | z
  ·rw [z]; exact nc b u e
  ·exact nc c _ z
noncomputable def Ite (S:Src) (K:Fg) (a:Addr):It:=
 ⟨fun i H=>∃ xs x,S.Sq K H a xs/\xs[i]?=some x,fun i H x H'=>∃ T v,H T=none/\x=.ref T/\H'=upd H T (.tup [.int i,v])/\∀ xs,S.Sq K H a xs->xs[i]?=some v,fun i H=>∃ xs,S.Sq K H a xs/\xs.length=i⟩
theorem Ey {P:Program} {w:World} {K:Fg} {elts:List Expr} {k0:Nat} {pos:Pos} (S:Src) (a e it:Addr) (hl:S.icls≠"enumerate"):
  qC P w K (.Tuple elts k0 pos) (Ite S K a) [e,it] e (fun i h=>(∃ old,IsEnum h e it i old)/\S.It h it a i) where
 mem:=by simp
 obj:=fun i h st b hb=>by
  obtain ⟨⟨old,he⟩,hi⟩:=st
  rcases Lq.mp hb with rfl | hb
  ·exact ⟨_,he,fun v z=>nomatch z⟩
  ·obtain rfl:=Ln.mp hb
   obtain ⟨o,ho,_,hd⟩:=S.isIt hi
   exact ⟨o,ho,fun v z=>by rw [hd] at z; cases z⟩
 keep:=fun i h h' st k=>by
  obtain ⟨⟨old,he⟩,hi⟩:=st
  exact ⟨⟨old,k e (by simp) _ he⟩,S.itKeep hi fun o q=>k it (by simp) o q⟩
 item:=by
  intro X hP hw hK hc i pins s σ H E I hf st hg
  subst hP hw hK
  obtain ⟨xs,x,hq,hx⟩:=hg
  obtain ⟨its,rv,p,hz⟩:=S.get I hq
  obtain ⟨⟨old,he⟩,hi⟩:=st
  obtain ⟨u,hu,ru⟩:=rv.get hx
  obtain ⟨oa,na,hoa,hda⟩:=S.isSeq p
  obtain ⟨oi,hoi,hci,hdi⟩:=S.isIt hi
  have nei:e≠it:=fun z=>by
   have he':s.heap.get? e=some _:=he
   rw [z,hoi] at he'
   cases he'
   exact hl (by simpa using hci.symm)
  have nae:e≠a:=S.off I hq (hf e (by simp))
  have nai:a≠it:=fun z=>by
   rw [z,hoi] at hoa
   cases hoa
   rw [hdi] at hda
   cases hda
  have hlt:i < its.toArray.size:=by
   have:=(Ls.mp hu).1
   simpa using this
  refine wpAny_pyNext_enum_itemD (S.draws (A:=X.A.in1) (show X.A.in1.handled=none from I.ok.hd hc) it a nai its.toArray) he ⟨hi,p⟩ hlt nei (by simp [nei,nae]) fun y h1 tk hP ho hs1 hT hsz hk=>⟨_,rfl,?_⟩
  have hy:y=u:=by
   have:its.toArray[i]?=some u:=by simpa using hu
   rw [this] at hP
   exact (LF hP).symm
  subst hy
  refine wpAny_letOwnedTupleGo_enum ho fun h2 he2 hs2=>?_
  have elt:e < s.heap.objs.size:=Lv he
  have hT2:h2.get? s.heap.objs.size=some { cls:=.type "tuple",data:=.seq #[.int i tk,y] }:=hs2.extBut _ _ (JD (Lr _) elt) hT
  have kept:∀ b ob,b∉[e,it]->s.heap.get? b=some ob->h2.get? b=some ob:=fun b ob hb q=>by
   have h1':b≠e:=fun z=>hb (by simp [z])
   exact hs2.extBut _ _ h1' (hk b ob h1' (fun z=>hb (by simp [z])) q)
  refine ⟨.ref s.heap.objs.size,upd H s.heap.objs.size (.tup [.int i,x]),?_,rfl,⟨_,x,I.fresh,rfl,rfl,fun ys hy=>by rw [S.inj I hy hq]; exact hx⟩,⟨⟨_,he2⟩,S.itKeep hs1.1 fun o q=>hs2.extBut _ _ (MR nei) q⟩,fun b hb=>?_⟩
  ·refine I.turns (t':=tk + 1) hf kept (Lr _) ⟨(by show 2<=Lz; decide),[.int i tk,y],.cons ⟨tk,rfl⟩ (.cons ru .nil),_,hT2,rfl,⟨0,rfl⟩,rfl⟩
  ·have lt:b < s.heap.objs.size:=by
    rcases Lq.mp hb with rfl | hb
    ·exact elt
    ·obtain rfl:=Ln.mp hb
     exact Lv hoi
   rw [aO (kS lt (Lr _))]
   exact (hf b hb).1
 done:=by
  intro X hP hw hK hc i pins s σ H E I hf st hg
  subst hP hw hK
  obtain ⟨xs,hq,hx⟩:=hg
  obtain ⟨its,rv,p,hz⟩:=S.get I hq
  obtain ⟨⟨old,he⟩,hi⟩:=st
  obtain ⟨oa,na,hoa,hda⟩:=S.isSeq p
  obtain ⟨oi,hoi,hci,hdi⟩:=S.isIt hi
  have nai:a≠it:=fun z=>by
   rw [z,hoi] at hoa
   cases hoa
   rw [hdi] at hda
   cases hda
  have hsz:i=its.toArray.size:=by
   have:=rv.length
   simp only [LK]
   omega
  subst hsz
  exact wpAny_pyNext_enum_endD (S.draws (A:=X.A.in1) (show X.A.in1.handled=none from I.ok.hd hc) it a nai its.toArray) he ⟨hi,p⟩ fun h' hx'=>⟨rfl,I.turnsN (t':=s.toks) hf fun b ob hb q=>hx' b ob (fun z=>hb (by simp [z])) q⟩
 self:=fun _ _ _ _ _ st h=>by
  obtain ⟨⟨old,he⟩,_⟩:=st
  exact SW he h
section
variable {X:Cx} {elts:List Expr} {k0:Nat} {tpos:Pos}
theorem FV (S:Src) (l:Addr) (its:Array Value):
  Meets (Builtin.«enumerate.__new__» ⟨[.type "enumerate",.ref l],[]⟩) (fun _ R s=>S.Is s.heap l its/\
   R (.ok (.ret (.ref (s.heap.push { cls:=.type S.icls,data:=.fields #[.ref l,.int 0 0] }).objs.size)))
    { s with heap:=(s.heap.push { cls:=.type S.icls,data:=.fields #[.ref l,.int 0 0] }).push { cls:=.type "enumerate",data:=.fields #[.none,.bool false,.ref s.heap.objs.size,rawInt 0,.none,.none] } }):=
 .of_wp fun prog w A R s h=>by
  obtain ⟨hp,g,d,tk,os⟩:=s
  obtain ⟨hl,h⟩:=h
  have hsub:=sub_enumerate
  have hL:S.Is (Te ⟨hp,g,d,tk,os⟩) l its:=hl
  wp_walk
  refine wpAny_stack_any fun st=>Lm ?_
  split
  ·rename_i c _ _ _ _ _
   cases (c == MI "enumerate")
   ·wp_walk using S.iter hL
    exact ⟨_,rfl,h⟩
   ·wp_walk using S.iter hL
    exact ⟨_,rfl,h⟩
  ·wp_walk using S.iter hL
   exact ⟨_,rfl,h⟩
theorem Ez (S:Src) {prog:Program} {w:World} {A:Around} {E:Value->Shared->Prop} {s:Shared} {l:Addr} {its:Array Value} {Q:Value->Shared->Prop} (hL:S.Is s.heap l its)
  (h:∀ h',IsEnum h' (s.heap.objs.size + 1) s.heap.objs.size 0 .none->S.It h' s.heap.objs.size l 0->(∀ b o,s.heap.get? b=some o->h'.get? b=some o)->Q (.ref (s.heap.objs.size + 1)) { s with heap:=h' }):
  wpAny (model prog w) A (call (.type "enumerate") [.ref l]) Q E s:=by
 refine SK F.called_enumerate (by decide) (F.typeCall_enumerate_1 _) (F.newCall_enumerate_1 _) (fun obj=>F.args_object_init_2 obj _) F.entry_enumerate_new (FV S l its) ⟨hL,?_⟩
 have hz:(s.heap.push { cls:=.type S.icls,data:=.fields #[.ref l,.int 0 0] }).objs.size=s.heap.objs.size + 1:=Md ..
 show _/\_
 rw [hz]
 have he:=Lx (s.heap.push { cls:=.type S.icls,data:=.fields #[.ref l,.int 0 0] }) (o:={ cls:=.type "enumerate",data:=.fields #[.none,.bool false,.ref s.heap.objs.size,rawInt 0,.none,.none] }) rfl
 rw [hz] at he
 exact ⟨⟨_,he,rfl⟩,h _ he (S.mkI (Ll _ (Lx _ rfl)) rfl rfl) fun b o q=>Ll _ (Ll _ q)⟩
noncomputable def rX (S:Src) (K:Fg) (ta:TA):TI:=fun σ H R=>ta σ H fun vs H1=>∃ a xs,vs=[.ref a]/\S.Sq K H1 a xs/\R (Ite S K a) H1
theorem rY (S:Src) {a:Expr} {ta:TA} {p pos:Pos} (hg:Gl X "enumerate") (hm:X.mg "enumerate"=none) (hS:S.icls≠"enumerate") (ha:PA X [a] ta) (hs:LP [a] X.env=[(false,eval a X.env)]:=by rfl):
  PI X (.Tuple elts k0 tpos) (.Call (.Name "enumerate" p) [a] [] pos) (rX S X.K ta):=by
 intro pins s σ H R I h
 refine Call_ (iz I hg hm boot_enumerate (MM (thn (ha pos pins s σ H _ I h) fun us s1 ⟨vs,H1,I1,r1,q1⟩=>?_) hs rfl))
 obtain ⟨l,xs,e,hq,q⟩:=q1
 subst e
 obtain ⟨u,rfl,ru⟩:=r1.one
 cases ru
 obtain ⟨its,rv,p',hz⟩:=S.get I1 hq
 refine Ez S p' fun h' he hi kp=>SW he ?_
 have I2:Inv X pins σ H1 { s1 with heap:=h' }:=I1.kept (t':=s1.toks) kp
 refine ⟨s1.heap.objs.size + 1,[s1.heap.objs.size + 1,s1.heap.objs.size],_,_,H1,rfl,I2,Ey S l _ _ hS,⟨⟨_,he⟩,hi⟩,fun b hb=>?_,q⟩
 have hb':s1.heap.objs.size<=b:=by
  rcases Lq.mp hb with rfl | hb
  ·exact Oi _
  ·obtain rfl:=Ln.mp hb
   exact Lr _
 exact I1.fpOk hb' (I1.hok.fresh hb')
end
end
section
open PySem.Spec
section
variable {X:Cx}
noncomputable def lT (K:Fg):List V->Hp->VK->Prop:=fun xs H Q=>∃ x T t b,xs=[x,.ty T]/\fR K H x t/\Ms K t (.type T)=some b/\Q (.bl b) H
theorem fS:cF X (.builtin "isinstance") (lT X.K):=by
 intro pins s σ H xs us Q I r h
 obtain ⟨x,T,t,b,rfl,ty,e,q⟩:=h
 obtain ⟨u,v,rfl,ru,rv⟩:=r.two
 cases (show v=MI T from rv)
 exact Em I ru ty e fun tk=>⟨.bl b,H,I.tok tk,rfl,q⟩
theorem A4 (K:Fg):Ms K (.type "int") (.type "int")=some true:=by unfold Ms; rw [if_pos (beq_self_eq_true _)]
theorem zq (K:Fg):Ms K (.type "int") (.type "bool")=some false:=by show (if (MI "int" == MI "bool")=true then some true else if Rv "bool"=true then (RS "int").map (·.contains (.type "bool")) else none)=some false; decide +kernel
theorem ka (K:Fg):Ms K (.type "tuple") (.type "tuple")=some true:=by unfold Ms; rw [if_pos (beq_self_eq_true _)]
theorem tj (K:Fg):Ms K (.type "list") (.type "list")=some true:=by unfold Ms; rw [if_pos (beq_self_eq_true _)]
theorem Ig:∀ (bs:List Bool),(LU bs.length).all (fun i=>bs.getD i false)=bs.all id:=by
 intro bs
 induction bs with
 | nil=>rfl
 | cons b r ih=>
  rw [LX,RG,Oy,PY,Oy]
  show (b && _)=(b && _)
  rw [<-ih]
  rfl
theorem Ih {bs:List Bool} {us:List Value} (r:aH (bs.map V.bl) us):us=bs.map ML:=by
 induction bs generalizing us with
 | nil=>cases r; rfl
 | cons b t ih=>
  cases r with
  | cons q r'=>
   rw [LI,<-ih r',show _=ML b from q]
theorem Inv.walked {pins:List (Addr×Obj)} {σ:St} {H:Hp} {s:Shared} {h':Heap} {tk:Nat} {o:Obj} (I:Inv X pins σ H s) (hk:∀ b ob,b∉[s.heap.objs.size]->(s.heap.push o).get? b=some ob->h'.get? b=some ob):Inv X pins σ H { s with heap:=h',toks:=tk }:=
 I.kept fun b ob e=>hk b ob (fun z=>absurd (Ln.mp z) (L9 (Lv e))) (Ll _ e)
theorem mO (hc:X.calm=true):cF X (.builtin "all") (fun xs H Q=>∃ (p:Addr) (bs:List Bool),xs=[.ref p]/\SqL X.K H p (bs.map V.bl)/\Q (.bl (bs.all id)) H):=by
 intro pins s σ H xs us Q I r h
 obtain ⟨p,bs,rfl,hq,q⟩:=h
 obtain ⟨u,rfl,rx⟩:=r.one
 cases rx
 obtain ⟨its,rv,pl,hz⟩:=I.list hq
 have e:=Ih rv
 subst e
 refine call_all_walk (OJ pl.isList ⟨s.heap.objs.size,_,_,_,_,_,fun i=>bs.getD i false,rfl,T4 (show X.A.in1.handled=none from I.ok.hd hc) _ p (by obtain ⟨o,ho,_⟩:=pl.isList; exact L9 (Lv ho)) (bs.map ML).toArray,
  ⟨⟨_,Lx _ rfl,rfl,rfl⟩,pl.isList.push _⟩,?_,fun h' tk hk=>?_⟩)
 ·intro i v s' Q' E' hP hQ
  have hP':(bs.map ML)[i]?=some v:=by simpa using hP
  rw [LD] at hP'
  cases e:bs[i]? with
  | none=>rw [e] at hP'; cases hP'
  | some b=>
   rw [e] at hP'
   cases hP'
   have:bs.getD i false=b:=by rw [LJ,e]; rfl
   have hQ':Q' (bs.getD i false) s':=hQ
   rw [this] at hQ'
   exact NB hQ'
 ·refine ⟨.bl (bs.all id),H,I.walked hk,?_,q⟩
  show ML _=ML _
  rw [<-Ig]
  simp
theorem A5 (ns:List Int):∀ k,k<=ns.length->preSum (fun i=>ns.getD i 0) k=(ns.take k).sum:=by
 intro k
 induction k with
 | zero=>intro _; simp [preSum]
 | succ k ih=>
  intro hk
  have hlt:k < ns.length:=hk
  rw [preSum,ih (Mw hlt),M4,MU,Lo hlt,LJ,Lo hlt]
  simp
theorem kI (hc:X.calm=true):cF X (.builtin "sum") (fun xs H Q=>∃ (p:Addr) (ns:List Int),xs=[.ref p]/\SqL X.K H p (ns.map V.int)/\Q (.int ns.sum) H):=by
 intro pins s σ H xs us Q I r h
 obtain ⟨p,ns,rfl,hq,q⟩:=h
 obtain ⟨u,rfl,rx⟩:=r.one
 cases rx
 obtain ⟨its,rv,pl,hz⟩:=I.list hq
 have hlen:ns.length=its.length:=by have:=rv.length; simpa using this
 have ia:=oN rv
 refine call_sum_walkG (OJ pl.isList ⟨s.heap.objs.size,_,_,_,_,_,fun i=>ns.getD i 0,rfl,T4 (show X.A.in1.handled=none from I.ok.hd hc) _ p (by obtain ⟨o,ho,_⟩:=pl.isList; exact L9 (Lv ho)) its.toArray,
  ⟨⟨_,Lx _ rfl,rfl,rfl⟩,pl.isList.push _⟩,fun b hb=>?_,?_,fun h' tk t' hk=>?_⟩)
 ·have hp:p < s.heap.objs.size:=by
   obtain ⟨o,ho,_⟩:=pl.isList
   exact Lv ho
  show b < (s.heap.push _).objs.size
  rw [Md]
  rcases Lq.mp hb with rfl | hb
  ·exact MX _
  ·obtain rfl:=Ln.mp hb
   exact MP hp
 ·intro i v hP
  have hP':its[i]?=some v:=by simpa using hP
  have hlt:i < ns.length:=by
   have:=(Ls.mp hP').1
   omega
  obtain ⟨u',hu',ru'⟩:=rv.get (x:=.int ns[i]) (i:=i) (by rw [LD,Lo hlt] <;> rfl)
  rw [hP'] at hu'
  cases hu'
  obtain ⟨t,e⟩:=(show ∃ t,v=Oh ns[i] t from ru')
  refine ⟨t,?_⟩
  show v=Oh (ns.getD i 0) t
  rw [e,LJ,Lo hlt]
  rfl
 ·refine ⟨.int ns.sum,H,I.walked hk,⟨t',?_⟩,q⟩
  rw [show its.toArray.size=ns.length by simp; omega,A5 ns _ (Lr _),Me]
noncomputable def EqE (x y:V) (b:Bool):Prop:=(dQ x=true/\dQ y=true/\b=eqV x y)\/(∃ a,x=.ref a/\y=.ref a/\b=true)
theorem EqE.at {A:Around} {s:Shared} {x y:V} {b:Bool} {u v:Value} (h:EqE x y b) (ru:aK x u) (rv:aK y v):L6 A s u v b:=by
 rcases h with ⟨f1,f2,rfl⟩ | ⟨a,rfl,rfl,rfl⟩
 ·exact Ep ru rv f1 f2
 ·cases ru
  cases rv
  exact Ru _
noncomputable def FW (xs ys:List V) (e:Nat->Bool):Prop:=∀ j x y,xs[j]?=some x->ys[j]?=some y->EqE x y (e j)
theorem BL {A:Around} {s:Shared} {xs ys:List V} {e:Nat->Bool} {us vs:List Value} (h:FW xs ys e) (ru:aH xs us) (rv:aH ys vs):
  ∀ j (h1:j < us.toArray.size) (h2:j < vs.toArray.size),L6 A s us.toArray[j] vs.toArray[j] (e j):=by
 intro j h1 h2
 have h1':j < xs.length:=by rw [ru.length]; simpa using h1
 have h2':j < ys.length:=by rw [rv.length]; simpa using h2
 obtain ⟨u,eu,r1⟩:=ru.get (Lo h1')
 obtain ⟨v,ev,r2⟩:=rv.get (Lo h2')
 have q:=(h j _ _ (Lo h1') (Lo h2')).at (A:=A) (s:=s) r1 r2
 have e1:us.toArray[j]=u:=by
  have:=(Ls.mp eu).2
  simpa using this
 have e2:vs.toArray[j]=v:=by
  have:=(Ls.mp ev).2
  simpa using this
 rw [e1,e2]
 exact q
noncomputable def mP (xs ys:List V) (e:Nat->Bool):Bool:=(LU (min xs.length ys.length)).all e && xs.length == ys.length
noncomputable def wC (Sq:Hp->Addr->List V->Prop) (neg:Bool):R2:=fun x y H Q=>∃ a b xs ys e,x=.ref a/\y=.ref b/\Sq H a xs/\Sq H b ys/\FW xs ys e/\Q (.bl (if neg then !mP xs ys e else mP xs ys e)) H
theorem JE (hu:X.A.units < cLine):OpR X (NF .Eq) (wC (SqT X.K) false):=by
 intro pins s σ H x y v u Q I r1 r2 h
 obtain ⟨a,b,xs,ys,e,rfl,rfl,ha,hb,he,q⟩:=h
 cases r1
 cases r2
 obtain ⟨us,ru,pu,_⟩:=I.tuple ha
 obtain ⟨vs,rv,pv,_⟩:=I.tuple hb
 refine SeqAt.eq_tupleAt (e:=e) pu pv hu (BL he ru rv) ⟨.bl (mP xs ys e),H,I,?_,q⟩
 show ML _=ML _
 unfold mP
 rw [LK,LK,ru.length,rv.length]
theorem JF (hu:X.A.units < cLine):OpR X (NF .NotEq) (wC (SqT X.K) true):=by
 intro pins s σ H x y v u Q I r1 r2 h
 obtain ⟨a,b,xs,ys,e,rfl,rfl,ha,hb,he,q⟩:=h
 cases r1
 cases r2
 obtain ⟨us,ru,pu,_⟩:=I.tuple ha
 obtain ⟨vs,rv,pv,_⟩:=I.tuple hb
 refine SeqAt.RcNeAt.tuples (e:=e) pu pv hu (BL he ru rv) _ _ _ _ ⟨.bl (!mP xs ys e),H,I,?_,q⟩
 show ML _=ML _
 unfold mP
 rw [LK,LK,ru.length,rv.length]
end
theorem EA (ns ms:List Int):FW (ns.map V.int) (ms.map V.int) (fun j=>decide (ns[j]?=ms[j]?)):=by
 intro j x y hx hy
 rw [LD] at hx hy
 cases e1:ns[j]? with
 | none=>rw [e1] at hx; cases hx
 | some n=>
  cases e2:ms[j]? with
  | none=>rw [e2] at hy; cases hy
  | some m=>
   rw [e1] at hx
   rw [e2] at hy
   cases hx
   cases hy
   refine .inl ⟨rfl,rfl,?_⟩
   show decide (ns[j]?=ms[j]?)=(n == m)
   rw [e1,e2]
   by_cases h:n=m
   ·subst h; simp
   ·simp [h]
theorem Cq (ns ms:List Int):mP (ns.map V.int) (ms.map V.int) (fun j=>decide (ns[j]?=ms[j]?))=decide (ns=ms):=by
 unfold mP
 rw [Lp,Lp]
 by_cases h:ns=ms
 ·subst h
  simp
 ·rw [decide_eq_false h]
  by_cases hl:ns.length=ms.length
  ·rw [Bool.and_eq_false_iff]
   left
   rw [<-Bool.not_eq_true,Q8]
   intro q
   apply h
   apply NW
   intro j
   by_cases hj:j < ns.length
   ·have:=q j (by rw [N1]; omega)
    exact of_decide_eq_true this
   ·rw [Mb (by omega),Mb (by omega)]
  ·rw [beq_eq_false_iff_ne.mpr hl,RP]
end
section
open PySem.Spec
noncomputable def FnB (P:Program) (w:World) (K:Fg) (mg:Str->Option Value) (base:Heap) (k:Nat) (x:Str) (ps:List Str) (sp:Sp):Prop:=
 ∃ f fd,cH P w K mg base CX0 k f fd ps sp/\mg x=some (.ref f)/\OM K (.ref f)=true/\fB K fd ps []
theorem ak {X:Cx} {k:Nat} {x:Str} {ps:List Str} {sp:Sp} {p pos:Pos} {e:Expr} {es:List Expr} {t:TA} (F:FnB X.prog X.w X.K X.mg X.base k x ps sp) (hr:bQ k X.A) (ha:PA X (e :: es) t) (hg:Gl X x:=by rfl)
  (hdb:(x == ("__debug__":Str))=false:=by decide) (he:LP (e :: es) X.env=(false,eval e X.env) :: LP es X.env:=by rfl) (hpl:(backTo pos (LP es X.env)).any (·.1)=false:=by rfl):
  PE X (.Call (.Name x p) (e :: es) [] pos) (au sp [] E0 t):=by
 obtain ⟨f,fd,ok,m,kp,b⟩:=F
 exact HY ok hr hg m kp b .nil yP ha hdb he hpl
theorem FnB.mono {P:Program} {w:World} {K:Fg} {mg:Str->Option Value} {base:Heap} {j k:Nat} {x:Str} {ps:List Str} {sp:Sp} (F:FnB P w K mg base j x ps sp) (h:j<=k):FnB P w K mg base k x ps sp:=by
 obtain ⟨f,fd,ok,r⟩:=F
 exact ⟨f,fd,ok.mono h,r⟩
structure Def (K:Fg) (mg:Str->Option Value) (x:Str) (st:Stmt) (ps:List Str) (f:Addr) (fd:LL):Prop where
 fn:Fun K x x st f fd
 m:mg x=some (.ref f)
 b:fB K fd ps []
theorem Def.ok {P:Program} {w:World} {K:Fg} {mg:Str->Option Value} {base:Heap} {x:Str} {st:Stmt} {N ps:List Str} {f:Addr} {fd:LL} {k:Nat} {sp:Sp} (D:Def K mg x st ps f fd) (S:aE N ps (ae st)) (len:∀ vs H Q E,sp vs H Q E->vs.length=ps.length)
  (hbody:∀ (cdv:Value) (A:Around) (outer:List Env) (s:Shared) (H:Hp) (vs:List V) (Q:VK) (E:XK),bQ k (A.deeper (envOfC x (ae st) s.heap.objs.size f cdv))->sp vs H Q E->
   ∃ t,PSs (oM CX0 P w K mg base N x (ae st) f cdv A outer s H E).nox (fF st) t/\t { nx:=fun _ H'=>Q .non H',rt:=Q } (start N vs) H):FnB P w K mg base (k + 1) x ps sp:=
 ⟨f,fd,D.fn.ok S len hbody,D.m,D.fn.kp,D.b⟩
theorem eS {X:Cx}:OpR X (Ob .Mult) (rI N2 fun i j=>.int (i * j)):=opI fun _ _ _ _ _ _ _ hc q=>mul_int q hc
theorem uN:∀ (ns:List Int),∀ n∈ns,Mn n<=Ri (ns.map Pl)
 | [],n,h=>(nomatch h)
 | m :: r,n,h=>by
  rw [LI,Ri]
  have e:OS (.int m)=Mn m:=by
   rw [OS]
   rfl
  rw [e]
  rcases Lq.mp h with rfl | h
  ·omega
  ·have:=uN r n h
   omega
theorem A6 {ns:List Int} (h:Q9 [Qt (ns.map Pl)]=true):∀ n∈ns,Mn n<=1048576:=by
 intro n hn
 have h1:RU (Qt (ns.map Pl))=true:=by
  unfold Q9 at h
  rw [Oy,MY] at h
  exact h.1
 unfold RU at h1
 rw [MY] at h1
 have h2:OS (Qt (ns.map Pl))<=2 ^ 20:=of_decide_eq_true h1.2
 rw [OS] at h2
 have h3:=uN ns n hn
 have e:(2:Nat) ^ 20=1048576:=by decide
 omega
noncomputable def fT (K:Fg) (H:Hp) (a:Addr) (ns:List Int):Prop:=SqL K H a (ns.map V.int)/\ns.length<=63/\∀ n∈ns,Mn n<=1048576
noncomputable def uO (K:Fg):Sp:=fun vs H Q _=>∃ (a:Addr) (ns:List Int),vs=[.ref a]/\fT K H a ns/\∀ H',Q (.bl true) H'
theorem FX {l:PySem.W.OpenLaw} {k:Nat} {q:Program} {loose:List Str} {XP:(Str->Option Value)->Heap->Prop} {YP:World->Heap->Prop} {d:DefRec} {K:Params->Fg} {x:Str}
  (hn:l.most=some 63) (hdf:d.params.defaults=[]) (hr:bQ k callerA) (hY:∀ (w:World) (h:Heap),YP w h->(K w.params).In h)
  (F:∀ (w:World) (mg:Str->Option Value) (fa:Addr) (h:Heap),(K w.params).In h->h.Ns L5 mg->mg d.name=some (.ref fa)->
   ∃ fd:LL,(∀ (s:Shared) (u:Value),BindsTo s fd ⟨[u],[]⟩ [(x,u)])/\
    ∀ base:Heap,(K w.params).In base->base.Ns L5 mg->cH l.prog w (K w.params) mg base CX0 k fa fd [x] (uO (K w.params))):
  PySem.W.WalkO q loose XP YP l.row.toRowW d [] (fun f vs=>PySem.call f vs):=by
 intro w s₀ s₁ mg mb G Y fa o pm cd doc dV kV ho hd hcd hD hmg hg args vals as hpre hlay hrd hwl hlo
 obtain rfl:dV=.none:=PySem.W.Dflts.none hD hdf
 obtain rfl:kV=.none:=PySem.W.Dflts.noKw hD
 obtain ⟨a,vs,ns,rfl,rfl,hobj,hints,hlen⟩:=Att.Eu hn hpre hwl
 have hbits:=A6 hlay
 have KX:=hY w _ Y
 obtain ⟨fd,hb,hF⟩:=F w mg fa _ KX G.T.g hmg
 have c:=FT KX G.T.g G.T.b G.T.builtins G.T.nolimit hg hobj hints (L8 hlen (by decide)) hr hF hb (fun H hO hS=>⟨a,ns,rfl,⟨hS,hlen,hbits⟩,fun _=>rfl⟩) fun H e s' z=>z
 refine PySem.W.enter_call (Om c fun r s' hq=>?_)
 obtain ⟨rfl,h2,h3,h4⟩:=hq
 exact ⟨.inl ⟨.bool true,.bool true,[],rfl,fun _=>rfl,.bool true,Att.Ev l _,fun _=>⟨List.Pairwise.nil,fun _ hm=>(nomatch hm)⟩⟩,h2,h3,h4⟩
theorem EB {J:It} {n:Nat} {g:TG} {tb:TS} {D:jW} {σ:St} {H:Hp} {Y:Nat->Hp->V->Hp->Prop} (Pv:Nat->St->Hp->Prop) (h0:Pv 0 σ H) (hgo:∀ i σ H,i < n->Pv i σ H->J.go i H) (hst:∀ σ H,Pv n σ H->J.stop n H)
  (hy:∀ i σ H x H1,i < n->Pv i σ H->J.yld i H x H1->Y i H x H1) (hs:∀ i x σ H H1,i < n->Pv i σ H->Y i H x H1->g x σ H1 fun σ2 H2=>tb { D with nx:=Pv (i + 1),ct:=Pv (i + 1),bk:=D.nx } σ2 H2) (hd:∀ σ H,Pv n σ H->D.nx σ H):
  ∃ W:Nat->Nat->St->Hp->Prop,(∃ m,W 0 m σ H)/\∀ i m σ H,W i m σ H->
   (J.stop i H/\D.nx σ H)\/(J.go i H/\∃ N:St->Hp->Prop,(∀ σ' H',N σ' H'->∃ m',m' < m/\W (i + 1) m' σ' H')/\∀ x H',J.yld i H x H'->g x σ H' fun σ2 H2=>tb { D with nx:=N,ct:=N,bk:=D.nx } σ2 H2):=by
 refine ⟨fun i m σ H=>m=n - i/\i<=n/\Pv i σ H,⟨n,by simp,Mv _,h0⟩,?_⟩
 rintro i m σ H ⟨rfl,hi,p⟩
 by_cases hlt:i < n
 ·exact .inr ⟨hgo i σ H hlt p,Pv (i + 1),fun σ' H' p'=>⟨n - (i + 1),by omega,rfl,hlt,p'⟩,fun x H' y=>hs i x σ H H' hlt p (hy i σ H x H' hlt p y)⟩
 ·have e:i=n:=by omega
  subst e
  exact .inl ⟨hst σ H p,hd σ H p⟩
theorem zr {S:Src} {K:Fg} {a:Addr} {xs:List V} {g:TG} {tb:TS} {D:jW} {σ:St} {H:Hp} (Pv:Nat->St->Hp->Prop) (h0:Pv 0 σ H) (hl:∀ i σ H,i<=xs.length->Pv i σ H->S.Sq K H a xs)
  (hs:∀ i x T σ H,xs[i]?=some x->Pv i σ H->H T=none->g (.ref T) σ (upd H T (.tup [.int i,x])) fun σ2 H2=>tb { D with nx:=Pv (i + 1),ct:=Pv (i + 1),bk:=D.nx } σ2 H2) (hd:∀ σ H,Pv xs.length σ H->D.nx σ H):
  ∃ W:Nat->Nat->St->Hp->Prop,(∃ m,W 0 m σ H)/\∀ i m σ H,W i m σ H->
   ((Ite S K a).stop i H/\D.nx σ H)\/((Ite S K a).go i H/\∃ N:St->Hp->Prop,(∀ σ' H',N σ' H'->∃ m',m' < m/\W (i + 1) m' σ' H')/\∀ x H',(Ite S K a).yld i H x H'->g x σ H' fun σ2 H2=>tb { D with nx:=N,ct:=N,bk:=D.nx } σ2 H2):=
 EB (J:=Ite S K a) (n:=xs.length) (Y:=fun i H x H1=>∃ T v,H T=none/\x=.ref T/\H1=upd H T (.tup [.int i,v])/\xs[i]?=some v) Pv h0 (fun i σ H hi w=>⟨xs,xs[i],hl i σ H (Mw hi) w,by simp [hi]⟩) (fun σ H w=>⟨xs,hl _ σ H (Lr _) w,rfl⟩)
  (fun i σ H x H1 hi w y=>by
   obtain ⟨T,v,e1,e2,e3,e4⟩:=y
   exact ⟨T,v,e1,e2,e3,e4 xs (hl i σ H (Mw hi) w)⟩) (fun i x σ H H1 hi w y=>by
   obtain ⟨T,v,e1,rfl,rfl,e4⟩:=y
   exact hs i v T σ H e4 w e1) hd
theorem EC {S:Src} {K:Fg} {a:Addr} {xs:List V} {g:CF TG} {tt:CF TT} {te:CF TE} {σ₀:St} {p:Addr} {Q:VK} {H:Hp} (Pv:Nat->List V->Hp->Prop) (h0:Pv 0 [] (upd H p (.lst []))) (hp:∀ i acc H,i<=xs.length->Pv i acc H->H p=some (.lst acc)/\acc.length<=i) (hl:∀ i acc H,i<=xs.length->Pv i acc H->S.Sq K H a xs) (hz:xs.length<=Lz)
  (hs:∀ C s' H' fp,∀ i x T acc H,xs[i]?=some x->Pv i acc H->H T=none->g C s' H' fp (.ref T) σ₀ (upd H T (.tup [.int i,x])) fun σ2 H2=>tt C s' H' fp σ2 H2 fun b H3=>if b=true then te C s' H' fp σ2 H3 fun y H4=>H4 p=some (.lst acc)/\Pv (i + 1) (acc++[y]) (upd H4 p (.lst (acc++[y]))) else Pv (i + 1) acc H3)
  (hd:∀ acc H,Pv xs.length acc H->Q (.ref p) H):
  ∃ W:Nat->Nat->List V->Hp->Prop,(∃ m,W 0 m [] (upd H p (.lst [])))/\∀ C s' H' fp,cB (Ite S K a) (g C s' H' fp) (tt C s' H' fp) (te C s' H' fp) σ₀ p Q W:=
 nU (Y:=fun i H x H1=>∃ T v,H T=none/\x=.ref T/\H1=upd H T (.tup [.int i,v])/\xs[i]?=some v) Pv h0 hp hz (fun i acc H hi w=>⟨xs,xs[i],hl i acc H (Mw hi) w,by simp [hi]⟩) (fun acc H w=>⟨xs,hl _ acc H (Lr _) w,rfl⟩)
  (fun i acc H x H1 hi w y=>by
   obtain ⟨T,v,e1,e2,e3,e4⟩:=y
   exact ⟨T,v,e1,e2,e3,e4 xs (hl i acc H (Mw hi) w)⟩) (fun C s' H' fp i x acc H H1 hi w y=>by
   obtain ⟨T,v,e1,rfl,rfl,e4⟩:=y
   exact hs C s' H' fp i v T acc H e4 w e1) hd
theorem bf {H:Hp} {p:Addr} (h:H p=none) (o:HO):ap H (upd H p o):=fun b u q=>by rw [aO (aR q h)]; exact q
theorem ap.upd {H H':Hp} {p:Addr} (s:ap H H') (h:H p=none) (o:HO):ap H (upd H' p o):=fun b u q=>by rw [aO (aR q h)]; exact s b u q
theorem ap.tup {K:Fg} {H H':Hp} {a:Addr} {xs:List V} (e:ap H H') (h:SqT K H a xs):SqT K H' a xs:=by
 rcases h with (h | ⟨o,h⟩) | h
 ·exact .inl (.inl (e _ _ h))
 ·exact .inl (.inr ⟨o,e _ _ h⟩)
 ·exact .inr h
theorem small {n:Nat} (h:n<=1000):n<=Lz:=Mw (Ex h)
theorem zt {ns:List Int} {k:Int} (h0:0<=k) (h1:k < (ns.length:Int)):atI (ns.map V.int) k=some (.int (ns.getD k.toNat 0)):=by
 have hk:k.toNat < ns.length:=by omega
 have e:k=((k.toNat:Nat):Int):=by omega
 have q:atI (ns.map V.int) ((k.toNat:Nat):Int)=some (.int (ns.getD k.toNat 0)):=dz (by rw [LD,Lo hk,LJ,Lo hk] <;> rfl)
 rw [<-e] at q
 exact q
theorem jj {c:Bool} {A B:Prop} (h1:c=true->A) (h2:c=false->B):if c=true then A else B:=by
 cases c with
 | true=>rw [if_pos rfl]; exact h1 rfl
 | false=>rw [if_neg LB]; exact h2 rfl
noncomputable def bC (ns:List Int) (k:Int):Int:=
 if k < (ns.length:Int) then ns.getD k.toNat 0 else
  let n0:=if 0 < (ns.length:Int) then ns.getD ((k * 7) % (ns.length:Int)).toNat 0 * 48271 + k * 7919 else k * 7919 + 5
  let n1:=n0 * n0 % 2147483629
  (n1 + k) * (n1 + 69621) % 2147483587
noncomputable def JG (K:Fg):Sp:=fun vs H Q _=>∃ (a:Addr) (ns:List Int) (k:Int),vs=[.ref a,.int k]/\fT K H a ns/\0<=k/\k<=1000000/\Q (.int (bC ns k)) H
theorem fT.same {K:Fg} {H H':Hp} {a:Addr} {ns:List Int} (h:fT K H a ns) (s:ap H H'):fT K H' a ns:=⟨s.seq h.1,h.2⟩
structure Blt (mg:Str->Option Value):Prop where
 len:mg "len"=none
 range:mg "range"=none
 tuple:mg "tuple"=none
 list:mg "list"=none
 int:mg "int"=none
 bool:mg "bool"=none
 str:mg "str"=none
 dict:mg "dict"=none
 sum:mg "sum"=none
 all:mg "all"=none
 min:mg "min"=none
 max:mg "max"=none
 sorted:mg "sorted"=none
 enumerate:mg "enumerate"=none
 zip:mg "zip"=none
 isinstance:mg "isinstance"=none
theorem ED {ns:List Int} (h:∀ n∈ns,Mn n<=1048576) (i:Nat):Mn (ns.getD i 0)<=1048576:=by
 rw [LJ]
 cases e:ns[i]? with
 | none=>show Mn 0<=_; decide
 | some n=>exact h n (LA e)
end
section
open PySem.Spec
structure jk (z TI TO j1 j2:Addr) (fp1 fp2:List Addr):Prop where
 a1:TI≠z
 a2:TO≠z
 a3:j1≠z
 a4:j2≠z
 a5:TI≠TO
 a6:TI≠j1
 a7:TI≠j2
 a8:TO≠j1
 a9:TO≠j2
 b0:j1≠j2
 b1:z∉fp1
 b2:TO∉fp1
 b3:j2∉fp1
 b4:z∉fp2
 b5:TO∉fp2
 b6:j1∉fp2
section
variable {prog:Program} {w:World} {A:Around} {E:Value->Shared->Prop} {s:Shared}
theorem _root_.PySem.Draws.but {it:Addr} {fp:List Addr} {n i:Nat} {P:Nat->Value->Prop} {St:Nat->Heap->Prop} {h h':Heap} {c:Addr} (D:Draws prog w A it fp n P St) (hst:St i h) (hs:LM c h h') (hc:c∉fp):St i h':=
 D.frame i _ _ hst fun b hb o e=>hs.extBut b o (fun z=>hc (by rw [<-z]; exact hb)) e
theorem xD {z TI TO j1 j2:Addr} {fp1 fp2:List Addr} {n1 n2 k:Nat} {P1 P2:Nat->Value->Prop} {S1 S2:Nat->Heap->Prop} {a b:Value} {Q:Value->Shared->Prop} (Z:jk z TI TO j1 j2 fp1 fp2)
  (D1:Draws prog w A j1 fp1 n1 P1 S1) (D2:Draws prog w A j2 fp2 n2 P2 S2) (hz:IsZip s.heap z TI TO .none) (hTI:IsPair s.heap TI (.ref j1) (.ref j2)) (hTO:IsPair s.heap TO a b) (h1:S1 k s.heap) (h2:S2 k s.heap) (l1:k < n1) (l2:k < n2)
  (hQ:∀ x y h' tk,P1 k x->P2 k y->IsZip h' z TI TO (rawInt s.heap.objs.size)->(∃ a b,IsPair h' TO a b)->S1 (k + 1) h'->S2 (k + 1) h'->IsPair h' s.heap.objs.size x y->
   (∀ c o,c∉[z,TI,TO,j1,j2]->s.heap.get? c=some o->h'.get? c=some o)->IsPair h' TI (.ref j1) (.ref j2)->Q (.ref s.heap.objs.size) { s with heap:=h',toks:=tk }):
  wpAny (model prog w) A (Builtin.«zip.__next__» ⟨[.ref z],[]⟩) (fun fin s'=>∃ v,fin=.done (.ret v)/\Q v s') E s:=by
 obtain ⟨hp,g,d,tk₀,os⟩:=s
 show wpAny _ _ (field (.ref z) 2 >>= _) _ _ _
 refine Lk (My hz rfl (x:=.bool false) rfl ?_)
 show wpAny _ _ (field (.ref z) 3 >>= _) _ _ _
 refine Lk (My hz rfl (x:=.ref TI) rfl ?_)
 refine Lk (MD hTI rfl ?_)
 show wpAny _ _ (Mm (.ref z) >>= _) _ _ _
 refine Lk ?_
 unfold Mm
 refine Lk (My hz rfl (x:=.none) rfl (Lm ?_))
 simp only [if_true]
 refine Lk (NL ?_)
 refine Lk (My hz rfl (x:=.ref TO) rfl ?_)
 refine Lk (NN hz (by simp) fun g1 hz1 hs1=>?_)
 replace hz1:IsZip g1 z TI TO .ellipsis:=hz1
 replace hs1:LM z hp g1:=hs1
 refine Lk ?_
 simp only [Tv,T5,O2,Pf]
 refine Lk (Lk (QF ?_))
 show wpAny _ _ (Mi (.ref j1) >>= _) _ _ _
 refine Lk (D1.item k ⟨g1,g,d,tk₀,os⟩ _ _ l1 (D1.but h1 hs1 Z.b1) fun x g2 tk1 px st1 hs2=>Lm ?_)
 replace hs2:LM j1 g1 g2:=hs2
 have hTO2:IsPair g2 TO a b:=hs2.extBut _ _ Z.a8 (hs1.extBut _ _ Z.a2 hTO)
 refine Lk (MD hTO2 rfl ?_)
 refine Lk (PZ hTO2 fun g3 hTO3 hs3=>?_)
 replace hTO3:IsPair g3 TO x b:=hTO3
 replace hs3:LM TO g2 g3:=hs3
 refine Lk (RH (Lm ?_))
 refine Lk (Lk (QF ?_))
 show wpAny _ _ (Mi (.ref j2) >>= _) _ _ _
 refine Lk (D2.item k ⟨g3,g,d,tk1,os⟩ _ _ l2 (D2.but (D2.but (D2.but h2 hs1 Z.b4) hs2 Z.b6) hs3 Z.b5) fun y g4 tk2 py st2 hs4=>Lm ?_)
 replace hs4:LM j2 g3 g4:=hs4
 have hTO4:IsPair g4 TO x b:=hs4.extBut _ _ Z.a9 hTO3
 refine Lk (MD hTO4 rfl ?_)
 refine Lk (PZ hTO4 fun g5 hTO5 hs5=>?_)
 replace hTO5:IsPair g5 TO x y:=hTO5
 replace hs5:LM TO g4 g5:=hs5
 refine Lk (RH (Lm (Lm ?_)))
 refine Lk (MD hTO5 rfl ?_)
 refine Lk (RV ?_)
 have hsz:g5.objs.size=hp.objs.size:=by rw [hs5.1,hs4.1,hs3.1,hs2.1,hs1.1]
 have hz5:IsZip g5 z TI TO .ellipsis:=hs5.extBut _ _ Z.a2.symm (hs4.extBut _ _ Z.a4.symm (hs3.extBut _ _ Z.a2.symm (hs2.extBut _ _ Z.a3.symm hz1)))
 have k5:∀ c o,c≠z->c≠TO->c≠j1->c≠j2->hp.get? c=some o->g5.get? c=some o:=fun c o c1 c2 c3 c4 e=>
  hs5.extBut _ _ c2 (hs4.extBut _ _ c4 (hs3.extBut _ _ c2 (hs2.extBut _ _ c3 (hs1.extBut _ _ c1 e))))
 have st15:S1 (k + 1) g5:=D1.but (D1.but (D1.but st1 hs3 Z.b2) hs4 Z.b3) hs5 Z.b2
 have st25:S2 (k + 1) g5:=D2.but st2 hs5 Z.b5
 have zlt:z < g5.objs.size:=Lv hz5
 show wpAny _ _ (O9 (.ref z) (.ref g5.objs.size) >>= _) _ _ _
 refine Lk ?_
 unfold O9
 have hz6:IsZip (g5.push { cls:=.type "tuple",data:=.seq #[x,y] }) z TI TO .ellipsis:=Ll _ hz5
 refine Lk (NN hz6 (by simp) fun g7 hz7 hs7=>?_)
 replace hz7:IsZip g7 z TI TO (rawInt g5.objs.size):=hz7
 refine NN hz7 (by simp) fun g8 hz8 hs8=>?_
 replace hz8:IsZip g8 z TI TO (rawInt g5.objs.size):=hz8
 have up:∀ c o,c≠z->g5.get? c=some o->g8.get? c=some o:=fun c o c1 e=>hs8.extBut _ _ c1 (hs7.extBut _ _ c1 (Ll _ e))
 have hT8:IsPair g8 g5.objs.size x y:=hs8.extBut _ _ (Nc zlt) (hs7.extBut _ _ (Nc zlt) (Lx _ rfl))
 rw [hsz] at hz8 hT8
 refine Lm ⟨_,rfl,?_⟩
 show Q (.ref g5.objs.size) _
 rw [hsz]
 exact hQ x y g8 tk2 px py hz8 ⟨x,y,up _ _ Z.a2 hTO5⟩ (D1.frame _ _ _ st15 fun c hc o e=>up c o (fun q=>Z.b1 (by rw [<-q]; exact hc)) e) (D2.frame _ _ _ st25 fun c hc o e=>up c o (fun q=>Z.b4 (by rw [<-q]; exact hc)) e) hT8
  (fun c o hc e=>by
   simp only [Lq,Mp,or_false,not_or] at hc
   exact up c o hc.1 (k5 c o hc.1 hc.2.2.1 hc.2.2.2.1 hc.2.2.2.2 e)) (up _ _ Z.a1 (k5 _ _ Z.a1 Z.a5 Z.a6 Z.a7 hTI))
theorem zu {z TI TO j1 j2:Addr} {fp1 fp2:List Addr} {n1 n2 k:Nat} {P1 P2:Nat->Value->Prop} {S1 S2:Nat->Heap->Prop} {a b:Value} {Q:Fin->Shared->Prop} (Z:jk z TI TO j1 j2 fp1 fp2)
  (D1:Draws prog w A j1 fp1 n1 P1 S1) (D2:Draws prog w A j2 fp2 n2 P2 S2) (hz:IsZip s.heap z TI TO .none) (hTI:IsPair s.heap TI (.ref j1) (.ref j2)) (hTO:IsPair s.heap TO a b) (h1:S1 k s.heap) (h2:S2 k s.heap) (l:k=min n1 n2)
  (hE:∀ h' e tk,(∀ c o,c∉[z,TI,TO,j1,j2]->s.heap.get? c=some o->h'.get? c=some o)->(∃ o,h'.get? e=some o/\o.cls=.type "StopIteration")->E (.ref e) { s with heap:=h',toks:=tk }):
  wpAny (model prog w) A (Builtin.«zip.__next__» ⟨[.ref z],[]⟩) Q E s:=by
 obtain ⟨hp,g,d,tk₀,os⟩:=s
 have kp:∀ {h':Heap},(∀ c o,c≠z->c≠TO->c≠j1->c≠j2->hp.get? c=some o->h'.get? c=some o)->∀ c o,c∉[z,TI,TO,j1,j2]->hp.get? c=some o->h'.get? c=some o:=fun {h'} q c o hc e=>by
  simp only [Lq,Mp,or_false,not_or] at hc
  exact q c o hc.1 hc.2.2.1 hc.2.2.2.1 hc.2.2.2.2 e
 show wpAny _ _ (field (.ref z) 2 >>= _) _ _ _
 refine Lk (My hz rfl (x:=.bool false) rfl ?_)
 show wpAny _ _ (field (.ref z) 3 >>= _) _ _ _
 refine Lk (My hz rfl (x:=.ref TI) rfl ?_)
 refine Lk (MD hTI rfl ?_)
 show wpAny _ _ (Mm (.ref z) >>= _) _ _ _
 refine Lk ?_
 unfold Mm
 refine Lk (My hz rfl (x:=.none) rfl (Lm ?_))
 simp only [if_true]
 refine Lk (NL ?_)
 refine Lk (My hz rfl (x:=.ref TO) rfl ?_)
 refine Lk (NN hz (by simp) fun g1 hz1 hs1=>?_)
 replace hz1:IsZip g1 z TI TO .ellipsis:=hz1
 replace hs1:LM z hp g1:=hs1
 refine Lk ?_
 simp only [Tv,T5,O2,Pf]
 refine Lk (Lk (QF ?_))
 show wpAny _ _ (Mi (.ref j1) >>= _) _ _ _
 by_cases hk:k=n1
 ·subst hk
  refine Lk (D1.done ⟨g1,g,d,tk₀,os⟩ _ _ (D1.but h1 hs1 Z.b1) fun g2 e hs2 he=>?_)
  replace hs2:OZ j1 g1 g2:=hs2
  obtain ⟨oe,hoe,hce⟩:=he
  have hz2:IsZip g2 z TI TO .ellipsis:=hs2 _ _ Z.a3.symm hz1
  have nez:e≠z:=fun q=>by
   subst q
   rw [hz2] at hoe
   cases hoe
   simp at hce
  refine NN hz2 (by simp) fun g3 _ hs3=>hE g3 e tk₀ (kp fun c o c1 _ c3 _ q=>hs3.extBut _ _ c1 (hs2 _ _ c3 (hs1.extBut _ _ c1 q))) ⟨oe,hs3.extBut _ _ nez hoe,hce⟩
 ·have hlt:k < n1:=by omega
  have hk2:k=n2:=by omega
  refine Lk (D1.item k ⟨g1,g,d,tk₀,os⟩ _ _ hlt (D1.but h1 hs1 Z.b1) fun x g2 tk1 px st1 hs2=>Lm ?_)
  replace hs2:LM j1 g1 g2:=hs2
  have hTO2:IsPair g2 TO a b:=hs2.extBut _ _ Z.a8 (hs1.extBut _ _ Z.a2 hTO)
  refine Lk (MD hTO2 rfl ?_)
  refine Lk (PZ hTO2 fun g3 hTO3 hs3=>?_)
  replace hs3:LM TO g2 g3:=hs3
  refine Lk (RH (Lm ?_))
  refine Lk (Lk (QF ?_))
  show wpAny _ _ (Mi (.ref j2) >>= _) _ _ _
  subst hk2
  refine Lk (D2.done ⟨g3,g,d,tk1,os⟩ _ _ (D2.but (D2.but (D2.but h2 hs1 Z.b4) hs2 Z.b6) hs3 Z.b5) fun g4 e hs4 he=>?_)
  replace hs4:OZ j2 g3 g4:=hs4
  obtain ⟨oe,hoe,hce⟩:=he
  have hz4:IsZip g4 z TI TO .ellipsis:=hs4 _ _ Z.a4.symm (hs3.extBut _ _ Z.a2.symm (hs2.extBut _ _ Z.a3.symm hz1))
  have nez:e≠z:=fun q=>by
   subst q
   rw [hz4] at hoe
   cases hoe
   simp at hce
  refine NN hz4 (by simp) fun g5 _ hs5=>hE g5 e tk1 (kp fun c o c1 c2 c3 c4 q=>hs5.extBut _ _ c1 (hs4 _ _ c4 (hs3.extBut _ _ c2 (hs2.extBut _ _ c3 (hs1.extBut _ _ c1 q))))) ⟨oe,hs5.extBut _ _ nez hoe,hce⟩
end
noncomputable abbrev zh1 (S1:Src) (h:Heap) (l1:Addr):Heap:=h.push { cls:=.type S1.icls,data:=.fields #[.ref l1,.int 0 0] }
noncomputable abbrev zh2 (S1 S2:Src) (h:Heap) (l1 l2:Addr):Heap:=(zh1 S1 h l1).push { cls:=.type S2.icls,data:=.fields #[.ref l2,.int 0 0] }
noncomputable abbrev zh3 (S1 S2:Src) (h:Heap) (l1 l2:Addr):Heap:=(zh2 S1 S2 h l1 l2).push { cls:=.type "tuple",data:=.seq #[.ref h.objs.size,.ref (zh1 S1 h l1).objs.size] }
noncomputable abbrev zh4 (S1 S2:Src) (h:Heap) (l1 l2:Addr):Heap:=(zh3 S1 S2 h l1 l2).push { cls:=.type "tuple",data:=.seq #[.none,.none] }
noncomputable abbrev zh5 (S1 S2:Src) (h:Heap) (l1 l2:Addr):Heap:=(zh4 S1 S2 h l1 l2).push { cls:=.type "zip",data:=.fields #[.none,.bool false,.bool false,.ref (zh2 S1 S2 h l1 l2).objs.size,.ref (zh3 S1 S2 h l1 l2).objs.size] }
theorem BM (S1 S2:Src) (l1 l2:Addr) (xs ys:Array Value):
  Meets (Builtin.«zip.__new__» ⟨[.type "zip",.ref l1,.ref l2],[]⟩) (fun _ R s=>S1.Is s.heap l1 xs/\S2.Is s.heap l2 ys/\R (.ok (.ret (.ref (zh4 S1 S2 s.heap l1 l2).objs.size))) { s with heap:=zh5 S1 S2 s.heap l1 l2 }):=
 .of_wp fun prog w A R s h=>by
  obtain ⟨hp,g,d,tk,os⟩:=s
  obtain ⟨q1,q2,h⟩:=h
  have hsub:=sub_zip
  have hL1:S1.Is (Te ⟨hp,g,d,tk,os⟩) l1 xs:=q1
  have hL2:S2.Is (Te ⟨zh1 S1 hp l1,g,d,tk,os⟩) l2 ys:=S2.isKeep q2 fun o e=>Ll _ e
  wp_walk using S1.iter hL1,S2.iter hL2
  exact ⟨_,rfl,h⟩
noncomputable def Itz (S1 S2 : Src) (K : Fg) (a b : Addr) : It :=
  ⟨fun i H => ∃ xs ys x y, S1.Sq K H a xs ∧ S2.Sq K H b ys ∧ xs[i]? = some x ∧ ys[i]? = some y,
   fun i H x H' => ∃ T u v, H T = none ∧ x = .ref T ∧ H' = upd H T (.tup [u, v]) ∧ ∀ xs ys, S1.Sq K H a xs → S2.Sq K H b ys → xs[i]? = some u ∧ ys[i]? = some v,
   fun i H => ∃ xs ys, S1.Sq K H a xs ∧ S2.Sq K H b ys ∧ min xs.length ys.length = i⟩
theorem zap {z TI TO j1 j2 a b:Addr} (nd:[z,TI,TO,j1,j2].Nodup) (h1:∀ c∈[z,TI,TO,j1,j2],c≠a) (h2:∀ c∈[z,TI,TO,j1,j2],c≠b):jk z TI TO j1 j2 [j1,a] [j2,b]:=by
 simp only [N8,Lq,Mp,or_false,not_or] at nd
 obtain ⟨⟨c1,c2,c3,c4⟩,⟨c5,c6,c7⟩,⟨c8,c9⟩,c10,_⟩:=nd
 have g1:=h1 z (by simp)
 have g2:=h1 TO (by simp)
 have g3:=h1 j2 (by simp)
 have g4:=h2 z (by simp)
 have g5:=h2 TO (by simp)
 have g6:=h2 j1 (by simp)
 exact ⟨MR c1,MR c2,MR c3,MR c4,c5,c6,c7,c8,c9,c10,by simp [c3,g1],by simp [c8,g2],by simp [MR c10,g3],by simp [c4,g4],by simp [c9,g5],by simp [c10,g6]⟩
theorem FY {P:Program} {w:World} {K:Fg} {elts:List Expr} {k0:Nat} {pos:Pos} (S1 S2:Src) (a b z TI TO j1 j2:Addr) (nd:[z,TI,TO,j1,j2].Nodup):
  qC P w K (.Tuple elts k0 pos) (Itz S1 S2 K a b) [z,TI,TO,j1,j2] z (fun i h=>IsZip h z TI TO .none/\IsPair h TI (.ref j1) (.ref j2)/\(∃ u v,IsPair h TO u v)/\S1.It h j1 a i/\S2.It h j2 b i) where
 mem:=by simp
 obj:=fun i h st c hc=>by
  obtain ⟨q1,q2,⟨u,v,q3⟩,q4,q5⟩:=st
  simp only [Lq,Mp,or_false] at hc
  rcases hc with rfl | rfl | rfl | rfl | rfl
  ·exact ⟨_,q1,fun v z=>nomatch z⟩
  ·exact ⟨_,q2,fun v z=>nomatch z⟩
  ·exact ⟨_,q3,fun v z=>nomatch z⟩
  ·obtain ⟨o,ho,_,hd⟩:=S1.isIt q4
   exact ⟨o,ho,fun v z=>by rw [hd] at z; cases z⟩
  ·obtain ⟨o,ho,_,hd⟩:=S2.isIt q5
   exact ⟨o,ho,fun v z=>by rw [hd] at z; cases z⟩
 keep:=fun i h h' st k=>by
  obtain ⟨q1,q2,⟨u,v,q3⟩,q4,q5⟩:=st
  exact ⟨k z (by simp) _ q1,k TI (by simp) _ q2,⟨u,v,k TO (by simp) _ q3⟩,S1.itKeep q4 fun o q=>k j1 (by simp) o q,S2.itKeep q5 fun o q=>k j2 (by simp) o q⟩
 item:=by
  intro X hP hw hK hc i pins s σ H E I hf st hg
  subst hP hw hK
  obtain ⟨xs,ys,x,y,hq1,hq2,hx,hy⟩:=hg
  obtain ⟨us,r1,p1,_⟩:=S1.get I hq1
  obtain ⟨vs,r2,p2,_⟩:=S2.get I hq2
  obtain ⟨q1,q2,⟨u0,v0,q3⟩,q4,q5⟩:=st
  obtain ⟨u,hu,ru⟩:=r1.get hx
  obtain ⟨v,hv,rv⟩:=r2.get hy
  have Z:=zap nd (fun c hc'=>S1.off I hq1 (hf c hc')) (fun c hc'=>S2.off I hq2 (hf c hc'))
  have hh:X.A.in1.handled=none:=I.ok.hd hc
  have n1:a≠j1:=MR (S1.off I hq1 (hf j1 (by simp)))
  have n2:b≠j2:=MR (S2.off I hq2 (hf j2 (by simp)))
  have l1:i < us.toArray.size:=by have:=(Ls.mp hu).1; simpa using this
  have l2:i < vs.toArray.size:=by have:=(Ls.mp hv).1; simpa using this
  have hT:s.TypeIs (.ref z) "zip":=⟨_,q1,rfl⟩
  unfold pyNext
  refine Lk (Od (Mq (name:=Nq "__next__") hT NT (Mh NT hT PC
   (xD (A:=X.A.in1) Z (S1.draws hh j1 a n1 us.toArray) (S2.draws hh j2 b n2 vs.toArray) q1 q2 q3 ⟨q4,p1⟩ ⟨q5,p2⟩ l1 l2 fun x' y' h' tk px py z1 z2 z3 z4 z5 z6 z7=>Lm ?_) (Pm _))))
  have ex:x'=u:=by
   have:us.toArray[i]?=some u:=by simpa using hu
   rw [this] at px
   exact (LF px).symm
  have ey:y'=v:=by
   have:vs.toArray[i]?=some v:=by simpa using hv
   rw [this] at py
   exact (LF py).symm
  subst ex ey
  refine ⟨_,rfl,wpAny_letOwnedTupleGo_zip z1 fun h2 w1 hs2=>?_⟩
  have nz:∀ c,c∈[TI,TO,j1,j2]->c≠z:=fun c hc' e=>by
   subst e
   exact (N8.mp nd).1 hc'
  have zlt:z < s.heap.objs.size:=Lv q1
  have hT2:h2.get? s.heap.objs.size=some { cls:=.type "tuple",data:=.seq #[x',y'] }:=hs2.extBut _ _ (JD (Lr _) zlt) z5
  have kept:∀ c ob,c∉[z,TI,TO,j1,j2]->s.heap.get? c=some ob->h2.get? c=some ob:=fun c ob hc' q=>hs2.extBut _ _ (fun e=>hc' (by simp [e])) (z6 c ob hc' q)
  obtain ⟨u1,v1,z2⟩:=z2
  refine ⟨.ref s.heap.objs.size,upd H s.heap.objs.size (.tup [x,y]),?_,rfl,⟨_,x,y,I.fresh,rfl,rfl,fun xs' ys' h1 h2=>by rw [S1.inj I h1 hq1,S2.inj I h2 hq2]; exact ⟨hx,hy⟩⟩,
   ⟨w1,hs2.extBut _ _ (nz TI (by simp)) z7,⟨u1,v1,hs2.extBut _ _ (nz TO (by simp)) z2⟩,S1.itKeep z3.1 fun o q=>hs2.extBut _ _ (nz j1 (by simp)) q,S2.itKeep z4.1 fun o q=>hs2.extBut _ _ (nz j2 (by simp)) q⟩,fun c hc'=>?_⟩
  ·exact I.turns (t':=tk) hf kept (Lr _) ⟨(by show 2<=Lz; decide),[x',y'],.cons ru (.cons rv .nil),_,hT2,rfl,⟨0,rfl⟩,rfl⟩
  ·have lt:c < s.heap.objs.size:=by
    have st':IsZip s.heap z TI TO .none/\IsPair s.heap TI (.ref j1) (.ref j2)/\(∃ u v,IsPair s.heap TO u v)/\S1.It s.heap j1 a i/\S2.It s.heap j2 b i:=⟨q1,q2,⟨u0,v0,q3⟩,q4,q5⟩
    simp only [Lq,Mp,or_false] at hc'
    rcases hc' with rfl | rfl | rfl | rfl | rfl
    ·exact zlt
    ·exact Lv q2
    ·exact Lv q3
    ·obtain ⟨o,ho,_⟩:=S1.isIt q4
     exact Lv ho
    ·obtain ⟨o,ho,_⟩:=S2.isIt q5
     exact Lv ho
   rw [aO (kS lt (Lr _))]
   exact (hf c hc').1
 done:=by
  intro X hP hw hK hc i pins s σ H E I hf st hg
  subst hP hw hK
  obtain ⟨xs,ys,hq1,hq2,hi⟩:=hg
  obtain ⟨us,r1,p1,_⟩:=S1.get I hq1
  obtain ⟨vs,r2,p2,_⟩:=S2.get I hq2
  obtain ⟨q1,q2,⟨u0,v0,q3⟩,q4,q5⟩:=st
  have Z:=zap nd (fun c hc'=>S1.off I hq1 (hf c hc')) (fun c hc'=>S2.off I hq2 (hf c hc'))
  have hh:X.A.in1.handled=none:=I.ok.hd hc
  have n1:a≠j1:=MR (S1.off I hq1 (hf j1 (by simp)))
  have n2:b≠j2:=MR (S2.off I hq2 (hf j2 (by simp)))
  have hT:s.TypeIs (.ref z) "zip":=⟨_,q1,rfl⟩
  have hl:i=min us.toArray.size vs.toArray.size:=by
   have:=r1.length
   have:=r2.length
   simp only [LK]
   omega
  unfold pyNext
  refine Lk (Od (Mq (name:=Nq "__next__") hT NT (Mh NT hT PC
   (zu (A:=X.A.in1) Z (S1.draws hh j1 a n1 us.toArray) (S2.draws hh j2 b n2 vs.toArray) q1 q2 q3 ⟨q4,p1⟩ ⟨q5,p2⟩ hl fun h' e tk kp he=>?_) (Pm _))))
  obtain ⟨o,ho,hcl⟩:=he
  refine Lk (Nt (T:="StopIteration") (b:=true) ⟨o,ho,hcl⟩ Pg ?_)
  exact Lm ⟨rfl,I.turnsN (t':=tk) hf kp⟩
 self:=fun _ _ _ _ _ st h=>Ra st.1 h
section
variable {X:Cx} {elts:List Expr} {k0:Nat} {tpos:Pos}
noncomputable def qK (S1 S2:Src) (K:Fg) (ta:TA):TI:=fun σ H R=>ta σ H fun vs H1=>∃ a b xs ys,vs=[.ref a,.ref b]/\S1.Sq K H1 a xs/\S2.Sq K H1 b ys/\R (Itz S1 S2 K a b) H1
theorem nV (S1 S2:Src) {a b:Expr} {ta:TA} {p pos:Pos} (hg:Gl X "zip") (hm:X.mg "zip"=none) (ha:PA X [a,b] ta) (hs:LP [a,b] X.env=[(false,eval a X.env),(false,eval b X.env)]:=by rfl) (hs2:LP [b] X.env=[(false,eval b X.env)]:=by rfl):
  PI X (.Tuple elts k0 tpos) (.Call (.Name "zip" p) [a,b] [] pos) (qK S1 S2 X.K ta):=by
 intro pins s σ H R I h
 refine Call_ (iz I hg hm boot_zip (MM (thn (ha pos pins s σ H _ I h) fun us s1 ⟨vs,H1,I1,r1,q1⟩=>?_) (by rw [hs,hs2]) (by rw [hs2]; rfl)))
 obtain ⟨l1,l2,xs,ys,e,hq1,hq2,q⟩:=q1
 subst e
 obtain ⟨u,v,rfl,ru,rv⟩:=r1.two
 cases ru
 cases rv
 obtain ⟨us1,_,p1,_⟩:=S1.get I1 hq1
 obtain ⟨us2,_,p2,_⟩:=S2.get I1 hq2
 refine SK F.called_zip (by decide) (Tw _ _) (T6 _ _) (fun obj=>Sd obj _ _) T7 (BM S1 S2 l1 l2 us1.toArray us2.toArray) ⟨p1,p2,?_⟩
 generalize hn:s1.heap.objs.size=n
 have z1:(zh1 S1 s1.heap l1).objs.size=n + 1:=by rw [Md,hn]
 have z2:(zh2 S1 S2 s1.heap l1 l2).objs.size=n + 2:=by rw [Md,z1]
 have z3:(zh3 S1 S2 s1.heap l1 l2).objs.size=n + 3:=by rw [Md,z2]
 have z4:(zh4 S1 S2 s1.heap l1 l2).objs.size=n + 4:=by rw [Md,z3]
 have g5:(zh5 S1 S2 s1.heap l1 l2).get? (zh4 S1 S2 s1.heap l1 l2).objs.size=some _:=Lx _ rfl
 have g4:(zh5 S1 S2 s1.heap l1 l2).get? (zh3 S1 S2 s1.heap l1 l2).objs.size=some _:=Ll _ (Lx _ rfl)
 have g3:(zh5 S1 S2 s1.heap l1 l2).get? (zh2 S1 S2 s1.heap l1 l2).objs.size=some _:=Ll _ (Ll _ (Lx _ rfl))
 have g2:(zh5 S1 S2 s1.heap l1 l2).get? (zh1 S1 s1.heap l1).objs.size=some _:=Ll _ (Ll _ (Ll _ (Lx _ rfl)))
 have g1:(zh5 S1 S2 s1.heap l1 l2).get? s1.heap.objs.size=some _:=Ll _ (Ll _ (Ll _ (Ll _ (Lx _ rfl))))
 have kp:∀ c o,s1.heap.get? c=some o->(zh5 S1 S2 s1.heap l1 l2).get? c=some o:=fun c o e=>
  Ll _ (Ll _ (Ll _ (Ll _ (Ll _ e))))
 show _/\_
 rw [z2,z3,z4] at g5
 rw [z1,z2,hn] at g3
 rw [z3] at g4
 rw [z1] at g2
 rw [hn] at g1
 rw [z4]
 refine ⟨⟨_,g5,rfl⟩,Ra g5 ?_⟩
 have I2:Inv X pins σ H1 { s1 with heap:=zh5 S1 S2 s1.heap l1 l2 }:=I1.kept (t':=s1.toks) kp
 refine ⟨n + 4,[n + 4,n + 2,n + 3,n,n + 1],_,_,H1,rfl,I2,FY S1 S2 l1 l2 _ _ _ _ _ (by simp),⟨g5,g3,⟨_,_,g4⟩,S1.mkI g1 rfl rfl,S2.mkI g2 rfl rfl⟩,fun c hc=>?_,q⟩
 have hc':s1.heap.objs.size<=c:=by
  rw [hn]
  simp only [Lq,Mp,or_false] at hc
  rcases hc with rfl | rfl | rfl | rfl | rfl
  ·exact Na _ _
  ·exact Na _ _
  ·exact Na _ _
  ·exact Lr _
  ·exact Na _ _
 exact I1.fpOk hc' (I1.hok.fresh hc')
end
end
section
open PySem.Spec
section
variable {X:Cx}
noncomputable def Hq (K:Fg):R2:=fun x y H Q=>∃ a b xs ys,x=.ref a/\y=.ref b/\SqT K H a xs/\SqT K H b ys/\xs.length + ys.length<=Lz/\
 (xs=[]->Q (.ref b) H)/\(xs≠[]->ys=[]->Q (.ref a) H)/\(xs≠[]->ys≠[]->∀ p,H p=none->Q (.ref p) (upd H p (.tup (xs++ys))))
theorem Ii:OpR X (Ob .Add) (Hq X.K):=by
 intro pins s σ H x y v u Q I rx ry h
 obtain ⟨a,b,xs,ys,rfl,rfl,ha,hb,hz,q0,q1,q2⟩:=h
 by_cases hx:xs=[]
 ·cases rx
  cases ry
  obtain ⟨its,r1,p1,_⟩:=I.tuple ha
  obtain ⟨its2,r2,p2,_⟩:=I.tuple hb
  obtain ⟨⟨cls,dd,data,sl⟩,ho,hc,n,hd⟩:=id p1
  obtain ⟨⟨cls2,dd2,data2,sl2⟩,ho2,hc2,n2,hd2⟩:=id p2
  simp only at hc hd hc2 hd2
  subst hc hd hc2 hd2
  have e:its=[]:=r1.nil_iff.mpr hx
  exact SH ⟨_,ho,rfl⟩ ⟨_,ho2,rfl⟩ Q6 Si Pp Ph (O7 _ _)
   (tuple_addW0 a b its.toArray its2.toArray n n2 dd dd2 sl sl2 (by simp [e])) ⟨ho,ho2,⟨.ref b,H,I,rfl,q0 hx⟩⟩
 ·exact Ic pins s σ H _ _ v u Q I rx ry ⟨a,b,xs,ys,rfl,rfl,ha,hb,hx,hz,q1 hx,q2 hx⟩
theorem xE {x:V}:∀ {xs:List V} {us:List Value},aH xs us->xs.all dQ=true->us.countP (eqU x)=xs.countP fun y=>eqV y x
 | _,_,.nil,_=>rfl
 | y :: xs,u :: us,.cons r t,f=>by
  rw [Oy,MY] at f
  rw [Tx,Tx,zn r f.1,xE t f.2]
noncomputable def tBT (r:V->List V->Hp->VK->Prop) (to:TE) (t:TA):TE:=fun σ H Q=>to σ H fun x H1=>(∃ a xs,x=.ref a/\H1 a=some (.tup xs))/\t σ H1 fun xs H2=>r x xs H2 Q
theorem Kv {o e:Expr} {es:List Expr} {to:TE} {t:TA} {name:Str} {apos cpos:Pos} {id:String} {r:V->List V->Hp->VK->Prop} (pa:PlainAttrs "tuple") (slot:Slot "tuple" name id) (hty:typeOf (.builtin id)=pure (.type "method_descriptor")) (hm:MtR X id r) (ho:PE X o to) (ha:PA X (e :: es) t)
  (hbase:OV o name X.env (eval o X.env)=eval o X.env:=by rfl)
  (hfew:((backTo cpos (LP (e :: es) X.env)).all (fun x=>!x.1) && (Pz cpos (OG [] X.env)).all (fun x=>x.1.isSome)
   && decide ((e :: es).length + ([]:List Keyword).length + (if ([]:List Keyword).isEmpty then 0 else 1) < 30))=true:=by rfl)
  (hline:(apos.endLine == cpos.line)=true:=by rfl) (hs:LP (e :: es) X.env=(false,eval e X.env) :: LP es X.env:=by rfl) (hplain:(backTo cpos (LP es X.env)).any (·.1)=false:=by rfl):
  PE X (.Call (.Attribute o name apos) (e :: es) [] cpos) (tBT r to t):=by
 intro pins s σ H Q I h
 refine Pq hbase hfew hline rfl (thn (ho pins s σ H _ I h) fun v s1 ⟨x,H1,I1,r1,ty,q1⟩=>?_)
 obtain ⟨a,xs,rfl,hx⟩:=ty
 cases r1
 obtain ⟨_,its,_,o',ho',hc',_,hd'⟩:=I1.hok a _ hx
 refine ⟨"tuple",id,pa,slot,hty,⟨o',ho',hc'⟩,fun b e=>?_,?_⟩
 ·cases e
  exact ⟨o',ho',hd'⟩
 have hA:=ha cpos pins s1 σ H1 _ I1 q1
 rw [hs] at hA ⊢
 refine Pr (by show (false || (backTo cpos (LP es X.env)).any (·.1))=false; rw [hplain] <;> rfl) (PU ?_)
 exact thn hA fun us s2 ⟨vs,H2,I2,r2,q2⟩=>hm pins s2 σ H2 (.ref a) vs (.ref a) us Q I2 rfl r2 q2
noncomputable def BN:V->List V->Hp->VK->Prop:=fun x vs H Q=>∃ l xs y,x=.ref l/\vs=[y]/\H l=some (.tup xs)/\dQ y=true/\xs.all dQ=true/\Q (.int (xs.countP fun z=>eqV z y:Nat)) H
theorem EE:MtR X "tuple.count" BN:=by
 intro pins s σ H x vs v us Q I rx rv h
 obtain ⟨l,xs,y,rfl,rfl,hH,fy,fx,q⟩:=h
 cases rx
 obtain ⟨u,rfl,ru⟩:=rv.one
 obtain ⟨_,its,r,⟨cls,dd,data,sl⟩,ho,hc,⟨n,hd⟩,hdd⟩:=I.hok l _ hH
 simp only at hc hd hdd
 subst hc hd hdd
 refine PX Rb ⟨_,ho,rfl⟩ PySem.F.entry_tuple_count (PySem.F.args_tuple_count_2 _ _) (SeqAt.tuple_countAt l its.toArray n none sl u (eqU y)) ⟨ho,fun z hz=>lR ru fy r fx z (by simpa using hz),?_⟩
 refine ⟨.int (xs.countP fun z=>eqV z y:Nat),H,I.tok _,⟨s.toks,?_⟩,q⟩
 show Oh ((its.toArray.toList.countP (eqU y):Nat):Int) s.toks=_
 rw [show its.toArray.toList=its from rfl,xE r fx]
theorem qL (hc:X.calm=true):cF X (.builtin "max") (fun xs H Q=>∃ (p:Addr) (ns:List Int),xs=[.ref p]/\SqL X.K H p (ns.map V.int)/\ns≠[]/\∀ M,M∈ns->(∀ a∈ns,a<=M)->Q (.int M) H):=by
 intro pins s σ H xs us Q I r h
 obtain ⟨p,ns,rfl,hq,hne,q⟩:=h
 obtain ⟨u,rfl,rx⟩:=r.one
 cases rx
 obtain ⟨its,rv,pl,hz⟩:=I.list hq
 have hi:=oN rv
 obtain ⟨zs,ez⟩:=(hi.allInts).items
 have hl:s.heap.IsList p (intItems zs):=by rw [<-ez]; exact pl.isList
 have hnum:zs.toList.map (·.1)=ns:=by
  rw [<-nums_intItems,<-ez]
  exact hi.numsOf
 have hsz:zs.size=ns.length:=by rw [<-hnum]; simp
 have hpos:0 < zs.size:=by
  rw [hsz]
  exact Qd.mpr hne
 refine max_intList (I.ok.hd hc) hl hpos fun v h' tk hv hk=>?_
 obtain ⟨t,rfl⟩:=intItems_at hv
 obtain ⟨h1,h2⟩:=argBest_gt (numAt zs) (zs.size - 1)
 refine ⟨.int _,H,I.kept hk,⟨t,rfl⟩,q _ ?_ fun a ha=>?_⟩
 ·rw [numAt_eq,hnum]
  exact getD_mem (by omega)
 ·rw [<-hnum] at ha
  obtain ⟨j,hj,rfl⟩:=mem_getD ha
  rw [Lp,Mc] at hj
  rw [<-numAt_eq]
  exact h2 j (by omega)
noncomputable def zv:V->List V->Hp->VK->Prop:=fun x vs H Q=>∃ (l:Addr) (ns:List Int) (m:Int) (j:Nat),x=.ref l/\vs=[.int m]/\H l=some (.lst (ns.map V.int))/\ns[j]?=some m/\(∀ i,i < j->ns[i]?≠some m)/\j<=1000/\Q (.int j) H
theorem FZ:MtR X "list.index" zv:=by
 intro pins s σ H x vs v us Q I rx rv h
 obtain ⟨l,ns,m,j,rfl,rfl,hH,hj,hno,h1000,q⟩:=h
 cases rx
 obtain ⟨u,rfl,t,rfl⟩:=rv.one
 obtain ⟨z,its,n,r,hl,e⟩:=I.lstM hH
 have at_:∀ (i:Nat) (hi:i < its.toArray.size),∃ k t',ns[i]?=some k/\its.toArray[i]=.int k t':=fun i hi=>by
  have hi':i < ns.length:=by
   rw [Lp] at hl
   have:i < its.length:=by simpa using hi
   omega
  obtain ⟨w',hw,rw'⟩:=r.get (i:=i) (x:=.int ns[i]) (by rw [LD,Lo hi'] <;> rfl)
  obtain ⟨t',e'⟩:=(show ∃ t',w'=Oh ns[i] t' from rw')
  have:=(Ls.mp hw).2
  exact ⟨ns[i],t',Lo hi',by rw [<-e']; simpa using this⟩
 have hjs:j < its.toArray.size:=by
  have:=(Ls.mp hj).1
  rw [Lp] at hl
  simp only [LK]
  omega
 refine PX Rj ⟨_,e,rfl⟩ PySem.F.entry_list_index (PySem.F.args_list_index_2 _ _) (SeqAt.list_indexAt l its.toArray n none #[] (.int m t) (eqU (.int m)) j hjs (by omega) ?_ ?_) ⟨e,fun y hy=>?_,?_⟩
 ·obtain ⟨k,t',e1,e2⟩:=at_ j hjs
  rw [e2]
  rw [hj] at e1
  cases e1
  exact beq_self_eq_true m
 ·intro i hi hlt
  obtain ⟨k,t',e1,e2⟩:=at_ i hi
  rw [e2]
  show (k == m)=false
  exact beq_eq_false_iff_ne.mpr fun z=>hno i hlt (by rw [e1,z])
 ·exact lR (x:=.int m) ⟨t,rfl⟩ rfl r (by rw [PY]; simp [dQ]) y (by simpa using hy)
 ·exact ⟨.int j,H,I.tok _,⟨_,rfl⟩,q⟩
end
end
end L2
section
namespace L2
open PySem
section
variable {σ:St} {H:Hp} {Q:VK} {D:jW} {K:Fg}
theorem bj {t u:TS} (h:t { nx:=u D,rt:=D.rt,bk:=D.bk,ct:=D.ct } σ H):aw t u D σ H:=h
theorem i7 {t u:TS} (h:∀ NX:St->Hp->Prop,(∀ σ H,u D σ H->NX σ H)->t { nx:=NX,rt:=D.rt,bk:=D.bk,ct:=D.ct } σ H):aw t u D σ H:=h _ fun _ _ h=>h
theorem EF (h:D.nx σ H):bh D σ H:=h
theorem kb {te:TE} {g:TG} (h:te σ H fun x H1=>g x σ H1 D.nx):aI te g D σ H:=h
theorem Kw {te:TE} (h:te σ H D.rt):aN te D σ H:=h
theorem JH (h:D.rt .non H):Kr D σ H:=h
theorem JI {te:TE} (h:te σ H fun _ H1=>D.nx σ H1):dw te D σ H:=h
theorem Hr {c:TT} {t u:TS} (h:c σ H fun b H1=>if b=true then t D σ H1 else u D σ H1):bD c t u D σ H:=h
theorem Ij (h:D.bk σ H):Jt D σ H:=h
theorem JJ (h:D.ct σ H):Kq D σ H:=h
theorem kJ {i:Nat} {v:V} {R:St->Hp->Prop} (h:R (σ.set i (some v)) H):aq i v σ H R:=h
theorem JK {to ti:TE} {t:Ce} {v:V} {R:St->Hp->Prop} (h:to σ H fun o H1=>ti σ H1 fun i H2=>t o i v H2 fun H3=>R σ H3):qA to ti t v σ H R:=h
theorem qM {p:Addr} {xs:List V} {k:Int} {v:V} {R:Hp->Prop} {j:Nat} (e:H p=some (.lst xs)) (hj:ixN xs.length k=some j) (h:R (upd H p (.lst (xs.set j v)))):mM (.ref p) (.int k) v H R:=⟨p,xs,k,j,rfl,rfl,e,hj,h⟩
theorem oT {i:Nat} {v:V} (e:σ[i]?=some (some v)) (h:Q v H):ac i σ H Q:=⟨v,e,h⟩
theorem r_c {v:V} (h:Q v H):tC v σ H Q:=h
theorem tW {r:R2} {ta tb:TE} (h:ta σ H fun x H1=>tb σ H1 fun y H2=>r x y H2 Q):tOp r ta tb σ H Q:=h
theorem K9 {r:V->Hp->VK->Prop} {ta:TE} (h:ta σ H fun x H1=>r x H1 Q):tUn r ta σ H Q:=h
theorem La {g:Int->Int->V} {i j:Int} (h:Q (g i j) H):rI0 g (.int i) (.int j) H Q:=⟨i,j,rfl,rfl,h⟩
theorem r_I {C:Int->Int->Prop} {g:Int->Int->V} {i j:Int} (c:C i j) (h:Q (g i j) H):rI C g (.int i) (.int j) H Q:=⟨i,j,rfl,rfl,c,h⟩
theorem r_U {g:Int->V} {i:Int} (h:Q (g i) H):rU g (.int i) H Q:=⟨i,rfl,h⟩
theorem Ky {i j:Int} (h:Q (.bl (decide (i=j))) H):rEq (.int i) (.int j) H Q:=⟨rfl,by rw [show decide (V.int i=V.int j)=decide (i=j) from decide_eq_decide.mpr ⟨fun e=>by injection e,fun e=>by rw [e]⟩]; exact h⟩
theorem Kz {i j:Int} (h:Q (.bl (!decide (i=j))) H):rNe (.int i) (.int j) H Q:=⟨rfl,by rw [show decide (V.int i=V.int j)=decide (i=j) from decide_eq_decide.mpr ⟨fun e=>by injection e,fun e=>by rw [e]⟩]; exact h⟩
theorem KA {i j:Bool} (h:Q (.bl (i == j)) H):rEq (.bl i) (.bl j) H Q:=⟨rfl,by rw [show decide (V.bl i=V.bl j)=(i == j) by cases i <;> cases j <;> rfl]; exact h⟩
theorem KB {i j:Bool} (h:Q (.bl (!(i == j))) H):rNe (.bl i) (.bl j) H Q:=⟨rfl,by rw [show decide (V.bl i=V.bl j)=(i == j) by cases i <;> cases j <;> rfl]; exact h⟩
theorem JL {t:TE} {R:Bool->Hp->Prop} (h:t σ H fun x H'=>∃ k,x=.bl k/\R k H'):bc t σ H R:=h
theorem Lb {t:TE} {R:Bool->Hp->Prop} (h:t σ H fun x H'=>∃ k,x=.bl k/\R k H'):tB t σ H R:=h
theorem Lc {b:Bool} {R:Bool->Prop} (h:R b):∃ k,V.bl b=.bl k/\R k:=⟨b,rfl,h⟩
theorem KC {t u:TT} {R:Bool->Hp->Prop} (h:t σ H fun c H1=>if c=true then u σ H1 R else R false H1):Cd t u σ H R:=h
theorem Ld {t u:TT} {R:Bool->Hp->Prop} (h:t σ H fun c H1=>if c=true then R true H1 else u σ H1 R):tOr t u σ H R:=h
theorem KD {t:TT} {R:Bool->Hp->Prop} (h:t σ H fun c H1=>R (!c) H1):iu t σ H R:=h
theorem JM {ta tb:TE} (h:ta σ H fun x H1=>∃ c,x=.bl c/\if c=true then tb σ H1 Q else Q (.bl false) H1):oI ta tb σ H Q:=h
theorem KG {ta tb:TE} (h:ta σ H fun x H1=>∃ c,x=.bl c/\if c=true then Q (.bl true) H1 else tb σ H1 Q):FI ta tb σ H Q:=h
theorem JN {ta:TE} (h:ta σ H fun x H1=>∃ c,x=.bl c/\Q (.bl (!c)) H1):yN ta σ H Q:=h
theorem Le {t:TT} {ta tb:TE} (h:t σ H fun c H1=>if c=true then ta σ H1 Q else tb σ H1 Q):tIf t ta tb σ H Q:=h
theorem Ik {r r':R2} {ta tb tc:TE} (h:ta σ H fun x H1=>tb σ H1 fun y H2=>r x y H2 fun z H3=>∃ k,z=.bl k/\(if k=true then tc σ H3 fun w' H4=>r' y w' H4 Q else Q (.bl false) H3)):zh r r' ta tb tc σ H Q:=h
theorem Hs {R:List V->Hp->Prop} (h:R [] H):ah σ H R:=h
theorem EG {ta:TE} {tr:TA} {R:List V->Hp->Prop} (h:ta σ H fun x H1=>tr σ H1 fun xs H2=>R (x :: xs) H2):aa ta tr σ H R:=h
theorem JO {sp:Sp} {E:XK} {t:TA} (h:t σ H fun vs H1=>sp vs H1 Q E):au sp [] E t σ H Q:=by
 show t σ H fun vs H1=>sp (vs++[]) H1 Q E
 simpa only [NG] using h
theorem Lf {r:List V->Hp->VK->Prop} {t:TA} (h:t σ H fun vs H1=>r vs H1 Q):tCB r t σ H Q:=h
theorem Lg {T:String} {r:V->List V->Hp->VK->Prop} {to:TE} {t:TA} (h:to σ H fun x H1=>tyV K T x H1/\t σ H1 fun xs H2=>r x xs H2 Q):tBM K T r to t σ H Q:=h
theorem KH {T:String} {r:V->List V->Hp->VK->Prop} {to:TE} (h:to σ H fun x H1=>tyV K T x H1/\r x [] H1 Q):K7 K T r to σ H Q:=h
theorem Lh {r:V->List V->Hp->VK->Prop} {to:TE} {t:TA} (h:to σ H fun x H1=>(∃ a xs,x=.ref a/\H1 a=some (.tup xs))/\t σ H1 fun xs H2=>r x xs H2 Q):tBT r to t σ H Q:=h
theorem Li {r:V->Option Int->Option Int->Hp->VK->Prop} {te:TE} {tl th:TO} (h:te σ H fun x H1=>tl σ H1 fun l H2=>th σ H2 fun u H3=>r x l u H3 Q):tSl r te tl th σ H Q:=h
theorem F0 {R:Option Int->Hp->Prop} (h:R none H):nR σ H R:=h
theorem JP {t:TE} {R:Option Int->Hp->Prop} (h:t σ H fun x H1=>∃ i,x=.int i/\R (some i) H1):uI t σ H R:=h
theorem KI {i:Int} {R:Int->Prop} (h:R i):∃ j,V.int i=.int j/\R j:=⟨i,rfl,h⟩
theorem KJ {wi:TI} {g:TG} {tb:TS} (h:wi σ H fun J H1=>∃ W:Nat->Nat->St->Hp->Prop,(∃ m,W 0 m σ H1)/\∀ i m σ H,W i m σ H->
  (J.stop i H/\D.nx σ H)\/(J.go i H/\∃ N:St->Hp->Prop,(∀ σ' H',N σ' H'->∃ m',m' < m/\W (i + 1) m' σ' H')/\∀ x H',J.yld i H x H'->g x σ H' fun σ2 H2=>tb { D with nx:=N,ct:=N,bk:=D.nx } σ2 H2)):dI wi g tb D σ H:=h
theorem JQ {wi:TI} {g:CF TG} {tt:CF TT} {te:CF TE} {ix:List (Option Nat)} (h:wi σ H fun J H1=>∀ p,H1 p=none->
  ∃ W:Nat->Nat->List V->Hp->Prop,(∃ m,W 0 m [] (upd H1 p (.lst [])))/\∀ C s' H' fp,cB J (g C s' H' fp) (tt C s' H' fp) (te C s' H' fp) (sub ix σ) p Q W):bW wi g tt te ix σ H Q:=h
section
variable {R:It->Hp->Prop}
theorem Il {tl:TE} (h:tl σ H fun x H1=>∃ a,x=.ref a/\(∃ xs,SqL K H1 a xs)/\R (Itl K a) H1):dc K tl σ H R:=h
theorem JR {tl:TE} (h:tl σ H fun x H1=>∃ a,x=.ref a/\(∃ xs,SqT K H1 a xs)/\R (Itt K a) H1):wv K tl σ H R:=h
theorem Im {ta:TA} (h:ta σ H fun vs H1=>∃ j:Int,vs=[.int j]/\-(2 ^ 62)<=j/\j < 2 ^ 62/\R (Itr 0 j.toNat) H1):fA ta σ H R:=h
theorem Io {ta:TA} (h:ta σ H fun vs H1=>∃ i j:Int,vs=[.int i,.int j]/\(-(2 ^ 62)<=i/\i < 2 ^ 62/\-(2 ^ 62)<=j/\j < 2 ^ 62)/\R (Itr i (j - i).toNat) H1):Ks ta σ H R:=h
theorem Ip {S:Src} {ta:TA} (h:ta σ H fun vs H1=>∃ a xs,vs=[.ref a]/\S.Sq K H1 a xs/\R (Ite S K a) H1):rX S K ta σ H R:=h
theorem JS {S1 S2:Src} {ta:TA} (h:ta σ H fun vs H1=>∃ a b xs ys,vs=[.ref a,.ref b]/\S1.Sq K H1 a xs/\S2.Sq K H1 b ys/\R (Itz S1 S2 K a b) H1):qK S1 S2 K ta σ H R:=h
end
noncomputable def Off (l:Addr) (H H':Hp):Prop:=∀ b,b≠l->H' b=H b
theorem i8 {l:Addr} {o:HO}:Off l H (upd H l o):=fun b hb=>aO hb
theorem ap.off {H0 H':Hp} {l:Addr} (s:ap H0 H) (h:H0 l=none) (o:Off l H H'):ap H0 H':=fun b u q=>by rw [o b (aR q h)]; exact s b u q
noncomputable def dJ (H H':Hp):Prop:=∀ b xs,H b=some (.tup xs)->H' b=some (.tup xs)
theorem dJ.refl (H:Hp):dJ H H:=fun _ _ h=>h
theorem ap.keep {H':Hp} (s:ap H H'):dJ H H':=fun b _ h=>s b _ h
theorem dJ.trans {H1 H2:Hp} (a:dJ H H1) (b:dJ H1 H2):dJ H H2:=fun c o h=>b c o (a c o h)
theorem Off.keep {H':Hp} {l:Addr} {xs:List V} (o:Off l H H') (e:H l=some (.lst xs)):dJ H H':=fun b ys q=>by
 rw [o b (Cc q e (by intro z; cases z))]
 exact q
theorem JT {t:TA} (h:t σ H fun xs H1=>xs.length<=Lz/\∀ p,H1 p=none->Q (.ref p) (upd H1 p (.tup xs))):Cm t σ H Q:=h
theorem JU {t:TA} (h:t σ H fun xs H1=>xs.length<=Lz/\∀ p,H1 p=none->Q (.ref p) (upd H1 p (.lst xs))):zj t σ H Q:=h
theorem jZ {l:Addr} {xs:List V} {y:V} (e:H l=some (.lst xs)) (hz:xs.length < Lz) (h:∀ H',Off l H H'->H' l=some (.lst (xs++[y]))->Q .non H'):gX (.ref l) [y] H Q:=⟨l,xs,y,rfl,rfl,e,hz,h _ i8 az⟩
theorem yQ {l:Addr} {xs:List V} (e:H l=some (.lst xs)):tyV K "list" (.ref l) H:=.inl ⟨rfl,xs,SqL.of e⟩
theorem bA {l:Addr} {xs:List V} {i:Int} {v:V} (e:SqL K H l xs) (hv:atI xs i=some v) (h:Q v H):bR K (.ref l) (.int i) H Q:=⟨l,xs,i,v,rfl,rfl,e,hv,h⟩
theorem ba {l:Addr} {xs:List V} {i:Int} {v:V} (e:SqT K H l xs) (hv:atI xs i=some v) (h:Q v H):bU K (.ref l) (.int i) H Q:=⟨l,xs,i,v,rfl,rfl,e,hv,h⟩
end
theorem dE {p A B:Prop} [Decidable p] (h1:p->A) (h2:¬ p->B):if decide p=true then A else B:=by
 by_cases h:p
 ·rw [if_pos (decide_eq_true h)]; exact h1 h
 ·rw [if_neg (by rw [decide_eq_false h]; exact LB)]; exact h2 h
theorem zw {p A B:Prop} [Decidable p] (h1:¬ p->A) (h2:p->B):if (!decide p)=true then A else B:=by
 by_cases h:p
 ·rw [if_neg (by rw [decide_eq_true h]; exact LB)]; exact h2 h
 ·rw [if_pos (by rw [decide_eq_false h]; rfl)]; exact h1 h
theorem dY {p A B:Prop} [Decidable p] (h:p) (h1:A):if decide p=true then A else B:=dE (fun _=>h1) (fun n=>absurd h n)
theorem aX {p A B:Prop} [Decidable p] (h:¬ p) (h1:B):if decide p=true then A else B:=dE (fun n=>absurd n h) (fun _=>h1)
theorem Cr {A B:Prop} (h:B):if (!true)=true then A else B:=by exact oO h
theorem KK {A B:Prop} (h:A):if (!false)=true then A else B:=by exact qH h
theorem F1 {σ:St} {H:Hp} {R:Bool->Hp->Prop} (h:R true H):bM σ H R:=h
theorem Cs {B:(St->Hp->Prop)->Prop} {R:St->Hp->Prop} (h:B R):∃ N:St->Hp->Prop,(∀ σ' H',N σ' H'->R σ' H')/\B N:=⟨R,fun _ _ h=>h,h⟩
theorem Ct {c:TT} {tb:TS} {D:jW} {σ:St} {H:Hp} (W:Nat->St->Hp->Prop) (m:Nat) (h0:W m σ H) (h:∀ m σ H,W m σ H->c σ H fun b H1=>if b=true then ∃ N:St->Hp->Prop,(∀ σ' H',N σ' H'->∃ m',m' < m/\W m' σ' H')/\tb { D with nx:=N,ct:=N,bk:=D.nx } σ H1 else D.nx σ H1):
  nO c tb D σ H:=⟨W,⟨m,h0⟩,h⟩
noncomputable def eQ (K:Fg):List V->Hp->VK->Prop:=fun xs H Q=>∃ p ys,xs=[.ref p]/\(SqL K H p ys\/SqT K H p ys)/\Q (.int ys.length) H
noncomputable def tX (K:Fg):List V->Hp->VK->Prop:=fun xs H Q=>∃ (p:Addr) (ns:List Int),xs=[.ref p]/\SqL K H p (ns.map V.int)/\Q (.int ns.sum) H
noncomputable def Cu (K:Fg):List V->Hp->VK->Prop:=fun xs H Q=>∃ (p:Addr) (bs:List Bool),xs=[.ref p]/\SqL K H p (bs.map V.bl)/\Q (.bl (bs.all id)) H
noncomputable def wD (K:Fg):List V->Hp->VK->Prop:=fun xs H Q=>∃ (p:Addr) (ns:List Int),xs=[.ref p]/\SqL K H p (ns.map V.int)/\ns≠[]/\∀ M,M∈ns->(∀ a∈ns,a<=M)->Q (.int M) H
noncomputable def Cv:List V->Hp->VK->Prop:=fun xs H Q=>∃ i j,xs=[.int i,.int j]/\Q (.int (if j < i then j else i)) H
noncomputable def Ht:List V->Hp->VK->Prop:=fun xs H Q=>∃ i j,xs=[.int i,.int j]/\Q (.int (if j > i then j else i)) H
noncomputable def F2:List V->Hp->VK->Prop:=fun xs H Q=>(∃ i,xs=[.int i]/\Q (.int i) H)\/∃ k,xs=[.bl k]/\Q (.int (if k then 1 else 0)) H
noncomputable def JV (K:Fg):List V->Hp->VK->Prop:=fun xs H Q=>∃ p ys,xs=[.ref p]/\((SqL K H p ys/\∀ l,H l=none->Q (.ref l) (upd H l (.tup ys)))\/(SqT K H p ys/\Q (.ref p) H))
section
variable {K:Fg} {H:Hp} {Q:VK}
theorem rZ {l:Addr} {ys:List V} (e:SqL K H l ys) (h:Q (.int ys.length) H):eQ K [.ref l] H Q:=⟨l,ys,rfl,.inl e,h⟩
theorem BO {l:Addr} {ys:List V} (e:SqT K H l ys) (h:Q (.int ys.length) H):eQ K [.ref l] H Q:=⟨l,ys,rfl,.inr e,h⟩
theorem Cw {l:Addr} {ns:List Int} (e:SqL K H l (ns.map V.int)) (h:Q (.int ns.sum) H):tX K [.ref l] H Q:=⟨l,ns,rfl,e,h⟩
theorem JW {i j:Int} (h:Q (.int (if j < i then j else i)) H):Cv [.int i,.int j] H Q:=⟨i,j,rfl,h⟩
theorem JX {i j:Int} (h:Q (.int (if j > i then j else i)) H):Ht [.int i,.int j] H Q:=⟨i,j,rfl,h⟩
theorem JY {i:Int} (h:Q (.int i) H):F2 [.int i] H Q:=.inl ⟨i,rfl,h⟩
theorem JZ {k:Bool} (h:Q (.int (if k then 1 else 0)) H):F2 [.bl k] H Q:=.inr ⟨k,rfl,h⟩
end
noncomputable def New (H:Hp) (o:HO) (Q:Addr->Hp->Prop):Prop:=∀ p H',H p=none->ap H H'->H' p=some o->Q p H'
theorem New.upd {H:Hp} {o:HO} {Q:Addr->Hp->Prop} (h:New H o Q):∀ p,H p=none->Q p (upd H p o):=fun p hp=>h p _ hp (bf hp _) az
noncomputable def cp (t:TA):TE:=fun σ H Q=>t σ H fun xs H1=>xs.length<=Lz/\New H1 (.tup xs) fun p H2=>Q (.ref p) H2
noncomputable def fq (t:TA):TE:=fun σ H Q=>t σ H fun xs H1=>xs.length<=Lz/\New H1 (.lst xs) fun p H2=>Q (.ref p) H2
noncomputable def qN:R2:=fun x y H Q=>∃ l b xs zs,x=.ref l/\y=.ref b/\H l=some (.lst xs)/\H b=some (.lst zs)/\xs.length + zs.length<=Lz/\New H (.lst (xs++zs)) fun p H2=>Q (.ref p) H2
noncomputable def F3:R2:=fun x y H Q=>∃ l k xs,x=.ref l/\y=.int k/\H l=some (.lst xs)/\-(2 ^ 63)<=k/\k < 2 ^ 63/\xs.length * k.toNat<=Lz/\New H (.lst (Mf k.toNat xs).flatten) fun p H2=>Q (.ref p) H2
noncomputable def gG (K:Fg):List V->Hp->VK->Prop:=fun xs H Q=>∃ p ys,xs=[.ref p]/\(SqL K H p ys\/SqT K H p ys)/\New H (.lst ys) fun l H2=>Q (.ref l) H2
noncomputable def wE (K:Fg):List V->Hp->VK->Prop:=fun xs H Q=>∃ p ys,xs=[.ref p]/\SqL K H p ys/\New H (.tup ys) fun l H2=>Q (.ref l) H2
section
variable {σ:St} {H:Hp} {Q:VK} {K:Fg}
theorem KL {t:TA} (h:t σ H fun xs H1=>xs.length<=Lz/\New H1 (.tup xs) fun p H2=>Q (.ref p) H2):cp t σ H Q:=h
theorem r6 {t:TA} (h:t σ H fun xs H1=>xs.length<=Lz/\New H1 (.lst xs) fun p H2=>Q (.ref p) H2):fq t σ H Q:=h
theorem r9 {l b:Addr} {xs zs:List V} (h1:H l=some (.lst xs)) (h2:H b=some (.lst zs)) (hz:xs.length + zs.length<=Lz) (h:∀ p H',H p=none->ap H H'->H' p=some (.lst (xs++zs))->Q (.ref p) H'):qN (.ref l) (.ref b) H Q:=⟨l,b,xs,zs,rfl,rfl,h1,h2,hz,h⟩
theorem jl {p:Addr} {ys:List V} (e:SqL K H p ys) (h:∀ l H',H l=none->ap H H'->H' l=some (.lst ys)->Q (.ref l) H'):gG K [.ref p] H Q:=⟨p,ys,rfl,.inl e,h⟩
theorem Iq {p:Addr} {ys:List V} (e:SqL K H p ys) (h:∀ l H',H l=none->ap H H'->H' l=some (.tup ys)->Q (.ref l) H'):wE K [.ref p] H Q:=⟨p,ys,rfl,e,h⟩
end
section
variable {g:TG} {tb:TS} {NX:St->Hp->Prop} {RT:VK} {σ:St} {H:Hp} {K:Fg}
theorem j0 {j:Int} (n:Nat) (hn:j.toNat=n) (hj:j<=1000000000) (hj0:-1000000000<=j) (Pv:Nat->St->Hp->Prop) (h0:Pv 0 σ H) (hs:∀ i σ H,i < n->Pv i σ H->g (.int i) σ H fun σ2 H2=>tb { nx:=Pv (i + 1),rt:=RT,bk:=NX,ct:=Pv (i + 1) } σ2 H2) (hd:∀ σ H,Pv n σ H->NX σ H):
  ∃ j':Int,[V.int j]=[.int j']/\-(2 ^ 62)<=j'/\j' < 2 ^ 62/\∃ W:Nat->Nat->St->Hp->Prop,(∃ m,W 0 m σ H)/\∀ i m σ H,W i m σ H->
   ((Itr 0 j'.toNat).stop i H/\NX σ H)\/((Itr 0 j'.toNat).go i H/\∃ N:St->Hp->Prop,(∀ σ' H',N σ' H'->∃ m',m' < m/\W (i + 1) m' σ' H')/\∀ x H',(Itr 0 j'.toNat).yld i H x H'->g x σ H' fun σ2 H2=>tb { nx:=N,rt:=RT,bk:=NX,ct:=N } σ2 H2):=by
 refine ⟨j,rfl,by omega,by omega,?_⟩
 subst hn
 exact qD (lo:=0) (D:={ nx:=NX,rt:=RT }) Pv h0 (fun i σ H hi p=>by rw [Rc]; exact hs i σ H hi p) hd
theorem lL {a:Addr} (xs:List V) (hx:SqL K H a xs) (Pv:Nat->St->Hp->Prop) (h0:Pv 0 σ H) (hl:∀ i σ H,i<=xs.length->Pv i σ H->SqL K H a xs) (hs:∀ i x σ H,xs[i]?=some x->Pv i σ H->g x σ H fun σ2 H2=>tb { nx:=Pv (i + 1),rt:=RT,bk:=NX,ct:=Pv (i + 1) } σ2 H2) (hd:∀ σ H,Pv xs.length σ H->NX σ H):
  ∃ a',V.ref a=.ref a'/\(∃ xs,SqL K H a' xs)/\∃ W:Nat->Nat->St->Hp->Prop,(∃ m,W 0 m σ H)/\∀ i m σ H,W i m σ H->
   ((Itl K a').stop i H/\NX σ H)\/((Itl K a').go i H/\∃ N:St->Hp->Prop,(∀ σ' H',N σ' H'->∃ m',m' < m/\W (i + 1) m' σ' H')/\∀ x H',(Itl K a').yld i H x H'->g x σ H' fun σ2 H2=>tb { nx:=N,rt:=RT,bk:=NX,ct:=N } σ2 H2):=
 ⟨a,rfl,⟨xs,hx⟩,tR (D:={ nx:=NX,rt:=RT }) Pv h0 hl hs hd⟩
theorem zx {a:Addr} (xs:List V) (hx:SqT K H a xs) (Pv:Nat->St->Hp->Prop) (h0:Pv 0 σ H) (hl:∀ i σ H,i<=xs.length->Pv i σ H->SqT K H a xs) (hs:∀ i x σ H,xs[i]?=some x->Pv i σ H->g x σ H fun σ2 H2=>tb { nx:=Pv (i + 1),rt:=RT,bk:=NX,ct:=Pv (i + 1) } σ2 H2) (hd:∀ σ H,Pv xs.length σ H->NX σ H):
  ∃ a',V.ref a=.ref a'/\(∃ xs,SqT K H a' xs)/\∃ W:Nat->Nat->St->Hp->Prop,(∃ m,W 0 m σ H)/\∀ i m σ H,W i m σ H->
   ((Itt K a').stop i H/\NX σ H)\/((Itt K a').go i H/\∃ N:St->Hp->Prop,(∀ σ' H',N σ' H'->∃ m',m' < m/\W (i + 1) m' σ' H')/\∀ x H',(Itt K a').yld i H x H'->g x σ H' fun σ2 H2=>tb { nx:=N,rt:=RT,bk:=NX,ct:=N } σ2 H2):=
 ⟨a,rfl,⟨xs,hx⟩,HU (D:={ nx:=NX,rt:=RT }) Pv h0 hl hs hd⟩
theorem BP {S:Src} {a:Addr} (xs:List V) (hx:S.Sq K H a xs) (Pv:Nat->St->Hp->Prop) (h0:Pv 0 σ H) (hl:∀ i σ H,i<=xs.length->Pv i σ H->S.Sq K H a xs)
  (hs:∀ i x T σ H H',xs[i]?=some x->Pv i σ H->H T=none->ap H H'->H' T=some (.tup [.int i,x])->g (.ref T) σ H' fun σ2 H2=>tb { nx:=Pv (i + 1),rt:=RT,bk:=NX,ct:=Pv (i + 1) } σ2 H2) (hd:∀ σ H,Pv xs.length σ H->NX σ H):
  ∃ a' xs',[V.ref a]=[.ref a']/\S.Sq K H a' xs'/\∃ W:Nat->Nat->St->Hp->Prop,(∃ m,W 0 m σ H)/\∀ i m σ H,W i m σ H->
   ((Ite S K a').stop i H/\NX σ H)\/((Ite S K a').go i H/\∃ N:St->Hp->Prop,(∀ σ' H',N σ' H'->∃ m',m' < m/\W (i + 1) m' σ' H')/\∀ x H',(Ite S K a').yld i H x H'->g x σ H' fun σ2 H2=>tb { nx:=N,rt:=RT,bk:=NX,ct:=N } σ2 H2):=
 ⟨a,xs,rfl,hx,zr (D:={ nx:=NX,rt:=RT }) Pv h0 hl (fun i x T σ H e p hT=>hs i x T σ H _ e p hT (bf hT _) az) hd⟩
end
theorem zy {α:Type} [DecidableEq α]:∀ {xs:List α} {m:α},m∈xs->∃ j:Nat,xs[j]?=some m/\∀ i:Nat,i < j->xs[i]?≠some m
 | x :: r,m,h=>by
  by_cases e:x=m
  ·exact ⟨0,by rw [e]; rfl,fun i hi=>absurd hi (by omega)⟩
  ·have hm:m∈r:=by
    rcases Lq.mp h with h | h
    ·exact absurd h.symm e
    ·exact h
   obtain ⟨j,h1,h2⟩:=zy hm
   refine ⟨j + 1,h1,fun i hi=>?_⟩
   cases i with
   | zero=>intro z; exact e (LF z)
   | succ i=>exact h2 i (by omega)
theorem iA {K:Fg} {i j:Nat} {a:Addr} {x y:V} {σ:St} {H:Hp} {R:St->Hp->Prop} (e:SqT K H a [x,y]) (h:R ((σ.set i (some x)).set j (some y)) H):jg K 2 (ca (aq i) (ca (aq j) jf)) (.ref a) σ H R:=
 ⟨a,[x,y],rfl,e,rfl,x,[y],rfl,y,[],rfl,rfl,h⟩
noncomputable def bu (H:Hp) (p:Addr) (R:Nat->List V->Hp->Prop) (i:Nat) (acc:List V) (H2:Hp):Prop:=ap H H2/\H2 p=some (.lst acc)/\acc.length<=i/\R i acc H2
theorem bu.put {H H4:Hp} {p:Addr} {R:Nat->List V->Hp->Prop} {i:Nat} {acc:List V} {y:V} (hp:H p=none) (st:∀ i acc H H',R i acc H->dJ H H'->R i acc H') (s:ap H H4) (e:H4 p=some (.lst acc)) (l:acc.length<=i) (r:R (i + 1) (acc++[y]) H4):
  H4 p=some (.lst acc)/\bu H p R (i + 1) (acc++[y]) (upd H4 p (.lst (acc++[y]))):=
 ⟨e,s.upd hp _,az,by rw [LG]; exact OT l 1,st _ _ _ _ r (i8.keep e)⟩
theorem bu.skip {H H4:Hp} {p:Addr} {R:Nat->List V->Hp->Prop} {i:Nat} {acc:List V} (s:ap H H4) (e:H4 p=some (.lst acc)) (l:acc.length<=i) (r:R (i + 1) acc H4):bu H p R (i + 1) acc H4:=⟨s,e,by omega,r⟩
section
variable {g:CF TG} {tt:CF TT} {te:CF TE} {σ₀:St} {Q:VK} {H:Hp} {K:Fg}
theorem zz {j:Int} (n:Nat) (hn:j.toNat=n) (hj:j<=1000000) (hj0:-1000000<=j) (R:Nat->List V->Hp->Prop) (h0:∀ H',ap H H'->R 0 [] H')
  (hs:∀ p,H p=none->∀ C s' H' fp,∀ i acc H2,i < n->bu H p R i acc H2->g C s' H' fp (.int i) σ₀ H2 fun σ2 H3=>tt C s' H' fp σ2 H3 fun b H4=>if b=true then te C s' H' fp σ2 H4 fun y H5=>H5 p=some (.lst acc)/\bu H p R (i + 1) (acc++[y]) (upd H5 p (.lst (acc++[y]))) else bu H p R (i + 1) acc H4)
  (hd:∀ p acc H2,H p=none->ap H H2->H2 p=some (.lst acc)->R n acc H2->Q (.ref p) H2):
  ∃ j':Int,[V.int j]=[.int j']/\-(2 ^ 62)<=j'/\j' < 2 ^ 62/\∀ p,H p=none->∃ W:Nat->Nat->List V->Hp->Prop,(∃ m,W 0 m [] (upd H p (.lst [])))/\∀ C s' H' fp,cB (Itr 0 j'.toNat) (g C s' H' fp) (tt C s' H' fp) (te C s' H' fp) σ₀ p Q W:=by
 refine ⟨j,rfl,by omega,by omega,fun p hp=>?_⟩
 subst hn
 exact oS (lo:=0) (bu H p R) ⟨bf hp _,az,Lr _,h0 _ (bf hp _)⟩ (fun i acc H2 _ c=>⟨c.2.1,c.2.2.1⟩) (by rw [Lw]; omega) (fun C s' H' fp i acc H2 hi c=>by rw [Rc]; exact hs p hp C s' H' fp i acc H2 hi c) fun acc H2 c=>hd p acc H2 hp c.1 c.2.1 c.2.2.2
theorem gp {a:Addr} (xs:List V) (hx:SqL K H a xs) (hz:xs.length<=1000000) (R:Nat->List V->Hp->Prop) (h0:∀ H',ap H H'->R 0 [] H')
  (hs:∀ p,H p=none->∀ C s' H' fp,∀ i x acc H2,xs[i]?=some x->bu H p R i acc H2->g C s' H' fp x σ₀ H2 fun σ2 H3=>tt C s' H' fp σ2 H3 fun b H4=>if b=true then te C s' H' fp σ2 H4 fun y H5=>H5 p=some (.lst acc)/\bu H p R (i + 1) (acc++[y]) (upd H5 p (.lst (acc++[y]))) else bu H p R (i + 1) acc H4)
  (hd:∀ p acc H2,H p=none->ap H H2->H2 p=some (.lst acc)->R xs.length acc H2->Q (.ref p) H2):
  ∃ a',V.ref a=.ref a'/\(∃ xs,SqL K H a' xs)/\∀ p,H p=none->∃ W:Nat->Nat->List V->Hp->Prop,(∃ m,W 0 m [] (upd H p (.lst [])))/\∀ C s' H' fp,cB (Itl K a') (g C s' H' fp) (tt C s' H' fp) (te C s' H' fp) σ₀ p Q W:=
 ⟨a,rfl,⟨xs,hx⟩,fun p hp=>xC (bu H p R) ⟨bf hp _,az,Lr _,h0 _ (bf hp _)⟩ (fun i acc H2 _ c=>⟨c.2.1,c.2.2.1⟩) (fun i acc H2 _ c=>c.1.seq hx) (by rw [Lw]; omega) (fun C s' H' fp i x acc H2 hi c=>hs p hp C s' H' fp i x acc H2 hi c) fun acc H2 c=>hd p acc H2 hp c.1 c.2.1 c.2.2.2⟩
end
section
variable {g:TG} {tb:TS} {NX:St->Hp->Prop} {RT:VK} {σ:St} {H:Hp} {K:Fg}
theorem J0 {S1 S2:Src} {a b:Addr} (xs ys:List V) (hx:S1.Sq K H a xs) (hy:S2.Sq K H b ys) (Pv:Nat->St->Hp->Prop) (h0:Pv 0 σ H) (hl:∀ i σ H,Pv i σ H->S1.Sq K H a xs/\S2.Sq K H b ys)
  (hs:∀ i x y T σ H H',xs[i]?=some x->ys[i]?=some y->Pv i σ H->H T=none->ap H H'->H' T=some (.tup [x,y])->g (.ref T) σ H' fun σ2 H2=>tb { nx:=Pv (i + 1),rt:=RT,bk:=NX,ct:=Pv (i + 1) } σ2 H2) (hd:∀ σ H,Pv (min xs.length ys.length) σ H->NX σ H):
  ∃ a' b' xs' ys',[V.ref a,V.ref b]=[.ref a',.ref b']/\S1.Sq K H a' xs'/\S2.Sq K H b' ys'/\∃ W:Nat->Nat->St->Hp->Prop,(∃ m,W 0 m σ H)/\∀ i m σ H,W i m σ H->
   ((Itz S1 S2 K a' b').stop i H/\NX σ H)\/((Itz S1 S2 K a' b').go i H/\∃ N:St->Hp->Prop,(∀ σ' H',N σ' H'->∃ m',m' < m/\W (i + 1) m' σ' H')/\∀ x H',(Itz S1 S2 K a' b').yld i H x H'->g x σ H' fun σ2 H2=>tb { nx:=N,rt:=RT,bk:=NX,ct:=N } σ2 H2):=by
 refine ⟨a,b,xs,ys,rfl,hx,hy,EB (J:=Itz S1 S2 K a b) (n:=min xs.length ys.length) (D:={ nx:=NX,rt:=RT }) (Y:=fun i H x H1=>∃ T u v,H T=none/\x=.ref T/\H1=upd H T (.tup [u,v])/\xs[i]?=some u/\ys[i]?=some v) Pv h0 (fun i σ H hi w=>?_) (fun σ H w=>?_) (fun i σ H x H1 hi w y=>?_) (fun i x σ H H1 hi w y=>?_) hd⟩
 ·obtain ⟨q1,q2⟩:=hl i σ H w
  exact ⟨xs,ys,xs[i],ys[i],q1,q2,by simp [show i < xs.length by omega],by simp [show i < ys.length by omega]⟩
 ·obtain ⟨q1,q2⟩:=hl _ σ H w
  exact ⟨xs,ys,q1,q2,rfl⟩
 ·obtain ⟨T,u,v,e1,e2,e3,e4⟩:=y
  obtain ⟨q1,q2⟩:=hl _ σ H w
  obtain ⟨e5,e6⟩:=e4 xs ys q1 q2
  exact ⟨T,u,v,e1,e2,e3,e5,e6⟩
 ·obtain ⟨T,u,v,e1,rfl,rfl,e4,e5⟩:=y
  exact hs i u v T σ H _ e4 e5 w e1 (bf e1 _) az
end
section
variable {K:Fg} {H:Hp} {Q:VK} {a b:Addr} {ns ms:List Int}
theorem KO (h1:SqT K H a (ns.map V.int)) (h2:SqT K H b (ms.map V.int)) (h:Q (.bl (decide (ns=ms))) H):wC (SqT K) false (.ref a) (.ref b) H Q:=⟨a,b,_,_,_,rfl,rfl,h1,h2,EA ns ms,by rw [Cq]; exact h⟩
theorem ly {x:V} {T:String} {t:Value} {c:Bool} (ty:fR K H x t) (e:Ms K t (.type T)=some c) (h:Q (.bl c) H):lT K [x,.ty T] H Q:=⟨x,T,t,c,rfl,ty,e,h⟩
end
section
variable {g:CF TG} {tt:CF TT} {te:CF TE} {σ₀:St} {Q:VK} {H:Hp} {K:Fg}
theorem qO {S1 S2:Src} {a b:Addr} (xs ys:List V) (hx:S1.Sq K H a xs) (hy:S2.Sq K H b ys) (kx:∀ H',ap H H'->S1.Sq K H' a xs) (ky:∀ H',ap H H'->S2.Sq K H' b ys) (hz:xs.length<=1000000) (R:Nat->List V->Hp->Prop) (h0:∀ H',ap H H'->R 0 [] H')
  (hs:∀ p,H p=none->∀ C s' H' fp,∀ i x y T acc H2 H3,xs[i]?=some x->ys[i]?=some y->bu H p R i acc H2->H2 T=none->ap H2 H3->H3 T=some (.tup [x,y])->H3 p=some (.lst acc)->g C s' H' fp (.ref T) σ₀ H3 fun σ2 H3=>tt C s' H' fp σ2 H3 fun b H4=>if b=true then te C s' H' fp σ2 H4 fun y H5=>H5 p=some (.lst acc)/\bu H p R (i + 1) (acc++[y]) (upd H5 p (.lst (acc++[y]))) else bu H p R (i + 1) acc H4)
  (hd:∀ p acc H2,H p=none->ap H H2->H2 p=some (.lst acc)->R (min xs.length ys.length) acc H2->Q (.ref p) H2):
  ∃ a' b' xs' ys',[V.ref a,V.ref b]=[.ref a',.ref b']/\S1.Sq K H a' xs'/\S2.Sq K H b' ys'/\∀ p,H p=none->∃ W:Nat->Nat->List V->Hp->Prop,(∃ m,W 0 m [] (upd H p (.lst [])))/\∀ C s' H' fp,cB (Itz S1 S2 K a' b') (g C s' H' fp) (tt C s' H' fp) (te C s' H' fp) σ₀ p Q W:=by
 refine ⟨a,b,xs,ys,rfl,hx,hy,fun p hp=>nU (n:=min xs.length ys.length) (Y:=fun i H x H1=>∃ T u v,H T=none/\x=.ref T/\H1=upd H T (.tup [u,v])/\xs[i]?=some u/\ys[i]?=some v) (bu H p R)
  ⟨bf hp _,az,Lr _,h0 _ (bf hp _)⟩ (fun i acc H2 _ c=>⟨c.2.1,c.2.2.1⟩) (by rw [Lw]; omega) (fun i acc H2 hi c=>?_) (fun acc H2 c=>?_) (fun i acc H2 x H3 hi c y=>?_) (fun C s' H' fp i x acc H2 H3 hi c y=>?_) fun acc H2 c=>hd p acc H2 hp c.1 c.2.1 c.2.2.2⟩
 ·exact ⟨xs,ys,xs[i],ys[i],kx _ c.1,ky _ c.1,by simp [show i < xs.length by omega],by simp [show i < ys.length by omega]⟩
 ·exact ⟨xs,ys,kx _ c.1,ky _ c.1,rfl⟩
 ·obtain ⟨T,u,v,e1,e2,e3,e4⟩:=y
  obtain ⟨e5,e6⟩:=e4 xs ys (kx _ c.1) (ky _ c.1)
  exact ⟨T,u,v,e1,e2,e3,e5,e6⟩
 ·obtain ⟨T,u,v,e1,rfl,rfl,e4,e5⟩:=y
  exact hs p hp C s' H' fp i u v T acc H2 _ e4 e5 c e1 (bf e1 _) az (by rw [aO (aR c.2.1 e1)]; exact c.2.1)
noncomputable def zA (K:Fg):V->Option Int->Option Int->Hp->VK->Prop:=fun x lo hi H Q=>∃ a xs,x=.ref a/\SqT K H a xs/\¬ (HT.sIx xs.length 0 lo=0/\HT.sIx xs.length xs.length hi=xs.length)/\New H (.tup (qF xs lo hi)) fun p H2=>Q (.ref p) H2
theorem Cy {a:Addr} {xs:List V} {lo hi:Option Int} (e:SqT K H a xs) (hn:¬ (HT.sIx xs.length 0 lo=0/\HT.sIx xs.length xs.length hi=xs.length)) (h:∀ p H',H p=none->ap H H'->H' p=some (.tup (qF xs lo hi))->Q (.ref p) H'):zA K (.ref a) lo hi H Q:=⟨a,xs,rfl,e,hn,h⟩
theorem tY (x:V) (xs:List V):qF (x :: xs) (some 1) none=xs:=by
 unfold qF
 have e:HT.sIx (x :: xs).length 0 (some 1)=min 1 (x :: xs).length:=rfl
 rw [e,show min 1 (x :: xs).length=1 by simp]
 show ((x :: xs).drop 1).take ((x :: xs).length - 1)=xs
 rw [RI (by simp)]
 rfl
theorem nA (x:V) (xs:List V):¬ (HT.sIx (x :: xs).length 0 (some 1)=0/\HT.sIx (x :: xs).length (x :: xs).length none=(x :: xs).length):=fun h=>by
 have e:HT.sIx (x :: xs).length 0 (some 1)=min 1 (x :: xs).length:=rfl
 rw [e,show min 1 (x :: xs).length=1 by simp] at h
 exact absurd h.1 (by decide)
theorem KP {x y:Str} (h:Q (.bl (decide (x=y))) H):rEq (.str x) (.str y) H Q:=⟨rfl,by rw [show decide (V.str x=V.str y)=decide (x=y) from decide_eq_decide.mpr ⟨fun e=>by injection e,fun e=>by rw [e]⟩]; exact h⟩
theorem KQ {x y:Str} (h:Q (.bl (!decide (x=y))) H):rNe (.str x) (.str y) H Q:=⟨rfl,by rw [show decide (V.str x=V.str y)=decide (x=y) from decide_eq_decide.mpr ⟨fun e=>by injection e,fun e=>by rw [e]⟩]; exact h⟩
noncomputable def Cz (kvs:List (Str×V)) (a:Addr):R2:=fun x y H Q=>x=.ref a/\∃ k v,y=.str k/\kvs.lookup k=some v/\Q v H
theorem Hu {kvs:List (Str×V)} {a:Addr} {k:Str} {v:V} (e:kvs.lookup k=some v) (h:Q v H):Cz kvs a (.ref a) (.str k) H Q:=⟨rfl,k,v,rfl,e,h⟩
noncomputable def zB (kvs:List (Str×V)) (a:Addr) (neg:Bool):R2:=fun x y H Q=>y=.ref a/\∃ k,x=.str k/\Q (.bl (if neg then !(kvs.lookup k).isSome else (kvs.lookup k).isSome)) H
end
noncomputable def kT (K:Fg) (a:Addr) (xs:List V):Prop:=∃ (o:Obj) (its:Array Value) (n:Nat),K.lookup a=some o/\o.cls=.type "tuple"/\o.data=.seq its n/\its.size<=Lz/\aH xs its.toList
theorem kT.sq {K:Fg} {a:Addr} {xs:List V} (h:kT K a xs) (H:Hp):SqT K H a xs:=.inr h
section
variable {H:Hp} {Q:VK} {K:Fg}
theorem F4 {l b:Addr} {xs zs:List V} (e:H l=some (.lst xs)) (eb:H b=some (.lst zs)) (hz:xs.length + zs.length<=Lz) (h:∀ H',Off l H H'->H' l=some (.lst (xs++zs))->Q .non H'):wA (.ref l) [.ref b] H Q:=⟨l,b,xs,zs,rfl,rfl,e,eb,hz,h _ i8 az⟩
theorem KR {a:Addr} {x:V} {xs:List V} {c:Bool} (e:SqT K H a xs) (fx:dQ x=true) (fs:xs.all dQ=true) (hc:inV x xs=c) (h:Q (.bl c) H):rIn K false x (.ref a) H Q:=⟨a,xs,rfl,.inr e,fx,fs,by rw [<-hc] at h; exact h⟩
end
theorem EH (xs:List V) (z:Int) {m:Nat} (hl:xs.length=m) (hm:0 < m):∃ x,atI xs (z % (m:Int))=some x/\x∈xs:=by
 have m1:=N9 z (b:=(m:Int)) (by omega)
 have m2:=NO z (b:=(m:Int)) (by omega)
 have hk:(z % (m:Int)).toNat < xs.length:=by omega
 refine ⟨xs[(z % (m:Int)).toNat],?_,Oq hk⟩
 have e:z % (m:Int)=(((z % (m:Int)).toNat:Nat):Int):=by omega
 have q:atI xs (((z % (m:Int)).toNat:Nat):Int)=some xs[(z % (m:Int)).toNat]:=dz (Lo hk)
 rw [<-e] at q
 exact q
noncomputable def KS:R2:=fun x y H Q=>∃ a b,x=.bl a/\y=.bl b/\Q (.bl (!(a == b))) H
theorem J1 {a b:Bool} {H:Hp} {Q:VK} (h:Q (.bl (!(a == b))) H):KS (.bl a) (.bl b) H Q:=⟨a,b,rfl,rfl,h⟩
end L2
end
local macro_rules | `(tactic| walk_at "rb1")=>`(tactic| first
 | ((with_reducible refine' L2.oT (v:=?v) ?e ?h); (case e=>exact rfl))
 | (with_reducible first | refine L2.EF ?_ | refine L2.kb ?_ | refine L2.Kw ?_ | refine L2.JH ?_ | refine L2.JI ?_ | refine L2.Ij ?_ | refine L2.JJ ?_ | refine L2.kJ ?_ | refine L2.JK ?_ | refine L2.r_c ?_ | refine L2.tW ?_ | refine L2.K9 ?_ | refine L2.La ?_ | refine L2.r_U ?_ | refine L2.Ky ?_ | refine L2.Kz ?_ | refine L2.KP ?_ | refine L2.KQ ?_ | refine L2.KA ?_ | refine L2.KB ?_ | refine L2.J1 ?_ | refine L2.JL ?_ | refine L2.Lb ?_ | refine L2.Lc ?_ | refine L2.KI ?_ | refine L2.KC ?_ | refine L2.Ld ?_ | refine L2.KD ?_ | refine L2.JM ?_ | refine L2.KG ?_ | refine L2.JN ?_ | refine L2.Le ?_ | refine L2.Ik ?_ | refine L2.Hs ?_ | refine L2.EG ?_ | refine L2.JO ?_ | refine L2.Lf ?_ | refine L2.Lg ?_ | refine L2.KH ?_ | refine L2.Lh ?_ | refine L2.Li ?_ | refine L2.F0 ?_ | refine L2.JP ?_ | refine L2.KJ ?_ | refine L2.JQ ?_ | refine L2.Il ?_ | refine L2.JR ?_ | refine L2.Im ?_ | refine L2.Io ?_ | refine L2.Ip ?_ | refine L2.JS ?_ | refine L2.JT ?_ | refine L2.JU ?_ | refine L2.KL ?_ | refine L2.r6 ?_ | refine L2.JW ?_ | refine L2.JX ?_ | refine L2.JY ?_ | refine L2.JZ ?_ | refine L2.qH ?_ | refine L2.oO ?_ | refine L2.Cr ?_ | refine L2.KK ?_ | refine L2.F1 ?_)
 | ((with_reducible refine L2.r_I ?_ ?_); (first | (show (0:Int) < _; omega) | (show (0:Int) < _; decide) | exact ⟨by decide,by decide,by decide⟩ | exact And.intro (by omega) (by omega) | exact (PySem.IntMulOk.of_right (Sv (by omega) (by omega))) | exact (PySem.IntMulOk.of_left (Sv (by omega) (by omega)))))
 | ((with_reducible refine' L2.rZ (ys:=?y) ?e ?h); (case e=>first | assumption | exact L2.SqL.of (by assumption)))
 | ((with_reducible refine' L2.BO (ys:=?y) ?e ?h); (case e=>first | assumption | exact L2.SqT.of (by assumption)))
 | dsimp only [Nu,Nv,L2.sub,LI,ON,List.getElem?_cons_zero,List.getElem?_cons_succ])
local macro_rules | `(tactic| walk_at "rd")=>`(tactic| repeat (first | (with_reducible first | refine L2.bj ?_ | refine L2.Hr ?_) | walk_at "rb1"))
local macro_rules | `(tactic| walk_at "rs")=>`(tactic| repeat (first | (with_reducible refine L2.Hr ?_) | walk_at "rb1"))
local macro_rules | `(tactic| walk_at "ra")=>`(tactic| repeat (walk_at "rb1"))
namespace L2
open PySem PyProof.Rows
noncomputable abbrev IA:=Option Int
noncomputable abbrev IK:=Sum IA (List IA)
noncomputable abbrev MK:=Sum IA (List IK)
noncomputable def iaV:V->Option IA
 | .non=>some none
 | .bl b=>some (some (if b then 1 else 0))
 | .int i=>some (some i)
 | _=>none
noncomputable def mQ (H:Hp) (x:V):IK->Prop
 | .inl a=>iaV x=some a
 | .inr as=>∃ c ys,x=.ref c/\H c=some (.tup ys)/\ys.map iaV=as.map some
noncomputable def dh (H:Hp) (x:V):MK->Prop
 | .inl a=>iaV x=some a
 | .inr is=>∃ c xs,x=.ref c/\H c=some (.tup xs)/\Paired (mQ H) xs is
noncomputable def mR:MK->Bool
 | .inl _=>false
 | .inr _=>true
theorem mQ.keep {H H':Hp} {x:V} {k:IK} (h:mQ H x k) (kp:dJ H H'):mQ H' x k:=by
 cases k with
 | inl a=>exact h
 | inr as=>obtain ⟨c,ys,e,q,r⟩:=h; exact ⟨c,ys,e,kp _ _ q,r⟩
theorem dh.keep {H H':Hp} {x:V} {k:MK} (h:dh H x k) (kp:dJ H H'):dh H' x k:=by
 cases k with
 | inl a=>exact h
 | inr as=>obtain ⟨c,xs,e,q,r⟩:=h; exact ⟨c,xs,e,kp _ _ q,Paired.mapP r fun _ _ z=>mQ.keep z kp⟩
theorem xF {H H':Hp} {xs:List V} {ks:List MK} (h:Paired (dh H) xs ks) (kp:dJ H H'):Paired (dh H') xs ks:=Paired.mapP h fun _ _ z=>dh.keep z kp
theorem bL {α β:Type} {F:α->β->Prop}:∀ {xs:List α} {ys:List β} {i:Nat} {x:α},Paired F xs ys->xs[i]?=some x->∃ y,ys[i]?=some y/\F x y
 | _,_,_,_,.nil,e=>by simp at e
 | _,_,0,_,.cons r _,e=>by simp at e; subst e; exact ⟨_,rfl,r⟩
 | _,_,i + 1,x,.cons _ t,e=>by
  obtain ⟨u,h1,h2⟩:=bL (i:=i) (x:=x) t (by simpa using e)
  exact ⟨u,by simpa using h1,h2⟩
theorem uP (H:Hp):∀ ns:List Int,Paired (mQ H) (ns.map V.int) (ns.map fun n=>(Ng (some n):IK))
 | []=>.nil
 | n :: r=>.cons rfl (uP H r)
theorem Ir {H:Hp} {c:Addr} {ns:List Int} (e:H c=some (.tup (ns.map V.int))):dh H (.ref c) (.inr (ns.map fun n=>(Ng (some n):IK))):=⟨c,_,rfl,e,uP H ns⟩
theorem Off.keepD {H H':Hp} {l:Addr} (o:Off l H H') (h:∀ xs,H l≠some (.tup xs)):dJ H H':=fun b ys q=>by
 rw [o b (fun z=>by subst z; exact h _ q)]
 exact q
noncomputable def bp {α:Type} [DecidableEq α] (ks:List α):List Nat:=ks.map fun k=>ks.idxOf k
theorem dZ {α:Type} [DecidableEq α] (ks:List α):(bp ks).length=ks.length:=Lp _
theorem CA {α:Type} [DecidableEq α] {ks:List α} {i:Nat} {k:α} (h:k∈ks.take i):(ks.take i).idxOf k=ks.idxOf k:=by
 have:=SX (l₁:=ks.take i) (l₂:=ks.drop i) (a:=k)
 rw [OO,if_pos h] at this
 exact this.symm
theorem xG {α:Type} [DecidableEq α] {ks:List α} {i:Nat} {k:α} (hk:ks[i]?=some k) (h:k∉ks.take i):ks.idxOf k=i:=by
 obtain ⟨hi,e⟩:=Ls.mp hk
 have e1:ks=ks.take i++(k :: ks.drop (i + 1)):=by
  rw [<-e,List.getElem_cons_drop,OO]
 have:=SX (l₁:=ks.take i) (l₂:=k :: ks.drop (i + 1)) (a:=k)
 rw [<-e1,if_neg h,List.idxOf_cons_self,M9] at this
 omega
theorem cf {α:Type} {ks:List α} {i:Nat} {k:α} (hk:ks[i]?=some k):ks.take (i + 1)=ks.take i++[k]:=by
 rw [M4,hk]; rfl
theorem tm {α β:Type} [DecidableEq α] [DecidableEq β] {f:α->β} (inj:∀ a b,f a=f b->a=b) (ks:List α):bp (ks.map f)=bp ks:=by
 unfold bp
 rw [N5]
 refine NJ fun k hk=>?_
 show (ks.map f).idxOf (f k)=ks.idxOf k
 clear hk
 induction ks with
 | nil=>rfl
 | cons a r ih=>
  rw [LI,T8,T8,ih]
  by_cases e:a=k
  ·rw [e,beq_self_eq_true,beq_self_eq_true]
  ·rw [beq_eq_false_iff_ne.mpr e,beq_eq_false_iff_ne.mpr (fun z=>e (inj _ _ z))]
theorem uQ {α:Type} [DecidableEq α] {ks:List α} {i:Nat} {z:Nat} (h:(bp ks)[i]?=some z):∃ k,ks[i]?=some k/\z=ks.idxOf k/\z<=i:=by
 unfold bp at h
 rw [LD] at h
 cases e:ks[i]? with
 | none=>rw [e] at h; cases h
 | some k=>
  rw [e] at h
  refine ⟨k,rfl,(LF h).symm,?_⟩
  rw [<-LF h]
  show ks.idxOf k<=i
  by_cases q:k∈ks.take i
  ·have:=Qu q
   rw [CA q,M9] at this
   omega
  ·rw [xG e q]; exact Lr _
section
open PySem.Spec
section
variable {κ:Type} [DecidableEq κ]
noncomputable def d7 (kvs:List (κ×V)) (k:κ):Option V:=(kvs.find? fun kv=>decide (kv.1=k)).map (·.2)
noncomputable def jm (kvs:List (κ×V)) (k:κ) (v:V):List (κ×V):=
 if (kvs.any fun kv=>decide (kv.1=k))=true then kvs.map (fun kv=>if kv.1=k then (kv.1,v) else kv) else kvs++[(k,v)]
theorem d8 {p:κ×V} {r:List (κ×V)} {k:κ} (e:p.1=k):d7 (p :: r) k=some p.2:=by simp [d7,Ma,e]
theorem d9 {p:κ×V} {r:List (κ×V)} {k:κ} (e:¬ p.1=k):d7 (p :: r) k=d7 r k:=by simp [d7,Ma,e]
theorem oU (k:κ):∀ kvs:List (κ×V),(kvs.any fun kv=>decide (kv.1=k))=(d7 kvs k).isSome
 | []=>rfl
 | p :: r=>by
  rw [Pw]
  by_cases e:p.1=k
  ·simp only [d8 e,decide_eq_true e,Bool.true_or,SL]
  ·rw [d9 e,decide_eq_false e,Bool.false_or]; exact oU k r
theorem zC (k j:κ) (y:V):∀ kvs:List (κ×V),d7 (kvs.map fun kv=>if kv.1=k then (kv.1,y) else kv) j=(d7 kvs j).map fun x=>if j=k then y else x
 | []=>rfl
 | p :: r=>by
  have ih:=zC k j y r
  rw [LI]
  by_cases h:p.1=k
  ·rw [if_pos h]
   by_cases e:p.1=j
   ·rw [d8 (p:=(p.1,y)) e,d8 e,P0,if_pos (e.symm.trans h)]
   ·rw [d9 (p:=(p.1,y)) e,d9 e,ih]
  ·rw [if_neg h]
   by_cases e:p.1=j
   ·rw [d8 (p:=p) e,d8 e,P0,if_neg (fun z=>h (e.trans z))]
   ·rw [d9 (p:=p) e,d9 e,ih]
theorem xH (k j:κ) (y:V):∀ kvs:List (κ×V),d7 kvs k=none->d7 (kvs++[(k,y)]) j=if j=k then some y else d7 kvs j
 | [],_=>by
  by_cases e:k=j
  ·rw [if_pos e.symm]; exact d8 (p:=(k,y)) e
  ·rw [if_neg (fun z=>e z.symm)]; exact d9 (p:=(k,y)) e
 | p :: r,hn=>by
  rw [Tz]
  have hk:¬ p.1=k:=fun z=>by rw [d8 z] at hn; cases hn
  rw [d9 hk] at hn
  have ih:=xH k j y r hn
  by_cases e:p.1=j
  ·rw [d8 e,d8 e,if_neg (fun z=>hk (e.trans z))]
  ·rw [d9 e,d9 e,ih]
theorem F5 (kvs:List (κ×V)) (k j:κ) (y:V):d7 (jm kvs k y) j=if j=k then some y else d7 kvs j:=by
 unfold jm
 by_cases a:(kvs.any fun kv=>decide (kv.1=k))=true
 ·rw [if_pos a,zC]
  rw [oU] at a
  by_cases e:j=k
  ·obtain ⟨x,hx⟩:=Q4.mp a
   rw [if_pos e,e,hx,P0,if_pos rfl]
  ·rw [if_neg e]
   cases d7 kvs j with
   | none=>rfl
   | some x=>rw [P0,if_neg e]
 ·rw [if_neg a]
  refine xH k j y kvs ?_
  rw [oU] at a
  cases q:d7 kvs k with
  | none=>rfl
  | some x=>rw [q] at a; exact (a rfl).elim
theorem tz (kvs:List (κ×V)) (k:κ) (v:V):(jm kvs k v).length<=kvs.length + 1:=by
 unfold jm
 split
 ·rw [Lp]; omega
 ·rw [LG,LX,T9]; omega
theorem fQ.isSome_eq {o:Option V} {u:Option Value} (r:fQ o u):o.isSome=u.isSome:=by
 cases o with
 | none=>cases u with
  | none=>rfl
  | some _=>exact (show False from r).elim
 | some _=>cases u with
  | none=>exact (show False from r).elim
  | some _=>rfl
theorem fQ.getD {o:Option V} {u:Option Value} {d:V} {d':Value} (r:fQ o u) (rd:aK d d'):aK (o.getD d) (u.getD d'):=by
 cases o with
 | none=>cases u with
  | none=>exact rd
  | some _=>exact (show False from r).elim
 | some _=>cases u with
  | none=>exact (show False from r).elim
  | some _=>exact r
theorem KV.val {kvs:List (κ×V)} {vs:List (κ×Value)} (r:KV kvs vs) (k:κ):fQ (d7 kvs k) (valueAt vs k):=by
 unfold KV at r
 induction r with
 | nil=>exact NS
 | @cons p q ps qs h t ih=>
  obtain ⟨h1,h2⟩:=h
  by_cases e:p.1=k
  ·have e':q.1=k:=h1.symm.trans e
   have b:valueAt (q :: qs) k=some q.2:=by simp [valueAt,Ma,e']
   rw [d8 e,b]; exact h2
  ·have e':¬ q.1=k:=fun z=>e (h1.trans z)
   have b:valueAt (q :: qs) k=valueAt qs k:=by simp [valueAt,Ma,e']
   rw [d9 e,b]; exact ih
theorem KV.any {kvs:List (κ×V)} {vs:List (κ×Value)} (r:KV kvs vs) (k:κ):(kvs.any fun kv=>decide (kv.1=k))=vs.any fun kv=>decide (kv.1=k):=by
 unfold KV at r
 induction r with
 | nil=>rfl
 | cons h t ih=>rw [Pw,Pw,ih,h.1]
theorem KV.repl {kvs:List (κ×V)} {vs:List (κ×Value)} (r:KV kvs vs) (k:κ) {y:V} {u:Value} (ry:aK y u):
  KV (kvs.map fun kv=>if kv.1=k then (kv.1,y) else kv) (vs.map fun kv=>if kv.1=k then (kv.1,u) else kv):=by
 unfold KV at r ⊢
 induction r with
 | nil=>exact .nil
 | @cons p q ps qs h t ih=>
  rw [LI,LI]
  refine .cons ?_ ih
  obtain ⟨h1,h2⟩:=h
  by_cases e:p.1=k
  ·rw [if_pos e,if_pos (h1.symm.trans e)]; exact ⟨h1,ry⟩
  ·rw [if_neg e,if_neg (fun z=>e (h1.trans z))]; exact ⟨h1,h2⟩
theorem KV.put {kvs:List (κ×V)} {vs:List (κ×Value)} (r:KV kvs vs) (k:κ) {y:V} {u:Value} (ry:aK y u):KV (jm kvs k y) (stored vs k u):=by
 unfold jm stored
 rw [r.any k]
 by_cases e:(vs.any fun kv=>decide (kv.1=k))=true
 ·rw [if_pos e,if_pos e]; exact r.repl k ry
 ·rw [if_neg e,if_neg e]; exact Tf r ⟨rfl,ry⟩
theorem KV.keys {kvs:List (κ×V)} {vs:List (κ×Value)} (r:KV kvs vs):kvs.map (·.1)=vs.map (·.1):=by
 unfold KV at r
 induction r with
 | nil=>rfl
 | cons h t ih=>rw [LI,LI,ih,h.1]
theorem KV.length {kvs:List (κ×V)} {vs:List (κ×Value)} (r:KV kvs vs):kvs.length=vs.length:=Mj r
end
theorem Hv {P:Program} {w:World} {k:Key} {u:Value} (r:aK (kV k) u):(i5 P w).is k u=true:=by
 cases k with
 | inl i=>obtain ⟨t,e⟩:=(show ∃ t,u=Oh i t from r); subst e; exact A1 P w i t
 | inr x=>obtain ⟨t,e⟩:=(show ∃ t,u=Ro x t from r); subst e; exact br P w x t
noncomputable abbrev KT (H:Hp):List (List Key×V)->List (List Key×Addr×Value)->Prop:=Paired fun p q=>p.1=q.1/\H q.2.1=some (.tup (p.1.map kV))/\aK p.2 q.2.2
theorem KT.val {H:Hp} {kvs:List (List Key×V)} {xs:List (List Key×Addr×Value)} (r:KT H kvs xs) (k:List Key):fQ (d7 kvs k) ((atKey xs k).map (·.2)):=by
 induction r with
 | nil=>exact NS
 | @cons p q ps qs h t ih=>
  obtain ⟨h1,_,h2⟩:=h
  by_cases e:p.1=k
  ·have e':q.1=k:=h1.symm.trans e
   have b:atKey (q :: qs) k=some q.2:=by simp [atKey,Ma,e']
   rw [d8 e,b]; exact h2
  ·have e':¬ q.1=k:=fun z=>e (h1.trans z)
   have b:atKey (q :: qs) k=atKey qs k:=by simp [atKey,Ma,e']
   rw [d9 e,b]; exact ih
theorem KT.repl {H:Hp} {kvs:List (List Key×V)} {xs:List (List Key×Addr×Value)} (r:KT H kvs xs) (k:List Key) {y:V} {u:Value} (ry:aK y u):
  KT H (kvs.map fun kv=>if kv.1=k then (kv.1,y) else kv) (xs.map (putAt k u)):=by
 induction r with
 | nil=>exact .nil
 | @cons p q ps qs h t ih=>
  rw [LI,LI]
  refine .cons ?_ ih
  obtain ⟨h1,h2,h3⟩:=h
  unfold putAt
  by_cases e:p.1=k
  ·rw [if_pos e,if_pos (h1.symm.trans e)]; exact ⟨h1,h2,ry⟩
  ·rw [if_neg e,if_neg (fun z=>e (h1.trans z))]; exact ⟨h1,h2,h3⟩
theorem KT.put {H:Hp} {kvs:List (List Key×V)} {xs:List (List Key×Addr×Value)} (r:KT H kvs xs) (k:List Key) {b:Addr} {y:V} {u:Value} (hb:H b=some (.tup (k.map kV))) (ry:aK y u):
  KT H (jm kvs k y) (storedH xs k b u):=by
 have e:(kvs.any fun kv=>decide (kv.1=k))=(atKey xs k).isSome:=by
  rw [oU,(r.val k).isSome_eq,SY]
 unfold jm storedH
 rw [e]
 by_cases q:(atKey xs k).isSome=true
 ·rw [if_pos q,if_pos q]; exact r.repl k ry
 ·rw [if_neg q,if_neg q]; exact Tf r ⟨rfl,hb,ry⟩
theorem KT.keeps {H H':Hp} {kvs:List (List Key×V)} {xs:List (List Key×Addr×Value)} (r:KT H kvs xs) (ht:∀ b ys,H b=some (.tup ys)->H' b=some (.tup ys)):KT H' kvs xs:=
 Paired.mapP r fun _ _ z=>⟨z.1,ht _ _ z.2.1,z.2.2⟩
section
variable {P:Program} {w:World} {H:Hp} {h:Heap} {a:Addr}
end
noncomputable def CB (H:Hp) (a:Addr) (y:V) (r:Option V):Prop:=
 (∃ kvs k,Rd H a (.dK kvs)/\y=kV k/\r=d7 kvs k)\/∃ kvs k b,Rd H a (.dT kvs)/\y=.ref b/\H b=some (.tup (k.map kV))/\r=d7 kvs k
noncomputable def CC (H:Hp) (a:Addr) (y v:V) (H':Hp):Prop:=
 (∃ kvs k,H a=some (.dK kvs)/\y=kV k/\kvs.length < Lz/\H'=upd H a (.dK (jm kvs k v)))\/
 ∃ kvs k b,H a=some (.dT kvs)/\y=.ref b/\H b=some (.tup (k.map kV))/\kvs.length < Lz/\H'=upd H a (.dT (jm kvs k v))
theorem CB.k {H:Hp} {a:Addr} {kvs:List (Key×V)} {k:Key} (e:H a=some (.dK kvs)):CB H a (kV k) (d7 kvs k):=.inl ⟨kvs,k,.inl e,rfl,rfl⟩
theorem CB.t {H:Hp} {a b:Addr} {kvs:List (List Key×V)} {k:List Key} (e:H a=some (.dT kvs)) (eb:H b=some (.tup (k.map kV))):CB H a (.ref b) (d7 kvs k):=.inr ⟨kvs,k,b,.inl e,rfl,eb,rfl⟩
theorem CC.k {H:Hp} {a:Addr} {kvs:List (Key×V)} {k:Key} {v:V} (e:H a=some (.dK kvs)) (hl:kvs.length < Lz):CC H a (kV k) v (upd H a (.dK (jm kvs k v))):=.inl ⟨kvs,k,e,rfl,hl,rfl⟩
theorem CC.t {H:Hp} {a b:Addr} {kvs:List (List Key×V)} {k:List Key} {v:V} (e:H a=some (.dT kvs)) (eb:H b=some (.tup (k.map kV))) (hl:kvs.length < Lz):
  CC H a (.ref b) v (upd H a (.dT (jm kvs k v))):=.inr ⟨kvs,k,b,e,rfl,eb,hl,rfl⟩
section
variable {X:Cx} {pins:List (Addr×Obj)} {σ:St} {H:Hp} {s:Shared} {a:Addr} {y v:V} {u r:Value} {o:Option V} {A:Around} {E:Value->Shared->Prop}
theorem Inv.big (I:Inv X pins σ H s):Nl < s.heap.objs.size:=by
 have h:L5 < s.heap.objs.size:=(I.mod.glob.keeps I.bk).lt
 exact Nat.lt_trans (by decide) h
theorem BQ {h':Heap} {t':Nat} {ob:HO} (I:Inv X pins σ H s) (mu:Mut (H a)) (hs:LM a s.heap h') (he:∃ q,h'.get? a=some q) (new:bH X.prog X.w (upd H a ob) h' a ob):
  Inv X pins σ (upd H a ob) { s with heap:=h',toks:=t' }:=
 I.write (x:=a) (e:=a) mu (.inl rfl) (fun b q hb z=>(hs.2 b hb).trans z) he new
end
section
variable {X:Cx} {pins:List (Addr×Obj)} {σ:St} {H:Hp} {s:Shared} {a:Addr} {kvs:List (Key×V)} {k:Key} {u:Value} {A:Around} {E:Value->Shared->Prop}
end
noncomputable def F6 (i:Expr):Prop:=∀ ov iv,RC i false ov iv=operate [ov,iv] (getItem ov iv)
theorem BR {prog:Program} {w:World} {A:Around} {E:Value->Shared->Prop} {s:Shared} {env:Env} {value slice:Expr} {pos:Pos} {T id:String} {Q:Value->Shared->Prop}
  (hl:R8 (.type T) "__getitem__"=pure (some (.builtin id))) (hs:F6 slice)
  (h:wpAny (model prog w) A (eval value env) (fun o s₁=>wpAny (model prog w) A (eval slice env) (fun i s₂=>s₂.TypeIs o T/\wpAny (model prog w) A (getItem o i) Q E s₂) E s₁) E s):
  wpAny (model prog w) A (eval (.Subscript value slice pos) env) Q E s:=by
 refine TY (M1 h (fun o s₁ h₁=>M1 h₁ (fun i s₂ h₂=>?_) fun _ _ x=>x) fun _ _ x=>x)
 obtain ⟨hT,h₂⟩:=h₂
 unfold Sj
 refine Lk ?_
 rw [getitemInPython_of_ne hT.not_modules]
 refine Lk (MV hT hl ?_)
 have fin:wpAny (model prog w) A (RC slice false o i) (fun r s₃=>wpAny (model prog w) A (letTemporaryGo value o r >>= fun _=>pure r) Q E s₃) E s₂:=by
  rw [hs o i]
  exact wpAny_operating (M1 h₂ (fun r s₃ h₃=>Lk (wpAny_letTemporaryGo (Lm h₃))) fun _ _ x=>x)
 first
  | exact Lm (Lk fin)
  | exact Lk (Lm (Lk fin))
  | exact Lk fin
section
variable {X:Cx} {o i e value:Expr} {pos pos' tpos:Pos} {td ty tv:TE}
end
section
variable {X:Cx} {pos:Pos}
end
structure M2 (X:Cx) (o:Expr) (m:Str) (apos:Pos) (e f:Expr) (cpos:Pos):Prop where
 base:OV o m X.env (eval o X.env)=eval o X.env
 few:((backTo cpos (LP [e,f] X.env)).all (fun x=>!x.1) && (Pz cpos (OG [] X.env)).all (fun x=>x.1.isSome)
  && decide (([e,f]:List Expr).length + ([]:List Keyword).length + (if ([]:List Keyword).isEmpty then 0 else 1) < 30))=true
 line:(apos.endLine == cpos.line)=true
 trees:backTo cpos (LP [e,f] X.env)=[(false,eval e X.env),(false,eval f X.env)]
section
variable {X:Cx} {pins:List (Addr×Obj)} {σ:St} {H:Hp} {s:Shared} {a:Addr} {y d:V} {u r:Value} {o:Option V} {A:Around} {E:Value->Shared->Prop}
end
section
variable {X:Cx} {o e f:Expr} {apos cpos:Pos} {td ty tx:TE}
end
section
variable {X:Cx} {pins:List (Addr×Obj)} {σ:St} {H:Hp} {s:Shared} {a:Addr} {kvs:List (Key×V)} {A:Around} {E:Value->Shared->Prop}
end
section
variable {X:Cx} {pins:List (Addr×Obj)} {σ:St} {H:Hp} {s:Shared} {a:Addr} {y:V} {u:Value} {A:Around} {E:Value->Shared->Prop}
end
end
section
open PySem.Spec
section
variable {prog:Program} {w:World} {A:Around} {E:Value->Shared->Prop} {s:Shared}
theorem sS {b:Bool} {Q:Int->Shared->Prop} (h:Q (hashInt (if b then 1 else 0)) { s with toks:=s.toks + 1 }):wpAny (model prog w) A (pyHash (.bool b)) Q E s:=by
 have hr:=rawHash_range (if b then 1 else 0)
 unfold pyHash
 have hv:[ML b].any Value.onHeap=false:=rfl
 refine Lk ?_
 rw [cRoomFor,if_neg (by rw [hv]; exact LB)]; refine Lm ?_
 have hT:s.TypeIs (.bool b) "bool":=rfl
 refine Lk (MV hT OH.lookup ?_)
 show wpAny _ _ (if (some (Sl "int.__hash__") == some MH)=true then _ else _) Q E s
 rw [if_neg (by rw [Re]; exact LB)]
 refine Lk (MV hT OH.lookup ?_)
 show wpAny _ _ (OI (.bool b) "__hash__" _ >>= _) Q E s
 refine Lk (NU hT OH (Mh OH hT entry_int_hash ?_ (args_int_hash _)))
 cases b with
 | true=>
  refine (show wpAny _ _ (do ret (<-mkInt (rawHash 1))) _ _ s from P3 ?_)
  show wpAny _ _ (if (decide (-(2:Int) ^ 63<=rawHash 1) && decide (rawHash 1 < 2 ^ 63))=true then _ else _) Q E _
  rw [if_pos (by decide)]
  exact Lm h
 | false=>
  refine (show wpAny _ _ (do ret (<-mkInt (rawHash 0))) _ _ s from P3 ?_)
  show wpAny _ _ (if (decide (-(2:Int) ^ 63<=rawHash 0) && decide (rawHash 0 < 2 ^ 63))=true then _ else _) Q E _
  rw [if_pos (by decide)]
  exact Lm h
theorem sT {Q:Int->Shared->Prop} (h:Q 4238894112 { s with toks:=s.toks + 1 }):wpAny (model prog w) A (pyHash .none) Q E s:=by
 unfold pyHash
 have hv:[MH].any Value.onHeap=false:=rfl
 refine Lk ?_
 rw [cRoomFor,if_neg (by rw [hv]; exact LB)]; refine Lm ?_
 have hT:s.TypeIs .none "NoneType":=rfl
 refine Lk (MV hT Oe.lookup ?_)
 show wpAny _ _ (if (some (Sl "NoneType.__hash__") == some MH)=true then _ else _) Q E s
 rw [if_neg (by rw [Re]; exact LB)]
 refine Lk (MV hT Oe.lookup ?_)
 show wpAny _ _ (OI .none "__hash__" _ >>= _) Q E s
 refine Lk (NU hT Oe (Mh Oe hT PySem.F.entry_NoneType_hash ?_ (PySem.F.args_NoneType_hash_1 _)))
 refine (show wpAny _ _ (do ret (<-mkInt 4238894112)) _ _ s from P3 ?_)
 show wpAny _ _ (if (decide (-(2:Int) ^ 63<=4238894112) && decide ((4238894112:Int) < 2 ^ 63))=true then _ else _) Q E _
 rw [if_pos (by decide)]
 exact Lm h
end
noncomputable def zD:IA->Int
 | none=>4238894112
 | some i=>hashInt i
noncomputable def oV:IA->Value->Bool
 | none,.none=>true
 | some i,.int j _=>i == j
 | some i,.bool b=>i == (if b then 1 else 0)
 | _,_=>false
theorem ee {k:IA} {v:Value} (h:oV k v=true):(k=none/\v=.none)\/(∃ i t,k=some i/\v=.int i t)\/∃ b,k=some (if b then 1 else 0)/\v=.bool b:=by
 rcases k with _ | i <;> cases v <;> (delta oV at h; simp at h)
 ·exact .inl ⟨rfl,rfl⟩
 ·subst h; exact .inr (.inr ⟨_,rfl,rfl⟩)
 ·subst h; exact .inr (.inl ⟨_,_,rfl,rfl⟩)
noncomputable def dj (prog:Program) (w:World):PySem.KeyKind prog w IA where
 is:=oV
 hash:=zD
 inj:=fun v a b ha hb=>by
  rcases ee ha with ⟨rfl,rfl⟩ | ⟨i,t,rfl,rfl⟩ | ⟨c,rfl,rfl⟩ <;> rcases ee hb with ⟨rfl,e⟩ | ⟨j,u,rfl,e⟩ | ⟨d,rfl,e⟩ <;> first | rfl | (cases e; rfl) | cases e
 byValue:=fun k v h=>by
  rcases ee h with ⟨rfl,rfl⟩ | ⟨i,t,rfl,rfl⟩ | ⟨c,rfl,rfl⟩ <;> rfl
 pyHash:=fun hv h=>by
  rcases ee hv with ⟨rfl,rfl⟩ | ⟨i,t,rfl,rfl⟩ | ⟨c,rfl,rfl⟩
  ·exact sT h
  ·exact Tn h
  ·exact sS h
 eqBool:=fun {A E s a b u v Q} hu hv h=>by
  rcases ee hu with ⟨rfl,rfl⟩ | ⟨i,t,rfl,rfl⟩ | ⟨c,rfl,rfl⟩ <;> rcases ee hv with ⟨rfl,rfl⟩ | ⟨j,u,rfl,rfl⟩ | ⟨d,rfl,rfl⟩
  ·exact Ru _ _ _ _ _ (by simpa using h)
  ·exact So _ _ _ _ _ _ (by simpa using h)
  ·exact R9 _ _ _ _ _ (by simpa using h)
  ·exact Ss _ _ _ _ _ _ (by simpa using h)
  ·exact SJ _ _ _ _ _ _ _ _ (by simpa [PH] using h)
  ·exact Su _ _ _ _ _ _ _ (by simpa [PH] using h)
  ·exact Sa _ _ _ _ _ (by simpa using h)
  ·exact Sr _ _ _ _ _ _ _ (by simpa [PH] using h)
  ·refine Sb _ _ _ _ _ _ ?_
   cases c <;> cases d <;> simpa using h
 «strs»:=fun k x t v h=>by
  rcases ee h with ⟨rfl,e⟩ | ⟨i,u,rfl,e⟩ | ⟨c,rfl,e⟩ <;> cases e
noncomputable def lU:IK->Int
 | .inl a=>zD a
 | .inr as=>Ua (M0 (as.map zD))
noncomputable def yR (is:List IK):Int:=Ua (M0 (is.map lU))
noncomputable def nW:IK->Nat
 | .inl _=>1
 | .inr as=>as.length + 1
section
variable (prog:Program) (w:World)
noncomputable def cT (h:Heap):IK->Value->Prop
 | .inl a,v=>oV a v=true
 | .inr as,v=>∃ b,v=.ref b/\Ub (dj prog w) h as b
noncomputable def iw (h:Heap) (is:List IK) (a:Addr):Prop:=∃ o items n,h.get? a=some o/\o.cls=.type "tuple"/\o.data=.seq items n/\Paired (cT prog w h) is items.toList
end
section
variable {prog:Program} {w:World}
theorem cT.inj {h:Heap} {x y:IK} {v:Value} (hx:cT prog w h x v) (hy:cT prog w h y v):x=y:=by
 cases x with
 | inl a=>cases y with
  | inl b=>rw [(dj prog w).inj v a b hx hy]
  | inr bs=>
   obtain ⟨c,rfl,_⟩:=hy
   rcases ee hx with ⟨_,e⟩ | ⟨_,_,_,e⟩ | ⟨_,_,e⟩ <;> cases e
 | inr as=>cases y with
  | inl b=>
   obtain ⟨c,rfl,_⟩:=hx
   rcases ee hy with ⟨_,e⟩ | ⟨_,_,_,e⟩ | ⟨_,_,e⟩ <;> cases e
  | inr bs=>
   obtain ⟨c,rfl,h1⟩:=hx
   obtain ⟨d,e,h2⟩:=hy
   cases e
   rw [h1.inj h2]
theorem EI {h:Heap} {xs ys:List IK} {vs:List Value} (p:Paired (cT prog w h) xs vs):Paired (cT prog w h) ys vs->xs=ys:=by
 induction p generalizing ys with
 | nil=>intro q; cases q; rfl
 | cons a t ih=>intro q; cases q with
  | cons b u=>rw [a.inj b,ih u]
theorem iw.inj {h:Heap} {a:Addr} {x y:List IK} (hx:iw prog w h x a) (hy:iw prog w h y a):x=y:=by
 obtain ⟨o,items,n,ho,_,hd,hi⟩:=hx
 obtain ⟨o',items',n',ho',_,hd',hi'⟩:=hy
 obtain rfl:o=o':=LF (ho.symm.trans ho')
 rw [hd] at hd'
 injection hd' with h1 _
 subst h1
 exact EI hi hi'
theorem cT.keeps {h h':Heap} {k:IK} {v:Value} {d:Addr} {o:Obj} {es ep} (x:cT prog w h k v) (ho:h.get? d=some o) (hd:o.data=.dict es ep) (hs:LM d h h'):cT prog w h' k v:=by
 cases k with
 | inl a=>exact x
 | inr as=>obtain ⟨b,e,q⟩:=x; exact ⟨b,e,q.keeps ho hd hs⟩
theorem iw.keeps {h h':Heap} {ks:List IK} {a d:Addr} {o:Obj} {es ep} (x:iw prog w h ks a) (ho:h.get? d=some o) (hd:o.data=.dict es ep) (hs:LM d h h'):iw prog w h' ks a:=by
 obtain ⟨o',items,n,ho',hc,hd',hi⟩:=x
 have hne:a≠d:=by
  rintro rfl
  obtain rfl:o'=o:=LF (ho'.symm.trans ho)
  rw [hd] at hd'; exact nomatch hd'
 exact ⟨o',items,n,(hs.2 a hne).trans ho',hc,hd',Paired.mapP hi fun _ _ z=>z.keeps ho hd hs⟩
theorem iw.typeIs {s:Shared} {ks:List IK} {a:Addr} (x:iw prog w s.heap ks a):s.TypeIs (.ref a) "tuple":=let ⟨o,_,_,ho,hc,_⟩:=x; ⟨o,ho,hc⟩
theorem uR {h:Heap} {ks:List IA} {a:Addr} (x:Ub (dj prog w) h ks a):∃ items,h.IsTuple a items:=let ⟨o,items,n,h1,h2,h3,_⟩:=x; ⟨items,o,h1,h2,n,h3⟩
variable {A:Around} {E:Value->Shared->Prop} {s:Shared}
theorem EJ {k:IK} {v:Value} {Q:Int->Shared->Prop} (hu:A.units < cLine) (hk:cT prog w s.heap k v) (h:Q (lU k) { s with toks:=s.toks + nW k }):wpAny (model prog w) A (pyHash v) Q E s:=by
 cases k with
 | inl a=>exact (dj prog w).pyHash (k:=a) hk h
 | inr as=>
  obtain ⟨b,rfl,q⟩:=hk
  exact wpAny_pyHash_tuple (knd:=dj prog w) hu q h
theorem F7 {a:IA} {v:Value} {b:Addr} {items:Array Value} {Q:Bool->Shared->Prop} (hu:A.units < cLine) (hk:oV a v=true) (ht:s.heap.IsTuple b items) (h:Q false s):wpAny (model prog w) A (SM v (.ref b)) Q E s:=by
 rcases ee hk with ⟨rfl,rfl⟩ | ⟨i,t,rfl,rfl⟩ | ⟨c,rfl,rfl⟩
 ·exact L6.none_tuple ht hu _ _ _ _ h
 ·exact L6.int_tuple _ _ ht hu _ _ _ _ h
 ·exact L6.bool_tuple _ ht hu _ _ _ _ h
theorem F8 {a:IA} {v:Value} {b:Addr} {items:Array Value} {Q:Bool->Shared->Prop} (hu:A.units < cLine) (hk:oV a v=true) (ht:s.heap.IsTuple b items) (h:Q false s):wpAny (model prog w) A (SM (.ref b) v) Q E s:=by
 rcases ee hk with ⟨rfl,rfl⟩ | ⟨i,t,rfl,rfl⟩ | ⟨c,rfl,rfl⟩
 ·exact L6.tuple_none ht hu _ _ _ _ h
 ·exact L6.tuple_int _ _ ht hu _ _ _ _ h
 ·exact L6.tuple_bool _ ht hu _ _ _ _ h
theorem Iu {x y:IK} {u v:Value} {Q:Bool->Shared->Prop} (hu:A.units < cLine) (hx:cT prog w s.heap x u) (hy:cT prog w s.heap y v) (h:Q (decide (x=y)) s):wpAny (model prog w) A (SM u v) Q E s:=by
 cases x with
 | inl a=>cases y with
  | inl b=>
   refine (dj prog w).eqBool (a:=a) (b:=b) hx hy ?_
   rw [show decide (a=b)=decide ((Ng a:IK)=Ng b) from decide_eq_decide.mpr ⟨fun e=>by rw [e],fun e=>S9 e⟩]
   exact h
  | inr bs=>
   obtain ⟨c,rfl,q⟩:=hy
   obtain ⟨items,ht⟩:=uR q
   refine F7 hu hx ht ?_
   rw [decide_eq_false (fun e=>nomatch e)] at h
   exact h
 | inr as=>cases y with
  | inl b=>
   obtain ⟨c,rfl,q⟩:=hx
   obtain ⟨items,ht⟩:=uR q
   refine F8 hu hy ht ?_
   rw [decide_eq_false (fun e=>nomatch e)] at h
   exact h
  | inr bs=>
   obtain ⟨c,rfl,q⟩:=hx
   obtain ⟨d,rfl,q'⟩:=hy
   refine wpAny_eqBool_tuple (knd:=dj prog w) hu q q' ?_
   rw [show decide (as=bs)=decide ((Nh as:IK)=Nh bs) from decide_eq_decide.mpr ⟨fun e=>by rw [e],fun e=>OY e⟩]
   exact h
noncomputable def zE (ks:List IK):Nat:=(ks.map nW).sum + 1
theorem EK {ks:List IK} {a:Addr} {Q:Int->Shared->Prop} (hu:A.units + 1 < cLine) (hk:iw prog w s.heap ks a) (h:Q (yR ks) { s with toks:=s.toks + zE ks }):
  wpAny (model prog w) A (pyHash (.ref a)) Q E s:=by
 have hT:=hk.typeIs
 obtain ⟨o,items,n,ho,_,hd,hi⟩:=hk
 have hu0:A.units < cLine:=by omega
 unfold pyHash
 first | unfold pyHashByItsType | skip
 first | refine Lk (wpAny_cRoomFor_or (.inr hu0) ?_) | skip
 refine Lk (MV hT Pn.lookup ?_)
 show wpAny _ _ (if (some (Sl "tuple.__hash__") == some MH)=true then _ else _) Q E s
 rw [if_neg (by rw [Re]; exact LB)]
 refine Lk (MV hT Pn.lookup ?_)
 show wpAny _ _ (OI (.ref a) "__hash__" _ >>= _) Q E s
 refine Lk (NU hT Pn (Mh Pn hT F.entry_tuple_hash ?_ (F.args_tuple_hash_1 _)))
 show wpAny _ _ (QE (.ref a) >>= _) _ _ s
 refine Lk (Qv ho hd ?_)
 refine Lk ?_
 rw [<-OC]
 refine PD _
  (fun cV (b:Array Int) s'=>∃ done left,ks=done++left/\Paired (cT prog w s.heap) left cV/\b.toList=done.map lU/\s'={ s with toks:=s.toks + (done.map nW).sum })
  _ ?_ ?_ _ _ ⟨[],ks,rfl,hi,rfl,rfl⟩
 ·rintro x cV b s' ⟨done,left,rfl,hl,hb,rfl⟩
  cases hl with
  | @cons k _ ks' _ h1 hl'=>
   refine Lk (EJ (k:=k) hu h1 ?_)
   have e:(done.map nW).sum + nW k=((done++[k]).map nW).sum:=by simp
   first
    | exact Lm ⟨done++[k],ks',by simp,hl',by simp [hb],by rw [<-e]; simp [QG]⟩
    | exact Lk (Lm (Lm ⟨done++[k],ks',by simp,hl',by simp [hb],by rw [<-e]; simp [QG]⟩))
 ·rintro b s' ⟨done,left,rfl,hl,hb,rfl⟩
  cases hl
  rw [NG] at h
  show wpAny _ _ (retInt (M0 b.toList)) _ _ _
  rw [hb]
  refine P3 ?_
  show wpAny _ _ (if (decide (-(2:Int) ^ 63<=M0 (done.map lU)) && decide (M0 (done.map lU) < 2 ^ 63))=true then _ else _) Q E _
  unfold yR Ua zE at h
  by_cases hr:(decide (-(2:Int) ^ 63<=M0 (done.map lU)) && decide (M0 (done.map lU) < 2 ^ 63))=true
  ·rw [if_pos hr]
   rw [if_pos hr] at h
   exact Lm (by simpa [QG] using h)
  ·rw [if_neg hr]
   rw [if_neg hr] at h
   exact Lk (NL (Lm (by simpa [QG] using h)))
theorem CD {x y:List IK} {a b:Addr} {P:Fin->Shared->Prop} (hu:A.units < cLine) (hx:iw prog w s.heap x a) (hy:iw prog w s.heap y b) (h:P (.done (.ret (.bool (decide (x=y))))) s):
  wpAny (model prog w) A (Builtin.«tuple.__eq__» ⟨[.ref a,.ref b],[]⟩) P E s:=by
 have hTb:=hy.typeIs
 obtain ⟨oa,xs,na,hoa,_,hda,hia⟩:=hx
 obtain ⟨ob,ys,nb,hob,_,hdb,hib⟩:=hy
 show wpAny _ _ (Uc (.ref b) (.type "tuple") >>= _) _ _ s
 refine Lk (Nt hTb PJ ?_)
 simp only [OX,MB,if_false]
 refine Lk (Qv hoa hda ?_)
 refine Lk (Qv hob hdb ?_)
 refine Lk ?_
 refine PD _
  (fun cV r s'=>r.1=none/\s'=s/\∃ x' y' xs' ys',cV=List.zip xs' ys'/\Paired (cT prog w s.heap) x' xs'/\Paired (cT prog w s.heap) y' ys'/\decide (x'=y')=decide (x=y)/\(xs'.length == ys'.length)=(xs.size == ys.size))
  _ ?_ ?_ _ _ ⟨rfl,rfl,x,y,xs.toList,ys.toList,rfl,hia,hib,rfl,by simp⟩
 ·rintro ⟨u,v⟩ cV r s' ⟨hr,rfl,x',y',xs',ys',hz,hx',hy',hdec,hlen⟩
  cases hx' with
  | nil=>simp at hz
  | @cons k1 u' x'' xs'' h1 hx''=>
   cases hy' with
   | nil=>simp at hz
   | @cons k2 v' y'' ys'' h2 hy''=>
    simp only [MW,List.cons.injEq,Prod.mk.injEq] at hz
    obtain ⟨⟨rfl,rfl⟩,rfl⟩:=hz
    refine Lk (Iu (x:=k1) (y:=k2) hu h1 h2 ?_)
    by_cases hk:k1=k2
    ·subst hk
     rw [decide_eq_true rfl]
     simp only [OX,MB,if_false]
     refine Lm ⟨rfl,rfl,x'',y'',xs'',ys'',rfl,hx'',hy'',?_,by simpa using hlen⟩
     rw [<-hdec]
     by_cases hxy:x''=y''
     ·simp [hxy]
     ·simp [hxy]
    ·rw [decide_eq_false hk]
     simp only [Bool.not_false,if_true]
     have hf:decide (x=y)=false:=by rw [<-hdec]; simp [hk]
     rw [hf] at h
     exact Lk (Lm (Lm (Lm h)))
 ·rintro ⟨r1,r2⟩ s' ⟨hr,rfl,x',y',xs',ys',hz,hx',hy',hdec,hlen⟩
  simp only at hr
  subst hr
  refine Lm ?_
  have hfin:(xs.size == ys.size)=decide (x=y):=by
   rw [<-hdec,<-hlen]
   cases hx' with
   | nil=>
    cases hy' with
    | nil=>simp
    | cons _ _=>simp
   | cons _ _=>
    cases hy' with
    | nil=>simp
    | cons _ _=>simp at hz
  show P (.done (.ret (.bool (xs.size == ys.size)))) s'
  rw [hfin]; exact h
theorem EL {x y:List IK} {a b:Addr} {Q:Bool->Shared->Prop} (hu:A.units + 1 < cLine) (hx:iw prog w s.heap x a) (hy:iw prog w s.heap y b) (h:Q (decide (x=y)) s):
  wpAny (model prog w) A (eqBool (.ref a) (.ref b)) Q E s:=by
 unfold eqBool
 try with_reducible refine ME ?_
 show wpAny _ _ (if (LZ a == LZ b)=true then _ else _) Q E s
 by_cases hab:(LZ a == LZ b)=true
 ·rw [if_pos hab]
  have e:a=b:=by have:=eq_of_beq hab; injection this
  subst e
  obtain rfl:=hx.inj hy
  exact Lk (NL (Lm (by simpa using h)))
 ·rw [if_neg hab]
  exact Lk (wpAny_richCompare_same_room (op:=.Eq) hx.typeIs hy.typeIs P4
   (Mh P4 hx.typeIs F.entry_tuple_eq (CD hu hx hy ⟨_,rfl,(fun e=>nomatch e),NB h⟩) (F.args_tuple_eq_2 _ _)) (by omega))
theorem A7 {n:Nat} {ks:List IA} {a:Addr} {Q:Bool->Shared->Prop} (hk:Ub (dj prog w) s.heap ks a) (h:Q true s):wpAny (model prog w) A (Rw (n + 1) (.ref a)) Q E s:=by
 have hT:=hk.typeIs
 obtain ⟨o,items,_,ho,_,hd,hi⟩:=hk
 unfold Rw
 refine Lk (MV hT P4.lookup ?_)
 show wpAny _ _ (Uc (.ref a) (.type "tuple") >>= _) _ _ s
 refine Lk (Nt hT PJ ?_)
 simp only [OX,MB,if_false]
 refine Lk (MD ho hd ?_)
 refine Lk ?_
 show wpAny _ _ (forIn items _ _) _ _ s
 rw [<-OC]
 refine PD _ (fun cV r s'=>r.1=none/\s'=s/\∀ v∈cV,carriedByValue v=true) _ ?_ ?_ _ _ ⟨rfl,rfl,hi.byValue⟩
 ·rintro v cV r s' ⟨hr,rfl,hall⟩
  rw [SZ _ (hall v Lu)]
  refine Lk (Lm ?_)
  simp only [OX,MB,if_false]
  exact Lm ⟨rfl,rfl,fun u hu'=>hall u (LC _ hu')⟩
 ·rintro ⟨r1,r2⟩ s' ⟨hr,rfl,_⟩
  simp only at hr
  subst hr
  exact Lm h
theorem F9 {ks:List IK} {a:Addr} {Q:Bool->Shared->Prop} (hk:iw prog w s.heap ks a) (h:Q true s):wpAny (model prog w) A (Rw 8 (.ref a)) Q E s:=by
 have hT:=hk.typeIs
 obtain ⟨o,items,n,ho,_,hd,hi⟩:=hk
 unfold Rw
 refine Lk (MV hT P4.lookup ?_)
 show wpAny _ _ (Uc (.ref a) (.type "tuple") >>= _) _ _ s
 refine Lk (Nt hT PJ ?_)
 simp only [OX,MB,if_false]
 refine Lk (MD ho hd ?_)
 refine Lk ?_
 show wpAny _ _ (forIn items _ _) _ _ s
 rw [<-OC]
 refine PD _ (fun cV r s'=>r.1=none/\s'=s/\∃ ks,Paired (cT prog w s.heap) ks cV) _ ?_ ?_ _ _ ⟨rfl,rfl,ks,hi⟩
 ·rintro v cV r s' ⟨hr,rfl,ks,hall⟩
  cases hall with
  | @cons k _ ks' _ h1 hl=>
   refine Lk ?_
   have fin:wpAny (model prog w) A (Rw 7 v) (fun b s2=>b=true/\s2=s') E s':=by
    cases k with
    | inl a'=>rw [SZ _ ((dj prog w).byValue _ _ h1)]; exact Lm ⟨rfl,rfl⟩
    | inr as=>obtain ⟨b,rfl,q⟩:=h1; exact A7 (n:=6) q ⟨rfl,rfl⟩
   refine M1 fin (fun b s2 ⟨e1,e2⟩=>?_) fun _ _ x=>x
   subst e1 e2
   simp only [OX,MB,if_false]
   exact Lm ⟨rfl,rfl,ks',hl⟩
 ·rintro ⟨r1,r2⟩ s' ⟨hr,rfl,_⟩
  simp only at hr
  subst hr
  exact Lm h
end
noncomputable def qP (prog:Program) (w:World):HeapKind prog w (List IK) where
 is:=iw prog w
 hash:=yR
 draws:=zE
 room:=fun A=>A.units + 1 < cLine
 inj:=fun hx hy=>hx.inj hy
 keeps:=fun x ho hd hs=>x.keeps ho hd hs
 pyHash:=fun hu hk h=>EK hu hk h
 eqBool:=fun hu hx hy h=>EL hu hx hy h
 quiet:=fun hk h=>F9 hk h
noncomputable def DA (a:Addr) (kvs:List (IA×V)) (h:Heap):Prop:=kvs.length<=Lz/\(a == Nl)=false/\∃ (P:Program) (w:World) (vs:List (IA×Value)),KV kvs vs/\h.DictOf (dj P w) a vs
noncomputable def ZX:List (List IK×Addr×V)->List (List IK×Addr×Value)->Prop:=Paired fun z x=>z.1=x.1/\z.2.1=x.2.1/\aK z.2.2 x.2.2
noncomputable def DB (a:Addr) (zs:List (List IK×Addr×V)) (h:Heap):Prop:=zs.length<=Lz/\(a == Nl)=false/\∃ xs:List (List IK×Addr×Value),ZX zs xs/\
 ∃ o es ep,h.get? a=some o/\o.ExactDict/\o.data=.dict es ep/\es.toList=xs.map (fun x=>⟨yR x.1,.ref x.2.1,x.2.2⟩)/\(xs.map (·.1)).Nodup
noncomputable def dA (a:Addr) (kvs:List (IA×V)):HO:=.ext (DA a kvs)
noncomputable def dB (a:Addr) (zs:List (List IK×Addr×V)):HO:=.ext (DB a zs)
noncomputable def atZ (zs:List (List IK×Addr×V)) (k:List IK):Option V:=(zs.find? fun p=>decide (p.1=k)).map (·.2.2)
noncomputable def Dx (H:Hp) (a:Addr) (s:Bool) (f:MK->Option V) (n:Nat):Prop:=
 (s=false/\∃ kvs,H a=some (dA a kvs)/\(∀ k,d7 kvs k=f (.inl k))/\kvs.length<=n)\/
 (s=true/\∃ zs,H a=some (dB a zs)/\(∀ z∈zs,dh H (.ref z.2.1) (.inr z.1))/\(∀ k,atZ zs k=f (.inr k))/\zs.length<=n)
section
variable {H H':Hp} {a b:Addr} {s:Bool} {f g:MK->Option V} {n m:Nat}
theorem Dx.ext (h:Dx H a s f n):∃ φ,H a=some (.ext φ):=by
 rcases h with ⟨_,kvs,e,_⟩ | ⟨_,zs,e,_⟩
 ·exact ⟨_,e⟩
 ·exact ⟨_,e⟩
theorem Dx.keep (h:Dx H a s f n) (e:H' a=H a) (kp:dJ H H'):Dx H' a s f n:=by
 rcases h with ⟨hs,kvs,h1,h2⟩ | ⟨hs,zs,h1,h2,h3⟩
 ·exact .inl ⟨hs,kvs,e.trans h1,h2⟩
 ·exact .inr ⟨hs,zs,e.trans h1,fun z hz=>(h2 z hz).keep kp,h3⟩
theorem Dx.same (h:Dx H a s f n) (q:ap H H'):Dx H' a s f n:=by
 obtain ⟨φ,h1⟩:=h.ext
 exact h.keep ((q _ _ h1).trans h1.symm) q.keep
theorem Dx.ne_lst {xs:List V} (h:Dx H a s f n) (e:H b=some (.lst xs)):b≠a:=by
 obtain ⟨φ,h1⟩:=h.ext
 exact Cc e h1 (fun z=>nomatch z)
theorem Dx.le (h:Dx H a s f n) (e:n<=m):Dx H a s f m:=by
 rcases h with ⟨hs,kvs,h1,h2,h3⟩ | ⟨hs,zs,h1,h2,h3,h4⟩
 ·exact .inl ⟨hs,kvs,h1,h2,L8 h3 e⟩
 ·exact .inr ⟨hs,zs,h1,h2,h3,L8 h4 e⟩
theorem Dx.congr (h:Dx H a s f n) (e:∀ k,f k=g k):Dx H a s g n:=by
 rcases h with ⟨hs,kvs,h1,h2,h3⟩ | ⟨hs,zs,h1,h2,h3,h4⟩
 ·exact .inl ⟨hs,kvs,h1,fun k=>(h2 k).trans (e _),h3⟩
 ·exact .inr ⟨hs,zs,h1,h2,fun k=>(h3 k).trans (e _),h4⟩
end
end
theorem Dx.off {H H':Hp} {a l:Addr} {s:Bool} {f:MK->Option V} {n:Nat} {xs:List V} (h:Dx H a s f n) (e:H l=some (.lst xs)) (o:Off l H H'):Dx H' a s f n:=
 h.keep (o a (h.ne_lst e).symm) (o.keep e)
noncomputable def zF:TE:=fun _ H Q=>∃ s,∀ p H',H p=none->ap H H'->Dx H' p s (fun _=>none) 0->Q (.ref p) H'
theorem Iv {σ:St} {H:Hp} {Q:VK} (s:Bool) (h:∀ p H',H p=none->ap H H'->Dx H' p s (fun _=>none) 0->Q (.ref p) H'):zF σ H Q:=⟨s,h⟩
noncomputable def CG:R2:=fun x y H Q=>∃ a s f n k v,x=.ref a/\Dx H a s f n/\dh H y k/\mR k=s/\f k=some v/\Q v H
noncomputable def oW (f:MK->Option V) (k:MK) (v:V):MK->Option V:=fun j=>if j=k then some v else f j
noncomputable def zG:V->List V->Hp->VK->Prop:=fun x ys H Q=>∃ a s f n k y v,x=.ref a/\ys=[y,v]/\Dx H a s f n/\dh H y k/\mR k=s/\n < Lz/\(∀ u,f k=some u->Q u H)/\
 (f k=none->∀ H',Off a H H'->Dx H' a s (oW f k v) (n + 1)->Q v H')
noncomputable def tXM (r:V->List V->Hp->VK->Prop) (to:TE) (t:TA):TE:=fun σ H Q=>to σ H fun x H1=>(∃ a s f n,x=.ref a/\Dx H1 a s f n)/\t σ H1 fun ys H2=>r x ys H2 Q
section
variable {σ:St} {H:Hp} {Q:VK} {a:Addr} {s:Bool} {f:MK->Option V} {n:Nat} {k:MK} {y v:V}
theorem J2 (d:Dx H a s f n) (hk:dh H y k) (hs:mR k=s) (e:f k=some v) (h:Q v H):CG (.ref a) y H Q:=⟨a,s,f,n,k,v,rfl,d,hk,hs,e,h⟩
theorem Iw (d:Dx H a s f n) (hk:dh H y k) (hs:mR k=s) (hn:n < Lz) (h1:∀ u,f k=some u->Q u H) (h2:f k=none->∀ H',Off a H H'->Dx H' a s (oW f k v) (n + 1)->Q v H'):zG (.ref a) [y,v] H Q:=⟨a,s,f,n,k,y,v,rfl,rfl,d,hk,hs,hn,h1,h2⟩
theorem Lj {r:V->List V->Hp->VK->Prop} {to:TE} {t:TA} (h:to σ H fun x H1=>(∃ a s f n,x=.ref a/\Dx H1 a s f n)/\t σ H1 fun ys H2=>r x ys H2 Q):tXM r to t σ H Q:=h
end
section
variable {α:Type} [DecidableEq α] {ks:List α} {i:Nat} {k:α}
noncomputable def iB (ks:List α) (i:Nat):α->Option V:=fun k=>if k∈ks.take i then some (.int (ks.idxOf k:Nat)) else none
theorem CH (hk:ks[i]?=some k) (h:k∈ks.take i) (j:α):iB ks i j=iB ks (i + 1) j:=by
 unfold iB
 rw [cf hk]
 by_cases q:j∈ks.take i
 ·rw [if_pos q,if_pos (MT _ q)]
 ·rw [if_neg q,if_neg]
  intro z
  rcases LR.mp z with z | z
  ·exact q z
  ·rw [Ln.mp z] at q; exact q h
theorem CI (hk:ks[i]?=some k) (h:k∉ks.take i) (j:α):(if j=k then some (V.int (i:Nat)) else iB ks i j)=iB ks (i + 1) j:=by
 unfold iB
 rw [cf hk]
 by_cases q:j=k
 ·subst q
  rw [if_pos rfl,if_pos (by simp),xG hk h]
 ·rw [if_neg q]
  by_cases z:j∈ks.take i
  ·rw [if_pos z,if_pos (MT _ z)]
  ·rw [if_neg z,if_neg]
   intro w
   rcases LR.mp w with w | w
   ·exact z w
   ·exact q (Ln.mp w)
theorem xI (h:k∈ks.take i):iB ks i k=some (.int (ks.idxOf k:Nat)):=if_pos h
theorem A8 (h:k∉ks.take i):iB ks i k=none:=if_neg h
theorem A9 (k:α):none=iB ks 0 k:=(if_neg (by simp)).symm
theorem zH (hk:ks[i]?=some k):(bp ks).take (i + 1)=(bp ks).take i++[ks.idxOf k]:=cf (by unfold bp; rw [LD,hk]; rfl)
end
end L2
section
namespace KM
noncomputable def aV:Nat->Nat
 | 0=>1
 | n + 1=>aV n * (n + 1)
noncomputable def choose:Nat->Nat->Nat
 | _,0=>1
 | 0,_ + 1=>0
 | n + 1,k + 1=>choose n k + choose n (k + 1)
theorem iV:∀ n,0 < aV n
 | 0=>by decide
 | n + 1=>Tg (iV n) (SN n)
theorem kd (n:Nat):choose n 0=1:=by cases n <;> rfl
theorem mS:∀ (n k:Nat),n < k->choose n k=0
 | _,0,h=>absurd h (P5 _)
 | 0,_ + 1,_=>rfl
 | n + 1,k + 1,h=>by rw [choose,mS n k (by omega),mS n (k + 1) (by omega)]
theorem tE:∀ n,choose n n=1
 | 0=>rfl
 | n + 1=>by rw [choose,tE n,mS n (n + 1) (by omega)]
theorem iC:∀ (n k:Nat),k<=n->choose n k * (aV k * aV (n - k))=aV n
 | n,0,_=>by rw [kd,aV,Nat.sub_zero,Th,Th]
 | 0,_ + 1,h=>absurd h (by omega)
 | n + 1,k + 1,h=>by
  rw [choose,Ti]
  by_cases hk:k=n
  ·subst hk
   rw [tE,mS k (k + 1) (by omega),OP]
   simp [aV]
  ·have hk':k + 1<=n:=by omega
   have e1:=iC n k (by omega)
   have e2:=iC n (k + 1) hk'
   have s1:n + 1 - (k + 1)=n - k:=by omega
   have s2:n - k=(n - (k + 1)) + 1:=by omega
   rw [s1]
   have a1:choose n k * (aV (k + 1) * aV (n - k))=(k + 1) * aV n:=by
    rw [<-e1,aV]
    simp only [Nf,Nr,NY]
   have a2:choose n (k + 1) * (aV (k + 1) * aV (n - k))=(n - k) * aV n:=by
    have s3:aV (n - k)=aV (n - (k + 1)) * (n - k):=by
     rw [s2,aV,<-s2]
    rw [<-e2,s3]
    simp only [Nf,Nr,NY]
   rw [a1,a2,<-Ti,aV,Nr]
   congr 1
   omega
theorem Ba (n k:Nat) (h:k + 1<=n):choose n k * (n - k) / (k + 1)=choose n (k + 1):=by
 have e1:=iC n k (by omega)
 have e2:=iC n (k + 1) h
 have s2:n - k=(n - (k + 1)) + 1:=by omega
 have p:0 < aV k * aV (n - (k + 1)):=Tg (iV _) (iV _)
 have q:choose n k * (n - k)=choose n (k + 1) * (k + 1):=by
  have:choose n k * (n - k) * (aV k * aV (n - (k + 1)))=choose n (k + 1) * (k + 1) * (aV k * aV (n - (k + 1))):=by
   have l:choose n k * (n - k) * (aV k * aV (n - (k + 1)))=aV n:=by
    rw [<-e1,show aV (n - k)=aV (n - (k + 1)) * (n - k) by rw [s2,aV,<-s2]]
    simp only [Nf,Nr,NY]
   have r:choose n (k + 1) * (k + 1) * (aV k * aV (n - (k + 1)))=aV n:=by
    rw [<-e2,aV]
    simp only [Nf,Nr,NY]
   rw [l,r]
  exact QH p this
 rw [q,Nat.mul_div_cancel _ (SN k)]
noncomputable def cx:Nat->List Nat->Nat
 | _,[]=>1
 | n,s :: r=>choose n s * cx (n - s) r
theorem uS:∀ (ss:List Nat) (n:Nat),ss.sum<=n->cx n ss * ((ss.map aV).foldr (· * ·) 1 * aV (n - ss.sum))=aV n
 | [],n,_=>by simp [cx]
 | s :: r,n,h=>by
  rw [LW] at h
  have ih:=uS r (n - s) (by omega)
  have c:=iC n s (by omega)
  rw [cx,LI,List.foldr_cons,LW,<-c,<-ih,Nat.sub_sub]
  simp only [Nf,Nr,NY]
end KM
end
section
namespace KM
noncomputable def se (room:List Nat) (w:List Nat):List Nat:=(LU room.length).filter fun j=>decide (w.count j < room.getD j 0)
noncomputable def grow (room:List Nat) (ws:List (List Nat)):List (List Nat):=ws.flatMap fun w=>(se room w).map fun j=>w++[j]
noncomputable def cG (room:List Nat):Nat->List (List Nat)
 | 0=>[[]]
 | i + 1=>grow room (cG room i)
noncomputable def words:Nat->List Nat->Nat
 | 0,_=>1
 | n + 1,r=>(((LU r.length).filter fun j=>decide (0 < r.getD j 0)).map fun j=>words n (r.set j (r.getD j 0 - 1))).sum
noncomputable def left (room w:List Nat):List Nat:=(LU room.length).map fun j=>room.getD j 0 - w.count j
theorem lV (room w:List Nat):(left room w).length=room.length:=by unfold left; rw [Lp,Nj]
theorem zI (room w:List Nat) (j:Nat) (h:j < room.length):(left room w).getD j 0=room.getD j 0 - w.count j:=by
 unfold left
 rw [LJ,LD,Nk h]
 rfl
theorem EM (room w:List Nat) (j:Nat) (h:j < room.length):left room (w++[j])=(left room w).set j ((left room w).getD j 0 - 1):=by
 apply NW
 intro k
 by_cases hk:k < room.length
 ·have e1:(left room (w++[j]))[k]?=some (room.getD k 0 - (w++[j]).count k):=by
   unfold left
   rw [LD,Nk hk]
   rfl
  rw [e1,OL,zI room w j h,lV]
  by_cases hjk:j=k
  ·subst hjk
   rw [if_pos rfl,if_pos h,QQ]
   simp
   omega
  ·rw [if_neg hjk]
   unfold left
   rw [LD,Nk hk,QQ]
   simp [Ud,hjk]
 ·rw [Mb (by rw [lV]; omega),Mb (by rw [NH,lV]; omega)]
theorem CJ (room w:List Nat):se room w=(LU (left room w).length).filter fun j=>decide (0 < (left room w).getD j 0):=by
 unfold se
 rw [lV]
 apply List.filter_congr
 intro j hj
 rw [N1] at hj
 rw [zI room w j hj]
 by_cases h:w.count j < room.getD j 0
 ·simp [h]
  omega
 ·simp [h]
  omega
noncomputable def sf (room:List Nat):Nat->List (List Nat)->List (List Nat)
 | 0,ws=>ws
 | n + 1,ws=>sf room n (grow room ws)
theorem nC (room:List Nat):∀ n i,sf room n (cG room i)=cG room (i + n)
 | 0,i=>rfl
 | n + 1,i=>by
  rw [sf,show grow room (cG room i)=cG room (i + 1) from rfl,nC room n (i + 1)]
  congr 1
  omega
theorem mT (f:List Nat->Nat) (room:List Nat):∀ ws:List (List Nat),((grow room ws).map f).sum=(ws.map fun w=>((se room w).map fun j=>f (w++[j])).sum).sum
 | []=>rfl
 | w :: r=>by
  have ih:=mT f room r
  unfold grow at ih ⊢
  rw [QR,LS,MU,ih,LI,LW,N5]
  rfl
theorem qQ (room:List Nat):∀ (n:Nat) (ws:List (List Nat)),(sf room n ws).length=(ws.map fun w=>words n (left room w)).sum
 | 0,ws=>by
  rw [sf]
  induction ws with
  | nil=>rfl
  | cons w r ih=>rw [LX,ih,LI,LW,words]; omega
 | n + 1,ws=>by
  rw [sf,qQ room n,mT]
  congr 1
  apply NJ
  intro w _
  rw [words,CJ]
  congr 1
  apply NJ
  intro j hj
  have hj':=ND.mp hj
  rw [N1,lV] at hj'
  rw [EM room w j hj'.1]
noncomputable def cK (r:List Nat):Nat:=(r.map aV).foldr (· * ·) 1
theorem gZ (a:Nat) (r:List Nat):cK (a :: r)=aV a * cK r:=rfl
theorem xJ:∀ r,0 < cK r
 | []=>by decide
 | a :: r=>Tg (iV a) (xJ r)
theorem xK:∀ (r:List Nat) (j:Nat),j < r.length->0 < r.getD j 0->cK r=cK (r.set j (r.getD j 0 - 1)) * r.getD j 0
 | [],j,h,_=>absurd h (by simp)
 | a :: r,0,_,h=>by
  have h':0 < a:=h
  show cK (a :: r)=cK ((a - 1) :: r) * a
  rw [gZ,gZ]
  obtain ⟨b,rfl⟩:∃ b,a=b + 1:=⟨a - 1,by omega⟩
  rw [show b + 1 - 1=b by omega,aV]
  simp only [Nf,Nr,NY]
 | a :: r,j + 1,h,hp=>by
  have ih:=xK r j (by simpa using h) hp
  show cK (a :: r)=cK (a :: r.set j (r.getD j 0 - 1)) * r.getD j 0
  rw [gZ,gZ,ih]
  simp only [Nf,Nr,NY]
theorem wF:∀ (r:List Nat) (j:Nat),j < r.length->0 < r.getD j 0->(r.set j (r.getD j 0 - 1)).sum + 1=r.sum
 | [],j,h,_=>absurd h (by simp)
 | a :: r,0,_,h=>by
  have h':0 < a:=h
  show ((a - 1) :: r).sum + 1=(a :: r).sum
  rw [LW,LW]
  omega
 | a :: r,j + 1,h,hp=>by
  have ih:=wF r j (by simpa using h) hp
  show (a :: r.set j (r.getD j 0 - 1)).sum + 1=(a :: r).sum
  rw [LW,LW]
  omega
theorem wG (c:Nat) (f:Nat->Nat):∀ l:List Nat,(l.map f).sum * c=(l.map fun j=>f j * c).sum
 | []=>by simp
 | a :: r=>by rw [LI,LW,Ti,wG c f r,LI,LW]
theorem zJ (r:List Nat):(((LU r.length).filter fun j=>decide (0 < r.getD j 0)).map fun j=>r.getD j 0).sum=r.sum:=by
 have go:∀ (l:List Nat) (g:Nat->Nat),((l.filter fun j=>decide (0 < g j)).map g).sum=(l.map g).sum:=by
  intro l g
  induction l with
  | nil=>rfl
  | cons a t ih=>
   rw [Nw]
   by_cases h:0 < g a
   ·rw [if_pos (by simpa using h),LI,LW,ih,LI,LW]
   ·rw [if_neg (by simpa using h),ih,LI,LW]
    omega
 rw [go]
 congr 1
 apply NW
 intro k
 rw [LD]
 by_cases hk:k < r.length
 ·rw [Nk hk,Lo hk]
  show some (r.getD k 0)=some r[k]
  rw [LJ,Lo hk]
  rfl
 ·rw [Mb (by simpa using hk),Mb (by simpa using hk)]
  rfl
theorem oX:∀ (n:Nat) (r:List Nat),r.sum=n->words n r * cK r=aV n
 | 0,r,h=>by
  have:cK r=1:=by
   induction r with
   | nil=>rfl
   | cons a t ih=>
    rw [LW] at h
    have ha:a=0:=by omega
    subst ha
    rw [gZ,ih (by omega)]
    rfl
  rw [words,this]
  rfl
 | n + 1,r,h=>by
  rw [words,wG]
  have e:((LU r.length).filter fun j=>decide (0 < r.getD j 0)).map (fun j=>words n (r.set j (r.getD j 0 - 1)) * cK r)=((LU r.length).filter fun j=>decide (0 < r.getD j 0)).map (fun j=>r.getD j 0 * aV n):=by
   apply NJ
   intro j hj
   have hj':=ND.mp hj
   rw [N1] at hj'
   have hp:0 < r.getD j 0:=of_decide_eq_true hj'.2
   rw [xK r j hj'.1 hp,<-Nf,oX n _ (by have:=wF r j hj'.1 hp; omega),Nr]
  rw [e,<-wG,zJ,h,aV,Nr]
theorem Ga (room:List Nat):left room []=room:=by
 apply NW
 intro k
 unfold left
 rw [LD]
 by_cases hk:k < room.length
 ·rw [Nk hk,Lo hk]
  show some (room.getD k 0 - ([]:List Nat).count k)=some room[k]
  rw [LJ,Lo hk]
  simp
 ·rw [Mb (by simpa using hk),Mb (by simpa using hk)]
  rfl
theorem EN (room:List Nat):(cG room room.sum).length * cK room=aV room.sum:=by
 have e:=nC room room.sum 0
 rw [Nat.zero_add] at e
 rw [<-e,qQ]
 show (List.map (fun w=>words room.sum (left room w)) [[]]).sum * cK room=aV room.sum
 rw [LI,ON,LW,OQ,Ga,Nat.add_zero]
 exact oX _ _ rfl
structure Hw (room:List Nat) (i:Nat) (w:List Nat):Prop where
 len:w.length=i
 all:∀ j∈w,j < room.length
 cnt:∀ j,j < room.length->w.count j<=room.getD j 0
theorem iD (room:List Nat):∀ i,∀ w∈cG room i,Hw room i w
 | 0,w,h=>by
  have:w=[]:=by simpa [cG] using h
  subst this
  exact ⟨rfl,fun _ h=>(nomatch h),fun j _=>by simp⟩
 | i + 1,w,h=>by
  rw [cG,grow,TB] at h
  obtain ⟨v,hv,h⟩:=h
  obtain ⟨j,hj,rfl⟩:=MC.mp h
  have b:=iD room i v hv
  have hj':=ND.mp hj
  rw [N1] at hj'
  have hc:v.count j < room.getD j 0:=of_decide_eq_true hj'.2
  refine ⟨by rw [LG,b.len]; rfl,fun k hk=>?_,fun k hk=>?_⟩
  ·rcases LR.mp hk with hk | hk
   ·exact b.all k hk
   ·rw [Ln] at hk
    omega
  ·rw [QQ]
   by_cases e:j=k
   ·subst e
    rw [List.count_singleton_self]
    omega
   ·have:=b.cnt k hk
    rw [List.count_singleton,if_neg (by simpa using e)]
    omega
theorem uT:∀ (n:Nat) (w:List Nat),(∀ j∈w,j < n)->((LU n).map fun j=>w.count j).sum=w.length
 | n,[] , _=>by
  have:((LU n).map fun j=>([]:List Nat).count j)=(LU n).map fun _=>0:=by simp
  rw [this]
  have go:∀ m,((LU m).map fun _=>0).sum=0:=by
   intro m
   induction m with
   | zero=>rfl
   | succ m ih=>rw [OD,LS,MU,ih]; rfl
  exact go n
 | n,a :: w,h=>by
  have ih:=uT n w fun j hj=>h j (LC _ hj)
  have ha:a < n:=h a Lu
  rw [LX,<-ih]
  clear ih h
  have go:∀ m,((LU m).map fun j=>(a :: w).count j).sum=((LU m).map fun j=>w.count j).sum + (if a < m then 1 else 0):=by
   intro m
   induction m with
   | zero=>simp
   | succ m ih=>
    rw [OD,LS,MU,LS,MU,ih]
    simp only [LI,ON,LW,OQ,Ud]
    by_cases e:a=m
    ·subst e
     rw [if_neg (M5 a),if_pos (MX a),if_pos (beq_self_eq_true a)]
     omega
    ·rw [if_neg (show ¬ (a == m)=true by simpa using e)]
     by_cases hl:a < m
     ·rw [if_pos hl,if_pos (show a < m + 1 by omega)]
      omega
     ·rw [if_neg hl,if_neg (show ¬ a < m + 1 by omega)]
      omega
  rw [go,if_pos ha]
theorem oY (room:List Nat):(LU room.length).map (fun j=>room.getD j 0)=room:=by
 apply NW
 intro k
 rw [LD]
 by_cases hk:k < room.length
 ·rw [Nk hk,Lo hk]
  show some (room.getD k 0)=some room[k]
  rw [LJ,Lo hk]
  rfl
 ·rw [Mb (by simpa using hk),Mb (by simpa using hk)]
  rfl
end KM
end
section
namespace KM
theorem EO (n k:Nat):choose n k<=2 ^ n:=by
 induction n generalizing k with
 | zero=>cases k <;> simp [choose]
 | succ n ih=>
  cases k with
  | zero=>rw [kd]; exact Nat.one_le_two_pow
  | succ k=>
   rw [choose,Nat.pow_succ]
   have:=ih k
   have:=ih (k + 1)
   omega
theorem zK {n i:Nat} (h:i + 1<=n):((choose n i:Nat):Int) * ((n:Int) - (0 + (i:Int))) / (0 + (i:Int) + 1)=((choose n (i + 1):Nat):Int):=by
 have e1:(n:Int) - (0 + (i:Int))=((n - i:Nat):Int):=by omega
 have e2:(0 + (i:Int) + 1)=((i + 1:Nat):Int):=by omega
 rw [e1,e2,<-Rx,<-TC,Ba n i h]
theorem tF (n:Nat) (ss:List Nat) (h:ss.sum<=n):cx n ss * cK (ss++[n - ss.sum])=aV n:=by
 have e:cK (ss++[n - ss.sum])=(ss.map aV).foldr (· * ·) 1 * aV (n - ss.sum):=by
  generalize n - ss.sum=k
  induction ss with
  | nil=>simp [cK]
  | cons a r ih=>
   have hr:r.sum<=n:=by rw [LW] at h; omega
   show aV a * cK (r++[k])=aV a * (r.map aV).foldr (· * ·) 1 * aV k
   rw [ih hr,Nf]
 rw [e]
 exact uS ss n h
theorem nD {n:Nat} {ss:List Nat} (h:ss.sum<=n):(cG (ss++[n - ss.sum]) n).length=cx n ss:=by
 have e1:=tF n ss h
 have hs:(ss++[n - ss.sum]).sum=n:=by
  rw [MU,LW,OQ]
  omega
 have e2:=EN (ss++[n - ss.sum])
 rw [hs] at e2
 exact QH (xJ _) (e2.trans e1.symm)
theorem words_pos (n:Nat) (r:List Nat) (h:r.sum=n):0 < words n r:=by
 have e:=oX n r h
 have f:=iV n
 rcases Pa (words n r) with z | z
 ·rw [z,Nat.zero_mul] at e
  omega
 ·exact z
theorem Gb {room w:List Nat} {i:Nat} (h:Hw room i w):(left room w).sum + i=room.sum:=by
 have go:∀ m,m<=room.length->((LU m).map fun j=>room.getD j 0 - w.count j).sum + ((LU m).map fun j=>w.count j).sum=((LU m).map fun j=>room.getD j 0).sum:=by
  intro m
  induction m with
  | zero=>intro _; rfl
  | succ m ih=>
   intro hm
   have:=ih (by omega)
   have:=h.cnt m (by omega)
   simp only [OD,LS,MU,LI,ON,LW,OQ] at *
   omega
 have e:=go room.length (Lr _)
 rw [uT room.length w h.all,oY,h.len] at e
 exact e
theorem Gc {room:List Nat} {i:Nat} (h:i<=room.sum):(cG room i).length<=(cG room room.sum).length:=by
 have e:=nC room (room.sum - i) i
 rw [show i + (room.sum - i)=room.sum by omega] at e
 rw [<-e,qQ]
 have hb:=iD room i
 generalize cG room i=ws at hb
 induction ws with
 | nil=>exact Mv _
 | cons w r ih=>
  rw [LI,LW,LX]
  have:=ih fun v hv=>hb v (LC _ hv)
  have:=words_pos (room.sum - i) (left room w) (by have:=Gb (hb w Lu); omega)
  omega
theorem J3:∀ (rs:List Nat) (m:Nat),rs.foldl (fun f s=>f / aV s) (m * cK rs)=m
 | [],m=>by simp [cK]
 | a :: r,m=>by
  rw [T2,gZ]
  have e:m * (aV a * cK r) / aV a=m * cK r:=by
   rw [<-Nf,Nr m,Nf,Nat.mul_div_cancel_left _ (iV a)]
  rw [e]
  exact J3 r m
noncomputable def fG (room w:List Nat) (k:Nat):List Nat:=(LU k).filter fun j=>decide (w.count j < room.getD j 0)
theorem tG (room w:List Nat):fG room w room.length=se room w:=rfl
theorem zL (room w:List Nat) (k:Nat):fG room w (k + 1)=fG room w k++(if w.count k < room.getD k 0 then [k] else []):=by
 unfold fG
 rw [OD,Pb]
 by_cases h:w.count k < room.getD k 0
 ·rw [if_pos h,Ov (by simpa using h)]
  rfl
 ·rw [if_neg h,Ow (by simpa using h)]
  rfl
theorem EQ (room:List Nat) (ws:List (List Nat)) (i:Nat) (w:List Nat) (h:ws[i]?=some w):grow room (ws.take (i + 1))=grow room (ws.take i)++(se room w).map fun j=>w++[j]:=by
 unfold grow
 rw [M4,h,Qe]
 simp
theorem zM (room:List Nat) (ws:List (List Nat)) (i:Nat):(grow room (ws.take i)).length<=(grow room ws).length:=by
 have:grow room ws=grow room (ws.take i)++grow room (ws.drop i):=by
  unfold grow
  rw [<-Qe,OO]
 rw [this,LG]
 omega
end KM
end
namespace L2
open PySem PyProof.Rows
section
variable {K:Fg} {vs:List V} {H:Hp} {Q:VK} {E:XK}
noncomputable def ER:V->Bool
 | .int _=>true
 | _=>false
noncomputable def cD:V->Int->Int->Bool
 | .int i,lo,hi=>decide (lo<=i) && decide (i<=hi)
 | _,_,_=>false
noncomputable def fC (K:Fg) (H:Hp) (x:V):Prop:=∃ t b1 b2,fR K H x t/\Ms K t (.type "int")=some b1/\Ms K t (.type "bool")=some b2/\(b1 && !b2)=ER x
theorem fC.int {K:Fg} {H:Hp} (i:Int):fC K H (.int i):=⟨_,_,_,.int i,A4 K,zq K,rfl⟩
theorem ES {K:Fg} {H H':Hp} {x:V} {t:Value} (h:fR K H x t) (s:ap H H'):fR K H' x t:=by
 cases h with
 | non=>exact .non
 | bl b=>exact .bl b
 | int i=>exact .int i
 | str x=>exact .str x
 | flt x=>exact .flt x
 | lst e=>exact .lst (s _ _ e)
 | frz e=>exact .frz (s _ _ e)
 | tup e=>exact .tup (s _ _ e)
 | dK e=>exact .dK (s _ _ e)
 | dT e=>exact .dT (s _ _ e)
 | ins e cl ha hn htk hm=>exact .ins (s _ _ e) cl ha hn htk hm
theorem fC.same {K:Fg} {H H':Hp} {x:V} (h:fC K H x) (s:ap H H'):fC K H' x:=by
 obtain ⟨t,b1,b2,ty,r⟩:=h
 exact ⟨t,b1,b2,ES ty s,r⟩
noncomputable def Ix (K:Fg):Sp:=fun vs H Q _=>∃ x,vs=[x]/\fC K H x/\Q (.bl (ER x)) H
noncomputable abbrev iE (K:Fg):Sp:=Ix K
noncomputable def uU (K:Fg):TS:=(aN (oI (tCB (lT K) (aa (ac 0) (aa (tC (.ty "int")) ah))) (yN (tCB (lT K) (aa (ac 0) (aa (tC (.ty "bool")) ah))))))
theorem Bb (h:iE K vs H Q E):uU K { nx:=fun _ H'=>Q .non H',rt:=Q } (start ["thing"] vs) H:=by
 obtain ⟨x,rfl,⟨t,b1,b2,ty,k1,k2,e⟩,q⟩:=h
 refine ⟨_,rfl,_,_,_,_,rfl,ty,k1,_,rfl,jj (fun c=>?_) (fun c=>?_)⟩
 ·subst c
  refine ⟨_,rfl,_,_,_,_,rfl,ty,k2,_,rfl,?_⟩
  rw [<-e,Px] at q
  exact q
 ·subst c
  rw [<-e,Qf] at q
  exact q
noncomputable def Gd (K:Fg):Sp:=fun vs H Q _=>∃ x lo hi,vs=[x,.int lo,.int hi]/\fC K H x/\Q (.bl (cD x lo hi)) H
noncomputable abbrev eh (K:Fg):Sp:=Gd K
noncomputable def tH (K:Fg):TS:=(aN (oI (au (iE K) [] E0 (aa (ac 0) ah)) (zh (rI0 fun i j=>.bl (decide (i<=j))) (rI0 fun i j=>.bl (decide (i<=j))) (ac 1) (ac 0) (ac 2))))
theorem zN (h:eh K vs H Q E):tH K { nx:=fun _ H'=>Q .non H',rt:=Q } (start ["thing","least","most"] vs) H:=by
 obtain ⟨x,lo,hi,rfl,pl,q⟩:=h
 refine ⟨_,rfl,x,rfl,pl,_,rfl,jj (fun c=>?_) (fun c=>?_)⟩
 ·cases x with
  | int i=>
   refine ⟨_,rfl,_,rfl,_,_,rfl,rfl,_,rfl,jj (fun d=>?_) (fun d=>?_)⟩
   ·refine ⟨_,rfl,_,_,rfl,rfl,?_⟩
    have q':Q (.bl (decide (lo<=i) && decide (i<=hi))) H:=q
    rw [d,Px] at q'
    exact q'
   ·have q':Q (.bl (decide (lo<=i) && decide (i<=hi))) H:=q
    rw [d,Qf] at q'
    exact q'
  | _=>cases c
 ·cases x with
  | int i=>cases c
  | _=>exact q
noncomputable def nE (zs:List V):Int:=(zs.map fun z=>match z with | .int i=>i | _=>0).sum
noncomputable def Hy (x:V) (zs:List V):Bool:=match x with
 | .int c=>(decide (0<=c) && decide (c<=12)) && (decide (1<=zs.length) && decide (zs.length<=5)) && zs.all (fun z=>cD z 0 c) && decide (nE zs<=c)
 | _=>false
theorem wH {zs:List V} {lo hi:Int} (h:zs.all (fun z=>cD z lo hi)=true):∃ ns:List Int,zs=ns.map V.int/\nE zs=ns.sum:=by
 induction zs with
 | nil=>exact ⟨[],rfl,rfl⟩
 | cons z r ih=>
  rw [Oy,MY] at h
  obtain ⟨ns,e,es⟩:=ih h.2
  cases z with
  | int i=>
   refine ⟨i :: ns,by rw [e]; rfl,?_⟩
   show i + nE r=(i :: ns).sum
   rw [es,LW]
  | _=>exact absurd h.1 LB
noncomputable def Hz (K:Fg) (H:Hp) (y:V) (zs:Option (List V)):Prop:=match zs with
 | some zs=>∃ a,y=.ref a/\(H a=some (.lst zs)\/∃ o,H a=some (.frz o (.lst zs)))/\zs.length<=1000/\∀ z∈zs,fC K H z
 | none=>∃ t,fR K H y t/\Ms K t (.type "list")=some false
noncomputable def uV (x:V):Option (List V)->Bool
 | some zs=>Hy x zs
 | none=>false
noncomputable def J4 (K:Fg):Sp:=fun vs H Q _=>∃ x y zs,vs=[x,y]/\fC K H x/\Hz K H y zs/\∀ H',ap H H'->Q (.bl (uV x zs)) H'
noncomputable abbrev oZ (K:Fg):Sp:=J4 K
noncomputable def xL (K:Fg):TS:=(aw (bD (iu (tB (au (eh K) [] E0 (aa (ac 0) (aa (tC (.int 0)) (aa (tC (.int 12)) ah)))))) (aN (tC (.bl false))) bh)
 (aw (bD (tOr (iu (tB (tCB (lT K) (aa (ac 1) (aa (tC (.ty "list")) ah))))) (iu (tB (au (eh K) [] E0 (aa (tCB (eQ K) (aa (ac 1) ah)) (aa (tC (.int 1)) (aa (tC (.int 5)) ah))))))) (aN (tC (.bl false))) bh)
 (aN (oI (tCB (Cu K) (aa (bW (dc K (ac 1)) (fun _ _ _ _=>(aq 0)) (fun _ _ _ _=>bM) (fun _ _ _ _=>(au (eh K) [] E0 (aa (ac 0) (aa (tC (.int 0)) (aa (ac 1) ah))))) [none,some 0]) ah)) (tOp (rI0 fun i j=>.bl (decide (i<=j))) (tCB (tX K) (aa (ac 1) ah)) (ac 0))))))
theorem CK (h:oZ K vs H Q E):xL K { nx:=fun _ H'=>Q .non H',rt:=Q } (start ["cards","sizes"] vs) H:=by
 obtain ⟨x,y,zs,rfl,px,hz,q⟩:=h
 refine ⟨_,rfl,x,0,12,rfl,px,_,rfl,jj (fun c=>?_) (fun c=>?_)⟩
 ·
  have e:uV x zs=false:=by
   have c':cD x 0 12=false:=by simpa using c
   cases zs with
   | none=>rfl
   | some zs=>
    cases x with
    | int i=>
     show ((decide (0<=i) && decide (i<=12)) && (decide (1<=zs.length) && decide (zs.length<=5)) && zs.all (fun z=>cD z 0 i) && decide (nE zs<=i))=false
     rw [show (decide (0<=i) && decide (i<=12))=false from c']
     rfl
    | _=>rfl
  have:=q H (ap.refl H)
  rw [e] at this
  exact this
 ·have c':cD x 0 12=true:=by simpa using c
  cases x with
  | int i=>
   cases zs with
   | none=>
    obtain ⟨t,ty,k⟩:=hz
    refine ⟨_,rfl,_,_,_,_,rfl,ty,k,_,rfl,qH (qH ?_)⟩
    exact q H (ap.refl H)
   | some zs=>
    obtain ⟨a,rfl,ha,hlen,hp⟩:=hz
    have hS:SqL K H a zs:=ha.elim (fun h=>.inl (.inl h)) (fun h=>.inl (.inr h))
    have ty:fR K H (.ref a) (.type "list"):=ha.elim (fun h=>.lst h) (fun ⟨o,h⟩=>.frz h)
    refine ⟨_,rfl,_,_,_,_,rfl,ty,tj K,_,rfl,oO ?_⟩
    refine ⟨_,rfl,a,_,rfl,.inl hS,_,1,5,rfl,fC.int _,_,rfl,jj (fun d=>?_) (fun d=>?_)⟩
    ·have e:uV (.int i) (some zs)=false:=by
      have d0:cD (.int (zs.length:Int)) 1 5=false:=by simpa using d
      have d':(decide ((1:Int)<=(zs.length:Int)) && decide ((zs.length:Int)<=5))=false:=d0
      show ((decide (0<=i) && decide (i<=12)) && (decide (1<=zs.length) && decide (zs.length<=5)) && zs.all (fun z=>cD z 0 i) && decide (nE zs<=i))=false
      have e1:decide (1<=zs.length)=decide ((1:Int)<=(zs.length:Int)):=decide_eq_decide.mpr (by omega)
      have e2:decide (zs.length<=5)=decide ((zs.length:Int)<=5):=decide_eq_decide.mpr (by omega)
      rw [e1,e2,d',RP]
      rfl
     have:=q H (ap.refl H)
     rw [e] at this
     exact this
    ·have d0:cD (.int (zs.length:Int)) 1 5=true:=by simpa using d
     have d':(decide ((1:Int)<=(zs.length:Int)) && decide ((zs.length:Int)<=5))=true:=d0
     have e0:uV (.int i) (some zs)=(zs.all (fun z=>cD z 0 i) && decide (nE zs<=i)):=by
      show ((decide (0<=i) && decide (i<=12)) && (decide (1<=zs.length) && decide (zs.length<=5)) && zs.all (fun z=>cD z 0 i) && decide (nE zs<=i))=_
      have e1:decide (1<=zs.length)=decide ((1:Int)<=(zs.length:Int)):=decide_eq_decide.mpr (by omega)
      have e2:decide (zs.length<=5)=decide ((zs.length:Int)<=5):=decide_eq_decide.mpr (by omega)
      rw [e1,e2,d',show (decide (0<=i) && decide (i<=12))=true from c',Px,Px]
     rw [e0] at q
     refine ⟨_,rfl,a,rfl,⟨_,hS⟩,fun p hp'=>xC (K:=K) (a:=a) (xs:=zs) (fun k acc H2=>acc=((zs.take k).map fun z=>cD z 0 i).map V.bl/\ap H H2/\H2 p=some (.lst acc)) ⟨rfl,bf hp' _,az⟩ ?_ ?_ (small hlen) ?_ ?_⟩
     ·rintro k acc H2 hk ⟨rfl,s2,e2⟩
      exact ⟨e2,by rw [Lp,Lp,M9]; omega⟩
     ·rintro k acc H2 hk ⟨rfl,s2,e2⟩
      exact s2.seq hS
     ·rintro _ _ _ _ k z acc H2 hzk ⟨rfl,s2,e2⟩
      refine ⟨_,rfl,_,rfl,z,0,i,rfl,(hp z (LA hzk)).same s2,e2,?_,s2.upd hp' _,az⟩
      rw [M4,hzk,LS,LS]
      rfl
     ·rintro acc H2 ⟨rfl,s2,e2⟩
      rw [Me] at e2
      refine ⟨p,_,rfl,SqL.of e2,_,rfl,?_⟩
      have ea:(zs.map fun z=>cD z 0 i).all id=zs.all fun z=>cD z 0 i:=by
       rw [PY]
       rfl
      rw [ea]
      refine jj (fun g=>?_) (fun g=>?_)
      ·obtain ⟨ns,en,es⟩:=wH g
       rw [g,Px,es] at q
       refine ⟨_,rfl,a,ns,rfl,by rw [<-en]; exact s2.seq hS,_,rfl,_,_,rfl,rfl,?_⟩
       exact q H2 s2
      ·rw [g,Qf] at q
       exact q H2 s2
  | _=>exact absurd c' LB
noncomputable def ET:Sp:=fun vs H Q _=>∃ n k:Nat,vs=[.int n,.int k]/\k<=n/\n<=50/\Q (.int (KM.choose n k:Nat)) H
noncomputable abbrev o0 (K:Fg):Sp:=ET
noncomputable def xM (K:Fg):TS:=(aw (aI (tC (.int 1)) (aq 2))
 (aw (dI (fA (aa (ac 1) ah)) (aq 3) (aI (tOp (rI fE fun i j=>.int (i / j)) (tOp (rI N2 fun i j=>.int (i * j)) (ac 2) (tOp (rI0 fun i j=>.int (i - j)) (ac 0) (ac 3))) (tOp (rI0 fun i j=>.int (i + j)) (ac 3) (tC (.int 1)))) (aq 2)))
 (aN (ac 2))))
theorem CL (h:o0 K vs H Q E):xM K { nx:=fun _ H'=>Q .non H',rt:=Q } (start ["many","taken","ways","step"] vs) H:=by
 obtain ⟨n,k,rfl,hk,hn,q⟩:=h
 refine ⟨_,rfl,_,rfl,by omega,by omega,qD (lo:=0) (n:=((k:Nat):Int).toNat) (fun i σ H2=>∃ st,σ=[some (.int n),some (.int k),some (.int (KM.choose n i:Nat)),st]/\H2=H) ⟨none,by rw [KM.kd]; rfl,rfl⟩ ?_ ?_⟩
 ·rintro i σ H2 hi ⟨st,rfl,rfl⟩
  have hi':i + 1<=n:=by omega
  refine ⟨_,rfl,_,rfl,_,rfl,_,_,rfl,rfl,_,_,rfl,rfl,.of_right (QB (by omega) (by omega)),_,rfl,_,_,rfl,rfl,_,_,rfl,rfl,⟨by omega,by omega⟩,?_⟩
  dsimp only
  rw [KM.zK hi']
  exact ⟨_,rfl,rfl⟩
 ·rintro σ H2 ⟨st,rfl,rfl⟩
  refine ⟨_,rfl,?_⟩
  rw [show ((k:Nat):Int).toNat=k by omega]
  exact q
structure pb (c:Nat) (ss:List Nat):Prop where
 c12:c<=12
 l1:1<=ss.length
 l5:ss.length<=5
 sum:ss.sum<=c
noncomputable def ax (ss:List Nat):List V:=ss.map fun (s:Nat)=>V.int ((s:Nat):Int)
theorem dm (ss:List Nat):ax ss=(ss.map fun (s:Nat)=>((s:Nat):Int)).map V.int:=by unfold ax; rw [N5]; rfl
theorem bi (ss:List Nat):(ax ss).length=ss.length:=Lp _
theorem iW:∀ ss:List Nat,(ss.map fun (s:Nat)=>((s:Nat):Int)).sum=((ss.sum:Nat):Int)
 | []=>rfl
 | a :: r=>by rw [LI,LW,LW,iW r]; omega
theorem jn:∀ {ss:List Nat} {s:Nat},s∈ss->s<=ss.sum
 | a :: r,s,h=>by
  rw [LW]
  rcases Lq.mp h with rfl | h
  ·omega
  ·have:=jn h
   omega
theorem Ge {c:Nat} {ss:List Nat} (p:pb c ss):Hy (.int c) (ax ss)=true:=by
 have h1:=p.c12
 have h2:=p.l1
 have h3:=p.l5
 have h4:=p.sum
 show ((decide ((0:Int)<=(c:Int)) && decide ((c:Int)<=12)) && (decide (1<=(ax ss).length) && decide ((ax ss).length<=5)) && (ax ss).all (fun z=>cD z 0 c) && decide (nE (ax ss)<=c))=true
 have e1:(ax ss).all (fun z=>cD z 0 c)=true:=by
  unfold ax
  rw [PY,Q8]
  intro s hs
  have:=jn hs
  show (decide ((0:Int)<=(s:Int)) && decide ((s:Int)<=(c:Int)))=true
  rw [decide_eq_true (by omega),decide_eq_true (by omega)]
  rfl
 have e2:nE (ax ss)=((ss.sum:Nat):Int):=by
  rw [<-iW]
  unfold nE ax
  rw [N5]
  rfl
 rw [e1,e2,bi,decide_eq_true (by omega),decide_eq_true (by omega),decide_eq_true h2,decide_eq_true h3,decide_eq_true (by omega)]
 rfl
theorem Gf {K:Fg} {H:Hp} {a:Addr} {ss:List Nat} (h:H a=some (.lst (ax ss))) (hl:ss.length<=1000):Hz K H (.ref a) (some (ax ss)):=
 ⟨a,rfl,.inl h,by rw [bi]; exact hl,fun z hz=>by
  obtain ⟨s,_,rfl⟩:=MC.mp hz
  exact fC.int _⟩
noncomputable def KU (K:Fg):Sp:=fun vs H Q _=>∃ (c:Nat) (a:Addr) (ss:List Nat),vs=[.int c,.ref a]/\H a=some (.lst (ax ss))/\pb c ss/\∀ H',ap H H'->Q (.int (KM.cx c ss:Nat)) H'
noncomputable abbrev nG (K:Fg):Sp:=KU K
noncomputable def uW (K:Fg):TS:=(aw (bD (iu (tB (au (oZ K) [] E0 (aa (ac 0) (aa (ac 1) ah))))) qz bh)
 (aw (aI (tC (.int 1)) (aq 2))
 (aw (aI (ac 0) (aq 3))
 (aw (dI (dc K (ac 1)) (aq 4) (aw (aI (tOp (rI N2 fun i j=>.int (i * j)) (ac 2) (au (o0 K) [] E0 (aa (ac 3) (aa (ac 4) ah)))) (aq 2))
 (aI (tOp (rI0 fun i j=>.int (i - j)) (ac 3) (ac 4)) (aq 3))))
 (aN (ac 2))))))
theorem Bc (h:nG K vs H Q E):uW K { nx:=fun _ H'=>Q .non H',rt:=Q } (start ["cards","sizes","many","left","size"] vs) H:=by
 obtain ⟨c,a,ss,rfl,ha,p,q⟩:=h
 have h12:=p.c12
 have h5:=p.l5
 refine ⟨_,rfl,_,rfl,_,_,some (ax ss),rfl,fC.int _,Gf ha (by omega),fun H1 s1=>⟨_,rfl,?_⟩⟩
 rw [show uV (.int c) (some (ax ss))=true from Ge p]
 refine oO ?_
 refine ⟨_,rfl,?_⟩
 refine ⟨_,rfl,a,rfl,⟨_,SqL.of (s1 _ _ ha)⟩,tR (K:=K) (a:=a) (xs:=ax ss) (fun i σ H2=>∃ (m l:Nat) (st:Option V),σ=[some (.int c),some (.ref a),some (.int m),some (.int l),st]/\H2=H1/\m * KM.cx l (ss.drop i)=KM.cx c ss/\(ss.drop i).sum<=l/\l<=12)
  ⟨1,c,none,rfl,rfl,by rw [Th]; rfl,p.sum,h12⟩ (fun i σ H2 _ ⟨_,_,_,_,e,_⟩=>by subst e; exact SqL.of (s1 _ _ ha)) ?_ ?_⟩
 ·rintro i x σ H2 hx ⟨m,l,st,rfl,rfl,hm,hs,hl⟩
  obtain ⟨z,hz,rfl⟩:∃ z:Nat,ss[i]?=some z/\x=.int (z:Int):=by
   unfold ax at hx
   rw [LD] at hx
   cases e:ss[i]? with
   | none=>rw [e] at hx; cases hx
   | some z=>rw [e] at hx; exact ⟨z,rfl,(LF hx).symm⟩
  have hd:ss.drop i=z :: ss.drop (i + 1):=by
   obtain ⟨h1,h2⟩:=Ls.mp hz
   rw [QW h1,h2]
  rw [hd,LW] at hs
  rw [hd,KM.cx] at hm
  have hle:=KM.EO l z
  have h2:(2:Nat) ^ l<=2 ^ 12:=Nat.pow_le_pow_right (by decide) hl
  refine ⟨_,rfl,_,rfl,_,rfl,l,z,rfl,by omega,by omega,_,_,rfl,rfl,.of_right (QB (by omega) (by omega)),?_⟩
  refine ⟨_,rfl,_,rfl,_,_,rfl,rfl,m * KM.choose l z,l - z,some (.int (z:Int)),?_,rfl,by rw [Nf]; exact hm,by omega,by omega⟩
  have e1:((m:Nat):Int) * ((KM.choose l z:Nat):Int)=((m * KM.choose l z:Nat):Int):=(Rx _ _).symm
  have e2:((l:Nat):Int) - ((z:Nat):Int)=((l - z:Nat):Int):=by omega
  dsimp only
  rw [e1,e2]
  rfl
 ·rintro σ H2 ⟨m,l,st,rfl,rfl,hm,hs,hl⟩
  refine ⟨_,rfl,?_⟩
  rw [bi,List.drop_length,KM.cx,Nat.mul_one] at hm
  rw [hm]
  exact q _ s1
noncomputable def bB (H:Hp) (p:Addr) (ws:List (List Nat)):Prop:=∃ rs:List Addr,H p=some (.lst (rs.map V.ref))/\Paired (fun (a:Addr) (w:List Nat)=>H a=some (.tup (ax w))) rs ws
theorem ke {H H':Hp} {rs:List Addr} {ws:List (List Nat)} (h:Paired (fun (a:Addr) (w:List Nat)=>H a=some (.tup (ax w))) rs ws) (s:∀ a xs,H a=some (.tup xs)->H' a=some (.tup xs)):Paired (fun (a:Addr) (w:List Nat)=>H' a=some (.tup (ax w))) rs ws:=
 Paired.mapP h fun a w e=>s _ _ e
theorem lz {α β:Type} {F:α->β->Prop}:∀ {l:List α} {m:List β} {i:Nat} {a:α},Paired F l m->l[i]?=some a->∃ b,m[i]?=some b/\F a b
 | _,_,_,_,.nil,h=>by simp at h
 | _,_,0,_,.cons r _,h=>by simp at h; subst h; exact ⟨_,rfl,r⟩
 | _,_,i + 1,a,.cons _ t,h=>by
  obtain ⟨b,h1,h2⟩:=lz (i:=i) (a:=a) t (by simpa using h)
  exact ⟨b,by simpa using h1,h2⟩
theorem pc {α β:Type} {F:α->β->Prop}:∀ {l:List α} {m:List β} {l':List α} {m':List β},Paired F l m->Paired F l' m'->Paired F (l++l') (m++m')
 | _,_,_,_,.nil,h=>h
 | _,_,_,_,.cons r t,h=>.cons r (pc t h)
theorem CM (w:List Nat) (j:Nat):(ax w).countP (fun z=>eqV z (.int (j:Int)))=w.count j:=by
 unfold ax
 rw [List.countP_map,List.count_eq_countP]
 congr 1
 funext k
 show ((k:Int) == (j:Int))=(k == j)
 by_cases h:k=j
 ·subst h; simp
 ·rw [beq_eq_false_iff_ne.mpr h,beq_eq_false_iff_ne.mpr (by omega)]
theorem EU (w:List Nat):(ax w).all dQ=true:=by unfold ax; rw [PY]; simp [dQ]
noncomputable def J5 (K:Fg):Sp:=fun vs H Q _=>∃ (b r:Addr) (ws:List (List Nat)) (room:List Nat),vs=[.ref b,.ref r]/\bB H b ws/\H r=some (.lst (ax room))/\room.length<=6/\(KM.grow room ws).length<=2000/\(∀ w∈ws,w.length<=12)/\
 ∀ (p:Addr) (H':Hp),ap H H'->H p=none->bB H' p (KM.grow room ws)->Q (.ref p) H'
noncomputable abbrev iX (K:Fg):Sp:=J5 K
noncomputable def mU (K:Fg):TS:=(aw (aI (zj ah) (aq 2))
 (aw (dI (dc K (ac 0)) (aq 3) (dI (rX bS K (aa (ac 1) ah)) (jg K 2 (ca (aq 4) (ca (aq 5) jf))) (bD (bc (tOp (rI0 fun i j=>.bl (decide (i < j))) (tBT BN (ac 3) (aa (ac 4) ah)) (ac 5))) (dw (tBM K "list" gX (ac 2) (aa (tOp (Hq K) (ac 3) (Cm (aa (ac 4) ah))) ah))) bh)))
 (aN (ac 2))))
theorem tZ (h:iX K vs H Q E):mU K { nx:=fun _ H'=>Q .non H',rt:=Q } (start ["begun","room","longer","deal","who","most"] vs) H:=by
 obtain ⟨b,r,ws,room,rfl,⟨rs,hb,hp⟩,hrm,h6,h2000,h12,q⟩:=h
 refine ⟨(by show 0<=Lz; decide),fun l hl=>?_⟩
 have sl:ap H (upd H l (.lst [])):=bf hl _
 have hrl:ws.length=rs.length:=hp.length.symm
 refine ⟨_,rfl,b,rfl,⟨_,SqL.of (sl _ _ hb)⟩,tR (K:=K) (a:=b) (xs:=rs.map V.ref)
  (fun i σ H2=>∃ d wh mo:Option V,σ=[some (.ref b),some (.ref r),some (.ref l),d,wh,mo]/\ap H H2/\bB H2 l (KM.grow room (ws.take i)))
  ⟨none,none,none,rfl,sl,[],by rw [az]; rfl,.nil⟩ (fun i σ H2 _ ⟨_,_,_,_,s2,_⟩=>SqL.of (s2 _ _ hb)) ?_ ?_⟩
 ·rintro i x σ H2 hx ⟨d,wh,mo,rfl,s2,D2⟩
  obtain ⟨a,ea,rfl⟩:∃ a,rs[i]?=some a/\x=.ref a:=by
   rw [LD] at hx
   cases e:rs[i]? with
   | none=>rw [e] at hx; cases hx
   | some a=>rw [e] at hx; exact ⟨a,rfl,(LF hx).symm⟩
  obtain ⟨u,hu,ha⟩:=lz hp ea
  have hu12:=h12 u (LA hu)
  have gt:=KM.EQ room ws i u hu
  have gle:=KM.zM room ws (i + 1)
  refine ⟨_,rfl,r,_,rfl,SqL.of (s2 _ _ hrm),zr (S:=bS) (K:=K) (a:=r) (xs:=ax room)
   (fun j σ H3=>∃ wh mo:Option V,σ=[some (.ref b),some (.ref r),some (.ref l),some (.ref a),wh,mo]/\ap H H3/\bB H3 l (KM.grow room (ws.take i)++(KM.fG room u j).map fun k=>u++[k]))
   ⟨wh,mo,rfl,s2,by simpa [KM.fG] using D2⟩ (fun j σ H3 _ ⟨_,_,_,s3,_⟩=>SqL.of (s3 _ _ hrm)) ?_ ?_⟩
  ·rintro j x T σ H3 hxj ⟨wh',mo',rfl,s3,qs,hq,pq⟩ hT
   obtain ⟨m,hm,rfl⟩:∃ m:Nat,room[j]?=some m/\x=.int (m:Int):=by
    unfold ax at hxj
    rw [LD] at hxj
    cases e:room[j]? with
    | none=>rw [e] at hxj; cases hxj
    | some z=>rw [e] at hxj; exact ⟨z,rfl,(LF hxj).symm⟩
   have hmD:room.getD j 0=m:=by rw [LJ,hm]; rfl
   have hjl:j < room.length:=(Ls.mp hm).1
   have nT:H T=none:=s3.free hT
   have s4:ap H (upd H3 T (.tup [.int (j:Int),.int (m:Int)])):=s3.upd nT _
   have a4:(upd H3 T (.tup [.int (j:Int),.int (m:Int)])) a=some (.tup (ax u)):=s4 _ _ ha
   have nlT:l≠T:=aR hq hT
   have q4:(upd H3 T (.tup [.int (j:Int),.int (m:Int)])) l=some (.lst (qs.map V.ref)):=by rw [aO nlT]; exact hq
   have p4:Paired (fun (a:Addr) (w:List Nat)=>(upd H3 T (.tup [.int (j:Int),.int (m:Int)])) a=some (.tup (ax w))) qs (KM.grow room (ws.take i)++(KM.fG room u j).map fun k=>u++[k]):=
    ke pq fun a xs e=>by rw [aO (aR e hT)]; exact e
   have hqlen:qs.length<=2000:=by
    have e1:=pq.length
    rw [LG,Lp] at e1
    rw [gt,LG,Lp,<-KM.tG] at gle
    have e3:(KM.fG room u j).length<=(KM.fG room u room.length).length:=by
     unfold KM.fG
     have:(LU j).Sublist (LU room.length):=List.range_sublist.mpr (by omega)
     exact (this.filter _).length_le
    omega
   have t4:(upd H3 T (.tup [.int (j:Int),.int (m:Int)])) T=some (.tup [.int (j:Int),.int (m:Int)]):=az
   generalize upd H3 T (.tup [.int (j:Int),.int (m:Int)])=H4 at s4 a4 q4 p4 t4
   have ns:=KM.zL room u j
   rw [hmD] at ns
   refine ⟨T,_,rfl,SqT.of t4,rfl,_,_,rfl,_,_,rfl,rfl,?_⟩
   refine ⟨_,rfl,⟨a,_,rfl,a4⟩,_,rfl,a,_,_,rfl,rfl,a4,rfl,EU u,_,rfl,_,_,rfl,rfl,_,rfl,?_⟩
   rw [CM]
   refine jj (fun c=>?_) (fun c=>?_)
   ·have c':u.count j < m:=by have:=of_decide_eq_true c; omega
    rw [if_pos c'] at ns
    have fin:∀ (d:Addr) (H5:Hp),ap H4 H5->H5 d=some (.tup (ax (u++[j])))->∃ (l':Addr) (xs:List V) (y:V),V.ref l=.ref l'/\[V.ref d]=[y]/\H5 l'=some (.lst xs)/\xs.length < Lz/\
      ∃ wh mo:Option V,([some (.ref b),some (.ref r),some (.ref l),some (.ref a),some (.int (j:Int)),some (.int (m:Int))]:L2.St)=[some (.ref b),some (.ref r),some (.ref l),some (.ref a),wh,mo]/\ap H (upd H5 l' (.lst (xs++[y])))/\
       bB (upd H5 l' (.lst (xs++[y]))) l (KM.grow room (ws.take i)++(KM.fG room u (j + 1)).map fun k=>u++[k]):=by
     intro d H5 s5 e5
     refine ⟨l,_,_,rfl,rfl,s5 _ _ q4,OA (by rw [Lp]; exact hqlen) (by decide),_,_,rfl,(s4.trans s5).upd hl _,qs++[d],by rw [az,LS]; rfl,?_⟩
     have keep:∀ (c:Addr) (xs:List V),H5 c=some (.tup xs)->upd H5 l (.lst (qs.map V.ref++[V.ref d])) c=some (.tup xs):=fun c xs e=>by
      rw [aO (Cc e (s5 _ _ q4) (by intro z; cases z))]
      exact e
     rw [ns,LS,<-QO]
     exact pc (ke (ke p4 fun c xs e=>s5 _ _ e) keep) (.cons (keep _ _ e5) .nil)
    refine ⟨_,rfl,.inl ⟨rfl,_,SqL.of q4⟩,_,rfl,_,rfl,(by show 1<=Lz; decide),fun t ht=>?_⟩
    have st:ap H4 (upd H4 t (.tup [.int (j:Int)])):=bf ht _
    have ej:ax (u++[j])=ax u++[.int (j:Int)]:=by unfold ax; rw [LS]; rfl
    refine ⟨a,t,ax u,[.int (j:Int)],rfl,rfl,SqT.of (st _ _ a4),SqT.of az,small (by rw [bi]; show u.length + 1<=1000; omega),fun e0=>?_,fun _ e0=>(nomatch e0),fun _ _ p hp'=>?_⟩
    ·exact fin t _ st (by rw [az,ej,e0]; rfl)
    ·exact fin p _ (st.trans (bf hp' _)) (by rw [az,ej])
   ·have c':¬ u.count j < m:=by have:=of_decide_eq_false c; omega
    rw [if_neg c',NG] at ns
    exact ⟨_,_,rfl,s4,qs,q4,by rw [ns]; exact p4⟩
  ·rintro σ H3 ⟨wh',mo',rfl,s3,D3⟩
   rw [bi,KM.tG,<-gt] at D3
   exact ⟨_,_,_,rfl,s3,D3⟩
 ·rintro σ H2 ⟨d,wh,mo,rfl,s2,D2⟩
  refine ⟨_,rfl,?_⟩
  rw [Lp,<-hrl,Me] at D2
  exact q l H2 s2 hl D2
noncomputable def Iy (K:Fg):Sp:=fun vs H Q _=>∃ (c:Nat) (a:Addr) (ss:List Nat),vs=[.int c,.ref a]/\H a=some (.lst (ax ss))/\pb c ss/\KM.cx c ss<=2000/\
 ∀ (p:Addr) (H':Hp),ap H H'->H p=none->bB H' p (KM.cG (ss++[c - ss.sum]) c)->Q (.ref p) H'
theorem i9 (ss:List Nat) (c:Nat):ax ss++[.int (c:Int)]=ax (ss++[c]):=by unfold ax; rw [LS]; rfl
noncomputable abbrev kf (K:Fg):Sp:=Iy K
noncomputable def uX (K:Fg):TS:=(aw (bD (bc (tOp (rI0 fun i j=>.bl (decide (j < i))) (au (nG K) [] E0 (aa (ac 0) (aa (ac 1) ah))) (tC (.int 2000)))) qz bh)
 (aw (aI (tOp JA (ac 1) (zj (aa (tOp (rI0 fun i j=>.int (i - j)) (ac 0) (tCB (tX K) (aa (ac 1) ah))) ah))) (aq 2))
 (aw (aI (zj (aa (Cm ah) ah)) (aq 3))
 (aw (dI (fA (aa (ac 0) ah)) (aq 4) (aI (au (iX K) [] E0 (aa (ac 3) (aa (ac 2) ah))) (aq 3)))
 (aN (ac 3))))))
theorem Bd (h:kf K vs H Q E):uX K { nx:=fun _ H'=>Q .non H',rt:=Q } (start ["cards","sizes","room","begun","card"] vs) H:=by
 obtain ⟨c,a,ss,rfl,ha,p,hm,q⟩:=h
 have h12:=p.c12
 have h5:=p.l5
 have hsum:=p.sum
 refine ⟨_,rfl,_,rfl,c,a,ss,rfl,ha,p,fun H1 s1=>?_⟩
 refine ⟨_,_,rfl,rfl,_,rfl,jj (fun k=>?_) (fun _=>?_)⟩
 ·have k':(2000:Int) < ((KM.cx c ss:Nat):Int):=of_decide_eq_true k
  omega
 have a1:=s1 _ _ ha
 refine ⟨_,rfl,_,rfl,_,rfl,a,_,rfl,by rw [<-dm]; exact SqL.of a1,_,_,rfl,rfl,(by show 1<=Lz; decide),fun l hl=>?_⟩
 have s2:ap H (upd H1 l (.lst [.int ((c:Int) - (ss.map fun (s:Nat)=>((s:Nat):Int)).sum)])):=s1.trans (bf hl _)
 have e2:(upd H1 l (.lst [.int ((c:Int) - (ss.map fun (s:Nat)=>((s:Nat):Int)).sum)])) l=some (.lst [.int ((c:Int) - (ss.map fun (s:Nat)=>((s:Nat):Int)).sum)]):=az
 rw [show (c:Int) - (ss.map fun (s:Nat)=>((s:Nat):Int)).sum=((c - ss.sum:Nat):Int) by rw [iW]; omega] at s2 e2
 dsimp only
 rw [show (c:Int) - (ss.map fun (s:Nat)=>((s:Nat):Int)).sum=((c - ss.sum:Nat):Int) by rw [iW]; omega]
 generalize upd H1 l (.lst [.int ((c - ss.sum:Nat):Int)])=H2 at s2 e2
 refine ⟨a,l,_,_,rfl,rfl,s2 _ _ ha,e2,small (by rw [bi]; show ss.length + 1<=1000; omega),fun rm hrm=>?_⟩
 rw [i9]
 have hRs:(ss++[c - ss.sum]).sum=c:=by rw [MU,LW,OQ]; omega
 have hRl:(ss++[c - ss.sum]).length<=6:=by rw [LG]; show ss.length + 1<=6; omega
 have hlev:=KM.nD hsum
 have s3:ap H (upd H2 rm (.lst (ax (ss++[c - ss.sum])))):=s2.trans (bf hrm _)
 have e3:(upd H2 rm (.lst (ax (ss++[c - ss.sum])))) rm=some (.lst (ax (ss++[c - ss.sum]))):=az
 generalize ss++[c - ss.sum]=R at *
 generalize upd H2 rm (.lst (ax R))=H3 at s3 e3
 refine ⟨(by show 0<=Lz; decide),fun t ht=>⟨(by show 1<=Lz; decide),fun b hb=>?_⟩⟩
 have s4:ap H3 (upd (upd H3 t (.tup [])) b (.lst [.ref t])):=(bf ht _).trans (bf hb _)
 have D4:bB (upd (upd H3 t (.tup [])) b (.lst [.ref t])) b (KM.cG R 0):=⟨[t],az,.cons (by rw [aO (aR (az (o:=HO.tup [])) hb)]; exact az) .nil⟩
 have f4:H b=none:=by
  have:H3 b=none:=(bf ht _).free hb
  exact s3.free this
 generalize upd (upd H3 t (.tup [])) b (.lst [.ref t])=H4 at s4 D4
 refine ⟨_,rfl,_,rfl,by omega,by omega,qD (lo:=0) (n:=((c:Nat):Int).toNat) (fun i σ H5=>∃ (b:Addr) (st:Option V),σ=[some (.int c),some (.ref a),some (.ref rm),some (.ref b),st]/\ap H3 H5/\H b=none/\bB H5 b (KM.cG R i)) ⟨b,none,rfl,s4,f4,D4⟩ ?_ ?_⟩
 ·rintro i σ H5 hi ⟨b',st,rfl,s5,f5,D5⟩
  have hi':i + 1<=c:=by omega
  refine ⟨_,rfl,_,rfl,b',rm,_,R,rfl,D5,s5 _ _ e3,hRl,?_,fun u hu=>?_,fun p' H6 s6 f6 D6=>?_⟩
  ·have h1:=KM.Gc (room:=R) (i:=i + 1) (by omega)
   rw [hRs,hlev] at h1
   exact L8 h1 hm
  ·have:=(KM.iD R i u hu).len
   omega
  ·exact ⟨p',_,rfl,s5.trans s6,(s3.trans s5).free f6,D6⟩
 ·rintro σ H5 ⟨b',st,rfl,s5,f5,D5⟩
  refine ⟨_,rfl,?_⟩
  rw [show ((c:Nat):Int).toNat=c by omega] at D5
  exact q b' H5 (s3.trans s5) f5 D5
noncomputable def qR (xs:List Int) (w:Int) (i:Nat):List Int:=((LU i).filter fun j=>decide (xs[j]?=some w)).map fun (j:Nat)=>((j:Nat):Int)
theorem EV (xs:List Int) (w:Int) (i:Nat):qR xs w (i + 1)=qR xs w i++(if xs[i]?=some w then [(i:Int)] else []):=by
 unfold qR
 rw [OD,Pb,LS]
 by_cases h:xs[i]?=some w
 ·rw [if_pos h,Ov (by simpa using h)]
  rfl
 ·rw [if_neg h,Ow (by simpa using h)]
  rfl
theorem Gg (xs:List Int) (w:Int) (i:Nat):(qR xs w i).length<=i:=by
 unfold qR
 rw [Lp]
 have h:=PK (fun j=>decide (xs[j]?=some w)) (LU i)
 rw [Nj] at h
 exact h
noncomputable def Iz (K:Fg):Sp:=fun vs H Q _=>∃ (d:Addr) (xs:List Int) (v:Int),vs=[.ref d,.int v]/\SqT K H d (xs.map V.int)/\xs.length<=1000/\
 ∀ (r:Addr) (H':Hp),ap H H'->H' r=some (.tup ((qR xs v xs.length).map V.int))->Q (.ref r) H'
theorem EW {xs:List Int} {i:Nat} {x:V} (h:(xs.map V.int)[i]?=some x):∃ z,xs[i]?=some z/\x=.int z:=by
 rw [LD] at h
 cases e:xs[i]? with
 | none=>rw [e] at h; cases h
 | some z=>rw [e] at h; exact ⟨z,rfl,(LF h).symm⟩
noncomputable abbrev iF (K:Fg):Sp:=Iz K
noncomputable def uY (K:Fg):TS:=(aN (tCB (JV K) (aa (bW (rX iU K (aa (ac 0) ah)) (fun _ _ _ _=>(jg K 2 (ca (aq 0) (ca (aq 1) jf)))) (fun _ _ _ _=>(bc (tOp rEq (ac 1) (ac 2)))) (fun _ _ _ _=>(ac 0)) [none,none,some 1]) ah)))
theorem Be (h:iF K vs H Q E):uY K { nx:=fun _ H'=>Q .non H',rt:=Q } (start ["deal","who"] vs) H:=by
 obtain ⟨d,xs,v,rfl,hd,hlen,q⟩:=h
 have hl:(xs.map V.int).length=xs.length:=Lp _
 refine ⟨_,rfl,d,_,rfl,hd,fun p hp=>EC (S:=iU) (K:=K) (a:=d) (xs:=xs.map V.int) (fun i acc H2=>acc=(qR xs v i).map V.int/\ap H H2/\H2 p=some (.lst acc)) ⟨rfl,bf hp _,az⟩ ?_ ?_ ?_ ?_ ?_⟩
 ·rintro i acc H2 hi ⟨rfl,s2,e2⟩
  exact ⟨e2,by rw [Lp]; exact Gg _ _ _⟩
 ·rintro i acc H2 hi ⟨rfl,s2,e2⟩
  exact s2.tup hd
 ·rw [hl]
  exact small hlen
 ·rintro _ _ _ _ i x T acc H2 hx ⟨rfl,s2,e2⟩ hT
  obtain ⟨z,hz,rfl⟩:=EW hx
  have nTp:p≠T:=aR e2 hT
  have nT:H T=none:=s2.free hT
  refine ⟨T,_,rfl,SqT.of az,rfl,_,_,rfl,_,_,rfl,rfl,_,rfl,_,rfl,rfl,_,rfl,?_⟩
  have eu:=EV xs v i
  refine jj (fun c=>?_) (fun c=>?_)
  ·have c':z=v:=by
    have:=of_decide_eq_true c
    injection this
   subst c'
   rw [if_pos hz] at eu
   refine ⟨_,rfl,by rw [aO nTp]; exact e2,?_,(s2.upd nT _).upd hp _,az⟩
   rw [eu,LS]
   rfl
  ·have c':¬ xs[i]?=some v:=by
    rw [hz]
    intro e
    have:=of_decide_eq_false c
    exact this (by rw [LF e])
   rw [if_neg c',NG] at eu
   exact ⟨by rw [eu],s2.upd nT _,by rw [aO nTp]; exact e2⟩
 ·rintro acc H2 ⟨rfl,s2,e2⟩
  rw [hl] at e2
  exact ⟨p,_,rfl,.inl ⟨SqL.of e2,fun t ht=>q t _ (s2.trans (bf ht _)) az⟩⟩
theorem ja {ss:List Nat} {i:Nat} {x:V} (hx:(ax ss)[i]?=some x):∃ z:Nat,ss[i]?=some z/\x=.int (z:Int):=by
 unfold ax at hx
 rw [LD] at hx
 cases e:ss[i]? with
 | none=>rw [e] at hx; cases hx
 | some z=>rw [e] at hx; exact ⟨z,rfl,(LF hx).symm⟩
end
section
variable {K:Fg} {vs:List V} {H:Hp} {Q:VK} {E:XK}
noncomputable abbrev bg (K:Fg):Sp:=JG K
noncomputable def kg (K:Fg):TS:=(aw (bD (bc (tOp (rI0 fun i j=>.bl (decide (i < j))) (ac 1) (tCB (eQ K) (aa (ac 0) ah)))) (aN (tOp (bR K) (ac 0) (ac 1))) bh)
 (aw (aI (tOp (rI0 fun i j=>.int (i + j)) (tOp (rI N2 fun i j=>.int (i * j)) (ac 1) (tC (.int 7919))) (tC (.int 5))) (aq 2))
 (aw (bD (bc (tOp (rI0 fun i j=>.bl (decide (j < i))) (tCB (eQ K) (aa (ac 0) ah)) (tC (.int 0)))) (aI (tOp (rI0 fun i j=>.int (i + j)) (tOp (rI N2 fun i j=>.int (i * j)) (tOp (bR K) (ac 0) (tOp (rI (fun _ j=>0 < j) fun i j=>.int (i % j)) (tOp (rI N2 fun i j=>.int (i * j)) (ac 1) (tC (.int 7))) (tCB (eQ K) (aa (ac 0) ah)))) (tC (.int 48271))) (tOp (rI N2 fun i j=>.int (i * j)) (ac 1) (tC (.int 7919)))) (aq 2)) bh)
 (aw (aI (tOp (rI (fun _ j=>0 < j) fun i j=>.int (i % j)) (tOp (rI N2 fun i j=>.int (i * j)) (ac 2) (ac 2)) (tC (.int 2147483629))) (aq 2))
 (aN (tOp (rI (fun _ j=>0 < j) fun i j=>.int (i % j)) (tOp (rI N2 fun i j=>.int (i * j)) (tOp (rI0 fun i j=>.int (i + j)) (ac 2) (ac 1)) (tOp (rI0 fun i j=>.int (i + j)) (ac 2) (tC (.int 69621)))) (tC (.int 2147483587))))))))
theorem zO (h:bg K vs H Q E):kg K { nx:=fun _ H'=>Q .non H',rt:=Q } (start ["_law_script","_law_k","_law_number"] vs) H:=by
 obtain ⟨a,ns,k,rfl,⟨hS,h63,hbits⟩,h0,h1,q⟩:=h
 show kg K _ [some _,some _,none] _
 unfold kg
 have hl:(ns.map V.int).length=ns.length:=Lp _
 walk_at "rd"
 rw [hl]
 refine dE (fun c=>?_) (fun c=>?_)
 ·walk_at "rd"
  refine bA hS (zt h0 c) ?_
  have e:bC ns k=ns.getD k.toNat 0:=by unfold bC; rw [if_pos c]
  rw [e] at q
  exact q
 ·refine EF ?_
  dsimp only
  refine bj ?_
  walk_at "rs"
  refine i7 fun NX hNX=>?_
  have last:∀ n0:Int,Mn n0<=1048600->bC ns k=((n0 * n0 % 2147483629) + k) * ((n0 * n0 % 2147483629) + 69621) % 2147483587->NX [some (.ref a),some (.int k),some (.int n0)] H:=by
   intro n0 hb e
   refine hNX _ _ ?_
   have z1:0<=n0 * n0 % 2147483629:=N9 _ (by decide)
   have z2:n0 * n0 % 2147483629 < 2147483629:=NO _ (by decide)
   refine bj ?_
   refine kb ?_
   refine tW ?_
   refine tW ?_
   refine oT rfl ?_
   refine oT rfl ?_
   refine r_I (.of_le hb hb (by decide)) ?_
   walk_at "rd"
   rw [e] at q
   exact q
  walk_at "rs"
  rw [hl]
  refine dE (fun d=>?_) (fun d=>?_)
  ·have m1:0<=k * 7 % (ns.length:Int):=N9 _ (by omega)
   have m2:k * 7 % (ns.length:Int) < (ns.length:Int):=NO _ d
   walk_at "rs"
   rw [hl]
   refine bA hS (zt m1 m2) ?_
   walk_at "rs"
   refine last _ ?_ ?_
   ·have b1:=ED hbits (k * 7 % (ns.length:Int)).toNat
    have b2:Mn (48271:Int)<=16:=by decide
    have b3:Mn k<=20:=intBits_le_iff.mpr (by have:(2:Nat) ^ 20=1048576:=(by decide); omega)
    have b4:Mn (7919:Int)<=13:=by decide
    exact L8 (intBits_add_le (RW b1 b2) (RW b3 b4)) (by decide)
   ·unfold bC
    rw [if_neg c,if_pos d]
  ·walk_at "rs"
   refine last _ ?_ ?_
   ·have b3:Mn k<=20:=intBits_le_iff.mpr (by have:(2:Nat) ^ 20=1048576:=(by decide); omega)
    have b4:Mn (7919:Int)<=13:=by decide
    have b5:Mn (5:Int)<=3:=by decide
    exact L8 (intBits_add_le (RW b3 b4) b5) (by decide)
   ·unfold bC
    rw [if_neg c,if_neg d]
noncomputable def gz (_:Fg):Sp:=fun vs H Q _=>∃ n:Nat,vs=[.int n]/\n<=12/\Q (.int (KM.aV n:Nat)) H
noncomputable def g0 (K:Fg):TS:=(aw (aI (tC (.int 1)) (aq 1))
 (aw (dI (fA (aa (ac 0) ah)) (aq 2) (aI (tOp (rI N2 fun i j=>.int (i * j)) (ac 1) (tOp (rI0 fun i j=>.int (i + j)) (ac 2) (tC (.int 1)))) (aq 1)))
 (aN (ac 1))))
theorem KM.fact_le {n m : Nat} (h : n ≤ m) : KM.aV n ≤ KM.aV m := by
  induction m with
  | zero => have : n = 0 := by omega
            subst this; exact Lr _
  | succ m ih =>
    by_cases e : n = m + 1
    · subst e; exact Lr _
    · have := ih (by omega)
      rw [KM.aV]
      exact L8 this (Nat.le_mul_of_pos_right _ (SN m))
theorem EX {n:Nat} (h:n<=12):KM.aV n<=479001600:=L8 (KM.fact_le h) (by decide)
theorem uZ (h:gz K vs H Q E):g0 K { nx:=fun _ H'=>Q .non H',rt:=Q } (start ["_law_many","_law_found","_law_k"] vs) H:=by
 obtain ⟨n,rfl,hn,q⟩:=h
 show g0 K _ [some _,none,none] _
 unfold g0
 walk_at "rd"
 refine j0 n (by omega) (by omega) (by omega) (fun i σ H2=>∃ st,σ=[some (.int n),some (.int (KM.aV i:Nat)),st]/\H2=H) ⟨none,rfl,rfl⟩ ?_ ?_
 ·rintro i σ H2 hi ⟨st,rfl,rfl⟩
  have:=EX (n:=i) (by omega)
  walk_at "rd"
  refine ⟨some (.int i),?_,rfl⟩
  rw [KM.aV,Rx,show ((i:Int) + 1)=((i + 1:Nat):Int) by omega]
 ·rintro σ H2 ⟨st,rfl,rfl⟩
  walk_at "rd"
  exact q
noncomputable def iH (_:Fg):Sp:=fun vs H Q _=>∃ (c:Nat) (a:Addr) (ss:List Nat),vs=[.int c,.ref a]/\H a=some (.lst (ax ss))/\ss.sum<=c/\c<=12/\ss.length<=100/\∀ H',ap H H'->Q (.int (KM.cx c ss:Nat)) H'
noncomputable def jo (K:Fg):TS:=(aw (aI (au (gz K) [] E0 (aa (ac 0) ah)) (aq 2))
 (aw (dI (dc K (tOp qN (ac 1) (fq (aa (tOp (rI0 fun i j=>.int (i - j)) (ac 0) (tCB (tX K) (aa (ac 1) ah))) ah)))) (aq 3) (aI (tOp (rI fE fun i j=>.int (i / j)) (ac 2) (au (gz K) [] E0 (aa (ac 3) ah))) (aq 2)))
 (aN (ac 2))))
theorem xU (h:iH K vs H Q E):jo K { nx:=fun _ H'=>Q .non H',rt:=Q } (start ["_law_cards","_law_sizes","_law_found","_law_many"] vs) H:=by
 obtain ⟨c,a,ss,rfl,ha,hs,hc,hl,q⟩:=h
 show jo K _ [some _,some _,none,none] _
 unfold jo
 walk_at "rd"
 refine ⟨c,rfl,hc,?_⟩
 walk_at "rd"
 refine Cw (ns:=ss.map fun (s:Nat)=>((s:Nat):Int)) (SqL.of (by rw [<-dm]; exact ha)) ?_
 walk_at "rd"
 rw [iW,show (c:Int) - ((ss.sum:Nat):Int)=((c - ss.sum:Nat):Int) by omega]
 refine ⟨by simp [Lw],fun b H1 hb s1 e1=>r9 (s1 _ _ ha) e1 (by rw [bi,Lw]; simp; omega) fun p H2 hp s2 e2=>?_⟩
 rw [i9] at e2
 generalize hR:ss++[c - ss.sum]=R at e2
 have hRs:R.sum=c:=by rw [<-hR,MU,LW,OQ]; omega
 have hpf:KM.cx c ss * KM.cK R=KM.aV c:=by rw [<-hR]; exact KM.tF c ss hs
 have hdv:R.foldl (fun f s=>f / KM.aV s) (KM.aV c)=KM.cx c ss:=by rw [<-hpf]; exact KM.J3 R _
 have s12:=s1.trans s2
 refine lL (ax R) (SqL.of e2) (fun i σ H3=>∃ st,σ=[some (.int c),some (.ref a),some (.int (((R.take i).foldl (fun f s=>f / KM.aV s) (KM.aV c):Nat):Int)),st]/\H3=H2) ⟨none,rfl,rfl⟩ (fun i σ H3 _ ⟨_,_,e⟩=>by subst e; exact SqL.of e2) ?_ ?_
 ·rintro i x σ H3 hx ⟨st,rfl,rfl⟩
  obtain ⟨z,hz,rfl⟩:=ja hx
  have hz12:z<=12:=by
   have:=jn (LA hz)
   omega
  walk_at "rd"
  refine ⟨z,rfl,hz12,?_⟩
  have h1:=KM.iV z
  have h2:=EX hz12
  walk_at "rd"
  refine ⟨some (.int z),?_,rfl⟩
  rw [M4,hz,QS,<-TC]
  rfl
 ·rintro σ H3 ⟨st,rfl,rfl⟩
  walk_at "rd"
  rw [bi,Me,hdv]
  exact q _ s12
noncomputable def lW (K:Fg):Sp:=fun vs H Q _=>∃ (a:Addr) (ns:List Int) (at_ most:Int),vs=[.ref a,.int at_,.int most]/\fT K H a ns/\0<=at_/\at_<=1000/\1<=most/\
 ∀ (c:Nat) (ss:List Nat) (p q:Addr) (H':Hp),ap H H'->H p=none->H q=none->H' p=some (.tup [.int c,.ref q])->H' q=some (.lst (ax ss))->pb c ss->((KM.cx c ss:Nat):Int)<=most->Q (.ref p) H'
theorem vb:∀ ss:List Nat,ss.sum<=0->KM.cx 0 ss=1
 | [],_=>rfl
 | a :: r,h=>by
  rw [LW] at h
  have ha:a=0:=by omega
  subst ha
  rw [KM.cx,KM.kd,vb r (by omega)]
theorem t0 (ss:List Nat) (j m:Nat):(ax ss).set j (.int (m:Int))=ax (ss.set j m):=by
 unfold ax
 rw [List.map_set]
theorem Gh {ss:List Nat} {M:Int} (h:M∈ss.map fun (s:Nat)=>((s:Nat):Int)):∃ m:Nat,m∈ss/\M=(m:Int):=by
 obtain ⟨m,hm,e⟩:=MC.mp h
 exact ⟨m,hm,e.symm⟩
theorem Gi {ss:List Nat} {j m:Nat} (h:ss[j]?=some m) (hm:0 < m):(ss.set j (m - 1)).sum + 1=ss.sum:=by
 obtain ⟨h1,h2⟩:=Ls.mp h
 have e:ss.getD j 0=m:=by rw [LJ,h]; rfl
 have:=KM.wF ss j h1 (by rw [e]; exact hm)
 rw [e] at this
 exact this
noncomputable def BS (K:Fg):TS:=(aw (nO (bc (tOp (rI0 fun i j=>.bl (decide (j < i))) (au (iH K) [] E0 (aa (ac 3) (aa (ac 4) ah))) (ac 2))) (aw (bD (bc (tOp (rI0 fun i j=>.bl (decide (j < i))) (tCB (wD K) (aa (ac 4) ah)) (tOp (rI0 fun i j=>.int (i - j)) (ac 3) (tCB (tX K) (aa (ac 4) ah))))) (aI (tOp (rI0 fun i j=>.int (i - j)) (tCB (wD K) (aa (ac 4) ah)) (tC (.int 1))) (qA (ac 4) (tBM K "list" zv (ac 4) (aa (tCB (wD K) (aa (ac 4) ah)) ah)) mM)) bh)
 (aI (tOp (rI0 fun i j=>.int (i - j)) (ac 3) (tC (.int 1))) (aq 3))))
 (aN (cp (aa (ac 3) (aa (ac 4) ah)))))
theorem EY {K:Fg} {H0 H:Hp} {Q:VK} {NX:St->Hp->Prop} {x y:V} {most:Int} {c:Nat} {q:Addr} {ss:List Nat} {cV:St} (s0:ap H0 H) (hq0:H0 q=none) (hq:H q=some (.lst (ax ss))) (h1:1<=ss.length) (h5:ss.length<=5) (hs:ss.sum<=c) (hc:c<=12) (hm:1<=most)
  (g:∀ (c:Nat) (ss:List Nat) (p q:Addr) (H':Hp),ap H0 H'->H0 p=none->H0 q=none->H' p=some (.tup [.int c,.ref q])->H' q=some (.lst (ax ss))->pb c ss->((KM.cx c ss:Nat):Int)<=most->Q (.ref p) H'):
  BS K { nx:=NX,rt:=Q } (some x :: some y :: some (.int most) :: some (.int c) :: some (.ref q) :: cV) H:=by
 unfold BS
 refine bj ?_
 refine Ct (fun m σ H2=>∃ (c:Nat) (ss:List Nat),σ=(some x :: some y :: some (.int most) :: some (.int c) :: some (.ref q) :: cV)/\ap H0 H2/\H2 q=some (.lst (ax ss))/\1<=ss.length/\ss.length<=5/\ss.sum<=c/\c<=12/\m=c) c ⟨c,ss,rfl,s0,hq,h1,h5,hs,hc,rfl⟩ ?_
 clear s0 hq h1 h5 hs hc
 rintro m σ H2 ⟨c,ss,rfl,s0,hq,h1,h5,hs,hc,hmc⟩
 have hmc':=hmc.symm
 subst hmc'
 walk_at "rd"
 refine ⟨c,q,ss,rfl,hq,hs,hc,by omega,fun H3 s3=>?_⟩
 have s3':=s0.trans s3
 have hq3:=s3 _ _ hq
 have hS:SqL K H3 q ((ss.map fun (s:Nat)=>((s:Nat):Int)).map V.int):=by rw [<-dm]; exact SqL.of hq3
 walk_at "rd"
 refine dE (fun hgt=>?_) (fun hle=>?_)
 ·have hc1:1<=c:=by
   rcases Pa c with z | z
   ·subst z
    rw [vb ss hs] at hgt
    omega
   ·exact z
  refine Cs ?_
  walk_at "rd"
  have hne:(ss.map fun (s:Nat)=>((s:Nat):Int))≠[]:=by
   intro z
   have:=congrArg List.length z
   rw [Lp] at this
   simp at this
   subst this
   simp at h1
  refine ⟨q,_,rfl,hS,hne,fun M hM hmax=>?_⟩
  obtain ⟨mx,hmx,rfl⟩:=Gh hM
  have hle:=jn hmx
  walk_at "rd"
  refine Cw hS ?_
  walk_at "rd"
  rw [iW]
  refine dE (fun hbig=>?_) (fun hsm=>?_)
  ·walk_at "rd"
   refine ⟨q,_,rfl,hS,hne,fun M2 hM2 hmax2=>?_⟩
   obtain rfl:M2=((mx:Nat):Int):=Ue (hmax M2 hM2) (hmax2 _ hM)
   walk_at "rd"
   refine ⟨yQ hq3,?_⟩
   walk_at "rd"
   refine ⟨q,_,rfl,hS,hne,fun M3 hM3 hmax3=>?_⟩
   obtain rfl:M3=((mx:Nat):Int):=Ue (hmax M3 hM3) (hmax3 _ hM)
   obtain ⟨j,hj,hfirst⟩:=zy hM
   have hj':ss[j]?=some mx:=by
    rw [LD] at hj
    cases e:ss[j]? with
    | none=>rw [e] at hj; cases hj
    | some z=>rw [e] at hj; have hzz:((z:Nat):Int)=(mx:Int):=LF hj; rw [show z=mx by omega]
   have hjl:j < ss.length:=(Ls.mp hj').1
   walk_at "rd"
   refine ⟨q,_,_,j,rfl,rfl,by rw [<-dm]; exact hq3,hj,hfirst,by omega,?_⟩
   walk_at "rd"
   refine qM hq3 (j:=j) (by unfold ixN; rw [bi,if_pos (by omega),if_pos (by omega)]; simp) ?_
   walk_at "rd"
   have hss:=Gi hj' (by omega)
   refine ⟨c - 1,by omega,c - 1,ss.set j (mx - 1),?_,s3'.upd hq0 _,?_,by rw [NH]; exact h1,by rw [NH]; exact h5,by omega,by omega,rfl⟩
   ·rw [show (c:Int) - 1=((c - 1:Nat):Int) by omega]
   ·rw [az,show ((mx:Nat):Int) - 1=((mx - 1:Nat):Int) by omega,t0]
  ·walk_at "rd"
   refine ⟨c - 1,by omega,c - 1,ss,?_,s3',hq3,h1,h5,?_,by omega,rfl⟩
   ·rw [show (c:Int) - 1=((c - 1:Nat):Int) by omega]
   ·by_cases e:ss.sum=c
    ·have z:mx=0:=by omega
     have all0:∀ s∈ss,s=0:=fun s hs'=>by
      have:=hmax _ (Sw (f:=fun (s:Nat)=>((s:Nat):Int)) hs')
      have:(s:Int)<=(mx:Int):=this
      omega
     have:ss.sum=0:=by
      clear hmax hM hq hq3 hS hne hgt hsm hmx hle h1 h5 hs e
      induction ss with
      | nil=>rfl
      | cons b r ih=>rw [LW,all0 b Lu,ih fun s hs=>all0 s (LC _ hs)]
     omega
    ·omega
 ·walk_at "rd"
  exact ⟨by simp [Lw],fun p H4 hp s4 e4=>g c ss p q H4 (s3'.trans s4) (s3'.free hp) hq0 e4 (s4 _ _ hq3) ⟨hc,h1,h5,hs⟩ (by omega)⟩
end
section
variable {K:Fg} {vs:List V} {H:Hp} {Q:VK} {E:XK}
end
section
variable {K:Fg} {vs:List V} {H:Hp} {Q:VK} {E:XK}
end
section
variable {K:Fg} {vs:List V} {H:Hp} {Q:VK} {E:XK}
theorem lX {ss:List Nat} {j z:Nat} (h:ss[j]?=some z):atI (ax ss) (j:Int)=some (.int (z:Int)):=dz (by unfold ax; rw [LD,h]; rfl)
end
noncomputable def mV:V->Bool
 | .non=>true
 | .bl _=>true
 | .int _=>true
 | _=>false
inductive dF (K:Fg) (H:Hp):Nat->V->V->Prop where
 | flat {n:Nat} {x:V} (h:mV x=true):dF K H n x x
 | lst {n:Nat} {a b:Addr} {xs ys:List V} (e1:SqL K H a xs) (e2:SqL K H b ys) (hl:xs.length=ys.length) (h:∀ (i:Nat) (x y:V),xs[i]?=some x->ys[i]?=some y->dF K H n x y):dF K H (n + 1) (.ref a) (.ref b)
 | tup {n:Nat} {a b:Addr} {xs ys:List V} (e1:SqT K H a xs) (e2:SqT K H b ys) (hl:xs.length=ys.length) (h:∀ (i:Nat) (x y:V),xs[i]?=some x->ys[i]?=some y->dF K H n x y):dF K H (n + 1) (.ref a) (.ref b)
noncomputable def gc (K:Fg) (neg:Bool):R2:=fun x y H Q=>∃ n,n<=30/\dF K H n x y/\Q (.bl (!neg)) H
section
variable {K:Fg} {H:Hp} {Q:VK}
theorem IB {x y:V} (n:Nat) (hn:n<=30) (h:dF K H n x y) (q:Q (.bl true) H):gc K false x y H Q:=⟨n,hn,h,q⟩
theorem j3 {x y:V} (n:Nat) (hn:n<=30) (h:dF K H n x y) (q:Q (.bl false) H):gc K true x y H Q:=⟨n,hn,h,q⟩
theorem jp {a b:Addr} {xs:List V} (e1:SqL K H a xs) (e2:SqL K H b xs) (hf:∀ x∈xs,mV x=true):dF K H 1 (.ref a) (.ref b):=
 .lst e1 e2 rfl fun i x y hx hy=>by
  rw [hx] at hy
  cases hy
  exact .flat (hf x (LA hx))
theorem vc {a b:Addr} {xs:List V} (e1:SqT K H a xs) (e2:SqT K H b xs) (hf:∀ x∈xs,mV x=true):dF K H 1 (.ref a) (.ref b):=
 .tup e1 e2 rfl fun i x y hx hy=>by
  rw [hx] at hy
  cases hy
  exact .flat (hf x (LA hx))
theorem dF.up {n m:Nat} {x y:V} (h:dF K H n x y) (hm:n<=m):dF K H m x y:=by
 induction h generalizing m with
 | flat h=>exact .flat h
 | lst e1 e2 hl _ ih=>
  obtain ⟨k,rfl⟩:∃ k,m=k + 1:=⟨m - 1,by omega⟩
  exact .lst e1 e2 hl fun i x y hx hy=>ih i x y hx hy (by omega)
 | tup e1 e2 hl _ ih=>
  obtain ⟨k,rfl⟩:∃ k,m=k + 1:=⟨m - 1,by omega⟩
  exact .tup e1 e2 hl fun i x y hx hy=>ih i x y hx hy (by omega)
theorem vd {n:Nat} {a b:Addr} {x y u v:V} (e1:SqT K H a [x,y]) (e2:SqT K H b [u,v]) (h1:dF K H n x u) (h2:dF K H n y v):dF K H (n + 1) (.ref a) (.ref b):=
 .tup e1 e2 rfl fun i p q hp hq=>by
  match i,hp,hq with
  | 0,hp,hq=>cases hp; cases hq; exact h1
  | 1,hp,hq=>cases hp; cases hq; exact h2
theorem qS (ns:List Int):∀ x∈ns.map V.int,mV x=true:=fun x hx=>by obtain ⟨n,_,rfl⟩:=MC.mp hx; rfl
end
section
variable {g:CF TG} {tt:CF TT} {te:CF TE} {σ₀:St} {Q:VK} {H:Hp} {K:Fg}
end
section
variable {K:Fg} {vs:List V} {H:Hp} {Q:VK} {E:XK}
noncomputable def ff (K:Fg):Sp:=fun vs H Q _=>∃ (a:Addr) (xs:List V) (ks:List MK) (s:Bool),vs=[.ref a]/\H a=some (.lst xs)/\Paired (dh H) xs ks/\(∀ k∈ks,mR k=s)/\ks.length<=100000/\
 ∀ p H',H p=none->ap H H'->H' p=some (.lst (ax (bp ks)))->Q (.ref p) H'
noncomputable def fD (K:Fg):TS:=(aw (aI zF (aq 1))
 (aw (dI (rX bS K (aa (ac 0) ah)) (jg K 2 (ca (aq 2) (ca (aq 3) jf))) (dw (tXM zG (ac 1) (aa (ac 3) (aa (ac 2) ah)))))
 (aN (bW (dc K (ac 0)) (fun _ _ _ _=>(aq 0)) (fun _ _ _ _=>bM) (fun _ _ _ _=>(tOp CG (ac 1) (ac 0))) [none,some 1]))))
theorem qT (h:ff K vs H Q E):fD K { nx:=fun _ H'=>Q .non H',rt:=Q } (start ["marks","firsts","thing","mark"] vs) H:=by
 obtain ⟨a,xs,ks,s,rfl,e,hk,hs,hl,q⟩:=h
 show fD K _ [some _,none,none,none] _
 unfold fD
 have hlen:xs.length=ks.length:=Mj hk
 walk_at "rd"
 refine Iv s fun d H1 hd s1 dx1=>?_
 walk_at "rd"
 refine BP (S:=bS) xs (SqL.of (s1 _ _ e)) (fun i σ H3=>∃ (u v:Option V),σ=[some (.ref a),some (.ref d),u,v]/\ap H H3/\Dx H3 d s (iB ks i) i) ?_ ?_ ?_ ?_
 ·exact ⟨none,none,rfl,s1,dx1.congr A9⟩
 ·rintro i σ H3 hi ⟨u,v,rfl,s3,dx3⟩
  exact SqL.of (s3 _ _ e)
 ·rintro i x T σ H3 H4 hx ⟨u,v,rfl,s3,dx3⟩ hT s4 eT
  obtain ⟨k,hki,hkv⟩:=bL hk hx
  have hks:=hs k (LA hki)
  have hi:i < ks.length:=(Ls.mp hki).1
  refine iA (SqT.of eT) ?_
  have s34:=s3.trans s4
  have hkv4:=hkv.keep s34.keep
  have dx4:=dx3.same s4
  walk_at "rd"
  refine Lj ?_
  walk_at "rd"
  refine ⟨⟨d,s,_,_,rfl,dx4⟩,?_⟩
  walk_at "rd"
  refine Iw dx4 hkv4 hks (by rw [Lw]; omega) (fun w hw=>?_) (fun hn H5 o5 dx5=>?_)
  ·have hm:k∈ks.take i:=by
    by_cases q:k∈ks.take i
    ·exact q
    ·rw [A8 q] at hw; cases hw
   exact ⟨_,_,rfl,s34,(dx4.congr (CH hki hm)).le (Oi i)⟩
  ·have hm:k∉ks.take i:=fun q=>by rw [xI q] at hn; cases hn
   exact ⟨_,_,rfl,s34.off hd o5,dx5.congr (CI hki hm)⟩
 ·rintro σ H3 ⟨u,v,rfl,s3,dx3⟩
  walk_at "rd"
  refine gp xs (SqL.of (s3 _ _ e)) (by omega) (fun i acc _=>acc=ax ((bp ks).take i)) (fun H' _=>rfl) ?_ ?_
  ·rintro p hp C s' H' fp i x acc H4 hx ⟨s4,e4,l4,rfl⟩
   obtain ⟨k,hki,hkv⟩:=bL hk hx
   have hks:=hs k (LA hki)
   have hi:i < ks.length:=(Ls.mp hki).1
   walk_at "rd"
   refine J2 (dx3.same s4) (hkv.keep (s3.trans s4).keep) hks (xI (by rw [hlen,Me]; exact LA hki)) ?_
   refine bu.put hp (fun _ _ _ _ r _=>r) s4 e4 l4 ?_
   rw [zH hki,i9]
  ·rintro p acc H4 hp s4 e4 rfl
   refine q _ _ (s3.free hp) (s3.trans s4) ?_
   rw [e4,RI (by rw [dZ,hlen]; exact Lr _)]
noncomputable def ph (w:List Nat) (h:Int):List Int:=qR (w.map fun (s:Nat)=>((s:Nat):Int)) h w.length
noncomputable def zP (ns:List Int):MK:=.inr (ns.map fun n=>(Ng (some n):IK))
theorem Gj (a b:List Int) (e:zP a=zP b):a=b:=by
 have h:a.map (fun n=>(Ng (some n):IK))=b.map (fun n=>(Ng (some n):IK)):=OY e
 clear e
 induction a generalizing b with
 | nil=>cases b with
  | nil=>rfl
  | cons _ _=>simp at h
 | cons x r ih=>cases b with
  | nil=>simp at h
  | cons y t=>
   rw [LI,LI] at h
   injection h with h1 h2
   injection h1 with h1
   injection h1 with h1
   rw [h1,ih t h2]
noncomputable def lY (ws:List (List Nat)) (h:Int):List Nat:=bp (ws.map fun w=>ph w h)
theorem Bf (ws:List (List Nat)) (h:Int):bp (ws.map fun w=>zP (ph w h))=lY ws h:=by
 unfold lY
 rw [<-tm (f:=zP) Gj,N5]
 rfl
theorem bB.to' {H H':Hp} {p:Addr} {ws:List (List Nat)} (d:bB H p ws) (k:dJ H H') (e:∀ rs:List Addr,H p=some (.lst (rs.map V.ref))->H' p=some (.lst (rs.map V.ref))):bB H' p ws:=by
 obtain ⟨rs,h1,h2⟩:=d
 exact ⟨rs,e rs h1,ke h2 fun a xs e=>k _ _ e⟩
theorem bB.same' {H H':Hp} {p:Addr} {ws:List (List Nat)} (d:bB H p ws) (s:ap H H'):bB H' p ws:=d.to' s.keep fun rs e=>s _ _ e
theorem kK {rs:List Addr} {i:Nat} {x:V} (hx:(rs.map V.ref)[i]?=some x):∃ a,rs[i]?=some a/\x=.ref a:=by
 rw [LD] at hx
 cases e:rs[i]? with
 | none=>rw [e] at hx; cases hx
 | some z=>rw [e] at hx; exact ⟨z,rfl,(LF hx).symm⟩
noncomputable def kU (K:Fg):Sp:=fun vs H Q _=>∃ (a:Addr) (ws:List (List Nat)) (h:Int),vs=[.ref a,.int h]/\bB H a ws/\(∀ w∈ws,w.length<=1000)/\ws.length<=100000/\
 ∀ p H',H p=none->ap H H'->H' p=some (.lst (ax (lY ws h)))->Q (.ref p) H'
theorem EZ {H:Hp} {xs:List V} {ks:List MK} {x:V} {k:MK} (h:Paired (dh H) xs ks) (q:dh H x k):Paired (dh H) (xs++[x]) (ks++[k]):=by
 induction h with
 | nil=>exact .cons q .nil
 | cons r _ ih=>exact .cons r ih
noncomputable def jq (K:Fg):TS:=(aN (au (ff K) [] E0 (aa (bW (dc K (ac 0)) (fun _ _ _ _=>(aq 0)) (fun _ _ _ _=>bM) (fun _ _ _ _=>(au (iF K) [] E0 (aa (ac 0) (aa (ac 1) ah)))) [none,some 1]) ah)))
theorem xV (h:kU K vs H Q E):jq K { nx:=fun _ H'=>Q .non H',rt:=Q } (start ["deals","hand"] vs) H:=by
 obtain ⟨a,ws,h,rfl,hD,hw,hl,q⟩:=h
 show jq K _ [some _,some _] _
 unfold jq
 obtain ⟨rs,e,hr⟩:=id hD
 have hlr:rs.length=ws.length:=Mj hr
 walk_at "rd"
 refine gp (rs.map V.ref) (SqL.of e) (by rw [Lp]; omega) (fun i acc H'=>Paired (dh H') acc ((ws.take i).map fun w=>zP (ph w h))) (fun H' _=>.nil) ?_ ?_
 ·rintro p hp C s' H' fp i x acc H2 hx ⟨s2,e2,l2,r2⟩
  obtain ⟨b,hb,rfl⟩:=kK hx
  obtain ⟨w,hwi,ew⟩:=bL hr hb
  walk_at "rd"
  refine ⟨b,w.map fun (s:Nat)=>((s:Nat):Int),h,rfl,by rw [<-dm]; exact SqT.of (s2 _ _ ew),by rw [Lp]; exact hw w (LA hwi),fun r H3 s3 e3=>?_⟩
  rw [Lp] at e3
  refine bu.put hp (fun _ _ _ _ r k=>xF r k) (s2.trans s3) (s3 _ _ e2) l2 ?_
  rw [cf hwi,LS]
  exact EZ (xF r2 s3.keep) (Ir (ns:=ph w h) e3)
 ·rintro p acc H2 hp s2 e2 r2
  rw [Lp,hlr,Me] at r2
  walk_at "rd"
  refine ⟨p,acc,_,true,rfl,e2,r2,?_,by rw [Lp]; omega,fun p3 H3 hp3 s3 e3=>?_⟩
  ·intro k hk
   obtain ⟨w,_,rfl⟩:=MC.mp hk
   rfl
  ·rw [Bf] at e3
   exact q _ _ (s2.free hp3) (s2.trans s3) e3
end
noncomputable def HI:List V->Hp->VK->Prop:=fun xs H Q=>∃ n:Nat,xs=[.int (n:Int)]/\n<=1000000/\New H (.rng 0 (n:Int)) fun p H2=>Q (.ref p) H2
noncomputable def yS:List V->Hp->VK->Prop:=fun xs H Q=>∃ (p:Addr) (n:Nat),xs=[.ref p]/\H p=some (.rng 0 (n:Int))/\n<=1000000/\New H (.lst ((LU n).map fun (i:Nat)=>V.int ((i:Nat):Int))) fun p H2=>Q (.ref p) H2
noncomputable def HK (ta:TA):TE:=tCB yS (aa (tCB HI ta) ah)
theorem KW {H:Hp} {Q:VK} {n:Nat} (hn:n<=1000000) (h:New H (.lst ((LU n).map fun (i:Nat)=>V.int ((i:Nat):Int))) fun p H2=>Q (.ref p) H2):New H (.rng 0 (n:Int)) fun p H2=>yS [.ref p] H2 Q:=
 fun p H' _ s e=>⟨p,n,rfl,e,hn,fun l H2 hl s2 e2=>h l H2 (s.free hl) (s.trans s2) e2⟩
noncomputable def sg (H:Hp) (ts:List Addr) (ps:List (V×V)):Prop:=Paired (fun (t:Addr) (p:V×V)=>H t=some (.tup [p.1,p.2])) ts ps
noncomputable def CN (S1 S2:Src) (K:Fg) (ta:TA):TE:=fun σ H Q=>ta σ H fun vs H1=>∃ a b xs ys,vs=[.ref a,.ref b]/\S1.Sq K H1 a xs/\S2.Sq K H1 b ys/\xs.length<=1000000/\
 ∀ p H',H1 p=none->ap H1 H'->(∃ ts:List Addr,H' p=some (.lst (ts.map V.ref))/\sg H' ts (xs.zip ys))->Q (.ref p) H'
section
variable {σ:St} {H:Hp} {Q:VK} {K:Fg}
theorem J6 {ta:TA} (h:ta σ H fun vs H1=>∃ n:Nat,vs=[.int (n:Int)]/\n<=1000000/\New H1 (.rng 0 (n:Int)) fun p H2=>yS [.ref p] H2 Q):HK ta σ H Q:=h
theorem J7 {S1 S2:Src} {ta:TA} (h:ta σ H fun vs H1=>∃ a b xs ys,vs=[.ref a,.ref b]/\S1.Sq K H1 a xs/\S2.Sq K H1 b ys/\xs.length<=1000000/\
 ∀ p H',H1 p=none->ap H1 H'->(∃ ts:List Addr,H' p=some (.lst (ts.map V.ref))/\sg H' ts (xs.zip ys))->Q (.ref p) H'):CN S1 S2 K ta σ H Q:=h
end
end L2
section
namespace KF
noncomputable def fg (ps:List Nat):Prop:=∀ x y:Nat,ps[x]?=some y->y<=x
inductive bv (ps:List Nat):Nat->Nat->Prop where
 | stop {x:Nat} (h:ps[x]?=some x):bv ps x x
 | step {x y r:Nat} (h:ps[x]?=some y) (hl:y < x) (t:bv ps y r):bv ps x r
theorem bv.inj {ps:List Nat} {x r r':Nat} (a:bv ps x r) (b:bv ps x r'):r=r':=by
 induction a with
 | stop h=>cases b with
  | stop _=>rfl
  | step h' hl _=>rw [h] at h'; cases h'; omega
 | step h hl _ ih=>cases b with
  | stop h'=>rw [h] at h'; cases h'; omega
  | step h' _ t=>rw [h] at h'; cases h'; exact ih t
theorem fg.root {ps:List Nat} (f:fg ps):∀ x,x < ps.length->∃ r,bv ps x r:=by
 intro x
 induction x using Nat.strongRecOn with
 | ind x ih=>
  intro hx
  have e:=Lo hx
  have hy:=f x _ e
  rcases Pc hy with h | h
  ·obtain ⟨r,hr⟩:=ih _ h (by omega)
   exact ⟨r,.step e h hr⟩
  ·rw [h] at e
   exact ⟨x,.stop e⟩
theorem bv.le {ps:List Nat} {x r:Nat} (a:bv ps x r):r<=x:=by
 induction a with
 | stop _=>exact Lr _
 | step _ hl _ ih=>omega
theorem bv.self {ps:List Nat} {x r:Nat} (a:bv ps x r):ps[r]?=some r:=by
 induction a with
 | stop h=>exact h
 | step _ _ _ ih=>exact ih
theorem bv.lt {ps:List Nat} {x r:Nat} (a:bv ps x r):x < ps.length:=by
 cases a with
 | stop h=>exact (Ls.mp h).1
 | step h _ _=>exact (Ls.mp h).1
theorem fg.range (n:Nat):fg (LU n):=fun x y h=>by
 obtain ⟨h1,h2⟩:=Ls.mp h
 rw [Qw] at h2
 omega
theorem bv.range {n x:Nat} (h:x < n):bv (LU n) x x:=.stop (by rw [Nk h])
theorem J8 {ps:List Nat} {e g y z:Nat} (h:(ps.set e g)[y]?=some z):(y=e/\z=g)\/(y≠e/\ps[y]?=some z):=by
 rw [OL] at h
 by_cases q:e=y
 ·rw [if_pos q] at h
  split at h
  ·cases h; exact .inl ⟨q.symm,rfl⟩
  ·cases h
 ·rw [if_neg q] at h
  exact .inr ⟨fun z=>q z.symm,h⟩
theorem nX {ps:List Nat} {e g y:Nat} (h:y≠e):(ps.set e g)[y]?=ps[y]?:=by
 rw [OL,if_neg (fun z=>h z.symm)]
theorem kL {ps:List Nat} {e g:Nat} (h:e < ps.length):(ps.set e g)[e]?=some g:=by
 rw [OL,if_pos rfl,if_pos h]
theorem fg.set {ps:List Nat} (f:fg ps) {e g:Nat} (h:g<=e):fg (ps.set e g):=fun x y q=>by
 rcases J8 q with ⟨rfl,rfl⟩ | ⟨_,q⟩
 ·exact h
 ·exact f x y q
theorem bv.halve {ps:List Nat} (f:fg ps) {e p g:Nat} (h1:ps[e]?=some p) (h2:ps[p]?=some g) {y r:Nat} (a:bv ps y r):bv (ps.set e g) y r:=by
 have he:e < ps.length:=(Ls.mp h1).1
 induction a with
 | @stop x h=>
  by_cases q:x=e
  ·subst q
   rw [h] at h1
   cases h1
   rw [h] at h2
   cases h2
   exact .stop (kL he)
  ·exact .stop (by rw [nX q]; exact h)
 | @step x y r h hl t ih=>
  by_cases q:x=e
  ·subst q
   rw [h] at h1
   cases h1
   have e1:(ps.set x g)[p]?=some g:=by rw [nX (by omega)]; exact h2
   cases ih with
   | stop h'=>
    rw [e1] at h'
    cases h'
    exact .step (kL he) hl (.stop e1)
   | step h' hl' t'=>
    rw [e1] at h'
    cases h'
    exact .step (kL he) (by omega) t'
  ·exact .step (by rw [nX q]; exact h) hl ih
theorem bv.link {ps:List Nat} {M m:Nat} (hM:ps[M]?=some M) (hm:ps[m]?=some m) (hle:m<=M) {y r:Nat} (a:bv ps y r):bv (ps.set M m) y (if r=M then m else r):=by
 have hMl:M < ps.length:=(Ls.mp hM).1
 induction a with
 | @stop x h=>
  by_cases q:x=M
  ·subst q
   rw [if_pos rfl]
   rcases Pc hle with l | l
   ·exact .step (kL hMl) l (.stop (by rw [nX (by omega)]; exact hm))
   ·subst l
    exact .stop (kL hMl)
  ·rw [if_neg q]
   exact .stop (by rw [nX q]; exact h)
 | @step x y r h hl t ih=>
  have q:x≠M:=by
   intro q
   subst q
   rw [h] at hM
   cases hM
   omega
  exact .step (by rw [nX q]; exact h) hl ih
inductive ek (P:Nat->Nat->Prop):Nat->Nat->Prop where
 | refl (x:Nat):ek P x x
 | one {x y:Nat} (h:P x y):ek P x y
 | symm {x y:Nat} (h:ek P x y):ek P y x
 | trans {x y z:Nat} (h:ek P x y) (t:ek P y z):ek P x z
theorem ek.mono {P P':Nat->Nat->Prop} (h:∀ x y,P x y->P' x y) {x y:Nat} (c:ek P x y):ek P' x y:=by
 induction c with
 | refl x=>exact .refl x
 | one q=>exact .one (h _ _ q)
 | symm _ ih=>exact .symm ih
 | trans _ _ a b=>exact .trans a b
theorem ek.keeps {P:Nat->Nat->Prop} {α:Type} {f:Nat->α} (h:∀ x y,P x y->f x=f y) {x y:Nat} (c:ek P x y):f x=f y:=by
 induction c with
 | refl x=>rfl
 | one q=>exact h _ _ q
 | symm _ ih=>exact ih.symm
 | trans _ _ a b=>exact a.trans b
noncomputable def lA (n:Nat) (vs:List (List Nat)) (x y:Nat):Prop:=∃ v∈vs,x < n/\v[x]?=some y
structure qU (n:Nat) (P:Nat->Nat->Prop) (r:List Nat):Prop where
 len:r.length=n
 le:∀ i x:Nat,r[i]?=some x->x<=i
 conn:∀ i x:Nat,r[i]?=some x->ek P i x
 same:∀ i j:Nat,i < n->j < n->ek P i j->r[i]?=r[j]?
structure dn (n:Nat) (P:Nat->Nat->Prop) (ps:List Nat):Prop where
 len:ps.length=n
 forest:fg ps
 conn:∀ x r,bv ps x r->ek P x r
 same:∀ x y,P x y->∃ r,bv ps x r/\bv ps y r
theorem dn.join {n:Nat} {P:Nat->Nat->Prop} {ps r:List Nat} (t:dn n P ps) (hl:r.length=n) (hr:∀ i x:Nat,r[i]?=some x->bv ps i x):qU n P r where
 len:=hl
 le:=fun i x h=>(hr i x h).le
 conn:=fun i x h=>t.conn _ _ (hr i x h)
 same:=by
  have key:∀ i j,ek P i j->∀ x,(bv ps i x↔bv ps j x):=by
   intro i j c
   induction c with
   | refl x=>intro x; exact Iff.rfl
   | one q=>
    intro x
    obtain ⟨r,h1,h2⟩:=t.same _ _ q
    exact ⟨fun a=>by rw [a.inj h1]; exact h2,fun a=>by rw [a.inj h2]; exact h1⟩
   | symm _ ih=>intro x; exact (ih x).symm
   | trans _ _ a b=>intro x; exact (a x).trans (b x)
  intro i j hi hj c
  have e1:=Lo (l:=r) (i:=i) (by rw [hl]; exact hi)
  have e2:=Lo (l:=r) (i:=j) (by rw [hl]; exact hj)
  have q1:=(key i j c _).mp (hr _ _ e1)
  rw [e1,e2,q1.inj (hr _ _ e2)]
theorem dn.start (n:Nat):dn n (fun _ _=>False) (LU n) where
 len:=Nj
 forest:=fg.range n
 conn:=fun x r h=>by
  have hx:x < n:=by have:=h.lt; rw [Nj] at this; exact this
  rw [h.inj (bv.range hx)]
  exact .refl x
 same:=fun _ _ h=>h.elim
theorem dn.moved {n:Nat} {P:Nat->Nat->Prop} {ps ps':List Nat} (t:dn n P ps) (f:fg ps') (hl:ps'.length=n) (h:∀ y r,bv ps y r->bv ps' y r):dn n P ps' where
 len:=hl
 forest:=f
 conn:=fun x r a=>by
  obtain ⟨r',b⟩:=t.forest.root x (by rw [t.len,<-hl]; exact a.lt)
  rw [a.inj (h _ _ b)]
  exact t.conn _ _ b
 same:=fun x y q=>by
  obtain ⟨r,h1,h2⟩:=t.same x y q
  exact ⟨r,h _ _ h1,h _ _ h2⟩
theorem dn.link {n:Nat} {P P':Nat->Nat->Prop} {ps:List Nat} {a b ra rb M m:Nat} (t:dn n P ps) (ha:bv ps a ra) (hb:bv ps b rb) (hM:(M=ra/\m=rb)\/(M=rb/\m=ra)) (hle:m<=M)
  (h1:∀ x y,P x y->P' x y) (h2:∀ x y,P' x y->P x y\/(x=a/\y=b)) (h3:P' a b):dn n P' (ps.set M m):=by
 have sM:ps[M]?=some M:=by
  rcases hM with ⟨rfl,_⟩ | ⟨rfl,_⟩
  ·exact ha.self
  ·exact hb.self
 have sm:ps[m]?=some m:=by
  rcases hM with ⟨_,rfl⟩ | ⟨_,rfl⟩
  ·exact hb.self
  ·exact ha.self
 have cMm:ek P' M m:=by
  have c1:ek P' a ra:=(t.conn _ _ ha).mono h1
  have c2:ek P' b rb:=(t.conn _ _ hb).mono h1
  rcases hM with ⟨rfl,rfl⟩ | ⟨rfl,rfl⟩
  ·exact .trans (.symm c1) (.trans (.one h3) c2)
  ·exact .trans (.symm c2) (.trans (.symm (.one h3)) c1)
 have rt:∀ {y r:Nat},bv ps y r->bv (ps.set M m) y (if r=M then m else r):=fun q=>bv.link sM sm hle q
 refine ⟨by rw [NH]; exact t.len,t.forest.set hle,fun x r q=>?_,fun x y q=>?_⟩
 ·obtain ⟨r',h⟩:=t.forest.root x (by have:=q.lt; rw [NH] at this; exact this)
  rw [q.inj (rt h)]
  have c:ek P' x r':=(t.conn _ _ h).mono h1
  split
  ·rename_i e
   rw [e] at c
   exact .trans c cMm
  ·exact c
 ·rcases h2 x y q with q | ⟨rfl,rfl⟩
  ·obtain ⟨r,q1,q2⟩:=t.same x y q
   exact ⟨_,rt q1,rt q2⟩
  ·refine ⟨m,?_,?_⟩
   ·have:=rt ha
    rcases hM with ⟨e1,e2⟩ | ⟨e1,e2⟩
    ·rw [if_pos e1.symm] at this; exact this
    ·by_cases z:ra=M
     ·rw [if_pos z] at this; exact this
     ·rw [if_neg z,<-e2] at this; exact this
   ·have:=rt hb
    rcases hM with ⟨e1,e2⟩ | ⟨e1,e2⟩
    ·by_cases z:rb=M
     ·rw [if_pos z] at this; exact this
     ·rw [if_neg z,<-e2] at this; exact this
    ·rw [if_pos e1.symm] at this; exact this
end KF
end
namespace L2
open PySem PyProof.Rows
section
variable {K:Fg} {vs:List V} {H:Hp} {Q:VK} {E:XK}
open KF
section
variable {g:CF TG} {tt:CF TT} {te:CF TE} {σ₀:St} {Q:VK} {H:Hp} {K:Fg}
theorem E1 {j:Int} (n:Nat) (hn:j.toNat=n) (hj:j<=1000000) (hj0:-1000000<=j) (R:Addr->Nat->List V->Hp->Prop) (h0:∀ p H',H p=none->ap H H'->H' p=some (.lst [])->R p 0 [] H')
  (hp:∀ p i acc H',R p i acc H'->H' p=some (.lst acc)/\acc.length<=i)
  (hs:∀ p,H p=none->∀ C s' H' fp,∀ i acc H2,i < n->R p i acc H2->g C s' H' fp (.int i) σ₀ H2 fun σ2 H3=>tt C s' H' fp σ2 H3 fun b H4=>if b=true then te C s' H' fp σ2 H4 fun y H5=>H5 p=some (.lst acc)/\R p (i + 1) (acc++[y]) (upd H5 p (.lst (acc++[y]))) else R p (i + 1) acc H4)
  (hd:∀ p acc H2,H p=none->R p n acc H2->Q (.ref p) H2):
  ∃ j':Int,[V.int j]=[.int j']/\-(2 ^ 62)<=j'/\j' < 2 ^ 62/\∀ p,H p=none->∃ W:Nat->Nat->List V->Hp->Prop,(∃ m,W 0 m [] (upd H p (.lst [])))/\∀ C s' H' fp,cB (Itr 0 j'.toNat) (g C s' H' fp) (tt C s' H' fp) (te C s' H' fp) σ₀ p Q W:=by
 refine ⟨j,rfl,by omega,by omega,fun p hpn=>?_⟩
 subst hn
 exact oS (lo:=0) (R p) (h0 p _ hpn (bf hpn _) az) (fun i acc H2 _ c=>hp p i acc H2 c) (by rw [Lw]; omega) (fun C s' H' fp i acc H2 hi c=>by rw [Rc]; exact hs p hpn C s' H' fp i acc H2 hi c) fun acc H2 c=>hd p acc H2 hpn c
end
theorem wI {n j:Nat} (h:j < n):ixN n (j:Int)=some j:=by unfold ixN; rw [if_pos (by omega),if_pos (by omega)]; simp
theorem CO (n:Nat):(LU n).map (fun (i:Nat)=>V.int ((i:Nat):Int))=ax (LU n):=rfl
noncomputable def kM (_:Fg):Sp:=fun vs H Q _=>∃ (p:Addr) (ps:List Nat) (x r:Nat),vs=[.ref p,.int (x:Int)]/\H p=some (.lst (ax ps))/\fg ps/\bv ps x r/\
 ∀ H' ps',Off p H H'->H' p=some (.lst (ax ps'))->ps'.length=ps.length->fg ps'->(∀ y s,bv ps y s->bv ps' y s)->Q (.int (r:Int)) H'
noncomputable def pi (K:Fg):TS:=(aw (aI (ac 1) (aq 2))
 (aw (nO (bc (tOp rNe (tOp (bR K) (ac 0) (ac 2)) (ac 2))) (aw (aI (tOp (bR K) (ac 0) (tOp (bR K) (ac 0) (ac 2))) (qA (ac 0) (ac 2) mM))
 (aI (tOp (bR K) (ac 0) (ac 2)) (aq 2))))
 (aN (ac 2))))
theorem Gk {p:Addr} {H:Hp}:Off p H H:=fun _ _=>rfl
theorem qV {p:Addr} {H H1 H2:Hp} (a:Off p H H1) (b:Off p H1 H2):Off p H H2:=fun c hc=>(b c hc).trans (a c hc)
theorem E2 (h:kM K vs H Q E):pi K { nx:=fun _ H'=>Q .non H',rt:=Q } (start ["points","thing","end"] vs) H:=by
 obtain ⟨p,ps,x,r,rfl,e,hf,hr,q⟩:=h
 show pi K _ [some _,some _,none] _
 unfold pi
 walk_at "rd"
 refine Ct (fun m σ H1=>∃ (ps':List Nat),σ=[some (.ref p),some (.int (x:Int)),some (.int (m:Int))]/\Off p H H1/\H1 p=some (.lst (ax ps'))/\ps'.length=ps.length/\fg ps'/\(∀ y s,bv ps y s->bv ps' y s)/\bv ps' m r) x ⟨ps,rfl,Gk,e,rfl,hf,fun _ _ h=>h,hr⟩ ?_
 rintro m σ H1 ⟨ps',rfl,o1,e1,hl,hf1,hk,hr1⟩
 have hm:=hr1.lt
 obtain ⟨y,hy⟩:∃ y,ps'[m]?=some y:=⟨_,Lo hm⟩
 walk_at "rd"
 refine bA (SqL.of e1) (lX hy) ?_
 walk_at "rd"
 refine zw (fun c=>?_) (fun c=>?_)
 ·have hym:y < m:=by have:=hf1 m y hy; omega
  obtain ⟨g,hg⟩:∃ g,ps'[y]?=some g:=⟨_,Lo (by omega)⟩
  have hgy:=hf1 y g hg
  refine Cs ?_
  walk_at "rd"
  refine bA (SqL.of e1) (lX hy) ?_
  walk_at "rd"
  refine bA (SqL.of e1) (lX hg) ?_
  walk_at "rd"
  refine qM e1 (wI (by rw [bi]; exact hm)) ?_
  rw [t0]
  walk_at "rd"
  refine bA (SqL.of az) (lX (z:=g) (kL hm)) ?_
  walk_at "rd"
  refine ⟨g,by omega,ps'.set m g,rfl,qV o1 i8,az,by rw [NH]; exact hl,hf1.set (by omega),fun a s h=>bv.halve hf1 hy hg (hk a s h),?_⟩
  have:=bv.halve hf1 hy hg hr1
  cases this with
  | stop h=>
   rw [kL hm] at h
   cases h
   omega
  | step h _ t=>
   rw [kL hm] at h
   cases h
   exact t
 ·have:y=m:=by omega
  subst this
  walk_at "rd"
  have er:y=r:=(bv.stop hy).inj hr1
  rw [er]
  exact q H1 ps' o1 e1 hl hf1 hk
noncomputable def wJ (_:Fg):Sp:=fun vs H Q _=>∃ (p:Addr) (ps:List Nat) (n:Nat) (P P':Nat->Nat->Prop) (a b:Nat),vs=[.ref p,.int (a:Int),.int (b:Int)]/\H p=some (.lst (ax ps))/\dn n P ps/\a < n/\b < n/\
 (∀ x y,P x y->P' x y)/\(∀ x y,P' x y->P x y\/(x=a/\y=b))/\P' a b/\∀ H' ps',Off p H H'->H' p=some (.lst (ax ps'))->dn n P' ps'->Q .non H'
noncomputable def ve (K:Fg):TS:=(aw (aI (au (kM K) [] E0 (aa (ac 0) (aa (ac 1) ah))) (aq 3))
 (aw (aI (au (kM K) [] E0 (aa (ac 0) (aa (ac 2) ah))) (aq 4))
 (aI (tCB Cv (aa (ac 3) (aa (ac 4) ah))) (qA (ac 0) (tCB Ht (aa (ac 3) (aa (ac 4) ah))) mM))))
theorem IC (h:wJ K vs H Q E):ve K { nx:=fun _ H'=>Q .non H',rt:=Q } (start ["points","one","other","first","second"] vs) H:=by
 obtain ⟨p,ps,n,P,P',a,b,rfl,e,ht,ha,hb,h1,h2,h3,q⟩:=h
 show ve K _ [some _,some _,some _,none,none] _
 unfold ve
 obtain ⟨ra,hra⟩:=ht.forest.root a (by rw [ht.len]; exact ha)
 walk_at "rd"
 refine ⟨p,ps,a,ra,rfl,e,ht.forest,hra,fun H1 ps1 o1 e1 l1 f1 k1=>?_⟩
 have ht1:=ht.moved f1 (by rw [l1]; exact ht.len) k1
 obtain ⟨rb,hrb⟩:=ht1.forest.root b (by rw [ht1.len]; exact hb)
 walk_at "rd"
 refine ⟨p,ps1,b,rb,rfl,e1,f1,hrb,fun H2 ps2 o2 e2 l2 f2 k2=>?_⟩
 have ht2:=ht1.moved f2 (by rw [l2]; exact ht1.len) k2
 have hra2:=k2 _ _ (k1 _ _ hra)
 have hrb2:=k2 _ _ hrb
 walk_at "rd"
 have la:=hra2.le
 have lb:=hrb2.le
 obtain ⟨M,m,hM,hm,hd,hle⟩:∃ M m:Nat,(if (rb:Int) > (ra:Int) then (rb:Int) else (ra:Int))=(M:Int)/\(if (rb:Int) < (ra:Int) then (rb:Int) else (ra:Int))=(m:Int)/\((M=ra/\m=rb)\/(M=rb/\m=ra))/\m<=M:=by
  by_cases c:rb < ra
  ·exact ⟨ra,rb,by rw [if_neg (by omega)],by rw [if_pos (by omega)],.inl ⟨rfl,rfl⟩,by omega⟩
  ·by_cases d:ra < rb
   ·exact ⟨rb,ra,by rw [if_pos (by omega)],by rw [if_neg (by omega)],.inr ⟨rfl,rfl⟩,by omega⟩
   ·exact ⟨ra,ra,by rw [if_neg (by omega)],by rw [if_neg (by omega)],.inr ⟨by omega,rfl⟩,Lr _⟩
 rw [hm,hM]
 have hMl:M < ps2.length:=by
  rw [ht2.len]
  rcases hd with ⟨rfl,_⟩ | ⟨rfl,_⟩ <;> omega
 refine qM e2 (wI (by rw [bi]; exact hMl)) ?_
 rw [t0]
 exact q _ _ (qV (qV o1 o2) i8) az (ht2.link hra2 hrb2 hd hle h1 h2 h3)
noncomputable def fH (H:Hp) (a:Addr) (vs:List (List Nat)):Prop:=∃ rs:List Addr,H a=some (.lst (rs.map V.ref))/\Paired (fun (r:Addr) (v:List Nat)=>H r=some (.lst (ax v))) rs vs
theorem fH.same {H H':Hp} {a:Addr} {vs:List (List Nat)} (h:fH H a vs) (s:ap H H'):fH H' a vs:=by
 obtain ⟨rs,e,r⟩:=h
 exact ⟨rs,s _ _ e,Paired.mapP r fun _ _ q=>s _ _ q⟩
noncomputable def Within (n:Nat) (v:List Nat):Prop:=v.length=n/\∀ x∈v,x < n
theorem nY {rs:List Addr} {i:Nat} {x:V} (hx:(rs.map V.ref)[i]?=some x):∃ a,rs[i]?=some a/\x=.ref a:=by
 rw [LD] at hx
 cases e:rs[i]? with
 | none=>rw [e] at hx; cases hx
 | some z=>rw [e] at hx; exact ⟨z,rfl,(LF hx).symm⟩
noncomputable def qW (_:Fg):Sp:=fun vs H Q _=>∃ (n:Nat) (a:Addr) (ws:List (List Nat)),vs=[.int (n:Int),.ref a]/\fH H a ws/\(∀ v∈ws,Within n v)/\n<=100000/\
 ∀ r p H',qU n (lA n ws) r->H p=none->ap H H'->H' p=some (.lst (ax r))->Q (.ref p) H'
noncomputable def pj (K:Fg):TS:=(aw (aI (HK (aa (ac 0) ah)) (aq 2))
 (aw (dI (dc K (ac 1)) (aq 3) (dI (rX bS K (aa (ac 3) ah)) (jg K 2 (ca (aq 4) (ca (aq 5) jf))) (dw (au (wJ K) [] E0 (aa (ac 2) (aa (ac 4) (aa (ac 5) ah)))))))
 (aN (bW (fA (aa (ac 0) ah)) (fun _ _ _ _=>(aq 0)) (fun _ _ _ _=>bM) (fun _ _ _ _=>(au (kM K) [] E0 (aa (ac 1) (aa (ac 0) ah)))) [none,some 2]))))
theorem CP {n:Nat} {ws:List (List Nat)} {i:Nat} {v:List Nat} (hv:ws[i]?=some v) {x y:Nat}:lA n (ws.take (i + 1)) x y↔lA n (ws.take i) x y\/(x < n/\v[x]?=some y):=by
 unfold lA
 rw [cf hv]
 constructor
 ·rintro ⟨w,hw,h1,h2⟩
  rcases LR.mp hw with hw | hw
  ·exact .inl ⟨w,hw,h1,h2⟩
  ·rw [Ln.mp hw] at h2; exact .inr ⟨h1,h2⟩
 ·rintro (⟨w,hw,h1,h2⟩ | ⟨h1,h2⟩)
  ·exact ⟨w,MT _ hw,h1,h2⟩
  ·exact ⟨v,L7 _ (Ln.mpr rfl),h1,h2⟩
theorem _root_.KF.dn.congr {n:Nat} {P P':Nat->Nat->Prop} {ps:List Nat} (t:dn n P ps) (h:∀ x y,P x y↔P' x y):dn n P' ps:=by
 have e:P=P':=by funext x y; exact propext (h x y)
 rw [<-e]; exact t
theorem E3 (h:qW K vs H Q E):pj K { nx:=fun _ H'=>Q .non H',rt:=Q } (start ["many","views","points","view","thing","least"] vs) H:=by
 obtain ⟨n,a,ws,rfl,hV,hw,hn,q⟩:=h
 show pj K _ [some _,some _,none,none,none,none] _
 unfold pj
 obtain ⟨rs,ea,hr⟩:=id hV
 have hlr:rs.length=ws.length:=Mj hr
 walk_at "rd"
 refine J6 ?_
 walk_at "rd"
 refine ⟨n,rfl,by omega,KW (by omega) fun p H1 hp s1 e1=>?_⟩
 rw [CO] at e1
 walk_at "rd"
 refine lL (rs.map V.ref) (SqL.of (s1 _ _ ea)) (fun i σ H2=>∃ (u1 u2 u3:Option V) (ps:List Nat),σ=[some (.int (n:Int)),some (.ref a),some (.ref p),u1,u2,u3]/\ap H H2/\H2 p=some (.lst (ax ps))/\dn n (lA n (ws.take i)) ps) ?_ ?_ ?_ ?_
 ·refine ⟨_,_,_,_,rfl,s1,e1,(dn.start n).congr fun x y=>⟨fun h=>h.elim,fun ⟨w,hw,_⟩=>by simp at hw⟩⟩
 ·rintro i σ H2 hi ⟨u1,u2,u3,ps,rfl,s2,e2,t2⟩
  exact SqL.of (s2 _ _ ea)
 ·rintro i x σ H2 hx ⟨u1,u2,u3,ps,rfl,s2,e2,t2⟩
  obtain ⟨b,hb,rfl⟩:=nY hx
  obtain ⟨v,hv,ev⟩:=bL hr hb
  obtain ⟨hvl,hvx⟩:=hw v (LA hv)
  walk_at "rd"
  refine BP (S:=bS) (ax v) (SqL.of (s2 _ _ ev)) (fun j σ H3=>∃ (u2 u3:Option V) (ps:List Nat),σ=[some (.int (n:Int)),some (.ref a),some (.ref p),some (.ref b),u2,u3]/\ap H H3/\H3 p=some (.lst (ax ps))/\dn n (fun x y=>lA n (ws.take i) x y\/(x < j/\v[x]?=some y)) ps) ?_ ?_ ?_ ?_
  ·exact ⟨_,_,ps,rfl,s2,e2,t2.congr fun x y=>⟨.inl,fun h=>h.elim (fun h=>h) fun h=>absurd h.1 (by omega)⟩⟩
  ·rintro j σ H3 hj ⟨u2,u3,ps,rfl,s3,e3,t3⟩
   exact SqL.of (s3 _ _ ev)
  ·rintro j x T σ H3 H4 hx ⟨u2,u3,ps,rfl,s3,e3,t3⟩ hT s4 eT
   obtain ⟨z,hz,rfl⟩:=ja hx
   have hjl:j < v.length:=(Ls.mp hz).1
   refine iA (SqT.of eT) ?_
   walk_at "rd"
   refine ⟨p,ps,n,_,(fun x y=>lA n (ws.take i) x y\/(x < j + 1/\v[x]?=some y)),j,z,rfl,s4 _ _ e3,t3,by omega,hvx z (LA hz),?_,?_,.inr ⟨by omega,hz⟩,fun H5 ps5 o5 e5 t5=>?_⟩
   ·rintro x y (h | h)
    ·exact .inl h
    ·exact .inr ⟨by omega,h.2⟩
   ·rintro x y (h | ⟨h1,h2⟩)
    ·exact .inl (.inl h)
    ·by_cases c:x=j
     ·subst c
      rw [hz] at h2
      cases h2
      exact .inr ⟨rfl,rfl⟩
     ·exact .inl (.inr ⟨by omega,h2⟩)
   ·exact ⟨_,_,ps5,rfl,(s3.trans s4).off hp o5,e5,t5⟩
  ·rintro σ H3 ⟨u2,u3,ps,rfl,s3,e3,t3⟩
   rw [bi] at t3
   exact ⟨_,_,_,ps,rfl,s3,e3,t3.congr fun x y=>by rw [CP hv,hvl]⟩
 ·rintro σ H2 ⟨u1,u2,u3,ps,rfl,s2,e2,t2⟩
  rw [Lp,hlr,Me] at t2
  walk_at "rd"
  refine E1 n (by omega) (by omega) (by omega) (fun l i acc H3=>∃ (ps' rr:List Nat),acc=ax rr/\rr.length=i/\H3 l=some (.lst acc)/\l≠p/\H l=none/\ap H H3/\H3 p=some (.lst (ax ps'))/\dn n (lA n ws) ps'/\(∀ y s,bv ps y s->bv ps' y s)/\∀ k x:Nat,rr[k]?=some x->bv ps k x) ?_ ?_ ?_ ?_
  ·intro l H3 hl s3 e3
   exact ⟨ps,[],rfl,rfl,e3,(aR e2 hl).symm,s2.free hl,s2.trans s3,s3 _ _ e2,t2,fun _ _ h=>h,fun k x h=>by simp at h⟩
  ·rintro l i acc H3 ⟨ps',rr,rfl,hl,e3,_⟩
   exact ⟨e3,by rw [bi]; omega⟩
  ·rintro l hl C s' H' fp i acc H3 hi ⟨ps',rr,rfl,hlr',e3,nl,hlH,s3,ep3,t3,k3,g3⟩
   obtain ⟨r,hr⟩:=t2.forest.root i (by rw [t2.len]; exact hi)
   walk_at "rd"
   refine ⟨p,ps',i,r,rfl,ep3,t3.forest,k3 _ _ hr,fun H4 ps4 o4 e4 l4 f4 k4=>?_⟩
   refine ⟨by rw [o4 l nl]; exact e3,ps4,rr++[r],i9 rr r,by simp [hlr'],az,nl,hlH,(s3.off hp o4).off hlH i8,by rw [aO nl.symm]; exact e4,t3.moved f4 (by rw [l4]; exact t3.len) k4,fun y s h=>k4 _ _ (k3 _ _ h),fun k x h=>?_⟩
   rw [List.getElem?_append] at h
   by_cases c:k < rr.length
   ·rw [if_pos c] at h
    exact g3 k x h
   ·rw [if_neg c] at h
    have hk:k=i:=by
     by_cases d:k - rr.length=0
     ·omega
     ·rw [Mb (by simp; omega)] at h; cases h
    subst hk
    rw [<-hlr',OP] at h
    cases h
    exact hr
  ·rintro l acc H3 hl ⟨ps',rr,rfl,hlr',e3,nl,hlH,s3,ep3,t3,k3,g3⟩
   exact q rr l H3 (t2.join hlr' g3) hlH s3 e3
end
noncomputable def zQ (H:Hp) (p:Addr) (fs:List (List Nat)) (i:Nat) (acc:List V) (H2:Hp):Prop:=
 ap H H2/\H2 p=some (.lst acc)/\acc.length<=i/\∃ rs:List Addr,acc=rs.map V.ref/\Paired (fun (r:Addr) (v:List Nat)=>H2 r=some (.lst (ax v))/\r≠p) rs (fs.take i)
theorem zQ.put {H H2 H5:Hp} {p r:Addr} {fs:List (List Nat)} {i:Nat} {acc:List V} {v:List Nat} (hp:H p=none) (h:zQ H p fs i acc H2) (hv:fs[i]?=some v) (hr:H2 r=none) (s:ap H2 H5) (e:H5 r=some (.lst (ax v))):
  H5 p=some (.lst acc)/\zQ H p fs (i + 1) (acc++[.ref r]) (upd H5 p (.lst (acc++[.ref r]))):=by
 obtain ⟨s2,e2,l2,rs,rfl,h2⟩:=h
 have nr:r≠p:=(aR e2 hr).symm
 refine ⟨s _ _ e2,(s2.trans s).upd hp _,az,by simp at l2 ⊢; omega,rs++[r],by simp,?_⟩
 rw [cf hv]
 have go:∀ {l:List Addr} {m:List (List Nat)},Paired (fun (r:Addr) (v:List Nat)=>H2 r=some (.lst (ax v))/\r≠p) l m->Paired (fun (r':Addr) (v:List Nat)=>(upd H5 p (.lst (rs.map V.ref++[.ref r]))) r'=some (.lst (ax v))/\r'≠p) (l++[r]) (m++[v]):=by
  intro l m q
  induction q with
  | nil=>exact .cons ⟨by rw [aO nr]; exact e,nr⟩ .nil
  | cons h t ih=>exact .cons ⟨by rw [aO h.2]; exact s _ _ h.1,h.2⟩ ih
 exact go h2
theorem zQ.views {H H2:Hp} {p:Addr} {fs:List (List Nat)} {acc:List V} (h:zQ H p fs fs.length acc H2):ap H H2/\fH H2 p fs:=by
 obtain ⟨s2,e2,l2,rs,rfl,h2⟩:=h
 rw [Me] at h2
 exact ⟨s2,rs,e2,Paired.mapP h2 fun _ _ z=>z.1⟩
section
variable {g:CF TG} {tt:CF TT} {te:CF TE} {σ₀:St} {Q:VK} {H:Hp} {K:Fg}
end
theorem pA {H:Hp} {a:Addr} {fs:List (List Nat)} (h:fH H a fs):∃ rs:List Addr,H a=some (.lst (rs.map V.ref))/\rs.length=fs.length/\∀ (i:Nat) (r:Addr),rs[i]?=some r->∃ v,fs[i]?=some v/\H r=some (.lst (ax v)):=by
 obtain ⟨rs,e,p⟩:=h
 exact ⟨rs,e,Mj p,fun i r hr=>bL p hr⟩
end L2
section
namespace L2
open PySem PyProof.Rows
inductive Sy where
 | holds (w c:Nat) | sees (h:Nat) | not (s:Sy) | and (s t:Sy) | or (s t:Sy) | knows (h:Nat) (s:Sy) | all (g:List Nat) (s:Sy) | common (g:List Nat) (s:Sy)
namespace Sy
noncomputable def words:Sy->Nat
 | .holds _ _=>1 | .sees _=>1 | .not s=>s.words + 1 | .and s t=>s.words + t.words + 1 | .or s t=>s.words + t.words + 1 | .knows _ s=>s.words + 1 | .all _ s=>s.words + 1 | .common _ s=>s.words + 1
noncomputable def subs:Sy->List Sy
 | .holds _ _=>[] | .sees _=>[] | .not s=>[s] | .and s t=>[s,t] | .or s t=>[s,t] | .knows _ s=>[s] | .all _ s=>[s] | .common _ s=>[s]
noncomputable def word:Sy->Str
 | .holds _ _=>"holds" | .sees _=>"sees" | .not _=>"not" | .and _ _=>"and" | .or _ _=>"or" | .knows _ _=>"knows" | .all _ _=>"all" | .common _ _=>"common"
noncomputable def form:Sy->List Str
 | .holds _ _=>["holder","card"] | .sees _=>["hand"] | .not _=>["saying"] | .and _ _=>["saying","saying"] | .or _ _=>["saying","saying"] | .knows _ _=>["hand","saying"] | .all _ _=>["hands","saying"] | .common _ _=>["hands","saying"]
noncomputable def plain:Sy->Bool
 | .holds _ _=>true | .not _=>true | .and _ _=>true | .or _ _=>true | _=>false
noncomputable def Ok (cards hands:Nat):Sy->Prop
 | .holds w c=>w<=hands/\c < cards | .sees h=>h < hands | .not s=>s.Ok cards hands | .and s t=>s.Ok cards hands/\t.Ok cards hands | .or s t=>s.Ok cards hands/\t.Ok cards hands
 | .knows h s=>h < hands/\s.Ok cards hands | .all g s=>(g.Pairwise (· < ·)/\∀ k∈g,k < hands)/\s.Ok cards hands | .common g s=>(g.Pairwise (· < ·)/\∀ k∈g,k < hands)/\s.Ok cards hands
theorem words_pos (s:Sy):1<=s.words:=by cases s <;> simp [words]
theorem words_subs (s:Sy):s.words=1 + (s.subs.map words).sum:=by cases s <;> simp [words,subs] <;> omega
theorem sub_words {s t:Sy} (h:t∈s.subs):t.words + 1<=s.words:=by
 rw [words_subs s]
 have:=jn (Sw (f:=words) h)
 omega
end Sy
noncomputable def aP (H:Hp):V->Sy->Prop
 | v,.holds w c=>∃ a,v=.ref a/\H a=some (.tup [.str "holds",.int w,.int c])
 | v,.sees h=>∃ a,v=.ref a/\H a=some (.tup [.str "sees",.int h])
 | v,.not s=>∃ a x,v=.ref a/\H a=some (.tup [.str "not",x])/\aP H x s
 | v,.and s t=>∃ a x y,v=.ref a/\H a=some (.tup [.str "and",x,y])/\aP H x s/\aP H y t
 | v,.or s t=>∃ a x y,v=.ref a/\H a=some (.tup [.str "or",x,y])/\aP H x s/\aP H y t
 | v,.knows h s=>∃ a x,v=.ref a/\H a=some (.tup [.str "knows",.int h,x])/\aP H x s
 | v,.all g s=>∃ a b x,v=.ref a/\H a=some (.tup [.str "all",.ref b,x])/\H b=some (.tup (ax g))/\aP H x s
 | v,.common g s=>∃ a b x,v=.ref a/\H a=some (.tup [.str "common",.ref b,x])/\H b=some (.tup (ax g))/\aP H x s
theorem aP.keep {H H':Hp} (k:dJ H H'):∀ {s:Sy} {v:V},aP H v s->aP H' v s
 | .holds _ _,_,⟨a,e,h⟩=>⟨a,e,k _ _ h⟩
 | .sees _,_,⟨a,e,h⟩=>⟨a,e,k _ _ h⟩
 | .not _,_,⟨a,x,e,h,r⟩=>⟨a,x,e,k _ _ h,aP.keep k r⟩
 | .and _ _,_,⟨a,x,y,e,h,r,q⟩=>⟨a,x,y,e,k _ _ h,aP.keep k r,aP.keep k q⟩
 | .or _ _,_,⟨a,x,y,e,h,r,q⟩=>⟨a,x,y,e,k _ _ h,aP.keep k r,aP.keep k q⟩
 | .knows _ _,_,⟨a,x,e,h,r⟩=>⟨a,x,e,k _ _ h,aP.keep k r⟩
 | .all _ _,_,⟨a,b,x,e,h,i,r⟩=>⟨a,b,x,e,k _ _ h,k _ _ i,aP.keep k r⟩
 | .common _ _,_,⟨a,b,x,e,h,i,r⟩=>⟨a,b,x,e,k _ _ h,k _ _ i,aP.keep k r⟩
noncomputable def iY (form:List Str) (items:List V):List V:=((form.zip items).filter fun p=>decide (p.1=("saying":Str))).map (·.2)
noncomputable def g9 (H:Hp) (xs:List V) (ss:List Sy):Prop:=Paired (aP H) xs ss
theorem g9.keep {H H':Hp} (k:dJ H H') {xs:List V} {ss:List Sy} (h:g9 H xs ss):g9 H' xs ss:=Paired.mapP h fun _ _ r=>r.keep k
theorem ns1:decide (("holder":Str)="saying")=false:=by decide +kernel
theorem ns2:decide (("card":Str)="saying")=false:=by decide +kernel
theorem ns3:decide (("hand":Str)="saying")=false:=by decide +kernel
theorem ns4:decide (("hands":Str)="saying")=false:=by decide +kernel
theorem ID {H:Hp} {v:V} {s:Sy} (h:aP H v s):∃ a items,v=.ref a/\H a=some (.tup (.str s.word :: items))/\items.length=s.form.length/\g9 H (iY s.form items) s.subs:=by
 cases s with
 | holds w c=>obtain ⟨a,e,h⟩:=h; exact ⟨a,_,e,h,rfl,by simp only [iY,Sy.form,MW,NC,Nw,ns1,ns2]; exact .nil⟩
 | sees w=>obtain ⟨a,e,h⟩:=h; exact ⟨a,_,e,h,rfl,by simp only [iY,Sy.form,MW,NC,Nw,ns3]; exact .nil⟩
 | not s=>obtain ⟨a,x,e,h,r⟩:=h; exact ⟨a,_,e,h,rfl,by simp only [iY,Sy.form,MW,NC,Nw,decide_true]; exact .cons r .nil⟩
 | and s t=>obtain ⟨a,x,y,e,h,r,q⟩:=h; exact ⟨a,_,e,h,rfl,by simp only [iY,Sy.form,MW,NC,Nw,decide_true]; exact .cons r (.cons q .nil)⟩
 | or s t=>obtain ⟨a,x,y,e,h,r,q⟩:=h; exact ⟨a,_,e,h,rfl,by simp only [iY,Sy.form,MW,NC,Nw,decide_true]; exact .cons r (.cons q .nil)⟩
 | knows w s=>obtain ⟨a,x,e,h,r⟩:=h; exact ⟨a,_,e,h,rfl,by simp only [iY,Sy.form,MW,NC,Nw,decide_true,ns3]; exact .cons r .nil⟩
 | all g s=>obtain ⟨a,b,x,e,h,i,r⟩:=h; exact ⟨a,_,e,h,rfl,by simp only [iY,Sy.form,MW,NC,Nw,decide_true,ns4]; exact .cons r .nil⟩
 | common g s=>obtain ⟨a,b,x,e,h,i,r⟩:=h; exact ⟨a,_,e,h,rfl,by simp only [iY,Sy.form,MW,NC,Nw,decide_true,ns4]; exact .cons r .nil⟩
set_option genInjectivity false in
structure Glo where
 forms:Addr
 cw:Addr
 f1:Addr
 f2:Addr
 f3:Addr
 f4:Addr
 f5:Addr
 f6:Addr
 f7:Addr
 f8:Addr
noncomputable def Glo.kvs (G:Glo):List (Str×V):=[("holds",.ref G.f1),("not",.ref G.f2),("and",.ref G.f3),("or",.ref G.f4),("knows",.ref G.f5),("all",.ref G.f6),("common",.ref G.f7),("sees",.ref G.f8)]
structure vf (K:Fg) (G:Glo):Prop where
 t1:kT K G.f1 [.str "holder",.str "card"]
 t2:kT K G.f2 [.str "saying"]
 t3:kT K G.f3 [.str "saying",.str "saying"]
 t4:kT K G.f4 [.str "saying",.str "saying"]
 t5:kT K G.f5 [.str "hand",.str "saying"]
 t6:kT K G.f6 [.str "hands",.str "saying"]
 t7:kT K G.f7 [.str "hands",.str "saying"]
 t8:kT K G.f8 [.str "hand"]
theorem vf.form {K:Fg} {G:Glo} (g:vf K G) (s:Sy):∃ f,G.kvs.lookup s.word=some (.ref f)/\kT K f (s.form.map V.str):=by
 cases s with
 | holds w c=>exact ⟨G.f1,rfl,g.t1⟩
 | sees w=>exact ⟨G.f8,rfl,g.t8⟩
 | not s=>exact ⟨G.f2,rfl,g.t2⟩
 | and s t=>exact ⟨G.f3,rfl,g.t3⟩
 | or s t=>exact ⟨G.f4,rfl,g.t4⟩
 | knows w s=>exact ⟨G.f5,rfl,g.t5⟩
 | all g' s=>exact ⟨G.f6,rfl,g.t6⟩
 | common g' s=>exact ⟨G.f7,rfl,g.t7⟩
theorem lM (x:V) (xs:List V):atI (x :: xs) 0=some x:=by
 have:atI (x :: xs) ((0:Nat):Int)=some x:=dz rfl
 exact this
theorem E4 (form:List Str) (items:List V) (i:Nat) (f:Str) (x:V) (hf:form[i]?=some f) (hx:items[i]?=some x):iY (form.take (i + 1)) (items.take (i + 1))=iY (form.take i) (items.take i)++(if f="saying" then [x] else []):=by
 unfold iY
 have e:(form.take (i + 1)).zip (items.take (i + 1))=(form.take i).zip (items.take i)++[(f,x)]:=by
  rw [M4,M4,hf,hx]
  rw [List.zip_append (by
   have h1:=(Ls.mp hf).1
   have h2:=(Ls.mp hx).1
   rw [M9,M9]
   omega)]
  rfl
 rw [e,Pb,LS]
 congr 1
 by_cases h:f="saying"
 ·rw [if_pos h,Ov (by simpa using h)]
  rfl
 ·rw [if_neg h,Ow (by simpa using h)]
  rfl
theorem Gm (form:List Str) (items:List V):(iY form items).length<=form.length:=by
 unfold iY
 rw [Lp]
 refine L8 (PK _ _) ?_
 rw [P6]
 omega
theorem Sy.form_len (s:Sy):s.form.length<=2:=by cases s <;> simp [Sy.form]
theorem mW {H:Hp} {xs:List V} {ss:List Sy} {i:Nat} {x:V} (h:g9 H xs ss) (e:xs[i]?=some x):∃ s,ss[i]?=some s/\aP H x s:=lz h e
theorem gH {H:Hp} {xs:List V} {ss:List Sy} (h:g9 H xs ss):xs.length=ss.length:=by
 induction h with
 | nil=>rfl
 | cons _ _ ih=>rw [LX,LX,ih]
end L2
end
section
namespace L2
open PySem
noncomputable def J9 (t1 t2:String):Bool:=t1 == t2 || (t1 == "bool" && t2 == "int")
noncomputable def E5:List String:=["NoneType","bool","int","str","tuple","list","dict"]
noncomputable def BT:List String:=["bool","int","str","tuple","list"]
theorem zR (K:Fg) (t:String):Ms K (.type t) (.type t)=some true:=by unfold Ms; rw [if_pos (beq_self_eq_true _)]
theorem Ka {K:Fg} {t1 t2:String} {b:Bool} (h:(if (MI t1 == MI t2)=true then some true else if Rv t2=true then (RS t1).map (·.contains (.type t2)) else none)=some b):Ms K (.type t1) (.type t2)=some b:=h
theorem BU (K:Fg):∀ t1∈E5,∀ t2∈BT,Ms K (.type t1) (.type t2)=some (J9 t1 t2):=by
 have go:∀ t1∈E5,∀ t2∈BT,(if (MI t1 == MI t2)=true then some true else if Rv t2=true then (RS t1).map (·.contains (.type t2)) else none)=some (J9 t1 t2):=by decide +kernel
 exact fun t1 h1 t2 h2=>Ka (go t1 h1 t2 h2)
end L2
end
namespace L2
open PySem PyProof.Rows
section
variable {K:Fg} {vs:List V} {H:Hp} {Q:VK} {E:XK}
open KF
open Classical in
noncomputable def blV (n:Nat) (P:Nat->Prop):List V:=(LU n).map fun i=>V.bl (decide (P i))
theorem cdf {p:Prop} (h:¬ p):false=@decide p (Nz p):=(@decide_eq_false p (Nz p) h).symm
theorem cdt {p:Prop} (h:p):true=@decide p (Nz p):=(@decide_eq_true p (Nz p) h).symm
theorem cde {p q:Prop} [i:Decidable p] (h:p↔q):decide p=@decide q (Nz q):=@decide_eq_decide p q i (Nz q) |>.mpr h
section
open Classical
variable {n i:Nat} {P P':Nat->Prop}
theorem cP (n:Nat) (P:Nat->Prop):(blV n P).length=n:=by unfold blV; simp
theorem nZ (h:i < n):(blV n P)[i]?=some (.bl (decide (P i))):=by unfold blV; rw [LD,Nk h]; rfl
theorem Kb (h:i < n):atI (blV n P) (i:Int)=some (.bl (decide (P i))):=dz (nZ h)
theorem n9 {x:V} (h:(blV n P)[i]?=some x):i < n/\x=.bl (decide (P i)):=by
 have hi:i < n:=by have:=(Ls.mp h).1; rw [cP] at this; exact this
 rw [nZ hi] at h
 exact ⟨hi,(LF h).symm⟩
theorem qX (h:∀ i,i < n->(P i↔P' i)):blV n P=blV n P':=by
 unfold blV
 refine NJ fun i hi=>?_
 rw [show P i=P' i from propext (h i (N1.mp hi))]
theorem fU (n:Nat) (P:Nat->Prop):blV (n + 1) P=blV n P++[.bl (decide (P n))]:=by unfold blV; rw [OD,LS]; rfl
theorem IE (h:i < n) {b:Bool} (hb:∀ j,j < n->j≠i->(P j↔P' j)) (hi:b=decide (P' i)):(blV n P).set i (.bl b)=blV n P':=by
 refine NW fun k=>?_
 rw [OL,cP]
 by_cases e:i=k
 ·subst e
  rw [if_pos rfl,if_pos h,nZ h,hi]
 ·rw [if_neg e]
  by_cases hk:k < n
  ·rw [nZ hk,nZ hk,show P k=P' k from propext (hb k hk (fun z=>e z.symm))]
  ·rw [Mb (by rw [cP]; omega),Mb (by rw [cP]; omega)]
theorem zT (n:Nat) (h:∀ i,P i):(Mf n [V.bl true]).flatten=blV n P:=by
 induction n with
 | zero=>rfl
 | succ n ih=>
  rw [fU,<-ih,OU,List.flatten_append,decide_eq_true (h n)]
  simp
theorem lZ (n:Nat) (P:Nat->Prop):∀ x∈blV n P,mV x=true:=fun x hx=>by
 unfold blV at hx
 obtain ⟨i,_,rfl⟩:=MC.mp hx
 rfl
end
noncomputable def si (_:Fg):Sp:=fun vs H Q _=>∃ (a b:Addr) (n:Nat) (P P':Nat->Prop),vs=[.ref a,.ref b]/\H a=some (.lst (blV n P))/\H b=some (.lst (blV n P'))/\n<=100000/\
 ∀ p H',H p=none->ap H H'->H' p=some (.lst (blV n fun i=>P i/\P' i))->Q (.ref p) H'
noncomputable def vg (K:Fg):TS:=(aN (bW (qK bS bS K (aa (ac 0) (aa (ac 1) ah))) (fun _ _ _ _=>(jg K 2 (ca (aq 0) (ca (aq 1) jf)))) (fun _ _ _ _=>bM) (fun _ _ _ _=>(oI (ac 0) (ac 1))) [none,none]))
section
open Classical
theorem IF (h:si K vs H Q E):vg K { nx:=fun _ H'=>Q .non H',rt:=Q } (start ["ones","others"] vs) H:=by
 obtain ⟨a,b,n,P,P',rfl,ea,eb,hn,q⟩:=h
 show vg K _ [some _,some _] _
 unfold vg
 walk_at "rd"
 refine qO (S1:=bS) (S2:=bS) _ _ (SqL.of ea) (SqL.of eb) (fun H' s=>s.seq (SqL.of ea)) (fun H' s=>s.seq (SqL.of eb)) (by rw [cP]; omega) (fun i acc _=>acc=blV i fun i=>P i/\P' i) (fun _ _=>rfl) ?_ ?_
 ·rintro p hp C s' H' fp i x y T acc H2 H3 hx hy ⟨s2,e2,l2,rfl⟩ hT s3 e3 e4
  obtain ⟨hi,rfl⟩:=n9 hx
  obtain ⟨_,rfl⟩:=n9 hy
  walk_at "rd"
  refine iA (SqT.of e3) ?_
  walk_at "rd"
  by_cases h:P i
  ·rw [decide_eq_true h]
   refine qH ?_
   walk_at "rd"
   refine bu.put hp (fun _ _ _ _ r _=>r) (s2.trans s3) e4 l2 ?_
   rw [fU]
   congr 3
   exact decide_eq_decide.mpr ⟨fun q=>⟨h,q⟩,fun q=>q.2⟩
  ·rw [decide_eq_false h]
   refine oO ?_
   refine bu.put hp (fun _ _ _ _ r _=>r) (s2.trans s3) e4 l2 ?_
   rw [fU]
   congr 3
   exact cdf fun q=>h q.1
 ·rintro p acc H2 hp s2 e2 rfl
  rw [cP,cP,P7] at e2
  exact q _ _ hp s2 e2
end
noncomputable def qY (_:Fg):Sp:=fun vs H Q _=>∃ (a b:Addr) (n:Nat) (P P':Nat->Prop),vs=[.ref a,.ref b]/\H a=some (.lst (blV n P))/\H b=some (.lst (blV n P'))/\n<=100000/\
 ∀ p H',H p=none->ap H H'->H' p=some (.lst (blV n fun i=>P i\/P' i))->Q (.ref p) H'
noncomputable def pB (K:Fg):TS:=(aN (bW (qK bS bS K (aa (ac 0) (aa (ac 1) ah))) (fun _ _ _ _=>(jg K 2 (ca (aq 0) (ca (aq 1) jf)))) (fun _ _ _ _=>bM) (fun _ _ _ _=>(FI (ac 0) (ac 1))) [none,none]))
section
open Classical
theorem E6 (h:qY K vs H Q E):pB K { nx:=fun _ H'=>Q .non H',rt:=Q } (start ["ones","others"] vs) H:=by
 obtain ⟨a,b,n,P,P',rfl,ea,eb,hn,q⟩:=h
 show pB K _ [some _,some _] _
 unfold pB
 walk_at "rd"
 refine qO (S1:=bS) (S2:=bS) _ _ (SqL.of ea) (SqL.of eb) (fun H' s=>s.seq (SqL.of ea)) (fun H' s=>s.seq (SqL.of eb)) (by rw [cP]; omega) (fun i acc _=>acc=blV i fun i=>P i\/P' i) (fun _ _=>rfl) ?_ ?_
 ·rintro p hp C s' H' fp i x y T acc H2 H3 hx hy ⟨s2,e2,l2,rfl⟩ hT s3 e3 e4
  obtain ⟨hi,rfl⟩:=n9 hx
  obtain ⟨_,rfl⟩:=n9 hy
  walk_at "rd"
  refine iA (SqT.of e3) ?_
  walk_at "rd"
  by_cases h:P i
  ·rw [decide_eq_true h]
   refine qH ?_
   refine bu.put hp (fun _ _ _ _ r _=>r) (s2.trans s3) e4 l2 ?_
   rw [fU]
   congr 3
   exact cdt (.inl h)
  ·rw [decide_eq_false h]
   refine oO ?_
   walk_at "rd"
   refine bu.put hp (fun _ _ _ _ r _=>r) (s2.trans s3) e4 l2 ?_
   rw [fU]
   congr 3
   exact decide_eq_decide.mpr ⟨.inr,fun q=>q.resolve_left h⟩
 ·rintro p acc H2 hp s2 e2 rfl
  rw [cP,cP,P7] at e2
  exact q _ _ hp s2 e2
end
noncomputable def KN (n:Nat) (v:List Nat) (P:Nat->Prop) (i:Nat):Prop:=∀ j,j < n->v.getD j 0=v.getD i 0->P j
theorem pD {n:Nat} {v:List Nat} (h:Within n v) {i:Nat} (hi:i < n):v[i]?=some (v.getD i 0)/\v.getD i 0 < n:=by
 have hl:i < v.length:=by rw [h.1]; exact hi
 have e:v[i]?=some (v.getD i 0):=by rw [LJ,Lo hl]; rfl
 exact ⟨e,h.2 _ (LA e)⟩
noncomputable def j4 (_:Fg):Sp:=fun vs H Q _=>∃ (a b:Addr) (n:Nat) (v:List Nat) (P:Nat->Prop),vs=[.ref a,.ref b]/\H a=some (.lst (ax v))/\H b=some (.lst (blV n P))/\Within n v/\n<=100000/\
 ∀ p H',H p=none->ap H H'->H' p=some (.lst (blV n (KN n v P)))->Q (.ref p) H'
noncomputable def sj (K:Fg):TS:=(aw (aI (tOp F3 (fq (aa (tC (.bl true)) ah)) (tCB (eQ K) (aa (ac 0) ah))) (aq 2))
 (aw (dI (qK bS bS K (aa (ac 0) (aa (ac 1) ah))) (jg K 2 (ca (aq 3) (ca (aq 4) jf))) (bD (iu (tB (ac 4))) (aI (tC (.bl false)) (qA (ac 2) (ac 3) mM)) bh))
 (aN (bW (dc K (ac 0)) (fun _ _ _ _=>(aq 0)) (fun _ _ _ _=>bM) (fun _ _ _ _=>(tOp (bR K) (ac 1) (ac 0))) [none,some 2]))))
section
open Classical
theorem Gn (h:j4 K vs H Q E):sj K { nx:=fun _ H'=>Q .non H',rt:=Q } (start ["view","truths","sure","least","truth"] vs) H:=by
 obtain ⟨a,b,n,v,P,rfl,ea,eb,hv,hn,q⟩:=h
 show sj K _ [some _,some _,none,none,none] _
 unfold sj
 have hvl:=hv.1
 walk_at "rd"
 refine ⟨by simp [Lw],fun l H1 hl s1 e1=>?_⟩
 walk_at "rd"
 refine rZ (SqL.of (s1 _ _ ea)) ?_
 walk_at "rd"
 rw [bi,hvl]
 refine ⟨l,(n:Int),[.bl true],rfl,rfl,e1,by omega,by omega,by rw [Lw]; simp; omega,fun p H2 hp s2 e2=>?_⟩
 rw [OK,zT (P:=fun x=>∀ j,j < 0->v.getD j 0=x->P j) n (fun _ j h=>absurd h (by omega))] at e2
 have s02:=s1.trans s2
 have hpH:H p=none:=s1.free hp
 walk_at "rd"
 refine J0 (S1:=bS) (S2:=bS) (ax v) (blV n P) (SqL.of (s02 _ _ ea)) (SqL.of (s02 _ _ eb)) (fun i σ H3=>∃ (u1 u2:Option V),σ=[some (.ref a),some (.ref b),some (.ref p),u1,u2]/\ap H H3/\H3 p=some (.lst (blV n fun x=>∀ j,j < i->v.getD j 0=x->P j))) ?_ ?_ ?_ ?_
 ·exact ⟨_,_,rfl,s02,e2⟩
 ·rintro i σ H3 ⟨u1,u2,rfl,s3,e3⟩
  exact ⟨SqL.of (s3 _ _ ea),SqL.of (s3 _ _ eb)⟩
 ·rintro i x y T σ H3 H4 hx hy ⟨u1,u2,rfl,s3,e3⟩ hT s4 eT
  obtain ⟨hi,rfl⟩:=n9 hy
  obtain ⟨z,hz,rfl⟩:=ja hx
  obtain ⟨hz',hzn⟩:=pD hv hi
  rw [hz] at hz'
  have ez:z=v.getD i 0:=LF hz'
  refine iA (SqT.of eT) ?_
  walk_at "rd"
  by_cases h:P i
  ·rw [decide_eq_true h]
   walk_at "rd"
   refine ⟨_,_,rfl,s3.trans s4,?_⟩
   rw [s4 _ _ e3]
   congr 2
   refine qX fun x _=>⟨fun f j hj e=>?_,fun f j hj e=>f j (by omega) e⟩
   by_cases c:j=i
   ·rw [c]; exact h
   ·exact f j (by omega) e
  ·rw [decide_eq_false h]
   walk_at "rd"
   refine qM (s4 _ _ e3) (wI (by rw [cP,ez]; exact hzn)) ?_
   refine ⟨_,_,rfl,(s3.trans s4).off hpH i8,?_⟩
   rw [az]
   congr 2
   refine IE (by rw [ez]; exact hzn) (fun x _ hxz=>⟨fun f j hj e=>?_,fun f j hj e=>f j (by omega) e⟩) ?_
   ·by_cases c:j=i
    ·subst c
     exact absurd (e.symm.trans ez.symm) hxz
    ·exact f j (by omega) e
   ·exact cdf fun f=>h (f i (by omega) ez.symm)
 ·rintro σ H3 ⟨u1,u2,rfl,s3,e3⟩
  rw [bi,cP,hvl,P7] at e3
  walk_at "rd"
  refine gp (ax v) (SqL.of (s3 _ _ ea)) (by rw [bi]; omega) (fun i acc _=>acc=blV i (KN n v P)) (fun _ _=>rfl) ?_ ?_
  ·rintro r hr C s' H' fp i x acc H4 hx ⟨s4,e4,l4,rfl⟩
   obtain ⟨z,hz,rfl⟩:=ja hx
   have hi:i < n:=by have:=(Ls.mp hz).1; omega
   obtain ⟨hz',hzn⟩:=pD hv hi
   rw [hz] at hz'
   have ez:z=v.getD i 0:=LF hz'
   walk_at "rd"
   refine bA (SqL.of (s4 _ _ e3)) (Kb (by rw [ez]; exact hzn)) ?_
   refine bu.put hr (fun _ _ _ _ r _=>r) s4 e4 l4 ?_
   rw [fU]
   congr 3
   rw [ez]
   rfl
  ·rintro r acc H4 hr s4 e4 rfl
   rw [bi,hvl] at e4
   exact q _ _ (s3.free hr) (s3.trans s4) e4
end
noncomputable def jr (_:Fg):Sp:=fun vs H Q _=>∃ (a b:Addr) (n:Nat) (ws:List (List Nat)) (P:Nat->Prop),vs=[.ref a,.ref b]/\fH H a ws/\H b=some (.lst (blV n P))/\(∀ v∈ws,Within n v)/\n<=100000/\
 ∀ p H',H p=none->ap H H'->H' p=some (.lst (blV n fun i=>∀ v∈ws,KN n v P i))->Q (.ref p) H'
noncomputable def hJ (K:Fg):TS:=(aw (aI (tOp F3 (fq (aa (tC (.bl true)) ah)) (tCB (eQ K) (aa (ac 1) ah))) (aq 2))
 (aw (dI (dc K (ac 0)) (aq 3) (aI (au (si K) [] E0 (aa (ac 2) (aa (au (j4 K) [] E0 (aa (ac 3) (aa (ac 1) ah))) ah))) (aq 2)))
 (aN (ac 2))))
theorem vh (h:jr K vs H Q E):hJ K { nx:=fun _ H'=>Q .non H',rt:=Q } (start ["views","truths","answers","view"] vs) H:=by
 obtain ⟨a,b,n,ws,P,rfl,hV,eb,hw,hn,q⟩:=h
 show hJ K _ [some _,some _,none,none] _
 unfold hJ
 obtain ⟨rs,ea,hlr,hr⟩:=pA hV
 walk_at "rd"
 refine ⟨by simp [Lw],fun l H1 hl s1 e1=>?_⟩
 walk_at "rd"
 refine rZ (SqL.of (s1 _ _ eb)) ?_
 walk_at "rd"
 rw [cP]
 refine ⟨l,(n:Int),[.bl true],rfl,rfl,e1,by omega,by omega,by rw [Lw]; simp; omega,fun p H2 hp s2 e2=>?_⟩
 rw [OK,zT (P:=fun i=>∀ v∈ws.take 0,KN n v P i) n (fun _ v h=>by simp at h)] at e2
 have s02:=s1.trans s2
 have hpH:H p=none:=s1.free hp
 walk_at "rd"
 refine lL (rs.map V.ref) (SqL.of (s02 _ _ ea)) (fun i σ H3=>∃ (u1:Option V) (p:Addr),σ=[some (.ref a),some (.ref b),some (.ref p),u1]/\H p=none/\ap H H3/\H3 p=some (.lst (blV n fun k=>∀ v∈ws.take i,KN n v P k))) ?_ ?_ ?_ ?_
 ·exact ⟨_,p,rfl,hpH,s02,e2⟩
 ·rintro i σ H3 _ ⟨u1,p,rfl,hp,s3,e3⟩
  exact SqL.of (s3 _ _ ea)
 ·rintro i x σ H3 hx ⟨u1,p,rfl,hp,s3,e3⟩
  obtain ⟨c,hc,rfl⟩:=nY hx
  obtain ⟨v,hv,ev⟩:=hr i c hc
  walk_at "rd"
  refine ⟨c,b,n,v,P,rfl,s3 _ _ ev,s3 _ _ eb,hw v (LA hv),hn,fun k H4 hk s4 e4=>?_⟩
  walk_at "rd"
  refine ⟨p,k,n,_,_,rfl,s4 _ _ e3,e4,hn,fun k2 H5 hk2 s5 e5=>?_⟩
  have s35:=s4.trans s5
  refine ⟨_,k2,rfl,s3.free (s4.free hk2),s3.trans s35,?_⟩
  rw [e5]
  congr 2
  refine qX fun i _=>?_
  rw [cf hv]
  exact ⟨fun h w hw=>(LR.mp hw).elim (h.1 w) fun z=>by rw [Ln.mp z]; exact h.2,fun h=>⟨fun w hw=>h w (MT _ hw),h v (by simp)⟩⟩
 ·rintro σ H3 ⟨u1,p,rfl,hp,s3,e3⟩
  rw [Lp,hlr,Me] at e3
  walk_at "rd"
  exact q _ _ hp s3 e3
noncomputable def IG (H:Hp) (a:Addr) (ps:List (List Int)):Prop:=∃ rs:List Addr,H a=some (.lst (rs.map V.ref))/\Paired (fun (r:Addr) (xs:List Int)=>H r=some (.tup (xs.map V.int))) rs ps
noncomputable def CQ (n:Nat) (ps:List (List Int)) (v:List Nat) (j:Nat):Prop:=ps.getD j []=ps.getD (v.getD j 0) []
noncomputable def wK (_:Fg):Sp:=fun vs H Q _=>∃ (a b:Addr) (n:Nat) (v:List Nat) (ps:List (List Int)),vs=[.ref a,.ref b]/\IG H a ps/\ps.length=n/\H b=some (.lst (ax v))/\Within n v/\n<=100000/\
 ∀ p H',H p=none->ap H H'->H' p=some (.lst (blV n (KN n v (CQ n ps v))))->Q (.ref p) H'
theorem xN {H:Hp} {rs:List Addr} {ps:List (List Int)} (h:Paired (fun (r:Addr) (xs:List Int)=>H r=some (.tup (xs.map V.int))) rs ps) {i:Nat} (hi:i < ps.length):∃ r,rs[i]?=some r/\H r=some (.tup ((ps.getD i []).map V.int)):=by
 have hl:=Mj h
 obtain ⟨r,hr⟩:∃ r,rs[i]?=some r:=⟨_,Lo (by omega)⟩
 obtain ⟨xs,hx,e⟩:=bL h hr
 refine ⟨r,hr,?_⟩
 rw [LJ,hx]
 exact e
noncomputable def vi (K:Fg):TS:=(aN (au (j4 K) [] E0 (aa (ac 1) (aa (bW (qK bS bS K (aa (ac 0) (aa (ac 1) ah))) (fun _ _ _ _=>(jg K 2 (ca (aq 0) (ca (aq 1) jf)))) (fun _ _ _ _=>bM) (fun _ _ _ _=>(tOp (wC (SqT K) false) (ac 0) (tOp (bR K) (ac 2) (ac 1)))) [none,none,some 0]) ah))))
section
open Classical
theorem IH (h:wK K vs H Q E):vi K { nx:=fun _ H'=>Q .non H',rt:=Q } (start ["piles","view"] vs) H:=by
 obtain ⟨a,b,n,v,ps,rfl,⟨rs,ea,hr⟩,hpl,eb,hv,hn,q⟩:=h
 show vi K _ [some _,some _] _
 unfold vi
 have hlr:rs.length=ps.length:=Mj hr
 have hvl:=hv.1
 walk_at "rd"
 refine qO (S1:=bS) (S2:=bS) (rs.map V.ref) (ax v) (SqL.of ea) (SqL.of eb) (fun H' s=>s.seq (SqL.of ea)) (fun H' s=>s.seq (SqL.of eb)) (by rw [Lp]; omega) (fun i acc _=>acc=blV i (CQ n ps v)) (fun _ _=>rfl) ?_ ?_
 ·rintro p hp C s' H' fp i x y T acc H2 H3 hx hy ⟨s2,e2,l2,rfl⟩ hT s3 e3 e4
  obtain ⟨c,hc,rfl⟩:=nY hx
  obtain ⟨z,hz,rfl⟩:=ja hy
  have hi:i < n:=by have:=(Ls.mp hz).1; omega
  obtain ⟨hz',hzn⟩:=pD hv hi
  rw [hz] at hz'
  have ez:z=v.getD i 0:=LF hz'
  obtain ⟨c',hc',ec⟩:=xN hr (i:=i) (by omega)
  rw [hc] at hc'
  cases hc'
  obtain ⟨d,hd,ed⟩:=xN hr (i:=z) (by omega)
  have s23:=s2.trans s3
  walk_at "rd"
  refine iA (SqT.of e3) ?_
  walk_at "rd"
  refine bA (SqL.of (s23 _ _ ea)) (v:=.ref d) (dz (by rw [LD,hd]; rfl)) ?_
  walk_at "rd"
  refine KO (SqT.of (s23 _ _ ec)) (SqT.of (s23 _ _ ed)) ?_
  refine bu.put hp (fun _ _ _ _ r _=>r) s23 e4 l2 ?_
  rw [fU]
  congr 3
  rw [ez]
  exact cde Iff.rfl
 ·rintro p acc H2 hp s2 e2 rfl
  rw [Lp,bi,hlr,hpl,hvl,P7] at e2
  walk_at "rd"
  exact ⟨b,p,n,v,_,rfl,s2 _ _ eb,e2,hv,hn,fun r H3 hr s3 e3=>q r H3 (s2.free hr) (s2.trans s3) e3⟩
end
end
section
open KF
noncomputable def TR (n:Nat) (ws vs:List (List Nat)):Sy->Nat->Prop
 | .holds w c,i=>(ws.getD i []).getD c 0=w
 | .sees h,i=>KN n (vs.getD h []) (CQ n (ws.map fun w=>ph w (vs.length:Nat)) (vs.getD h [])) i
 | .not s,i=>¬ TR n ws vs s i
 | .and s t,i=>TR n ws vs s i/\TR n ws vs t i
 | .or s t,i=>TR n ws vs s i\/TR n ws vs t i
 | .knows h s,i=>KN n (vs.getD h []) (TR n ws vs s) i
 | .all g s,i=>∀ v∈g.map (fun h=>vs.getD h []),KN n v (TR n ws vs s) i
 | .common g s,i=>∀ j,j < n->ek (lA n (g.map fun h=>vs.getD h [])) i j->TR n ws vs s j
theorem vj {n:Nat} {P:Nat->Nat->Prop} {r:List Nat} (h:qU n P r) {i j:Nat} (hi:i < n) (hj:j < n):r.getD j 0=r.getD i 0↔ek P i j:=by
 have ei:r[i]?=some (r.getD i 0):=by rw [LJ,Lo (by rw [h.len]; exact hi)]; rfl
 have ej:r[j]?=some (r.getD j 0):=by rw [LJ,Lo (by rw [h.len]; exact hj)]; rfl
 constructor
 ·intro e
  have c1:=h.conn _ _ ei
  have c2:=h.conn _ _ ej
  rw [e] at c2
  exact .trans c1 (.symm c2)
 ·intro c
  have:=h.same i j hi hj c
  rw [ei,ej] at this
  exact (LF this).symm
theorem Bg {n:Nat} {P:Nat->Nat->Prop} {r:List Nat} (h:qU n P r):Within n r:=⟨h.len,fun x hx=>by
 obtain ⟨i,hi⟩:=PL.mp hx
 have:=h.le i x hi
 have:=(Ls.mp hi).1
 rw [h.len] at this
 omega⟩
theorem II {n:Nat} {P:Nat->Nat->Prop} {r:List Nat} (h:qU n P r) {F:Nat->Prop} {i:Nat} (hi:i < n):KN n r F i↔∀ j,j < n->ek P i j->F j:=
 ⟨fun k j hj c=>k j hj ((vj h hi hj).mpr c),fun k j hj e=>k j hj ((vj h hi hj).mp e)⟩
theorem vk:∀ {g:List Nat} {m:Nat},g.Pairwise (· < ·)->(∀ k∈g,k < m)->g.length<=m:=by
 intro g m hp hk
 have go:∀ (l:List Nat) (lo:Nat),l.Pairwise (· < ·)->(∀ k∈l,lo<=k/\k < m)->l.length + lo<=m\/l=[]:=by
  intro l
  induction l with
  | nil=>intro _ _ _; exact .inr rfl
  | cons x r ih=>
   intro lo hp hk
   obtain ⟨h1,h2⟩:=Qx.mp hp
   have hx:=hk x (Lu ..)
   rcases ih (x + 1) h2 (fun k hkr=>⟨h1 k hkr,(hk k (LC _ hkr)).2⟩) with h | h
   ·left; rw [LX]; omega
   ·left; rw [h]; simp; omega
 rcases go g 0 hp (fun k h=>⟨Mv _,hk k h⟩) with h | h
 ·omega
 ·rw [h]; simp
structure Table (H:Hp) (a b:Addr) (c n:Nat) (ws vs:List (List Nat)):Prop where
 deals:bB H a ws
 len:ws.length=n
 cards:∀ w∈ws,w.length=c
 small:n<=100000
 few:c<=1000
 views:fH H b vs
 win:∀ v∈vs,Within n v
 hands:vs.length<=1000
theorem Table.same {H H':Hp} {a b:Addr} {c n:Nat} {ws vs:List (List Nat)} (t:Table H a b c n ws vs) (s:ap H H'):Table H' a b c n ws vs:=⟨t.deals.same' s,t.len,t.cards,t.small,t.few,t.views.same s,t.win,t.hands⟩
theorem j5 {ws:List (List Nat)} {i:Nat} {w:List Nat} (h:ws[i]?=some w):ws.getD i []=w:=by rw [LJ,h]; rfl
theorem sk {H:Hp} {b:Addr} {vs:List (List Nat)} (h:fH H b vs) {k:Nat} (hk:k < vs.length):∃ (rs:List Addr) (r:Addr),H b=some (.lst (rs.map V.ref))/\atI (rs.map V.ref) (k:Int)=some (.ref r)/\H r=some (.lst (ax (vs.getD k [])))/\vs.getD k []∈vs:=by
 obtain ⟨rs,e,hl,hr⟩:=pA h
 obtain ⟨r,hrk⟩:∃ r,rs[k]?=some r:=⟨_,Lo (by omega)⟩
 obtain ⟨v,hv,ev⟩:=hr k r hrk
 refine ⟨rs,r,e,dz (by rw [LD,hrk]; rfl),?_,?_⟩
 ·rw [j5 hv]; exact ev
 ·rw [j5 hv]; exact LA hv
noncomputable def bY (_:Fg) (m:Nat):Sp:=fun vals H Q _=>∃ (a b:Addr) (x:V) (c n:Nat) (ws vs:List (List Nat)) (s:Sy),vals=[.ref a,.ref b,x]/\Table H a b c n ws vs/\aP H x s/\s.Ok c vs.length/\s.words<=m/\
 ∀ p H',H p=none->ap H H'->H' p=some (.lst (blV n (TR n ws vs s)))->Q (.ref p) H'
noncomputable def kh (K:Fg) (n:Nat):TS:=(aw (aI (tOp (bU K) (ac 2) (tC (.int 0))) (aq 3))
 (aw (bD (bc (tOp rEq (ac 3) (tC (.str "holds")))) (aN (bW (dc K (ac 0)) (fun _ _ _ _=>(aq 0)) (fun _ _ _ _=>bM) (fun _ _ _ _=>(tOp rEq (tOp (bU K) (ac 0) (tOp (bU K) (ac 1) (tC (.int 2)))) (tOp (bU K) (ac 1) (tC (.int 1))))) [none,some 2])) bh)
 (aw (bD (bc (tOp rEq (ac 3) (tC (.str "sees")))) (aN (au (wK K) [] E0 (aa (bW (dc K (ac 0)) (fun _ _ _ _=>(aq 0)) (fun _ _ _ _=>bM) (fun _ _ _ _=>(au (iF K) [] E0 (aa (ac 0) (aa (tCB (eQ K) (aa (ac 1) ah)) ah)))) [none,some 1]) (aa (tOp (bR K) (ac 1) (tOp (bU K) (ac 2) (tC (.int 1)))) ah)))) bh)
 (aw (bD (bc (tOp rEq (ac 3) (tC (.str "not")))) (aN (bW (dc K (au (bY K n) [] E0 (aa (ac 0) (aa (ac 1) (aa (tOp (bU K) (ac 2) (tC (.int 1))) ah))))) (fun _ _ _ _=>(aq 0)) (fun _ _ _ _=>bM) (fun _ _ _ _=>(yN (ac 0))) [none])) bh)
 (aw (bD (bc (tOp rEq (ac 3) (tC (.str "and")))) (aN (au (si K) [] E0 (aa (au (bY K n) [] E0 (aa (ac 0) (aa (ac 1) (aa (tOp (bU K) (ac 2) (tC (.int 1))) ah)))) (aa (au (bY K n) [] E0 (aa (ac 0) (aa (ac 1) (aa (tOp (bU K) (ac 2) (tC (.int 2))) ah)))) ah)))) bh)
 (aw (bD (bc (tOp rEq (ac 3) (tC (.str "or")))) (aN (au (qY K) [] E0 (aa (au (bY K n) [] E0 (aa (ac 0) (aa (ac 1) (aa (tOp (bU K) (ac 2) (tC (.int 1))) ah)))) (aa (au (bY K n) [] E0 (aa (ac 0) (aa (ac 1) (aa (tOp (bU K) (ac 2) (tC (.int 2))) ah)))) ah)))) bh)
 (aw (aI (au (bY K n) [] E0 (aa (ac 0) (aa (ac 1) (aa (tOp (bU K) (ac 2) (tC (.int 2))) ah)))) (aq 4))
 (aw (bD (bc (tOp rEq (ac 3) (tC (.str "knows")))) (aN (au (j4 K) [] E0 (aa (tOp (bR K) (ac 1) (tOp (bU K) (ac 2) (tC (.int 1)))) (aa (ac 4) ah)))) bh)
 (aw (aI (bW (wv K (tOp (bU K) (ac 2) (tC (.int 1)))) (fun _ _ _ _=>(aq 0)) (fun _ _ _ _=>bM) (fun _ _ _ _=>(tOp (bR K) (ac 1) (ac 0))) [none,some 1]) (aq 5))
 (aw (bD (bc (tOp rEq (ac 3) (tC (.str "all")))) (aN (au (jr K) [] E0 (aa (ac 5) (aa (ac 4) ah)))) bh)
 (aN (au (j4 K) [] E0 (aa (au (qW K) [] E0 (aa (tCB (eQ K) (aa (ac 0) ah)) (aa (ac 5) ah))) (aa (ac 4) ah))))))))))))))
noncomputable abbrev Bh:List Str:=["deals","views","S","word","inner","some"]
theorem qZ {K:Fg} {vs:List V} {H:Hp} {Q:VK} {E:XK} (h:bY K 0 vs H Q E):False:=by
 obtain ⟨a,b,x,c,n,ws,vs,s,rfl,_,_,_,h,_⟩:=h
 have:=s.words_pos
 omega
theorem CS {H:Hp} {rs:List Addr} {ps:List (List Int)} {r:Addr} {xs:List Int} (h:Paired (fun (r:Addr) (xs:List Int)=>H r=some (.tup (xs.map V.int))) rs ps) (e:H r=some (.tup (xs.map V.int))):Paired (fun (r:Addr) (xs:List Int)=>H r=some (.tup (xs.map V.int))) (rs++[r]) (ps++[xs]):=by
 induction h with
 | nil=>exact .cons e .nil
 | cons a _ ih=>exact .cons a ih
theorem CT {H:Hp} {rs:List Addr} {vs:List (List Nat)} {r:Addr} {v:List Nat} (h:Paired (fun (r:Addr) (v:List Nat)=>H r=some (.lst (ax v))) rs vs) (e:H r=some (.lst (ax v))):Paired (fun (r:Addr) (v:List Nat)=>H r=some (.lst (ax v))) (rs++[r]) (vs++[v]):=by
 induction h with
 | nil=>exact .cons e .nil
 | cons a _ ih=>exact .cons a ih
theorem E7 {K:Fg} {H:Hp} {b e:Addr} {g:List Nat} {vs:List (List Nat)} {Q:VK} {σ₀:St} {gg:CF TG} {tt:CF TT} {te:CF TE} (hV:fH H b vs) (hg:∀ k∈g,k < vs.length) (hgl:g.length<=1000) (eg:H e=some (.tup (ax g)))
  (hs:∀ C s' H' fp (k:Nat) (rs:List Addr) (r:Addr) H2 (R:V->Hp->Prop) (N:Hp->Prop),H2 b=some (.lst (rs.map V.ref))->atI (rs.map V.ref) (k:Int)=some (.ref r)->R (.ref r) H2->gg C s' H' fp (.int (k:Int)) σ₀ H2 fun σ2 H3=>tt C s' H' fp σ2 H3 fun c H4=>if c=true then te C s' H' fp σ2 H4 fun y H5=>R y H5 else N H4)
  (q:∀ p H',H p=none->ap H H'->fH H' p (g.map fun h=>vs.getD h [])->Q (.ref p) H'):
  ∃ a',V.ref e=.ref a'/\(∃ xs,SqT K H a' xs)/\∀ p,H p=none->∃ W:Nat->Nat->List V->Hp->Prop,(∃ m,W 0 m [] (upd H p (.lst [])))/\∀ C s' H' fp,cB (Itt K a') (gg C s' H' fp) (tt C s' H' fp) (te C s' H' fp) σ₀ p Q W:=by
 obtain ⟨rs,eb,hl,hr⟩:=pA hV
 refine ⟨e,rfl,⟨_,SqT.of eg⟩,fun p hp=>FU (xs:=ax g) (fun i acc H2=>ap H H2/\H2 p=some (.lst acc)/\acc.length<=i/\∃ ts:List Addr,acc=ts.map V.ref/\Paired (fun (r:Addr) (v:List Nat)=>H r=some (.lst (ax v))) ts ((g.take i).map fun h=>vs.getD h [])) ⟨bf hp _,az,Lr _,[],rfl,.nil⟩ (fun i acc H2 _ c=>⟨c.2.1,c.2.2.1⟩) (fun i acc H2 _ c=>c.1.tup (SqT.of eg)) (by rw [bi,Lw]; omega) (fun C s' H' fp i x acc H2 hx c=>?_) fun acc H2 c=>?_⟩
 ·obtain ⟨k,hk,rfl⟩:=ja hx
  have hkm:=hg k (LA hk)
  obtain ⟨r,hrk⟩:∃ r,rs[k]?=some r:=⟨_,Lo (by omega)⟩
  obtain ⟨v,hv,ev⟩:=hr k r hrk
  obtain ⟨s2,e2,l2,ts,rfl,ht⟩:=c
  refine hs C s' H' fp k rs r H2 _ _ (s2 _ _ eb) (dz (by rw [LD,hrk]; rfl)) ⟨e2,s2.upd hp _,az,by simp at l2 ⊢; omega,ts++[r],by simp,?_⟩
  rw [cf hk,LS]
  exact CT ht (by show H r=some (.lst (ax (vs.getD k []))); rw [j5 hv]; exact ev)
 ·obtain ⟨s2,e2,l2,ts,rfl,ht⟩:=c
  rw [bi,Me] at ht
  exact q p H2 hp s2 ⟨ts,e2,Paired.mapP ht fun r v h=>s2 _ _ h⟩
section
open Classical
theorem zU {K:Fg} {m:Nat} {vals:List V} {H:Hp} {Q:VK} {E:XK} (h:bY K (m + 1) vals H Q E):kh K m { nx:=fun _ H'=>Q .non H',rt:=Q } (start Bh vals) H:=by
 obtain ⟨a,b,x,c,n,ws,vs,s,rfl,T,hS,hok,hw,q⟩:=h
 show kh K m _ [some _,some _,some _,none,none,none] _
 unfold kh
 obtain ⟨rs,ea,hr⟩:=id T.deals
 have hlr:rs.length=ws.length:=Mj hr
 have hn:=T.small
 have hlen:=T.len
 cases s with
 | holds w k=>
  obtain ⟨t,rfl,et⟩:=hS
  obtain ⟨hwh,hkc⟩:=hok
  walk_at "rd"
  refine ba (SqT.of et) (i:=0) rfl ?_
  walk_at "rd"
  refine dY rfl ?_
  walk_at "rd"
  refine gp (rs.map V.ref) (SqL.of ea) (by rw [Lp]; omega) (fun i acc _=>acc=blV i (TR n ws vs (.holds w k))) (fun _ _=>rfl) ?_ ?_
  ·rintro p hp C s' H' fp i x acc H2 hx ⟨s2,e2,l2,rfl⟩
   obtain ⟨d,hd,rfl⟩:=nY hx
   obtain ⟨u,hu,eu⟩:=bL hr hd
   have huc:=T.cards u (LA hu)
   have e1:u[k]?=some (u.getD k 0):=by rw [LJ,Lo (by omega)]; rfl
   walk_at "rd"
   refine ba (SqT.of (s2 _ _ et)) (i:=2) rfl ?_
   walk_at "rd"
   refine ba (SqT.of (s2 _ _ eu)) (lX e1) ?_
   walk_at "rd"
   refine ba (SqT.of (s2 _ _ et)) (i:=1) rfl ?_
   walk_at "rd"
   refine bu.put hp (fun _ _ _ _ r _=>r) s2 e2 l2 ?_
   rw [fU]
   congr 3
   refine cde ?_
   show _↔(ws.getD i []).getD k 0=w
   rw [j5 hu]
   omega
  ·rintro p acc H2 hp s2 e2 rfl
   rw [Lp,hlr,hlen] at e2
   exact q _ _ hp s2 e2
 | sees k=>
  obtain ⟨t,rfl,et⟩:=hS
  have hk:k < vs.length:=hok
  walk_at "rd"
  refine ba (SqT.of et) (i:=0) rfl ?_
  walk_at "rd"
  refine aX (by decide) ?_
  walk_at "rd"
  refine dY rfl ?_
  walk_at "rd"
  obtain ⟨vrs,evb,hvl,_⟩:=pA T.views
  refine gp (rs.map V.ref) (SqL.of ea) (by rw [Lp]; omega) (fun i acc H2=>∃ ts:List Addr,acc=ts.map V.ref/\Paired (fun (r:Addr) (xs:List Int)=>H2 r=some (.tup (xs.map V.int))) ts ((ws.take i).map fun w=>ph w (vs.length:Nat))) (fun _ _=>⟨[],rfl,.nil⟩) ?_ ?_
  ·rintro p hp C s' H' fp i x acc H2 hx ⟨s2,e2,l2,ts,rfl,ht⟩
   obtain ⟨d,hd,rfl⟩:=nY hx
   obtain ⟨u,hu,eu⟩:=bL hr hd
   have huc:=T.cards u (LA hu)
   have:=T.few
   walk_at "rd"
   refine rZ (SqL.of (s2 _ _ evb)) ?_
   walk_at "rd"
   rw [Lp,hvl]
   refine ⟨d,u.map fun (s:Nat)=>((s:Nat):Int),(vs.length:Nat),rfl,by rw [<-dm]; exact SqT.of (s2 _ _ eu),by rw [Lp]; omega,fun r H3 s3 e3=>?_⟩
   rw [Lp] at e3
   refine bu.put hp (fun _ _ _ _ ⟨ts,e,r⟩ k=>⟨ts,e,Paired.mapP r fun _ _ z=>k _ _ z⟩) (s2.trans s3) (s3 _ _ e2) l2 ⟨ts++[r],by simp,?_⟩
   rw [cf hu,LS]
   exact CS (Paired.mapP ht fun _ _ z=>s3 _ _ z) e3
  ·rintro p acc H2 hp s2 e2 ⟨ts,rfl,ht⟩
   rw [Lp,hlr,Me] at ht
   walk_at "rd"
   refine ba (SqT.of (s2 _ _ et)) (i:=1) rfl ?_
   walk_at "rd"
   obtain ⟨vr,r,e1,e3,e4,e5⟩:=sk (T.views.same s2) hk
   refine bA (SqL.of e1) e3 ?_
   walk_at "rd"
   exact ⟨p,r,n,vs.getD k [],_,rfl,⟨ts,e2,ht⟩,by rw [Lp]; exact hlen,e4,T.win _ e5,hn,fun p2 H3 hp2 s3 e6=>q p2 H3 (s2.free hp2) (s2.trans s3) e6⟩
 | not s=>
  obtain ⟨t,y,rfl,et,hy⟩:=hS
  have hw':s.words<=m:=by simp only [Sy.words] at hw; omega
  walk_at "rd"
  refine ba (SqT.of et) (i:=0) rfl ?_
  walk_at "rd"
  refine aX (by decide) ?_
  walk_at "rd"
  refine aX (by decide) ?_
  walk_at "rd"
  refine dY rfl ?_
  walk_at "rd"
  refine ba (SqT.of et) (i:=1) rfl ?_
  walk_at "rd"
  refine ⟨a,b,y,c,n,ws,vs,s,rfl,T,hy,hok,hw',fun l H1 hl s1 e1=>?_⟩
  walk_at "rd"
  refine gp _ (SqL.of e1) (by rw [cP]; omega) (fun i acc _=>acc=blV i (TR n ws vs (.not s))) (fun _ _=>rfl) ?_ ?_
  ·rintro p hp C s' H' fp i x acc H2 hx ⟨s2,e2,l2,rfl⟩
   obtain ⟨hi,rfl⟩:=n9 hx
   walk_at "rd"
   refine bu.put hp (fun _ _ _ _ r _=>r) s2 e2 l2 ?_
   rw [fU]
   congr 3
   by_cases z:TR n ws vs s i
   ·rw [decide_eq_true z]; exact cdf fun h=>h z
   ·rw [decide_eq_false z]; exact cdt z
  ·rintro p acc H2 hp s2 e2 rfl
   rw [cP] at e2
   exact q _ _ (s1.free hp) (s1.trans s2) e2
 | and s t=>
  obtain ⟨u,y,z,rfl,et,hy,hz⟩:=hS
  have hw1:s.words<=m:=by simp only [Sy.words] at hw; omega
  have hw2:t.words<=m:=by simp only [Sy.words] at hw; omega
  walk_at "rd"
  refine ba (SqT.of et) (i:=0) rfl ?_
  walk_at "rd"
  refine aX (by decide) ?_
  walk_at "rd"
  refine aX (by decide) ?_
  walk_at "rd"
  refine aX (by decide) ?_
  walk_at "rd"
  refine dY rfl ?_
  walk_at "rd"
  refine ba (SqT.of et) (i:=1) rfl ?_
  walk_at "rd"
  refine ⟨a,b,y,c,n,ws,vs,s,rfl,T,hy,hok.1,hw1,fun l H1 hl s1 e1=>?_⟩
  walk_at "rd"
  refine ba (SqT.of (s1 _ _ et)) (i:=2) rfl ?_
  walk_at "rd"
  refine ⟨a,b,z,c,n,ws,vs,t,rfl,T.same s1,hz.keep s1.keep,hok.2,hw2,fun l2 H2 hl2 s2 e2=>?_⟩
  walk_at "rd"
  exact ⟨l,l2,n,_,_,rfl,s2 _ _ e1,e2,hn,fun p H3 hp s3 e3=>q p H3 (s1.free (s2.free hp)) ((s1.trans s2).trans s3) e3⟩
 | or s t=>
  obtain ⟨u,y,z,rfl,et,hy,hz⟩:=hS
  have hw1:s.words<=m:=by simp only [Sy.words] at hw; omega
  have hw2:t.words<=m:=by simp only [Sy.words] at hw; omega
  walk_at "rd"
  refine ba (SqT.of et) (i:=0) rfl ?_
  walk_at "rd"
  refine aX (by decide) ?_
  walk_at "rd"
  refine aX (by decide) ?_
  walk_at "rd"
  refine aX (by decide) ?_
  walk_at "rd"
  refine aX (by decide) ?_
  walk_at "rd"
  refine dY rfl ?_
  walk_at "rd"
  refine ba (SqT.of et) (i:=1) rfl ?_
  walk_at "rd"
  refine ⟨a,b,y,c,n,ws,vs,s,rfl,T,hy,hok.1,hw1,fun l H1 hl s1 e1=>?_⟩
  walk_at "rd"
  refine ba (SqT.of (s1 _ _ et)) (i:=2) rfl ?_
  walk_at "rd"
  refine ⟨a,b,z,c,n,ws,vs,t,rfl,T.same s1,hz.keep s1.keep,hok.2,hw2,fun l2 H2 hl2 s2 e2=>?_⟩
  walk_at "rd"
  exact ⟨l,l2,n,_,_,rfl,s2 _ _ e1,e2,hn,fun p H3 hp s3 e3=>q p H3 (s1.free (s2.free hp)) ((s1.trans s2).trans s3) e3⟩
 | knows k s=>
  obtain ⟨t,y,rfl,et,hy⟩:=hS
  have hw':s.words<=m:=by simp only [Sy.words] at hw; omega
  walk_at "rd"
  refine ba (SqT.of et) (i:=0) rfl ?_
  walk_at "rd"
  refine aX (by decide) ?_
  walk_at "rd"
  refine aX (by decide) ?_
  walk_at "rd"
  refine aX (by decide) ?_
  walk_at "rd"
  refine aX (by decide) ?_
  walk_at "rd"
  refine aX (by decide) ?_
  walk_at "rd"
  refine ba (SqT.of et) (i:=2) rfl ?_
  walk_at "rd"
  refine ⟨a,b,y,c,n,ws,vs,s,rfl,T,hy,hok.2,hw',fun l H1 hl s1 e1=>?_⟩
  walk_at "rd"
  refine dY rfl ?_
  walk_at "rd"
  refine ba (SqT.of (s1 _ _ et)) (i:=1) rfl ?_
  walk_at "rd"
  obtain ⟨vr,r,e2,e3,e4,e5⟩:=sk (T.views.same s1) hok.1
  refine bA (SqL.of e2) e3 ?_
  walk_at "rd"
  exact ⟨r,l,n,vs.getD k [],_,rfl,e4,e1,T.win _ e5,hn,fun p2 H3 hp2 s3 e6=>q p2 H3 (s1.free hp2) (s1.trans s3) e6⟩
 | all g s=>
  obtain ⟨t,u,y,rfl,et,eu,hy⟩:=hS
  have hw':s.words<=m:=by simp only [Sy.words] at hw; omega
  obtain ⟨⟨hpw,hg⟩,hok'⟩:=hok
  walk_at "rd"
  refine ba (SqT.of et) (i:=0) rfl ?_
  walk_at "rd"
  refine aX (by decide) ?_
  walk_at "rd"
  refine aX (by decide) ?_
  walk_at "rd"
  refine aX (by decide) ?_
  walk_at "rd"
  refine aX (by decide) ?_
  walk_at "rd"
  refine aX (by decide) ?_
  walk_at "rd"
  refine ba (SqT.of et) (i:=2) rfl ?_
  walk_at "rd"
  refine ⟨a,b,y,c,n,ws,vs,s,rfl,T,hy,hok',hw',fun l H1 hl s1 e1=>?_⟩
  walk_at "rd"
  refine aX (by decide) ?_
  walk_at "rd"
  refine ba (SqT.of (s1 _ _ et)) (i:=1) rfl ?_
  refine E7 (T.views.same s1) hg (L8 (vk hpw hg) T.hands) (s1 _ _ eu) ?_ ?_
  ·intro C s' H' fp k rs r H2 R N e2 e3 hR
   walk_at "rd"
   exact bA (SqL.of e2) e3 hR
  ·intro p H2 hp s2 V2
   walk_at "rd"
   refine dY rfl ?_
   walk_at "rd"
   refine ⟨p,l,n,_,_,rfl,V2,s2 _ _ e1,?_,hn,fun p2 H3 hp2 s3 e6=>q p2 H3 (s1.free (s2.free hp2)) ((s1.trans s2).trans s3) e6⟩
   intro v hv
   obtain ⟨k,hk,rfl⟩:=MC.mp hv
   obtain ⟨_,_,_,_,_,e5⟩:=sk T.views (hg k hk)
   exact T.win _ e5
 | common g s=>
  obtain ⟨t,u,y,rfl,et,eu,hy⟩:=hS
  have hw':s.words<=m:=by simp only [Sy.words] at hw; omega
  obtain ⟨⟨hpw,hg⟩,hok'⟩:=hok
  walk_at "rd"
  refine ba (SqT.of et) (i:=0) rfl ?_
  walk_at "rd"
  refine aX (by decide) ?_
  walk_at "rd"
  refine aX (by decide) ?_
  walk_at "rd"
  refine aX (by decide) ?_
  walk_at "rd"
  refine aX (by decide) ?_
  walk_at "rd"
  refine aX (by decide) ?_
  walk_at "rd"
  refine ba (SqT.of et) (i:=2) rfl ?_
  walk_at "rd"
  refine ⟨a,b,y,c,n,ws,vs,s,rfl,T,hy,hok',hw',fun l H1 hl s1 e1=>?_⟩
  walk_at "rd"
  refine aX (by decide) ?_
  walk_at "rd"
  refine ba (SqT.of (s1 _ _ et)) (i:=1) rfl ?_
  refine E7 (T.views.same s1) hg (L8 (vk hpw hg) T.hands) (s1 _ _ eu) ?_ ?_
  ·intro C s' H' fp k rs r H2 R N e2 e3 hR
   walk_at "rd"
   exact bA (SqL.of e2) e3 hR
  ·intro p H2 hp s2 V2
   have s12:=s1.trans s2
   have hwin:∀ v∈g.map (fun h=>vs.getD h []),Within n v:=by
    intro v hv
    obtain ⟨k,hk,rfl⟩:=MC.mp hv
    obtain ⟨_,_,_,_,_,e5⟩:=sk T.views (hg k hk)
    exact T.win _ e5
   walk_at "rd"
   refine aX (by decide) ?_
   walk_at "rd"
   refine rZ (SqL.of (s12 _ _ ea)) ?_
   walk_at "rd"
   rw [Lp,hlr,hlen]
   refine ⟨n,p,_,rfl,V2,hwin,hn,fun r j H3 hj hjn s3 e3=>?_⟩
   walk_at "rd"
   refine ⟨j,l,n,r,_,rfl,e3,s3 _ _ (s2 _ _ e1),Bg hj,hn,fun p2 H4 hp2 s4 e4=>q p2 H4 (s1.free (s2.free (s3.free hp2))) ((s12.trans s3).trans s4) ?_⟩
   rw [e4]
   congr 2
   exact qX fun i hi=>II hj hi
end
end
section
variable {K:Fg} {vs:List V} {H:Hp} {Q:VK} {E:XK}
noncomputable def kN (v:List Nat) (as:List IA):List Nat:=bp (v.zip as)
noncomputable def zV (p:Nat×IA):MK:=.inr [.inl (some ((p.1:Nat):Int)),.inl p.2]
theorem Go (a b:Nat×IA) (e:zV a=zV b):a=b:=by
 have h:=OY e
 injection h with h1 h2
 injection h1 with h1
 injection h1 with h1
 injection h2 with h2 _
 injection h2 with h2
 obtain ⟨a1,a2⟩:=a
 obtain ⟨b1,b2⟩:=b
 simp only at h1 h2
 rw [show a1=b1 by omega,h2]
theorem Bi (v:List Nat) (as:List IA):bp ((v.zip as).map zV)=kN v as:=tm (f:=zV) Go _
noncomputable def t9 (_:Fg):Sp:=fun vs H Q _=>∃ (a b:Addr) (v:List Nat) (ys:List V) (as:List IA),vs=[.ref a,.ref b]/\H a=some (.lst (ax v))/\H b=some (.lst ys)/\ys.map iaV=as.map some/\v.length=as.length/\v.length<=100000/\
 ∀ p H',H p=none->ap H H'->H' p=some (.lst (ax (kN v as)))->Q (.ref p) H'
theorem zW {H:Hp}:∀ {ts:List Addr} {v:List Nat} {ys:List V} {as:List IA},sg H ts ((ax v).zip ys)->ys.map iaV=as.map some->Paired (dh H) (ts.map V.ref) ((v.zip as).map zV)
 | ts,[],ys,as,h,_=>by
  have e:(ax []).zip ys=[]:=rfl
  rw [e] at h
  cases h
  rw [show ([]:List Nat).zip as=[] from rfl]
  exact .nil
 | ts,x :: v,[],as,h,e=>by
  have z:(ax (x :: v)).zip ([]:List V)=[]:=by simp
  rw [z] at h
  cases h
  have:as=[]:=by
   cases as with
   | nil=>rfl
   | cons _ _=>simp at e
  rw [this]
  simp only [List.zip_nil_right]
  exact .nil
 | ts,x :: v,y :: ys,as,h,e=>by
  cases as with
  | nil=>simp at e
  | cons a as=>
   rw [LI,LI] at e
   injection e with e1 e2
   have z:(ax (x :: v)).zip (y :: ys)=(.int (x:Int),y) :: (ax v).zip ys:=rfl
   rw [z] at h
   cases h with
   | cons h t=>
    rw [MW,LI,LI]
    exact .cons ⟨_,_,rfl,h,.cons rfl (.cons e1 .nil)⟩ (zW t e2)
noncomputable def sn (K:Fg):TS:=(aN (au (ff K) [] E0 (aa (CN bS bS K (aa (ac 0) (aa (ac 1) ah))) ah)))
theorem Gp (h:t9 K vs H Q E):sn K { nx:=fun _ H'=>Q .non H',rt:=Q } (start ["view","values"] vs) H:=by
 obtain ⟨a,b,v,ys,as,rfl,ea,eb,hi,hl,hn,q⟩:=h
 show sn K _ [some _,some _] _
 unfold sn
 walk_at "rd"
 refine J7 ?_
 walk_at "rd"
 refine ⟨a,b,ax v,ys,rfl,SqL.of ea,SqL.of eb,by rw [bi]; omega,fun p H1 hp s1 ⟨ts,e1,pt⟩=>?_⟩
 walk_at "rd"
 refine ⟨p,_,_,true,rfl,e1,zW pt hi,?_,by rw [Lp,P6]; omega,fun p2 H2 hp2 s2 e2=>?_⟩
 ·intro k hk
  obtain ⟨w,_,rfl⟩:=MC.mp hk
  rfl
 ·rw [Bi] at e2
  exact q _ _ (s1.free hp2) (s1.trans s2) e2
end
end L2
section
namespace L2
open KF
section
variable {α β γ:Type} [DecidableEq α] [DecidableEq β] [DecidableEq γ]
theorem re {ks:List α} {i:Nat} {k:α} (h:ks[i]?=some k):ks[ks.idxOf k]?=some k:=by
 rw [Lo (Qu (LA h)),List.getElem_idxOf]
theorem kO {ks:List α} {i:Nat} {k:α} (h:ks[i]?=some k):(bp ks)[i]?=some (ks.idxOf k):=by unfold bp; rw [LD,h]; rfl
theorem vm {ks:List α} {j:Nat} {k:α} (h:ks[j]?=some k):ks.idxOf k<=j:=by obtain ⟨_,_,_,hle⟩:=uQ (kO h); exact hle
theorem vn {l:List α} {i:Nat} (h:i < l.length):∃ x,l[i]?=some x:=⟨_,Lo h⟩
theorem Bj {ks:List α} {ls:List β} (hl:ks.length=ls.length) (h:∀ i j,i < ks.length->j < ks.length->(ks[i]?=ks[j]?↔ls[i]?=ls[j]?)):bp ks=bp ls:=by
 refine NW fun i=>?_
 by_cases hi:i < ks.length
 ·obtain ⟨k,hk⟩:=vn hi
  obtain ⟨l,hL⟩:=vn (l:=ls) (i:=i) (by omega)
  rw [kO hk,kO hL]
  have a1:=re hk
  have b1:=re hL
  have la:=vm hk
  have lb:=vm hL
  have e1:ls[ks.idxOf k]?=some l:=by rw [<-hL]; exact ((h _ _ (by omega) hi).mp (a1.trans hk.symm))
  have e2:ks[ls.idxOf l]?=some k:=by rw [<-hk]; exact ((h _ _ (by omega) hi).mpr (b1.trans hL.symm))
  have q1:=vm e1
  have q2:=vm e2
  congr 1
  omega
 ·rw [Mb (by rw [dZ]; omega),Mb (by rw [dZ]; omega)]
theorem E8 {ks:List α} {i j:Nat} (hi:i < ks.length) (hj:j < ks.length):(bp ks)[i]?=(bp ks)[j]?↔ks[i]?=ks[j]?:=by
 obtain ⟨k,hk⟩:=vn hi
 obtain ⟨l,hL⟩:=vn hj
 rw [kO hk,kO hL,hk,hL]
 constructor
 ·intro e
  rw [<-re hk,<-re hL,LF e]
 ·intro e
  rw [LF e]
theorem tI (ks:List α):bp (bp ks)=bp ks:=Bj (dZ ks) fun i j hi hj=>by rw [dZ] at hi hj; exact E8 hi hj
theorem E9 {ks:List α} {i m:Nat} (h:(bp ks)[i]?=some m):ks[m]?=ks[i]?/\m<=i/\i < ks.length:=by
 obtain ⟨k,hk,rfl,hle⟩:=uQ h
 exact ⟨(re hk).trans hk.symm,hle,(Ls.mp hk).1⟩
end
end L2
end
namespace L2
open PySem PyProof.Rows
section
open KF
open Classical in
noncomputable def blA (n:Nat) (P:Nat->Prop):List IA:=(LU n).map fun i=>some (if decide (P i) then 1 else 0)
theorem BV (n:Nat) (P:Nat->Prop):(blA n P).length=n:=by unfold blA; simp
theorem Kc (n:Nat) (P:Nat->Prop):(blV n P).map iaV=(blA n P).map some:=by
 unfold blV blA
 rw [N5,N5]
 exact NJ fun i _=>rfl
open Classical in
theorem rf {α:Type} [DecidableEq α] {ks:List α} {n:Nat} (h:ks.length=n):Within n (bp ks):=⟨by rw [dZ,h],fun x hx=>by
 obtain ⟨i,hi⟩:=PL.mp hx
 obtain ⟨_,h1,h2⟩:=E9 hi
 omega⟩
theorem rg {n:Nat} {v:List Nat} {as:List IA} (hv:Within n v) (hl:as.length=n):Within n (kN v as):=rf (by rw [P6,hv.1,hl,P7])
theorem Fa (v:List Nat) (as:List IA):bp (kN v as)=kN v as:=tI _
noncomputable def lrn (vw:List (List Nat)) (g:List Nat) (as:List IA):List (List Nat):=g.foldl (fun w h=>w.set h (kN (w.getD h []) as)) vw
theorem wL (as:List IA):∀ (g:List Nat) (vw:List (List Nat)),(lrn vw g as).length=vw.length
 | [],_=>rfl
 | h :: g,vw=>by
  show (lrn (vw.set h _) g as).length=_
  rw [wL as g,NH]
theorem Gq (vw:List (List Nat)) (g:List Nat) (h:Nat) (as:List IA):lrn vw (g++[h]) as=(lrn vw g as).set h (kN ((lrn vw g as).getD h []) as):=by
 unfold lrn
 rw [QS]
 rfl
theorem so {as:List IA} {P:List Nat->Prop} (hs:∀ v,P v->P (kN v as)):∀ (g:List Nat) (vw:List (List Nat)),(∀ h∈g,h < vw.length)->(∀ v∈vw,P v)->∀ v∈lrn vw g as,P v
 | [],_,_,h=>h
 | k :: g,vw,hk,h=>by
  show ∀ v∈lrn (vw.set k _) g as,P v
  refine so hs g _ (fun x hx=>by rw [NH]; exact hk x (LC _ hx)) fun v hv=>?_
  rcases List.mem_or_eq_of_mem_set hv with z | z
  ·exact h v z
  ·rw [z]
   have hl:=hk k Lu
   refine hs _ (h _ ?_)
   rw [LJ,Lo hl]
   exact Oq hl
set_option genInjectivity false in
structure TM where
 c:Nat
 ss:List Nat
 vw:List (List Nat)
 ds:List (List Nat×List V)
noncomputable def TM.ws (T:TM):List (List Nat):=KM.cG (T.ss++[T.c - T.ss.sum]) T.c
noncomputable def TM.n (T:TM):Nat:=T.ws.length
noncomputable def TM.k (T:TM):Nat:=T.ss.length
noncomputable def TM.tr (T:TM) (s:Sy):Nat->Prop:=TR T.n T.ws T.vw s
noncomputable def TM.learn (T:TM) (g:List Nat) (as:List IA) (ys:List V):TM:={ T with vw:=lrn T.vw g as,ds:=T.ds++[(g,ys)] }
noncomputable def TM.word (T:TM) (g:List Nat) (s:Sy):TM:=T.learn g (blA T.n (T.tr s)) (blV T.n (T.tr s))
noncomputable def TM.begun (c:Nat) (ss:List Nat):TM:=⟨c,ss,(LU ss.length).map fun i=>lY (KM.cG (ss++[c - ss.sum]) c) ((i:Nat):Int),[]⟩
structure TM.Ok (T:TM):Prop where
 pk:pb T.c T.ss
 few:KM.cx T.c T.ss<=2000
 len:T.vw.length=T.k
 win:∀ v∈T.vw,Within T.n v
 can:∀ v∈T.vw,bp v=v
theorem TM.Ok.n2 {T:TM} (h:T.Ok):T.n<=2000:=by
 show (KM.cG _ _).length<=_
 rw [KM.nD h.pk.sum]
 exact h.few
theorem TM.Ok.cards {T:TM} (h:T.Ok):∀ w∈T.ws,w.length=T.c:=fun w hw=>(KM.iD _ T.c w hw).len
theorem TM.Ok.begun {c:Nat} {ss:List Nat} (pk:pb c ss) (few:KM.cx c ss<=2000):(TM.begun c ss).Ok:=⟨pk,few,by show (List.map _ _).length=ss.length; rw [Lp,Nj],fun v hv=>by
 obtain ⟨i,_,rfl⟩:=MC.mp hv
 exact rf (by rw [Lp]; rfl),fun v hv=>by
 obtain ⟨i,_,rfl⟩:=MC.mp hv
 exact tI _⟩
theorem TM.Ok.learn {T:TM} (h:T.Ok) {g:List Nat} {as:List IA} {ys:List V} (hg:∀ x∈g,x < T.k) (hl:as.length=T.n):(T.learn g as ys).Ok:=
 ⟨h.pk,h.few,by show (lrn T.vw g as).length=_; rw [wL]; exact h.len,so (fun v hv=>rg hv hl) g T.vw (by rw [h.len]; exact hg) h.win,so (fun v _=>Fa v as) g T.vw (by rw [h.len]; exact hg) h.can⟩
theorem TM.Ok.word {T:TM} (h:T.Ok) {g:List Nat} {s:Sy} (hg:∀ x∈g,x < T.k):(T.word g s).Ok:=h.learn hg (BV _ _)
end
section
variable {K:Fg} {vs:List V} {H:Hp} {Q:VK} {E:XK}
theorem IJ {i lo hi:Int} (h1:lo<=i) (h2:i<=hi):cD (.int i) lo hi=true:=by
 show (decide (lo<=i) && decide (i<=hi))=true
 rw [decide_eq_true h1,decide_eq_true h2]
 rfl
noncomputable def cq (_:Fg):Sp:=fun vs H Q _=>∃ (i b:Int),vs=[.int i,.int b]/\Q (.bl (decide (0<=i) && decide (i<=b - 1))) H
noncomputable def lB (K:Fg):TS:=(aN (au (eh K) [] E0 (aa (ac 0) (aa (tC (.int 0)) (aa (tOp (rI0 fun i j=>.int (i - j)) (ac 1) (tC (.int 1))) ah)))))
theorem Bk (h:cq K vs H Q E):lB K { nx:=fun _ H'=>Q .non H',rt:=Q } (start ["thing","bound"] vs) H:=by
 obtain ⟨i,b,rfl,q⟩:=h
 show lB K _ [some _,some _] _
 unfold lB
 walk_at "rd"
 exact ⟨.int i,0,b - 1,rfl,fC.int _,q⟩
theorem fh {i b:Int} (h1:0<=i) (h2:i<=b):(decide (0<=i) && decide (i<=b))=true:=by rw [decide_eq_true h1,decide_eq_true h2]; rfl
noncomputable def js (_:Fg):Sp:=fun vs H Q _=>∃ (a:Addr) (g:List Nat) (h:Nat),vs=[.ref a,.int h]/\H a=some (.tup (ax g))/\g.Pairwise (· < ·)/\(∀ k∈g,k < h)/\Q (.bl true) H
noncomputable def ki (K:Fg):TS:=(aw (bD (iu (tB (tCB (lT K) (aa (ac 0) (aa (tC (.ty "tuple")) ah))))) (aN (tC (.bl false))) bh)
 (aw (aI (tC (.int 0)) (aq 2))
 (aw (dI (wv K (ac 0)) (aq 3) (aw (bD (iu (tB (au (eh K) [] E0 (aa (ac 3) (aa (ac 2) (aa (tOp (rI0 fun i j=>.int (i - j)) (ac 1) (tC (.int 1))) ah)))))) (aN (tC (.bl false))) bh)
 (aI (tOp (rI0 fun i j=>.int (i + j)) (ac 3) (tC (.int 1))) (aq 2))))
 (aN (tC (.bl true))))))
theorem zX (h:js K vs H Q E):ki K { nx:=fun _ H'=>Q .non H',rt:=Q } (start ["thing","hands","least","hand"] vs) H:=by
 obtain ⟨a,g,h,rfl,e,pw,hg,q⟩:=h
 show ki K _ [some _,some _,none,none] _
 unfold ki
 walk_at "rd"
 refine ly (.tup e) (ka K) ?_
 walk_at "rd"
 refine zx (ax g) (SqT.of e) (fun i σ H2=>∃ (lo:Int) (st:Option V),σ=[some (.ref a),some (.int h),some (.int lo),st]/\H2=H/\∀ k∈g.drop i,lo<=(k:Int)) ⟨0,none,rfl,rfl,fun k _=>by omega⟩ (fun i σ H2 _ ⟨_,_,_,eH,_⟩=>by subst eH; exact SqT.of e) ?_ ?_
 ·rintro i y σ H2 hy ⟨lo,st,rfl,rfl,hlo⟩
  obtain ⟨k,hk,rfl⟩:=ja hy
  obtain ⟨h1,h2⟩:=Ls.mp hk
  have hd:g.drop i=k :: g.drop (i + 1):=by rw [QW h1,h2]
  have hkh:=hg k (LA hk)
  have pd:(g.drop i).Pairwise (· < ·):=pw.sublist (List.drop_sublist i g)
  rw [hd] at hlo pd
  have l1:=hlo k Lu
  walk_at "rd"
  refine ⟨.int (k:Int),lo,(h:Int) - 1,rfl,fC.int _,?_⟩
  rw [IJ l1 (show (k:Int)<=(h:Int) - 1 by omega)]
  walk_at "rd"
  refine ⟨_,_,rfl,rfl,fun j hj=>?_⟩
  have:=(Qx.mp pd).1 j hj
  omega
 ·rintro σ H2 ⟨lo,st,rfl,rfl,_⟩
  walk_at "rd"
  exact q
noncomputable def nH (_:Fg):Sp:=fun vs H Q _=>∃ (v:V) (s:Sy),vs=[v]/\aP H v s/\∀ (p:Addr) (xs:List V) (H':Hp),ap H H'->H p=none->H' p=some (.lst xs)->g9 H' xs s.subs->xs.length<=2->Q (.ref p) H'
noncomputable def lC (K:Fg) (G:Glo):TS:=(aw (aI (tOp (Cz G.kvs G.forms) (tC (.ref G.forms)) (tOp (bU K) (ac 0) (tC (.int 0)))) (aq 1))
 (aN (bW (qK iU iU K (aa (ac 1) (aa (tSl (zA K) (ac 0) (uI (tC (.int 1))) nR) ah))) (fun _ _ _ _=>(jg K 2 (ca (aq 0) (ca (aq 1) jf)))) (fun _ _ _ _=>(bc (tOp rEq (ac 0) (tC (.str "saying"))))) (fun _ _ _ _=>(ac 1)) [none,none])))
theorem Bl {K:Fg} {G:Glo} (g:vf K G) {vs:List V} {H:Hp} {Q:VK} {E:XK} (h:nH K vs H Q E):lC K G { nx:=fun _ H'=>Q .non H',rt:=Q } (start ["saying","form"] vs) H:=by
 obtain ⟨v,s,rfl,hs,q⟩:=h
 obtain ⟨a,items,rfl,ha,hl,hp⟩:=ID hs
 obtain ⟨f,hf,tf⟩:=g.form s
 show lC K G _ [some _,none] _
 unfold lC
 walk_at "rd"
 refine ba (SqT.of ha) (lM _ _) ?_
 refine Hu hf ?_
 walk_at "rd"
 refine Cy (SqT.of ha) (nA _ _) fun b H1 hb s1 e1=>?_
 rw [tY] at e1
 walk_at "rd"
 have hml:min (s.form.map V.str).length items.length=s.form.length:=by rw [Lp,hl]; omega
 refine qO (S1:=iU) (S2:=iU) (s.form.map V.str) items (tf.sq _) (SqT.of e1) (fun H' _=>tf.sq _) (fun H' s'=>SqT.of (s' _ _ e1)) (by rw [Lp]; have:=s.form_len; omega) (fun i acc _=>acc=iY (s.form.take i) (items.take i)) (fun _ _=>rfl) ?_ ?_
 ·intro p hp' C s' H' fp i x y T acc H2 H3 hx hy ⟨s2,e2,l2,r2⟩ hT s3 e3 e4
  obtain ⟨z,hz,rfl⟩:∃ z,s.form[i]?=some z/\x=.str z:=by
   rw [LD] at hx
   cases e:s.form[i]? with
   | none=>rw [e] at hx; cases hx
   | some z=>rw [e] at hx; exact ⟨z,rfl,(LF hx).symm⟩
  have pt:=E4 s.form items i z y hz hy
  subst r2
  refine iA (SqT.of e3) ?_
  walk_at "rd"
  refine dE (fun c=>?_) (fun c=>?_)
  ·walk_at "rd"
   rw [if_pos c] at pt
   exact bu.put hp' (fun _ _ _ _ r _=>r) (s2.trans s3) e4 l2 pt.symm
  ·rw [if_neg c,NG] at pt
   exact bu.skip (s2.trans s3) e4 l2 pt.symm
 ·intro p acc H2 hp' s2 e2 r2
  rw [hml,<-hl,Me,hl,Me] at r2
  subst r2
  refine q p _ H2 (s1.trans s2) (s1.free hp') e2 (hp.keep (s1.trans s2).keep) (L8 (Gm _ _) s.form_len)
noncomputable def ju (H:Hp) (c h:Nat) (p:Str) (x:V):Prop:=(p="holder"/\∃ k:Nat,x=.int k/\k<=h)\/(p="card"/\∃ k:Nat,x=.int k/\k < c)\/(p="hand"/\∃ k:Nat,x=.int k/\k < h)\/(p="hands"/\∃ a g,x=.ref a/\H a=some (.tup (ax g))/\g.Pairwise (· < ·)/\∀ k∈g,k < h)\/p="saying"
noncomputable def wM (_:Fg):Sp:=fun vs H Q _=>∃ (c h:Nat) (p:Str) (x:V),vs=[.int c,.int h,.str p,x]/\ju H c h p x/\Q (.bl true) H
noncomputable def vo (K:Fg):TS:=(aw (bD (bc (tOp rEq (ac 2) (tC (.str "holder")))) (aN (au (cq K) [] E0 (aa (ac 3) (aa (tOp (rI0 fun i j=>.int (i + j)) (ac 1) (tC (.int 1))) ah)))) bh)
 (aw (bD (bc (tOp rEq (ac 2) (tC (.str "card")))) (aN (au (cq K) [] E0 (aa (ac 3) (aa (ac 0) ah)))) bh)
 (aw (bD (bc (tOp rEq (ac 2) (tC (.str "hand")))) (aN (au (cq K) [] E0 (aa (ac 3) (aa (ac 1) ah)))) bh)
 (aw (bD (bc (tOp rEq (ac 2) (tC (.str "hands")))) (aN (au (js K) [] E0 (aa (ac 3) (aa (ac 1) ah)))) bh)
 (aN (tC (.bl true)))))))
theorem IL (h:wM K vs H Q E):vo K { nx:=fun _ H'=>Q .non H',rt:=Q } (start ["cards","hands","place","part"] vs) H:=by
 obtain ⟨c,h,p,x,rfl,k,q⟩:=h
 show vo K _ [some _,some _,some _,some _] _
 unfold vo
 rcases k with ⟨rfl,k,rfl,hk⟩ | ⟨rfl,k,rfl,hk⟩ | ⟨rfl,k,rfl,hk⟩ | ⟨rfl,a,g,rfl,e,pw,hg⟩ | rfl
 ·walk_at "rd"
  refine dY rfl ?_
  walk_at "rd"
  refine ⟨_,_,rfl,?_⟩
  rw [fh (by omega) (by omega)]
  exact q
 ·walk_at "rd"
  refine aX (by decide +kernel) ?_
  walk_at "rd"
  refine dY rfl ?_
  walk_at "rd"
  refine ⟨_,_,rfl,?_⟩
  rw [fh (by omega) (by omega)]
  exact q
 ·walk_at "rd"
  refine aX (by decide +kernel) ?_
  walk_at "rd"
  refine aX (by decide +kernel) ?_
  walk_at "rd"
  refine dY rfl ?_
  walk_at "rd"
  refine ⟨_,_,rfl,?_⟩
  rw [fh (by omega) (by omega)]
  exact q
 ·walk_at "rd"
  refine aX (by decide +kernel) ?_
  walk_at "rd"
  refine aX (by decide +kernel) ?_
  walk_at "rd"
  refine aX (by decide +kernel) ?_
  walk_at "rd"
  refine dY rfl ?_
  walk_at "rd"
  exact ⟨a,g,h,rfl,e,pw,hg,q⟩
 ·walk_at "rd"
  refine aX (by decide +kernel) ?_
  walk_at "rd"
  refine aX (by decide +kernel) ?_
  walk_at "rd"
  refine aX (by decide +kernel) ?_
  walk_at "rd"
  refine aX (by decide +kernel) ?_
  walk_at "rd"
  exact q
theorem Gr {H:Hp} {c h:Nat} {v:V} {s:Sy} (hs:aP H v s) (ok:s.Ok c h):∃ a items,v=.ref a/\H a=some (.tup (.str s.word :: items))/\items.length=s.form.length/\∀ (i:Nat) (p:Str) (x:V),s.form[i]?=some p->items[i]?=some x->ju H c h p x:=by
 have one:∀ {p:Str} {x:V},ju H c h p x->∀ (i:Nat) (p':Str) (x':V),[p][i]?=some p'->[x][i]?=some x'->ju H c h p' x':=fun f i p' x' hp hx=>by
  match i,hp,hx with
  | 0,hp,hx=>cases hp; cases hx; exact f
 have two:∀ {p q:Str} {x y:V},ju H c h p x->ju H c h q y->∀ (i:Nat) (p':Str) (x':V),[p,q][i]?=some p'->[x,y][i]?=some x'->ju H c h p' x':=fun f g i p' x' hp hx=>by
  match i,hp,hx with
  | 0,hp,hx=>cases hp; cases hx; exact f
  | 1,hp,hx=>cases hp; cases hx; exact g
 have sy:∀ {x:V},ju H c h "saying" x:=.inr (.inr (.inr (.inr rfl)))
 cases s with
 | holds w k=>obtain ⟨a,e,q⟩:=hs; exact ⟨a,_,e,q,rfl,two (.inl ⟨rfl,w,rfl,ok.1⟩) (.inr (.inl ⟨rfl,k,rfl,ok.2⟩))⟩
 | sees k=>obtain ⟨a,e,q⟩:=hs; exact ⟨a,_,e,q,rfl,one (.inr (.inr (.inl ⟨rfl,k,rfl,ok⟩)))⟩
 | not s=>obtain ⟨a,x,e,q,r⟩:=hs; exact ⟨a,_,e,q,rfl,one sy⟩
 | and s t=>obtain ⟨a,x,y,e,q,r,r'⟩:=hs; exact ⟨a,_,e,q,rfl,two sy sy⟩
 | or s t=>obtain ⟨a,x,y,e,q,r,r'⟩:=hs; exact ⟨a,_,e,q,rfl,two sy sy⟩
 | knows k s=>obtain ⟨a,x,e,q,r⟩:=hs; exact ⟨a,_,e,q,rfl,two (.inr (.inr (.inl ⟨rfl,k,rfl,ok.1⟩))) sy⟩
 | all g s=>obtain ⟨a,b,x,e,q,j,r⟩:=hs; exact ⟨a,_,e,q,rfl,two (.inr (.inr (.inr (.inl ⟨rfl,b,g,rfl,j,ok.1.1,ok.1.2⟩)))) sy⟩
 | common g s=>obtain ⟨a,b,x,e,q,j,r⟩:=hs; exact ⟨a,_,e,q,rfl,two (.inr (.inr (.inr (.inl ⟨rfl,b,g,rfl,j,ok.1.1,ok.1.2⟩)))) sy⟩
theorem ju.same {H H':Hp} (s:ap H H') {c h:Nat} {p:Str} {x:V} (f:ju H c h p x):ju H' c h p x:=by
 rcases f with f | f | f | ⟨e,a,g,e2,q,r⟩ | f
 ·exact .inl f
 ·exact .inr (.inl f)
 ·exact .inr (.inr (.inl f))
 ·exact .inr (.inr (.inr (.inl ⟨e,a,g,e2,s _ _ q,r⟩)))
 ·exact .inr (.inr (.inr (.inr f)))
noncomputable def pE (_:Fg):Sp:=fun vs H Q _=>∃ (c h:Nat) (v:V) (s:Sy),vs=[.int c,.int h,v]/\aP H v s/\s.Ok c h/\∀ H',ap H H'->Q (.bl true) H'
noncomputable def mX (K:Fg) (G:Glo):TS:=(aw (bD (tOr (iu (tB (tCB (lT K) (aa (ac 2) (aa (tC (.ty "tuple")) ah))))) (bc (tOp rEq (tCB (eQ K) (aa (ac 2) ah)) (tC (.int 0))))) (aN (tC (.bl false))) bh)
 (aw (bD (tOr (iu (tB (tCB (lT K) (aa (tOp (bU K) (ac 2) (tC (.int 0))) (aa (tC (.ty "str")) ah))))) (bc (tOp (zB G.kvs G.forms true) (tOp (bU K) (ac 2) (tC (.int 0))) (tC (.ref G.forms))))) (aN (tC (.bl false))) bh)
 (aw (aI (tOp (Cz G.kvs G.forms) (tC (.ref G.forms)) (tOp (bU K) (ac 2) (tC (.int 0)))) (aq 3))
 (aw (bD (bc (tOp rNe (tCB (eQ K) (aa (ac 2) ah)) (tOp (rI0 fun i j=>.int (i + j)) (tC (.int 1)) (tCB (eQ K) (aa (ac 3) ah))))) (aN (tC (.bl false))) bh)
 (aN (tCB (Cu K) (aa (bW (qK iU iU K (aa (ac 3) (aa (tSl (zA K) (ac 2) (uI (tC (.int 1))) nR) ah))) (fun _ _ _ _=>(jg K 2 (ca (aq 0) (ca (aq 1) jf)))) (fun _ _ _ _=>bM) (fun _ _ _ _=>(au (wM K) [] E0 (aa (ac 2) (aa (ac 3) (aa (ac 0) (aa (ac 1) ah)))))) [none,none,some 0,some 1]) ah)))))))
theorem Kd {H:Hp} {Q:VK} {kvs:List (Str×V)} {a:Addr} {k:Str} {v:V} (e:kvs.lookup k=some v) (h:Q (.bl false) H):zB kvs a true (.str k) (.ref a) H Q:=⟨rfl,k,rfl,by rw [e]; exact h⟩
theorem Gs (K:Fg):Ms K (.type "str") (.type "str")=some true:=zR K "str"
theorem CU {K:Fg} {G:Glo} (g:vf K G) {vs:List V} {H:Hp} {Q:VK} {E:XK} (h:pE K vs H Q E):mX K G { nx:=fun _ H'=>Q .non H',rt:=Q } (start ["cards","hands","thing","form"] vs) H:=by
 obtain ⟨c,h,v,s,rfl,hs,ok,q⟩:=h
 obtain ⟨a,items,rfl,ha,hl,hf⟩:=Gr hs ok
 obtain ⟨f,hk,tf⟩:=g.form s
 have hfl:=s.form_len
 show mX K G _ [some _,some _,some _,none] _
 unfold mX
 walk_at "rd"
 refine ly (.tup ha) (ka K) ?_
 walk_at "rd"
 refine aX (by show ¬ (((items.length + 1:Nat):Int)=0); omega) ?_
 walk_at "rd"
 refine ba (SqT.of ha) (lM _ _) ?_
 walk_at "rd"
 refine ly (.str _) (Gs K) ?_
 walk_at "rd"
 refine ba (SqT.of ha) (lM _ _) ?_
 walk_at "rd"
 refine Kd hk ?_
 walk_at "rd"
 refine ba (SqT.of ha) (lM _ _) ?_
 refine Hu hk ?_
 walk_at "rd"
 refine BO (tf.sq _) ?_
 walk_at "rd"
 rw [Lp]
 refine zw (fun n=>absurd (show ((items.length + 1:Nat):Int)=1 + ((s.form.length:Nat):Int) by omega) n) (fun _=>?_)
 walk_at "rd"
 refine Cy (SqT.of ha) (nA _ _) fun b H1 hb s1 e1=>?_
 rw [tY] at e1
 walk_at "rd"
 refine qO (S1:=iU) (S2:=iU) (s.form.map V.str) items (tf.sq _) (SqT.of e1) (fun H' _=>tf.sq _) (fun H' s'=>SqT.of (s' _ _ e1)) (by rw [Lp]; omega) (fun i acc _=>acc=(Mf i true).map V.bl) (fun _ _=>rfl) ?_ ?_
 ·rintro p hp C s' H' fp i x y T acc H2 H3 hx hy ⟨s2,e2,l2,rfl⟩ hT s3 e3 e4
  obtain ⟨z,hz,rfl⟩:∃ z,s.form[i]?=some z/\x=.str z:=by
   rw [LD] at hx
   cases e:s.form[i]? with
   | none=>rw [e] at hx; cases hx
   | some z=>rw [e] at hx; exact ⟨z,rfl,(LF hx).symm⟩
  refine iA (SqT.of e3) ?_
  walk_at "rd"
  refine ⟨c,h,z,y,rfl,(hf i z y hz hy).same ((s1.trans s2).trans s3),?_⟩
  exact bu.put hp (fun _ _ _ _ r _=>r) (s2.trans s3) e4 l2 (by rw [OU,LS]; rfl)
 ·rintro p acc H2 hp s2 e2 rfl
  walk_at "rd"
  refine ⟨p,_,rfl,SqL.of e2,?_⟩
  rw [show ∀ n:Nat,(Mf n true).all id=true from fun n=>by simp]
  exact q _ (s1.trans s2)
noncomputable def jv (_:Fg):Sp:=fun vs H Q _=>∃ (l:Addr) (xs:List V) (ss:List Sy),vs=[.ref l]/\H l=some (.lst xs)/\g9 H xs ss/\xs.length<=100/\∀ (p:Addr) (ys:List V) (H':Hp),ap H H'->H p=none->H' p=some (.lst ys)->g9 H' ys (ss.flatMap Sy.subs)->Q (.ref p) H'
noncomputable def hU (K:Fg):TS:=(aw (aI (fq ah) (aq 1))
 (aw (dI (dc K (ac 0)) (aq 2) (dw (tBM K "list" wA (ac 1) (aa (au (nH K) [] E0 (aa (ac 2) ah)) ah))))
 (aN (ac 1))))
theorem Ke {α β:Type} {F:α->β->Prop} {l l':List α} {m m':List β} (h:Paired F l m) (q:Paired F l' m'):Paired F (l++l') (m++m'):=by
 induction h with
 | nil=>exact q
 | cons x _ ih=>exact .cons x ih
theorem BW:∀ ss:List Sy,(ss.flatMap Sy.subs).length<=2 * ss.length
 | []=>Lr _
 | s :: r=>by
  have:=BW r
  have:s.subs.length<=2:=by cases s <;> simp [Sy.subs]
  rw [QR,LG,LX]
  omega
theorem vq (h:jv K vs H Q E):hU K { nx:=fun _ H'=>Q .non H',rt:=Q } (start ["sayings","parts","saying"] vs) H:=by
 obtain ⟨l,xs,ss,rfl,el,hx,h100,q⟩:=h
 show hU K _ [some _,none,none] _
 unfold hU
 have lxs:=gH hx
 walk_at "rd"
 refine ⟨by simp [Lw],fun p H1 hp s1 e1=>?_⟩
 walk_at "rd"
 refine lL xs (SqL.of (s1 _ _ el)) (fun i σ H2=>∃ (u:Option V) (ys:List V),σ=[some (.ref l),some (.ref p),u]/\ap H H2/\H2 p=some (.lst ys)/\g9 H2 ys ((ss.take i).flatMap Sy.subs)) ⟨none,[],rfl,s1,e1,.nil⟩ ?_ ?_ ?_
 ·rintro i σ H2 hi ⟨u,ys,rfl,s2,_⟩
  exact SqL.of (s2 _ _ el)
 ·rintro i x σ H2 hxi ⟨u,ys,rfl,s2,e2,p2⟩
  obtain ⟨s,hs,is⟩:=mW hx hxi
  have lys:=gH p2
  have:=BW (ss.take i)
  rw [M9] at this
  walk_at "rd"
  refine ⟨.inl ⟨rfl,_,SqL.of e2⟩,?_⟩
  walk_at "rd"
  refine ⟨x,s,rfl,is.keep s2.keep,fun p3 zs H3 s3 hp3 e3 y3 l3=>?_⟩
  walk_at "rd"
  refine F4 (s3 _ _ e2) e3 (by rw [Lw]; omega) fun H4 o4 e4=>?_
  have k4:dJ H3 H4:=fun b ws e=>(o4 b fun z=>by rw [z,s3 _ _ e2] at e; cases e).trans e
  refine ⟨_,ys++zs,rfl,(s2.trans s3).off hp o4,e4,?_⟩
  rw [M4,hs,Qe]
  refine Ke ((p2.keep s3.keep).keep k4) ?_
  show Paired _ zs (s.subs++[])
  rw [NG]
  exact y3.keep k4
 ·rintro σ H2 ⟨u,ys,rfl,s2,e2,p2⟩
  rw [lxs,Me] at p2
  walk_at "rd"
  exact q p ys H2 s2 hp e2 p2
theorem zY:∀ ss:List Sy,(ss.map Sy.words).sum=ss.length + ((ss.flatMap Sy.subs).map Sy.words).sum
 | []=>rfl
 | s :: r=>by
  rw [LI,LW,zY r,s.words_subs,QR,LS,MU,LX]
  omega
theorem IM {c h:Nat} {s:Sy} (ok:s.Ok c h):∀ t∈s.subs,t.Ok c h:=by
 cases s with
 | holds w k=>exact fun t ht=>nomatch ht
 | sees k=>exact fun t ht=>nomatch ht
 | not s=>exact fun t ht=>by rw [Ln.mp ht]; exact ok
 | and s t=>exact fun u hu=>(Lq.mp hu).elim (fun z=>z ▸ ok.1) fun z=>Ln.mp z ▸ ok.2
 | or s t=>exact fun u hu=>(Lq.mp hu).elim (fun z=>z ▸ ok.1) fun z=>Ln.mp z ▸ ok.2
 | knows k s=>exact fun t ht=>by rw [Ln.mp ht]; exact ok.2
 | all g s=>exact fun t ht=>by rw [Ln.mp ht]; exact ok.2
 | common g s=>exact fun t ht=>by rw [Ln.mp ht]; exact ok.2
noncomputable def l9 (_:Fg):Sp:=fun vs H Q _=>∃ (c h:Nat) (v:V) (s:Sy),vs=[.int c,.int h,v]/\aP H v s/\s.Ok c h/\s.words<=30/\∀ H',ap H H'->Q (.bl true) H'
noncomputable def kj (K:Fg):TS:=(aw (bD (tOr (iu (tB (au (iE K) [] E0 (aa (ac 0) ah)))) (iu (tB (au (iE K) [] E0 (aa (ac 1) ah))))) (aN (tC (.bl false))) bh)
 (aw (aI (tC (.int 0)) (aq 3))
 (aw (aI (fq (aa (ac 2) ah)) (aq 4))
 (aw (nO (bc (tOp (rI0 fun i j=>.bl (decide (j < i))) (tCB (eQ K) (aa (ac 4) ah)) (tC (.int 0)))) (aw (aI (tOp (rI0 fun i j=>.int (i + j)) (ac 3) (tCB (eQ K) (aa (ac 4) ah))) (aq 3))
 (aw (bD (tOr (bc (tOp (rI0 fun i j=>.bl (decide (j < i))) (ac 3) (tC (.int 30)))) (iu (tB (tCB (Cu K) (aa (bW (dc K (ac 4)) (fun _ _ _ _=>(aq 0)) (fun _ _ _ _=>bM) (fun _ _ _ _=>(au (pE K) [] E0 (aa (ac 1) (aa (ac 2) (aa (ac 0) ah))))) [none,some 0,some 1]) ah))))) (aN (tC (.bl false))) bh)
 (aI (au (jv K) [] E0 (aa (ac 4) ah)) (aq 4)))))
 (aN (tC (.bl true)))))))
theorem zZ (h:l9 K vs H Q E):kj K { nx:=fun _ H'=>Q .non H',rt:=Q } (start ["cards","hands","thing","words","level"] vs) H:=by
 obtain ⟨c,h,v,s,rfl,hs,ok,hw,q⟩:=h
 show kj K _ [some _,some _,some _,none,none] _
 unfold kj
 walk_at "rd"
 refine ⟨_,rfl,fC.int _,?_⟩
 walk_at "rd"
 refine Cr ?_
 walk_at "rd"
 refine ⟨_,rfl,fC.int _,?_⟩
 walk_at "rd"
 refine Cr ?_
 walk_at "rd"
 refine ⟨by simp [Lw],fun p H1 hp s1 e1=>?_⟩
 refine kJ ?_
 dsimp only [Nu,Nv]
 refine bj ?_
 refine Ct (fun m σ H2=>∃ (W:Nat) (l:Addr) (xs:List V) (ss:List Sy),σ=[some (.int c),some (.int h),some v,some (.int W),some (.ref l)]/\ap H H2/\H2 l=some (.lst xs)/\g9 H2 xs ss/\(∀ t∈ss,t.Ok c h)/\m=(ss.map Sy.words).sum/\W + m<=30) s.words
  ⟨0,p,[v],[s],rfl,s1,e1,.cons (hs.keep s1.keep) .nil,fun t ht=>by rw [Ln.mp ht]; exact ok,by simp,by omega⟩ ?_
 rintro m σ H2 ⟨W,l,xs,ss,rfl,s2,e2,hx,hok,rfl,hW⟩
 have lxs:=gH hx
 have e:=zY ss
 walk_at "rd"
 refine dE (fun c0=>?_) (fun c0=>?_)
 ·refine Cs ?_
  walk_at "rd"
  refine aX (by omega) ?_
  walk_at "rd"
  refine gp xs (SqL.of e2) (by omega) (fun i acc _=>acc=(Mf i true).map V.bl) (fun _ _=>rfl) ?_ ?_
  ·rintro p' hp' C s' H' fp i x acc H3 hxi ⟨s3,e3,l3,rfl⟩
   obtain ⟨t,ht,it⟩:=mW hx hxi
   walk_at "rd"
   refine ⟨c,h,x,t,rfl,it.keep s3.keep,hok t (LA ht),fun H4 s4=>?_⟩
   exact bu.put hp' (fun _ _ _ _ r _=>r) (s3.trans s4) (s4 _ _ e3) l3 (by rw [OU,LS]; rfl)
  ·rintro p' acc H3 hp' s3 e3 rfl
   walk_at "rd"
   refine ⟨p',_,rfl,SqL.of e3,?_⟩
   rw [show ∀ n:Nat,(Mf n true).all id=true from fun n=>by simp]
   walk_at "rd"
   refine ⟨l,xs,ss,rfl,s3 _ _ e2,hx.keep s3.keep,by omega,fun p4 ys H4 s4 hp4 e4 y4=>?_⟩
   walk_at "rd"
   refine ⟨_,by omega,W + xs.length,p4,ys,_,rfl,(s2.trans s3).trans s4,e4,y4,fun t ht=>?_,rfl,by omega⟩
   obtain ⟨u,hu,ht⟩:=TB.mp ht
   exact IM (hok u hu) t ht
 ·walk_at "rd"
  exact q _ s2
end
section
variable {K:Fg} {vs:List V} {H:Hp} {Q:VK} {E:XK}
noncomputable def kl (K:Fg):TS:=(aw (aI (tOp (rI (fun _ j=>0 < j) fun i j=>.int (i % j)) (au (bg K) [] E0 (aa (ac 0) (aa (ac 1) ah))) (tC (.int 8))) (aq 3))
 (aw (bD (bc (tOp rEq (tOp (rI (fun _ j=>0 < j) fun i j=>.int (i % j)) (tOp (rI fE fun i j=>.int (i / j)) (au (bg K) [] E0 (aa (ac 0) (aa (ac 1) ah))) (tC (.int 8))) (tC (.int 16))) (tC (.int 5)))) (aI (tOp (rI0 fun i j=>.int (i + j)) (tC (.int 8)) (tOp (rI (fun _ j=>0 < j) fun i j=>.int (i % j)) (tOp (rI fE fun i j=>.int (i / j)) (au (bg K) [] E0 (aa (ac 0) (aa (ac 1) ah))) (tC (.int 128))) (tC (.int 5)))) (aq 3)) bh)
 (aw (aI (fq ah) (aq 4))
 (aw (dI (fA (aa (tOp (rI0 fun i j=>.int (i + j)) (tC (.int 1)) (tOp (rI (fun _ j=>0 < j) fun i j=>.int (i % j)) (au (bg K) [] E0 (aa (ac 0) (aa (tOp (rI0 fun i j=>.int (i + j)) (ac 1) (tC (.int 1))) ah))) (tC (.int 5)))) ah)) (aq 5) (dw (tBM K "list" gX (ac 4) (aa (tOp (rI (fun _ j=>0 < j) fun i j=>.int (i % j)) (au (bg K) [] E0 (aa (ac 0) (aa (tOp (rI0 fun i j=>.int (i + j)) (tOp (rI0 fun i j=>.int (i + j)) (ac 1) (tC (.int 2))) (ac 5)) ah))) (tOp (rI0 fun i j=>.int (i + j)) (tCB Cv (aa (tC (.int 4)) (aa (tOp (rI0 fun i j=>.int (i - j)) (ac 3) (tCB (tX K) (aa (ac 4) ah))) ah))) (tC (.int 1)))) ah))))
 (aw (nO (bc (tOp (rI0 fun i j=>.bl (decide (j < i))) (au (iH K) [] E0 (aa (ac 3) (aa (ac 4) ah))) (ac 2))) (aw (bD (bc (tOp (rI0 fun i j=>.bl (decide (j < i))) (tCB (wD K) (aa (ac 4) ah)) (tOp (rI0 fun i j=>.int (i - j)) (ac 3) (tCB (tX K) (aa (ac 4) ah))))) (aI (tOp (rI0 fun i j=>.int (i - j)) (tCB (wD K) (aa (ac 4) ah)) (tC (.int 1))) (qA (ac 4) (tBM K "list" zv (ac 4) (aa (tCB (wD K) (aa (ac 4) ah)) ah)) mM)) bh)
 (aI (tOp (rI0 fun i j=>.int (i - j)) (ac 3) (tC (.int 1))) (aq 3))))
 (aN (cp (aa (ac 3) (aa (ac 4) ah)))))))))
theorem Aa (h:lW K vs H Q E):kl K { nx:=fun _ H'=>Q .non H',rt:=Q } (start ["_law_script","_law_at","_law_most","_law_cards","_law_sizes","_law_k"] vs) H:=by
 obtain ⟨a,ns,at_,most,rfl,hSc,ha0,ha1,hm,g⟩:=h
 show kl K _ [some _,some _,some _,none,none,none] _
 unfold kl
 refine bj ?_
 walk_at "rs"
 refine ⟨a,ns,at_,rfl,hSc,ha0,by omega,?_⟩
 walk_at "rs"
 refine i7 fun NX hNX=>?_
 have key:∀ c:Nat,c<=12->NX [some (.ref a),some (.int at_),some (.int most),some (.int c),none,none] H:=by
  intro c hc
  refine hNX _ _ ?_
  refine bj ?_
  walk_at "rs"
  refine ⟨by simp [Lw],fun q H1 hq s1 e1=>?_⟩
  walk_at "rs"
  refine i7 fun NX hNX=>?_
  have hSc1:=hSc.same s1
  walk_at "rs"
  refine ⟨a,ns,at_ + 1,rfl,hSc1,by omega,by omega,?_⟩
  walk_at "rs"
  refine j0 (1 + bC ns (at_ + 1) % 5).toNat rfl (by omega) (by omega) (fun i σ H2=>∃ (ss:List Nat) (st:Option V),σ=[some (.ref a),some (.int at_),some (.int most),some (.int c),some (.ref q),st]/\ap H H2/\H2 q=some (.lst (ax ss))/\ss.length=i/\ss.sum<=c) ⟨[],none,rfl,s1,e1,rfl,Mv _⟩ ?_ ?_
  ·rintro i σ H2 hi ⟨ss,st,rfl,s2,e2,hl,hs⟩
   have hSc2:=hSc.same s2
   walk_at "rd"
   refine ⟨yQ e2,?_⟩
   walk_at "rd"
   refine ⟨a,ns,at_ + 2 + (i:Int),rfl,hSc2,by omega,by omega,?_⟩
   walk_at "rd"
   refine Cw (ns:=ss.map fun (s:Nat)=>((s:Nat):Int)) (by rw [<-dm]; exact SqL.of e2) ?_
   walk_at "rd"
   rw [iW]
   obtain ⟨lst,hlst,hlst2⟩:∃ l:Nat,(if (c:Int) - ((ss.sum:Nat):Int) < 4 then (c:Int) - ((ss.sum:Nat):Int) else 4)=(l:Int)/\l<=c - ss.sum:=by
    by_cases h:(c:Int) - ((ss.sum:Nat):Int) < 4
    ·exact ⟨c - ss.sum,by rw [if_pos h]; omega,Lr _⟩
    ·exact ⟨4,by rw [if_neg h]; rfl,by omega⟩
   rw [hlst]
   walk_at "rd"
   obtain ⟨z,hz,hz2⟩:∃ z:Nat,bC ns (at_ + 2 + (i:Int)) % ((lst:Int) + 1)=(z:Int)/\z<=lst:=by
    have m1:=N9 (bC ns (at_ + 2 + (i:Int))) (b:=(lst:Int) + 1) (by omega)
    have m2:=NO (bC ns (at_ + 2 + (i:Int))) (b:=(lst:Int) + 1) (by omega)
    exact ⟨(bC ns (at_ + 2 + (i:Int)) % ((lst:Int) + 1)).toNat,by omega,by omega⟩
   rw [hz]
   refine jZ e2 (by rw [bi,Lw]; omega) fun H4 o4 e4=>?_
   rw [i9] at e4
   refine ⟨ss++[z],_,rfl,s2.off hq o4,e4,by rw [LG,hl]; rfl,?_⟩
   rw [MU,LW,OQ]
   omega
  ·rintro σ H2 ⟨ss,st,rfl,s2,e2,hl,hs⟩
   exact hNX _ _ (EY s2 hq e2 (by omega) (by omega) hs hc hm g)
 walk_at "rs"
 refine ⟨a,ns,at_,rfl,hSc,ha0,by omega,?_⟩
 walk_at "rs"
 refine dE (fun hb=>?_) (fun hb=>?_)
 ·walk_at "rs"
  refine ⟨a,ns,at_,rfl,hSc,ha0,by omega,?_⟩
  walk_at "rs"
  have:=key (8 + bC ns at_ / 128 % 5).toNat (by omega)
  rw [show (((8 + bC ns at_ / 128 % 5).toNat:Nat):Int)=8 + bC ns at_ / 128 % 5 by omega] at this
  exact this
 ·walk_at "rs"
  have:=key (bC ns at_ % 8).toNat (by omega)
  rw [show (((bC ns at_ % 8).toNat:Nat):Int)=bC ns at_ % 8 by omega] at this
  exact this
end
theorem bu.putW {H H4:Hp} {p:Addr} {R:Nat->List V->Hp->Prop} {i:Nat} {acc:List V} {y:V} (hp:H p=none) (s:ap H H4) (e:H4 p=some (.lst acc)) (l:acc.length<=i) (r:∀ H6,Off p H4 H6->R (i + 1) (acc++[y]) H6):
  H4 p=some (.lst acc)/\bu H p R (i + 1) (acc++[y]) (upd H4 p (.lst (acc++[y]))):=
 ⟨e,s.upd hp _,az,by rw [LG]; exact OT l 1,r _ i8⟩
section
variable {g:CF TG} {tt:CF TT} {te:CF TE} {σ₀:St} {Q:VK} {H:Hp} {K:Fg}
theorem rh {j:Int} (n:Nat) (hn:j.toNat=n) (hj:j<=1000000) (hj0:-1000000<=j) (R:Addr->Nat->List V->Hp->Prop) (h0:∀ p H',ap H H'->R p 0 [] H')
  (hs:∀ p,H p=none->∀ C s' H' fp,∀ i acc H2,i < n->bu H p (R p) i acc H2->g C s' H' fp (.int i) σ₀ H2 fun σ2 H3=>tt C s' H' fp σ2 H3 fun b H4=>if b=true then te C s' H' fp σ2 H4 fun y H5=>H5 p=some (.lst acc)/\bu H p (R p) (i + 1) (acc++[y]) (upd H5 p (.lst (acc++[y]))) else bu H p (R p) (i + 1) acc H4)
  (hd:∀ p acc H2,H p=none->ap H H2->H2 p=some (.lst acc)->R p n acc H2->Q (.ref p) H2):
  ∃ j':Int,[V.int j]=[.int j']/\-(2 ^ 62)<=j'/\j' < 2 ^ 62/\∀ p,H p=none->∃ W:Nat->Nat->List V->Hp->Prop,(∃ m,W 0 m [] (upd H p (.lst [])))/\∀ C s' H' fp,cB (Itr 0 j'.toNat) (g C s' H' fp) (tt C s' H' fp) (te C s' H' fp) σ₀ p Q W:=by
 refine ⟨j,rfl,by omega,by omega,fun p hp=>?_⟩
 subst hn
 exact oS (lo:=0) (bu H p (R p)) ⟨bf hp _,az,Lr _,h0 _ _ (bf hp _)⟩ (fun i acc H2 _ c=>⟨c.2.1,c.2.2.1⟩) (by rw [Lw]; omega) (fun C s' H' fp i acc H2 hi c=>by rw [Rc]; exact hs p hp C s' H' fp i acc H2 hi c) fun acc H2 c=>hd p acc H2 hp c.1 c.2.1 c.2.2.2
end
section
open PySem.Spec
theorem bQ.units64 {k:Nat} {A:Around} (r:bQ k A):A.units + 64 < cLine:=by have:=r.un; omega
section
variable {X:Cx}
theorem OpR.weak {f:Value->Value->Sem Value} {r r':R2} (h:OpR X f r) (w:∀ x y H Q,r' x y H Q->r x y H Q):OpR X f r':=fun pins s σ H x y v u Q I rx ry q=>h pins s σ H x y v u Q I rx ry (w x y H Q q)
theorem cF.weak {f:Value} {r r':List V->Hp->VK->Prop} (h:cF X f r) (w:∀ xs H Q,r' xs H Q->r xs H Q):cF X f r':=fun pins s σ H xs us Q I rx q=>h pins s σ H xs us Q I rx (w xs H Q q)
theorem og:OpR X (Ob .Add) qN:=Et.weak fun _ _ _ _ ⟨l,b,xs,zs,e1,e2,h1,h2,hz,q⟩=>⟨l,b,xs,zs,e1,e2,h1,h2,hz,q.upd⟩
theorem Fb:OpR X (Ob .Mult) F3:=JB.weak fun _ _ _ _ ⟨l,k,xs,e1,e2,h1,h2,h3,hz,q⟩=>⟨l,k,xs,e1,e2,h1,h2,h3,hz,q.upd⟩
theorem hZ:cF X (.type "list") (gG X.K):=zo.weak fun _ _ _ ⟨p,ys,e,h,q⟩=>⟨p,ys,e,h,q.upd⟩
theorem Gu:cF X (.type "tuple") (wE X.K):=pT.weak fun _ _ _ ⟨p,ys,e,h,q⟩=>⟨p,ys,e,.inl ⟨h,q.upd⟩⟩
end
section
variable {X:Cx} {es:List Expr} {t:TA} {pos:Pos}
theorem bE {x1} (h:PA X es t):PE X (.Tuple es x1 pos) (cp t):=by
 intro pins s σ H Q I hq
 refine Sn (thn (h pos pins s σ H _ I hq) fun us s1 ⟨xs,H1,I1,r,z,q⟩=>⟨by rw [<-r.length]; exact z,?_⟩)
 have hf:H1 s1.heap.objs.size=none:=I1.hok.fresh (Lr _)
 refine ⟨.ref s1.heap.objs.size,upd H1 s1.heap.objs.size (.tup xs),I1.laid (t':=s1.toks) (fun b u e=>Ll _ e) (Lr _) ?_,rfl,q.upd _ hf⟩
 exact ⟨z,us,r,ga.new _ _⟩
theorem cL (h:PA X es t):PE X (.List es pos) (fq t):=by
 intro pins s σ H Q I hq
 refine SG (thn (h pos pins s σ H _ I hq) fun us s1 ⟨xs,H1,I1,r,z,q⟩=>⟨by rw [<-r.length]; exact z,?_⟩)
 have hf:H1 s1.heap.objs.size=none:=I1.hok.fresh (Lr _)
 refine ⟨.ref s1.heap.objs.size,upd H1 s1.heap.objs.size (.lst xs),I1.laid (t':=s1.toks) (fun b u e=>Ll _ e) (Lr _) ?_,rfl,q.upd _ hf⟩
 exact ⟨z,us,0,r,Lx _ rfl⟩
end
section
variable {X:Cx} {es:List Expr} {te:TE} {t:TA}
theorem ar {v:Const} {j:Nat} {p:Pos} (ha:PE X (.Constant v j p) te) (hr:PA X es t):PA X (.Constant v j p :: es) (aa te t):=gW ha hr rfl
theorem af {x:Str} {p:Pos} (ha:PE X (.Name x p) te) (hr:PA X es t):PA X (.Name x p :: es) (aa te t):=gW ha hr rfl
theorem aG {a b:Expr} {o:Operator} {p:Pos} (ha:PE X (.BinOp a o b p) te) (hr:PA X es t):PA X (.BinOp a o b p :: es) (aa te t):=gW ha hr rfl
theorem aL {f:Expr} {as:List Expr} {ks:List Keyword} {p:Pos} (ha:PE X (.Call f as ks p) te) (hr:PA X es t):PA X (.Call f as ks p :: es) (aa te t):=gW ha hr rfl
theorem bw {as:List Expr} {k:Nat} {p:Pos} (ha:PE X (.Tuple as k p) te) (hr:PA X es t):PA X (.Tuple as k p :: es) (aa te t):=gW ha hr rfl
theorem aD {a b:Expr} {p:Pos} (ha:PE X (.Subscript a b p) te) (hr:PA X es t):PA X (.Subscript a b p :: es) (aa te t):=gW ha hr rfl
theorem Bm {a:Expr} {os:List CmpOp} {bs:List Expr} {p:Pos} (ha:PE X (.Compare a os bs p) te) (hr:PA X es t):PA X (.Compare a os bs p :: es) (aa te t):=gW ha hr rfl
theorem bZ {e:Expr} (ha:PE X e te) (hr:PA X es t) (hs:LP (e :: es) X.env=(false,eval e X.env) :: LP es X.env:=by rfl):PA X (e :: es) (aa te t):=gW ha hr hs
structure aj (N:List Str) (sc:Scope) (i:Nat) (x:Str):Prop where
 n:N[i]?=some x
 v:Vis sc x
 d:(x == ("__debug__":Str))=false
 c:(x == ("__classdict__":Str))=false
theorem pvQ {N:List Str} {sc:Scope} {i:Nat} {x:Str} {pos:Pos} (h:aj N sc i x) (hN:X.N=N) (hS:X.env.scope=sc):PE X (.Name x pos) (ac i):=by
 subst hN hS
 exact Ea h.n h.v h.d h.c
end
end
section
open PySem.Spec
theorem Ab {X:Cx}:SlR X (zA X.K):=fun pins s σ H x v vl vu lo hi sl Q I rx hs pl pu ⟨a,xs,e,h,n,q⟩=>Jy pins s σ H x v vl vu lo hi sl Q I rx hs pl pu ⟨a,xs,e,h,n,q.upd⟩
noncomputable def vt (P:Program) (w:World) (K:Fg) (a:Addr) (kvs:List (Str×V)):Prop:=
 (a == Nl)=false/\∃ (o:Obj) (es:Array SC) (ep:Nat) (vs:List (Key×Value)),K.lookup a=some o/\o.ExactDict/\o.data=.dict es ep/\KeysOf (i5 P w) es/\Pairs (i5 P w) es.toList vs/\(vs.map (·.1)).Nodup/\
  Paired (fun (p:Str×V) (q:Key×Value)=>q.1=.inr p.1/\aK p.2 q.2) kvs vs
theorem kW {k:Str} {v:V}:∀ {kvs:List (Str×V)} {vs:List (Key×Value)},Paired (fun (p:Str×V) (q:Key×Value)=>q.1=.inr p.1/\aK p.2 q.2) kvs vs->kvs.lookup k=some v->∃ u,valueAt vs (.inr k)=some u/\aK v u
 | _,_,.nil,h=>by cases h
 | _,_,.cons (a:=p) (b:=q) r t,h=>by
  obtain ⟨x,y⟩:=p
  obtain ⟨kq,u⟩:=q
  obtain ⟨r1,r2⟩:=r
  simp only at r1 r2
  subst r1
  rw [Mo] at h
  unfold valueAt
  rw [Ma]
  by_cases e:k=x
  ·subst e
   rw [beq_self_eq_true] at h
   cases h
   rw [show decide ((Nh k:Key)=Nh k)=true from decide_eq_true rfl]
   exact ⟨u,rfl,r2⟩
  ·rw [show (k == x)=false from beq_eq_false_iff_ne.mpr e] at h
   rw [show decide ((Nh x:Key)=Nh k)=false from decide_eq_false fun z=>e (OY z).symm]
   exact kW t h
section
variable {X:Cx} {o i:Expr} {pos:Pos} {td ty:TE} {a:Addr} {kvs:List (Str×V)}
theorem vt.of {pins:List (Addr×Obj)} {σ:St} {H:Hp} {s:Shared} (D:vt X.prog X.w X.K a kvs) (I:Inv X pins σ H s):∃ vs,s.heap.DictOf (i5 X.prog X.w) a vs/\Paired (fun (p:Str×V) (q:Key×Value)=>q.1=.inr p.1/\aK p.2 q.2) kvs vs:=by
 obtain ⟨_,o,es,ep,vs,lk,ex,hd,hk,hp,nd,rel⟩:=D
 exact ⟨vs,⟨o,es,ep,I.kIn a o lk,ex,hd,hk,hp,nd⟩,rel⟩
theorem Fc (D:vt X.prog X.w X.K a kvs) (ho:PE X o td) (hi:PE X i ty) (hs:F6 i):PE X (.Subscript o i pos) (tOp (Cz kvs a) td ty):=by
 intro pins s σ H Q I h
 refine BR QX.lookup hs (thn (ho pins s σ H _ I h) fun u s1 ⟨x,H1,I1,rx,q1⟩=>thn (hi pins s1 σ H1 _ I1 q1) fun iv s2 ⟨y,H2,I2,ry,ex,k,v,ey,el,q2⟩=>?_)
 subst ex ey
 obtain rfl:u=LZ a:=rx
 obtain ⟨vs,dd,rel⟩:=D.of I2
 obtain ⟨w',hw,rw'⟩:=kW rel el
 exact ⟨dd.typeIs,TF (Hv (k:=.inr k) ry) dd.mapOf hw ⟨v,H2,I2.tok _,rw',q2⟩⟩
theorem tJ {k:Str}:∀ {kvs:List (Str×V)} {vs:List (Key×Value)},Paired (fun (p:Str×V) (q:Key×Value)=>q.1=.inr p.1/\aK p.2 q.2) kvs vs->kvs.lookup k=none->valueAt vs (.inr k)=none
 | _,_,.nil,_=>rfl
 | _,_,.cons (a:=p) (b:=q) r t,h=>by
  obtain ⟨x,y⟩:=p
  obtain ⟨kq,u⟩:=q
  obtain ⟨r1,r2⟩:=r
  simp only at r1 r2
  subst r1
  rw [Mo] at h
  unfold valueAt
  rw [Ma]
  by_cases e:k=x
  ·subst e
   rw [beq_self_eq_true] at h
   cases h
  ·rw [show (k == x)=false from beq_eq_false_iff_ne.mpr e] at h
   rw [show decide ((Nh x:Key)=Nh k)=false from decide_eq_false fun z=>e (OY z).symm]
   exact tJ t h
theorem Ac (D:vt X.prog X.w X.K a kvs):OpR X (NF .NotIn) (zB kvs a true):=by
 intro pins s σ H x y v u Q I rx ry h
 obtain ⟨rfl,k,rfl,q⟩:=h
 obtain rfl:u=LZ a:=ry
 obtain ⟨vs,dd,rel⟩:=D.of I
 refine wpAny_notIn_of (Hv (k:=.inr k) rx) D.1 dd.mapOf ?_
 refine ⟨.bl (!(kvs.lookup k).isSome),H,I.tok _,?_,q⟩
 cases e:kvs.lookup k with
 | none=>rw [tJ rel e]; rfl
 | some v'=>
  obtain ⟨w',hw,_⟩:=kW rel e
  rw [hw]
  rfl
end
end
section
open PySem.Spec
structure Gv (P:Program) (w:World) (K:Fg) (mg:Str->Option Value) (G:Glo):Prop where
 ok:vf K G
 mf:mg "FORMS"=some (.ref G.forms)
 df:vt P w K G.forms G.kvs
theorem jb {K:Fg} {a:Addr} {od:Option Addr} {its:Array Value} {n:Nat} {sl:Array (Option Value)} (l:K.lookup a=some ⟨.type "tuple",od,.seq its n,sl⟩) (xs:List V) (hz:its.size<=Lz) (r:aH xs its.toList):kT K a xs:=⟨_,its,n,l,rfl,rfl,hz,r⟩
theorem IN {P:Program} {w:World} {K:Fg} {mg:Str->Option Value} {aF aC f1 f2 f3 f4 f5 f6 f7 f8:Addr} {k1 k2 k3 k4 k5 k6 k7 k8 u1 u2 u3 u4 u5 u6 u7 u8 u9 ua ub uc ud ue:Tok} {ep n1 n2 n3 n4 n5 n6 n7 n8:Nat} {o1 o2 o3 o4 o5 o6 o7 o8:Option Addr} {s1 s2 s3 s4 s5 s6 s7 s8:Array (Option Value)}
  (nF:(aF == Nl)=false) (mf:mg "FORMS"=some (.ref aF))
  (lF:K.lookup aF=some ⟨.type "dict",none,.dict #[⟨Mz w.params "holds",.str "holds" k1,.ref f1⟩,⟨Mz w.params "not",.str "not" k2,.ref f2⟩,⟨Mz w.params "and",.str "and" k3,.ref f3⟩,⟨Mz w.params "or",.str "or" k4,.ref f4⟩,
   ⟨Mz w.params "knows",.str "knows" k5,.ref f5⟩,⟨Mz w.params "all",.str "all" k6,.ref f6⟩,⟨Mz w.params "common",.str "common" k7,.ref f7⟩,⟨Mz w.params "sees",.str "sees" k8,.ref f8⟩] ep,#[]⟩)
  (l1:K.lookup f1=some ⟨.type "tuple",o1,.seq #[.str "holder" u1,.str "card" u2] n1,s1⟩) (l2:K.lookup f2=some ⟨.type "tuple",o2,.seq #[.str "saying" u3] n2,s2⟩) (l3:K.lookup f3=some ⟨.type "tuple",o3,.seq #[.str "saying" u4,.str "saying" u5] n3,s3⟩) (l4:K.lookup f4=some ⟨.type "tuple",o4,.seq #[.str "saying" u6,.str "saying" u7] n4,s4⟩)
  (l5:K.lookup f5=some ⟨.type "tuple",o5,.seq #[.str "hand" u8,.str "saying" u9] n5,s5⟩) (l6:K.lookup f6=some ⟨.type "tuple",o6,.seq #[.str "hands" ua,.str "saying" ub] n6,s6⟩) (l7:K.lookup f7=some ⟨.type "tuple",o7,.seq #[.str "hands" uc,.str "saying" ud] n7,s7⟩) (l8:K.lookup f8=some ⟨.type "tuple",o8,.seq #[.str "hand" ue] n8,s8⟩)
  : Gv P w K mg ⟨aF,aC,f1,f2,f3,f4,f5,f6,f7,f8⟩ where
 mf:=mf
 ok:=⟨jb l1 _ (by show 2<=Lz; decide) (.cons ⟨_,rfl⟩ (.cons ⟨_,rfl⟩ .nil)),jb l2 _ (by show 1<=Lz; decide) (.cons ⟨_,rfl⟩ .nil),jb l3 _ (by show 2<=Lz; decide) (.cons ⟨_,rfl⟩ (.cons ⟨_,rfl⟩ .nil)),jb l4 _ (by show 2<=Lz; decide) (.cons ⟨_,rfl⟩ (.cons ⟨_,rfl⟩ .nil)),
  jb l5 _ (by show 2<=Lz; decide) (.cons ⟨_,rfl⟩ (.cons ⟨_,rfl⟩ .nil)),jb l6 _ (by show 2<=Lz; decide) (.cons ⟨_,rfl⟩ (.cons ⟨_,rfl⟩ .nil)),jb l7 _ (by show 2<=Lz; decide) (.cons ⟨_,rfl⟩ (.cons ⟨_,rfl⟩ .nil)),jb l8 _ (by show 1<=Lz; decide) (.cons ⟨_,rfl⟩ .nil)⟩
 df:=by
  refine ⟨nF,_,_,_,[(.inr "holds",.ref f1),(.inr "not",.ref f2),(.inr "and",.ref f3),(.inr "or",.ref f4),(.inr "knows",.ref f5),(.inr "all",.ref f6),(.inr "common",.ref f7),(.inr "sees",.ref f8)],lF,⟨rfl,rfl,rfl⟩,rfl,?_,?_,?_,?_⟩
  ·intro e he
   simp only [List.mem_toArray,Array.mem_def,Lq,Mp,or_false] at he
   rcases he with rfl | rfl | rfl | rfl | rfl | rfl | rfl | rfl
   ·exact ⟨.inr "holds",br P w _ _,rfl⟩
   ·exact ⟨.inr "not",br P w _ _,rfl⟩
   ·exact ⟨.inr "and",br P w _ _,rfl⟩
   ·exact ⟨.inr "or",br P w _ _,rfl⟩
   ·exact ⟨.inr "knows",br P w _ _,rfl⟩
   ·exact ⟨.inr "all",br P w _ _,rfl⟩
   ·exact ⟨.inr "common",br P w _ _,rfl⟩
   ·exact ⟨.inr "sees",br P w _ _,rfl⟩
  ·exact .cons (br P w _ _) rfl (.cons (br P w _ _) rfl (.cons (br P w _ _) rfl (.cons (br P w _ _) rfl (.cons (br P w _ _) rfl (.cons (br P w _ _) rfl (.cons (br P w _ _) rfl (.cons (br P w _ _) rfl .nil)))))))
  ·show ([.inr "holds",.inr "not",.inr "and",.inr "or",.inr "knows",.inr "all",.inr "common",.inr "sees"]:List Key).Nodup
   decide +kernel
  ·exact .cons ⟨rfl,rfl⟩ (.cons ⟨rfl,rfl⟩ (.cons ⟨rfl,rfl⟩ (.cons ⟨rfl,rfl⟩ (.cons ⟨rfl,rfl⟩ (.cons ⟨rfl,rfl⟩ (.cons ⟨rfl,rfl⟩ (.cons ⟨rfl,rfl⟩ .nil)))))))
end
section
open PySem.Spec
noncomputable def CX1 (P:Program) (w:World):CXT:=fun outer H s E e s'=>
 ∃ (a C:Addr) (a0:Value) (H':Hp) (B:Heap),e=.ref a/\s'.os=s.os/\AllBare s'.gens/\Un (frs outer) [] H H' s.heap s'.heap/\HOk P w H' s'.heap/\
  Heap.FlyingW B outer a (.ref C) a0 s'.heap/\(∀ b o,s.heap.get? b=some o->H b=none->b∉frs outer->B.get? b=some o)/\
  (∀ b o,s.heap.get? b=some o->b∉frs outer->∃ o',B.get? b=some o')/\(∀ b u o,H' b=some u->s'.heap.get? b=some o->B.get? b=some o)/\H' a=none/\E (.ref C) (some a) H'
theorem bH.there {P:Program} {w:World} {H:Hp} {h:Heap} {a:Addr} {o:HO} (x:bH P w H h a o):∃ ob,h.get? a=some ob:=by
 cases o with
 | lst xs=>obtain ⟨_,_,_,_,e⟩:=x; exact ⟨_,e⟩
 | tup xs=>obtain ⟨_,_,_,_,e,_⟩:=x; exact ⟨_,e⟩
 | dK kvs=>obtain ⟨_,_,_,_,o,_,_,e,_⟩:=x; exact ⟨_,e⟩
 | dT kvs=>obtain ⟨_,_,_,_,o,_,_,e,_⟩:=x; exact ⟨_,e⟩
 | set S n=>obtain ⟨o,_,_,_,e,_⟩:=x; exact ⟨_,e⟩
 | ins C dx fs=>obtain ⟨_,_,_,e,_⟩:=x; exact ⟨_,e⟩
 | own y=>exact x
 | xd fs=>obtain ⟨_,⟨_,_,_,e,_⟩,_⟩:=x; exact ⟨_,e⟩
 | rng lo hi=>obtain ⟨_,_,_,e⟩:=x; exact ⟨_,e⟩
 | frz ob u=>obtain ⟨e,_⟩:=x; exact ⟨_,e⟩
 | tbl ps=>exact ⟨_,x⟩
 | met f y=>exact ⟨_,x⟩
 | ext φ=>obtain ⟨_,e,_⟩:=x; exact e
section
variable {P:Program} {w:World} {K:Fg} {mg:Str->Option Value} {base:Heap} {N:List Str} {qual:Str} {scope:Scope} {f:Addr} {cd:Value} {A:Around} {outer:List Env} {s:Shared} {H:Hp} {E:XK}
end
end
section
open PySem.Spec
section
variable {X:Cx} {pins:List (Addr×Obj)} {σ:St} {H:Hp} {s:Shared} {B h':Heap}
end
section
variable {X:Cx} {pins pn pins':List (Addr×Obj)} {σ:St} {H:Hp} {s:Shared} {B:Heap} {E:Value->Shared->Prop} {a:Addr}
end
end
section
open PySem.Spec PySem.W
section
variable {prog:Program} {w:World} {A:Around} {E:Value->Shared->Prop} {h:Heap} {g:Array R6} {d:Drawn} {t:Nat} {os:OsState} {a:Addr} {o:Obj} {C:Addr} {K:Frag}
end
end
section
open PySem.Spec PySem.W
noncomputable def FnX (P:Program) (w:World) (K:Frag) (mg:Str->Option Value) (base:Heap) (k:Nat) (x:Str) (ps:List Str) (sp:Sp):Prop:=
 ∃ f fd,cH P w K mg base (CX1 P w) k f fd ps sp/\mg x=some (.ref f)/\keepIn K (.ref f)=true/\fB K fd ps []
theorem FnX.mono {P:Program} {w:World} {K:Frag} {mg:Str->Option Value} {base:Heap} {j k:Nat} {x:Str} {ps:List Str} {sp:Sp} (F:FnX P w K mg base j x ps sp) (h:j<=k):FnX P w K mg base k x ps sp:=by
 obtain ⟨f,fd,ok,r⟩:=F
 exact ⟨f,fd,ok.mono h,r⟩
end
section
open PySem.Spec PySem.W
section
variable {P:Program} {w:World} {K:Frag} {mg:Str->Option Value} {base:Heap} {k:Nat} {f:Addr} {fd:LL} {ps:List Str}
theorem cH.up {sp:Sp} (F:cH P w K mg base CX0 k f fd ps sp):cH P w K mg base (CX1 P w) k f fd ps sp:=
 ⟨F.len,fun A outer s H args us vs Q E hr he hb hv hs=>Om (F.run A outer s H args us vs Q E hr he hb hv hs) fun r s' h=>by
  cases r with
  | ok fl=>cases fl <;> exact h
  | error e=>exact (show False from h).elim⟩
theorem cH.or {CX:CXT} {sp sp':Sp} (F:cH P w K mg base CX k f fd ps sp) (G:cH P w K mg base CX k f fd ps sp'):cH P w K mg base CX k f fd ps (fun vs H Q E=>sp vs H Q E\/sp' vs H Q E):=
 ⟨fun vs H Q E h=>h.elim (F.len vs H Q E) (G.len vs H Q E),fun A outer s H args us vs Q E hr he hb hv hs=>hs.elim (F.run A outer s H args us vs Q E hr he hb hv) (G.run A outer s H args us vs Q E hr he hb hv)⟩
end
end
section
open PySem.Spec PySem.W
section
variable {P:Program} {w:World} {K:Frag} {mg:Str->Option Value} {base:Heap}
noncomputable def FnM (P:Program) (w:World) (K:Frag) (mg:Str->Option Value) (base:Heap) (k:Nat) (C:Addr) (m:Str) (ps:List Str) (sp:Sp):Prop:=
 ∃ f fd,cH P w K mg base CX0 k f fd ps sp/\zi K C m f/\fB K fd ps []
theorem FnM.mono {j k:Nat} {C:Addr} {m:Str} {ps:List Str} {sp:Sp} (F:FnM P w K mg base j C m ps sp) (h:j<=k):FnM P w K mg base k C m ps sp:=by
 obtain ⟨f,fd,ok,r⟩:=F
 exact ⟨f,fd,ok.mono h,r⟩
structure fV (K:Frag) (C:Addr) (m qual:Str) (st:Stmt) (ps:List Str) (f:Addr) (fd:LL):Prop where
 fn:Fun K m qual st f fd
 mt:zi K C m f
 b:fB K fd ps []
theorem fV.ok {C:Addr} {m qual:Str} {st:Stmt} {N ps:List Str} {f:Addr} {fd:LL} {k:Nat} {sp:Sp} (D:fV K C m qual st ps f fd) (S:aE N ps (ae st)) (len:∀ vs H Q E,sp vs H Q E->vs.length=ps.length)
  (hbody:∀ (cdv:Value) (A:Around) (outer:List Env) (s:Shared) (H:Hp) (vs:List V) (Q:VK) (E:XK),bQ k (A.deeper (envOfC qual (ae st) s.heap.objs.size f cdv))->sp vs H Q E->
   ∃ t,PSs (oM CX0 P w K mg base N qual (ae st) f cdv A outer s H E).nox (fF st) t/\t { nx:=fun _ H'=>Q .non H',rt:=Q } (start N vs) H):FnM P w K mg base (k + 1) C m ps sp:=
 ⟨f,fd,D.fn.ok S len hbody,D.mt,D.b⟩
noncomputable def FnI (P:Program) (w:World) (K:Frag) (mg:Str->Option Value) (base:Heap) (k:Nat) (C:Addr) (ps:List Str) (sp:Sp):Prop:=
 ∃ f fd,cH P w K mg base CX0 k f fd ps sp/\Mk K C f/\fB K fd ps []
structure Ad (K:Frag) (C:Addr) (qual:Str) (st:Stmt) (ps:List Str) (f:Addr) (fd:LL):Prop where
 fn:Fun K "__init__" qual st f fd
 made:Mk K C f
 b:fB K fd ps []
theorem Ad.ok {C:Addr} {qual:Str} {st:Stmt} {N ps:List Str} {f:Addr} {fd:LL} {k:Nat} {sp:Sp} (D:Ad K C qual st ps f fd) (S:aE N ps (ae st)) (len:∀ vs H Q E,sp vs H Q E->vs.length=ps.length)
  (hbody:∀ (cdv:Value) (A:Around) (outer:List Env) (s:Shared) (H:Hp) (vs:List V) (Q:VK) (E:XK),bQ k (A.deeper (envOfC qual (ae st) s.heap.objs.size f cdv))->sp vs H Q E->
   ∃ t,PSs (oM CX0 P w K mg base N qual (ae st) f cdv A outer s H E).nox (fF st) t/\t { nx:=fun _ H'=>Q .non H',rt:=Q } (start N vs) H):FnI P w K mg base (k + 1) C ps sp:=
 ⟨f,fd,D.fn.ok S len hbody,D.made,D.b⟩
end
section
variable {X:Cx} {k:Nat} {C:Addr} {m:Str} {ps:List Str} {sp:Sp} {p pos apos:Pos} {o e:Expr} {es:List Expr} {ta:TE} {t:TA}
theorem be {a:Expr} {f:Str} {p:Pos} {te:TE} (ha:PE X (.Attribute a f p) te) (hr:PA X es t):PA X (.Attribute a f p :: es) (aa te t):=gW ha hr rfl
theorem em {pl:Sem Bool} (F:FnM X.prog X.w X.K X.mg X.base k C m ps sp) (hr:bQ k X.A) (c:Cls X.K C) (he:PE X o ta) (ha:PA X (e :: es) t)
  (hst:LP (e :: es) X.env=(false,eval e X.env) :: LP es X.env:=by rfl) (hpl:(backTo pos (LP es X.env)).any (·.1)=false:=by rfl)
  (ht:eval (.Call (.Attribute o m apos) (e :: es) [] pos) X.env=(do
   let ov <-eval o X.env
   standAt apos.atName
   let (f,first) <-holding [ov] (Qp ov m pl)
   Tq pos f first (backTo pos (LP (e :: es) X.env)) (Pz pos (OG [] X.env))):=by rfl):
  PE X (.Call (.Attribute o m apos) (e :: es) [] pos) (dy C m sp [] E0 ta t):=by
 obtain ⟨f,fd,ok,mt,b⟩:=F
 exact HZ he c mt ok hr b .nil yP ha hst hpl ht
theorem mY {pl:Sem Bool} (F:FnM X.prog X.w X.K X.mg X.base k C m ps sp) (hr:bQ k X.A) (c:Cls X.K C) (he:PE X o ta)
  (ht:eval (.Call (.Attribute o m apos) [] [] pos) X.env=(do
   let ov <-eval o X.env
   standAt apos.atName
   let (f,first) <-holding [ov] (Qp ov m pl)
   Tq pos f first (backTo pos (LP [] X.env)) (Pz pos (OG [] X.env))):=by rfl):
  PE X (.Call (.Attribute o m apos) [] [] pos) (dy C m sp [] E0 ta ah):=by
 obtain ⟨f,fd,ok,mt,b⟩:=F
 exact FQ he c mt ok hr b .nil yP ht
theorem uf {x:Str} (F:FnI X.prog X.w X.K X.mg X.base k C ps sp) (hr:bQ (k + 1) X.A) (hm:X.mg x=some (.ref C)) (ha:PA X (e :: es) t) (hg:Gl X x:=by rfl)
  (hdb:(x == ("__debug__":Str))=false:=by decide) (he:LP (e :: es) X.env=(false,eval e X.env) :: LP es X.env:=by rfl) (hpl:(backTo pos (LP es X.env)).any (·.1)=false:=by rfl):
  PE X (.Call (.Name x p) (e :: es) [] pos) (rV C sp [] E0 t):=by
 obtain ⟨f,fd,ok,mk,b⟩:=F
 exact Ia mk ok hr hg hm b .nil yP ha hdb he hpl
end
end
section
open PySem.Spec PySem.W
structure nI (K:Frag) (C:Addr):Prop where
 cl:Cls K C
 n1:fb K C "dealt"
 n2:fb K C "cards"
 n3:fb K C "sizes"
 n4:fb K C "hands"
 n5:fb K C "views"
 n6:fb K C "deeds"
set_option genInjectivity false in
structure GF extends Glo where
 Table:Addr
structure dG (P:Program) (w:World) (K:Frag) (mg:Str->Option Value) (G:GF):Prop where
 tb:Gv P w K mg G.toGlo
 m_Table:mg "Table"=some (.ref G.Table)
 ct:nI K G.Table
theorem dG.cl_Table {P:Program} {w:World} {K:Frag} {mg:Str->Option Value} {G:GF} (T:dG P w K mg G):Cls K G.Table:=T.ct.cl
theorem Gw {P:Program} {w:World} {K:Frag} {mg:Str->Option Value} {G:Glo} {aT:Addr} (t:Gv P w K mg G) (m:mg "Table"=some (.ref aT)) (pg:plainGet K aT Ui=true) (hd:hasDictIn K aT=true) (po:plainOver K aT=true) (sa:findIn K (.ref aT) "__setattr__"=some (some (.builtin "object.__setattr__")))
  (n1:findIn K (.ref aT) "dealt"=some none) (n2:findIn K (.ref aT) "cards"=some none) (n3:findIn K (.ref aT) "sizes"=some none) (n4:findIn K (.ref aT) "hands"=some none) (n5:findIn K (.ref aT) "views"=some none) (n6:findIn K (.ref aT) "deeds"=some none):dG P w K mg ⟨G,aT⟩:=
 ⟨t,m,⟨⟨pg,hd,po,sa⟩,n1,n2,n3,n4,n5,n6⟩⟩
end
end L2
section
namespace L2
open PySem
end L2
end
section
namespace L2
open PySem
noncomputable def ug (K:Fg) (t:TA):TE:=fun σ H Q=>t σ H fun xs H1=>∃ (p:Addr) (ns:List Int),xs=[.ref p]/\SqL K H1 p (ns.map V.int)/\ns.length < 64/\
 ∀ (q:Addr) (H':Hp) (ms:List Int),H1 q=none->ap H1 H'->H' q=some (.lst (ms.map V.int))->ms.Pairwise (· < ·)->(∀ y,y∈ms↔y∈ns)->Q (.ref q) H'
theorem Fd {K:Fg} {t:TA} {σ:St} {H:Hp} {Q:VK} (h:t σ H fun xs H1=>∃ (p:Addr) (ns:List Int),xs=[.ref p]/\SqL K H1 p (ns.map V.int)/\ns.length < 64/\
 ∀ (q:Addr) (H':Hp) (ms:List Int),H1 q=none->ap H1 H'->H' q=some (.lst (ms.map V.int))->ms.Pairwise (· < ·)->(∀ y,y∈ms↔y∈ns)->Q (.ref q) H'):ug K t σ H Q:=h
theorem Ae {α:Type} [DecidableEq α]:∀ {l m:List α},l.Nodup->(∀ x∈l,x∈m)->l.length<=m.length
 | [],m,_,_=>Mv _
 | x :: l,m,nd,h=>by
  have hx:x∈m:=h x Lu
  obtain ⟨n1,n2⟩:=N8.mp nd
  have:=Ae (m:=m.erase x) n2 fun y hy=>(List.mem_erase_of_ne (fun e:y=x=>n1 (e ▸ hy))).mpr (h y (LC _ hy))
  rw [List.length_erase_of_mem hx] at this
  have:=List.length_pos_of_mem hx
  rw [LX]
  omega
end L2
end
namespace L2
open PySem PyProof.Rows
noncomputable def GE (P:Hp->V->Prop) (σ:St) (H0:Hp) (te:TE):Prop:=∀ H,ap H0 H->∀ Q:VK,(∀ x H',ap H H'->P H' x->Q x H')->te σ H Q
noncomputable def GA (P:Hp->V->Prop) (σ:St) (H0:Hp) (n:Nat) (ta:TA):Prop:=∀ H,ap H0 H->∀ R:List V->Hp->Prop,(∀ xs H',ap H H'->xs.length=n->(∀ x∈xs,P H' x)->R xs H')->ta σ H R
theorem GA.nil {P:Hp->V->Prop} {σ:St} {H0:Hp}:GA P σ H0 0 ah:=fun H s R q=>Hs (q [] H (ap.refl _) rfl fun _ h=>(nomatch h))
theorem GA.cons {P:Hp->V->Prop} (st:∀ H H' x,ap H H'->P H x->P H' x) {σ:St} {H0:Hp} {n:Nat} {te:TE} {tr:TA} (b:GE P σ H0 te) (t:GA P σ H0 n tr):GA P σ H0 (n + 1) (aa te tr):=fun H s R q=>
 EG (b H s _ fun x H1 s1 px=>t H1 (s.trans s1) _ fun xs H2 s2 hl hb=>q (x :: xs) H2 (s1.trans s2) (by rw [LX,hl]) fun y hy=>by
  rcases Lq.mp hy with rfl | hy
  ·exact st _ _ _ s2 px
  ·exact hb y hy)
theorem rj {P:Hp->V->Prop} (st:∀ H H' x,ap H H'->P H x->P H' x) {σ:St} {H0 H:Hp} {n:Nat} {ta:TA} {R:List V->Hp->Prop} (s:ap H0 H) (b:GA P σ H0 n ta) (q:∀ xs H',ap H H'->xs.length=n->(∀ x∈xs,P H' x)->R xs H'):ta σ H R:=b H s R q
theorem jw (z:Int) {m:Int} (h:0 < m):∃ k:Nat,z % m=(k:Int)/\(k:Int) < m:=by
 have m1:=N9 z (b:=m) (by omega)
 have m2:=NO z h
 exact ⟨(z % m).toNat,by omega,by omega⟩
section
variable {K:Fg} {vs:List V} {H:Hp} {Q:VK} {E:XK}
noncomputable def dL (_:Fg):Sp:=fun vs H Q _=>∃ (z:Int) (h:Nat),vs=[.int z,.int h]/\h<=5/\∀ (p:Addr) (g:List Nat) (H':Hp),ap H H'->H' p=some (.tup (ax g))->g.Pairwise (· < ·)->(∀ k∈g,k < h)->Q (.ref p) H'
noncomputable def jx (K:Fg):TS:=(aN (tCB (wE K) (aa (bW (fA (aa (ac 1) ah)) (fun _ _ _ _=>(aq 0)) (fun _ _ _ _=>(bc (tOp rEq (tOp (rI (fun _ j=>0 < j) fun i j=>.int (i % j)) (tOp (rI fE fun i j=>.int (i / j)) (ac 1) (tOp (bR K) (fq (aa (tC (.int 1)) (aa (tC (.int 2)) (aa (tC (.int 4)) (aa (tC (.int 8)) (aa (tC (.int 16)) ah)))))) (ac 0))) (tC (.int 2))) (tC (.int 1))))) (fun _ _ _ _=>(ac 0)) [none,some 0]) ah)))
theorem at5 {i:Nat} (h:i < 5):∃ v:Int,atI [V.int 1,V.int 2,V.int 4,V.int 8,V.int 16] (i:Int)=some (.int v)/\0 < v/\v<=16:=by
 match i,h with
 | 0,_=>exact ⟨1,rfl,by decide,by decide⟩
 | 1,_=>exact ⟨2,rfl,by decide,by decide⟩
 | 2,_=>exact ⟨4,rfl,by decide,by decide⟩
 | 3,_=>exact ⟨8,rfl,by decide,by decide⟩
 | 4,_=>exact ⟨16,rfl,by decide,by decide⟩
theorem xW (h:dL K vs H Q E):jx K { nx:=fun _ H'=>Q .non H',rt:=Q } (start ["_law_number","_law_hands"] vs) H:=by
 obtain ⟨z,h,rfl,h5,q⟩:=h
 show jx K _ [some _,some _] _
 unfold jx
 walk_at "rd"
 refine zz h (by omega) (by omega) (by omega) (fun i acc _=>∃ g:List Nat,acc=ax g/\g.Pairwise (· < ·)/\∀ k∈g,k < i) (fun _ _=>⟨[],rfl,.nil,fun _ h=>(nomatch h)⟩) ?_ ?_
 ·rintro p hp C s' H' fp i acc H2 hi ⟨s2,e2,l2,g,rfl,pw,hb⟩
  walk_at "rd"
  refine ⟨by simp [Lw],fun b H3 hb3 s3 e3=>?_⟩
  walk_at "rd"
  obtain ⟨v,hv,v0,v16⟩:=at5 (i:=i) (by omega)
  refine bA (SqL.of e3) hv ?_
  walk_at "rd"
  have e23:=s3 _ _ e2
  refine dE (fun c=>?_) (fun c=>?_)
  ·walk_at "rd"
   refine bu.put hp (fun _ _ _ _ r _=>r) (s2.trans s3) e23 l2 ⟨g++[i],by rw [<-i9],?_,fun k hk=>?_⟩
   ·rw [P8]
    exact ⟨pw,Rk _ _,fun x hx y hy=>by rw [Ln] at hy; have:=hb x hx; omega⟩
   ·rcases LR.mp hk with hk | hk
    ·have:=hb k hk; omega
    ·rw [Ln] at hk; omega
  ·exact bu.skip (s2.trans s3) e23 l2 ⟨g,rfl,pw,fun k hk=>by have:=hb k hk; omega⟩
 ·intro p acc H2 hp s2 e2 ⟨g,hg,pw,hb⟩
  subst hg
  walk_at "rd"
  exact Iq (SqL.of e2) fun t H3 ht s3 e3=>q t g H3 (s2.trans s3) e3 pw hb
noncomputable def vv (H:Hp) (x:V):Option Sy->Prop
 | some t=>aP H x t
 | none=>(∃ i,x=.int i)\/∃ b g,x=.ref b/\H b=some (.tup (ax g))
theorem vv.keep {H H':Hp} (k:dJ H H') {x:V} {o:Option Sy} (h:vv H x o):vv H' x o:=by
 cases o with
 | some t=>exact aP.keep k h
 | none=>
  rcases h with h | ⟨b,g,e,h⟩
  ·exact .inl h
  ·exact .inr ⟨b,g,e,k _ _ h⟩
theorem BX {H:Hp} {v:V} {s:Sy} (h:aP H v s):∃ a items os,v=.ref a/\H a=some (.tup (.str s.word :: items))/\Paired (vv H) items os/\os.filterMap id=s.subs/\items.length<=2:=by
 cases s with
 | holds w c=>obtain ⟨a,e,h⟩:=h; exact ⟨a,_,[none,none],e,h,.cons (.inl ⟨_,rfl⟩) (.cons (.inl ⟨_,rfl⟩) .nil),rfl,by simp⟩
 | sees w=>obtain ⟨a,e,h⟩:=h; exact ⟨a,_,[none],e,h,.cons (.inl ⟨_,rfl⟩) .nil,rfl,by simp⟩
 | not s=>obtain ⟨a,x,e,h,r⟩:=h; exact ⟨a,_,[some s],e,h,.cons r .nil,rfl,by simp⟩
 | and s t=>obtain ⟨a,x,y,e,h,r,q⟩:=h; exact ⟨a,_,[some s,some t],e,h,.cons r (.cons q .nil),rfl,by simp⟩
 | or s t=>obtain ⟨a,x,y,e,h,r,q⟩:=h; exact ⟨a,_,[some s,some t],e,h,.cons r (.cons q .nil),rfl,by simp⟩
 | knows w s=>obtain ⟨a,x,e,h,r⟩:=h; exact ⟨a,_,[none,some s],e,h,.cons (.inl ⟨_,rfl⟩) (.cons r .nil),rfl,by simp⟩
 | all g s=>obtain ⟨a,b,x,e,h,i,r⟩:=h; exact ⟨a,_,[none,some s],e,h,.cons (.inr ⟨b,g,rfl,i⟩) (.cons r .nil),rfl,by simp⟩
 | common g s=>obtain ⟨a,b,x,e,h,i,r⟩:=h; exact ⟨a,_,[none,some s],e,h,.cons (.inr ⟨b,g,rfl,i⟩) (.cons r .nil),rfl,by simp⟩
noncomputable def eU (_:Fg) (n:Nat):Sp:=fun vs H Q _=>∃ (v:V) (s:Sy),vs=[v]/\aP H v s/\s.words<=n/\∀ H',ap H H'->Q (.int (s.words:Nat)) H'
noncomputable def jy (K:Fg) (n:Nat):TS:=(aw (aI (tC (.int 1)) (aq 1))
 (aw (dI (wv K (tSl (zA K) (ac 0) (uI (tC (.int 1))) nR)) (aq 2) (bD (Cd (tB (tCB (lT K) (aa (ac 2) (aa (tC (.ty "tuple")) ah)))) (Cd (bc (tOp (wC (SqT K) true) (ac 2) (cp ah))) (tB (tCB (lT K) (aa (tOp (bU K) (ac 2) (tC (.int 0))) (aa (tC (.ty "str")) ah)))))) (aI (tOp (rI0 fun i j=>.int (i + j)) (ac 1) (au (eU K n) [] E0 (aa (ac 2) ah))) (aq 1)) bh))
 (aN (ac 1))))
theorem pV (h:eU K 0 vs H Q E):False:=by
 obtain ⟨v,s,rfl,_,h,_⟩:=h
 have:=s.words_pos
 omega
theorem Fe {K:Fg} {H:Hp} {Q:VK} {a b:Addr} {xs:List V} (h1:SqT K H a xs) (h2:SqT K H b []) (q:Q (.bl (!xs.isEmpty)) H):wC (SqT K) true (.ref a) (.ref b) H Q:=by
 refine ⟨a,b,xs,[],fun _=>true,rfl,rfl,h1,h2,fun j x y _ hy=>by simp at hy,?_⟩
 cases xs with
 | nil=>exact q
 | cons x r=>exact q
noncomputable def kX (os:List (Option Sy)):Nat:=((os.filterMap id).map Sy.words).sum
noncomputable def Af:Option Sy->Nat
 | some t=>t.words
 | none=>0
theorem Ff (os:List (Option Sy)) (i:Nat) (o:Option Sy) (h:os[i]?=some o):kX (os.take (i + 1))=kX (os.take i) + Af o:=by
 unfold kX
 rw [M4,h,List.filterMap_append,LS,MU]
 cases o with
 | none=>simp [Af]
 | some t=>simp [Af]
theorem xX {K:Fg} {n:Nat} {vs:List V} {H:Hp} {Q:VK} {E:XK} (h:eU K (n + 1) vs H Q E):jy K n { nx:=fun _ H'=>Q .non H',rt:=Q } (start ["_law_saying_here","_law_found","_law_part"] vs) H:=by
 obtain ⟨v,s,rfl,hs,hw,q⟩:=h
 obtain ⟨a,items,os,rfl,e,hp,hos,h2⟩:=BX hs
 show jy K n _ [some _,none,none] _
 unfold jy
 walk_at "rd"
 refine Cy (SqT.of e) (nA _ _) fun b H1 hb s1 e1=>?_
 rw [tY] at e1
 have hw':=s.words_subs
 have hol:items.length=os.length:=by
  clear hos h2 e e1
  induction hp with
  | nil=>rfl
  | cons _ _ ih=>rw [LX,LX,ih]
 refine zx items (SqT.of e1) (fun i σ H2=>∃ st,σ=[some (.ref a),some (.int (1 + kX (os.take i):Nat)),st]/\ap H1 H2) ⟨none,rfl,ap.refl _⟩ (fun i σ H2 _ ⟨_,_,s2⟩=>SqT.of (s2 _ _ e1)) ?_ ?_
 ·rintro i x σ H2 hx ⟨st,rfl,s2⟩
  obtain ⟨o,ho,io⟩:=lz hp hx
  have ot:=Ff os i o ho
  have io2:=io.keep (s1.trans s2).keep
  cases o with
  | none=>
   have ot':kX (os.take (i + 1))=kX (os.take i):=ot
   rcases io2 with ⟨j,rfl⟩ | ⟨g,gs,rfl,eg⟩
   ·walk_at "rd"
    refine ly (.int _) (BU K "int" (by decide) "tuple" (by decide)) ?_
    walk_at "rd"
    refine oO ?_
    walk_at "rd"
    exact ⟨_,by rw [ot'],s2⟩
   ·walk_at "rd"
    refine ly (.tup eg) (ka K) ?_
    walk_at "rd"
    refine ⟨by simp [Lw],fun u H3 hu s3 e3=>?_⟩
    refine Fe (SqT.of (s3 _ _ eg)) (SqT.of e3) ?_
    walk_at "rd"
    cases gs with
    | nil=>
     refine oO ?_
     walk_at "rd"
     exact ⟨_,by rw [ot'],s2.trans s3⟩
    | cons k r=>
     refine qH ?_
     walk_at "rd"
     refine ba (SqT.of (s3 _ _ eg)) (lM _ _) ?_
     walk_at "rd"
     refine ly (.int _) (BU K "int" (by decide) "str" (by decide)) ?_
     walk_at "rd"
     refine oO ?_
     walk_at "rd"
     exact ⟨_,by rw [ot'],s2.trans s3⟩
  | some t=>
   have ot':kX (os.take (i + 1))=kX (os.take i) + t.words:=ot
   have ts:t∈s.subs:=by rw [<-hos]; exact Qo.mpr ⟨some t,LA ho,rfl⟩
   have hb':=Sy.sub_words ts
   obtain ⟨a2,items2,_,rfl,et,_⟩:=BX io2
   walk_at "rd"
   refine ly (.tup et) (ka K) ?_
   walk_at "rd"
   refine ⟨by simp [Lw],fun u H3 hu s3 e3=>?_⟩
   refine Fe (SqT.of (s3 _ _ et)) (SqT.of e3) ?_
   walk_at "rd"
   refine qH ?_
   walk_at "rd"
   refine ba (SqT.of (s3 _ _ et)) (lM _ _) ?_
   walk_at "rd"
   refine ly (.str _) (zR K "str") ?_
   walk_at "rd"
   refine ⟨_,t,rfl,aP.keep s3.keep io2,by omega,fun H4 s4=>?_⟩
   walk_at "rd"
   refine ⟨some (.ref a2),?_,(s2.trans s3).trans s4⟩
   rw [ot',show ((1 + kX (os.take i):Nat):Int) + ((t.words:Nat):Int)=((1 + (kX (os.take i) + t.words):Nat):Int) by omega]
 ·rintro σ H2 ⟨st,rfl,s2⟩
  walk_at "rd"
  have e:kX (os.take items.length)=(s.subs.map Sy.words).sum:=by rw [hol,Me]; unfold kX; rw [hos]
  rw [e,<-hw']
  exact q _ (s1.trans s2)
structure gI (H H2:Hp) (r:Addr) (c h most:Nat) (ss:List Sy):Prop where
 same:ap H H2
 new:H r=none
 at_:∃ xs,H2 r=some (.lst xs)/\g9 H2 xs ss
 ne:ss≠[]
 ok:∀ s∈ss,s.Ok c h/\s.words<=most
theorem gI.push {H H2 H3:Hp} {r:Addr} {c h most:Nat} {ss:List Sy} {s:Sy} {v:V} {xs:List V} (R:gI H H2 r c h most ss) (e:H2 r=some (.lst xs)) (o:Off r H2 H3) (e3:H3 r=some (.lst (xs++[v]))) (hv:aP H2 v s) (ok:s.Ok c h) (w:s.words<=most):gI H H3 r c h most (ss++[s]) where
 same:=R.same.off R.new o
 new:=R.new
 at_:=by
  obtain ⟨ys,ey,p⟩:=R.at_
  rw [e] at ey
  cases ey
  exact ⟨_,e3,pc (p.keep (o.keep e)) (.cons (hv.keep (o.keep e)) .nil)⟩
 ne:=by simp
 ok:=fun t ht=>by
  rcases LR.mp ht with ht | ht
  ·exact R.ok t ht
  ·rw [Ln] at ht; subst ht; exact ⟨ok,w⟩
theorem gI.to {H H2 H3:Hp} {r:Addr} {c h most:Nat} {ss:List Sy} (R:gI H H2 r c h most ss) (s:ap H2 H3):gI H H3 r c h most ss where
 same:=R.same.trans s
 new:=R.new
 at_:=by obtain ⟨xs,e,p⟩:=R.at_; exact ⟨xs,s _ _ e,p.keep s.keep⟩
 ne:=R.ne
 ok:=R.ok
noncomputable def ma (K:Fg):Sp:=fun vs H Q _=>∃ (a:Addr) (ns:List Int) (at_:Int) (c h:Nat),vs=[.ref a,.int at_,.int c,.int h]/\fT K H a ns/\0<=at_/\at_<=1000/\1<=h/\∀ (r:Addr) (ss:List Sy) (H':Hp),gI H H' r c h 1 ss->ss.length<=4->Q (.ref r) H'
noncomputable def km (K:Fg):TS:=(aw (aI (fq (aa (cp (aa (tC (.str "sees")) (aa (tOp (rI (fun _ j=>0 < j) fun i j=>.int (i % j)) (au (bg K) [] E0 (aa (ac 0) (aa (ac 1) ah))) (ac 3)) ah))) ah)) (aq 4))
 (aw (dI (fA (aa (tOp (rI N2 fun i j=>.int (i * j)) (tC (.int 3)) (tCB F2 (aa (tOp (rI0 fun i j=>.bl (decide (j < i))) (ac 2) (tC (.int 0))) ah))) ah)) (aq 5) (aw (aI (au (bg K) [] E0 (aa (ac 0) (aa (tOp (rI0 fun i j=>.int (i + j)) (tOp (rI0 fun i j=>.int (i + j)) (ac 1) (tC (.int 1))) (ac 5)) ah))) (aq 6))
 (dw (tBM K "list" gX (ac 4) (aa (cp (aa (tC (.str "holds")) (aa (tOp (rI (fun _ j=>0 < j) fun i j=>.int (i % j)) (ac 6) (tOp (rI0 fun i j=>.int (i + j)) (ac 3) (tC (.int 1)))) (aa (tOp (rI (fun _ j=>0 < j) fun i j=>.int (i % j)) (tOp (rI fE fun i j=>.int (i / j)) (ac 6) (tC (.int 7))) (ac 2)) ah)))) ah)))))
 (aN (ac 4))))
theorem Ag (h:ma K vs H Q E):km K { nx:=fun _ H'=>Q .non H',rt:=Q } (start ["_law_script","_law_at","_law_cards","_law_hands","_law_pool_here","_law_k","_law_cell_here"] vs) H:=by
 obtain ⟨a,ns,at_,c,h,rfl,hSc,ha0,ha1,h1,q⟩:=h
 show km K _ [some _,some _,some _,some _,none,none,none] _
 unfold km
 walk_at "rd"
 refine ⟨a,ns,at_,rfl,hSc,ha0,by omega,?_⟩
 walk_at "rd"
 obtain ⟨k,hk,hk2⟩:=jw (bC ns at_) (m:=(h:Int)) (by omega)
 rw [hk]
 refine ⟨by simp [Lw],fun p1 H1 hp1 s1 e1=>?_⟩
 walk_at "rd"
 refine ⟨by simp [Lw],fun r H2 hr s2 e2=>?_⟩
 have R0:gI H H2 r c h 1 [.sees k]:=⟨s1.trans s2,s1.free hr,⟨_,e2,.cons ⟨p1,rfl,s2 _ _ e1⟩ .nil⟩,by simp,fun s hs=>by rw [Ln] at hs; subst hs; exact ⟨show k < h by omega,Lr _⟩⟩
 walk_at "rd"
 obtain ⟨n,hn,hn3,hnc⟩:∃ n:Nat,((3:Int) * (if decide ((0:Int) < (c:Int))=true then 1 else 0))=(n:Int)/\n<=3/\(c=0->n=0):=by
  by_cases hc:(0:Int) < (c:Int)
  ·exact ⟨3,by rw [if_pos (decide_eq_true hc)]; rfl,Lr _,fun z=>by omega⟩
  ·exact ⟨0,by rw [if_neg (by rw [decide_eq_false hc]; exact LB)]; rfl,by decide,fun _=>rfl⟩
 rw [hn]
 refine j0 n (by omega) (by omega) (by omega) (fun i σ H3=>∃ (ss:List Sy) (v5 v6:Option V),σ=[some (.ref a),some (.int at_),some (.int c),some (.int h),some (.ref r),v5,v6]/\gI H H3 r c h 1 ss/\ss.length=i + 1) ⟨_,none,none,rfl,R0,rfl⟩ ?_ ?_
 ·rintro i σ H3 hi ⟨ss,v5,v6,rfl,R,hl⟩
  have hc:0 < c:=by
   rcases Pa c with z | z
   ·have:=hnc z; omega
   ·exact z
  obtain ⟨xs,e3,px⟩:=R.at_
  have hxl:=gH px
  walk_at "rd"
  refine ⟨a,ns,at_ + 1 + (i:Int),rfl,hSc.same R.same,by omega,by omega,?_⟩
  walk_at "rd"
  refine ⟨yQ e3,?_⟩
  walk_at "rd"
  obtain ⟨k1,hk1,hk12⟩:=jw (bC ns (at_ + 1 + (i:Int))) (m:=(h:Int) + 1) (by omega)
  obtain ⟨k2,hk2',hk22⟩:=jw (bC ns (at_ + 1 + (i:Int)) / 7) (m:=(c:Int)) (by omega)
  rw [hk1,hk2']
  refine ⟨by simp [Lw],fun p4 H4 hp4 s4 e4=>?_⟩
  walk_at "rd"
  refine jZ (s4 _ _ e3) (by rw [Lw]; omega) fun H5 o5 e5=>?_
  exact ⟨_,_,_,rfl,(R.to s4).push (s4 _ _ e3) o5 e5 (s:=.holds k1 k2) ⟨p4,rfl,e4⟩ ⟨by omega,by omega⟩ (Lr _),by rw [LG,hl]; rfl⟩
 ·rintro σ H3 ⟨ss,v5,v6,rfl,R,hl⟩
  walk_at "rd"
  exact q r ss H3 R (by omega)
noncomputable def h9 (c h:Nat) (H:Hp) (x:V):Prop:=∃ s:Sy,aP H x s/\s.Ok c h/\s.words<=63
theorem h9.same {c h:Nat} {H H':Hp} {x:V} (g:h9 c h H x) (s:ap H H'):h9 c h H' x:=by
 obtain ⟨t,i,o,w⟩:=g
 exact ⟨t,i.keep s.keep,o,w⟩
theorem rq {H:Hp}:∀ {l:List V} {m:List Sy},g9 H l m->l≠[]->∃ x y,atI l (-1)=some x/\y∈m/\aP H x y:=by
 intro l m p hne
 have hl:=gH p
 have hp:0 < l.length:=Qd.mpr hne
 obtain ⟨x,hx⟩:∃ x,l[l.length - 1]?=some x:=⟨_,Lo (by omega)⟩
 obtain ⟨y,hy,iy⟩:=mW p hx
 refine ⟨x,y,?_,LA hy,iy⟩
 unfold atI ixN
 rw [if_neg (by decide),if_pos (by omega),show (-1 + (l.length:Int)).toNat=l.length - 1 by omega]
 exact hx
noncomputable def fI (K:Fg):Sp:=fun vs H Q _=>∃ (a:Addr) (ns:List Int) (at_:Int) (c h most:Nat),vs=[.ref a,.int at_,.int c,.int h,.int most]/\fT K H a ns/\0<=at_/\at_<=1000/\1<=h/\h<=5/\1<=most/\most<=30/\∀ (v:V) (s:Sy) (H':Hp),ap H H'->aP H' v s->s.Ok c h->s.words<=most->Q v H'
noncomputable def iI (K:Fg):TS:=(aw (aI (au (ma K) [] E0 (aa (ac 0) (aa (ac 1) (aa (ac 2) (aa (ac 3) ah))))) (aq 5))
 (aw (dI (fA (aa (tOp (rI (fun _ j=>0 < j) fun i j=>.int (i % j)) (au (bg K) [] E0 (aa (ac 0) (aa (tOp (rI0 fun i j=>.int (i + j)) (ac 1) (tC (.int 4))) ah))) (tC (.int 12))) ah)) (aq 6) (aw (aI (au (bg K) [] E0 (aa (ac 0) (aa (tOp (rI0 fun i j=>.int (i + j)) (tOp (rI0 fun i j=>.int (i + j)) (ac 1) (tC (.int 5))) (ac 6)) ah))) (aq 7))
 (aw (aI (tOp (bR K) (ac 5) (tUn (rU fun i=>.int (-i)) (tC (.int 1)))) (aq 8))
 (aw (aI (tOp (bR K) (ac 5) (tOp (rI (fun _ j=>0 < j) fun i j=>.int (i % j)) (tOp (rI fE fun i j=>.int (i / j)) (ac 7) (tC (.int 12))) (tCB (eQ K) (aa (ac 5) ah)))) (aq 9))
 (aw (aI (fq (aa (cp (aa (tC (.str "not")) (aa (ac 8) ah))) (aa (cp (aa (tC (.str "and")) (aa (ac 8) (aa (ac 9) ah)))) (aa (cp (aa (tC (.str "or")) (aa (ac 9) (aa (ac 8) ah)))) (aa (cp (aa (tC (.str "not")) (aa (ac 9) ah))) ah))))) (aq 10))
 (aw (aI (tOp qN (ac 10) (fq (aa (cp (aa (tC (.str "knows")) (aa (tOp (rI (fun _ j=>0 < j) fun i j=>.int (i % j)) (tOp (rI fE fun i j=>.int (i / j)) (ac 7) (tC (.int 7))) (ac 3)) (aa (ac 8) ah)))) (aa (cp (aa (tC (.str "knows")) (aa (tOp (rI (fun _ j=>0 < j) fun i j=>.int (i % j)) (tOp (rI fE fun i j=>.int (i / j)) (ac 7) (tC (.int 7))) (ac 3)) (aa (cp (aa (tC (.str "not")) (aa (ac 8) ah))) ah)))) ah)))) (aq 10))
 (aw (aI (tOp qN (ac 10) (fq (aa (cp (aa (tC (.str "all")) (aa (au (dL K) [] E0 (aa (tOp (rI fE fun i j=>.int (i / j)) (ac 7) (tC (.int 36))) (aa (ac 3) ah))) (aa (ac 8) ah)))) (aa (cp (aa (tC (.str "common")) (aa (au (dL K) [] E0 (aa (tOp (rI fE fun i j=>.int (i / j)) (ac 7) (tC (.int 36))) (aa (ac 3) ah))) (aa (ac 9) ah)))) ah)))) (aq 10))
 (aw (aI (tOp qN (ac 10) (fq (aa (cp (aa (tC (.str "common")) (aa (au (dL K) [] E0 (aa (tOp (rI fE fun i j=>.int (i / j)) (ac 7) (tC (.int 36))) (aa (ac 3) ah))) (aa (ac 8) ah)))) (aa (cp (aa (tC (.str "knows")) (aa (tOp (rI (fun _ j=>0 < j) fun i j=>.int (i % j)) (tOp (rI fE fun i j=>.int (i / j)) (ac 7) (tC (.int 7))) (ac 3)) (aa (ac 9) ah)))) ah)))) (aq 10))
 (aw (aI (tOp qN (ac 10) (fq (aa (cp (aa (tC (.str "and")) (aa (ac 9) (aa (cp (aa (tC (.str "not")) (aa (ac 8) ah))) ah)))) (aa (cp (aa (tC (.str "or")) (aa (ac 8) (aa (cp (aa (tC (.str "knows")) (aa (tOp (rI (fun _ j=>0 < j) fun i j=>.int (i % j)) (tOp (rI fE fun i j=>.int (i / j)) (ac 7) (tC (.int 7))) (ac 3)) (aa (ac 9) ah)))) ah)))) ah)))) (aq 10))
 (bD (bc (tOp (rI0 fun i j=>.bl (decide (i<=j))) (au (eU K 70) [] E0 (aa (tOp (bR K) (ac 10) (tOp (rI (fun _ j=>0 < j) fun i j=>.int (i % j)) (ac 7) (tC (.int 12)))) ah)) (ac 4))) (dw (tBM K "list" gX (ac 5) (aa (tOp (bR K) (ac 10) (tOp (rI (fun _ j=>0 < j) fun i j=>.int (i % j)) (ac 7) (tC (.int 12)))) ah))) bh))))))))))
 (aN (tOp (bR K) (ac 5) (tUn (rU fun i=>.int (-i)) (tC (.int 1)))))))
theorem wN (h:fI K vs H Q E):iI K { nx:=fun _ H'=>Q .non H',rt:=Q } (start ["_law_script","_law_at","_law_cards","_law_hands","_law_most","_law_pool_here","_law_k","_law_cell_here","_law_one","_law_other","_law_some"] vs) H:=by
 obtain ⟨a,ns,at_,c,h,most,rfl,hSc,ha0,ha1,h1,h5,hm1,hm30,q⟩:=h
 show iI K _ [some _,some _,some _,some _,some _,none,none,none,none,none,none] _
 unfold iI
 walk_at "rd"
 refine ⟨a,ns,at_,c,h,rfl,hSc,ha0,ha1,h1,fun r ss0 H1 R0 hl4=>?_⟩
 walk_at "rd"
 refine ⟨a,ns,at_ + 4,rfl,hSc.same R0.same,by omega,by omega,?_⟩
 walk_at "rd"
 have R1:gI H H1 r c h most ss0:=⟨R0.same,R0.new,R0.at_,R0.ne,fun s hs=>⟨(R0.ok s hs).1,by have:=(R0.ok s hs).2; omega⟩⟩
 refine j0 (bC ns (at_ + 4) % 12).toNat rfl (by omega) (by omega) (fun i σ H2=>∃ (ss:List Sy) (v6 v7 v8 v9 v10:Option V),σ=[some (.ref a),some (.int at_),some (.int c),some (.int h),some (.int most),some (.ref r),v6,v7,v8,v9,v10]/\gI H H2 r c h most ss/\ss.length<=4 + i) ⟨ss0,none,none,none,none,none,rfl,R1,by omega⟩ ?_ ?_
 ·rintro i σ H2 hi ⟨ss,v6,v7,v8,v9,v10,rfl,R,hl⟩
  obtain ⟨xs,e2,px⟩:=R.at_
  have hxl:=gH px
  have hne:xs≠[]:=fun z=>R.ne (Ox.mp (by rw [<-hxl,z]; rfl))
  have hpos:0 < xs.length:=Qd.mpr hne
  refine kJ ?_
  dsimp only [Nu,Nv]
  refine bj ?_
  walk_at "rs"
  refine ⟨a,ns,at_ + 5 + (i:Int),rfl,hSc.same R.same,by omega,by omega,?_⟩
  generalize bC ns (at_ + 5 + (i:Int))=z
  walk_at "rs"
  refine bj ?_
  walk_at "rs"
  obtain ⟨x1,s1,hx1,hs1,is1⟩:=rq px hne
  obtain ⟨ok1,w1⟩:=R.ok s1 hs1
  refine bA (SqL.of e2) hx1 ?_
  walk_at "rs"
  refine bj ?_
  walk_at "rs"
  obtain ⟨x2,hx2,hm2⟩:=EH xs (z / 12) rfl hpos
  obtain ⟨j2,hj2⟩:=Se hm2
  obtain ⟨s2,hs2,is2⟩:=mW px hj2
  obtain ⟨ok2,w2⟩:=R.ok s2 (LA hs2)
  refine bA (SqL.of e2) hx2 ?_
  walk_at "rs"
  refine bj ?_
  refine kb ?_
  refine r6 ?_
  refine rj (P:=h9 c h) (fun _ _ _ s g=>g.same s) (H0:=H2) (n:=4) (ap.refl _) ?_ fun ys0 Hy0 sy0 ly0 by0=>?_
  ·skip
   refine GA.cons (fun _ _ _ s g=>g.same s) (n:=3) ?_ ?_
   ·intro H' s' Q q
    have i1:=is1.keep s'.keep
    have i2:=is2.keep s'.keep
    walk_at "rd"
    refine ⟨by simp [Lw],fun p1 G1 hp1 t1 e1=>?_⟩
    have I1:aP G1 (.ref p1) (.not s1):=⟨p1,_,rfl,e1,(aP.keep (ap.keep t1) i1)⟩
    exact q _ _ t1 ⟨_,I1,ok1,by simp only [Sy.words]; omega⟩
   refine GA.cons (fun _ _ _ s g=>g.same s) (n:=2) ?_ ?_
   ·intro H' s' Q q
    have i1:=is1.keep s'.keep
    have i2:=is2.keep s'.keep
    walk_at "rd"
    refine ⟨by simp [Lw],fun p1 G1 hp1 t1 e1=>?_⟩
    have I1:aP G1 (.ref p1) (.and s1 s2):=⟨p1,_,_,rfl,e1,(aP.keep (ap.keep t1) i1),(aP.keep (ap.keep t1) i2)⟩
    exact q _ _ t1 ⟨_,I1,⟨ok1,ok2⟩,by simp only [Sy.words]; omega⟩
   refine GA.cons (fun _ _ _ s g=>g.same s) (n:=1) ?_ ?_
   ·intro H' s' Q q
    have i1:=is1.keep s'.keep
    have i2:=is2.keep s'.keep
    walk_at "rd"
    refine ⟨by simp [Lw],fun p1 G1 hp1 t1 e1=>?_⟩
    have I1:aP G1 (.ref p1) (.or s2 s1):=⟨p1,_,_,rfl,e1,(aP.keep (ap.keep t1) i2),(aP.keep (ap.keep t1) i1)⟩
    exact q _ _ t1 ⟨_,I1,⟨ok2,ok1⟩,by simp only [Sy.words]; omega⟩
   refine GA.cons (fun _ _ _ s g=>g.same s) (n:=0) ?_ ?_
   ·intro H' s' Q q
    have i1:=is1.keep s'.keep
    have i2:=is2.keep s'.keep
    walk_at "rd"
    refine ⟨by simp [Lw],fun p1 G1 hp1 t1 e1=>?_⟩
    have I1:aP G1 (.ref p1) (.not s2):=⟨p1,_,rfl,e1,(aP.keep (ap.keep t1) i2)⟩
    exact q _ _ t1 ⟨_,I1,ok2,by simp only [Sy.words]; omega⟩
   exact GA.nil
  refine ⟨by rw [ly0,Lw]; decide,fun l0 Hl0 hl0 sl0 el0=>?_⟩
  have sL0:ap H2 Hl0:=sy0.trans sl0
  have L0:ys0.length=4:=ly0
  have B0:∀ x∈ys0,h9 c h Hl0 x:=fun x hx=>(by0 x hx).same sl0
  have eL0:=el0
  refine kJ ?_
  dsimp only [Nu,Nv]
  generalize hX0:ys0=X0 at *
  refine bj ?_
  refine kb ?_
  refine tW ?_
  refine oT rfl ?_
  refine r6 ?_
  refine rj (P:=h9 c h) (fun _ _ _ s g=>g.same s) (H0:=H2) (n:=2) sL0 ?_ fun ys1 Hy1 sy1 ly1 by1=>?_
  ·skip
   refine GA.cons (fun _ _ _ s g=>g.same s) (n:=1) ?_ ?_
   ·intro H' s' Q q
    have i1:=is1.keep s'.keep
    have i2:=is2.keep s'.keep
    walk_at "rd"
    obtain ⟨kk1,hk1,hk21⟩:=jw (z / 7) (m:=(h:Int)) (by omega)
    rw [hk1]
    refine ⟨by simp [Lw],fun p1 G1 hp1 t1 e1=>?_⟩
    have I1:aP G1 (.ref p1) (.knows kk1 s1):=⟨p1,_,rfl,e1,(aP.keep (ap.keep t1) i1)⟩
    exact q _ _ t1 ⟨_,I1,⟨by omega,ok1⟩,by simp only [Sy.words]; omega⟩
   refine GA.cons (fun _ _ _ s g=>g.same s) (n:=0) ?_ ?_
   ·intro H' s' Q q
    have i1:=is1.keep s'.keep
    have i2:=is2.keep s'.keep
    walk_at "rd"
    refine ⟨by simp [Lw],fun p1 G1 hp1 t1 e1=>?_⟩
    have I1:aP G1 (.ref p1) (.not s1):=⟨p1,_,rfl,e1,(aP.keep (ap.keep t1) i1)⟩
    walk_at "rd"
    obtain ⟨kk2,hk2,hk22⟩:=jw (z / 7) (m:=(h:Int)) (by omega)
    rw [hk2]
    refine ⟨by simp [Lw],fun p2 G2 hp2 t2 e2=>?_⟩
    have I2:aP G2 (.ref p2) (.knows kk2 (.not s1)):=⟨p2,_,rfl,e2,(aP.keep (ap.keep t2) I1)⟩
    exact q _ _ (t1.trans t2) ⟨_,I2,⟨by omega,ok1⟩,by simp only [Sy.words]; omega⟩
   exact GA.nil
  refine ⟨by rw [ly1,Lw]; decide,fun l1 Hl1 hl1 sl1 el1=>?_⟩
  refine r9 (sl1 _ _ (sy1 _ _ eL0)) el1 (by rw [L0,ly1,Lw]; decide) fun m1 Hm1 hm1 sm1 em1=>?_
  have sA1:=(sy1.trans sl1).trans sm1
  have sL1:ap H2 Hm1:=sL0.trans sA1
  have L1:(X0++ys1).length=6:=by rw [LG,L0,ly1]
  have B1:∀ x∈X0++ys1,h9 c h Hm1 x:=fun x hx=>by
   rcases LR.mp hx with hx | hx
   ·exact (B0 x hx).same sA1
   ·exact (by1 x hx).same (sl1.trans sm1)
  have eL1:=em1
  refine kJ ?_
  dsimp only [Nu,Nv]
  generalize X0++ys1=X1 at L1 B1 eL1
  clear B0 L0 eL0 by1 ly1 el1 em1
  refine bj ?_
  refine kb ?_
  refine tW ?_
  refine oT rfl ?_
  refine r6 ?_
  refine rj (P:=h9 c h) (fun _ _ _ s g=>g.same s) (H0:=H2) (n:=2) sL1 ?_ fun ys2 Hy2 sy2 ly2 by2=>?_
  ·skip
   refine GA.cons (fun _ _ _ s g=>g.same s) (n:=1) ?_ ?_
   ·intro H' s' Q q
    have i1:=is1.keep s'.keep
    have i2:=is2.keep s'.keep
    walk_at "rd"
    refine ⟨_,h,rfl,h5,fun g1 gs1 G1 t1 eg1 pw1 hb1=>?_⟩
    walk_at "rd"
    refine ⟨by simp [Lw],fun p2 G2 hp2 t2 e2=>?_⟩
    have I2:aP G2 (.ref p2) (.all gs1 s1):=⟨p2,g1,_,rfl,e2,t2 _ _ eg1,(aP.keep (ap.keep (t1.trans t2)) i1)⟩
    exact q _ _ (t1.trans t2) ⟨_,I2,⟨⟨pw1,hb1⟩,ok1⟩,by simp only [Sy.words]; omega⟩
   refine GA.cons (fun _ _ _ s g=>g.same s) (n:=0) ?_ ?_
   ·intro H' s' Q q
    have i1:=is1.keep s'.keep
    have i2:=is2.keep s'.keep
    walk_at "rd"
    refine ⟨_,h,rfl,h5,fun g1 gs1 G1 t1 eg1 pw1 hb1=>?_⟩
    walk_at "rd"
    refine ⟨by simp [Lw],fun p2 G2 hp2 t2 e2=>?_⟩
    have I2:aP G2 (.ref p2) (.common gs1 s2):=⟨p2,g1,_,rfl,e2,t2 _ _ eg1,(aP.keep (ap.keep (t1.trans t2)) i2)⟩
    exact q _ _ (t1.trans t2) ⟨_,I2,⟨⟨pw1,hb1⟩,ok2⟩,by simp only [Sy.words]; omega⟩
   exact GA.nil
  refine ⟨by rw [ly2,Lw]; decide,fun l2 Hl2 hl2 sl2 el2=>?_⟩
  refine r9 (sl2 _ _ (sy2 _ _ eL1)) el2 (by rw [L1,ly2,Lw]; decide) fun m2 Hm2 hm2 sm2 em2=>?_
  have sA2:=(sy2.trans sl2).trans sm2
  have sL2:ap H2 Hm2:=sL1.trans sA2
  have L2:(X1++ys2).length=8:=by rw [LG,L1,ly2]
  have B2:∀ x∈X1++ys2,h9 c h Hm2 x:=fun x hx=>by
   rcases LR.mp hx with hx | hx
   ·exact (B1 x hx).same sA2
   ·exact (by2 x hx).same (sl2.trans sm2)
  have eL2:=em2
  refine kJ ?_
  dsimp only [Nu,Nv]
  generalize X1++ys2=X2 at L2 B2 eL2
  clear B1 L1 eL1 by2 ly2 el2 em2
  refine bj ?_
  refine kb ?_
  refine tW ?_
  refine oT rfl ?_
  refine r6 ?_
  refine rj (P:=h9 c h) (fun _ _ _ s g=>g.same s) (H0:=H2) (n:=2) sL2 ?_ fun ys3 Hy3 sy3 ly3 by3=>?_
  ·skip
   refine GA.cons (fun _ _ _ s g=>g.same s) (n:=1) ?_ ?_
   ·intro H' s' Q q
    have i1:=is1.keep s'.keep
    have i2:=is2.keep s'.keep
    walk_at "rd"
    refine ⟨_,h,rfl,h5,fun g1 gs1 G1 t1 eg1 pw1 hb1=>?_⟩
    walk_at "rd"
    refine ⟨by simp [Lw],fun p2 G2 hp2 t2 e2=>?_⟩
    have I2:aP G2 (.ref p2) (.common gs1 s1):=⟨p2,g1,_,rfl,e2,t2 _ _ eg1,(aP.keep (ap.keep (t1.trans t2)) i1)⟩
    exact q _ _ (t1.trans t2) ⟨_,I2,⟨⟨pw1,hb1⟩,ok1⟩,by simp only [Sy.words]; omega⟩
   refine GA.cons (fun _ _ _ s g=>g.same s) (n:=0) ?_ ?_
   ·intro H' s' Q q
    have i1:=is1.keep s'.keep
    have i2:=is2.keep s'.keep
    walk_at "rd"
    obtain ⟨kk1,hk1,hk21⟩:=jw (z / 7) (m:=(h:Int)) (by omega)
    rw [hk1]
    refine ⟨by simp [Lw],fun p1 G1 hp1 t1 e1=>?_⟩
    have I1:aP G1 (.ref p1) (.knows kk1 s2):=⟨p1,_,rfl,e1,(aP.keep (ap.keep t1) i2)⟩
    exact q _ _ t1 ⟨_,I1,⟨by omega,ok2⟩,by simp only [Sy.words]; omega⟩
   exact GA.nil
  refine ⟨by rw [ly3,Lw]; decide,fun l3 Hl3 hl3 sl3 el3=>?_⟩
  refine r9 (sl3 _ _ (sy3 _ _ eL2)) el3 (by rw [L2,ly3,Lw]; decide) fun m3 Hm3 hm3 sm3 em3=>?_
  have sA3:=(sy3.trans sl3).trans sm3
  have sL3:ap H2 Hm3:=sL2.trans sA3
  have L3:(X2++ys3).length=10:=by rw [LG,L2,ly3]
  have B3:∀ x∈X2++ys3,h9 c h Hm3 x:=fun x hx=>by
   rcases LR.mp hx with hx | hx
   ·exact (B2 x hx).same sA3
   ·exact (by3 x hx).same (sl3.trans sm3)
  have eL3:=em3
  refine kJ ?_
  dsimp only [Nu,Nv]
  generalize X2++ys3=X3 at L3 B3 eL3
  clear B2 L2 eL2 by3 ly3 el3 em3
  refine bj ?_
  refine kb ?_
  refine tW ?_
  refine oT rfl ?_
  refine r6 ?_
  refine rj (P:=h9 c h) (fun _ _ _ s g=>g.same s) (H0:=H2) (n:=2) sL3 ?_ fun ys4 Hy4 sy4 ly4 by4=>?_
  ·skip
   refine GA.cons (fun _ _ _ s g=>g.same s) (n:=1) ?_ ?_
   ·intro H' s' Q q
    have i1:=is1.keep s'.keep
    have i2:=is2.keep s'.keep
    walk_at "rd"
    refine ⟨by simp [Lw],fun p1 G1 hp1 t1 e1=>?_⟩
    have I1:aP G1 (.ref p1) (.not s1):=⟨p1,_,rfl,e1,(aP.keep (ap.keep t1) i1)⟩
    walk_at "rd"
    refine ⟨by simp [Lw],fun p2 G2 hp2 t2 e2=>?_⟩
    have I2:aP G2 (.ref p2) (.and s2 (.not s1)):=⟨p2,_,_,rfl,e2,(aP.keep (ap.keep (t1.trans t2)) i2),(aP.keep (ap.keep t2) I1)⟩
    exact q _ _ (t1.trans t2) ⟨_,I2,⟨ok2,ok1⟩,by simp only [Sy.words]; omega⟩
   refine GA.cons (fun _ _ _ s g=>g.same s) (n:=0) ?_ ?_
   ·intro H' s' Q q
    have i1:=is1.keep s'.keep
    have i2:=is2.keep s'.keep
    walk_at "rd"
    obtain ⟨kk1,hk1,hk21⟩:=jw (z / 7) (m:=(h:Int)) (by omega)
    rw [hk1]
    refine ⟨by simp [Lw],fun p1 G1 hp1 t1 e1=>?_⟩
    have I1:aP G1 (.ref p1) (.knows kk1 s2):=⟨p1,_,rfl,e1,(aP.keep (ap.keep t1) i2)⟩
    walk_at "rd"
    refine ⟨by simp [Lw],fun p2 G2 hp2 t2 e2=>?_⟩
    have I2:aP G2 (.ref p2) (.or s1 (.knows kk1 s2)):=⟨p2,_,_,rfl,e2,(aP.keep (ap.keep (t1.trans t2)) i1),(aP.keep (ap.keep t2) I1)⟩
    exact q _ _ (t1.trans t2) ⟨_,I2,⟨ok1,⟨by omega,ok2⟩⟩,by simp only [Sy.words]; omega⟩
   exact GA.nil
  refine ⟨by rw [ly4,Lw]; decide,fun l4 Hl4 hl4 sl4 el4=>?_⟩
  refine r9 (sl4 _ _ (sy4 _ _ eL3)) el4 (by rw [L3,ly4,Lw]; decide) fun m4 Hm4 hm4 sm4 em4=>?_
  have sA4:=(sy4.trans sl4).trans sm4
  have sL4:ap H2 Hm4:=sL3.trans sA4
  have L4:(X3++ys4).length=12:=by rw [LG,L3,ly4]
  have B4:∀ x∈X3++ys4,h9 c h Hm4 x:=fun x hx=>by
   rcases LR.mp hx with hx | hx
   ·exact (B3 x hx).same sA4
   ·exact (by4 x hx).same (sl4.trans sm4)
  have eL4:=em4
  refine kJ ?_
  dsimp only [Nu,Nv]
  generalize X3++ys4=X4 at L4 B4 eL4
  clear B3 L3 eL3 by4 ly4 el4 em4
  obtain ⟨y,hy,my⟩:=EH X4 z (m:=12) L4 (by decide)
  obtain ⟨sy,iy,oky,wy⟩:=B4 y my
  have R4:=R.to sL4
  have e24:=sL4 _ _ e2
  walk_at "rd"
  refine bA (SqL.of eL4) hy ?_
  walk_at "rd"
  refine ⟨y,sy,rfl,iy,by omega,fun H5 s5=>?_⟩
  walk_at "rd"
  refine dE (fun cm=>?_) (fun cm=>?_)
  ·walk_at "rd"
   refine ⟨yQ (s5 _ _ e24),?_⟩
   walk_at "rd"
   refine bA (SqL.of (s5 _ _ eL4)) hy ?_
   walk_at "rd"
   refine jZ (s5 _ _ e24) (by rw [Lw]; omega) fun H6 o6 e6=>?_
   exact ⟨_,_,_,_,_,_,rfl,(R4.to s5).push (s5 _ _ e24) o6 e6 (iy.keep s5.keep) oky (by omega),by rw [LG]; show ss.length + 1<=_; omega⟩
  ·walk_at "rd"
   exact ⟨_,_,_,_,_,_,rfl,R4.to s5,by omega⟩
 ·rintro σ H2 ⟨ss,v6,v7,v8,v9,v10,rfl,R,hl⟩
  obtain ⟨xs,e2,px⟩:=R.at_
  have hxl:=gH px
  have hne:xs≠[]:=fun z=>R.ne (Ox.mp (by rw [<-hxl,z]; rfl))
  obtain ⟨x1,s1,hx1,hs1,is1⟩:=rq px hne
  walk_at "rd"
  exact bA (SqL.of e2) hx1 (q x1 s1 H2 R.same is1 (R.ok s1 hs1).1 (R.ok s1 hs1).2)
end
section
variable {K:Fg} {vs:List V} {H:Hp} {Q:VK} {E:XK}
open KF
noncomputable def iaR:IA->V
 | none=>.non
 | some c=>.int c
theorem KY (a:IA):iaV (iaR a)=some a:=by cases a <;> rfl
noncomputable def wAt (w:List Nat) (c:Int):Int:=(w.getD c.toNat 0:Nat)
noncomputable def fi (w:List Nat) (h:Int) (cs:List Int) (a:IA):Prop:=
 (a=none/\∀ c∈cs,wAt w c≠h)\/∃ c,a=some c/\c∈cs/\wAt w c=h/\∀ d∈cs,wAt w d=h->c<=d
theorem fi.uniq {w:List Nat} {h:Int} {cs ds:List Int} (m:∀ y,y∈cs↔y∈ds) {a b:IA} (x:fi w h cs a) (y:fi w h ds b):a=b:=by
 rcases x with ⟨rfl,x⟩ | ⟨c,rfl,x1,x2,x3⟩
 ·rcases y with ⟨rfl,_⟩ | ⟨d,rfl,y1,y2,_⟩
  ·rfl
  ·exact absurd y2 (x d ((m d).mpr y1))
 ·rcases y with ⟨rfl,y⟩ | ⟨d,rfl,y1,y2,y3⟩
  ·exact absurd x2 (y c ((m c).mp x1))
  ·have h1:=x3 d ((m d).mpr y1) y2
   have h2:=y3 c ((m c).mp x1) x2
   rw [show c=d by omega]
theorem fi.skip {w:List Nat} {h c:Int} {cs:List Int} {a:IA} (x:fi w h cs a) (e:wAt w c≠h):fi w h (cs++[c]) a:=by
 rcases x with ⟨rfl,x⟩ | ⟨d,rfl,x1,x2,x3⟩
 ·refine .inl ⟨rfl,fun y hy=>?_⟩
  rcases LR.mp hy with z | z
  ·exact x y z
  ·rw [Ln.mp z]
   exact e
 ·refine .inr ⟨d,rfl,MT _ x1,x2,fun y hy hz=>?_⟩
  rcases LR.mp hy with z | z
  ·exact x3 y z hz
  ·rw [Ln.mp z] at hz
   exact absurd hz e
theorem fi.put {w:List Nat} {h c:Int} {cs:List Int} {a:IA} (x:fi w h cs a) (e:wAt w c=h) (lt:∀ d,a=some d->c < d):fi w h (cs++[c]) (some c):=by
 refine .inr ⟨c,rfl,L7 _ (Ln.mpr rfl),e,fun y hy hz=>?_⟩
 rcases LR.mp hy with z | z
 ·rcases x with ⟨rfl,x⟩ | ⟨d,rfl,x1,x2,x3⟩
  ·exact absurd hz (x y z)
  ·have:=lt d rfl
   have:=x3 y z hz
   omega
 ·rw [Ln.mp z]
  exact Int.le_refl _
theorem fi.stay {w:List Nat} {h c d:Int} {cs:List Int} (x:fi w h cs (some d)) (e:¬ c < d):fi w h (cs++[c]) (some d):=by
 rcases x with ⟨z,_⟩ | ⟨d',z,x1,x2,x3⟩
 ·cases z
 ·cases z
  refine .inr ⟨d,rfl,MT _ x1,x2,fun y hy hz=>?_⟩
  rcases LR.mp hy with z | z
  ·exact x3 y z hz
  ·rw [Ln.mp z]
   omega
theorem Gx {w:List Nat} {c:Int} (h0:0<=c) (h1:c < w.length):atI (ax w) c=some (.int (wAt w c)):=by
 obtain ⟨n,rfl⟩:∃ n:Nat,c=(n:Int):=⟨c.toNat,by omega⟩
 have hn:n < w.length:=by omega
 refine dz ?_
 unfold wAt ax
 rw [LD,Lo hn]
 simp [LJ,Lo hn]
noncomputable def kY (_:Fg):Sp:=fun vs H Q _=>∃ (t p:Addr) (w:List Nat) (h:Int) (ms:List Int),vs=[.ref t,.int h,.ref p]/\H t=some (.tup (ax w))/\H p=some (.lst (ms.map V.int))/\ms.Pairwise (· < ·)/\(∀ c∈ms,0<=c/\c < w.length)/\
 ∀ a,fi w h ms a->Q (iaR a) H
noncomputable def jz (K:Fg):TS:=(aw (dI (dc K (ac 2)) (aq 3) (bD (bc (tOp rEq (tOp (bU K) (ac 0) (ac 3)) (ac 1))) (aN (ac 3)) bh))
 (aN (tC .non)))
theorem xY (h:kY K vs H Q E):jz K { nx:=fun _ H'=>Q .non H',rt:=Q } (start ["deal","holder","rising","card"] vs) H:=by
 obtain ⟨t,p,w,h,ms,rfl,et,ep,pw,hb,q⟩:=h
 show jz K _ [some _,some _,some _,none] _
 unfold jz
 walk_at "rd"
 refine lL (ms.map V.int) (SqL.of ep) (fun i σ' H2=>∃ u:Option V,σ'=[some (.ref t),some (.int h),some (.ref p),u]/\H2=H/\∀ c∈ms.take i,wAt w c≠h) ⟨none,rfl,rfl,fun c hc=>by simp at hc⟩ ?_ ?_ ?_
 ·rintro i σ' H2 hi ⟨u,rfl,rfl,_⟩
  exact SqL.of ep
 ·rintro i x σ' H2 hx ⟨u,rfl,rfl,hn⟩
  rw [LD] at hx
  obtain ⟨c,hc,rfl⟩:=RJ.mp hx
  have hm:c∈ms:=LA hc
  walk_at "rd"
  refine ba (SqT.of et) (Gx (hb c hm).1 (hb c hm).2) ?_
  walk_at "rd"
  by_cases e:wAt w c=h
  ·rw [if_pos (decide_eq_true e)]
   walk_at "rd"
   refine q (some c) (.inr ⟨c,rfl,hm,e,fun d hd he=>?_⟩)
   obtain ⟨j,hj⟩:=Se hd
   obtain ⟨hi1,hi2⟩:=Ls.mp hc
   obtain ⟨hj1,hj2⟩:=Ls.mp hj
   rcases QT j i with z | z | z
   ·exact absurd he (hn d (PL.mpr ⟨j,by rw [Q5 z]; exact hj⟩))
   ·subst z
    rw [<-hi2,<-hj2]
    exact Int.le_refl _
   ·have:=Og.mp pw i j hi1 hj1 z
    rw [hi2,hj2] at this
    omega
  ·rw [if_neg (by rw [decide_eq_false e]; exact LB)]
   walk_at "rd"
   refine ⟨_,rfl,rfl,fun d hd=>?_⟩
   rw [M4,hc] at hd
   rcases LR.mp hd with z | z
   ·exact hn d z
   ·rw [Ln.mp z]
    exact e
 ·rintro σ' H2 ⟨u,rfl,rfl,hn⟩
  walk_at "rd"
  rw [Lp,Me] at hn
  exact q none (.inl ⟨rfl,hn⟩)
noncomputable def bN (_:Fg):Sp:=fun vs H Q _=>∃ z:Str,vs=[.bl true,.str z]/\Q .non H
noncomputable def gA (K:Fg):TS:=(bD (iu (tB (ac 0))) qz bh)
theorem uh (h:bN K vs H Q E):gA K { nx:=fun _ H'=>Q .non H',rt:=Q } (start ["fit","reason"] vs) H:=by
 obtain ⟨z,rfl,q⟩:=h
 show gA K _ [some _,some _] _
 unfold gA
 walk_at "rd"
 exact q
noncomputable def md (_:Fg):Sp:=fun vs H Q _=>∃ (p:Addr) (ns:List Int) (c:Int),vs=[.ref p,.int c]/\H p=some (.lst (ns.map V.int))/\ns.length<=1000/\(∀ n∈ns,0<=n/\n < c)/\∀ H',ap H H'->Q (.bl true) H'
noncomputable def kn (K:Fg):TS:=(aN (oI (tCB (lT K) (aa (ac 0) (aa (tC (.ty "list")) ah))) (tCB (Cu K) (aa (bW (dc K (ac 0)) (fun _ _ _ _=>(aq 0)) (fun _ _ _ _=>bM) (fun _ _ _ _=>(au (cq K) [] E0 (aa (ac 0) (aa (ac 1) ah)))) [none,some 1]) ah))))
theorem Ah (h:md K vs H Q E):kn K { nx:=fun _ H'=>Q .non H',rt:=Q } (start ["thing","cards"] vs) H:=by
 obtain ⟨p,ns,c,rfl,ep,hl,hb,q⟩:=h
 show kn K _ [some _,some _] _
 unfold kn
 walk_at "rd"
 refine ly (.lst ep) (tj K) ?_
 walk_at "rd"
 refine gp (ns.map V.int) (SqL.of ep) (by rw [Lp]; omega) (fun i acc _=>acc=(Mf i true).map V.bl) (fun _ _=>rfl) ?_ ?_
 ·rintro p' hp' C s' H' fp i x acc H2 hx ⟨s2,e2,l2,rfl⟩
  obtain ⟨z,hz,rfl⟩:=EW hx
  have ⟨b1,b2⟩:=hb z (LA hz)
  walk_at "rd"
  refine ⟨z,c,rfl,?_⟩
  rw [fh b1 (show z<=c - 1 by omega)]
  exact bu.put hp' (fun i acc H H' r k=>r) s2 e2 l2 (by rw [OU,LS]; rfl)
 ·rintro p' acc H2 hp' s2 e2 rfl
  walk_at "rd"
  refine ⟨p',Mf ns.length true,rfl,SqL.of (by rw [e2,Lp]),?_⟩
  have ha:(Mf ns.length true).all id=true:=by simp
  rw [ha]
  exact q H2 s2
theorem kP {K:Fg} {ta tv:TE} {f:Str} {D:jW} {σ:St} {H:Hp} (h:tv σ H fun y H1=>ta σ H1 fun x H2=>∃ a C dx fs,x=.ref a/\H2 a=some (.ins C dx fs)/\Cls K C/\fb K C f/\fs.length < 1000/\D.nx σ (upd H2 a (.ins C dx (gF f y fs)))):ny K ta tv f D σ H:=h
theorem cy {K:Fg} {ta:TE} {f:Str} {σ:St} {H:Hp} {Q:VK} (h:ta σ H fun x H1=>∃ a C dx fs v,x=.ref a/\H1 a=some (.ins C dx fs)/\Cls K C/\fb K C f/\fs.lookup f=some v/\Q v H1):cW K ta f σ H Q:=h
theorem Ai {C:Addr} {sp:Sp} {dvs:List V} {E:XK} {t:TA} {σ:St} {H:Hp} {Q:VK} (h:t σ H fun vs H1=>∀ x dx,H1 x=none->H1 dx=none->dx≠x->sp (.ref x :: (vs++dvs)) (upd (upd H1 dx (.own x)) x (.ins C dx [])) (fun v H2=>v=.non/\Q (.ref x) H2) E):rV C sp dvs E t σ H Q:=h
theorem eI {C:Addr} {m:Str} {sp:Sp} {dvs:List V} {E:XK} {ta:TE} {t:TA} {σ:St} {H:Hp} {Q:VK} (h:ta σ H fun x H1=>∃ a dx fs,x=.ref a/\H1 a=some (.ins C dx fs)/\fs.lookup m=none/\t σ H1 fun vs H2=>sp (x :: (vs++dvs)) H2 Q E):dy C m sp dvs E ta t σ H Q:=h
noncomputable def Kx (x:Addr) (H H':Hp):Prop:=∀ b o,b≠x->H b=some o->H' b=some o
theorem Kx.refl (x:Addr) (H:Hp):Kx x H H:=fun _ _ _ e=>e
theorem Kx.same {x:Addr} {H H1 H2:Hp} (k:Kx x H H1) (s:ap H1 H2):Kx x H H2:=fun b o n e=>s _ _ (k b o n e)
theorem Kx.upd {x:Addr} {H H1:Hp} {u:HO} (k:Kx x H H1):Kx x H (L2.upd H1 x u):=fun b o n e=>by rw [aO n]; exact k b o n e
theorem gJ {H H':Hp} {x p:Addr} {ws:List (List Nat)} {C dx:Addr} {fs:List (Str×V)} (D:bB H p ws) (hx:H x=some (.ins C dx fs)) (k:Kx x H H'):bB H' p ws:=by
 obtain ⟨rs,e,hr⟩:=D
 refine ⟨rs,k _ _ (fun z=>by rw [z,hx] at e; cases e) e,Paired.mapP hr fun a w e=>k _ _ (fun z=>by rw [z,hx] at e; cases e) e⟩
theorem jA {H:Hp} {x b:Addr} {C dx:Addr} {fs:List (Str×V)} {xs:List V} (hx:H x=some (.ins C dx fs)) (e:H b=some (.lst xs)):b≠x:=fun z=>by rw [z,hx] at e; cases e
theorem mZ {R:Hp->Prop} {H:Hp} {a C dx:Addr} {fs:List (Str×V)} (h:∀ H3,Kx a H H3->H3 a=some (.ins C dx fs)->R H3):R (upd H a (.ins C dx fs)):=h _ (Kx.upd (Kx.refl _ _)) az
structure Kp (M:List Addr) (H H':Hp):Prop where
 k:∀ b o,H b=some o->(b∉M\/∀ xs,o≠.lst xs)->H' b=some o
 f:∀ b,H' b=none->H b=none
theorem Kp.of {M:List Addr} {H H':Hp} (s:ap H H'):Kp M H H':=⟨fun b o e _=>s b o e,fun b h=>s.free h⟩
theorem Kp.trans {M:List Addr} {H H1 H2:Hp} (a:Kp M H H1) (b:Kp M H1 H2):Kp M H H2:=⟨fun x o e h=>b.k x o (a.k x o e h) h,fun x h=>a.f x (b.f x h)⟩
theorem Kp.mono {M N:List Addr} {H H':Hp} (a:Kp M H H') (h:∀ b∈M,b∈N):Kp N H H':=⟨fun x o e q=>a.k x o e (q.imp (fun n m=>n (h x m)) id),a.f⟩
theorem Kp.keep {M:List Addr} {H H':Hp} (a:Kp M H H'):dJ H H':=fun b xs e=>a.k b _ e (.inr fun _ z=>nomatch z)
theorem Kp.tup {M:List Addr} {H H':Hp} (a:Kp M H H') {b:Addr} {xs:List V} (e:H b=some (.tup xs)):H' b=some (.tup xs):=a.keep _ _ e
theorem Kp.ins {M:List Addr} {H H':Hp} (a:Kp M H H') {b C dx:Addr} {fs:List (Str×V)} (e:H b=some (.ins C dx fs)):H' b=some (.ins C dx fs):=a.k b _ e (.inr fun _ z=>nomatch z)
theorem Kp.lst {M:List Addr} {H H':Hp} (a:Kp M H H') {b:Addr} {o:HO} (n:b∉M) (e:H b=some o):H' b=some o:=a.k b _ e (.inl n)
theorem Kp.new {M:List Addr} {H0 H H':Hp} (s:ap H0 H) (a:Kp M H H') (h:∀ b∈M,H0 b=none):ap H0 H':=fun b o e=>a.lst (fun m=>by rw [h b m] at e; cases e) (s b o e)
theorem Kp.upd {M:List Addr} {H H':Hp} {l:Addr} {xs ys:List V} (a:Kp M H H') (e:H' l=some (.lst xs)) (hl:l∈M):Kp M H (L2.upd H' l (.lst ys)):=⟨fun b o q n=>by
 by_cases z:b=l
 ·subst z
  have:=a.k _ _ q n
  rw [e] at this
  cases this
  rcases n with n | n
  ·exact absurd hl n
  ·exact absurd rfl (n _)
 ·rw [aO z]
  exact a.k b o q n,fun b h=>by
 by_cases z:b=l
 ·subst z
  rw [az] at h
  cases h
 ·rw [aO z] at h
  exact a.f b h⟩
theorem Kp.off {M:List Addr} {H H1 H2:Hp} {l:Addr} {xs ys:List V} (a:Kp M H H1) (e:H1 l=some (.lst xs)) (hl:l∈M) (o:Off l H1 H2) (e2:H2 l=some (.lst ys)):Kp M H H2:=by
 have:H2=L2.upd H1 l (.lst ys):=by
  funext b
  by_cases z:b=l
  ·subst z; rw [az]; exact e2
  ·rw [aO z]; exact o b z
 rw [this]
 exact a.upd e hl
noncomputable def vx (M:List Addr) (H:Hp) (d:V) (m:List Nat×List V):Prop:=∃ t h v,d=.ref t/\H t=some (.tup [.ref h,.ref v])/\H h=some (.tup (ax m.1))/\H v=some (.lst m.2)/\v∉M
theorem vx.kp {M N:List Addr} {H H':Hp} {d:V} {m:List Nat×List V} (h:vx M H d m) (a:Kp N H H') (hn:∀ b∈N,b∈M):vx M H' d m:=by
 obtain ⟨t,x,v,e,h1,h2,h3,h4⟩:=h
 exact ⟨t,x,v,e,a.tup h1,a.tup h2,a.lst (fun z=>h4 (hn _ z)) h3,h4⟩
noncomputable def ui (pd ps pv pe:Addr) (T:TM):List (Str×V):=[("dealt",.ref pd),("cards",.int T.c),("sizes",.ref ps),("hands",.int T.k),("views",.ref pv),("deeds",.ref pe)]
structure TbX (G:GF) (M:List Addr) (H:Hp) (x pv pe:Addr) (T:TM) (dx pd ps:Addr) (qs:List Addr) (es:List V):Prop where
 hx:H x=some (.ins G.Table dx (ui pd ps pv pe T))
 dl:bB H pd T.ws
 nd:pd∉M
 sz:H ps=some (.lst (ax T.ss))
 ns:ps∉M
 vs:H pv=some (.lst (qs.map V.ref))
 qv:Paired (fun (q:Addr) (v:List Nat)=>H q=some (.lst (ax v))/\q∉M) qs T.vw
 pes:H pe=some (.lst es)
 ed:Paired (vx M H) es T.ds
structure Tb (G:GF) (M:List Addr) (H:Hp) (x pv pe:Addr) (T:TM):Prop where
 ok:T.Ok
 ex:∃ dx pd ps qs es,TbX G M H x pv pe T dx pd ps qs es
 ne:pv≠pe
 mv:pv∈M
 me:pe∈M
 al:∀ b∈M,H b≠none
theorem bB.kp {M:List Addr} {H H':Hp} {p:Addr} {ws:List (List Nat)} (d:bB H p ws) (a:Kp M H H') (n:p∉M):bB H' p ws:=d.to' a.keep fun rs e=>a.lst n e
theorem Tb.kp {G:GF} {M N:List Addr} {H H':Hp} {x pv pe:Addr} {T:TM} (t:Tb G M H x pv pe T) (a:Kp N H H') (hn:∀ b∈N,b∈M) (n1:pv∉N) (n2:pe∉N):Tb G M H' x pv pe T:=by
 obtain ⟨dx,pd,ps,qs,es,X⟩:=t.ex
 exact ⟨t.ok,⟨dx,pd,ps,qs,es,a.ins X.hx,X.dl.kp a fun z=>X.nd (hn _ z),X.nd,a.lst (fun z=>X.ns (hn _ z)) X.sz,X.ns,a.lst n1 X.vs,Paired.mapP X.qv fun _ _ ⟨e,n⟩=>⟨a.lst (fun z=>n (hn _ z)) e,n⟩,a.lst n2 X.pes,Paired.mapP X.ed fun _ _ h=>h.kp a hn⟩,t.ne,t.mv,t.me,fun b hb z=>t.al b hb (a.f b z)⟩
theorem Tb.same {G:GF} {M:List Addr} {H H':Hp} {x pv pe:Addr} {T:TM} (t:Tb G M H x pv pe T) (s:ap H H'):Tb G M H' x pv pe T:=t.kp (N:=[]) (Kp.of s) (fun _ z=>nomatch z) (fun z=>nomatch z) (fun z=>nomatch z)
theorem Tb.grow {G:GF} {M N:List Addr} {H:Hp} {x pv pe:Addr} {T:TM} (t:Tb G M H x pv pe T) {H':Hp} (s:ap H H') (hn:∀ b∈N,H b=none) (ha:∀ b∈N,H' b≠none):Tb G (N++M) H' x pv pe T:=by
 obtain ⟨dx,pd,ps,qs,es,X⟩:=t.ex
 have go:∀ {b:Addr} {o:HO},H b=some o->b∉M->b∉N++M:=fun e n z=>by
  rcases LR.mp z with z | z
  ·rw [hn _ z] at e; cases e
  ·exact n z
 have hd:pd∉N++M:=by
  obtain ⟨rs,e,_⟩:=X.dl
  exact go e X.nd
 exact ⟨t.ok,⟨dx,pd,ps,qs,es,s _ _ X.hx,X.dl.same' s,hd,s _ _ X.sz,go X.sz X.ns,s _ _ X.vs,Paired.mapP X.qv fun _ _ ⟨e,n⟩=>⟨s _ _ e,go e n⟩,s _ _ X.pes,Paired.mapP X.ed fun _ _ ⟨t,h,v,e,h1,h2,h3,h4⟩=>⟨t,h,v,e,s _ _ h1,s _ _ h2,s _ _ h3,go h3 h4⟩⟩,t.ne,L7 _ t.mv,L7 _ t.me,fun b hb=>by
  rcases LR.mp hb with z | z
  ·exact ha b z
  ·intro y
   exact t.al b z (s.free y)⟩
theorem Tb.off {G:GF} {M:List Addr} {H:Hp} {x pv pe:Addr} {T:TM} (t:Tb G M H x pv pe T) {p:Addr} (h:H p=none):p∉M:=fun z=>t.al p z h
theorem Tb.at {G:GF} {M:List Addr} {H:Hp} {x pv pe:Addr} {T:TM} (t:Tb G M H x pv pe T) (m:Str) (h1:(m == "dealt")=false) (h2:(m == "cards")=false) (h3:(m == "sizes")=false) (h4:(m == "hands")=false) (h5:(m == "views")=false) (h6:(m == "deeds")=false):∃ dx fs,H x=some (.ins G.Table dx fs)/\fs.lookup m=none:=by
 obtain ⟨dx,pd,ps,qs,es,X⟩:=t.ex
 refine ⟨dx,_,X.hx,?_⟩
 simp only [ui,OF,h1,h2,h3,h4,h5,h6]
noncomputable def cz (_:Fg) (G:GF):Sp:=fun vs H Q _=>∃ (M:List Addr) (x dx a:Addr) (c:Nat) (ss:List Nat),vs=[.ref x,.int c,.ref a]/\H x=some (.ins G.Table dx [])/\H a=some (.lst (ax ss))/\pb c ss/\KM.cx c ss<=2000/\(∀ b∈M,H b≠none)/\x∉M/\
 ∀ (H':Hp) (pv pe:Addr),Kx x H H'->H pv=none->H pe=none->Tb G (pv :: pe :: M) H' x pv pe (TM.begun c ss)->Q .non H'
noncomputable def jB (K:Fg) (G:GF):TS:=(aw (ny K (ac 0) (au (kf K) [] E0 (aa (ac 1) (aa (ac 2) ah))) "dealt")
 (aw (ny K (ac 0) (ac 1) "cards")
 (aw (ny K (ac 0) (tCB (gG K) (aa (ac 2) ah)) "sizes")
 (aw (ny K (ac 0) (tCB (eQ K) (aa (ac 2) ah)) "hands")
 (aw (ny K (ac 0) (bW (fA (aa (cW K (ac 0) "hands") ah)) (fun _ _ _ _=>(aq 0)) (fun _ _ _ _=>bM) (fun _ _ _ _=>(au (kU K) [] E0 (aa (cW K (ac 1) "dealt") (aa (ac 0) ah)))) [none,some 0]) "views")
 (ny K (ac 0) (fq ah) "deeds"))))))
noncomputable abbrev Aj:List Str:=["self","cards","sizes"]
theorem Ak {α β:Type} {F:α->β->Prop} {l:List α} {m:List β} {a:α} {b:β} (h:Paired F l m) (q:F a b):Paired F (l++[a]) (m++[b]):=by
 induction h with
 | nil=>exact .cons q .nil
 | cons x _ ih=>exact .cons x ih
theorem Al {R:Addr->List Nat->Prop}:∀ {acc:List V} {f:Nat->List Nat},(∀ j:Nat,j < acc.length->∃ q,acc[j]?=some (.ref q)/\R q (f j))->∃ qs:List Addr,acc=qs.map V.ref/\Paired R qs ((LU acc.length).map f)
 | [],_,_=>⟨[],rfl,.nil⟩
 | x :: acc,f,h=>by
  obtain ⟨qs,e,p⟩:=Al (acc:=acc) (f:=fun j=>f (j + 1)) fun j hj=>by
   obtain ⟨q,h1,h2⟩:=h (j + 1) (by rw [LX]; omega)
   exact ⟨q,by simpa using h1,h2⟩
  obtain ⟨q,h1,h2⟩:=h 0 (by simp)
  refine ⟨q :: qs,by rw [LI,<-e]; exact congrArg (· :: acc) (by simpa using h1),?_⟩
  rw [LX,RG,LI,N5]
  exact .cons h2 p
theorem xZ {K:Fg} {G:GF} (ct:nI K G.Table) {vs:List V} {H:Hp} {Q:VK} {E:XK} (h:cz K G vs H Q E):jB K G { nx:=fun _ H'=>Q .non H',rt:=Q } (start Aj vs) H:=by
 obtain ⟨M,x,dx,a,c,ss,rfl,hx,e,pk,hm,hM,hxM,q⟩:=h
 have nk:∀ {H1:Hp} {b:Addr} {fs:List (Str×V)},Kx x H H1->H1 x=some (.ins G.Table dx fs)->H1 b=none->H b=none:=fun {H1 b fs} kk ex eb=>by
  cases e:H b with
  | none=>rfl
  | some o=>
   by_cases z:b=x
   ·rw [z,ex] at eb; cases eb
   ·rw [kk _ _ z e] at eb; cases eb
 have h5:=pk.l5
 have nxa:a≠x:=fun z=>by rw [z,hx] at e; cases e
 show jB K G _ [some _,some _,some _] _
 unfold jB
 refine bj (kP ?_)
 walk_at "rd"
 refine ⟨c,a,ss,rfl,e,pk,hm,fun p H1 s1 hp D1=>?_⟩
 have okT:=TM.Ok.begun pk hm
 have hws:∀ w∈KM.cG (ss++[c - ss.sum]) c,w.length<=1000:=fun w hw=>by
  have:=(KM.iD _ c w hw).len
  have:=pk.c12
  omega
 have hwl:(KM.cG (ss++[c - ss.sum]) c).length<=2000:=by rw [KM.nD pk.sum]; exact hm
 obtain ⟨ws,hWs⟩:∃ ws,ws=KM.cG (ss++[c - ss.sum]) c:=⟨_,rfl⟩
 rw [<-hWs] at hws hwl D1
 walk_at "rd"
 refine ⟨x,G.Table,dx,[],rfl,s1 _ _ hx,ct.cl,ct.n1,by simp,mZ fun H2 l2 x2=>?_⟩
 have k2:Kx x H H2:=fun b o n e=>l2 _ _ n (s1 _ _ e)
 have D2:=gJ D1 (s1 _ _ hx) l2
 refine bj (kP ?_)
 walk_at "rd"
 refine ⟨x,G.Table,dx,_,rfl,x2,ct.cl,ct.n2,NP rfl,mZ fun H3 l3 x3=>?_⟩
 have k3:Kx x H H3:=fun b o n e=>l3 _ _ n (k2 _ _ n e)
 have D3:=gJ D2 x2 l3
 refine bj (kP ?_)
 walk_at "rd"
 refine jl (SqL.of (k3 _ _ nxa e)) fun l4 H4 hl4 s4 e4=>?_
 have nxl:l4≠x:=jA (s4 _ _ x3) e4
 walk_at "rd"
 refine ⟨x,G.Table,dx,_,rfl,s4 _ _ x3,ct.cl,ct.n3,NP rfl,mZ fun H5 l5 x5=>?_⟩
 have k5:Kx x H H5:=fun b o n e=>l5 _ _ n (s4 _ _ (k3 _ _ n e))
 have D5:=gJ (D3.same' s4) (s4 _ _ x3) l5
 have a5:=k5 _ _ nxa e
 refine bj (kP ?_)
 walk_at "rd"
 rw [bi]
 refine ⟨x,G.Table,dx,_,rfl,x5,ct.cl,ct.n4,NP rfl,mZ fun H6 l6 x6=>?_⟩
 have k6:Kx x H H6:=fun b o n e=>l6 _ _ n (k5 _ _ n e)
 have D6:=gJ D5 x5 l6
 have e46:H6 l4=some (.lst (ax ss)):=l6 _ _ nxl (l5 _ _ nxl e4)
 refine bj (kP ?_)
 walk_at "rd"
 refine cy ?_
 walk_at "rd"
 refine ⟨x,G.Table,dx,_,_,rfl,x6,ct.cl,ct.n4,rfl,?_⟩
 walk_at "rd"
 refine rh ss.length (by omega) (by omega) (by omega) (fun p' i acc H2=>acc.length=i/\∀ j:Nat,j < i->∃ q,acc[j]?=some (.ref q)/\(q≠p'/\q∉M)/\H2 q=some (.lst (ax (lY ws (j:Int))))) (fun _ _ _=>⟨rfl,fun j hj=>absurd hj (P5 _)⟩) ?_ ?_
 ·intro p' hp' C s' H' fp i acc H7 hi ⟨s7,e7,l7,r7⟩
  walk_at "rd"
  refine cy ?_
  walk_at "rd"
  refine ⟨x,G.Table,dx,_,_,rfl,s7 _ _ x6,ct.cl,ct.n1,rfl,?_⟩
  walk_at "rd"
  refine ⟨p,ws,(i:Int),rfl,D6.same' s7,hws,by omega,fun q8 H8 hq8 s8 e8=>?_⟩
  obtain ⟨r1,r2⟩:=r7
  refine bu.putW hp' (s7.trans s8) (s8 _ _ e7) l7 fun H9 o9=>⟨by rw [LG,r1]; rfl,fun j hj=>?_⟩
  by_cases hj2:j < i
  ·obtain ⟨q,h1,h2,h3⟩:=r2 j hj2
   exact ⟨q,by rw [NQ (by omega)]; exact h1,h2,(o9 _ h2.1).trans (s8 _ _ h3)⟩
  ·have ej:j=i:=by omega
   subst ej
   have hqp:q8≠p':=fun z=>by rw [z,e7] at hq8; cases hq8
   exact ⟨q8,by rw [Nd (by omega),r1,OP]; rfl,⟨hqp,fun z=>hM _ z (nk (k6.same s7) (s7 _ _ x6) hq8)⟩,(o9 _ hqp).trans e8⟩
 ·intro pv acc H7 hpv s7 e7 ⟨r1,r2⟩
  walk_at "rd"
  refine ⟨x,G.Table,dx,_,rfl,s7 _ _ x6,ct.cl,ct.n5,NP rfl,mZ fun H8 kk x8=>?_⟩
  have k8:Kx x H H8:=fun b o n e=>kk _ _ n (s7 _ _ (k6 _ _ n e))
  have D8:=gJ (D6.same' s7) (s7 _ _ x6) kk
  have v8:=kk _ _ (jA (s7 _ _ x6) e7) e7
  refine kP ?_
  walk_at "rd"
  refine ⟨by simp [Lw],fun pe H9 hpe s9 e9=>?_⟩
  walk_at "rd"
  refine ⟨x,G.Table,dx,_,rfl,s9 _ _ x8,ct.cl,ct.n6,NP rfl,mZ fun HA kz xA=>?_⟩
  have kA:Kx x H HA:=fun b o n e=>kz _ _ n (s9 _ _ (k8 _ _ n e))
  have gv:=nk k6 x6 hpv
  have ge:=nk k8 x8 hpe
  have npv:pv≠pe:=aR v8 hpe
  have npd:p∉pv :: pe :: M:=fun z=>by
   obtain ⟨rs6,er6,_⟩:=id D6
   rcases Lq.mp z with z | z
   ·rw [z] at er6; rw [er6] at hpv; cases hpv
   ·rcases Lq.mp z with z | z
    ·obtain ⟨rs8,er8,_⟩:=id D8
     rw [z] at er8; rw [er8] at hpe; cases hpe
    ·exact hM _ z hp
  have e48:=kk _ _ nxl (s7 _ _ e46)
  have nps:l4∉pv :: pe :: M:=fun z=>by
   rcases Lq.mp z with z | z
   ·rw [z] at e46; rw [e46] at hpv; cases hpv
   ·rcases Lq.mp z with z | z
    ·rw [z] at e48; rw [e48] at hpe; cases hpe
    ·exact hM _ z (nk k3 x3 hl4)
  have rr:=Al (R:=fun q v=>(q≠pv/\q∉M)/\H8 q=some (.lst (ax v))) (f:=fun j=>lY ws ((j:Nat):Int)) (fun j hj=>by
   obtain ⟨q,h1,h2,h3⟩:=r2 j (by rw [<-r1]; exact hj)
   exact ⟨q,h1,h2,kk _ _ (jA (s7 _ _ x6) h3) h3⟩)
  rw [r1] at rr
  obtain ⟨qs,rfl,hqs⟩:=rr
  have up:∀ {b:Addr} {xs:List V},H8 b=some (.lst xs)->HA b=some (.lst xs):=fun e=>kz _ _ (jA (s9 _ _ x8) (s9 _ _ e)) (s9 _ _ e)
  have pe9:=kz _ _ (jA (s9 _ _ x8) e9) e9
  refine q HA pv pe kA gv ge ⟨okT,⟨dx,p,l4,qs,[],xA,?_,npd,up e48,nps,up v8,?_,pe9,.nil⟩,npv,Lu,LC _ Lu,fun b hb y=>?_⟩
  ·show bB _ p (KM.cG (ss++[c - ss.sum]) c)
   rw [<-hWs]
   exact gJ (D8.same' s9) (s9 _ _ x8) kz
  ·show Paired _ qs ((LU ss.length).map fun i=>lY (KM.cG (ss++[c - ss.sum]) c) ((i:Nat):Int))
   rw [<-hWs]
   refine Paired.mapP hqs fun a' v ⟨h2,h3⟩=>⟨up h3,fun z=>?_⟩
   rcases Lq.mp z with z | z
   ·exact h2.1 z
   ·rcases Lq.mp z with z | z
    ·rw [z] at h3; rw [h3] at hpe; cases hpe
    ·exact h2.2 z
  ·rcases Lq.mp hb with z | z
   ·rw [z,up v8] at y; cases y
   ·rcases Lq.mp z with z | z
    ·rw [z,pe9] at y; cases y
    ·cases eb:H b with
     | none=>exact hM b z eb
     | some o=>rw [kA b o (fun w=>hxM (w ▸ z)) eb] at y; cases y
end
section
open KF
noncomputable def ib (_:Fg) (G:GF):Sp:=fun vs H Q _=>∃ (M:List Addr) (x pv pe:Addr) (T:TM),vs=[.ref x]/\Tb G M H x pv pe T/\∀ (p:Addr) (H':Hp),H p=none->ap H H'->bB H' p T.ws->Q (.ref p) H'
noncomputable def iJ (K:Fg) (G:GF):TS:=(aN (tCB (gG K) (aa (cW K (ac 0) "dealt") ah)))
noncomputable abbrev ya:List Str:=["self"]
theorem wO {K:Fg} {G:GF} (ct:nI K G.Table) {vs:List V} {H:Hp} {Q:VK} {E:XK} (h:ib K G vs H Q E):iJ K G { nx:=fun _ H'=>Q .non H',rt:=Q } (start ya vs) H:=by
 obtain ⟨M,x,pv,pe,T,rfl,t,q⟩:=h
 obtain ⟨dx,pd,ps,qs,es,X⟩:=t.ex
 show iJ K G _ [some _] _
 unfold iJ
 walk_at "rd"
 refine cy ?_
 walk_at "rd"
 refine ⟨x,G.Table,dx,_,_,rfl,X.hx,ct.cl,ct.n1,rfl,?_⟩
 walk_at "rd"
 obtain ⟨rs,er,hr⟩:=X.dl
 refine jl (SqL.of er) fun p H1 hp s1 e1=>?_
 exact q p H1 hp s1 ⟨rs,e1,Paired.mapP hr fun a w e=>s1 _ _ e⟩
theorem TbX.view {G:GF} {M:List Addr} {H:Hp} {x pv pe:Addr} {T:TM} {dx pd ps:Addr} {qs:List Addr} {es:List V} (X:TbX G M H x pv pe T dx pd ps qs es) {i:Nat} (hi:i < T.vw.length):∃ qi,qs[i]?=some qi/\H qi=some (.lst (ax (T.vw.getD i [])))/\qi∉M:=by
 have lq:qs.length=T.vw.length:=Mj X.qv
 have hq:qs[i]?=some (qs[i]'(by omega)):=Lo _
 obtain ⟨v,hv,h1,h2⟩:=bL X.qv hq
 exact ⟨_,hq,by rw [j5 hv]; exact h1,h2⟩
noncomputable def kZ (_:Fg) (G:GF):Sp:=fun vs H Q _=>∃ (M:List Addr) (x pv pe:Addr) (T:TM) (i:Nat),vs=[.ref x,.int i]/\Tb G M H x pv pe T/\i < T.k/\∀ (p:Addr) (H':Hp),H p=none->ap H H'->H' p=some (.lst (ax (T.vw.getD i [])))->Q (.ref p) H'
noncomputable def jC (K:Fg) (G:GF):TS:=(aw (dw (au (bN K) [] E0 (aa (au (cq K) [] E0 (aa (ac 1) (aa (cW K (ac 0) "hands") ah))) (aa (tC (.str "this is no hand")) ah))))
 (aN (tCB (gG K) (aa (tOp (bR K) (cW K (ac 0) "views") (ac 1)) ah))))
noncomputable abbrev Am:List Str:=["self","hand"]
theorem yb {K:Fg} {G:GF} (ct:nI K G.Table) {vs:List V} {H:Hp} {Q:VK} {E:XK} (h:kZ K G vs H Q E):jC K G { nx:=fun _ H'=>Q .non H',rt:=Q } (start Am vs) H:=by
 obtain ⟨M,x,pv,pe,T,i,rfl,t,hi,q⟩:=h
 obtain ⟨dx,pd,ps,qs,es,X⟩:=t.ex
 show jC K G _ [some _,some _] _
 unfold jC
 walk_at "rd"
 refine cy ?_
 walk_at "rd"
 refine ⟨x,G.Table,dx,_,_,rfl,X.hx,ct.cl,ct.n4,rfl,?_⟩
 walk_at "rd"
 refine ⟨(i:Int),(T.k:Int),rfl,?_⟩
 rw [fh (by omega) (by omega)]
 walk_at "rd"
 refine ⟨_,rfl,?_⟩
 walk_at "rd"
 refine cy ?_
 walk_at "rd"
 refine ⟨x,G.Table,dx,_,_,rfl,X.hx,ct.cl,ct.n5,rfl,?_⟩
 walk_at "rd"
 obtain ⟨qi,hq,h2,_⟩:=X.view (i:=i) (by rw [t.ok.len]; exact hi)
 refine bA (SqL.of X.vs) (dz (v:=.ref qi) (by rw [LD,hq]; rfl)) ?_
 walk_at "rd"
 refine jl (SqL.of h2) fun p H1 hp s1 e1=>?_
 exact q p H1 hp s1 e1
noncomputable def Tld (G:GF) (M:List Addr) (H:Hp) (x pv pe:Addr) (T:TM) (ys:List V) (Q:VK):Prop:=∀ p Hm H',Kp [pv,pe] H Hm->Tb G M Hm x pv pe T->Hm p=none->ap Hm H'->H' p=some (.lst ys)->Q (.ref p) H'
theorem Tld.up {G:GF} {M:List Addr} {H H0:Hp} {x pv pe:Addr} {T:TM} {ys:List V} {Q:VK} (h:Tld G M H0 x pv pe T ys Q) (s:ap H0 H):Tld G M H x pv pe T ys Q:=fun p Hm H' k t hp s' e=>h p Hm H' ((Kp.of s).trans k) t hp s' e
noncomputable def ic (_:Fg) (G:GF):Sp:=fun vs H Q _=>∃ (M:List Addr) (x pv pe tp vp:Addr) (T:TM) (g:List Nat) (as:List IA) (ys:List V),vs=[.ref x,.ref tp,.ref vp]/\Tb G M H x pv pe T/\H tp=some (.tup (ax g))/\(∀ h∈g,h < T.k)/\H vp=some (.lst ys)/\vp∉M/\ys.map iaV=as.map some/\as.length=T.n/\T.ds.length < 1000/\
 Tld G M H x pv pe (T.learn g as ys) ys Q
noncomputable def iK (K:Fg) (G:GF):TS:=(aw (dI (wv K (ac 1)) (aq 3) (aI (au (t9 K) [] E0 (aa (tOp (bR K) (cW K (ac 0) "views") (ac 3)) (aa (ac 2) ah))) (qA (cW K (ac 0) "views") (ac 3) mM)))
 (aw (dw (tBM K "list" gX (cW K (ac 0) "deeds") (aa (cp (aa (ac 1) (aa (ac 2) ah))) ah)))
 (aN (tCB (gG K) (aa (ac 2) ah)))))
noncomputable abbrev yc:List Str:=["self","hands","values","hand"]
theorem KZ {n j:Nat} (h:j < n):ixN n (j:Int)=some j:=by
 unfold ixN
 rw [if_pos (by omega),if_pos (by omega)]
 simp
theorem CV {α β:Type} {F:α->β->Prop} {l:List α} {m:List β} (h:Paired F l m) {a:α} {b:β} (r:F a b):∀ i:Nat,Paired F (l.set i a) (m.set i b):=by
 induction h with
 | nil=>exact fun i=>.nil
 | cons r' t ih=>
  intro i
  cases i with
  | zero=>exact .cons r t
  | succ i=>exact .cons r' (ih i)
theorem wP {K:Fg} {G:GF} (ct:nI K G.Table) {vs:List V} {H:Hp} {Q:VK} {E:XK} (h:ic K G vs H Q E):iK K G { nx:=fun _ H'=>Q .non H',rt:=Q } (start yc vs) H:=by
 obtain ⟨M,x,pv,pe,tp,vp,T,g,as,ys,rfl,t,et,hg,evp,nvp,hia,hla,hds,q⟩:=h
 obtain ⟨dx,pd,ps,qs,es,X⟩:=t.ex
 have n2:=t.ok.n2
 show iK K G _ [some _,some _,some _,none] _
 unfold iK
 walk_at "rd"
 have me1:pv∈[pv,pe]:=Lu
 have me2:pe∈[pv,pe]:=LC _ Lu
 have sub:∀ b∈[pv,pe],b∈M:=fun b hb=>by
  rcases Lq.mp hb with z | z
  ·rw [z]; exact t.mv
  ·rw [Ln.mp z]; exact t.me
 have nvp':vp∉[pv,pe]:=fun z=>nvp (sub _ z)
 refine zx (ax g) (SqT.of et) (fun j σ' H2=>∃ (u:Option V) (qs2:List Addr),σ'=[some (.ref x),some (.ref tp),some (.ref vp),u]/\Kp [pv] H H2/\H2 pv=some (.lst (qs2.map V.ref))/\Paired (fun (q:Addr) (v:List Nat)=>H2 q=some (.lst (ax v))/\q∉M) qs2 (lrn T.vw (g.take j) as)) ⟨none,qs,rfl,Kp.of (ap.refl _),X.vs,X.qv⟩ ?_ ?_ ?_
 ·rintro j σ' H2 hj ⟨u,qs2,rfl,k2,_⟩
  exact SqT.of (k2.tup et)
 ·rintro j y σ' H2 hy ⟨u,qs2,rfl,k2,e2,p2⟩
  obtain ⟨hd,hh,rfl⟩:=ja hy
  have hk:=hg hd (LA hh)
  have hx2:=k2.ins X.hx
  have lq:qs2.length=T.vw.length:=by rw [Mj p2,wL]
  have hdl:hd < qs2.length:=by rw [lq,t.ok.len]; exact hk
  have hq:qs2[hd]?=some (qs2[hd]'hdl):=Lo _
  generalize qs2[hd]'hdl=qi at hq
  obtain ⟨v,hv,h1,h2⟩:=bL p2 hq
  have hvw:Within T.n v:=so (P:=Within T.n) (fun v hv=>rg hv hla) (g.take j) T.vw (fun h hh=>by rw [t.ok.len]; exact hg h (List.mem_of_mem_take hh)) t.ok.win v (LA hv)
  walk_at "rd"
  refine cy ?_
  walk_at "rd"
  refine ⟨x,G.Table,dx,_,_,rfl,hx2,ct.cl,ct.n5,rfl,?_⟩
  walk_at "rd"
  refine bA (SqL.of e2) (dz (v:=.ref qi) (by rw [LD,hq]; rfl)) ?_
  walk_at "rd"
  refine ⟨qi,vp,v,ys,as,rfl,h1,k2.lst (fun z=>nvp' (by rw [Ln.mp z]; exact me1)) evp,hia,by rw [hvw.1,hla],by rw [hvw.1]; omega,fun q' H3 hq' s3 e3=>?_⟩
  walk_at "rd"
  refine cy ?_
  walk_at "rd"
  refine ⟨x,G.Table,dx,_,_,rfl,s3 _ _ hx2,ct.cl,ct.n5,rfl,?_⟩
  walk_at "rd"
  refine qM (s3 _ _ e2) (KZ (by rw [Lp]; exact hdl)) ?_
  have nq:q'≠pv:=(aR e2 hq').symm
  have nqM:q'∉M:=fun z=>t.al _ z (k2.f _ hq')
  refine ⟨_,qs2.set hd q',rfl,(k2.trans (Kp.of s3)).upd (s3 _ _ e2) (Ln.mpr rfl),by rw [az,List.map_set],?_⟩
  rw [cf hh,Gq,j5 hv]
  refine CV (Paired.mapP p2 fun a w ⟨z1,z2⟩=>⟨?_,z2⟩) ⟨by rw [aO nq]; exact e3,nqM⟩ hd
  rw [aO (show a≠pv from fun z=>z2 (by rw [z]; exact t.mv))]
  exact s3 _ _ z1
 ·rintro σ' H2 ⟨u,qs2,rfl,k2,e2,p2⟩
  rw [bi,Me] at p2
  have hx2:=k2.ins X.hx
  have ee2:=k2.lst (fun z=>t.ne (Ln.mp z).symm) X.pes
  walk_at "rd"
  refine cy ?_
  walk_at "rd"
  refine ⟨x,G.Table,dx,_,_,rfl,hx2,ct.cl,ct.n6,rfl,?_⟩
  refine ⟨.inl ⟨rfl,_,SqL.of ee2⟩,?_⟩
  walk_at "rd"
  refine ⟨by simp [Lw],fun p3 H3 hp3 s3 e3=>?_⟩
  walk_at "rd"
  have les:es.length=T.ds.length:=Mj X.ed
  refine jZ (s3 _ _ ee2) (by rw [Lw]; omega) fun H4 o4 e4=>?_
  have k4:Kp [pv,pe] H H4:=((k2.mono fun b hb=>by rw [Ln.mp hb]; exact me1).trans (Kp.of s3)).off (s3 _ _ ee2) me2 o4 e4
  walk_at "rd"
  refine jl (SqL.of (k4.lst nvp' evp)) fun p5 H5 hp5 s5 e5=>?_
  have keep4:∀ {b:Addr} {o:HO},b≠pe->H2 b=some o->H4 b=some o:=fun nb e=>(o4 _ nb).trans (s3 _ _ e)
  refine q p5 H4 H5 k4 ⟨t.ok.learn hg hla,⟨dx,pd,ps,qs2,es++[.ref p3],k4.ins X.hx,X.dl.kp k4 fun z=>X.nd (sub _ z),X.nd,k4.lst (fun z=>X.ns (sub _ z)) X.sz,X.ns,keep4 t.ne e2,Paired.mapP p2 fun a w ⟨z1,z2⟩=>⟨keep4 (show a≠pe from fun z=>z2 (by rw [z]; exact t.me)) z1,z2⟩,e4,?_⟩,t.ne,t.mv,t.me,fun b hb z=>t.al b hb (k4.f b z)⟩ hp5 s5 e5
  refine Ak (Paired.mapP X.ed fun _ _ h=>h.kp k4 sub) ⟨p3,tp,vp,rfl,?_,k4.tup et,k4.lst nvp' evp,nvp⟩
  exact (o4 _ (fun z=>by rw [z] at hp3; rw [ee2] at hp3; cases hp3)).trans e3
noncomputable def cM (_:Fg) (G:GF):Sp:=fun vs H Q _=>∃ (M:List Addr) (x pv pe:Addr) (T:TM) (v:V) (s:Sy),vs=[.ref x,v]/\Tb G M H x pv pe T/\aP H v s/\s.Ok T.c T.k/\s.words<=30/\
 ∀ p H',H p=none->ap H H'->H' p=some (.lst (blV T.n (T.tr s)))->Q (.ref p) H'
noncomputable def ie (K:Fg) (G:GF):TS:=(aw (bD (iu (tB (au (l9 K) [] E0 (aa (cW K (ac 0) "cards") (aa (cW K (ac 0) "hands") (aa (ac 1) ah)))))) qz bh)
 (aN (au (bY K 35) [] E0 (aa (cW K (ac 0) "dealt") (aa (cW K (ac 0) "views") (aa (ac 1) ah))))))
noncomputable abbrev wQ:List Str:=["self","S"]
theorem Tb.tab {G:GF} {M:List Addr} {H:Hp} {x pv pe:Addr} {T:TM} {dx pd ps:Addr} {qs:List Addr} {es:List V} (ok:T.Ok) (X:TbX G M H x pv pe T dx pd ps qs es):Table H pd pv T.c T.n T.ws T.vw:=
 ⟨X.dl,rfl,ok.cards,by have:=ok.n2; omega,by have:=ok.pk.c12; omega,⟨qs,X.vs,Paired.mapP X.qv fun _ _ h=>h.1⟩,ok.win,by rw [ok.len]; have:=ok.pk.l5; show T.ss.length<=1000; omega⟩
theorem vy {K:Fg} {G:GF} (ct:nI K G.Table) {vs:List V} {H:Hp} {Q:VK} {E:XK} (h:cM K G vs H Q E):ie K G { nx:=fun _ H'=>Q .non H',rt:=Q } (start wQ vs) H:=by
 obtain ⟨M,x,pv,pe,T,v,s,rfl,t,hS,hok,hw,q⟩:=h
 obtain ⟨dx,pd,ps,qs,es,X⟩:=t.ex
 show ie K G _ [some _,some _] _
 unfold ie
 walk_at "rd"
 refine cy ?_
 walk_at "rd"
 refine ⟨x,G.Table,dx,_,_,rfl,X.hx,ct.cl,ct.n2,rfl,?_⟩
 walk_at "rd"
 refine cy ?_
 walk_at "rd"
 refine ⟨x,G.Table,dx,_,_,rfl,X.hx,ct.cl,ct.n4,rfl,?_⟩
 walk_at "rd"
 refine ⟨T.c,T.k,v,s,rfl,hS,hok,hw,fun H1 s1=>?_⟩
 have x1:=s1 _ _ X.hx
 walk_at "rd"
 refine cy ?_
 walk_at "rd"
 refine ⟨x,G.Table,dx,_,_,rfl,x1,ct.cl,ct.n1,rfl,?_⟩
 walk_at "rd"
 refine cy ?_
 walk_at "rd"
 refine ⟨x,G.Table,dx,_,_,rfl,x1,ct.cl,ct.n5,rfl,?_⟩
 walk_at "rd"
 refine ⟨pd,pv,v,T.c,T.n,T.ws,T.vw,s,rfl,(Tb.tab t.ok X).same s1,hS.keep s1.keep,by rw [t.ok.len]; exact hok,by omega,fun p H2 hp2 s2 e2=>?_⟩
 walk_at "rd"
 exact q p H2 (s1.free hp2) (s1.trans s2) e2
noncomputable def k9 (_:Fg) (G:GF):Sp:=fun vs H Q _=>∃ (M:List Addr) (x pv pe tp:Addr) (T:TM) (g:List Nat) (v:V) (s:Sy),vs=[.ref x,.ref tp,v]/\Tb G M H x pv pe T/\H tp=some (.tup (ax g))/\g.Pairwise (· < ·)/\(∀ h∈g,h < T.k)/\aP H v s/\s.Ok T.c T.k/\s.words<=30/\T.ds.length < 1000/\
 Tld G M H x pv pe (T.word g s) (blV T.n (T.tr s)) Q
noncomputable def jD (K:Fg) (G:GF):TS:=(aw (dw (au (bN K) [] E0 (aa (au (js K) [] E0 (aa (ac 1) (aa (cW K (ac 0) "hands") ah))) (aa (tC (.str "this is no tuple of hands")) ah))))
 (aN (dy G.Table "learn" (ic K G) [] E0 (ac 0) (aa (ac 1) (aa (dy G.Table "truths" (cM K G) [] E0 (ac 0) (aa (ac 2) ah)) ah)))))
noncomputable abbrev An:List Str:=["self","hands","S"]
theorem ye {K:Fg} {G:GF} (ct:nI K G.Table) {vs:List V} {H:Hp} {Q:VK} {E:XK} (h:k9 K G vs H Q E):jD K G { nx:=fun _ H'=>Q .non H',rt:=Q } (start An vs) H:=by
 obtain ⟨M,x,pv,pe,tp,T,g,v,s,rfl,t,et,pw,hg,hS,hok,hw,hds,q⟩:=h
 obtain ⟨dx,pd,ps,qs,es,X⟩:=t.ex
 show jD K G _ [some _,some _,some _] _
 unfold jD
 walk_at "rd"
 refine cy ?_
 walk_at "rd"
 refine ⟨x,G.Table,dx,_,_,rfl,X.hx,ct.cl,ct.n4,rfl,?_⟩
 walk_at "rd"
 refine ⟨tp,g,T.k,rfl,et,pw,hg,?_⟩
 walk_at "rd"
 refine ⟨_,rfl,?_⟩
 walk_at "rd"
 obtain ⟨dx1,fs1,hx1,hl1⟩:=t.at "learn" (by decide +kernel) (by decide +kernel) (by decide +kernel) (by decide +kernel) (by decide +kernel) (by decide +kernel)
 refine eI ?_
 walk_at "rd"
 refine ⟨x,dx1,fs1,rfl,hx1,hl1,?_⟩
 walk_at "rd"
 obtain ⟨dx2,fs2,hx2,hl2⟩:=t.at "truths" (by decide +kernel) (by decide +kernel) (by decide +kernel) (by decide +kernel) (by decide +kernel) (by decide +kernel)
 refine eI ?_
 walk_at "rd"
 refine ⟨x,dx2,fs2,rfl,hx2,hl2,?_⟩
 walk_at "rd"
 refine ⟨M,x,pv,pe,T,v,s,rfl,t,hS,hok,hw,fun p1 H1 hp1 s1 e1=>?_⟩
 walk_at "rd"
 refine ⟨M,x,pv,pe,tp,p1,T,g,_,_,rfl,t.same s1,s1 _ _ et,hg,e1,t.off hp1,Kc _ _,BV _ _,hds,fun p2 Hm H2 k2 t2 hp2 s2 e2=>?_⟩
 walk_at "rd"
 exact q p2 Hm H2 ((Kp.of s1).trans k2) t2 hp2 s2 e2
noncomputable def vz (w:List Nat) (h:Int) (ns:List Int):IA:=(ns.filter fun c=>decide (wAt w c=h)).min?
theorem Fh (w:List Nat) (h:Int) (ns:List Int):fi w h ns (vz w h ns):=by
 unfold vz
 cases e:(ns.filter fun c=>decide (wAt w c=h)).min? with
 | none=>
  rw [List.min?_eq_none_iff] at e
  refine .inl ⟨rfl,fun c hc z=>?_⟩
  have:c∈ns.filter fun c=>decide (wAt w c=h):=ND.mpr ⟨hc,decide_eq_true z⟩
  rw [e] at this
  cases this
 | some m=>
  rw [List.min?_eq_some_iff] at e
  obtain ⟨h1,h2⟩:=e
  obtain ⟨h3,h4⟩:=ND.mp h1
  exact .inr ⟨m,rfl,h3,of_decide_eq_true h4,fun d hd z=>h2 d (ND.mpr ⟨hd,decide_eq_true z⟩)⟩
noncomputable def jE (ws:List (List Nat)) (h:Int) (ns:List Int):List IA:=ws.map fun w=>vz w h ns
noncomputable def TM.show (T:TM) (i:Nat) (h:Int) (ns:List Int):TM:=T.learn [i] (jE T.ws h ns) ((jE T.ws h ns).map iaR)
noncomputable def lc (_:Fg) (G:GF):Sp:=fun vs H Q _=>∃ (M:List Addr) (x pv pe l:Addr) (T:TM) (i:Nat) (h:Int) (ns:List Int),vs=[.ref x,.int i,.int h,.ref l]/\Tb G M H x pv pe T/\H l=some (.lst (ns.map V.int))/\i < T.k/\0<=h/\h<=T.k/\ns.length < 64/\(∀ n∈ns,0<=n/\n < T.c)/\T.ds.length < 1000/\
 Tld G M H x pv pe (T.show i h ns) ((jE T.ws h ns).map iaR) Q
noncomputable def jF (K:Fg) (G:GF):TS:=(aw (dw (au (bN K) [] E0 (aa (au (cq K) [] E0 (aa (ac 1) (aa (cW K (ac 0) "hands") ah))) (aa (tC (.str "this is no hand")) ah))))
 (aw (dw (au (bN K) [] E0 (aa (au (cq K) [] E0 (aa (ac 2) (aa (tOp (rI0 fun i j=>.int (i + j)) (cW K (ac 0) "hands") (tC (.int 1))) ah))) (aa (tC (.str "this is no holder")) ah))))
 (aw (dw (au (bN K) [] E0 (aa (au (md K) [] E0 (aa (ac 3) (aa (cW K (ac 0) "cards") ah))) (aa (tC (.str "this is no list of cards")) ah))))
 (aw (aI (ug K (aa (ac 3) ah)) (aq 4))
 (aN (dy G.Table "learn" (ic K G) [] E0 (ac 0) (aa (cp (aa (ac 1) ah)) (aa (bW (dc K (cW K (ac 0) "dealt")) (fun _ _ _ _=>(aq 0)) (fun _ _ _ _=>bM) (fun _ _ _ _=>(au (kY K) [] E0 (aa (ac 0) (aa (ac 1) (aa (ac 2) ah))))) [none,some 2,some 4]) ah))))))))
noncomputable abbrev Ao:List Str:=["self","hand","holder","some","rising"]
theorem yf {K:Fg} {G:GF} (ct:nI K G.Table) {vs:List V} {H:Hp} {Q:VK} {E:XK} (h:lc K G vs H Q E):jF K G { nx:=fun _ H'=>Q .non H',rt:=Q } (start Ao vs) H:=by
 obtain ⟨M,x,pv,pe,l,T,i,h,ns,rfl,t,el,hi,h0,h1,hns,hnb,hds,q⟩:=h
 obtain ⟨dx,pd,ps,qs,es,X⟩:=t.ex
 have n2:=t.ok.n2
 show jF K G _ [some _,some _,some _,some _,none] _
 unfold jF
 walk_at "rd"
 refine cy ?_
 walk_at "rd"
 refine ⟨x,G.Table,dx,_,_,rfl,X.hx,ct.cl,ct.n4,rfl,?_⟩
 walk_at "rd"
 refine ⟨(i:Int),(T.k:Int),rfl,?_⟩
 rw [fh (by omega) (by omega)]
 walk_at "rd"
 refine ⟨_,rfl,?_⟩
 walk_at "rd"
 refine cy ?_
 walk_at "rd"
 refine ⟨x,G.Table,dx,_,_,rfl,X.hx,ct.cl,ct.n4,rfl,?_⟩
 walk_at "rd"
 refine ⟨h,(T.k:Int) + 1,rfl,?_⟩
 rw [fh (by omega) (by omega)]
 walk_at "rd"
 refine ⟨_,rfl,?_⟩
 walk_at "rd"
 refine cy ?_
 walk_at "rd"
 refine ⟨x,G.Table,dx,_,_,rfl,X.hx,ct.cl,ct.n2,rfl,?_⟩
 walk_at "rd"
 refine ⟨l,ns,(T.c:Int),rfl,el,by omega,hnb,fun H1 s1=>?_⟩
 walk_at "rd"
 refine ⟨_,rfl,?_⟩
 walk_at "rd"
 refine Fd ?_
 walk_at "rd"
 refine ⟨l,ns,rfl,SqL.of (s1 _ _ el),hns,fun rp H2 ms hrp s2 e2 pw mm=>?_⟩
 have s12:=s1.trans s2
 have t2:=t.same s12
 walk_at "rd"
 obtain ⟨dx1,fs1,hx1,hl1⟩:=t2.at "learn" (by decide +kernel) (by decide +kernel) (by decide +kernel) (by decide +kernel) (by decide +kernel) (by decide +kernel)
 refine eI ?_
 walk_at "rd"
 refine ⟨x,dx1,fs1,rfl,hx1,hl1,?_⟩
 walk_at "rd"
 refine ⟨by simp [Lw],fun tp H3 htp s3 e3=>?_⟩
 walk_at "rd"
 refine cy ?_
 walk_at "rd"
 have s13:=s12.trans s3
 refine ⟨x,G.Table,dx,_,_,rfl,s13 _ _ X.hx,ct.cl,ct.n1,rfl,?_⟩
 obtain ⟨rs,er,hr⟩:=X.dl.same' s13
 have lr:rs.length=T.n:=Mj hr
 refine gp (rs.map V.ref) (SqL.of er) (by rw [Lp]; omega) (fun j acc _=>acc=(jE (T.ws.take j) h ns).map iaR) (fun H' _=>rfl) ?_ ?_
 ·rintro p' hp' C s' H' fp j xx acc H6 hxx ⟨s6,e6,l6,rfl⟩
  obtain ⟨b',hb',rfl⟩:=kK hxx
  obtain ⟨w,hwi,ew⟩:=bL hr hb'
  have hw1:=t.ok.cards w (LA hwi)
  walk_at "rd"
  refine ⟨b',rp,w,h,ms,rfl,s6 _ _ ew,s6 _ _ (s3 _ _ e2),pw,fun c hc=>by rw [hw1]; exact hnb c ((mm c).mp hc),fun a ha=>?_⟩
  have ea:a=vz w h ns:=ha.uniq mm (Fh w h ns)
  subst ea
  refine bu.put hp' (fun _ _ _ _ r _=>r) s6 e6 l6 ?_
  rw [cf hwi]
  unfold jE
  rw [LS,LS]
  rfl
 ·rintro pl acc H6 hpl s6 e6 rfl
  rw [Lp,lr,show T.n=T.ws.length from rfl,Me] at e6
  walk_at "rd"
  have s16:=s13.trans s6
  refine ⟨M,x,pv,pe,tp,pl,T,[i],jE T.ws h ns,_,rfl,t.same s16,s6 _ _ e3,fun k hk=>by rw [Ln.mp hk]; exact hi,e6,t.off (s13.free hpl),by rw [N5]; exact NJ fun a _=>KY a,by unfold jE; rw [Lp]; rfl,hds,fun p2 Hm H7 k7 t7 hp2 s7 e7=>?_⟩
  walk_at "rd"
  exact q p2 Hm H7 ((Kp.of s16).trans k7) t7 hp2 s7 e7
noncomputable def ig (_:Fg) (G:GF):Sp:=fun vs H Q _=>∃ (M:List Addr) (x pv pe:Addr) (T:TM),vs=[.ref x]/\Tb G M H x pv pe T/\
 ∀ (x' pv' pe':Addr) H',H x'=none->H pv'=none->H pe'=none->ap H H'->Tb G (pv' :: pe' :: M) H' x' pv' pe' T->Q (.ref x') H'
noncomputable def iL (K:Fg) (G:GF):TS:=(aw (aI (rV G.Table (cz K G) [] E0 (aa (cW K (ac 0) "cards") (aa (cW K (ac 0) "sizes") ah))) (aq 1))
 (aw (ny K (ac 1) (tCB (gG K) (aa (cW K (ac 0) "views") ah)) "views")
 (aw (ny K (ac 1) (tCB (gG K) (aa (cW K (ac 0) "deeds") ah)) "deeds")
 (aN (ac 1)))))
noncomputable abbrev yg:List Str:=["self","other"]
theorem wR {K:Fg} {G:GF} (ct:nI K G.Table) {vs:List V} {H:Hp} {Q:VK} {E:XK} (h:ig K G vs H Q E):iL K G { nx:=fun _ H'=>Q .non H',rt:=Q } (start yg vs) H:=by
 obtain ⟨M,x,pv,pe,T,rfl,t,q⟩:=h
 obtain ⟨dx,pd,ps,qs,es,X⟩:=t.ex
 show iL K G _ [some _,none] _
 unfold iL
 refine bj (kb (Ai ?_))
 walk_at "rd"
 refine cy ?_
 walk_at "rd"
 refine ⟨x,G.Table,dx,_,_,rfl,X.hx,ct.cl,ct.n2,rfl,?_⟩
 walk_at "rd"
 refine cy ?_
 walk_at "rd"
 refine ⟨x,G.Table,dx,_,_,rfl,X.hx,ct.cl,ct.n3,rfl,?_⟩
 walk_at "rd"
 intro x' dx' hx' hdx' hne
 have st:ap H (upd (upd H dx' (.own x')) x' (.ins G.Table dx' [])):=((ap.refl H).upd hdx' _).upd hx' _
 have x'M:x'∉M:=fun z=>t.al _ z hx'
 refine ⟨M,x',dx',ps,T.c,T.ss,rfl,az,st _ _ X.sz,t.ok.pk,t.ok.few,fun b hb z=>t.al b hb (st.free z),x'M,fun H1 pv0 pe0 k1 hpv0 hpe0 t1=>?_⟩
 have s1:ap H H1:=fun b o e=>k1 _ _ (aR e hx') (st _ _ e)
 obtain ⟨dx1,pd1,ps1,qs1,es1,X1⟩:=t1.ex
 refine ⟨rfl,?_⟩
 walk_at "rd"
 refine kP ?_
 walk_at "rd"
 refine cy ?_
 walk_at "rd"
 refine ⟨x,G.Table,dx,_,_,rfl,s1 _ _ X.hx,ct.cl,ct.n5,rfl,?_⟩
 walk_at "rd"
 refine jl (SqL.of (s1 _ _ X.vs)) fun pv' H2 hpv' s2 e2=>?_
 walk_at "rd"
 refine ⟨x',G.Table,dx1,_,rfl,s2 _ _ X1.hx,ct.cl,ct.n5,by simp [ui],mZ fun H3 kx3 x3=>?_⟩
 have nxv:pv'≠x':=jA (s2 _ _ X1.hx) e2
 have s3:ap H H3:=fun b o e=>kx3 _ _ (aR e hx') (s2 _ _ (s1 _ _ e))
 have e3:=kx3 _ _ nxv e2
 have dl3:=gJ (X1.dl.same' s2) (s2 _ _ X1.hx) kx3
 have sz3:=kx3 _ _ (jA (s2 _ _ X1.hx) (s2 _ _ X1.sz)) (s2 _ _ X1.sz)
 walk_at "rd"
 refine kP ?_
 walk_at "rd"
 refine cy ?_
 walk_at "rd"
 refine ⟨x,G.Table,dx,_,_,rfl,s3 _ _ X.hx,ct.cl,ct.n6,rfl,?_⟩
 walk_at "rd"
 refine jl (SqL.of (s3 _ _ X.pes)) fun pe' H4 hpe' s4 e4=>?_
 walk_at "rd"
 refine ⟨x',G.Table,dx1,_,rfl,s4 _ _ x3,ct.cl,ct.n6,NP rfl,mZ fun H5 kx5 x5=>?_⟩
 have s5:ap H H5:=fun b o e=>kx5 _ _ (aR e hx') (s4 _ _ (s3 _ _ e))
 have e5:=kx5 _ _ (jA (s4 _ _ x3) e4) e4
 have v5:=kx5 _ _ nxv (s4 _ _ e3)
 have dl5:=gJ (dl3.same' s4) (s4 _ _ x3) kx5
 have sz5:=kx5 _ _ (jA (s4 _ _ x3) (s4 _ _ sz3)) (s4 _ _ sz3)
 walk_at "rd"
 have gv:H pv'=none:=s1.free hpv'
 have ge:H pe'=none:=s3.free hpe'
 have nve:pv'≠pe':=aR e3 hpe'
 have nM:∀ {b:Addr} {o:HO},H b=some o->b∉M->b∉pv' :: pe' :: M:=fun e n z=>by
  rcases Lq.mp z with z | z
  ·rw [z,gv] at e; cases e
  ·rcases Lq.mp z with z | z
   ·rw [z,ge] at e; cases e
   ·exact n z
 have nd1:pd1∉pv' :: pe' :: M:=fun z=>by
  obtain ⟨rs1,er1,_⟩:=X1.dl
  obtain ⟨rs3,er3,_⟩:=dl3
  rcases Lq.mp z with z | z
  ·rw [z,hpv'] at er1; cases er1
  ·rcases Lq.mp z with z | z
   ·rw [z,hpe'] at er3; cases er3
   ·exact X1.nd (LC _ (LC _ z))
 have ns1:ps1∉pv' :: pe' :: M:=fun z=>by
  have er1:=X1.sz
  rcases Lq.mp z with z | z
  ·rw [z,hpv'] at er1; cases er1
  ·rcases Lq.mp z with z | z
   ·rw [z,hpe'] at sz3; cases sz3
   ·exact X1.ns (LC _ (LC _ z))
 refine q x' pv' pe' H5 hx' gv ge s5 ⟨t.ok,⟨dx1,pd1,ps1,qs,es,x5,dl5,nd1,sz5,ns1,v5,Paired.mapP X.qv fun _ _ ⟨e,n⟩=>⟨s5 _ _ e,nM e n⟩,e5,Paired.mapP X.ed fun _ _ ⟨t,h,v,e,h1,h2,h3,h4⟩=>⟨t,h,v,e,s5 _ _ h1,s5 _ _ h2,s5 _ _ h3,nM h3 h4⟩⟩,nve,Lu,LC _ Lu,fun b hb z=>?_⟩
 rcases Lq.mp hb with y | y
 ·rw [y,v5] at z; cases z
 ·rcases Lq.mp y with y | y
  ·rw [y,e5] at z; cases z
  ·exact t.al b y (s5.free z)
end
section
variable {K:Fg} {vs:List V} {H:Hp} {Q:VK} {E:XK}
open KF
inductive Dd where
 | word (g:List Nat) (s:Sy)
 | show (i:Nat) (h:Int) (ns:List Int)
noncomputable def dR (N:Addr->Prop) (H:Hp) (v:V):Dd->Prop
 | .word g s=>∃ a b x,v=.ref a/\H a=some (.tup [.str "word",.ref b,x])/\H b=some (.tup (ax g))/\aP H x s
 | .show i h ns=>∃ a l,v=.ref a/\H a=some (.tup [.str "show",.int i,.int h,.ref l])/\H l=some (.lst (ns.map V.int))/\N l
noncomputable def Dd.Ok (c k:Nat):Dd->Prop
 | .word g s=>g.Pairwise (· < ·)/\(∀ h∈g,h < k)/\s.Ok c k/\s.words<=14
 | .show i h ns=>i < k/\0<=h/\h<=k/\ns.length < 6/\∀ n∈ns,0<=n/\n < c
noncomputable def TM.deed (T:TM):Dd->TM
 | .word g s=>T.word g s
 | .show i h ns=>T.show i h ns
noncomputable def TM.dtold (T:TM):Dd->List V
 | .word g s=>blV T.n (T.tr s)
 | .show i h ns=>(jE T.ws h ns).map iaR
theorem dR.to {N N':Addr->Prop} {H H':Hp} {v:V} {d:Dd} (h:dR N H v d) (k:dJ H H') (f:∀ l xs,N l->H l=some (.lst xs)->H' l=some (.lst xs)/\N' l):dR N' H' v d:=by
 cases d with
 | word g s=>obtain ⟨a,b,x,e,h1,h2,h3⟩:=h; exact ⟨a,b,x,e,k _ _ h1,k _ _ h2,h3.keep k⟩
 | «show» i hh ns=>obtain ⟨a,l,e,h1,h2,h3⟩:=h; exact ⟨a,l,e,k _ _ h1,(f _ _ h3 h2).1,(f _ _ h3 h2).2⟩
theorem vA (T:TM) (d:Dd):(T.deed d).c=T.c/\(T.deed d).ss=T.ss:=by cases d <;> exact ⟨rfl,rfl⟩
theorem IO (T:TM) (d:Dd):(T.deed d).ws=T.ws:=by unfold TM.ws; rw [(vA T d).1,(vA T d).2]
theorem IP (T:TM) (d:Dd):(T.deed d).ds.length=T.ds.length + 1:=by
 cases d <;> (show (T.ds++[_]).length=_; rw [LG]; rfl)
noncomputable def jG (K:Fg):Sp:=fun vs H Q _=>∃ (a:Addr) (ns:List Int) (at_:Int) (c k:Nat),vs=[.ref a,.int at_,.int c,.int k]/\fT K H a ns/\0<=at_/\at_<=900/\1<=k/\k<=5/\
 ∀ (v:V) (d:Dd) H',ap H H'->dR (fun l=>H l=none) H' v d->d.Ok c k->Q v H'
noncomputable def ko (K:Fg):TS:=(aw (aI (au (bg K) [] E0 (aa (ac 0) (aa (ac 1) ah))) (aq 4))
 (aw (bD (tOr (bc (tOp (rI0 fun i j=>.bl (decide (j < i))) (tOp (rI (fun _ j=>0 < j) fun i j=>.int (i % j)) (ac 4) (tC (.int 3))) (tC (.int 0)))) (bc (tOp rEq (ac 2) (tC (.int 0))))) (aN (cp (aa (tC (.str "word")) (aa (au (dL K) [] E0 (aa (tOp (rI fE fun i j=>.int (i / j)) (ac 4) (tC (.int 3))) (aa (ac 3) ah))) (aa (au (fI K) [] E0 (aa (ac 0) (aa (tOp (rI0 fun i j=>.int (i + j)) (ac 1) (tC (.int 1))) (aa (ac 2) (aa (ac 3) (aa (tC (.int 14)) ah)))))) ah))))) bh)
 (aw (aI (bW (fA (aa (tOp (rI (fun _ j=>0 < j) fun i j=>.int (i % j)) (au (bg K) [] E0 (aa (ac 0) (aa (tOp (rI0 fun i j=>.int (i + j)) (ac 1) (tC (.int 2))) ah))) (tC (.int 6))) ah)) (fun _ _ _ _=>(aq 0)) (fun _ _ _ _=>bM) (fun _ _ _ _=>(tOp (rI (fun _ j=>0 < j) fun i j=>.int (i % j)) (au (bg K) [] E0 (aa (ac 2) (aa (tOp (rI0 fun i j=>.int (i + j)) (tOp (rI0 fun i j=>.int (i + j)) (ac 3) (tC (.int 3))) (ac 0)) ah))) (ac 1))) [none,some 2,some 0,some 1]) (aq 5))
 (aN (cp (aa (tC (.str "show")) (aa (tOp (rI (fun _ j=>0 < j) fun i j=>.int (i % j)) (tOp (rI fE fun i j=>.int (i / j)) (ac 4) (tC (.int 3))) (ac 3)) (aa (tOp (rI (fun _ j=>0 < j) fun i j=>.int (i % j)) (tOp (rI fE fun i j=>.int (i / j)) (ac 4) (tC (.int 21))) (tOp (rI0 fun i j=>.int (i + j)) (ac 3) (tC (.int 1)))) (aa (ac 5) ah)))))))))
theorem Ap (h:jG K vs H Q E):ko K { nx:=fun _ H'=>Q .non H',rt:=Q } (start ["_law_script","_law_at","_law_cards","_law_hands","_law_cell_here","_law_some"] vs) H:=by
 obtain ⟨a,ns,at_,c,k,rfl,hSc,ha0,ha1,hk1,hk5,q⟩:=h
 show ko K _ [some _,some _,some _,some _,none,none] _
 unfold ko
 refine bj ?_
 walk_at "rs"
 refine ⟨a,ns,at_,rfl,hSc,by omega,by omega,?_⟩
 walk_at "rs"
 refine i7 fun NX hNX=>?_
 have wordy:aN (cp (aa (tC (.str "word")) (aa (au (dL K) [] E0 (aa (tOp (rI fE fun i j=>.int (i / j)) (ac 4) (tC (.int 3))) (aa (ac 3) ah))) (aa (au (fI K) [] E0 (aa (ac 0) (aa (tOp (rI0 fun i j=>.int (i + j)) (ac 1) (tC (.int 1))) (aa (ac 2) (aa (ac 3) (aa (tC (.int 14)) ah)))))) ah)))) { nx:=NX,rt:=Q } [some (.ref a),some (.int at_),some (.int c),some (.int k),some (.int (bC ns at_)),none] H:=by
  walk_at "rd"
  refine ⟨_,k,rfl,hk5,fun tp g H1 s1 e1 pw hb=>?_⟩
  walk_at "rd"
  refine ⟨a,ns,at_ + 1,c,k,14,rfl,hSc.same s1,by omega,by omega,hk1,hk5,by decide,by decide,fun v s H2 s2 hS hok hw=>?_⟩
  walk_at "rd"
  refine ⟨by simp [Lw],fun t3 H3 ht3 s3 e3=>?_⟩
  exact q _ (.word g s) H3 ((s1.trans s2).trans s3) ⟨t3,tp,v,rfl,e3,s3 _ _ (s2 _ _ e1),hS.keep s3.keep⟩ ⟨pw,hb,hok,hw⟩
 walk_at "rs"
 refine dE (fun c1=>?_) (fun c1=>?_)
 ·exact wordy
 ·walk_at "rs"
  refine dE (fun c2=>?_) (fun c2=>?_)
  ·exact wordy
  ·have c0:0 < c:=by omega
   walk_at "rs"
   refine hNX _ _ ?_
   walk_at "rd"
   refine ⟨a,ns,at_ + 2,rfl,hSc,by omega,by omega,?_⟩
   walk_at "rd"
   obtain ⟨mn,hmn,hmn6⟩:∃ mn:Nat,bC ns (at_ + 2) % 6=(mn:Int)/\mn < 6:=⟨(bC ns (at_ + 2) % 6).toNat,by omega,by omega⟩
   rw [hmn]
   refine zz mn (by omega) (by omega) (by omega) (fun j acc _=>∃ ms:List Int,acc=ms.map V.int/\ms.length=j/\∀ n∈ms,0<=n/\n < (c:Int)) (fun _ _=>⟨[],rfl,rfl,fun _ z=>nomatch z⟩) ?_ ?_
   ·rintro p' hp' C s' H' fp j acc H8 hj ⟨s8,e8,l8,ms,rfl,lm,hms⟩
    walk_at "rd"
    refine ⟨a,ns,at_ + 3 + (j:Int),rfl,hSc.same s8,by omega,by omega,?_⟩
    walk_at "rd"
    refine bu.put hp' (fun _ _ _ _ r _=>r) s8 e8 l8 ⟨ms++[bC ns (at_ + 3 + (j:Int)) % (c:Int)],by rw [LS]; rfl,by simp [lm],fun n hn=>?_⟩
    rcases LR.mp hn with z | z
    ·exact hms n z
    ·rw [Ln.mp z]
     exact ⟨N9 _ (by omega),NO _ (by omega)⟩
   ·rintro l acc H2 hl s2 e2 ⟨ms,rfl,lm,hms⟩
    walk_at "rd"
    obtain ⟨i,hi,hik⟩:=jw (bC ns at_ / 3) (m:=(k:Int)) (by omega)
    rw [hi]
    refine ⟨by simp [Lw],fun t3 H3 ht3 s3 e3=>?_⟩
    exact q _ (.show i (bC ns at_ / 21 % ((k:Int) + 1)) ms) H3 (s2.trans s3) ⟨t3,l,rfl,e3,s3 _ _ e2,hl⟩ ⟨by omega,N9 _ (by omega),by have:=NO (bC ns at_ / 21) (show 0 < (k:Int) + 1 by omega); omega,by omega,hms⟩
noncomputable def gK (_:Fg) (G:GF):Sp:=fun vs H Q _=>∃ (M:List Addr) (x pv pe:Addr) (T:TM) (v:V) (d:Dd),vs=[.ref x,v]/\Tb G M H x pv pe T/\dR (fun l=>l∉M) H v d/\d.Ok T.c T.k/\T.ds.length < 1000/\
 Tld G M H x pv pe (T.deed d) (T.dtold d) Q
noncomputable def kr (K:Fg) (G:GF):TS:=(aw (bD (bc (tOp rEq (tOp (bU K) (ac 1) (tC (.int 0))) (tC (.str "word")))) (aN (dy G.Table "word" (k9 K G) [] E0 (ac 0) (aa (tOp (bU K) (ac 1) (tC (.int 1))) (aa (tOp (bU K) (ac 1) (tC (.int 2))) ah)))) bh)
 (aN (dy G.Table "show" (lc K G) [] E0 (ac 0) (aa (tOp (bU K) (ac 1) (tC (.int 1))) (aa (tOp (bU K) (ac 1) (tC (.int 2))) (aa (tCB (gG K) (aa (tOp (bU K) (ac 1) (tC (.int 3))) ah)) ah))))))
noncomputable abbrev Bn:List Str:=["_law_table","_law_deed_here"]
theorem Aq {K:Fg} {G:GF} {vs:List V} {H:Hp} {Q:VK} {E:XK} (h:gK K G vs H Q E):kr K G { nx:=fun _ H'=>Q .non H',rt:=Q } (start Bn vs) H:=by
 obtain ⟨M,x,pv,pe,T,v,d,rfl,t,hd,ok,hds,q⟩:=h
 show kr K G _ [some _,some _] _
 unfold kr
 cases d with
 | word g s=>
  obtain ⟨a,b,y,rfl,h1,h2,h3⟩:=hd
  obtain ⟨o1,o2,o3,o4⟩:=ok
  walk_at "rd"
  refine ba (SqT.of h1) (i:=0) rfl ?_
  walk_at "rd"
  refine dY rfl ?_
  walk_at "rd"
  obtain ⟨dx1,fs1,hx1,hl1⟩:=t.at "word" (by decide +kernel) (by decide +kernel) (by decide +kernel) (by decide +kernel) (by decide +kernel) (by decide +kernel)
  refine eI ?_
  walk_at "rd"
  refine ⟨x,dx1,fs1,rfl,hx1,hl1,?_⟩
  walk_at "rd"
  refine ba (SqT.of h1) (i:=1) rfl ?_
  walk_at "rd"
  refine ba (SqT.of h1) (i:=2) rfl ?_
  walk_at "rd"
  exact ⟨M,x,pv,pe,b,T,g,y,s,rfl,t,h2,o1,o2,h3,o3,by omega,hds,q⟩
 | «show» i hh ns=>
  obtain ⟨a,l,rfl,h1,h2,h3⟩:=hd
  obtain ⟨o1,o2,o3,o4,o5⟩:=ok
  walk_at "rd"
  refine ba (SqT.of h1) (i:=0) rfl ?_
  walk_at "rd"
  refine aX (by decide) ?_
  walk_at "rd"
  obtain ⟨dx1,fs1,hx1,hl1⟩:=t.at "show" (by decide +kernel) (by decide +kernel) (by decide +kernel) (by decide +kernel) (by decide +kernel) (by decide +kernel)
  refine eI ?_
  walk_at "rd"
  refine ⟨x,dx1,fs1,rfl,hx1,hl1,?_⟩
  walk_at "rd"
  refine ba (SqT.of h1) (i:=1) rfl ?_
  walk_at "rd"
  refine ba (SqT.of h1) (i:=2) rfl ?_
  walk_at "rd"
  refine ba (SqT.of h1) (i:=3) rfl ?_
  walk_at "rd"
  refine jl (SqL.of h2) fun l1 H1 hl1' s1 e1=>?_
  walk_at "rd"
  exact ⟨M,x,pv,pe,l1,T,i,hh,ns,rfl,t.same s1,e1,o1,o2,o3,by omega,o5,hds,fun p Hm H2 k2 t2 hp s2 e2=>q p Hm H2 ((Kp.of s1).trans k2) t2 hp s2 e2⟩
end
section
open KF
theorem Gy (z:Int) (ns:List Int):inV (.int z) (ns.map V.int)=decide (z∈ns):=by
 unfold inV
 rw [List.any_map]
 cases h:ns.any ((fun y=>eqV y (.int z)) ∘ V.int) with
 | true=>
  obtain ⟨n,hn,e⟩:=List.any_eq_true.mp h
  have e':(n == z)=true:=e
  rw [beq_iff_eq] at e'
  exact (decide_eq_true (e' ▸ hn)).symm
 | false=>
  refine (decide_eq_false fun hz=>?_).symm
  have:=SR.mp h z hz
  exact this (show (z == z)=true by simp)
theorem IQ (y:Nat) (l:List Nat):inV (.int (y:Int)) (ax l)=decide (y∈l):=by
 rw [dm,Gy]
 refine decide_eq_decide.mpr ?_
 rw [MC]
 constructor
 ·rintro ⟨a,h,e⟩
  have:a=y:=by omega
  exact this ▸ h
 ·exact fun h=>⟨y,h,rfl⟩
noncomputable def TM.Dk (T:TM):Prop:=∀ m∈T.ds,m.2.length=T.n/\∀ y∈m.2,mV y=true
noncomputable def mh (ds:List (List Nat×List V)) (i d:Nat):List V:=(ds.filter fun m=>decide (i∈m.1)).map fun m=>m.2.getD d .non
noncomputable def CW (T:TM) (i d:Nat):List V:=(ph (T.ws.getD d []) i).map V.int
noncomputable def lD (H:Hp) (p:Addr) (T:TM) (i d:Nat):Prop:=∃ t,H p=some (.lst (.ref t :: mh T.ds i d))/\H t=some (.tup (CW T i d))
noncomputable def mi (_:Fg) (G:GF):Sp:=fun vs H Q _=>∃ (M:List Addr) (x pv pe:Addr) (T:TM) (i d:Nat),vs=[.ref x,.int i,.int d]/\Tb G M H x pv pe T/\T.Dk/\T.ds.length < 1000/\i < T.k/\d < T.n/\∀ p H',H p=none->ap H H'->lD H' p T i d->Q (.ref p) H'
noncomputable def kt (K:Fg) (G:GF):TS:=(aw (dw (au (bN K) [] E0 (aa (au (cq K) [] E0 (aa (ac 1) (aa (cW K (ac 0) "hands") ah))) (aa (tC (.str "this is no hand")) ah))))
 (aw (dw (au (bN K) [] E0 (aa (au (cq K) [] E0 (aa (ac 2) (aa (tCB (eQ K) (aa (cW K (ac 0) "dealt") ah)) ah))) (aa (tC (.str "this is no number of a deal")) ah))))
 (aN (tOp qN (fq (aa (au (iF K) [] E0 (aa (tOp (bR K) (cW K (ac 0) "dealt") (ac 2)) (aa (ac 1) ah))) ah)) (bW (dc K (cW K (ac 0) "deeds")) (fun _ _ _ _=>(jg K 2 (ca (aq 0) (ca (aq 1) jf)))) (fun _ _ _ _=>(bc (tOp (rIn K false) (ac 3) (ac 0)))) (fun _ _ _ _=>(tOp (bR K) (ac 1) (ac 2))) [none,none,some 2,some 1])))))
noncomputable abbrev Bo:List Str:=["self","hand","deal"]
theorem xO (ds:List (List Nat×List V)) (m:List Nat×List V) (i d:Nat):mh (ds++[m]) i d=mh ds i d++if i∈m.1 then [m.2.getD d .non] else []:=by
 unfold mh
 rw [Pb,LS]
 by_cases h:i∈m.1
 ·rw [if_pos h,Ov (p:=fun m:List Nat×List V=>decide (i∈m.1)) (decide_eq_true h)]
  rfl
 ·rw [if_neg h,Ow (p:=fun m:List Nat×List V=>decide (i∈m.1)) (by simpa using h)]
  rfl
theorem Gz (ds:List (List Nat×List V)) (i d:Nat):(mh ds i d).length<=ds.length:=by
 unfold mh
 rw [Lp]
 exact PK _ _
theorem Fi (l:List Nat):(ax l).all dQ=true:=Q8.mpr fun x hx=>by
 obtain ⟨n,_,rfl⟩:=MC.mp hx
 rfl
theorem Ar {K:Fg} {G:GF} (ct:nI K G.Table) {vs:List V} {H:Hp} {Q:VK} {E:XK} (h:mi K G vs H Q E):kt K G { nx:=fun _ H'=>Q .non H',rt:=Q } (start Bo vs) H:=by
 obtain ⟨M,x,pv,pe,T,i,d,rfl,t,dk,hds,hi,hd,q⟩:=h
 obtain ⟨dx,pd,ps,qs,es,X⟩:=t.ex
 have n2:=t.ok.n2
 obtain ⟨rs,er,hr⟩:=id X.dl
 have lr:(rs.map V.ref).length=T.n:=by rw [Lp]; exact Mj hr
 show kt K G _ [some _,some _,some _] _
 unfold kt
 walk_at "rd"
 refine cy ?_
 walk_at "rd"
 refine ⟨x,G.Table,dx,_,_,rfl,X.hx,ct.cl,ct.n4,rfl,?_⟩
 walk_at "rd"
 refine ⟨(i:Int),(T.k:Int),rfl,?_⟩
 rw [fh (by omega) (by omega)]
 walk_at "rd"
 refine ⟨_,rfl,?_⟩
 walk_at "rd"
 refine cy ?_
 walk_at "rd"
 refine ⟨x,G.Table,dx,_,_,rfl,X.hx,ct.cl,ct.n1,rfl,?_⟩
 walk_at "rd"
 rw [lr]
 refine ⟨(d:Int),(T.n:Int),rfl,?_⟩
 rw [fh (by omega) (by omega)]
 walk_at "rd"
 refine ⟨_,rfl,?_⟩
 walk_at "rd"
 refine cy ?_
 walk_at "rd"
 refine ⟨x,G.Table,dx,_,_,rfl,X.hx,ct.cl,ct.n1,rfl,?_⟩
 walk_at "rd"
 have hdr:d < rs.length:=by rw [Lp] at lr; omega
 have hrd:rs[d]?=some (rs[d]'hdr):=Lo _
 generalize rs[d]'hdr=rd at hrd
 obtain ⟨w,hw,ew⟩:=bL hr hrd
 have hwc:=t.ok.cards w (LA hw)
 have c12:=t.ok.pk.c12
 refine bA (SqL.of er) (dz (v:=.ref rd) (by rw [LD,hrd]; rfl)) ?_
 walk_at "rd"
 refine ⟨rd,w.map fun (s:Nat)=>((s:Nat):Int),(i:Nat),rfl,by rw [<-dm]; exact SqT.of ew,by rw [Lp]; omega,fun r H1 s1 e1=>?_⟩
 rw [Lp] at e1
 have e1':H1 r=some (.tup (CW T i d)):=by unfold CW; rw [j5 hw]; exact e1
 walk_at "rd"
 refine ⟨by simp [Lw],fun p1 H2 hp1 s2 e2=>?_⟩
 have s12:=s1.trans s2
 walk_at "rd"
 refine cy ?_
 walk_at "rd"
 refine ⟨x,G.Table,dx,_,_,rfl,s12 _ _ X.hx,ct.cl,ct.n6,rfl,?_⟩
 have les:es.length=T.ds.length:=Mj X.ed
 refine gp es (SqL.of (s12 _ _ X.pes)) (by omega) (fun j acc _=>acc=mh (T.ds.take j) i d) (fun H' _=>rfl) ?_ ?_
 ·rintro p' hp' C s' H' fp j xx acc H6 hxx ⟨s6,e6,l6,rfl⟩
  obtain ⟨m,hm,a,hA,v,rfl,h1,h2,h3,_⟩:=bL X.ed hxx
  have s16:=s12.trans s6
  obtain ⟨dk1,dk2⟩:=dk m (LA hm)
  refine iA (SqT.of (s16 _ _ h1)) ?_
  walk_at "rd"
  refine KR (SqT.of (s16 _ _ h2)) rfl (Fi _) (IQ i m.1) ?_
  walk_at "rd"
  refine dE (fun c=>?_) (fun c=>?_)
  ·walk_at "rd"
   have hdm:m.2[d]?=some (m.2.getD d .non):=by rw [LJ,Lo (by omega)]; rfl
   refine bA (SqL.of (s16 _ _ h3)) (dz hdm) ?_
   refine bu.put hp' (fun _ _ _ _ r _=>r) s6 e6 l6 ?_
   rw [cf hm,xO,if_pos c]
  ·refine bu.skip s6 e6 l6 ?_
   rw [cf hm,xO,if_neg c,NG]
 ·rintro pl acc H6 hpl s6 e6 rfl
  rw [les,Me] at e6
  walk_at "rd"
  have:=Gz T.ds i d
  refine r9 (s6 _ _ e2) e6 (by rw [Lw]; simp; omega) fun p7 H7 hp7 s7 e7=>?_
  walk_at "rd"
  exact q p7 H7 ((s12.trans s6).free hp7) ((s12.trans s6).trans s7) ⟨r,e7,s7 _ _ (s6 _ _ (s2 _ _ e1'))⟩
noncomputable def As (N:Addr->Prop) (H:Hp) (r:Addr) (T:TM) (i:Nat):Prop:=∃ (vp sp:Addr) (ss:List Addr),H r=some (.tup [.ref vp,.ref sp])/\H vp=some (.lst (ax (T.vw.getD i [])))/\N vp/\H sp=some (.lst (ss.map V.ref))/\N sp/\ss.length=T.n/\∀ (d:Nat) (p:Addr),ss[d]?=some p->lD H p T i d/\N p
noncomputable def StV (N:Addr->Prop) (H:Hp) (v:V) (T:TM):Prop:=∃ (a dl hl:Addr) (rs:List Addr),v=.ref a/\H a=some (.tup [.ref dl,.ref hl])/\bB H dl T.ws/\N dl/\H hl=some (.lst (rs.map V.ref))/\N hl/\rs.length=T.k/\∀ (i:Nat) (r:Addr),rs[i]?=some r->As N H r T i
theorem lD.to {H H':Hp} {p:Addr} {T:TM} {i d:Nat} (h:lD H p T i d) (k:dJ H H') (e:∀ xs,H p=some (.lst xs)->H' p=some (.lst xs)):lD H' p T i d:=by
 obtain ⟨t,h1,h2⟩:=h
 exact ⟨t,e _ h1,k _ _ h2⟩
theorem As.to {N N':Addr->Prop} {H H':Hp} {r:Addr} {T:TM} {i:Nat} (h:As N H r T i) (k:dJ H H') (f:∀ l xs,N l->H l=some (.lst xs)->H' l=some (.lst xs)/\N' l):As N' H' r T i:=by
 obtain ⟨vp,sp,ss,g1,g2,g3,g4,g5,g6,g7⟩:=h
 refine ⟨vp,sp,ss,k _ _ g1,(f _ _ g3 g2).1,(f _ _ g3 g2).2,(f _ _ g5 g4).1,(f _ _ g5 g4).2,g6,fun d p hp=>?_⟩
 obtain ⟨z1,z2⟩:=g7 d p hp
 obtain ⟨t,y1,y2⟩:=id z1
 exact ⟨z1.to k fun xs e=>(f _ _ z2 e).1,(f _ _ z2 y1).2⟩
theorem StV.to {N N':Addr->Prop} {H H':Hp} {v:V} {T:TM} (h:StV N H v T) (k:dJ H H') (f:∀ l xs,N l->H l=some (.lst xs)->H' l=some (.lst xs)/\N' l):StV N' H' v T:=by
 obtain ⟨a,dl,hl,rs,rfl,h1,⟨qs,h2,h3⟩,h4,h5,h6,h7,h8⟩:=h
 exact ⟨a,dl,hl,rs,rfl,k _ _ h1,⟨qs,(f _ _ h4 h2).1,Paired.mapP h3 fun _ _ e=>k _ _ e⟩,(f _ _ h4 h2).2,(f _ _ h6 h5).1,(f _ _ h6 h5).2,h7,fun i r hr=>(h8 i r hr).to k f⟩
theorem GB {T:TM} (dk:T.Dk) (i d:Nat):∀ y∈mh T.ds i d,mV y=true:=fun y hy=>by
 unfold mh at hy
 obtain ⟨m,hm,rfl⟩:=MC.mp hy
 obtain ⟨h1,_⟩:=ND.mp hm
 rw [LJ]
 cases e:m.2[d]? with
 | none=>rfl
 | some z=>exact (dk m h1).2 z (LA e)
theorem lD.eqv {K:Fg} {H:Hp} {p q:Addr} {T:TM} {i d:Nat} (dk:T.Dk) (h:lD H p T i d) (g:lD H q T i d):dF K H 2 (.ref p) (.ref q):=by
 obtain ⟨t,h1,h2⟩:=h
 obtain ⟨t',g1,g2⟩:=g
 refine .lst (SqL.of h1) (SqL.of g1) rfl fun j x y hx hy=>?_
 cases j with
 | zero=>cases hx; cases hy; exact vc (SqT.of h2) (SqT.of g2) (qS _)
 | succ j=>
  have hx':(mh T.ds i d)[j]?=some x:=hx
  have hy':(mh T.ds i d)[j]?=some y:=hy
  rw [hx'] at hy'
  cases hy'
  exact .flat (GB dk i d _ (LA hx'))
theorem StV.eqv {K:Fg} {N N':Addr->Prop} {H:Hp} {u v:V} {T:TM} (dk:T.Dk) (h:StV N H u T) (g:StV N' H v T):dF K H 6 u v:=by
 obtain ⟨a,dl,hl,rs,rfl,h1,⟨qs,h2,h3⟩,h4,h5,h6,h7,h8⟩:=h
 obtain ⟨a',dl',hl',rs',rfl,g1,⟨qs',g2,g3⟩,g4,g5,g6,g7,g8⟩:=g
 refine vd (SqT.of h1) (SqT.of g1) ?_ ?_
 ·refine .up (n:=2) (.lst (SqL.of h2) (SqL.of g2) (by rw [Lp,Lp,Mj h3,Mj g3]) fun i x y hx hy=>?_) (by decide)
  obtain ⟨b,hb,rfl⟩:=kK hx
  obtain ⟨b',hb',rfl⟩:=kK hy
  obtain ⟨w,hw,ew⟩:=bL h3 hb
  obtain ⟨w',hw',ew'⟩:=bL g3 hb'
  rw [hw] at hw'
  cases hw'
  exact vc (SqT.of ew) (SqT.of ew') (by rw [dm]; exact qS _)
 ·refine .lst (n:=4) (SqL.of h5) (SqL.of g5) (by rw [Lp,Lp,h7,g7]) fun i x y hx hy=>?_
  obtain ⟨b,hb,rfl⟩:=kK hx
  obtain ⟨b',hb',rfl⟩:=kK hy
  obtain ⟨vp,sp,ss,e1,e2,_,e4,_,e6,e7⟩:=h8 i b hb
  obtain ⟨vp',sp',ss',f1,f2,_,f4,_,f6,f7⟩:=g8 i b' hb'
  refine vd (SqT.of e1) (SqT.of f1) (.up (jp (SqL.of e2) (SqL.of f2) (by rw [dm]; exact qS _)) (by decide)) ?_
  refine .lst (n:=2) (SqL.of e4) (SqL.of f4) (by rw [Lp,Lp,e6,f6]) fun d x y hx hy=>?_
  obtain ⟨c,hc,rfl⟩:=kK hx
  obtain ⟨c',hc',rfl⟩:=kK hy
  exact (e7 d c hc).1.eqv dk (f7 d c' hc').1
noncomputable def cQ (_:Fg) (G:GF):Sp:=fun vs H Q _=>∃ (M:List Addr) (x pv pe:Addr) (T:TM) (k n:Nat),vs=[.ref x,.int k,.int n]/\T.k=k/\T.n=n/\Tb G M H x pv pe T/\T.Dk/\T.ds.length < 1000/\∀ v H',ap H H'->StV (fun l=>H l=none) H' v T->Q v H'
noncomputable def jH (K:Fg) (G:GF):TS:=(aw (aI (bW (fA (aa (ac 1) ah)) (fun _ _ _ _=>(aq 0)) (fun _ _ _ _=>bM) (fun _ _ _ _=>(cp (aa (dy G.Table "view" (kZ K G) [] E0 (ac 1) (aa (ac 0) ah)) (aa (bW (fA (aa (ac 2) ah)) (fun _ _ _ _=>(aq 0)) (fun _ _ _ _=>bM) (fun _ _ _ _=>(dy G.Table "saw" (mi K G) [] E0 (ac 2) (aa (ac 1) (aa (ac 0) ah)))) [none,some 0,some 1]) ah)))) [none,some 0,some 2]) (aq 3))
 (aN (cp (aa (dy G.Table "deals" (ib K G) [] E0 (ac 0) ah) (aa (ac 3) ah)))))
noncomputable abbrev At:List Str:=["_law_table","_law_hands","_law_many","_law_held"]
theorem yh {K:Fg} {G:GF} {vs:List V} {H:Hp} {Q:VK} {E:XK} (h:cQ K G vs H Q E):jH K G { nx:=fun _ H'=>Q .non H',rt:=Q } (start At vs) H:=by
 obtain ⟨M,x,pv,pe,T,k,n,rfl,rfl,rfl,t,dk,hds,q⟩:=h
 have n2:=t.ok.n2
 have l5:T.k<=5:=t.ok.pk.l5
 show jH K G _ [some _,some _,some _,none] _
 unfold jH
 refine bj ?_
 walk_at "rs"
 refine rh T.k (by omega) (by omega) (by omega) (fun p' j acc H'=>∃ rs:List Addr,acc=rs.map V.ref/\rs.length=j/\∀ i r,rs[i]?=some r->As (fun l=>H l=none/\l≠p') H' r T i) (fun p' H' _=>⟨[],rfl,rfl,fun i r hr=>by cases i <;> cases hr⟩) ?_ ?_
 ·rintro p' hp' C s' H' fp j acc H1 hj ⟨s1,e1,l1,rs,rfl,lrs,hrs⟩
  have t1:=t.same s1
  walk_at "rd"
  obtain ⟨dx1,fs1,hx1,hl1⟩:=t1.at "view" (by decide +kernel) (by decide +kernel) (by decide +kernel) (by decide +kernel) (by decide +kernel) (by decide +kernel)
  refine eI ?_
  walk_at "rd"
  refine ⟨x,dx1,fs1,rfl,hx1,hl1,?_⟩
  walk_at "rd"
  refine ⟨M,x,pv,pe,T,j,rfl,t1,hj,fun q2 H2 hq2 s2 e2=>?_⟩
  have t2:=t1.same s2
  walk_at "rd"
  refine rh T.n (by omega) (by omega) (by omega) (fun p'' d acc H'=>∃ ss:List Addr,acc=ss.map V.ref/\ss.length=d/\∀ i r,ss[i]?=some r->lD H' r T j i/\H2 r=none/\r≠p'') (fun p'' H' _=>⟨[],rfl,rfl,fun i r hr=>by cases i <;> cases hr⟩) ?_ ?_
  ·rintro p2' hp2' C2 s2' H2' fp2 d acc H3 hd ⟨s3,e3,l3,ss,rfl,lss,hss⟩
   have t3:=t2.same s3
   walk_at "rd"
   obtain ⟨dx3,fs3,hx3,hl3⟩:=t3.at "saw" (by decide +kernel) (by decide +kernel) (by decide +kernel) (by decide +kernel) (by decide +kernel) (by decide +kernel)
   refine eI ?_
   walk_at "rd"
   refine ⟨x,dx3,fs3,rfl,hx3,hl3,?_⟩
   walk_at "rd"
   refine ⟨M,x,pv,pe,T,j,d,rfl,t3,dk,hds,hj,hd,fun q4 H4 hq4 s4 e4=>?_⟩
   have nq4:q4≠p2':=fun z=>by rw [z,e3] at hq4; cases hq4
   refine bu.putW hp2' (s3.trans s4) (s4 _ _ e3) l3 fun H5 o5=>⟨ss++[q4],by rw [LS]; rfl,by rw [LG,lss]; rfl,fun i r hr=>?_⟩
   have kp:∀ {b:Addr} {xs:List V},H4 b=some (.tup xs)->H5 b=some (.tup xs):=fun {b xs} e=>(o5 b (fun z=>by rw [z,s4 _ _ e3] at e; cases e)).trans e
   by_cases hi:i < ss.length
   ·rw [NQ hi] at hr
    obtain ⟨z1,z2,z3⟩:=hss i r hr
    exact ⟨z1.to (fun _ _ e=>kp (s4 _ _ e)) fun xs e=>(o5 _ z3).trans (s4 _ _ e),z2,z3⟩
   ·have hi2:=(Ls.mp hr).1
    rw [LG] at hi2
    have ei:i=d:=by simp at hi2; omega
    subst ei
    rw [Nd (by omega),lss,OP] at hr
    cases hr
    exact ⟨e4.to (fun _ _ e=>kp e) fun xs e=>(o5 _ nq4).trans e,s3.free hq4,nq4⟩
  ·rintro q3 acc H3 hq3 s3 e3 ⟨ss,rfl,lss,hss⟩
   walk_at "rd"
   refine ⟨by simp [Lw],fun q4 H4 hq4 s4 e4=>?_⟩
   have s14:=(s2.trans s3).trans s4
   have f0:∀ {b:Addr},H1 b=none->H b=none/\b≠p':=fun h=>⟨s1.free h,fun z=>by rw [z,e1] at h; cases h⟩
   refine bu.putW hp' (s1.trans s14) (s14 _ _ e1) l1 fun H5 o5=>⟨rs++[q4],by rw [LS]; rfl,by rw [LG,lrs]; rfl,fun i r hr=>?_⟩
   have kp:∀ {b:Addr} {xs:List V},H4 b=some (.tup xs)->H5 b=some (.tup xs):=fun {b xs} e=>(o5 b (fun z=>by rw [z,s14 _ _ e1] at e; cases e)).trans e
   by_cases hi:i < rs.length
   ·rw [NQ hi] at hr
    exact (hrs i r hr).to (fun _ _ e=>kp (s14 _ _ e)) fun l xs hl e=>⟨(o5 _ hl.2).trans (s14 _ _ e),hl⟩
   ·have hi2:=(Ls.mp hr).1
    rw [LG] at hi2
    have ei:i=j:=by simp at hi2; omega
    subst ei
    rw [Nd (by omega),lrs,OP] at hr
    cases hr
    have n2:=f0 hq2
    have n3:=f0 (s2.free hq3)
    refine ⟨q2,q3,ss,kp e4,(o5 _ n2.2).trans (s4 _ _ (s3 _ _ e2)),n2,(o5 _ n3.2).trans (s4 _ _ e3),n3,lss,fun d p hp=>?_⟩
    obtain ⟨z1,z2,z3⟩:=hss d p hp
    have n4:=f0 (s2.free z2)
    exact ⟨z1.to (fun _ _ e=>kp (s4 _ _ e)) fun xs e=>(o5 _ n4.2).trans (s4 _ _ e),n4⟩
 ·rintro hl acc H1 hhl s1 e1 ⟨rs,rfl,lrs,hrs⟩
  have t1:=t.same s1
  walk_at "rs"
  obtain ⟨dx1,fs1,hx1,hl1⟩:=t1.at "deals" (by decide +kernel) (by decide +kernel) (by decide +kernel) (by decide +kernel) (by decide +kernel) (by decide +kernel)
  refine eI ?_
  walk_at "rs"
  refine ⟨x,dx1,fs1,rfl,hx1,hl1,?_⟩
  walk_at "rs"
  refine ⟨M,x,pv,pe,T,rfl,t1,fun q2 H2 hq2 s2 e2=>?_⟩
  walk_at "rs"
  refine ⟨by simp [Lw],fun q3 H3 hq3 s3 e3=>?_⟩
  exact q _ H3 ((s1.trans s2).trans s3) ⟨q3,q2,hl,rs,rfl,e3,e2.same' s3,s1.free hq2,s3 _ _ (s2 _ _ e1),hhl,lrs,fun i r hr=>(hrs i r hr).to (fun _ _ e=>s3 _ _ (s2 _ _ e)) fun l xs hl e=>⟨s3 _ _ (s2 _ _ e),hl.1⟩⟩
end
section
open KF
noncomputable def eJ (T:TM) (ds:List Dd):TM:=ds.foldl TM.deed T
theorem rA (T:TM) (ds:List Dd) (d:Dd):eJ T (ds++[d])=(eJ T ds).deed d:=by unfold eJ; rw [QS]; rfl
theorem gL (T:TM):∀ ds:List Dd,(eJ T ds).c=T.c/\(eJ T ds).ss=T.ss:=fun ds=>by
 induction ds generalizing T with
 | nil=>exact ⟨rfl,rfl⟩
 | cons d ds ih=>exact ⟨(ih (T.deed d)).1.trans (vA T d).1,(ih (T.deed d)).2.trans (vA T d).2⟩
theorem jI (T:TM) (ds:List Dd):(eJ T ds).n=T.n:=by unfold TM.n TM.ws; rw [(gL T ds).1,(gL T ds).2]
theorem gd (T:TM) (ds:List Dd):(eJ T ds).k=T.k:=by unfold TM.k; rw [(gL T ds).2]
theorem ii (T:TM):∀ ds:List Dd,(eJ T ds).ds.length=T.ds.length + ds.length:=fun ds=>by
 induction ds generalizing T with
 | nil=>rfl
 | cons d ds ih=>
  show (eJ (T.deed d) ds).ds.length=_
  rw [ih,IP,LX]; omega
theorem IR {T:TM} (h:T.Dk) (d:Dd):(T.deed d).Dk:=fun m hm=>by
 have en:(T.deed d).n=T.n:=by unfold TM.n; rw [IO]
 rw [en]
 cases d with
 | word g s=>
  rcases LR.mp (show m∈T.ds++[_] from hm) with z | z
  ·exact h m z
  ·rw [Ln.mp z]
   exact ⟨cP _ _,lZ _ _⟩
 | «show» i hh ns=>
  rcases LR.mp (show m∈T.ds++[_] from hm) with z | z
  ·exact h m z
  ·rw [Ln.mp z]
   refine ⟨by unfold jE; rw [Lp,Lp]; rfl,fun y hy=>?_⟩
   obtain ⟨a,_,rfl⟩:=MC.mp hy
   cases a <;> rfl
theorem oh {T:TM} (h:T.Dk):∀ ds:List Dd,(eJ T ds).Dk:=fun ds=>by
 induction ds generalizing T with
 | nil=>exact h
 | cons d ds ih=>exact ih (IR h d)
theorem mj (c:Nat) (ss:List Nat):(TM.begun c ss).Dk:=fun m hm=>nomatch hm
noncomputable def CY (T:TM) (ds:List Dd):Nat->Option (List V)
 | 0=>none
 | j + 1=>(ds[j]?).map fun d=>(eJ T (ds.take j)).dtold d
noncomputable def wS (N:Addr->Prop) (H:Hp) (v:V):Option (List V)->Prop
 | none=>v=.non
 | some ys=>∃ p,v=.ref p/\H p=some (.lst ys)/\N p
theorem wS.to {N N':Addr->Prop} {H H':Hp} {v:V} {o:Option (List V)} (h:wS N H v o) (f:∀ l xs,N l->H l=some (.lst xs)->H' l=some (.lst xs)/\N' l):wS N' H' v o:=by
 cases o with
 | none=>exact h
 | some ys=>
  obtain ⟨p,e,h1,h2⟩:=h
  exact ⟨p,e,(f _ _ h2 h1).1,(f _ _ h2 h1).2⟩
theorem CZ (T:TM) (d:Dd):∀ x∈T.dtold d,mV x=true:=by
 cases d with
 | word g s=>exact lZ _ _
 | «show» i h ns=>
  intro x hx
  obtain ⟨a,_,rfl⟩:=MC.mp hx
  cases a <;> rfl
noncomputable def gM (_:Fg) (G:GF):Sp:=fun vs H Q _=>∃ (c:Nat) (q pd:Addr) (ss:List Nat) (es:List V) (ds:List Dd) (v:V) (s:Sy),vs=[.int c,.ref q,.ref pd,v]/\H q=some (.lst (ax ss))/\pb c ss/\KM.cx c ss<=2000/\H pd=some (.lst es)/\Paired (dR (fun _=>True) H) es ds/\(∀ d∈ds,d.Ok c ss.length)/\ds.length < 900/\aP H v s/\s.Ok c ss.length/\s.words<=30/\
 ∀ (a:Addr) (tv sv:V) (tp:Addr) (H':Hp),ap H H'->H' a=some (.tup [tv,sv,.ref tp])->wS (fun l=>H l=none) H' tv (CY (TM.begun c ss) ds ds.length)->StV (fun l=>H l=none) H' sv (eJ (TM.begun c ss) ds)->H' tp=some (.lst (blV (TM.begun c ss).n ((eJ (TM.begun c ss) ds).tr s)))->H tp=none->Q (.ref a) H'
noncomputable def ku (K:Fg) (G:GF):TS:=(aw (aI (rV G.Table (cz K G) [] E0 (aa (ac 0) (aa (ac 1) ah))) (aq 4))
 (aw (aI (tC .non) (aq 5))
 (aw (dI (dc K (ac 2)) (aq 6) (aI (au (gK K G) [] E0 (aa (ac 4) (aa (ac 6) ah))) (aq 5)))
 (aN (cp (aa (ac 5) (aa (au (cQ K G) [] E0 (aa (ac 4) (aa (tCB (eQ K) (aa (ac 1) ah)) (aa (tCB (eQ K) (aa (dy G.Table "deals" (ib K G) [] E0 (ac 4) ah) ah)) ah)))) (aa (dy G.Table "truths" (cM K G) [] E0 (ac 4) (aa (ac 3) ah)) ah))))))))
noncomputable abbrev Bp:List Str:=["_law_cards","_law_sizes","_law_deeds","_law_saying_here","_law_table","_law_told","_law_deed_here"]
theorem Au {K:Fg} {G:GF} {vs:List V} {H:Hp} {Q:VK} {E:XK} (h:gM K G vs H Q E):ku K G { nx:=fun _ H'=>Q .non H',rt:=Q } (start Bp vs) H:=by
 obtain ⟨c,q,pd,ss,es,ds,v,s,rfl,eq,pk,few,epd,hes,hok,hdl,hS,sok,sw,g⟩:=h
 have h1:=pk.l1
 have h5:=pk.l5
 show ku K G _ [some _,some _,some _,some _,none,none,none] _
 unfold ku
 refine bj (kb (Ai ?_))
 walk_at "rd"
 intro x dx hx hdx hne
 have st:ap H (upd (upd H dx (.own x)) x (.ins G.Table dx [])):=((ap.refl H).upd hdx _).upd hx _
 refine ⟨[],x,dx,q,c,ss,rfl,az,st _ _ eq,pk,few,(fun b hb=>nomatch hb),(fun hb=>nomatch hb),fun H2 pv pe kx hpv hpe t2=>?_⟩
 have s2:ap H H2:=fun b o e=>kx _ _ (aR e hx) (st _ _ e)
 have new2:∀ b∈[pv,pe],H b=none:=fun b hb=>by
  rcases Lq.mp hb with z | z
  ·rw [z]; exact st.free hpv
  ·rw [Ln.mp z]; exact st.free hpe
 have off2:∀ {b:Addr} {o:HO},H b=some o->b∉[pv,pe]:=fun e z=>by rw [new2 _ z] at e; cases e
 refine ⟨rfl,?_⟩
 refine bj ?_
 walk_at "rs"
 refine i7 fun NX hNX=>?_
 walk_at "rd"
 have les:es.length=ds.length:=Mj hes
 refine lL es (SqL.of (s2 _ _ epd)) (fun j σ H3=>∃ (u:V) (u6:Option V),σ=[some (.int c),some (.ref q),some (.ref pd),some v,some (.ref x),some u,u6]/\ap H H3/\Tb G [pv,pe] H3 x pv pe (eJ (TM.begun c ss) (ds.take j))/\wS (fun l=>H l=none/\l∉[pv,pe]) H3 u (CY (TM.begun c ss) ds j)) ⟨.non,none,rfl,s2,t2,rfl⟩ ?_ ?_ ?_
 ·rintro j σ H3 hj ⟨u,u6,rfl,s3,_⟩
  exact SqL.of (s3 _ _ epd)
 ·rintro j y σ H3 hy ⟨u,u6,rfl,s3,t3,_⟩
  obtain ⟨d,hd,hD⟩:=bL hes hy
  have rc:=gL (TM.begun c ss) (ds.take j)
  have rk:=gd (TM.begun c ss) (ds.take j)
  have rl:=ii (TM.begun c ss) (ds.take j)
  have e0:(TM.begun c ss).ds.length=0:=rfl
  have:(ds.take j).length<=ds.length:=by rw [M9]; exact Tr _ _
  walk_at "rd"
  refine ⟨[pv,pe],x,pv,pe,_,y,d,rfl,t3,hD.to s3.keep (fun l xs _ e=>⟨s3 _ _ e,off2 e⟩),by rw [rc.1,rk]; exact hok d (LA hd),by omega,fun p5 Hm H5 k5 t5 hp5 s5 e5=>?_⟩
  walk_at "rd"
  refine ⟨_,_,rfl,(k5.new s3 new2).trans s5,by rw [cf hd,rA]; exact t5.same s5,?_⟩
  show wS _ _ _ ((ds[j]?).map _)
  rw [hd]
  exact ⟨p5,rfl,e5,s3.free (k5.f _ hp5),t5.off hp5⟩
 ·rintro σ H3 ⟨u,u6,rfl,s3,t3,hu⟩
  refine hNX _ _ ?_
  clear hNX
  rw [les] at hu t3
  rw [Me] at t3
  have rc:=gL (TM.begun c ss) ds
  have rk:=gd (TM.begun c ss) ds
  have rn:=jI (TM.begun c ss) ds
  have rl:=ii (TM.begun c ss) ds
  have e0:(TM.begun c ss).ds.length=0:=rfl
  have kk:(TM.begun c ss).k=ss.length:=rfl
  have dk:=oh (mj c ss) ds
  walk_at "rd"
  refine rZ (ys:=ax ss) (SqL.of (s3 _ _ eq)) ?_
  rw [bi]
  walk_at "rd"
  obtain ⟨dx1,fs1,hx1,hl1⟩:=t3.at "deals" (by decide +kernel) (by decide +kernel) (by decide +kernel) (by decide +kernel) (by decide +kernel) (by decide +kernel)
  refine eI ?_
  walk_at "rd"
  refine ⟨x,dx1,fs1,rfl,hx1,hl1,?_⟩
  walk_at "rd"
  refine ⟨[pv,pe],x,pv,pe,_,rfl,t3,fun q4 H4 hq4 s4 e4=>?_⟩
  obtain ⟨rs,er,hr⟩:=e4
  have lr:(rs.map V.ref).length=(eJ (TM.begun c ss) ds).n:=by rw [Lp]; exact Mj hr
  walk_at "rd"
  rw [lr]
  refine ⟨[pv,pe],x,pv,pe,_,ss.length,_,rfl,by rw [rk,kk],rfl,t3.same s4,dk,by omega,fun sv H5 s5 hsv=>?_⟩
  walk_at "rd"
  have s35:=s4.trans s5
  have t5:=t3.same s35
  obtain ⟨dx2,fs2,hx2,hl2⟩:=t5.at "truths" (by decide +kernel) (by decide +kernel) (by decide +kernel) (by decide +kernel) (by decide +kernel) (by decide +kernel)
  refine eI ?_
  walk_at "rd"
  refine ⟨x,dx2,fs2,rfl,hx2,hl2,?_⟩
  walk_at "rd"
  refine ⟨[pv,pe],x,pv,pe,_,v,s,rfl,t5,hS.keep (s3.trans s35).keep,by rw [rc.1,rk,kk]; exact sok,sw,fun p6 H6 hp6 s6 e6=>?_⟩
  walk_at "rd"
  refine ⟨by simp [Lw],fun a7 H7 ha7 s7 e7=>?_⟩
  have s67:=s6.trans s7
  rw [rn] at e6
  exact g a7 u sv p6 H7 ((s3.trans s35).trans s67) e7 (hu.to fun l xs h e=>⟨s67 _ _ (s35 _ _ e),h.1⟩) (hsv.to (fun _ _ e=>s67 _ _ e) fun l xs h e=>⟨s67 _ _ e,s3.free (s4.free h)⟩) (s7 _ _ e6) (s3.free (s35.free hp6))
end
section
open KF
structure Fx (M:List Addr) (pv pe r:Nat->Addr):Prop where
 mr:∀ i,i < 2->r i∈M
 d1:∀ i j,i < 2->j < 2->i≠j->pv i≠pv j/\pv i≠pe j/\pe i≠pv j/\pe i≠pe j
 d2:∀ i j,i < 2->j < 2->r i≠pv j/\r i≠pe j
 d3:∀ i j,i < 2->j < 2->i≠j->r i≠r j
structure Two (G:GF) (M:List Addr) (c:Nat) (ss:List Nat) (x pv pe r:Nat->Addr) (H:Hp) (ds rw:Nat->List Dd) (es:Nat->List V) (m:Nat):Prop where
 tb:∀ i,i < 2->Tb G M H (x i) (pv i) (pe i) (eJ (TM.begun c ss) (ds i))
 row:∀ i,i < 2->H (r i)=some (.lst (es i))
 dd:∀ i,i < 2->Paired (dR (fun l=>l∉M) H) (es i) (rw i)
 ok:∀ i,i < 2->∀ d∈rw i,d.Ok c ss.length
 len:∀ i,i < 2->(rw i).length<=m
 le:∀ i,i < 2->(ds i).length<=m
theorem dR.kp {M N:List Addr} {H H':Hp} {v:V} {d:Dd} (h:dR (fun l=>l∉M) H v d) (k:Kp N H H') (hn:∀ b∈N,b∈M):dR (fun l=>l∉M) H' v d:=h.to k.keep fun l xs n e=>⟨k.lst (fun z=>n (hn _ z)) e,n⟩
section
variable {G:GF} {M:List Addr} {c:Nat} {ss:List Nat} {x pv pe r:Nat->Addr} {H H':Hp} {ds rw ds' rw':Nat->List Dd} {es es':Nat->List V} {m:Nat}
theorem Two.same (h:Two G M c ss x pv pe r H ds rw es m) (s:ap H H'):Two G M c ss x pv pe r H' ds rw es m:=
 ⟨fun i hi=>(h.tb i hi).same s,fun i hi=>s _ _ (h.row i hi),fun i hi=>Paired.mapP (h.dd i hi) fun _ _ z=>z.kp (N:=[]) (Kp.of s) (fun _ z=>nomatch z),h.ok,h.len,h.le⟩
theorem Two.app (F:Fx M pv pe r) (h:Two G M c ss x pv pe r H ds rw es m) {a:Nat} (ha:a < 2) {v:V} {d:Dd} (hd:dR (fun l=>l∉M) H v d) (hk:d.Ok c ss.length) (k:Kp [r a] H H') (e:H' (r a)=some (.lst (es a++[v]))):Two G M c ss x pv pe r H' ds (fun i=>if i=a then rw a++[d] else rw i) (fun i=>if i=a then es a++[v] else es i) (m + 1):=by
 have sub:∀ b∈[r a],b∈M:=fun b hb=>by rw [Ln.mp hb]; exact F.mr a ha
 refine ⟨fun i hi=>(h.tb i hi).kp k sub (fun z=>(F.d2 a i ha hi).1 (Ln.mp z).symm) (fun z=>(F.d2 a i ha hi).2 (Ln.mp z).symm),fun i hi=>?_,fun i hi=>?_,fun i hi=>?_,fun i hi=>?_,fun i hi=>Nat.le_succ_of_le (h.le i hi)⟩
 ·by_cases z:i=a
  ·subst z; rw [if_pos rfl]; exact e
  ·rw [if_neg z]; exact k.lst (fun y=>F.d3 i a hi ha z (Ln.mp y)) (h.row i hi)
 ·by_cases z:i=a
  ·subst z; rw [if_pos rfl,if_pos rfl]; exact Ak (Paired.mapP (h.dd i hi) fun _ _ z=>z.kp k sub) (hd.kp k sub)
  ·rw [if_neg z,if_neg z]; exact Paired.mapP (h.dd i hi) fun _ _ z=>z.kp k sub
 ·by_cases z:i=a
  ·subst z; rw [if_pos rfl]
   intro y hy
   rcases LR.mp hy with w | w
   ·exact h.ok i hi y w
   ·rw [Ln.mp w]; exact hk
  ·rw [if_neg z]; exact h.ok i hi
 ·have:=h.len i hi
  by_cases z:i=a
  ·subst z; rw [if_pos rfl,LG]; exact OT this 1
  ·rw [if_neg z]; omega
theorem Two.done (F:Fx M pv pe r) (h:Two G M c ss x pv pe r H ds rw es m) {a:Nat} (ha:a < 2) (k:Kp [pv a,pe a] H H') (hl:(rw' a).length<=m) (t:Tb G M H' (x a) (pv a) (pe a) (eJ (TM.begun c ss) (rw' a))) (ho:∀ i,i≠a->rw' i=ds i):Two G M c ss x pv pe r H' rw' rw es m:=by
 have sub:∀ b∈[pv a,pe a],b∈M:=fun b hb=>by
  rcases Lq.mp hb with z | z
  ·rw [z]; exact t.mv
  ·rw [Ln.mp z]; exact t.me
 refine ⟨fun i hi=>?_,fun i hi=>?_,fun i hi=>Paired.mapP (h.dd i hi) fun _ _ z=>z.kp k sub,h.ok,h.len,fun i hi=>?_⟩
 ·by_cases z:i=a
  ·subst z; exact t
  ·rw [ho i z]
   obtain ⟨z1,z2,z3,z4⟩:=F.d1 i a hi ha z
   refine (h.tb i hi).kp k sub (fun y=>?_) fun y=>?_
   ·rcases Lq.mp y with w | w
    ·exact z1 w
    ·exact z2 (Ln.mp w)
   ·rcases Lq.mp y with w | w
    ·exact z3 w
    ·exact z4 (Ln.mp w)
 ·refine k.lst (fun y=>?_) (h.row i hi)
  rcases Lq.mp y with w | w
  ·exact (F.d2 i a hi ha).1 w
  ·exact (F.d2 i a hi ha).2 (Ln.mp w)
 ·by_cases z:i=a
  ·subst z; exact hl
  ·rw [ho i z]; exact h.le i hi
end
theorem gf {a:Nat} (ha:a < 2) (x:Nat->Addr):atI [V.ref (x 0),V.ref (x 1)] (a:Int)=some (.ref (x a)):=by
 have:a=0\/a=1:=by omega
 rcases this with rfl | rfl <;> rfl
noncomputable abbrev Kf (K:Fg):Sp:=uO K
noncomputable def yT (K:Fg) (G:GF):TS:=(aw (aI (au (lW K) [] E0 (aa (ac 0) (aa (tC (.int 0)) (aa (tC (.int 60)) ah)))) (jg K 2 (ca (aq 1) (ca (aq 2) jf))))
 (aw (aI (tCB (eQ K) (aa (ac 2) ah)) (aq 3))
 (aw (aI (tCB (eQ K) (aa (au (kf K) [] E0 (aa (ac 1) (aa (ac 2) ah))) ah)) (aq 4))
 (aw (aI (rV G.Table (cz K G) [] E0 (aa (ac 1) (aa (ac 2) ah))) (aq 5))
 (aw (aI (fq ah) (aq 6))
 (aw (dI (fA (aa (tOp (rI (fun _ j=>0 < j) fun i j=>.int (i % j)) (au (bg K) [] E0 (aa (ac 0) (aa (tC (.int 7)) ah))) (tC (.int 4))) ah)) (aq 7) (aw (dw (tBM K "list" gX (ac 6) (aa (au (jG K) [] E0 (aa (ac 0) (aa (tOp (rI0 fun i j=>.int (i + j)) (tC (.int 10)) (tOp (rI N2 fun i j=>.int (i * j)) (tC (.int 18)) (ac 7))) (aa (ac 1) (aa (ac 3) ah))))) ah)))
 (dw (au (gK K G) [] E0 (aa (ac 5) (aa (tOp (bR K) (ac 6) (ac 7)) ah))))))
 (aw (aI (fq (aa (ac 5) (aa (dy G.Table "again" (ig K G) [] E0 (ac 5) ah) ah))) (aq 8))
 (aw (aI (fq (aa (tCB (gG K) (aa (ac 6) ah)) (aa (tCB (gG K) (aa (ac 6) ah)) ah))) (aq 9))
 (aw (aI (cp (aa (tC (.str "knows")) (aa (tOp (rI (fun _ j=>0 < j) fun i j=>.int (i % j)) (au (bg K) [] E0 (aa (ac 0) (aa (tC (.int 6)) ah))) (ac 3)) (aa (au (fI K) [] E0 (aa (ac 0) (aa (tC (.int 40)) (aa (ac 1) (aa (ac 3) (aa (tC (.int 9)) ah)))))) ah)))) (aq 10))
 (aw (bD (bc (tOp (gc K true) (au (cQ K G) [] E0 (aa (tOp (bR K) (ac 8) (tC (.int 1))) (aa (ac 3) (aa (ac 4) ah)))) (tOp (bU K) (au (gM K G) [] E0 (aa (ac 1) (aa (ac 2) (aa (ac 6) (aa (ac 10) ah))))) (tC (.int 1))))) (aN (tC (.bl false))) bh)
 (aw (dI (fA (aa (tOp (rI (fun _ j=>0 < j) fun i j=>.int (i % j)) (au (bg K) [] E0 (aa (ac 0) (aa (tC (.int 8)) ah))) (tC (.int 5))) ah)) (aq 7) (aw (aI (tOp (rI (fun _ j=>0 < j) fun i j=>.int (i % j)) (tOp (rI fE fun i j=>.int (i / j)) (au (bg K) [] E0 (aa (ac 0) (aa (tC (.int 9)) ah))) (tOp (bR K) (fq (aa (tC (.int 1)) (aa (tC (.int 2)) (aa (tC (.int 4)) (aa (tC (.int 8)) ah))))) (ac 7))) (tC (.int 2))) (aq 11))
 (aw (aI (au (jG K) [] E0 (aa (ac 0) (aa (tOp (rI0 fun i j=>.int (i + j)) (tC (.int 12)) (tOp (rI N2 fun i j=>.int (i * j)) (tC (.int 17)) (ac 7))) (aa (ac 1) (aa (ac 3) ah))))) (aq 12))
 (aw (dw (tBM K "list" gX (tOp (bR K) (ac 9) (ac 11)) (aa (ac 12) ah)))
 (aw (aI (au (gK K G) [] E0 (aa (tOp (bR K) (ac 8) (ac 11)) (aa (ac 12) ah))) (aq 13))
 (aw (bD (bc (tOp rEq (tOp (bU K) (ac 12) (tC (.int 0))) (tC (.str "word")))) (aI (cp (aa (tC (.str "knows")) (aa (tOp (rI (fun _ j=>0 < j) fun i j=>.int (i % j)) (ac 7) (ac 3)) (aa (tOp (bU K) (ac 12) (tC (.int 2))) ah)))) (aq 10)) bh)
 (aw (aI (au (gM K G) [] E0 (aa (ac 1) (aa (ac 2) (aa (tOp (bR K) (ac 9) (ac 11)) (aa (ac 10) ah))))) (aq 14))
 (aw (aI (au (gM K G) [] E0 (aa (ac 1) (aa (ac 2) (aa (tOp (bR K) (ac 9) (tOp (rI0 fun i j=>.int (i - j)) (tC (.int 1)) (ac 11))) (aa (ac 10) ah))))) (aq 15))
 (aw (bD (tOr (bc (tOp (gc K true) (dy G.Table "truths" (cM K G) [] E0 (tOp (bR K) (ac 8) (tOp (rI0 fun i j=>.int (i - j)) (tC (.int 1)) (ac 11))) (aa (ac 10) ah)) (tOp (bU K) (ac 15) (tC (.int 2))))) (bc (tOp (gc K true) (dy G.Table "truths" (cM K G) [] E0 (tOp (bR K) (ac 8) (ac 11)) (aa (ac 10) ah)) (tOp (bU K) (ac 14) (tC (.int 2)))))) (aN (tC (.bl false))) bh)
 (aw (bD (tOr (bc (tOp (gc K true) (ac 13) (tOp (bU K) (ac 14) (tC (.int 0))))) (bc (tOp (gc K true) (au (cQ K G) [] E0 (aa (tOp (bR K) (ac 8) (ac 11)) (aa (ac 3) (aa (ac 4) ah)))) (tOp (bU K) (ac 14) (tC (.int 1)))))) (aN (tC (.bl false))) bh)
 (bD (tOr (bc (tOp (gc K true) (au (cQ K G) [] E0 (aa (tOp (bR K) (ac 8) (tOp (rI0 fun i j=>.int (i - j)) (tC (.int 1)) (ac 11))) (aa (ac 3) (aa (ac 4) ah)))) (tOp (bU K) (ac 15) (tC (.int 1))))) (bc (tOp (gc K true) (dy G.Table "truths" (cM K G) [] E0 (tOp (bR K) (ac 8) (tOp (rI0 fun i j=>.int (i - j)) (tC (.int 1)) (ac 11))) (aa (ac 10) ah)) (tOp (bU K) (ac 15) (tC (.int 2)))))) (aN (tC (.bl false))) bh)))))))))))
 (aN (tOp (gc K false) (au (cQ K G) [] E0 (aa (dy G.Table "again" (ig K G) [] E0 (tOp (bR K) (ac 8) (tC (.int 1))) ah) (aa (ac 3) (aa (ac 4) ah)))) (au (cQ K G) [] E0 (aa (tOp (bR K) (ac 8) (tC (.int 1))) (aa (ac 3) (aa (ac 4) ah)))))))))))))))))
noncomputable abbrev K0:List Str:=["_law_script","_law_cards","_law_sizes","_law_hands","_law_many","_law_first","_law_deeds","_law_k","_law_tables","_law_rows","_law_asked","_law_at","_law_deed_here","_law_told","_law_due","_law_beside"]
theorem Kg {K:Fg} {G:GF} {vs:List V} {H:Hp} {Q:VK} {E:XK} (h:Kf K vs H Q E):yT K G { nx:=fun _ H'=>Q .non H',rt:=Q } (start K0 vs) H:=by
 obtain ⟨a,ns,rfl,hSc0,g⟩:=h
 show yT K G _ [some _,none,none,none,none,none,none,none,none,none,none,none,none,none,none,none] _
 unfold yT
 refine bj ?_
 walk_at "rs"
 refine ⟨a,ns,0,60,rfl,hSc0,by decide,by decide,by decide,fun c ss tp q H1 s1 htp hq e1 eq1 pk hm=>?_⟩
 refine iA (SqT.of e1) ?_
 have h1:=pk.l1
 have h5:=pk.l5
 have c12:=pk.c12
 have few:KM.cx c ss<=2000:=by omega
 have okB:=TM.Ok.begun pk few
 have nB:=okB.n2
 have hSc1:=hSc0.same s1
 walk_at "rs"
 refine bj ?_
 walk_at "rs"
 rw [bi]
 refine bj ?_
 walk_at "rs"
 refine ⟨c,q,ss,rfl,eq1,pk,by omega,fun pdl Hd sd hpdl Dd'=>?_⟩
 obtain ⟨rd,erd,hrd⟩:=id Dd'
 have lrd:(rd.map V.ref).length=(TM.begun c ss).n:=by rw [Lp]; exact Mj hrd
 walk_at "rs"
 rw [lrd]
 refine bj (kb (Ai ?_))
 walk_at "rd"
 intro x dx hx hdx hne
 have st:ap Hd (upd (upd Hd dx (.own x)) x (.ins G.Table dx [])):=((ap.refl Hd).upd hdx _).upd hx _
 refine ⟨[],x,dx,q,c,ss,rfl,az,st _ _ (sd _ _ eq1),pk,few,(fun b hb=>nomatch hb),(fun hb=>nomatch hb),fun H2 pv pe kx hpv hpe t2=>?_⟩
 have s2:ap Hd H2:=fun b o e=>kx _ _ (aR e hx) (st _ _ e)
 have hSc:=hSc1.same sd
 have eqd:=sd _ _ eq1
 have hpv0:=st.free hpv
 have hpe0:=st.free hpe
 refine ⟨rfl,?_⟩
 refine bj ?_
 walk_at "rs"
 refine ⟨by simp [Lw],fun pdd H3 hpdd s3 e3=>?_⟩
 have t3:Tb G [pdd,pv,pe] H3 x pv pe (TM.begun c ss):=t2.grow (N:=[pdd]) s3 (fun b hb=>by rw [Ln.mp hb]; exact hpdd) (fun b hb=>by rw [Ln.mp hb,e3]; exact fun z=>nomatch z)
 have npv:pv∉[pdd]:=fun z=>t2.al pv t2.mv (by rw [Ln.mp z]; exact hpdd)
 have npe:pe∉[pdd]:=fun z=>t2.al pe t2.me (by rw [Ln.mp z]; exact hpdd)
 have new3:∀ b∈[pdd,pv,pe],Hd b=none:=fun b hb=>by
  rcases Lq.mp hb with z | z
  ·rw [z]; exact s2.free hpdd
  ·rcases Lq.mp z with z | z
   ·rw [z]; exact hpv0
   ·rw [Ln.mp z]; exact hpe0
 have k0:(TM.begun c ss).k=ss.length:=rfl
 have e0:(TM.begun c ss).ds.length=0:=rfl
 refine i7 fun NX hNX=>?_
 walk_at "rd"
 refine ⟨a,ns,7,rfl,(hSc.same s2).same s3,by decide,by decide,?_⟩
 walk_at "rd"
 obtain ⟨m,hm7,hm3⟩:∃ m:Nat,bC ns 7 % 4=(m:Int)/\m < 4:=⟨(bC ns 7 % 4).toNat,by omega,by omega⟩
 rw [hm7]
 refine j0 m (by omega) (by omega) (by omega) (fun i σ HH=>∃ (u7:Option V) (es:List V) (ds:List Dd),σ=[some (.ref a),some (.int c),some (.ref q),some (.int ss.length),some (.int (TM.begun c ss).n),some (.ref x),some (.ref pdd),u7,none,none,none,none,none,none,none,none]/\ap Hd HH/\Tb G [pdd,pv,pe] HH x pv pe (eJ (TM.begun c ss) ds)/\HH pdd=some (.lst es)/\Paired (dR (fun l=>l∉[pdd,pv,pe]) HH) es ds/\(∀ d∈ds,d.Ok c ss.length)/\ds.length=i) ⟨none,[],[],rfl,s2.trans s3,t3,e3,.nil,(fun d hd=>nomatch hd),rfl⟩ ?_ ?_
 ·rintro i σ HH hi ⟨u7,es,ds,rfl,s4,t4,e4,p4,ok4,l4⟩
  have les:es.length=ds.length:=Mj p4
  have rc:=gL (TM.begun c ss) ds
  have rk:=gd (TM.begun c ss) ds
  have rl:=ii (TM.begun c ss) ds
  walk_at "rd"
  refine ⟨.inl ⟨rfl,_,SqL.of e4⟩,?_⟩
  walk_at "rd"
  refine ⟨a,ns,10 + 18 * (i:Int),c,ss.length,rfl,hSc.same s4,by omega,by omega,h1,h5,fun v d H5 s5 hd ok=>?_⟩
  walk_at "rd"
  have me:pdd∈[pdd]:=Lu
  refine jZ (s5 _ _ e4) (by rw [Lw]; omega) fun H6 o6 e6=>?_
  have k6:Kp [pdd] H5 H6:=(Kp.of (ap.refl _)).off (s5 _ _ e4) me o6 e6
  have sub6:∀ b∈[pdd],b∈[pdd,pv,pe]:=fun b hb=>by rw [Ln.mp hb]; exact Lu
  have t6:=(t4.same s5).kp k6 sub6 npv npe
  have d6:dR (fun l=>l∉[pdd,pv,pe]) H6 v d:=(hd.to (fun _ _ e=>e) (fun l xs hl e=>⟨e,t4.off hl⟩):dR (fun l=>l∉[pdd,pv,pe]) H5 v d).kp k6 sub6
  have p6:=Paired.mapP p4 fun _ _ z=>(z.kp (N:=[]) (Kp.of s5) (fun _ z=>nomatch z)).kp k6 sub6
  walk_at "rd"
  refine bA (SqL.of e6) (dz (v:=v) (by rw [Nd (by omega),les,l4,OP]; rfl)) ?_
  walk_at "rd"
  refine ⟨[pdd,pv,pe],x,pv,pe,_,v,d,rfl,t6,d6,by rw [rc.1,rk]; exact ok,by omega,fun p7 Hm H7 k7 t7 hp7 s7 e7=>?_⟩
  have sub7:∀ b∈[pv,pe],b∈[pdd,pv,pe]:=fun b hb=>LC _ hb
  walk_at "rd"
  have n6:ap Hd H6:=k6.new (s4.trans s5) fun b hb=>new3 b (sub6 b hb)
  have n7:ap Hd Hm:=k7.new n6 fun b hb=>new3 b (sub7 b hb)
  refine ⟨_,es++[v],ds++[d],rfl,n7.trans s7,by rw [rA]; exact t7.same s7,s7 _ _ (k7.lst (fun z=>?_) e6),Ak (Paired.mapP p6 fun _ _ z=>(z.kp k7 sub7).kp (N:=[]) (Kp.of s7) (fun _ z=>nomatch z)) ((d6.kp k7 sub7).kp (N:=[]) (Kp.of s7) (fun _ z=>nomatch z)),fun y hy=>?_,by rw [LG,l4]; rfl⟩
  ·rcases Lq.mp z with w | w
   ·exact npv (by rw [w]; exact Lu)
   ·exact npe (by rw [Ln.mp w]; exact Lu)
  ·rcases LR.mp hy with w | w
   ·exact ok4 y w
   ·rw [Ln.mp w]; exact ok
 ·rintro σ HH ⟨u7,es,ds,rfl,s4,t4,e4,p4,ok4,l4⟩
  refine hNX _ _ ?_
  clear hNX
  have rc:=gL (TM.begun c ss) ds
  have rk:=gd (TM.begun c ss) ds
  have rn:=jI (TM.begun c ss) ds
  have rl:=ii (TM.begun c ss) ds
  have dk:=oh (mj c ss) ds
  refine bj ?_
  walk_at "rs"
  obtain ⟨dx1,fs1,hx1,hl1⟩:=t4.at "again" (by decide +kernel) (by decide +kernel) (by decide +kernel) (by decide +kernel) (by decide +kernel) (by decide +kernel)
  refine eI ?_
  walk_at "rs"
  refine ⟨x,dx1,fs1,rfl,hx1,hl1,?_⟩
  walk_at "rs"
  refine ⟨[pdd,pv,pe],x,pv,pe,_,rfl,t4,fun x' pv' pe' H5 hx' hpv' hpe' s5 t5'=>?_⟩
  walk_at "rs"
  have t5:Tb G [pv',pe',pdd,pv,pe] H5 x pv pe (eJ (TM.begun c ss) ds):=t4.grow (N:=[pv',pe']) s5 (fun b hb=>by
   rcases Lq.mp hb with z | z
   ·rw [z]; exact hpv'
   ·rw [Ln.mp z]; exact hpe') (fun b hb=>t5'.al b (by
   rcases Lq.mp hb with z | z
   ·rw [z]; exact Lu
   ·rw [Ln.mp z]; exact LC _ Lu))
  refine ⟨by simp [Lw],fun lt H6 hlt s6 e6=>?_⟩
  have s56:=s5.trans s6
  have t6:=t5.same s6
  have t6':=t5'.same s6
  refine bj ?_
  walk_at "rs"
  refine jl (SqL.of (s56 _ _ e4)) fun r0 H7 hr0 s7 e7=>?_
  walk_at "rs"
  refine jl (SqL.of (s7 _ _ (s56 _ _ e4))) fun r1 H8 hr1 s8 e8=>?_
  walk_at "rs"
  refine ⟨by simp [Lw],fun lr H9 hlr s9 e9=>?_⟩
  have s78:=s7.trans s8
  have s58:=s56.trans s78
  have new8:∀ b∈[r0,r1],H6 b=none:=fun b hb=>by
   rcases Lq.mp hb with z | z
   ·rw [z]; exact hr0
   ·rw [Ln.mp z]; exact s7.free hr1
  have al8:∀ b∈[r0,r1],H8 b≠none:=fun b hb=>by
   rcases Lq.mp hb with z | z
   ·rw [z,s8 _ _ e7]; exact fun z=>nomatch z
   ·rw [Ln.mp z,e8]; exact fun z=>nomatch z
  have t8:Tb G [r0,r1,pv',pe',pdd,pv,pe] H8 x pv pe (eJ (TM.begun c ss) ds):=t6.grow (N:=[r0,r1]) s78 new8 al8
  have t8':Tb G [r0,r1,pv',pe',pdd,pv,pe] H8 x' pv' pe' (eJ (TM.begun c ss) ds):=t6'.grow (N:=[r0,r1]) s78 new8 al8
  obtain ⟨M,hM⟩:∃ M,M=[r0,r1,pv',pe',pdd,pv,pe]:=⟨_,rfl⟩
  have newM:∀ b∈M,Hd b=none:=fun b hb=>by
   rw [hM] at hb
   simp only [Lq,Mp,or_false] at hb
   rcases hb with z | z | z | z | z | z | z
   ·rw [z]; exact s4.free (s56.free hr0)
   ·rw [z]; exact s4.free (s56.free (s7.free hr1))
   ·rw [z]; exact s4.free hpv'
   ·rw [z]; exact s4.free hpe'
   ·rw [z]; exact new3 _ (by simp)
   ·rw [z]; exact new3 _ (by simp)
   ·rw [z]; exact new3 _ (by simp)
  have a4:∀ {b:Addr},b∈[pdd,pv,pe]->HH b≠none:=fun hb=>t4.al _ hb
  have nlt:lt∉M:=fun hb=>by
   rw [hM] at hb
   rcases LR.mp (show lt∈[r0,r1]++[pv',pe',pdd,pv,pe] from hb) with z | z
   ·have:=new8 _ z; rw [e6] at this; cases this
   ·exact t5.al _ z hlt
  have nlr:lr∉M:=fun hb=>by rw [hM] at hb; exact t8.al _ hb hlr
  have d4:Paired (dR (fun l=>l∉M) H8) es ds:=Paired.mapP p4 fun _ _ z=>z.to s58.keep fun l xs n e=>⟨s58 _ _ e,fun hb=>by
   rw [hM] at hb
   rcases LR.mp (show l∈[r0,r1]++([pv',pe']++[pdd,pv,pe]) from hb) with z | z
   ·have:=s56.free (new8 _ z); rw [e] at this; cases this
   ·rcases LR.mp z with z | z
    ·rcases Lq.mp z with z | z
     ·rw [z,hpv'] at e; cases e
     ·rw [Ln.mp z,hpe'] at e; cases e
    ·exact n z⟩
  obtain ⟨X,hX0,hX1⟩:∃ X:Nat->Addr,X 0=x/\X 1=x':=⟨fun i=>if i=0 then x else x',rfl,rfl⟩
  obtain ⟨PV,hV0,hV1⟩:∃ X:Nat->Addr,X 0=pv/\X 1=pv':=⟨fun i=>if i=0 then pv else pv',rfl,rfl⟩
  obtain ⟨PE,hE0,hE1⟩:∃ X:Nat->Addr,X 0=pe/\X 1=pe':=⟨fun i=>if i=0 then pe else pe',rfl,rfl⟩
  obtain ⟨R,hR0,hR1⟩:∃ X:Nat->Addr,X 0=r0/\X 1=r1:=⟨fun i=>if i=0 then r0 else r1,rfl,rfl⟩
  have two:∀ {P:Nat->Prop},P 0->P 1->∀ i,i < 2->P i:=fun p0 p1 i hi=>by
   have:i=0\/i=1:=by omega
   rcases this with rfl | rfl
   ·exact p0
   ·exact p1
  have F:Fx M PV PE R:=by
   have apv:HH pv≠none:=a4 (by simp)
   have ape:HH pe≠none:=a4 (by simp)
   have g1:pv'≠pv:=fun z=>apv (z ▸ hpv')
   have g2:pv'≠pe:=fun z=>ape (z ▸ hpv')
   have g3:pe'≠pv:=fun z=>apv (z ▸ hpe')
   have g4:pe'≠pe:=fun z=>ape (z ▸ hpe')
   have fr:∀ {b y:Addr},b∈[r0,r1]->y∈[pv',pe',pdd,pv,pe]->b≠y:=fun hb hy z=>t6.al _ hy (z ▸ new8 _ hb)
   have r01:r0≠r1:=fun z=>by rw [<-z,e7] at hr1; cases hr1
   refine ⟨two (by rw [hR0,hM]; simp) (by rw [hR1,hM]; simp),?_,?_,?_⟩
   ·refine fun i j hi hj=>two (P:=fun i=>i≠j->PV i≠PV j/\PV i≠PE j/\PE i≠PV j/\PE i≠PE j) (two (P:=fun j=>0≠j->PV 0≠PV j/\PV 0≠PE j/\PE 0≠PV j/\PE 0≠PE j) (fun z=>absurd rfl z) (fun _=>?_) j hj) (two (P:=fun j=>1≠j->PV 1≠PV j/\PV 1≠PE j/\PE 1≠PV j/\PE 1≠PE j) (fun _=>?_) (fun z=>absurd rfl z) j hj) i hi
    ·rw [hV0,hV1,hE0,hE1]; exact ⟨g1.symm,g3.symm,g2.symm,g4.symm⟩
    ·rw [hV0,hV1,hE0,hE1]; exact ⟨g1,g2,g3,g4⟩
   ·refine fun i j hi hj=>⟨fr ?_ ?_,fr ?_ ?_⟩
    ·exact two (P:=fun i=>R i∈[r0,r1]) (by rw [hR0]; simp) (by rw [hR1]; simp) i hi
    ·exact two (P:=fun j=>PV j∈[pv',pe',pdd,pv,pe]) (by rw [hV0]; simp) (by rw [hV1]; simp) j hj
    ·exact two (P:=fun i=>R i∈[r0,r1]) (by rw [hR0]; simp) (by rw [hR1]; simp) i hi
    ·exact two (P:=fun j=>PE j∈[pv',pe',pdd,pv,pe]) (by rw [hE0]; simp) (by rw [hE1]; simp) j hj
   ·refine fun i j hi hj=>two (P:=fun i=>i≠j->R i≠R j) (two (P:=fun j=>0≠j->R 0≠R j) (fun z=>absurd rfl z) (fun _=>by rw [hR0,hR1]; exact r01) j hj) (two (P:=fun j=>1≠j->R 1≠R j) (fun _=>by rw [hR0,hR1]; exact r01.symm) (fun z=>absurd rfl z) j hj) i hi
  have tw8:Two G M c ss X PV PE R H8 (fun _=>ds) (fun _=>ds) (fun _=>es) 3:=by
   refine ⟨two (by rw [hX0,hV0,hE0,hM]; exact t8) (by rw [hX1,hV1,hE1,hM]; exact t8'),two (by rw [hR0]; exact s8 _ _ e7) (by rw [hR1]; exact e8),fun _ _=>d4,fun _ _=>ok4,fun _ _=>?_,fun _ _=>?_⟩
   ·show ds.length<=3; omega
   ·show ds.length<=3; omega
  rw [<-hX0,<-hX1] at e6
  rw [<-hR0,<-hR1] at e9
  have elt9:=s9 _ _ (s78 _ _ e6)
  have tw9:=tw8.same s9
  have s49:=(s4.trans s58).trans s9
  have epd9:=s9 _ _ (s58 _ _ e4)
  have p9:Paired (dR (fun _=>True) H9) es ds:=Paired.mapP d4 fun _ _ z=>z.to s9.keep fun l xs _ e=>⟨s9 _ _ e,trivial⟩
  refine bj ?_
  walk_at "rs"
  refine ⟨a,ns,6,rfl,hSc.same s49,by decide,by decide,?_⟩
  walk_at "rs"
  obtain ⟨i6,hi6,hi6k⟩:=jw (bC ns 6) (m:=(ss.length:Int)) (by omega)
  rw [hi6]
  refine ⟨a,ns,40,c,ss.length,9,rfl,hSc.same s49,by decide,by decide,h1,h5,by decide,by decide,fun v10 sy H10 s10 hS10 hok10 hw10=>?_⟩
  walk_at "rs"
  refine ⟨by simp [Lw],fun ta H11 hta s11 e11=>?_⟩
  have s911:=s10.trans s11
  have tw11:=tw9.same s911
  have s411:=s49.trans s911
  have hSa:aP H11 (.ref ta) (.knows i6 sy):=⟨ta,v10,rfl,e11,hS10.keep s11.keep⟩
  have hoka:(Sy.knows i6 sy).Ok c ss.length:=⟨by omega,hok10⟩
  have hwa:(Sy.knows i6 sy).words<=30:=by show sy.words + 1<=30; omega
  have p11:Paired (dR (fun _=>True) H11) es ds:=Paired.mapP p9 fun _ _ z=>z.to s911.keep fun l xs _ e=>⟨s911 _ _ e,trivial⟩
  have elt11:=s911 _ _ elt9
  have elr11:=s911 _ _ e9
  refine bj ?_
  walk_at "rs"
  refine bA (SqL.of elt11) (gf (a:=1) (by decide) X) ?_
  walk_at "rs"
  refine ⟨M,X 1,PV 1,PE 1,_,ss.length,(TM.begun c ss).n,rfl,rk,rn,tw11.tb 1 (by decide),dk,by omega,fun va HA sA hva=>?_⟩
  walk_at "rs"
  refine ⟨c,q,pdd,ss,es,ds,.ref ta,_,rfl,sA _ _ (s411 _ _ eqd),pk,few,sA _ _ (s911 _ _ epd9),Paired.mapP p11 fun _ _ z=>z.to sA.keep fun l xs _ e=>⟨sA _ _ e,trivial⟩,ok4,by omega,hSa.keep sA.keep,hoka,hwa,fun ab tv sv tp' HB sB eB _ hsv _ _=>?_⟩
  walk_at "rs"
  refine ba (SqT.of eB) (i:=1) rfl ?_
  walk_at "rs"
  refine j3 6 (by decide) ((hva.to sB.keep fun l xs h e=>⟨sB _ _ e,h⟩).eqv dk hsv) ?_
  walk_at "rs"
  have s11B:=sA.trans sB
  refine i7 fun NX hNX=>?_
  walk_at "rd"
  refine ⟨a,ns,8,rfl,(hSc.same s411).same s11B,by decide,by decide,?_⟩
  walk_at "rd"
  obtain ⟨m2,hm8,hm5⟩:∃ m:Nat,bC ns 8 % 5=(m:Int)/\m < 5:=⟨(bC ns 8 % 5).toNat,by omega,by omega⟩
  rw [hm8]
  refine j0 m2 (by omega) (by omega) (by omega) (fun j σ HH=>∃ (u7 u11 u12 u13 u14 u15:Option V) (va:V) (s:Sy) (ds:Nat->List Dd) (es:Nat->List V),σ=[some (.ref a),some (.int c),some (.ref q),some (.int ss.length),some (.int (TM.begun c ss).n),some (.ref x),some (.ref pdd),u7,some (.ref lt),some (.ref lr),some va,u11,u12,u13,u14,u15]/\ap Hd HH/\HH lt=some (.lst [.ref (X 0),.ref (X 1)])/\HH lr=some (.lst [.ref (R 0),.ref (R 1)])/\Two G M c ss X PV PE R HH ds ds es (3 + j)/\aP HH va s/\s.Ok c ss.length/\s.words<=30) ⟨_,none,none,none,none,none,_,_,_,_,rfl,s411.trans s11B,s11B _ _ elt11,s11B _ _ elr11,tw11.same s11B,hSa.keep s11B.keep,hoka,hwa⟩ ?_ ?_
  ·clear tw8 tw9 tw11 hSa hoka hwa p11 elt11 elr11 p9 epd9 elt9 e9 t8 t8' t6 t6' t5 t5' t4
   rintro j σ HJ hj ⟨u7,u11,u12,u13,u14,u15,va,s,ds,es,rfl,sJ,elt,elr,tw,hS,hok,hw⟩
   walk_at "rs"
   refine bj ?_
   walk_at "rs"
   refine ⟨a,ns,9,rfl,hSc.same sJ,by decide,by decide,?_⟩
   walk_at "rs"
   refine ⟨by simp [Lw],fun pl HA hpl sA eA=>?_⟩
   walk_at "rs"
   obtain ⟨w,hw4,hw0,hw8⟩:∃ w:Int,atI [V.int 1,V.int 2,V.int 4,V.int 8] (j:Int)=some (V.int w)/\0 < w/\w<=8:=by
    have:j=0\/j=1\/j=2\/j=3:=by omega
    rcases this with rfl | rfl | rfl | rfl
    ·exact ⟨1,rfl,by decide,by decide⟩
    ·exact ⟨2,rfl,by decide,by decide⟩
    ·exact ⟨4,rfl,by decide,by decide⟩
    ·exact ⟨8,rfl,by decide,by decide⟩
   refine bA (SqL.of eA) hw4 ?_
   walk_at "rs"
   obtain ⟨b,hb,hb2'⟩:=jw (bC ns 9 / w) (m:=2) (by decide)
   have hb2:b < 2:=by omega
   rw [hb]
   have sJA:=sJ.trans sA
   have twA:=tw.same sA
   refine bj ?_
   walk_at "rs"
   refine ⟨a,ns,12 + 17 * (j:Int),c,ss.length,rfl,hSc.same sJA,by omega,by omega,h1,h5,fun v d HB sB hd ok=>?_⟩
   walk_at "rs"
   have sAB:=sA.trans sB
   have twB:=twA.same sB
   have dB:dR (fun l=>l∉M) HB v d:=hd.to (fun _ _ e=>e) (fun l xs hl e=>⟨e,(twA.tb 0 (by decide)).off hl⟩)
   refine bj ?_
   walk_at "rs"
   refine bA (SqL.of (sAB _ _ elr)) (gf hb2 R) ?_
   walk_at "rs"
   have rowB:=twB.row b hb2
   refine ⟨.inl ⟨rfl,_,SqL.of rowB⟩,?_⟩
   walk_at "rs"
   have les:(es b).length=(ds b).length:=Mj (twB.dd b hb2)
   have ldb:=twB.len b hb2
   refine jZ rowB (by rw [Lw]; omega) fun HC oC eC=>?_
   have kC:Kp [R b] HB HC:=(Kp.of (ap.refl _)).off rowB Lu oC eC
   have subC:∀ y∈[R b],y∈M:=fun y hy=>by rw [Ln.mp hy]; exact F.mr b hb2
   have twC:=twB.app F hb2 dB ok kC eC
   have dC:=dB.kp kC subC
   have sC:ap Hd HC:=kC.new (sJ.trans sAB) fun y hy=>newM y (subC y hy)
   have eltC:=kC.lst (fun z=>nlt (subC _ z)) (sAB _ _ elt)
   have elrC:=kC.lst (fun z=>nlr (subC _ z)) (sAB _ _ elr)
   have hSC:=hS.keep (fun y xs e=>kC.tup (sAB _ _ e))
   walk_at "rs"
   refine bj ?_
   walk_at "rs"
   refine bA (SqL.of eltC) (gf hb2 X) ?_
   walk_at "rs"
   have rc:=gL (TM.begun c ss) (ds b)
   have rk:=gd (TM.begun c ss) (ds b)
   have rl:=ii (TM.begun c ss) (ds b)
   have ldc:=twC.le b hb2
   refine ⟨M,X b,PV b,PE b,_,v,d,rfl,twC.tb b hb2,dC,by rw [rc.1,rk]; exact ok,by omega,fun p5 Hm HD kD tD hp5 sD eD=>?_⟩
   walk_at "rs"
   have subD:∀ y∈[PV b,PE b],y∈M:=fun y hy=>by
    rcases Lq.mp hy with z | z
    ·rw [z]; exact tD.mv
    ·rw [Ln.mp z]; exact tD.me
   have twD:=(twC.done F hb2 (rw':=fun i=>if i=b then ds b++[d] else ds i) kD (by rw [if_pos rfl,LG]; exact OT ldb 1) (by rw [if_pos rfl,rA]; exact tD) (fun i hi=>if_neg hi)).same sD
   have sHD:ap Hd HD:=(kD.new sC fun y hy=>newM y (subD y hy)).trans sD
   have eltD:=sD _ _ (kD.lst (fun z=>nlt (subD _ z)) eltC)
   have elrD:=sD _ _ (kD.lst (fun z=>nlr (subD _ z)) elrC)
   have hSD:=hSC.keep (fun y xs e=>sD _ _ (kD.tup e))
   have dD:dR (fun l=>l∉M) HD v d:=(dC.kp kD subD).kp (N:=[]) (Kp.of sD) (fun _ z=>nomatch z)
   have nb:b<=1:=by omega
   obtain ⟨b',hb',hb'e,hb'2⟩:∃ b':Nat,(1:Int) - (b:Int)=(b':Int)/\b'≠b/\b' < 2:=⟨1 - b,by omega,by omega,by omega⟩
   have tdb:CY (TM.begun c ss) (ds b++[d]) (ds b++[d]).length=some ((eJ (TM.begun c ss) (ds b)).dtold d):=by
    rw [LG]
    show ((ds b++[d])[(ds b).length]?).map _=_
    rw [Nd (Lr _),OP]
    show some ((eJ (TM.begun c ss) ((ds b++[d]).take (ds b).length)).dtold d)=_
    rw [List.take_left]
   generalize hes:(fun i=>if i=b then es b++[v] else es i)=es2 at twD
   generalize hds:(fun i=>if i=b then ds b++[d] else ds i)=ds2 at twD
   have hds2:ds2 b=ds b++[d]:=by rw [<-hds]; exact if_pos rfl
   clear twC twB twA tw eC rowB hes
   refine i7 fun NX2 hNX2=>?_
   have key:∀ (va':V) (s':Sy) (Hx:Hp),ap HD Hx->aP Hx va' s'->s'.Ok c ss.length->s'.words<=30->NX2 [some (.ref a),some (.int c),some (.ref q),some (.int ss.length),some (.int (TM.begun c ss).n),some (.ref x),some (.ref pdd),some (.int j),some (.ref lt),some (.ref lr),some va',some (.int b),some v,some (.ref p5),u14,u15] Hx:=by
    intro va' s' Hx sx hS' hok' hw'
    refine hNX2 _ _ ?_
    clear hNX2
    have twx:=twD.same sx
    have eltx:=sx _ _ eltD
    have elrx:=sx _ _ elrD
    have eqx:=sx _ _ (sHD _ _ eqd)
    have lb:=twx.len b hb2
    have lb':=twx.len b' hb'2
    have dkb:=oh (mj c ss) (ds2 b)
    have dkb':=oh (mj c ss) (ds2 b')
    refine bj ?_
    walk_at "rs"
    refine bA (SqL.of elrx) (gf hb2 R) ?_
    walk_at "rs"
    refine ⟨c,q,R b,ss,es2 b,ds2 b,va',s',rfl,eqx,pk,few,twx.row b hb2,Paired.mapP (twx.dd b hb2) (fun _ _ z=>z.to (fun _ _ e=>e) fun l xs _ e=>⟨e,trivial⟩),twx.ok b hb2,by omega,hS',hok',hw',fun a1 tv1 sv1 tp1 HE sE eE hE1 hE2 hE3 hE4=>?_⟩
    walk_at "rs"
    refine bj ?_
    walk_at "rs"
    rw [hb']
    refine bA (SqL.of (sE _ _ elrx)) (gf hb'2 R) ?_
    walk_at "rs"
    refine ⟨c,q,R b',ss,es2 b',ds2 b',va',s',rfl,sE _ _ eqx,pk,few,sE _ _ (twx.row b' hb'2),Paired.mapP (twx.dd b' hb'2) (fun _ _ z=>z.to sE.keep fun l xs _ e=>⟨sE _ _ e,trivial⟩),twx.ok b' hb'2,by omega,hS'.keep sE.keep,hok',hw',fun a2 tv2 sv2 tp2 HF sF eF hF1 hF2 hF3 hF4=>?_⟩
    walk_at "rs"
    have sEF:=sE.trans sF
    have eE':=sF _ _ eE
    have hE3':=sF _ _ hE3
    refine bj ?_
    walk_at "rs"
    obtain ⟨dt1,ft1,ht1,hl1⟩:=((twx.same sEF).tb b' hb'2).at "truths" (by decide +kernel) (by decide +kernel) (by decide +kernel) (by decide +kernel) (by decide +kernel) (by decide +kernel)
    refine eI ?_
    walk_at "rs"
    rw [hb']
    refine bA (SqL.of (sEF _ _ eltx)) (gf hb'2 X) ?_
    walk_at "rs"
    refine ⟨X b',dt1,ft1,rfl,ht1,hl1,?_⟩
    walk_at "rs"
    refine ⟨M,X b',PV b',PE b',_,va',s',rfl,(twx.same sEF).tb b' hb'2,hS'.keep (sEF).keep,by rw [(gL (TM.begun c ss) (ds2 b')).1,gd]; exact hok',hw',fun pt1 Ht1 hpt1 st1 et1=>?_⟩
    rw [jI] at et1
    have k1:=(sEF).trans st1
    walk_at "rs"
    refine ba (SqT.of (st1 _ _ eF)) (i:=2) rfl ?_
    walk_at "rs"
    refine j3 1 (by decide) (jp (SqL.of et1) (SqL.of (st1 _ _ hF3)) (lZ _ _)) ?_
    walk_at "rs"
    obtain ⟨dt2,ft2,ht2,hl2⟩:=((twx.same k1).tb b hb2).at "truths" (by decide +kernel) (by decide +kernel) (by decide +kernel) (by decide +kernel) (by decide +kernel) (by decide +kernel)
    refine eI ?_
    walk_at "rs"
    refine bA (SqL.of (k1 _ _ eltx)) (gf hb2 X) ?_
    walk_at "rs"
    refine ⟨X b,dt2,ft2,rfl,ht2,hl2,?_⟩
    walk_at "rs"
    refine ⟨M,X b,PV b,PE b,_,va',s',rfl,(twx.same k1).tb b hb2,hS'.keep (k1).keep,by rw [(gL (TM.begun c ss) (ds2 b)).1,gd]; exact hok',hw',fun pt2 Ht2 hpt2 st2 et2=>?_⟩
    rw [jI] at et2
    have k2:=(k1).trans st2
    walk_at "rs"
    refine ba (SqT.of (st2 _ _ (st1 _ _ eE'))) (i:=2) rfl ?_
    walk_at "rs"
    refine j3 1 (by decide) (jp (SqL.of et2) (SqL.of (st2 _ _ (st1 _ _ hE3'))) (lZ _ _)) ?_
    walk_at "rs"
    have kE2:ap HE Ht2:=(sF.trans st1).trans st2
    refine bj ?_
    walk_at "rs"
    refine ba (SqT.of (kE2 _ _ eE)) (i:=0) rfl ?_
    walk_at "rs"
    rw [hds2,tdb] at hE1
    obtain ⟨pq,rfl,hpq,_⟩:=hE1
    refine j3 1 (by decide) (jp (SqL.of (k2 _ _ (sx _ _ eD))) (SqL.of (kE2 _ _ hpq)) (CZ _ _)) ?_
    walk_at "rs"
    refine bA (SqL.of (k2 _ _ eltx)) (gf hb2 X) ?_
    walk_at "rs"
    refine ⟨M,X b,PV b,PE b,_,ss.length,(TM.begun c ss).n,rfl,gd _ _,jI _ _,(twx.same k2).tb b hb2,dkb,by rw [ii]; have:=twx.le b hb2; omega,fun vt3 Ht3 st3 et3=>?_⟩
    have k3:=(k2).trans st3
    walk_at "rs"
    refine ba (SqT.of (st3 _ _ (kE2 _ _ eE))) (i:=1) rfl ?_
    walk_at "rs"
    refine j3 6 (by decide) (et3.eqv dkb (hE2.to (kE2.trans st3).keep fun l xs h e=>⟨(kE2.trans st3) _ _ e,h⟩)) ?_
    walk_at "rs"
    have kF3:ap HF Ht3:=(st1.trans st2).trans st3
    rw [hb']
    refine bA (SqL.of (k3 _ _ eltx)) (gf hb'2 X) ?_
    walk_at "rs"
    refine ⟨M,X b',PV b',PE b',_,ss.length,(TM.begun c ss).n,rfl,gd _ _,jI _ _,(twx.same k3).tb b' hb'2,dkb',by rw [ii]; have:=twx.le b' hb'2; omega,fun vt4 Ht4 st4 et4=>?_⟩
    have k4:=(k3).trans st4
    walk_at "rs"
    refine ba (SqT.of (st4 _ _ (kF3 _ _ eF))) (i:=1) rfl ?_
    walk_at "rs"
    refine j3 6 (by decide) (et4.eqv dkb' (hF2.to (kF3.trans st4).keep fun l xs h e=>⟨(kF3.trans st4) _ _ e,h⟩)) ?_
    walk_at "rs"
    obtain ⟨dt5,ft5,ht5,hl5⟩:=((twx.same k4).tb b' hb'2).at "truths" (by decide +kernel) (by decide +kernel) (by decide +kernel) (by decide +kernel) (by decide +kernel) (by decide +kernel)
    refine eI ?_
    walk_at "rs"
    rw [hb']
    refine bA (SqL.of (k4 _ _ eltx)) (gf hb'2 X) ?_
    walk_at "rs"
    refine ⟨X b',dt5,ft5,rfl,ht5,hl5,?_⟩
    walk_at "rs"
    refine ⟨M,X b',PV b',PE b',_,va',s',rfl,(twx.same k4).tb b' hb'2,hS'.keep (k4).keep,by rw [(gL (TM.begun c ss) (ds2 b')).1,gd]; exact hok',hw',fun pt5 Ht5 hpt5 st5 et5=>?_⟩
    rw [jI] at et5
    have k5:=(k4).trans st5
    walk_at "rs"
    refine ba (SqT.of (st5 _ _ ((kF3.trans st4) _ _ eF))) (i:=2) rfl ?_
    walk_at "rs"
    refine j3 1 (by decide) (jp (SqL.of et5) (SqL.of (st5 _ _ ((kF3.trans st4) _ _ hF3))) (lZ _ _)) ?_
    walk_at "rs"
    have kx:=sx.trans k5
    exact ⟨_,_,_,_,_,_,va',s',ds2,es2,rfl,sHD.trans kx,k5 _ _ eltx,k5 _ _ elrx,twx.same k5,hS'.keep k5.keep,hok',hw'⟩
   clear hNX2
   walk_at "rs"
   cases d with
   | word g2 s2=>
    obtain ⟨ad,bd,yd,rfl,z1,z2,z3⟩:=dD
    obtain ⟨o1,o2,o3,o4⟩:=ok
    refine ba (SqT.of z1) (i:=0) rfl ?_
    walk_at "rs"
    refine dY rfl ?_
    walk_at "rs"
    obtain ⟨ik,hik,hikk⟩:=jw (j:Int) (m:=(ss.length:Int)) (by omega)
    rw [hik]
    refine ba (SqT.of z1) (i:=2) rfl ?_
    walk_at "rs"
    refine ⟨by simp [Lw],fun tq HG htq sG eG=>?_⟩
    exact key _ (.knows ik s2) HG sG ⟨tq,yd,rfl,eG,z3.keep sG.keep⟩ ⟨by omega,o3⟩ (by show s2.words + 1<=30; omega)
   | «show» i2 hh2 ns2=>
    obtain ⟨ad,ld,rfl,z1,z2,z3⟩:=dD
    refine ba (SqT.of z1) (i:=0) rfl ?_
    walk_at "rs"
    refine aX (by decide) ?_
    walk_at "rs"
    exact key _ s HD (ap.refl _) hSD hok hw
  ·rintro σ HJ ⟨u7,u11,u12,u13,u14,u15,va,s,ds,es,rfl,sJ,elt,elr,tw,hS,hok,hw⟩
   refine hNX _ _ ?_
   clear hNX
   have dk1:=oh (mj c ss) (ds 1)
   have tb1:=tw.tb 1 (by decide)
   have le1:=tw.le 1 (by decide)
   walk_at "rd"
   obtain ⟨dt1,ft1,ht1,hl1⟩:=tb1.at "again" (by decide +kernel) (by decide +kernel) (by decide +kernel) (by decide +kernel) (by decide +kernel) (by decide +kernel)
   refine eI ?_
   walk_at "rd"
   refine bA (SqL.of elt) (gf (a:=1) (by decide) X) ?_
   walk_at "rd"
   refine ⟨X 1,dt1,ft1,rfl,ht1,hl1,?_⟩
   walk_at "rd"
   refine ⟨M,X 1,PV 1,PE 1,_,rfl,tb1,fun x2 pv2 pe2 HA hx2 hpv2 hpe2 sA tA=>?_⟩
   walk_at "rd"
   refine ⟨_,x2,pv2,pe2,_,ss.length,(TM.begun c ss).n,rfl,gd _ _,jI _ _,tA,dk1,by rw [ii]; omega,fun v1 HB sB hv1=>?_⟩
   walk_at "rd"
   refine bA (SqL.of (sB _ _ (sA _ _ elt))) (gf (a:=1) (by decide) X) ?_
   walk_at "rd"
   refine ⟨M,X 1,PV 1,PE 1,_,ss.length,(TM.begun c ss).n,rfl,gd _ _,jI _ _,(tb1.same sA).same sB,dk1,by rw [ii]; omega,fun v2 HC sC hv2=>?_⟩
   walk_at "rd"
   refine IB 6 (by decide) ((hv1.to sC.keep fun l xs h e=>⟨sC _ _ e,h⟩).eqv dk1 hv2) ?_
   walk_at "rd"
   exact g _
end
section
open PySem.Spec
theorem DA.stay {a:Addr} {kvs:List (IA×V)} {h1 h2:Heap} (d:DA a kvs h1) (k:∀ o,h1.get? a=some o->h2.get? a=some o):DA a kvs h2:=by
 obtain ⟨z,y,P,w,vs,r,o,es,ep,e,c⟩:=d
 exact ⟨z,y,P,w,vs,r,o,es,ep,k _ e,c⟩
theorem DB.stay {a:Addr} {zs:List (List IK×Addr×V)} {h1 h2:Heap} (d:DB a zs h1) (k:∀ o,h1.get? a=some o->h2.get? a=some o):DB a zs h2:=by
 obtain ⟨z,y,xs,r,o,es,ep,e,c⟩:=d
 exact ⟨z,y,xs,r,o,es,ep,k _ e,c⟩
theorem DA.ok {P:Program} {w:World} {H:Hp} {h:Heap} {a:Addr} {kvs:List (IA×V)} (d:DA a kvs h):bH P w H h a (dA a kvs):=by
 obtain ⟨_,_,_,_,_,_,o,_,_,e,_⟩:=id d
 exact ⟨d,⟨o,e⟩,fun _ _ d k=>d.stay k⟩
theorem DB.ok {P:Program} {w:World} {H:Hp} {h:Heap} {a:Addr} {zs:List (List IK×Addr×V)} (d:DB a zs h):bH P w H h a (dB a zs):=by
 obtain ⟨_,_,_,_,o,_,_,e,_⟩:=id d
 exact ⟨d,⟨o,e⟩,fun _ _ d k=>d.stay k⟩
theorem ZX.length {zs:List (List IK×Addr×V)} {xs:List (List IK×Addr×Value)} (r:ZX zs xs):zs.length=xs.length:=Mj r
theorem ZX.val {zs:List (List IK×Addr×V)} {xs:List (List IK×Addr×Value)} (r:ZX zs xs) (k:List IK):fQ (atZ zs k) ((atKey xs k).map (·.2)):=by
 unfold ZX at r
 induction r with
 | nil=>exact NS
 | @cons p q ps qs h t ih=>
  obtain ⟨h1,_,h2⟩:=h
  by_cases e:p.1=k
  ·have e':q.1=k:=h1.symm.trans e
   have b:atKey (q :: qs) k=some q.2:=by simp [atKey,Ma,e']
   have c:atZ (p :: ps) k=some p.2.2:=by simp [atZ,Ma,e]
   rw [c,b]; exact h2
  ·have e':¬ q.1=k:=fun z=>e (h1.trans z)
   have b:atKey (q :: qs) k=atKey qs k:=by simp [atKey,Ma,e']
   have c:atZ (p :: ps) k=atZ ps k:=by simp [atZ,Ma,e]
   rw [c,b]; exact ih
noncomputable def mq (zs:List (List IK×Addr×V)) (k:List IK) (b:Addr) (v:V):List (List IK×Addr×V):=
 if (atZ zs k).isSome then zs.map (fun x=>if x.1=k then (x.1,x.2.1,v) else x) else zs++[(k,b,v)]
theorem ZX.repl {zs:List (List IK×Addr×V)} {xs:List (List IK×Addr×Value)} (r:ZX zs xs) (k:List IK) {v:V} {u:Value} (rv:aK v u):ZX (zs.map fun x=>if x.1=k then (x.1,x.2.1,v) else x) (xs.map (putAt k u)):=by
 unfold ZX at r ⊢
 induction r with
 | nil=>exact .nil
 | @cons p q ps qs h t ih=>
  rw [LI,LI]
  refine .cons ?_ ih
  obtain ⟨h1,h2,h3⟩:=h
  unfold putAt
  by_cases e:p.1=k
  ·rw [if_pos e,if_pos (h1.symm.trans e)]; exact ⟨h1,h2,rv⟩
  ·rw [if_neg e,if_neg (fun z=>e (h1.trans z))]; exact ⟨h1,h2,h3⟩
theorem ZX.put {zs:List (List IK×Addr×V)} {xs:List (List IK×Addr×Value)} (r:ZX zs xs) (k:List IK) {b:Addr} {v:V} {u:Value} (rv:aK v u):ZX (mq zs k b v) (storedH xs k b u):=by
 have e:(atZ zs k).isSome=(atKey xs k).isSome:=by
  rw [(r.val k).isSome_eq,SY]
 unfold mq storedH
 rw [e]
 by_cases q:(atKey xs k).isSome=true
 ·rw [if_pos q,if_pos q]; exact r.repl k rv
 ·rw [if_neg q,if_neg q]; exact Tf r ⟨rfl,rfl,rv⟩
theorem IS (zs:List (List IK×Addr×V)) (k j:List IK) (b:Addr) (v:V):atZ (mq zs k b v) j=if j=k then some v else atZ zs j:=by
 have hm:∀ ys:List (List IK×Addr×V),atZ (ys.map fun x=>if x.1=k then (x.1,x.2.1,v) else x) j=(atZ ys j).map fun y=>if j=k then v else y:=by
  intro ys
  induction ys with
  | nil=>rfl
  | cons p r ih=>
   rw [LI]
   unfold atZ at ih ⊢
   by_cases h:p.1=k
   ·rw [if_pos h]
    by_cases e:p.1=j
    ·simp [Ma,e,e.symm.trans h]
    ·simp [Ma,e]; simpa using ih
   ·rw [if_neg h]
    by_cases e:p.1=j
    ·have:¬ j=k:=fun z=>h (e.trans z)
     simp [Ma,e,this]
    ·simp [Ma,e]; simpa using ih
 have ha:∀ ys:List (List IK×Addr×V),atZ ys k=none->atZ (ys++[(k,b,v)]) j=if j=k then some v else atZ ys j:=by
  intro ys
  induction ys with
  | nil=>
   intro _
   by_cases e:k=j
   ·simp [atZ,Ma,e]
   ·have:¬ j=k:=fun z=>e z.symm
    simp [atZ,Ma,e,this]
  | cons p r ih=>
   intro hn
   have hk:¬ p.1=k:=fun z=>by simp [atZ,Ma,z] at hn
   have hn':atZ r k=none:=by simpa [atZ,Ma,hk] using hn
   have ih':=ih hn'
   by_cases e:p.1=j
   ·have:¬ j=k:=fun z=>hk (e.trans z)
    simp [atZ,Ma,e,this]
   ·have c:atZ (p :: (r++[(k,b,v)])) j=atZ (r++[(k,b,v)]) j:=by simp [atZ,Ma,e]
    have c':atZ (p :: r) j=atZ r j:=by simp [atZ,Ma,e]
    rw [Tz,c,c',ih']
 unfold mq
 cases q:atZ zs k with
 | some y=>
  rw [if_pos (show (some y).isSome=true from rfl),hm]
  by_cases e:j=k
  ·subst e; rw [q,if_pos rfl]; simp
  ·rw [if_neg e]; cases atZ zs j <;> simp [e]
 | none=>rw [if_neg (show ¬ (none:Option V).isSome=true by decide)]; exact ha zs q
theorem tK (zs:List (List IK×Addr×V)) (k:List IK) (b:Addr) (v:V):(mq zs k b v).length<=zs.length + 1:=by
 unfold mq
 split
 ·rw [Lp]; omega
 ·rw [LG,LX,T9]; omega
theorem GC {zs:List (List IK×Addr×V)} {k:List IK} {b:Addr} {v:V} {z:List IK×Addr×V} (h:z∈mq zs k b v):(∃ z0∈zs,z.1=z0.1/\z.2.1=z0.2.1)\/(z.1=k/\z.2.1=b):=by
 unfold mq at h
 split at h
 ·obtain ⟨z0,h0,rfl⟩:=MC.mp h
  refine .inl ⟨z0,h0,?_⟩
  split <;> exact ⟨rfl,rfl⟩
 ·rcases LR.mp h with h | h
  ·exact .inl ⟨z,h,rfl,rfl⟩
  ·rw [Ln.mp h]; exact .inr ⟨rfl,rfl⟩
section
variable {X:Cx} {pins:List (Addr×Obj)} {σ:St} {H:Hp} {s:Shared} {a:Addr} {y v:V} {u r:Value} {A:Around} {E:Value->Shared->Prop} {srt:Bool} {f:MK->Option V} {n:Nat} {k:MK}
theorem yU {k:IA} (h:iaV y=some k) (ry:aK y u):oV k u=true:=by
 cases y with
 | non=>cases h; cases ry; rfl
 | bl b=>cases h; cases ry; simp [oV]
 | int i=>cases h; obtain ⟨t,rfl⟩:=ry; simp [oV]
 | _=>cases h
theorem BY {P:Program} {w:World}:∀ {ks:List IA} {ys:List V} {us:List Value},ys.map iaV=ks.map some->aH ys us->ItemsAre (dj P w) ks us
 | [],[],_,_,.nil=>.nil
 | k :: ks,y :: ys,_,e,.cons h t=>by
  rw [LI,LI] at e
  injection e with e1 e2
  exact .cons (yU e1 h) (BY e2 t)
 | [],_ :: _,_,e,_=>by simp at e
 | _ :: _,[],_,e,_=>by simp at e
theorem Fj (ok:HOk X.prog X.w H s.heap) {c:Addr} {xs:List V} (e:H c=some (.tup xs)):∃ its,aH xs its/\∃ o n,s.heap.get? c=some o/\o.cls=.type "tuple"/\o.data=.seq its.toArray n:=by
 obtain ⟨_,its,r,o,h1,h2,⟨n,h3⟩,_⟩:=(show bH X.prog X.w H s.heap c (.tup xs) from ok c _ e)
 exact ⟨its,r,o,n,h1,h2,h3⟩
theorem IT (ok:HOk X.prog X.w H s.heap) {k:IK} (h:mQ H y k) (ry:aK y u):cT X.prog X.w s.heap k u:=by
 cases k with
 | inl a=>exact yU h ry
 | inr as=>
  obtain ⟨c,ys,rfl,e,q⟩:=h
  cases ry
  obtain ⟨its,rv,o,n,h1,h2,h3⟩:=Fj ok e
  exact ⟨c,rfl,o,its.toArray,n,h1,h2,h3,by simpa using BY q rv⟩
theorem GD (ok:HOk X.prog X.w H s.heap) {xs:List V} {ks:List IK} {us:List Value} (p:Paired (mQ H) xs ks):aH xs us->Paired (cT X.prog X.w s.heap) ks us:=by
 induction p generalizing us with
 | nil=>intro q; cases q; exact .nil
 | cons h t ih=>intro q; cases q with
  | cons r q=>exact .cons (IT ok h r) (ih q)
theorem C0 (ok:HOk X.prog X.w H s.heap) {c:Addr} {ks:List IK} (h:dh H (.ref c) (.inr ks)):iw X.prog X.w s.heap ks c:=by
 obtain ⟨c',xs,e,ec,q⟩:=h
 cases e
 obtain ⟨its,rv,o,n,h1,h2,h3⟩:=Fj ok ec
 exact ⟨o,its.toArray,n,h1,h2,h3,by simpa using GD ok q rv⟩
theorem BZ (h:dh H y k) (hs:mR k=true):∃ c ks,y=.ref c/\k=.inr ks:=by
 cases k with
 | inl _=>cases hs
 | inr ks=>obtain ⟨c,xs,e,_⟩:=h; exact ⟨c,ks,e,rfl⟩
theorem Fk {P P':Program} {w w':World} {es:List SC} {vs:List (IA×Value)} (h:Pairs (dj P w) es vs):Pairs (dj P' w') es vs:=by
 induction h with
 | nil=>exact .nil
 | cons a b _ ih=>exact .cons a b ih
theorem C1 {kvs:List (IA×V)} (ok:HOk X.prog X.w H s.heap) (e:H a=some (dA a kvs)):kvs.length<=Lz/\(a == Nl)=false/\∃ vs,KV kvs vs/\s.heap.DictOf (dj X.prog X.w) a vs:=by
 obtain ⟨⟨z,y,P,w,vs,r,o,es,ep,h1,h2,h3,h4,h5,h6⟩,_⟩:=(show bH X.prog X.w H s.heap a (dA a kvs) from ok a _ e)
 exact ⟨z,y,vs,r,o,es,ep,h1,h2,h3,h4,Fk h5,h6⟩
theorem C3 {zs:List (List IK×Addr×V)} (ok:HOk X.prog X.w H s.heap) (e:H a=some (dB a zs)) (hk:∀ z∈zs,dh H (.ref z.2.1) (.inr z.1)):zs.length<=Lz/\(a == Nl)=false/\∃ xs,ZX zs xs/\s.heap.DictOfH (qP X.prog X.w) a xs:=by
 obtain ⟨⟨z,y,xs,r,o,es,ep,h1,h2,h3,h4,h5⟩,_⟩:=(show bH X.prog X.w H s.heap a (dB a zs) from ok a _ e)
 refine ⟨z,y,xs,r,o,es,ep,h1,h2,h3,h4,?_,h5⟩
 have all:∀ {l:List (List IK×Addr×V)} {m:List (List IK×Addr×Value)},ZX l m->(∀ z∈l,dh H (.ref z.2.1) (.inr z.1))->∀ x∈m,(qP X.prog X.w).is s.heap x.1 x.2.1:=by
  intro l m q
  unfold ZX at q
  induction q with
  | nil=>intro _ x hx; exact nomatch hx
  | @cons p q ps qs hq t ih=>
   intro hk x hx
   rcases Lq.mp hx with e | hx
   ·subst e
    have:=hk p (Lu ..)
    rw [hq.1,hq.2.1] at this
    exact C0 ok this
   ·exact ih (fun z hz=>hk z (LC _ hz)) x hx
 exact all r hk
theorem K1 {Q:Value->Shared->Prop} (hu:A.units + 2 < cLine) (I:Inv X pins σ H s) (d:Dx H a srt f n) (hk:dh H y k) (hs:mR k=srt) (ry:aK y u) (ev:f k=some v) (h:∀ w' s',Inv X pins σ H s'->aK v w'->Q w' s'):
  wpAny (model X.prog X.w) A (getItem (.ref a) u) Q E s:=by
 rcases d with ⟨rfl,kvs,e,hf,_⟩ | ⟨rfl,zs,e,hz,hf,_⟩
 ·cases k with
  | inr _=>cases hs
  | inl k=>
   obtain ⟨z,hd,vs,rel,dd⟩:=C1 I.hok e
   obtain ⟨w',hw,rw'⟩:=fQ.some_of (v:=v) (o:=valueAt vs k) (by rw [<-ev,<-hf k]; exact rel.val k)
   exact TF (knd:=dj X.prog X.w) (yU hk ry) dd.mapOf hw (h w' _ (I.tok _) rw')
 ·obtain ⟨c,ks,rfl,rfl⟩:=BZ hk hs
  cases ry
  obtain ⟨z,hd,xs,rel,dd⟩:=C3 I.hok e hz
  obtain ⟨w',hw,rw'⟩:=fQ.some_of (v:=v) (o:=(atKey xs ks).map (·.2)) (by rw [<-ev,<-hf ks]; exact rel.val ks)
  obtain ⟨p,hp,hp2⟩:=RJ.mp hw
  refine wpAny_getItem_heap (knd:=qP X.prog X.w) hu (C0 I.hok hk) dd hp ?_
  rw [hp2]
  exact h w' _ (I.tok _) rw'
theorem uj {o:HO}:Off a H (upd H a o):=fun b hb=>aO hb
theorem Kh {h':Heap} {t':Nat} {kvs kvs':List (IA×V)} {vs':List (IA×Value)} (I:Inv X pins σ H s) (e:H a=some (dA a kvs)) (hs:LM a s.heap h') (z:kvs'.length<=Lz) (hd:(a == Nl)=false) (rel:KV kvs' vs') (dd:h'.DictOf (dj X.prog X.w) a vs'):
  Inv X pins σ (upd H a (dA a kvs')) { s with heap:=h',toks:=t' }:=by
 have he:∃ q,h'.get? a=some q:=let ⟨q,_,_,hq,_⟩:=dd; ⟨q,hq⟩
 exact BQ I (by rw [e]; exact NS) hs he (DA.ok ⟨z,hd,X.prog,X.w,vs',rel,dd⟩)
theorem Ki {h':Heap} {t':Nat} {zs zs':List (List IK×Addr×V)} {xs':List (List IK×Addr×Value)} (I:Inv X pins σ H s) (e:H a=some (dB a zs)) (hs:LM a s.heap h') (z:zs'.length<=Lz) (hd:(a == Nl)=false) (rel:ZX zs' xs') (dd:h'.DictOfH (qP X.prog X.w) a xs'):
  Inv X pins σ (upd H a (dB a zs')) { s with heap:=h',toks:=t' }:=by
 obtain ⟨o,es,ep,h1,h2,h3,h4,_,h5⟩:=dd
 exact BQ I (by rw [e]; exact NS) hs ⟨o,h1⟩ (DB.ok ⟨z,hd,xs',rel,o,es,ep,h1,h2,h3,h4,h5⟩)
theorem IU {kvs:List (IA×V)} {k:IA} (e:H a=some (dA a kvs)) (hf:∀ k,d7 kvs k=f (.inl k)) (hn:kvs.length<=n):Dx (upd H a (dA a (jm kvs k v))) a false (oW f (.inl k) v) (n + 1):=by
 refine .inl ⟨rfl,_,az,fun j=>?_,?_⟩
 ·rw [F5]
  unfold oW
  by_cases q:j=k
  ·rw [if_pos q,if_pos (by rw [q])]
  ·rw [if_neg q,if_neg (fun z=>q (S9 z)),hf j]
 ·have:=tz kvs k v; omega
theorem IV {zs:List (List IK×Addr×V)} {k:List IK} {c:Addr} (e:H a=some (dB a zs)) (hz:∀ z∈zs,dh H (.ref z.2.1) (.inr z.1)) (hk:dh H (.ref c) (.inr k)) (hf:∀ k,atZ zs k=f (.inr k)) (hn:zs.length<=n):
  Dx (upd H a (dB a (mq zs k c v))) a true (oW f (.inr k) v) (n + 1):=by
 have kp:dJ H (upd H a (dB a (mq zs k c v))):=uj.keepD fun xs q=>by rw [e] at q; cases q
 refine .inr ⟨rfl,_,az,fun z h=>?_,fun j=>?_,?_⟩
 ·rcases GC h with ⟨z0,h0,e1,e2⟩ | ⟨e1,e2⟩
  ·rw [e1,e2]; exact (hz z0 h0).keep kp
  ·rw [e1,e2]; exact hk.keep kp
 ·rw [IS]
  unfold oW
  by_cases q:j=k
  ·rw [if_pos q,if_pos (by rw [q])]
  ·rw [if_neg q,if_neg (fun z=>q (OY z)),hf j]
 ·have:=tK zs k c v; omega
theorem vB {d a:Addr} {knd:HeapKind X.prog X.w (List IK)} {xs:List (List IK×Addr×Value)} {k:List IK} {v:Value} {Q:Value->Shared->Prop} (hu:knd.room A) (hkey:knd.is s.heap k a) (hm:s.heap.DictOfH knd d xs)
  (h1:∀ p,atKey xs k=some p->Q p.2 { s with toks:=s.toks + knd.draws k })
  (h2:atKey xs k=none->∀ h',h'.DictOfH knd d (storedH xs k a v)->LM d s.heap h'->Q v { s with heap:=h',toks:=s.toks + knd.draws k })
  (hsz:xs.length<=Lz):wpAny (model X.prog X.w) A (Qj d (.ref a) v) Q E s:=by
 obtain ⟨o,es,ep,ho,hc,hd,he,his,hn⟩:=hm
 unfold Qj
 try with_reducible refine ME ?_
 refine Lk (knd.pyHash hu hkey ?_)
 refine Lk (wpAny_dictFind_heap (s:={ s with toks:=s.toks + knd.draws k }) hu hkey ho hd he his hn ?_ ?_)
 ·intro hno
  have hnot:k∉xs.map (·.1):=not_mem_keys_of_get hno
  refine Lk (NL (Lk (wpAny_updateDictKeys (hz:=by have e:=size_of_entries he; omega) (s:={ s with toks:=s.toks + knd.draws k }) ho hd (Lm (h2 (Po hno) _ ⟨_,_,ep + 1,Mt _ ho (Obj.isFreed_of_dict (Sf hd _)),
   hc.mapDictKeys _,Sf hd _,?_,?_,?_⟩ (Mu ..))))))
  ·rw [Tj (Po hno)]
   simp [he,entryOfKey]
  ·rw [Tj (Po hno)]
   intro x hx
   rcases LR.mp hx with hx | hx
   ·exact knd.keeps (his x hx) ho hd (Mu ..)
   ·simp only [Ln] at hx
    subst hx
    exact knd.keeps hkey ho hd (Mu ..)
  ·rw [Tj (Po hno)]
   rw [LS,S0]
   refine ⟨hn,by simp,?_⟩
   intro x hx y hy
   simp only [LI,ON,Ln] at hy
   subst hy
   exact fun e=>hnot (e ▸ hx)
 ·intro j p hj
  refine Lk (wpAny_dictEntries (s:={ s with toks:=s.toks + knd.draws k }) ho hd ?_)
  rw [entry_at he j,hj]
  exact Lk (NL (Lm (h1 p (atKey_of_get hn hj))))
theorem m5 {d:Addr} {key dflt:Value} {Q:Fin->Shared->Prop} (hT:s.TypeIs (.ref d) "dict") (hd:(d == Nl)=false) (h:wpAny (model X.prog X.w) A (Qj d key dflt) (fun v s'=>Q (.done (.ret v)) s') E s):
  wpAny (model X.prog X.w) A (Builtin.«dict.setdefault» ⟨[.ref d,key,dflt],[]⟩) Q E s:=by
 unfold Builtin.«dict.setdefault»
 refine Lk ?_
 unfold Builtin.Dict.keyAndDefault
 refine Lk (wpAny_notOrdered_dict hT ?_)
 show wpAny _ _ (pure (d,key,some dflt)) _ _ s
 refine Lm ?_
 show wpAny _ _ (if (d == Nl)=true then _ else (Qj d key dflt >>= _)) _ _ s
 rw [if_neg (by rw [hd]; exact LB)]
 exact Lk (M1 h (fun v s' q=>Lm q) fun _ _ x=>x)
theorem Av (I:Inv X pins σ H s) (d:Dx H a srt f n):s.TypeIs (.ref a) "dict"/\∀ b,LZ a=.ref b->∃ ob,s.heap.get? b=some ob/\ob.dict=none:=by
 rcases d with ⟨_,kvs,e,_,_⟩ | ⟨_,zs,e,hz,_,_⟩
 ·obtain ⟨_,_,vs,_,dd⟩:=C1 I.hok e
  refine ⟨dd.typeIs,fun b q=>?_⟩
  cases q
  obtain ⟨ob,_,_,h1,h2,_⟩:=dd
  exact ⟨ob,h1,h2.2.1⟩
 ·obtain ⟨_,_,xs,_,dd⟩:=C3 I.hok e hz
  refine ⟨dd.typeIs,fun b q=>?_⟩
  cases q
  obtain ⟨ob,_,_,h1,h2,_⟩:=dd
  exact ⟨ob,h1,h2.2.1⟩
theorem Kj {Q:Value->Shared->Prop} (hu:A.units + 2 < cLine) (I:Inv X pins σ H s) (d:Dx H a srt f n) (hk:dh H y k) (hs:mR k=srt) (hn:n < Lz) (ry:aK y u) (rv:aK v r)
  (h1:∀ x w' s',f k=some x->aK x w'->Inv X pins σ H s'->Q w' s')
  (h2:f k=none->∀ H' s',Off a H H'->Dx H' a srt (oW f k v) (n + 1)->Inv X pins σ H' s'->Q r s'):wpAny (model X.prog X.w) A (call (.builtin "dict.setdefault") [.ref a,u,r]) Q E s:=by
 have hT:=(Av I d).1
 refine Mh Qk hT PySem.F.entry_dict_setdefault ?_ (PySem.F.args_dict_setdefault_3 _ _ _)
 rcases d with ⟨rfl,kvs,e,hf,hl⟩ | ⟨rfl,zs,e,hz,hf,hl⟩
 ·cases k with
  | inr _=>cases hs
  | inl k=>
   obtain ⟨z,hd,vs,rel,dd⟩:=C1 I.hok e
   have hvz:vs.length<=Lz:=by rw [<-rel.length]; exact z
   have hl':(jm kvs k v).length<=Lz:=by have:=tz kvs k v; omega
   refine m5 hT hd (kt_dictSetDefault_pairs (knd:=dj X.prog X.w) (hsz:=hvz) (yU hk ry) dd (fun w' hw=>?_) fun hno h' dd' hs'=>?_)
   ·have q:=rel.val k
    rw [hf k,hw] at q
    cases ef:f (.inl k) with
    | none=>rw [ef] at q; exact (show False from q).elim
    | some x=>rw [ef] at q; exact ⟨w',rfl,h1 x w' _ ef q (I.tok _)⟩
   ·have q:=rel.val k
    rw [hf k,hno] at q
    have ef:f (.inl k)=none:=by
     cases ef:f (.inl k) with
     | none=>rfl
     | some x=>rw [ef] at q; exact (show False from q).elim
    exact ⟨r,rfl,h2 ef _ _ uj (IU e hf hl) (Kh I e hs' hl' hd (rel.put k rv) dd')⟩
 ·obtain ⟨c,ks,rfl,rfl⟩:=BZ hk hs
  cases ry
  obtain ⟨z,hd,xs,rel,dd⟩:=C3 I.hok e hz
  have hvz:xs.length<=Lz:=by rw [<-rel.length]; exact z
  have hl':(mq zs ks c v).length<=Lz:=by have:=tK zs ks c v; omega
  refine m5 hT hd (vB (X:=X) (knd:=qP X.prog X.w) hu (C0 I.hok hk) dd (fun p hp=>?_) (fun hno h' dd' hs'=>?_) hvz)
  ·have q:=rel.val ks
   rw [hf ks,hp] at q
   cases ef:f (.inr ks) with
   | none=>rw [ef] at q; exact (show False from q).elim
   | some x=>rw [ef] at q; exact ⟨p.2,rfl,h1 x p.2 _ ef q (I.tok _)⟩
  ·have q:=rel.val ks
   rw [hf ks,hno] at q
   have ef:f (.inr ks)=none:=by
    cases ef:f (.inr ks) with
    | none=>rfl
    | some x=>rw [ef] at q; exact (show False from q).elim
   exact ⟨r,rfl,h2 ef _ _ uj (IV (c:=c) e hz hk hf hl) (Ki I e hs' hl' hd (rel.put ks rv) dd')⟩
end
section
variable {X:Cx}
theorem IW {o i:Expr} {pos:Pos} {td ty:TE} (hu:X.A.units + 64 < cLine) (ho:PE X o td) (hi:PE X i ty) (hs:F6 i):PE X (.Subscript o i pos) (tOp CG td ty):=by
 intro pins s σ H Q I h
 refine BR QX.lookup hs (thn (ho pins s σ H _ I h) fun u s1 ⟨x,H1,I1,rx,q1⟩=>thn (hi pins s1 σ H1 _ I1 q1) fun iv s2 ⟨y,H2,I2,ry,a,srt,f,n,k,v,ex,d,hk,hs',ev,q2⟩=>?_)
 subst ex
 obtain rfl:u=LZ a:=rx
 exact ⟨(Av I2 d).1,K1 (by omega) I2 d hk hs' ry ev fun w' s3 I3 rw'=>⟨v,H2,I3,rw',q2⟩⟩
theorem GG {pos:Pos}:PE X (.Dict [] [] pos) zF:=fun pins s σ H Q I h=>by
 obtain ⟨srt,h⟩:=h
 have hd:(s.heap.objs.size == Nl)=false:=beq_eq_false_iff_ne.mpr (MR (L9 I.big))
 have hp:=I.hok.fresh (Lr s.heap.objs.size)
 cases srt with
 | false=>
  refine TH ⟨.ref s.heap.objs.size,_,I.laid (a:=s.heap.objs.size) (o:=dA s.heap.objs.size []) (t':=s.toks) (fun _ _ q=>Ll _ q) (Lr _) (DA.ok ⟨Mv _,hd,X.prog,X.w,[],.nil,Heap.DictOf.new s.heap⟩),rfl,?_⟩
  exact h _ _ hp (bf hp _) (.inl ⟨rfl,[],az,fun _=>rfl,Lr _⟩)
 | true=>
  refine TH ⟨.ref s.heap.objs.size,_,I.laid (a:=s.heap.objs.size) (o:=dB s.heap.objs.size []) (t':=s.toks) (fun _ _ q=>Ll _ q) (Lr _) (DB.ok ⟨Mv _,hd,[],.nil,_,#[],0,Lx _ rfl,⟨rfl,rfl,rfl⟩,rfl,rfl,List.nodup_nil⟩),rfl,?_⟩
  exact h _ _ hp (bf hp _) (.inr ⟨rfl,[],az,fun z hz=>(nomatch hz),fun _=>rfl,Lr _⟩)
noncomputable def MtX (X:Cx) (id:String) (r:V->List V->Hp->VK->Prop):Prop:=
 ∀ (pins:List (Addr×Obj)) (s:Shared) (σ:St) (H:Hp) (x:V) (ys:List V) (u:Value) (us:List Value) (Q:VK),Inv X pins σ H s->aK x u->aH ys us->r x ys H Q->
  wpAny (model X.prog X.w) X.A (call (.builtin id) (u :: us)) (EP X pins σ Q) X.xe s
theorem wT (hu:X.A.units + 64 < cLine):MtX X "dict.setdefault" zG:=by
 intro pins s σ H x ys u us Q I rx rys h
 obtain ⟨a,srt,f,n,k,y,v,rfl,rfl,d,hk,hs,hn,q1,q2⟩:=h
 cases rx
 cases rys with
 | cons r1 t1=>cases t1 with
  | cons r2 t2=>
   cases t2
   exact Kj (by omega) I d hk hs hn r1 r2 (fun x w' s' ef rw' I'=>⟨x,H,I',rw',q1 x ef⟩) fun ef H' s' o' d' I'=>⟨v,H',I',r2,q2 ef H' o' d'⟩
theorem K2 {o e:Expr} {es:List Expr} {name:Str} {id:String} {r:V->List V->Hp->VK->Prop} {to:TE} {t:TA} {apos cpos:Pos} (slot:Slot "dict" name id) (hty:typeOf (.builtin id)=pure (.type "method_descriptor")) (hm:MtX X id r) (ho:PE X o to) (ha:PA X (e :: es) t)
  (hbase:OV o name X.env (eval o X.env)=eval o X.env:=by rfl)
  (hfew:((backTo cpos (LP (e :: es) X.env)).all (fun x=>!x.1) && (Pz cpos (OG [] X.env)).all (fun x=>x.1.isSome)
   && decide ((e :: es).length + ([]:List Keyword).length + (if ([]:List Keyword).isEmpty then 0 else 1) < 30))=true:=by rfl)
  (hline:(apos.endLine == cpos.line)=true:=by rfl) (hs:LP (e :: es) X.env=(false,eval e X.env) :: LP es X.env:=by rfl) (hplain:(backTo cpos (LP es X.env)).any (·.1)=false:=by rfl):
  PE X (.Call (.Attribute o name apos) (e :: es) [] cpos) (tXM r to t):=by
 intro pins s σ H Q I h
 refine Pq hbase hfew hline rfl (thn (ho pins s σ H _ I h) fun v s1 ⟨x,H1,I1,r1,⟨a,srt,f,n,ex,d⟩,q1⟩=>?_)
 subst ex
 obtain rfl:v=LZ a:=r1
 obtain ⟨h1,h2⟩:=Av I1 d
 refine ⟨"dict",id,PySem.F.plainAttrs_dict,slot,hty,h1,h2,?_⟩
 have hA:=ha cpos pins s1 σ H1 _ I1 q1
 rw [hs] at hA ⊢
 refine Pr (by show (false || (backTo cpos (LP es X.env)).any (·.1))=false; rw [hplain] <;> rfl) (PU ?_)
 exact thn hA fun us s2 ⟨vs,H2,I2,r2,q2⟩=>hm pins s2 σ H2 (.ref a) vs (.ref a) us Q I2 rfl r2 q2
end
end
section
open PySem.Spec
section
variable {X:Cx}
end
end
section
open PySem.Spec
mutual
inductive Dat (K:Fg) (H:Hp):V->PyData->Prop where
 | non:Dat K H .non .none
 | bl (b:Bool):Dat K H (.bl b) (.bool b)
 | int (i:Int):Dat K H (.int i) (.int i)
 | str (x:Str):Dat K H (.str x) (.str x)
 | lst {a:Addr} {xs:List V} {ds:List PyData} (e:SqL K H a xs) (h:lf K H xs ds):Dat K H (.ref a) (.list ds)
 | tup {a:Addr} {xs:List V} {ds:List PyData} (e:SqT K H a xs) (h:lf K H xs ds):Dat K H (.ref a) (.tuple ds)
inductive lf (K:Fg) (H:Hp):List V->List PyData->Prop where
 | nil:lf K H [] []
 | cons {x:V} {xs:List V} {d:PyData} {ds:List PyData} (h:Dat K H x d) (t:lf K H xs ds):lf K H (x :: xs) (d :: ds)
end
section
variable {X:Cx} {pins:List (Addr×Obj)} {σ:St} {H:Hp} {s:Shared}
mutual
theorem Dat.reads (I:Inv X pins σ H s):∀ {x:V} {d:PyData} {u:Value},Dat X.K H x d->aK x u->∃ as,Reads s.heap u d as
 | _,_,_,.non,r=>by cases r; exact ⟨_,.none⟩
 | _,_,_,.bl b,r=>by cases r; exact ⟨_,.bool b⟩
 | _,_,_,.int i,r=>by obtain ⟨t,rfl⟩:=r; exact ⟨_,.int i t⟩
 | _,_,_,.str x,r=>by obtain ⟨t,rfl⟩:=r; exact ⟨_,.str x t⟩
 | _,_,_,.lst e h,r=>by
  cases r
  obtain ⟨its,rv,⟨o,n,h1,h2,h3,h4⟩,_⟩:=I.list e
  obtain ⟨as,ra⟩:=lf.reads I h rv
  exact ⟨_,.list h1 h2 h4 (by simpa using ra)⟩
 | _,_,_,.tup e h,r=>by
  cases r
  obtain ⟨its,rv,⟨o,h1,h2,n,h3⟩,_⟩:=I.tuple e
  obtain ⟨as,ra⟩:=lf.reads I h rv
  exact ⟨_,.tuple h1 h2 h3 (by simpa using ra)⟩
theorem lf.reads (I:Inv X pins σ H s):∀ {xs:List V} {ds:List PyData} {us:List Value},lf X.K H xs ds->aH xs us->∃ as,ReadsAll s.heap us ds as
 | _,_,_,.nil,.nil=>⟨_,.nil⟩
 | _,_,_,.cons h t,.cons r q=>by
  obtain ⟨as,ra⟩:=Dat.reads I h r
  obtain ⟨bs,rb⟩:=lf.reads I t q
  exact ⟨_,.cons ra rb⟩
end
end
section
variable {X:Cx}
end
end
section
open PySem.Spec
mutual
theorem GH {K:Fg} {H:Hp}:∀ {n:Nat} {x y:V},dF K H n x y->∃ d,Dat K H x d/\Dat K H y d/\d.canLay0=true/\d.depth<=n
 | n,x,_,.flat h=>by
  cases x with
  | non=>exact ⟨_,.non,.non,rfl,Mv _⟩
  | bl b=>exact ⟨_,.bl b,.bl b,rfl,Mv _⟩
  | int i=>exact ⟨_,.int i,.int i,rfl,Mv _⟩
  | _=>cases h
 | _,_,_,.lst (xs:=xs) (ys:=ys) e1 e2 hl h=>by
  obtain ⟨ds,h1,h2,h3,h4⟩:=C4 xs ys hl h
  exact ⟨_,.lst e1 h1,.lst e2 h2,h3,TJ h4⟩
 | _,_,_,.tup (xs:=xs) (ys:=ys) e1 e2 hl h=>by
  obtain ⟨ds,h1,h2,h3,h4⟩:=C4 xs ys hl h
  exact ⟨_,.tup e1 h1,.tup e2 h2,h3,TJ h4⟩
theorem C4 {K:Fg} {H:Hp} {n:Nat}:∀ (xs ys:List V),xs.length=ys.length->(∀ (i:Nat) (x y:V),xs[i]?=some x->ys[i]?=some y->dF K H n x y)->∃ ds,lf K H xs ds/\lf K H ys ds/\S3 ds=true/\Ug ds<=n
 | [],[],_,_=>⟨[],.nil,.nil,rfl,Mv _⟩
 | x :: xs,y :: ys,hl,h=>by
  obtain ⟨d,a1,a2,a3,a4⟩:=GH (h 0 x y rfl rfl)
  obtain ⟨ds,b1,b2,b3,b4⟩:=C4 xs ys (by simpa using hl) (fun i x y hx hy=>h (i + 1) x y hx hy)
  refine ⟨d :: ds,.cons a1 b1,.cons a2 b2,?_,?_⟩
  ·show (d.canLay0 && S3 ds)=true
   rw [a3,b3]; rfl
  ·show max d.depth (Ug ds)<=n
   omega
 | [],_ :: _,hl,_=>by simp at hl
 | _ :: _,[],hl,_=>by simp at hl
end
section
variable {X:Cx}
theorem GI (hu:X.A.units + 64 < cLine):OpR X (NF .Eq) (gc X.K false):=by
 intro pins s σ H x y v u Q I rx ry h
 obtain ⟨n,hn,hd,q⟩:=h
 obtain ⟨d,h1,h2,h3,h4⟩:=GH hd
 obtain ⟨as,ra⟩:=h1.reads I rx
 obtain ⟨bs,rb⟩:=h2.reads I ry
 have sh:Rf d=true:=by unfold Rf; rw [h3,decide_eq_true (by omega)]; rfl
 refine eq_dataH ra rb sh sh hu ⟨.bl true,H,I,?_,q⟩
 rw [SeqAt.eqv_refl d h3]; rfl
theorem iZ (hu:X.A.units + 64 < cLine):OpR X (NF .NotEq) (gc X.K true):=by
 intro pins s σ H x y v u Q I rx ry h
 obtain ⟨n,hn,hd,q⟩:=h
 obtain ⟨d,h1,h2,h3,h4⟩:=GH hd
 obtain ⟨as,ra⟩:=h1.reads I rx
 obtain ⟨bs,rb⟩:=h2.reads I ry
 have sh:Rf d=true:=by unfold Rf; rw [h3,decide_eq_true (by omega)]; rfl
 refine ne_dataH ra rb sh sh hu ⟨.bl false,H,I,?_,q⟩
 rw [SeqAt.eqv_refl d h3]; rfl
end
end
section
open PySem.Spec
theorem Aw {scope:Scope} {env:Env} {x:Str} (h:scope.names.lookup x=some .cell\/scope.names.lookup x=some .free):(relabel scope env).names.lookup x=some .cell\/(relabel scope env).names.lookup x=some .free:=by
 have go:∀ ns:List (Str×Ml),(ns.lookup x=some .cell\/ns.lookup x=some .free)->
   (ns.map fun (n,k)=>if (k == MS && env.scope.kind == .function && env.kindOf n == some .cell) then (n,OW) else (n,k)).lookup x=some .cell\/
   (ns.map fun (n,k)=>if (k == MS && env.scope.kind == .function && env.kindOf n == some .cell) then (n,OW) else (n,k)).lookup x=some .free:=by
  intro ns
  induction ns with
  | nil=>intro q; rcases q with q | q <;> simp at q
  | cons y r ih=>
   obtain ⟨n,k'⟩:=y
   intro q
   rw [LI]
   rw [Mo] at q
   by_cases hc:(k' == MS && env.scope.kind == .function && env.kindOf n == some .cell)=true
   ·simp only [hc,if_true]
    rw [Mo]
    cases e:x == n with
    | true=>exact .inl rfl
    | false=>rw [e] at q; exact ih q
   ·simp only [hc]
    rw [if_neg (by simp),Mo]
    cases e:x == n with
    | true=>rw [e] at q; exact q
    | false=>rw [e] at q; exact ih q
 exact go scope.names h
theorem Fl {inner outer:Scope} {cl:List (Str×Addr)} {C:Addr} {env:Env} (h:∀ y∈inner.names,y.2=.free->outer.names.lookup y.1=some .cell\/outer.names.lookup y.1=some .free):
  ∀ y∈inner.names,y.2=.free->(PB outer cl C env).scope.names.lookup y.1=some .cell\/(PB outer cl C env).scope.names.lookup y.1=some .free:=fun y hy hk=>Aw (h y hy hk)
end
end L2
section
namespace L2
open PySem
noncomputable def Rs (xs:List Nat):Prop:=xs.Pairwise (· < ·)
theorem xP (xs:Array Nat) (i d:Nat) (h:i < xs.size):xs.getD i d=xs.toList[i]'(by simpa using h):=by
 rw [Sg,dif_pos h]
 simp
theorem wU (xs:Array Nat) (j:Nat) (hr:Rs xs.toList):∀ (fuel lo hi:Nat),hi - lo<=fuel->lo<=hi->hi<=xs.size->(∀ i (h:i < xs.toList.length),i < lo->xs.toList[i] < j)->(∀ i (h:i < xs.toList.length),hi<=i->j<=xs.toList[i])->
  lo<=NZ xs j fuel lo hi/\NZ xs j fuel lo hi<=hi/\(∀ i (h:i < xs.toList.length),i < NZ xs j fuel lo hi->xs.toList[i] < j)/\(∀ i (h:i < xs.toList.length),NZ xs j fuel lo hi<=i->j<=xs.toList[i])
 | 0,lo,hi,hf,hl,hs,h1,h2=>by
  have e:hi=lo:=by omega
  subst e
  exact ⟨Lr _,Lr _,h1,h2⟩
 | fuel + 1,lo,hi,hf,hl,hs,h1,h2=>by
  have eq:NZ xs j (fuel + 1) lo hi=(if lo < hi then (if xs.getD ((lo + hi) / 2) j < j then NZ xs j fuel ((lo + hi) / 2 + 1) hi else NZ xs j fuel lo ((lo + hi) / 2)) else lo):=rfl
  by_cases hlt:lo < hi
  ·have hm:(lo + hi) / 2 < xs.size:=by omega
   have hm':(lo + hi) / 2 < xs.toList.length:=by simpa using hm
   have pw:=Og.mp hr
   rw [if_pos hlt,xP xs _ _ hm] at eq
   by_cases hc:xs.toList[(lo + hi) / 2] < j
   ·rw [if_pos hc] at eq
    obtain ⟨a,b,c,d⟩:=wU xs j hr fuel ((lo + hi) / 2 + 1) hi (by omega) (by omega) hs (fun i h hi'=>by
     rcases SO i ((lo + hi) / 2) with z | z
     ·have:=pw i ((lo + hi) / 2) h hm' z
      omega
     ·have e:i=(lo + hi) / 2:=by omega
      subst e
      exact hc) h2
    rw [eq]
    exact ⟨by omega,b,c,d⟩
   ·rw [if_neg hc] at eq
    obtain ⟨a,b,c,d⟩:=wU xs j hr fuel lo ((lo + hi) / 2) (by omega) (by omega) (by omega) h1 (fun i h hi'=>by
     rcases SO ((lo + hi) / 2) i with z | z
     ·have:=pw ((lo + hi) / 2) i hm' h z
      omega
     ·have e:i=(lo + hi) / 2:=by omega
      subst e
      omega)
    rw [eq]
    exact ⟨a,by omega,c,d⟩
  ·rw [if_neg hlt] at eq
   have e:hi=lo:=by omega
   subst e
   rw [eq]
   exact ⟨Lr _,Lr _,h1,h2⟩
theorem lE (xs:Array Nat) (j:Nat) (hr:Rs xs.toList):LV xs j<=xs.size/\(∀ i (h:i < xs.toList.length),i < LV xs j->xs.toList[i] < j)/\(∀ i (h:i < xs.toList.length),LV xs j<=i->j<=xs.toList[i]):=by
 obtain ⟨_,b,c,d⟩:=wU xs j hr xs.size 0 xs.size (by omega) (Mv _) (Lr _) (fun i h z=>absurd z (P5 _)) (fun i h z=>absurd (by simpa using h) (QY.mpr z))
 exact ⟨b,c,d⟩
theorem C5 (xs:Array Nat) (hr:Rs xs.toList) {i:Nat} (h:i < xs.toList.length):LV xs (xs.toList[i] + 1)=i + 1:=by
 obtain ⟨b,c,d⟩:=lE xs (xs.toList[i] + 1) hr
 have pw:=Og.mp hr
 rcases QT (LV xs (xs.toList[i] + 1)) (i + 1) with z | z | z
 ·have:=d i h (by omega)
  omega
 ·exact z
 ·have hi:i + 1 < xs.toList.length:=by simp at *; omega
  have:=c (i + 1) hi (by omega)
  have:=pw i (i + 1) h hi (by omega)
  omega
theorem C6 (xs:Array Nat) (hr:Rs xs.toList):LV xs 0=0:=by
 obtain ⟨b,c,_⟩:=lE xs 0 hr
 rcases Pa (LV xs 0) with z | z
 ·exact z
 ·have h0:0 < xs.toList.length:=by simp; omega
  have:=c 0 h0 z
  omega
theorem Kk (xs:Array Nat) (hr:Rs xs.toList) {j:Nat} (hj:j∉xs.toList):Rs (LO.insertAt xs (LV xs j) j).toList:=by
 obtain ⟨b,c,d⟩:=lE xs j hr
 rw [LO.toList_insertAt]
 have hr':(xs.toList.take (LV xs j)++xs.toList.drop (LV xs j)).Pairwise (· < ·):=by rw [OO]; exact hr
 rw [P8] at hr'
 obtain ⟨p1,p2,p3⟩:=hr'
 have lo:∀ a∈xs.toList.take (LV xs j),a < j:=fun a ha=>by
  obtain ⟨i,hi,rfl⟩:=P9.mp ha
  rw [List.getElem_take]
  have hi':i < min (LV xs j) xs.toList.length:=by simpa using hi
  exact c i (by omega) (by omega)
 have hi:∀ a∈xs.toList.drop (LV xs j),j < a:=fun a ha=>by
  obtain ⟨i,hi,rfl⟩:=P9.mp ha
  rw [List.getElem_drop]
  have hl:i < xs.toList.length - LV xs j:=by simpa using hi
  have h1:LV xs j + i < xs.toList.length:=by omega
  have:=d _ h1 (Na _ _)
  rcases Pc this with z | z
  ·exact z
  ·exact absurd (z ▸ Oq h1) hj
 refine P8.mpr ⟨p1,Qx.mpr ⟨hi,p2⟩,fun a ha x hx=>?_⟩
 rcases Lq.mp hx with rfl | hx
 ·exact lo a ha
 ·exact p3 a ha x hx
theorem GJ {xs:Array Nat} (hr:Rs xs.toList) {j:Nat} (h:¬ (xs[LV xs j]? == some j)=true):j∉xs.toList:=fun hm=>by
 obtain ⟨b,c,d⟩:=lE xs j hr
 obtain ⟨k,hk,e⟩:=P9.mp hm
 have pw:=Og.mp hr
 have h1:LV xs j<=k:=Tt fun z=>by
  have:=c k hk z
  omega
 have h2:LV xs j=k:=by
  rcases Pc h1 with z | z
  ·have hl:LV xs j < xs.toList.length:=by omega
   have:=d _ hl (Lr _)
   have:=pw _ k hl hk z
   omega
  ·exact z
 refine h ?_
 rw [h2,<-Oa,Lo hk,e]
 exact beq_self_eq_true _
theorem Fm {t:LO} (hr:Rs t.place.toList) {j:Nat} (h:∀ i,t.slot j≠.live i):j∉t.place.toList:=by
 refine GJ hr fun z=>?_
 have:=h (LV t.place j)
 unfold LO.slot at this
 rw [if_pos z] at this
 exact this rfl
theorem pF {t:LO} {f:Nat->Int} {h:Int}:∀ (fuel:Nat) (p:LO.Probe) {j:Nat} {d:Option Nat},(∀ x,p.dummy=some x->∀ i,t.slot x≠.live i)->S4 t f h fuel p=some (.empty j d)->∀ i,t.slot (d.getD j)≠.live i
 | 0,_,_,_,_,e=>by cases e
 | fuel + 1,p,j,d,hd,e=>by
  have ha:∀ q:LO.Probe,(t.advance q).dummy=q.dummy:=fun q=>by
   unfold LO.advance
   split <;> rfl
  unfold S4 at e
  cases hs:t.slot p.j with
  | empty=>
   rw [hs] at e
   injection e with e
   injection e with e1 e2
   subst e1 e2
   intro i
   cases hx:p.dummy with
   | none=>show t.slot p.j≠_; rw [hs]; intro z; cases z
   | some x=>exact hd x hx i
  | dummy=>
   rw [hs] at e
   refine pF fuel _ (fun x hx i=>?_) e
   rw [ha] at hx
   cases hx
   rw [hs]; intro z; cases z
  | live k=>
   rw [hs] at e
   dsimp only at e
   split at e
   ·cases e
   ·exact pF fuel _ (fun x hx=>hd x (by rw [ha] at hx; exact hx)) e
theorem C7 {t:LO} (hr:Rs t.place.toList) {h:Int} {j:Nat} {b:Bool} (e:t.freeSlot h=some (j,b)):j∉t.place.toList:=by
 unfold LO.freeSlot at e
 split at e
 ·rename_i j' d' he
  cases e
  exact Fm hr (pF _ _ (fun x hx=>by cases hx) he)
 ·cases e
theorem GK (n:Nat):Rs (Array.range n).toList:=by
 rw [Array.toList_range]
 exact RK
theorem lG (t:LO) (n:Nat):Rs (t.standIn n).place.toList:=GK n
theorem Fn {t:LO} (hr:Rs t.place.toList) (es:Array (Int×Value)) (h:Int) (x:Value):Rs (layNew t es h x).2.1.place.toList/\(layNew t es h x).2.1.led=t.led:=by
 unfold layNew
 split
 ·rename_i slot wd he
  dsimp only
  unfold LO.orStandIn
  split
  ·exact ⟨Kk _ hr (C7 hr he),rfl⟩
  ·exact ⟨lG _ _,rfl⟩
 ·exact ⟨lG _ _,rfl⟩
theorem IX {mask finger moves:Nat} {led plain:Bool} {hs:Array Int} {t:LO} {o:Array Nat} (e:LO.laid mask finger moves led plain hs=some (t,o)):Rs t.place.toList/\t.led=led:=by
 unfold LO.laid at e
 obtain ⟨owner,_,e⟩:=Option.bind_eq_some_iff.mp e
 cases e
 refine ⟨?_,rfl⟩
 show ((((LU (mask + 1)).filterMap fun j=>(owner.getD j none).map (j,·)).map (·.1)).toArray).toList.Pairwise (· < ·)
 have sub:List.Sublist (((LU (mask + 1)).filterMap fun j=>(owner.getD j none).map (j,·)).map (·.1)) (LU (mask + 1)):=by
  rw [List.map_filterMap]
  have:∀ l:List Nat,List.Sublist (l.filterMap fun j=>((owner.getD j none).map (j,·)).map (·.1)) l:=by
   intro l
   induction l with
   | nil=>exact .slnil
   | cons a l ih=>
    rw [O0]
    cases owner.getD a none with
    | none=>exact .cons _ ih
    | some v=>exact .cons₂ _ ih
  exact this _
 exact RK.sublist sub
theorem Bq {t:LO} (hr:Rs t.place.toList) (es:Array (Int×Value)) (wanted:Nat):Rs (Ql t es wanted).2.1.place.toList/\(Ql t es wanted).2.1.led=t.led:=by
 unfold Ql
 split
 ·rename_i t' order he
  dsimp only
  split
  ·exact IX he
  ·exact ⟨lG _ _,rfl⟩
 ·exact ⟨lG _ _,rfl⟩
end L2
end
section
namespace L2
open PySem
section
variable {prog:Program} {w:World} {K:Type} [DecidableEq K] {knd:KeyKind prog w K} {A:Around} {E:Value->Shared->Prop} {s:Shared}
noncomputable def Ent (knd:KeyKind prog w K) (k:K) (e:Int×Value):Prop:=knd.is k e.2=true/\e.1=knd.hash k/\e.2.scannable=true
inductive cg {α β:Type} (F:α->β->Prop):List α->List β->Prop
 | nil:cg F [] []
 | cons {a b l m}:F a b->cg F l m->cg F (a :: l) (b :: m)
theorem cg.len {α β:Type} {F:α->β->Prop} {l:List α} {m:List β} (h:cg F l m):l.length=m.length:=by
 induction h with
 | nil=>rfl
 | cons _ _ ih=>rw [LX,LX,ih]
theorem cg.app {α β:Type} {F:α->β->Prop} {l l':List α} {m m':List β} (h:cg F l m) (h':cg F l' m'):cg F (l++l') (m++m'):=by
 induction h with
 | nil=>exact h'
 | cons r _ ih=>exact .cons r ih
theorem cg.right {α β:Type} {F:α->β->Prop} {l:List α} {m:List β} (h:cg F l m):∀ b∈m,∃ a∈l,F a b:=by
 induction h with
 | nil=>intro b hb; cases hb
 | cons r _ ih=>
  intro b hb
  rcases Lq.mp hb with rfl | hb
  ·exact ⟨_,Lu,r⟩
  ·obtain ⟨a,ha,f⟩:=ih b hb
   exact ⟨a,LC _ ha,f⟩
theorem cg.perm {α β:Type} {F:α->β->Prop} {m m':List β} (p:MN m m'):∀ {l:List α},cg F l m->∃ l',MN l l'/\cg F l' m':=by
 induction p with
 | nil=>intro l h; cases h; exact ⟨[],.nil,.nil⟩
 | cons b _ ih=>
  intro l h
  cases h with
  | cons r t=>
   obtain ⟨l',p,q⟩:=ih t
   exact ⟨_ :: l',.cons _ p,.cons r q⟩
 | swap b c m=>
  intro l h
  cases h with
  | cons r t=>cases t with
   | cons r' t'=>exact ⟨_,.swap _ _ _,.cons r' (.cons r t')⟩
 | trans _ _ ih1 ih2=>
  intro l h
  obtain ⟨l1,p1,q1⟩:=ih1 h
  obtain ⟨l2,p2,q2⟩:=ih2 q1
  exact ⟨l2,p1.trans p2,q2⟩
noncomputable def dM (knd:KeyKind prog w K) (h:Heap) (a:Addr) (ks:List K) (led:Bool):Prop:=
 ∃ o es ep t,h.get? a=some o/\o.ExactSet/\o.data=.set es ep t/\cg (Ent knd) ks es.toList/\ks.Nodup/\es.size < Pd/\t.fits es.size=true/\Rs t.place.toList/\t.led=led
theorem Kl {ks:List K} {l:List (Int×Value)} (h:cg (Ent knd) ks l):ElemsOf knd l:=fun e he=>by
 obtain ⟨k,_,f1,f2,f3⟩:=h.right e he
 exact ⟨⟨k,f1,f2⟩,f3⟩
theorem stored {h:Heap} {a:Addr} {o:Obj} {es es':Array (Int×Value)} {ep:Nat} {t t':LO} {ks':List K} {led:Bool} (g1:h.get? a=some o) (g2:o.ExactSet) (g3:o.data=.set es ep t) (pr:cg (Ent knd) ks' es'.toList) (nd:ks'.Nodup) (sb:es'.size < Pd) (ft:t'.fits es'.size=true) (rs:Rs t'.place.toList) (ld:t'.led=led):
  (h.update a (QZ es' t')).get? a=some { o with data:=.set es' (ep + 1) t' }/\dM knd (h.update a (QZ es' t')) a ks' led:=by
 have hg:(h.update a (QZ es' t')).get? a=some { o with data:=.set es' (ep + 1) t' }:=by
  have z:=Mt (QZ es' t') g1 (by rw [putSet_of _ _ g3]; rfl)
  rw [z,putSet_of _ _ g3]
 exact ⟨hg,_,es',ep + 1,t',hg,g2,rfl,pr,nd,sb,ft,rs,ld⟩
theorem GL {ks:List K} {l:List (Int×Value)} {k:K} (h:cg (Ent knd) ks l) {j:Nat} (e:l.findIdx? (fun e=>knd.is k e.2)=some j):k∈ks:=by
 obtain ⟨hj,hp,_⟩:=NK.mp e
 obtain ⟨k',hk',f1,_⟩:=h.right _ (Oq hj)
 exact knd.inj _ _ _ hp f1 ▸ hk'
theorem Fo {ks:List K} {l:List (Int×Value)} {k:K} (h:cg (Ent knd) ks l) (e:l.findIdx? (fun e=>knd.is k e.2)=none):k∉ks:=by
 have n:=O4.mp e
 induction h with
 | nil=>intro z; cases z
 | cons r _ ih=>
  intro z
  rcases Lq.mp z with rfl | z
  ·have:=n _ Lu
   rw [r.1] at this
   cases this
  ·exact ih (O4.mpr fun e he=>n e (LC _ he)) (fun e he=>n e (LC _ he)) z
theorem xQ {g:Bool->Sem Unit} (hg:∀ (b:Bool) (z:Shared) (P:Unit->Shared->Prop),P () z->wpAny (model prog w) A (g b) P E z) {a:Addr} {o:Obj} {es fs:Array (Int×Value)} {ep:Nat} {t u:LO} {ks:List K} {led wd:Bool}
  (g1:s.heap.get? a=some o) (g2:o.ExactSet) (g3:o.data=.set es ep t) (kq:cg (Ent knd) ks fs.toList) (nd:ks.Nodup) (sb:fs.size < Pd) (fu:u.fits fs.size=true) (ru:Rs u.place.toList) (lu:u.led=led) {R:Option Bool->Shared->Prop}
  (q:∀ h' ks',LM a s.heap h'->dM knd h' a ks' led->MN ks' ks->R (some true) { s with heap:=h' }):
  wpAny (model prog w) A (storeSet a fs u >>= fun _=>if (!wd && u.tooFull)=true then (g (Ql u fs (Oj fs.size)).2.2 >>= fun _=>storeSet a (Ql u fs (Oj fs.size)).1 (Ql u fs (Oj fs.size)).2.1 >>= fun _=>pure (some true)) else pure (some true)) R E s:=by
 apply Lk
 refine S5 g1 g3 ?_ (S6 sb)
 obtain ⟨g4,R1⟩:=stored (knd:=knd) g1 g2 g3 kq nd sb fu ru lu
 have b1:=Mu s.heap a (QZ fs u)
 split
 ·have pm:=relayAll_perm u fs (Oj fs.size)
  have pf:=relayAll_fits u fs (Oj fs.size)
  have ⟨pr,pl⟩:=Bq ru fs (Oj fs.size)
  generalize Ql u fs (Oj fs.size)=L at *
  obtain ⟨fs',u',gv⟩:=L
  dsimp only at pm pf pr pl ⊢
  obtain ⟨ks',kp,kq'⟩:=cg.perm pm.symm kq
  have hz:fs'.size=fs.size:=by rw [<-Mc,pm.length_eq,Mc]
  apply Lk
  apply hg
  apply Lk
  refine S5 g4 rfl ?_ (S6 (by rw [hz]; exact sb))
  obtain ⟨_,R2⟩:=stored (knd:=knd) g4 g2 rfl kq' (kp.nodup_iff.mp nd) (by rw [hz]; exact sb) pf pr (pl.trans lu)
  exact Lm (q _ ks' (b1.trans (Mu _ a _)) R2 kp.symm)
 ·exact Lm (q _ ks b1 R1 (MN.refl _))
theorem IY {a:Addr} {ks:List K} {led:Bool} {k:K} {x:Value} {Q:Bool->Shared->Prop} (hk:knd.is k x=true) (hx:x.scannable=true) (R:dM knd s.heap a ks led) (room:ks.length + 1 < Pd)
  (q:∀ h' ks' b,LM a s.heap h'->dM knd h' a ks' led->(∀ y,y∈ks'↔y∈ks\/y=k)->ks'.length<=ks.length + 1->Q b { s with heap:=h' }):wpAny (model prog w) A (setAddHashed a x (knd.hash k)) Q E s:=by
 obtain ⟨o,es,ep,t,g1,g2,g3,pr,nd,sb,ft,rs,ld⟩:=id R
 have el:=Kl pr
 have hlen:ks.length=es.size:=by rw [pr.len,Mc]
 unfold setAddHashed setAddHashedIn
 apply ME
 apply Lk
 apply MQ g1 g3 ft
 dsimp only
 rw [if_pos (byScan_of hx sb el)]
 unfold setAddByScan
 apply Lk
 apply Lk
 apply NL
 apply Lk
 apply wpAny_setScan_of hk g1 g3 ft el
 cases fe:List.findIdx? (fun e=>knd.is k e.2) es.toList with
 | some j=>
  dsimp only
  apply Lm
  apply Lm
  have z:=q s.heap ks false (S7 a s.heap) R (fun y=>⟨.inl,fun h=>h.elim id fun e=>e ▸ GL pr fe⟩) (Oi _)
  cases s
  exact z
 | none=>
  dsimp only
  have hk0:=Fo pr fe
  have pm:=layNew_perm t es (knd.hash k) x
  have pf:=layNew_fits t es (knd.hash k) x
  have ⟨pr1,pl1⟩:=Fn rs es (knd.hash k) x
  generalize layNew t es (knd.hash k) x=L at *
  obtain ⟨es1,t1,wd,gv⟩:=L
  dsimp only at pm pf pr1 pl1 ⊢
  rw [QU] at pm
  obtain ⟨ks1,kp,kq⟩:=cg.perm pm.symm (pr.app (.cons (⟨hk,rfl,hx⟩:Ent knd k (knd.hash k,x)) .nil))
  have hz:es1.size=es.size + 1:=by rw [<-Mc,pm.length_eq,LG,Mc]; rfl
  have sb1:es1.size < Pd:=by rw [hz,<-hlen]; exact room
  have nd1:ks1.Nodup:=kp.nodup_iff.mp (S0.mpr ⟨nd,Rk _ _,fun y hy z hz' e=>hk0 (by rw [Ln] at hz'; rw [<-hz',<-e]; exact hy)⟩)
  have fin:∀ h' ks',LM a s.heap h'->dM knd h' a ks' led->MN ks' ks1->Q true { s with heap:=h' }:=fun h' ks' b R' pp=>
   q h' ks' true b R' (fun y=>by rw [pp.mem_iff,<-kp.mem_iff,LR,Ln]) (by rw [pp.length_eq,<-kp.length_eq,LG]; exact Lr _)
  apply Lk
  have gw:∀ (b:Bool) (z:Shared) (P:Unit->Shared->Prop),P () z->wpAny (model prog w) A (match b with | true=>rule "set.scan.the-table-gave-way" | false=>pure ()) P E z:=fun b z P hP=>by cases b <;> first | exact Lm hP | exact NL hP
  refine gw gv _ _ ?_
  split
  ·apply Lk
   rw [hashByValue_scannable 8 hx]
   apply Lm
   refine xQ (led:=led) (fun b z P hP=>by cases b <;> first | exact Lm hP | exact NL hP) g1 g2 g3 kq nd1 sb1 ?_ ?_ ?_ fun h' ks' b R' pp=>?_
   ·split
    ·exact pf
    ·exact LO.fits_plain_off pf
   ·split <;> exact pr1
   ·split <;> exact pl1.trans ld
   ·exact Lm (fin h' ks' b R' pp)
  ·apply Lk
   apply Lm
   simp only [↓reduceIte]
   refine xQ (led:=led) (fun b z P hP=>by cases b <;> first | exact Lm hP | exact NL hP) g1 g2 g3 kq nd1 sb1 pf pr1 (pl1.trans ld) fun h' ks' b R' pp=>?_
   exact Lm (fin h' ks' b R' pp)
end
end L2
end
namespace L2
open PySem PyProof.Rows
section
open PySem.Spec
section
variable {prog:Program} {w:World} {K:Type} [DecidableEq K] {knd:KeyKind prog w K} {A:Around} {R:Result->Shared->Prop} {I:Addr} {fp wr:List Addr} {G:Array R6->Array R6->Prop} {n:Nat} {P:Nat->Value->Prop} {St:Nat->Shared->Prop}
theorem dM.at {h h':Heap} {a:Addr} {ks:List K} {led:Bool} (r:dM knd h a ks led) (k:∀ o,h.get? a=some o->h'.get? a=some o):dM knd h' a ks led:=by
 obtain ⟨o,es,ep,t,e,z⟩:=r
 exact ⟨o,es,ep,t,k o e,z⟩
theorem GM (W:WalksS prog w A.in1 I fp wr G n P St) (S:Addr) (free:S∉fp) (key:Nat->K) (hkey:∀ i v,P i v->knd.is (key i) v=true/\v.scannable=true) (room:n + 1 < Pd) {led:Bool}:
  ∀ (m i:Nat) (s:Shared) (ks:List K),n - i=m->i<=n->St i s->dM knd s.heap S ks led->(∀ y,y∈ks↔∃ j,j < i/\key j=y)->ks.length<=i->
   (∀ s' ks',Moved (S :: wr) G s s'->dM knd s'.heap S ks' led->(∀ y,y∈ks'↔∃ j,j < n/\key j=y)->R (.ok (.ret .none)) s')->
   codeAny (model prog w) A (.builtin "set.update.loop" ⟨[.ref S,.ref I],[]⟩) R s:=by
 have nw:S∉wr:=fun z=>free (W.sub _ z)
 have up:∀ b∈wr,b∈S :: wr:=fun b z=>LC _ z
 intro m
 induction m with
 | zero=>
  intro i s ks hm hi st r mem len done
  obtain rfl:i=n:=by omega
  apply NV Rl
  rw [Ny Pi _]
  show wpAny _ A.in1 (pyNext (.ref I) >>= _) _ _ s
  apply Lk
  refine W.done s _ _ st fun z mv=>?_
  show wpAny _ A.in1 (ret MH) _ _ z
  exact Lm (done z ks (mv.mono up) (r.at fun o e=>mv.heap S _ nw e) mem)
 | succ m ih=>
  intro i s ks hm hi st r mem len done
  have lt:i < n:=by omega
  apply NV Rl
  rw [Ny Pi _]
  show wpAny _ A.in1 (pyNext (.ref I) >>= _) _ _ s
  apply Lk
  refine W.item i s _ _ lt st fun v z pv stz mv=>?_
  obtain ⟨kv,sv⟩:=hkey i v pv
  have rz:dM knd z.heap S ks led:=r.at fun o e=>mv.heap S _ nw e
  show wpAny _ A.in1 (holding [v] (setAdd S v) >>= _) _ _ z
  apply Lk
  apply ME
  unfold setAdd
  apply ME
  apply Lk
  refine knd.pyHash kv ?_
  refine IY (s:={ z with toks:=z.toks + 1 }) kv sv rz (by omega) fun h' ks' b sb r' mem' len'=>?_
  refine Lm ⟨Oz Pi _,ih (i + 1) _ ks' (by omega) lt (W.frame _ z _ _ stz (Oi _) fun c hc o e=>?_) r' (fun y=>?_) (by omega) fun z' ks2 mv2 r2 mem2=>?_⟩
  ·rw [sb.2 c (fun e':c=S=>free (by rw [<-e']; exact hc))]
   exact e
  ·rw [mem',mem]
   constructor
   ·rintro (⟨j,hj,e⟩ | e)
    ·exact ⟨j,by omega,e⟩
    ·exact ⟨i,by omega,e.symm⟩
   ·rintro ⟨j,hj,e⟩
    rcases SO j i with q | q
    ·exact .inl ⟨j,q,e⟩
    ·have:j=i:=by omega
     subst this
     exact .inr e.symm
  ·refine done z' ks2 (Moved.trans W.gtrans ((mv.mono up).then_heap (Oi _) fun c o hc e=>?_) mv2) r2 mem2
   rw [sb.2 c (fun e':c=S=>hc (by rw [e']; exact Lu))]
   exact e
end
end
section
open PySem.Spec
section
variable {prog:Program} {w:World} {A:Around} {E:Value->Shared->Prop} {s:Shared}
noncomputable def eO (w:World):Bool:=w.params.followText "set-order"
noncomputable abbrev nJ (w:World):Obj:={ cls:=.type "set",dict:=none,data:=.set #[] 0 (.fresh 0 0 (!eO w)) }
theorem GN (x:Value) {Q:Value->Shared->Prop} (q:Q (.ref s.heap.objs.size) { s with heap:=s.heap.push (nJ w) }):codeAny (model prog w) A (.call (.builtin "set.__new__") ⟨[.type "set",x],[]⟩) (wants Q E) s:=by
 apply Uh
 show wpAny _ A.in1 (do checkBuiltinCall "set.__new__" ⟨[.type "set",x],[]⟩; again (.builtin "set.__new__" ⟨[.type "set",x],[]⟩)) _ _ s
 apply Lk
 apply RF (PySem.F.newCall_set_1 x)
 refine Lm ⟨Oz RX _,?_⟩
 apply NV PySem.F.entry_set_new
 rw [Ny RX _]
 unfold Builtin.«set.__new__»
 unfold Builtin.Frozenset.newClass
 have self_:=sub_set_self
 obtain ⟨hp,g,d,tk,os⟩:=s
 dsimp only
 wp_walk
 apply Rg
 apply Lm
 dsimp only
 simp only [newObj]
 apply Lk
 apply wpAny_alloc
 apply Lm
 exact Lm q
theorem dM.new {K:Type} [DecidableEq K] {knd:KeyKind prog w K} {h:Heap} {a:Addr} (e:h.get? a=some (nJ w)):dM knd h a [] (!eO w):=
 ⟨_,#[],0,_,e,⟨rfl,rfl,rfl⟩,rfl,.nil,.nil,by decide,rfl,.nil,rfl⟩
end
end
section
open PySem.Spec
section
variable {prog:Program} {w:World} {K:Type} [DecidableEq K] {knd:KeyKind prog w K} {A:Around} {E:Value->Shared->Prop} {s:Shared}
theorem IZ {l:Addr} {xs:Array Value} (key:Nat->K) {Q:Value->Shared->Prop} (calm:A.handled=none) (hl:s.heap.IsList l xs) (hkey:∀ i v,xs[i]?=some v->knd.is (key i) v=true/\v.scannable=true) (room:xs.size + 1 < Pd)
  (q:∀ (h':Heap) (tk:Nat) (ks:List K),dM knd h' s.heap.objs.size ks (!eO w)->(∀ y,y∈ks↔∃ j,j < xs.size/\key j=y)->(∀ b o,b < s.heap.objs.size->s.heap.get? b=some o->h'.get? b=some o)->Q (.ref s.heap.objs.size) { s with heap:=h',toks:=tk }):
  wpAny (model prog w) A (call (.type "set") [.ref l]) Q E s:=by
 have ft:=PySem.F.called_set
 obtain ⟨c0,tl0,mro0⟩:=ft.mro
 have made0:=ft.made
 have sub0:=ft.sub
 have not0:=ft.notType
 have can0:=ft.canCreate
 have chk0:=PySem.F.typeCall_set_1 (.ref l)
 apply TX
 apply Uh
 show wpAny _ _ (callAny (.type "set") _) _ _ _
 refine Lm ⟨Code.quiet_builtin _ (by decide +kernel),?_⟩
 apply NV PySem.F.entry_type_call
 rw [Around.under_plain (weight_type_call_type "set" [.ref l] []) rfl]
 repeat (any_goals (first | assumption | wp_step))
 refine Om (GN (.ref l) (E:=E) (Q:=fun ob z=>ob=.ref s.heap.objs.size/\z={ s with heap:=s.heap.push (nJ w) }) ⟨rfl,rfl⟩) fun r z hz=>?_
 cases r with
 | error e=>exact hz
 | ok fl=>
  cases fl with
  | next=>exact hz.elim
  | brk=>exact hz.elim
  | cont=>exact hz.elim
  | ret ob=>
   obtain ⟨rfl,rfl⟩:=hz
   have got:(s.heap.push (nJ w)).get? s.heap.objs.size=some (nJ w):=Lx _ rfl
   have isT:Sm { s with heap:=s.heap.push (nJ w) } (.ref s.heap.objs.size) "set":=⟨_,got,rfl⟩
   have look0:=ft.init.lookup
   have bind0:=ft.init.bind (.ref s.heap.objs.size)
   repeat (any_goals (first | assumption | wp_step))
   refine Om (codeAny_call_builtin (R:=wants (fun r z=>r=.none/\∃ h' tk ks,z={ s with heap:=h',toks:=tk }/\dM knd h' s.heap.objs.size ks (!eO w)/\(∀ y,y∈ks↔∃ j,j < xs.size/\key j=y)/\∀ b o,b < s.heap.objs.size->s.heap.get? b=some o->h'.get? b=some o) E) ft.init.plain PySem.F.entry_set_init (check_set_init_1 isT ?_)) fun r z hz=>?_
   ·obtain ⟨ob,gl,cl,nl,dl⟩:=hl
    obtain ⟨a1,a2,a3,a4⟩:=ob
    simp only at cl dl
    subst cl dl
    have gl1:(s.heap.push (nJ w)).get? l=some { cls:=.type "list",dict:=a2,data:=.seq xs nl,slots:=a4 }:=Ll _ gl
    have sls:=PySem.F.sub_list_set
    have slf:=PySem.F.sub_list_frozenset
    have nd0:(MI "list" == MI "dict")=false:=by decide
    have il:(s.heap.push (nJ w)).IsList l xs:=⟨_,gl1,rfl,nl,rfl⟩
    unfold Builtin.«set.__init__»
    unfold noKeywords
    unfold Builtin.Frozenset.updateFrom
    generalize gPI:pyIter=PI
    wp_walk
    subst gPI
    apply OJ il
    apply Lk
    apply wpAny_runValue
    have lt:l < s.heap.objs.size:=Lv gl
    have sz:(s.heap.push (nJ w)).objs.size=s.heap.objs.size + 1:=Md _ _
    have fr:s.heap.objs.size∉[(s.heap.push (nJ w)).objs.size,l]:=by
     rw [sz]
     intro hm
     rcases Lq.1 hm with e | hm
     ·exact absurd e (L9 (MX _))
     ·rcases Lq.1 hm with e | hm
      ·exact absurd e.symm (L9 lt)
      ·exact nomatch hm
    refine GM (knd:=knd) ((T4 (by simp [calm]) _ l (by rw [sz]; exact L9 (MP lt)) xs).toS) s.heap.objs.size fr key (fun i v hv=>hkey i v hv) room (led:=!eO w) (xs.size - 0) 0 _ [] (by omega) (Mv _) ⟨⟨_,Lx _ rfl,rfl,rfl⟩,il.push _⟩ (dM.new (Ll _ got)) (fun y=>⟨fun z=>(nomatch z),fun ⟨j,hj,_⟩=>absurd hj (P5 _)⟩) (Lr _) fun z ks mv r mem=>?_
    obtain ⟨h',g',d',tk',os'⟩:=z
    obtain rfl:g'=s.gens:=mv.gens
    obtain rfl:d'=s.drawn:=mv.drawn
    obtain rfl:os'=s.os:=mv.os
    show wpAny _ _ _ _ _ _
    refine Lm ?_
    show wpAny _ _ (ret MH) _ _ _
    refine Lm ⟨rfl,h',tk',ks,rfl,r,mem,fun b o hb e=>mv.heap b o (fun hm=>?_) (Ll _ (Ll _ e))⟩
    rcases Lq.1 hm with e | hm
    ·exact absurd e (L9 hb)
    ·rcases Lq.1 hm with e | hm
     ·rw [sz] at e
      exact absurd e (L9 (MP hb))
     ·exact nomatch hm
   ·cases r with
    | error e=>exact hz
    | ok fl=>
     cases fl with
     | next=>exact hz.elim
     | brk=>exact hz.elim
     | cont=>exact hz.elim
     | ret r=>
      obtain ⟨rfl,h',tk,ks,rfl,r1,r2,r3⟩:=hz
      repeat (any_goals (first | assumption | wp_step))
      exact q _ _ ks r1 r2 r3
end
end
section
open PySem.Spec
theorem fJ:Slot "set_iterator" "__next__" "set_iterator.__next__":=by
 refine Slot.of (owner:="set_iterator") (n:="__next__") ?_ ?_ ?_ ?_ ?_ ?_
 ·rw [Qa,OR]
  kernel_rfl
 ·decide +kernel
 ·decide +kernel
 ·decide +kernel
 ·first
   | exact .inl (by decide +kernel)
   | exact .inr (by decide +kernel)
 ·rw [RY]
  kernel_rfl
theorem B5:Slot "set_iterator" "__iter__" "set_iterator.__iter__":=by
 refine Slot.of (owner:="set_iterator") (n:="__iter__") ?_ ?_ ?_ ?_ ?_ ?_
 ·rw [Qa,OR]
  kernel_rfl
 ·decide +kernel
 ·decide +kernel
 ·decide +kernel
 ·first
   | exact .inl (by decide +kernel)
   | exact .inr (by decide +kernel)
 ·rw [RY]
  kernel_rfl
theorem pG:entryFor table "set_iterator.__next__"=some Builtin.«set_iterator.__next__»:=by
 apply entryFor_of_tree
 kernel_rfl
theorem GO:entryFor table "set_iterator.__iter__"=some Builtin.«dict_keyiterator.__iter__»:=by
 refine entryFor_alias (id':="dict_keyiterator.__iter__") ?_ rfl ?_ ?_
 ·kernel_rfl
 ·decide +kernel
 ·kernel_rfl
theorem I0:entryFor table "set.__iter__"=some Builtin.«frozenset.__iter__»:=by
 refine entryFor_alias (id':="frozenset.__iter__") ?_ rfl ?_ ?_
 ·kernel_rfl
 ·decide +kernel
 ·kernel_rfl
theorem Ax:Manifest.owners.lookup (String.ofList ['r','o','t','a','r','e','t','i','_','t','e','s'].reverse)=some Manifest.sig_set_iterator:=by kernel_rfl
theorem pH (a:Value):argsOk "set_iterator.__next__" ⟨[a],[]⟩:=by
 unfold argsOk
 rw [signature?_of (id:="set_iterator.__next__") (n:=['_','_','t','x','e','n','_','_']) (o:=['r','o','t','a','r','e','t','i','_','t','e','s']) (by kernel_rfl) Ax]
 kernel_rfl
theorem GP (a:Value):argsOk "set_iterator.__iter__" ⟨[a],[]⟩:=by
 unfold argsOk
 rw [signature?_of (id:="set_iterator.__iter__") (n:=['_','_','r','e','t','i','_','_']) (o:=['r','o','t','a','r','e','t','i','_','t','e','s']) (by kernel_rfl) Ax]
 kernel_rfl
end
section
open PySem.Spec
noncomputable def SAt (h:Heap) (a:Addr) (es:Array (Int×Value)) (ep:Nat) (t:LO):Prop:=∃ o,h.get? a=some o/\o.data=.set es ep t/\t.fits es.size=true
noncomputable def dS (h:Heap) (I a:Addr) (f:Value) (i n ep:Nat):Prop:=∃ o,h.get? I=some o/\o.cls=.type "set_iterator"/\o.data=.fields #[f,.int i 0,.ref a,.int n 0,.int ep 0]
theorem SAt.at {h h':Heap} {a:Addr} {es:Array (Int×Value)} {ep:Nat} {t:LO} (x:SAt h a es ep t) (k:∀ o,h.get? a=some o->h'.get? a=some o):SAt h' a es ep t:=by
 obtain ⟨o,e,r⟩:=x
 exact ⟨o,k o e,r⟩
theorem dS.at {h h':Heap} {I a:Addr} {f:Value} {i n ep:Nat} (x:dS h I a f i n ep) (k:∀ o,h.get? I=some o->h'.get? I=some o):dS h' I a f i n ep:=by
 obtain ⟨o,e,r⟩:=x
 exact ⟨o,k o e,r⟩
theorem dS.type {s:Shared} {I a:Addr} {f:Value} {i n ep:Nat} (x:dS s.heap I a f i n ep):s.TypeIs (.ref I) "set_iterator":=by
 obtain ⟨o,e,c,_⟩:=x
 exact ⟨o,e,c⟩
theorem dS.set {h:Heap} {I a:Addr} {f g:Value} {i n ep:Nat} (x:dS h I a f i n ep):dS (h.update I (QI (·.setIfInBounds 0 g))) I a g i n ep:=by
 obtain ⟨o,e,c,d⟩:=x
 refine ⟨_,Mt _ e (PF (N4 d _)),(QP ..).trans c,?_⟩
 rw [N4 d]
 simp
theorem dS.step {h:Heap} {I a:Addr} {f:Value} {i n ep:Nat} (x:dS h I a f i n ep):dS (h.update I (QI (·.setIfInBounds 1 (rawInt ((i:Int) + 1))))) I a f (i + 1) n ep:=by
 obtain ⟨o,e,c,d⟩:=x
 refine ⟨_,Mt _ e (PF (N4 d _)),(QP ..).trans c,?_⟩
 rw [N4 d]
 simp [rawInt]
section
variable {prog:Program} {w:World} {A:Around} {E:Value->Shared->Prop} {s:Shared} {I a:Addr} {es:Array (Int×Value)} {ep:Nat} {t:LO} {i:Nat}
theorem sr {Q:Bool->Shared->Prop} (q:Q (eO w) s):wpAny (model prog w) A setsByText Q E s:=by
 unfold setsByText
 apply Lk
 apply Rg
 exact Lm q
theorem B6 {slot:Nat} {Q:Option (Value×Nat)->Shared->Prop} (b:eO w=true) (hs:SAt s.heap a es ep t) (q:Q ((Pe (w.params.setOrder a ep) es)[i]?.map fun e=>(e.2,slot)) s):wpAny (model prog w) A (setNext a slot i ep) Q E s:=by
 obtain ⟨o,g1,g3,ft⟩:=hs
 unfold setNext
 apply Lk
 apply MQ g1 g3 ft
 dsimp only
 apply Lk
 apply sr
 rw [if_pos b,if_neg (by simp)]
 apply Lk
 unfold setWalk
 apply Lk
 apply MQ g1 g3 ft
 dsimp only
 apply Lk
 apply sr
 rw [if_pos b]
 apply Lk
 apply Rg
 apply Lm
 exact Lm q
theorem B7 {slot:Nat} {Q:Option (Value×Nat)->Shared->Prop} (b:eO w=false) (pl:(!t.plain && decide (es.size > 1))=false) (ld:t.led=true) (hs:SAt s.heap a es ep t)
  (q:Q (match es[LV t.place slot]?,t.place[LV t.place slot]? with | some (_,x),some j=>some (x,j + 1) | _,_=>none) s):wpAny (model prog w) A (setNext a slot i ep) Q E s:=by
 obtain ⟨o,g1,g3,ft⟩:=hs
 unfold setNext
 apply Lk
 apply MQ g1 g3 ft
 dsimp only
 apply Lk
 apply sr
 rw [if_neg (by rw [b]; exact LB)]
 show wpAny _ _ (if (!t.plain && decide (es.size > 1))=true then _ else _) _ _ _
 rw [if_neg (by rw [pl]; exact LB)]
 apply Lk
 show wpAny _ _ (if (!t.led && !es.isEmpty)=true then _ else _) _ _ _
 rw [if_neg (by rw [ld]; simp)]
 apply Lm
 exact Lm q
theorem Ja {p:Nat} {x:Int×Value} {Q:Value->Shared->Prop} (hs:SAt s.heap a es ep t) (hx:es[p]?=some x) (q:Q x.2 s):wpAny (model prog w) A (setNextDrawn a p ep) Q E s:=by
 obtain ⟨o,g1,g3,ft⟩:=hs
 unfold setNextDrawn
 apply Lk
 apply MQ g1 g3 ft
 dsimp only
 rw [if_neg (by simp),hx]
 exact Lm q
theorem B8 {slot nx:Nat} {x:Value} {Q:Option Value->Shared->Prop} (hit:dS s.heap I a (.int slot 0) i es.size ep) (hs:SAt s.heap a es ep t)
  (hx:∀ (A:Around) (E:Value->Shared->Prop) (Q:Option (Value×Nat)->Shared->Prop),Q (some (x,nx)) s->wpAny (model prog w) A (setNext a slot i ep) Q E s)
  (q:∀ h',dS h' I a (.int nx 0) (i + 1) es.size ep->LM I s.heap h'->Q (some x) { s with heap:=h' }):wpAny (model prog w) A (pyNext (.ref I)) Q E s:=by
 obtain ⟨o,g1,g3,ft⟩:=id hs
 obtain ⟨u,e1,e2,e3⟩:=id hit
 unfold pyNext
 apply Lk
 apply Od
 refine Mq (name:=Nq "__next__") hit.type fJ ?_
 refine Mh fJ hit.type pG ?_ (pH _)
 refine Lk (Lm ?_)
 refine Lk (Qm e1 e3 ?_)
 dsimp only
 apply Lk
 unfold Q0
 apply Lk
 apply MQ g1 g3 ft
 apply Lm
 rw [if_neg (by simp)]
 apply Lk
 refine hx _ _ _ ?_
 dsimp only
 refine Lk (N3 e1 e3 (by simp) ?_)
 have it1:dS (s.heap.update I (QI (·.setIfInBounds 0 (rawInt (nx:Int))))) I a (.int nx 0) i es.size ep:=hit.set
 obtain ⟨u',e1',e2',e3'⟩:=id it1
 refine Lk (N3 e1' e3' (by simp) ?_)
 exact Lm ⟨_,rfl,Lm (q _ it1.step ((Mu _ I _).trans (Mu _ I _)))⟩
theorem Fp {slot:Nat} {Q:Option Value->Shared->Prop} (calm:A.handled=none) (hit:dS s.heap I a (.int slot 0) i es.size ep) (hs:SAt s.heap a es ep t)
  (hx:∀ (A:Around) (E:Value->Shared->Prop) (Q:Option (Value×Nat)->Shared->Prop),Q none s->wpAny (model prog w) A (setNext a slot i ep) Q E s)
  (q:∀ h',OZ I s.heap h'->Q none { s with heap:=h' }):wpAny (model prog w) A (pyNext (.ref I)) Q E s:=by
 obtain ⟨o,g1,g3,ft⟩:=id hs
 obtain ⟨u,e1,e2,e3⟩:=id hit
 unfold pyNext
 apply Lk
 apply Od
 refine Mq (name:=Nq "__next__") hit.type fJ ?_
 refine Mh fJ hit.type pG ?_ (pH _)
 refine Lk (Lm ?_)
 refine Lk (Qm e1 e3 ?_)
 dsimp only
 apply Lk
 unfold Q0
 apply Lk
 apply MQ g1 g3 ft
 apply Lm
 rw [if_neg (by simp)]
 apply Lk
 refine hx _ _ _ ?_
 dsimp only
 refine Lk (N3 e1 e3 (by simp) ?_)
 show wpAny _ _ (newExc (.type "StopIteration") [] >>= _) _ _ _
 apply Lk
 simp only [newExc,Tu]
 apply Lk
 refine Mx ?_ (by size_fits)
 apply Lk
 refine RF (a:=MH) (by rfl) ?_
 refine Mx ?_ (by size_fits)
 simp only [raiseNew]
 refine Lk (Sk ?_)
 rw [show A.in1.handled=none from calm]
 refine Td ?_
 apply Lk
 refine Nt (T:="StopIteration") (b:=true) ?_ Pg ?_
 ·exact ⟨_,Lx _ rfl,rfl⟩
 ·exact Lm (q _ (((Mu _ I _).extBut.push _).push _))
theorem GQ {d:Addr} {ps:Array Value} {p:Nat} {x:Int×Value} {Q:Option Value->Shared->Prop} (hit:dS s.heap I a (.ref d) i es.size ep) (hs:SAt s.heap a es ep t) (ht:s.heap.IsTuple d ps) (hp:ps[i]?=some (.int p 0)) (hx:es[p]?=some x)
  (q:∀ h',dS h' I a (.ref d) (i + 1) es.size ep->LM I s.heap h'->Q (some x.2) { s with heap:=h' }):wpAny (model prog w) A (pyNext (.ref I)) Q E s:=by
 obtain ⟨o,g1,g3,ft⟩:=id hs
 obtain ⟨u,e1,e2,e3⟩:=id hit
 unfold pyNext
 apply Lk
 apply Od
 refine Mq (name:=Nq "__next__") hit.type fJ ?_
 refine Mh fJ hit.type pG ?_ (pH _)
 refine Lk (Lm ?_)
 refine Lk (Qm e1 e3 ?_)
 dsimp only
 apply Lk
 unfold Q0
 apply Lk
 apply MQ g1 g3 ft
 apply Lm
 rw [if_neg (by simp)]
 obtain ⟨v,f1,f2,n,f3⟩:=id ht
 apply Lk
 refine MD f1 f3 ?_
 dsimp only
 rw [show ((i:Int)).toNat=i from rfl,hp]
 dsimp only
 apply Lk
 refine Ja hs hx ?_
 refine Lk (N3 e1 e3 (by simp) ?_)
 exact Lm ⟨_,rfl,Lm (q _ hit.step (Mu _ I _))⟩
theorem Jb {d:Addr} {ps:Array Value} {Q:Option Value->Shared->Prop} (calm:A.handled=none) (hit:dS s.heap I a (.ref d) i es.size ep) (hs:SAt s.heap a es ep t) (ht:s.heap.IsTuple d ps) (hp:ps[i]?=none)
  (q:∀ h',OZ I s.heap h'->Q none { s with heap:=h' }):wpAny (model prog w) A (pyNext (.ref I)) Q E s:=by
 obtain ⟨o,g1,g3,ft⟩:=id hs
 obtain ⟨u,e1,e2,e3⟩:=id hit
 unfold pyNext
 apply Lk
 apply Od
 refine Mq (name:=Nq "__next__") hit.type fJ ?_
 refine Mh fJ hit.type pG ?_ (pH _)
 refine Lk (Lm ?_)
 refine Lk (Qm e1 e3 ?_)
 dsimp only
 apply Lk
 unfold Q0
 apply Lk
 apply MQ g1 g3 ft
 apply Lm
 rw [if_neg (by simp)]
 obtain ⟨v,f1,f2,n,f3⟩:=id ht
 apply Lk
 refine MD f1 f3 ?_
 dsimp only
 rw [show ((i:Int)).toNat=i from rfl,hp]
 dsimp only
 refine Lk (N3 e1 e3 (by simp) ?_)
 have it1:dS (s.heap.update I (QI (·.setIfInBounds 0 (rawInt 0)))) I a (rawInt 0) i es.size ep:=hit.set
 obtain ⟨u',e1',e2',e3'⟩:=id it1
 refine Lk (N3 e1' e3' (by simp) ?_)
 show wpAny _ _ (newExc (.type "StopIteration") [] >>= _) _ _ _
 apply Lk
 simp only [newExc,Tu]
 apply Lk
 refine Mx ?_ (by size_fits)
 apply Lk
 refine RF (a:=MH) (by rfl) ?_
 refine Mx ?_ (by size_fits)
 simp only [raiseNew]
 refine Lk (Sk ?_)
 rw [show A.in1.handled=none from calm]
 refine Td ?_
 apply Lk
 refine Nt (T:="StopIteration") (b:=true) ?_ Pg ?_
 ·exact ⟨_,Lx _ rfl,rfl⟩
 ·exact Lm (q _ ((((Mu _ I _).trans (Mu _ I _)).extBut.push _).push _))
theorem wV {f:Value} {n:Nat} {Q:Value->Shared->Prop} (hit:dS s.heap I a f i n ep) (q:Q (.ref I) s):wpAny (model prog w) A (pyIter (.ref I)) Q E s:=by
 refine S8 hit.type B5 ?_
 refine Mh B5 hit.type GO ?_ (GP _)
 show wpAny _ _ (ret (.ref I)) _ _ s
 exact Lm ⟨_,rfl,"set_iterator",_,hit.type,fJ.lookup,q⟩
end
end
section
open PySem.Spec
theorem wW {α:Type}:∀ (l:List α) (i:Nat) (h:i < l.length),MN (l[i] :: l.eraseIdx i) l
 | x :: l,0,_=>.refl _
 | x :: l,i + 1,h=>(MN.swap x _ _).trans (.cons x (wW l i (Nat.lt_of_succ_lt_succ h)))
theorem B9 {α:Type} (next:Nat->Nat):∀ (fuel k:Nat) (left:List α) (out:Array α),left.length=fuel->MN (Pe.go next fuel k left out).toList (out.toList++left)
 | 0,k,left,out,h=>by
  obtain rfl:=Ox.mp h
  rw [NG]
  exact .refl _
 | fuel + 1,k,left,out,h=>by
  have hl:next k % left.length < left.length:=Nat.mod_lt _ (by omega)
  show MN (match left[next k % left.length]? with | some x=>Pe.go next fuel (k + 1) (left.eraseIdx (next k % left.length)) (out.push x) | none=>out).toList _
  rw [Lo hl]
  refine (B9 next fuel (k + 1) _ _ (by rw [QJ hl,h]; rfl)).trans ?_
  rw [QU,QO]
  exact MN.append_left _ (wW _ _ hl)
theorem rB {α:Type} (next:Nat->Nat) (xs:Array α):MN (Pe next xs).toList xs.toList:=B9 next xs.size 0 xs.toList #[] (by simp)
section
variable {prog:Program} {w:World} {A:Around} {E:Value->Shared->Prop} {s:Shared} {I a:Addr} {es:Array (Int×Value)} {ep:Nat} {t:LO} {i:Nat}
theorem GR {src:Source} {n:Nat} {Q:Nat->Shared->Prop} (hn:n≠0) (q:∀ i dr,i < n->Q i { s with drawn:=dr }):wpAny (model prog w) A (choose src n) Q E s:=fun _ _ _=>⟨hn,q _ _ (Nat.mod_lt _ (Nat.pos_of_ne_zero hn))⟩
theorem xR {α:Type}:∀ (n:Nat) (xs:List α) (s:Shared) (Q:List α->Shared->Prop),xs.length=n->(∀ ys dr,MN ys xs->Q ys { s with drawn:=dr })->wpAny (model prog w) A (drawOrder n xs) Q E s
 | 0,xs,s,Q,h,q=>by
  obtain rfl:=Ox.mp h
  exact Lm (q [] s.drawn .nil)
 | n + 1,[],s,Q,h,q=>nomatch h
 | n + 1,x :: xs,s,Q,h,q=>by
  unfold drawOrder
  apply Lk
  refine GR (by simp) fun i dr hi=>?_
  rw [Lo hi]
  dsimp only
  apply Lk
  refine xR n _ _ _ (by rw [QJ hi,h]; rfl) fun ys dr' p=>?_
  exact Lm (q _ _ ((MN.cons _ p).trans (wW _ _ hi)))
noncomputable abbrev Ord (ord:List (Int×Value)) (i:Nat) (v:Value):Prop:=∃ e,ord[i]?=some e/\e.2=v
theorem Jc (calm:A.handled=none) (b:eO w=true) (hne:a≠I):
  Walks prog w A I [I,a] [I] es.size (Ord (Pe (w.params.setOrder a ep) es).toList) (fun i h=>(∃ slot:Nat,dS h I a (.int slot 0) i es.size ep)/\SAt h a es ep t) where
 sub:=fun b hb=>by
  rw [Ln.mp hb]
  exact Lu
 frame:=fun i h h' st k=>⟨st.1.elim fun n z=>⟨n,z.at (k I Lu)⟩,st.2.at (k a (LC _ Lu))⟩
 item:=fun i s Q E hi st q=>by
  obtain ⟨⟨slot,it⟩,hs⟩:=st
  have len:=(rB (w.params.setOrder a ep) es).length_eq
  have hl:i < (Pe (w.params.setOrder a ep) es).size:=by
   rw [<-Mc,len,Mc]
   exact hi
  refine B8 (x:=(Pe (w.params.setOrder a ep) es)[i].2) (nx:=slot) it hs (fun A E Q h=>B6 b hs ?_) fun h' it' sb=>?_
  ·rw [Nn hl]
   exact h
  ·refine q _ h' s.toks ⟨_,?_,rfl⟩ ⟨⟨slot,it'⟩,hs.at fun o e=>?_⟩ fun c o hc e=>?_
   ·rw [Oa,Nn hl]
   ·exact sb.extBut a o hne e
   ·exact sb.extBut c o (fun z=>hc (by rw [z]; exact Lu)) e
 done:=fun s Q E st q=>by
  obtain ⟨⟨slot,it⟩,hs⟩:=st
  have len:=(rB (w.params.setOrder a ep) es).length_eq
  have hl:(Pe (w.params.setOrder a ep) es).size<=es.size:=by
   rw [<-Mc,len,Mc]
   exact Lr _
  refine Fp calm it hs (fun A E Q h=>B6 b hs ?_) fun h' xb=>q h' s.toks fun c o hc e=>?_
  ·rw [Pu hl]
   exact h
  ·exact xb c o (fun z=>hc (by rw [z]; exact Lu)) e
 self:=fun i s Q E st q=>st.1.elim fun n z=>wV z q
noncomputable def uk (t:LO):Nat->Nat
 | 0=>0
 | j + 1=>t.place.getD j 0 + 1
theorem vC (rs:Rs t.place.toList):∀ i,i<=t.place.size->LV t.place (uk t i)=i
 | 0,_=>C6 _ rs
 | j + 1,h=>by
  have hj:j < t.place.size:=h
  have hj':j < t.place.toList.length:=by simpa using hj
  have e:uk t (j + 1)=t.place.toList[j] + 1:=by rw [uk,xP _ _ _ hj]
  rw [e]
  exact C5 _ rs hj'
theorem Jd (calm:A.handled=none) (b:eO w=false) (pl:(!t.plain && decide (es.size > 1))=false) (ld:t.led=true) (rs:Rs t.place.toList) (sz:t.place.size=es.size) (hne:a≠I):
  Walks prog w A I [I,a] [I] es.size (Ord es.toList) (fun i h=>dS h I a (.int (uk t i:Nat) 0) i es.size ep/\SAt h a es ep t) where
 sub:=fun b hb=>by
  rw [Ln.mp hb]
  exact Lu
 frame:=fun i h h' st k=>⟨st.1.at (k I Lu),st.2.at (k a (LC _ Lu))⟩
 item:=fun i s Q E hi st q=>by
  obtain ⟨it,hs⟩:=st
  have hp:i < t.place.size:=by rw [sz]; exact hi
  refine B8 (x:=es[i].2) (nx:=uk t (i + 1)) it hs (fun A E Q h=>B7 b pl ld hs ?_) fun h' it' sb=>?_
  ·rw [vC rs i (Mw hp),Nn hi,Nn hp]
   have e:uk t (i + 1)=t.place[i] + 1:=by
    rw [uk,Sg,dif_pos hp]
    rfl
   rw [e] at h
   exact h
  ·refine q _ h' s.toks ⟨_,?_,rfl⟩ ⟨it',hs.at fun o e=>?_⟩ fun c o hc e=>?_
   ·rw [Oa,Nn hi]
   ·exact sb.extBut a o hne e
   ·exact sb.extBut c o (fun z=>hc (by rw [z]; exact Lu)) e
 done:=fun s Q E st q=>by
  obtain ⟨it,hs⟩:=st
  refine Fp calm it hs (fun A E Q h=>B7 b pl ld hs ?_) fun h' xb=>q h' s.toks fun c o hc e=>?_
  ·rw [vC rs es.size (by rw [sz]; exact Lr _),Pu (Lr _)]
   exact h
  ·exact xb c o (fun z=>hc (by rw [z]; exact Lu)) e
 self:=fun i s Q E st q=>wV st.1 q
theorem oY (es:Array (Int×Value)):((LU es.size).map fun p=>es.getD p (0,.none))=es.toList:=by
 apply List.ext_getElem
 ·simp
 ·intro i h1 h2
  have hi:i < es.size:=by simpa using h2
  rw [List.getElem_map,Qw,Sg,dif_pos hi]
  simp
theorem Je (calm:A.handled=none) {d:Addr} {ps:List Nat} (pm:MN ps (LU es.size)) (hne:a≠I) (hd:d≠I):
  Walks prog w A I [I,a,d] [I] es.size (Ord (ps.map fun p=>es.getD p (0,.none))) (fun i h=>dS h I a (.ref d) i es.size ep/\SAt h a es ep t/\h.IsTuple d (ps.map fun p=>Oh (p:Nat) 0).toArray) where
 sub:=fun b hb=>by
  rw [Ln.mp hb]
  exact Lu
 frame:=fun i h h' st k=>⟨st.1.at (k I Lu),st.2.1.at (k a (LC _ Lu)),st.2.2.at (k d (LC _ (LC _ Lu)))⟩
 item:=fun i s Q E hi st q=>by
  obtain ⟨it,hs,ht⟩:=st
  have len:=pm.length_eq
  rw [Nj] at len
  have hl:i < ps.length:=by rw [len]; exact hi
  have lt:ps[i] < es.size:=N1.mp (pm.mem_iff.mp (Oq hl))
  refine GQ (p:=ps[i]) (x:=es[ps[i]]) it hs ht ?_ (Nn lt) fun h' it' sb=>?_
  ·rw [RZ,LD,Lo hl]
   rfl
  ·refine q _ h' s.toks ⟨_,?_,rfl⟩ ⟨it',hs.at fun o e=>?_,ht.at fun o e=>?_⟩ fun c o hc e=>?_
   ·rw [LD,Lo hl]
    show some (es.getD ps[i] (0,.none))=_
    rw [Sg,dif_pos lt]
    rfl
   ·exact sb.extBut a o hne e
   ·exact sb.extBut d o hd e
   ·exact sb.extBut c o (fun z=>hc (by rw [z]; exact Lu)) e
 done:=fun s Q E st q=>by
  obtain ⟨it,hs,ht⟩:=st
  have len:=pm.length_eq
  refine Jb calm it hs ht ?_ fun h' xb=>q h' s.toks fun c o hc e=>?_
  ·apply Pu
   simp [len]
  ·exact xb c o (fun z=>hc (by rw [z]; exact Lu)) e
 self:=fun i s Q E st q=>wV st.1 q
end
end
section
open PySem.Spec
theorem cg.get {α β:Type} {F:α->β->Prop} {l:List α} {m:List β} (h:cg F l m):∀ {i:Nat} {b:β},m[i]?=some b->∃ a,l[i]?=some a/\F a b:=by
 induction h with
 | nil=>intro i b e; cases e
 | cons r _ ih=>
  intro i b e
  cases i with
  | zero=>
   obtain rfl:_=b:=LF e
   exact ⟨_,rfl,r⟩
  | succ i=>exact ih e
section
variable {prog:Program} {w:World} {K:Type} [DecidableEq K] {knd:KeyKind prog w K} {A:Around} {E:Value->Shared->Prop} {s:Shared} {I a:Addr} {es:Array (Int×Value)} {ep:Nat} {t:LO} {i:Nat}
theorem ul {fp wr:List Addr} {n:Nat} {P P':Nat->Value->Prop} {St:Nat->Heap->Prop} (W:Walks prog w A I fp wr n P St) (f:∀ i v,P i v->P' i v):Walks prog w A I fp wr n P' St where
 sub:=W.sub
 frame:=W.frame
 item:=fun i s Q E hi st q=>W.item i s Q E hi st fun v h' tk pv=>q v h' tk (f i v pv)
 done:=W.done
 self:=W.self
noncomputable abbrev dn (knd:KeyKind prog w K) (ord:List K) (i:Nat) (v:Value):Prop:=∃ k,ord[i]?=some k/\knd.is k v=true
theorem wX {ks:List K} {l m:List (Int×Value)} (pr:cg (Ent knd) ks m) (p:MN l m):∃ ord,MN ord ks/\∀ i v,Ord l i v->dn knd ord i v:=by
 obtain ⟨ord,q,pr'⟩:=cg.perm p.symm pr
 refine ⟨ord,q.symm,fun i v h=>?_⟩
 obtain ⟨e,he,rfl⟩:=h
 obtain ⟨k,hk,r⟩:=pr'.get he
 exact ⟨k,hk,r.1⟩
noncomputable abbrev itO (f:Value) (a:Addr) (n ep:Nat):Obj:={ cls:=.type "set_iterator",data:=.fields #[f,.int (0:Nat) 0,.ref a,.int n 0,.int ep 0] }
theorem Ca {f:Value} {F:Fin->Shared->Prop} (hs:SAt s.heap a es ep t) (q:F (.done (.ret (.ref s.heap.objs.size))) { s with heap:=s.heap.push (itO f a es.size ep) }):
  wpAny (model prog w) A (do ret (<-newFields "set_iterator" [f,rawInt 0,.ref a,rawInt es.size,rawInt (<-setEpoch a)])) F E s:=by
 obtain ⟨o,g1,g3,ft⟩:=hs
 apply Lk
 refine wpAny_setEpoch_of g1 g3 ft ?_
 apply Lk
 unfold newFields
 refine Mx ?_
 exact Lm q
theorem GS {ks:List K} {Q:Value->Shared->Prop} (calm:A.handled=none) (r:dM knd s.heap a ks (!eO w))
  (q:∀ (I:Addr) (h':Heap) (dr) (fp:List Addr) (St:Nat->Heap->Prop) (ord:List K),MN ord ks->Walks prog w A I fp [I] ks.length (dn knd ord) St->St 0 h'->(∀ b∈fp,b < h'.objs.size)->(∀ b∈fp,b=a\/s.heap.objs.size<=b)->s.heap.objs.size<=I->I∈fp->(∀ b o,s.heap.get? b=some o->h'.get? b=some o)->Q (.ref I) { s with heap:=h',drawn:=dr }):
  wpAny (model prog w) A (pyIter (.ref a)) Q E s:=by
 obtain ⟨o,es,ep,t,g1,g2,g3,pr,nd,sb,ft,rs,ld⟩:=id r
 have hs:SAt s.heap a es ep t:=⟨o,g1,g3,ft⟩
 have ty:s.TypeIs (.ref a) "set":=⟨o,g1,g2.1⟩
 have len:es.size=ks.length:=by rw [pr.len,Mc]
 have lt:a < s.heap.objs.size:=Lv g1
 rw [<-len] at q
 have sz:t.place.size=es.size:=by
  simp only [LO.fits,MY,beq_iff_eq] at ft
  exact ft.1
 refine S8 ty R3 ?_
 refine Mh R3 ty I0 ?_ (PySem.F.args_set_iter_1 _)
 unfold Builtin.«frozenset.__iter__»
 refine Lk (Lm ?_)
 apply Lk
 unfold Builtin.Frozenset.sizeOf
 apply Lk
 unfold Q0
 apply Lk
 apply MQ g1 g3 ft
 apply Lm
 apply Lm
 apply Lk
 unfold setDrawn
 apply Lk
 apply MQ g1 g3 ft
 dsimp only
 apply Lk
 apply sr
 apply Lm
 show wpAny _ _ (if (!eO w && (!t.plain && decide (es.size > 1)))=true then _ else _) _ _ _
 by_cases c:(!eO w && (!t.plain && decide (es.size > 1)))=true
 ·rw [if_pos c]
  apply Lk
  refine xR _ _ _ _ Nj fun ps dr pm=>?_
  apply Lk
  refine RV ?_ (by rw [Lp,pm.length_eq,Nj]; exact L8 (Mw sb) (by decide))
  have pz:=Md s.heap { cls:=.type "tuple",data:=.seq (ps.map fun (i:Nat)=>rawInt i).toArray }
  have hs1:=hs.at (h':=s.heap.push { cls:=.type "tuple",data:=.seq (ps.map fun (i:Nat)=>rawInt i).toArray }) fun o e=>Ll _ e
  have tu:(s.heap.push { cls:=.type "tuple",data:=.seq (ps.map fun (i:Nat)=>rawInt i).toArray }).IsTuple s.heap.objs.size (ps.map fun p=>Oh (p:Nat) 0).toArray:=⟨_,Lx _ rfl,rfl,0,rfl⟩
  have kp0:∀ b o,s.heap.get? b=some o->(s.heap.push { cls:=.type "tuple",data:=.seq (ps.map fun (i:Nat)=>rawInt i).toArray }).get? b=some o:=fun b o e=>Ll _ e
  generalize s.heap.push { cls:=.type "tuple",data:=.seq (ps.map fun (i:Nat)=>rawInt i).toArray }=hp at *
  have lt1:a < hp.objs.size:=by rw [pz]; exact MP lt
  have kp:∀ b o,s.heap.get? b=some o->hp.get? b=some o:=kp0
  refine Ca (s:={ s with drawn:=dr,heap:=hp }) hs1 ⟨_,rfl,"set_iterator",_,⟨_,Lx _ rfl,rfl⟩,fJ.lookup,?_⟩
  obtain ⟨ord,p1,p2⟩:=wX pr (l:=ps.map fun p=>es.getD p (0,.none)) (by rw [<-oY es]; exact pm.map _)
  refine q hp.objs.size _ dr [hp.objs.size,a,s.heap.objs.size] _ ord p1 (ul (Je (A:=A) (es:=es) (ep:=ep) (t:=t) calm pm (L9 lt1) (d:=s.heap.objs.size) (L9 (by rw [pz]; exact MX _))) p2) ⟨⟨_,Lx _ rfl,rfl,rfl⟩,hs1.at fun o e=>Ll _ e,tu.push _⟩ (fun b hb=>?_) (fun b hb=>?_) (by rw [pz]; exact Oi _) Lu fun b o e=>Ll _ (kp b o e)
  ·rw [Md]
   rcases Lq.mp hb with e | hb
   ·rw [e]
    exact MX _
   ·rcases Lq.mp hb with e | hb
    ·rw [e]
     exact MP lt1
    ·rw [Ln.mp hb,pz]
     exact MP (MX _)
  ·rcases Lq.mp hb with e | hb
   ·exact .inr (by rw [e,pz]; exact Oi _)
   ·rcases Lq.mp hb with e | hb
    ·exact .inl e
    ·exact .inr (by rw [Ln.mp hb]; exact Lr _)
 ·rw [if_neg c]
  apply Lk
  apply Lm
  refine Ca hs ⟨_,rfl,"set_iterator",_,⟨_,Lx _ rfl,rfl⟩,fJ.lookup,?_⟩
  have it0:dS (s.heap.push (itO (rawInt 0) a es.size ep)) s.heap.objs.size a (.int (0:Nat) 0) 0 es.size ep:=⟨_,Lx _ rfl,rfl,rfl⟩
  have hs0:SAt (s.heap.push (itO (rawInt 0) a es.size ep)) a es ep t:=hs.at fun o e=>Ll _ e
  have inb:∀ b∈[s.heap.objs.size,a],b < (s.heap.push (itO (rawInt 0) a es.size ep)).objs.size:=fun b hb=>by
   rw [Md]
   rcases Lq.mp hb with e | hb
   ·rw [e]
    exact MX _
   ·rw [Ln.mp hb]
    exact MP lt
  have out:∀ b∈[s.heap.objs.size,a],b=a\/s.heap.objs.size<=b:=fun b hb=>by
   rcases Lq.mp hb with e | hb
   ·exact .inr (by rw [e]; exact Lr _)
   ·exact .inl (Ln.mp hb)
  cases b:eO w with
  | true=>
   obtain ⟨ord,p1,p2⟩:=wX pr (rB (w.params.setOrder a ep) es)
   refine q s.heap.objs.size _ s.drawn _ _ ord p1 (ul (Jc (A:=A) (es:=es) (ep:=ep) (t:=t) calm b (L9 lt)) p2) ⟨⟨0,it0⟩,hs0⟩ inb out (Lr _) Lu fun b o e=>Ll _ e
  | false=>
   have pl:(!t.plain && decide (es.size > 1))=false:=by
    rw [b] at c
    simpa using c
   have l1:t.led=true:=by rw [ld,b]; rfl
   obtain ⟨ord,p1,p2⟩:=wX pr (MN.refl es.toList)
   refine q s.heap.objs.size _ s.drawn _ _ ord p1 (ul (Jd (A:=A) (es:=es) (ep:=ep) (t:=t) calm b pl l1 rs sz (L9 lt)) p2) ⟨it0,hs0⟩ inb out (Lr _) Lu fun b o e=>Ll _ e
end
end
section
open PySem.Spec PySem.W
section
variable {prog:Program} {w:World} {K:Type} [DecidableEq K] {knd:KeyKind prog w K} {A:Around} {E:Value->Shared->Prop} {s:Shared} {a:Addr}
theorem GT {Q:Bool->Shared->Prop} (ty:s.TypeIs (.ref a) "set") (q:Q false s):wpAny (model prog w) A (N6 (.ref a)) Q E s:=by
 unfold N6
 apply Lk
 refine MV ty PySem.F.slot_set_len.lookup ?_
 generalize hid:("set.__len__":String)=nm
 wp_delta
 rw [show splitId nm=some ("set","__len__") from by subst hid; decide +kernel]
 subst hid
 apply Lk
 refine Nt (T:="set") (b:=true) ty (by rw [RY]; kernel_rfl) ?_
 refine Ry (fun z=>absurd z (by decide)) fun _=>?_
 refine Ry (fun _=>?_) fun z=>absurd (by decide +kernel) z
 apply Lk
 refine Q7 ty ?_
 exact Lm q
theorem dM.type {ks:List K} {led:Bool} (r:dM knd s.heap a ks led):s.TypeIs (.ref a) "set":=by
 obtain ⟨o,es,ep,t,g1,g2,_⟩:=r
 exact ⟨o,g1,g2.1⟩
theorem dM.small {h:Heap} {ks:List K} {led:Bool} (r:dM knd h a ks led):ks.length < Pd:=by
 obtain ⟨o,es,ep,t,g1,g2,g3,pr,nd,sb,_⟩:=r
 rw [pr.len,Mc]
 exact sb
theorem C8 {ks:List K} {R:Result->Shared->Prop} (calm:A.handled=none) (r:dM knd s.heap a ks (!eO w)) (S:Addr) (ne:S≠a) (hS:s.heap.get? S=some { cls:=.type "list",data:=.seq #[] })
  (q:∀ (s':Shared) h' dr tk ord acc c,s'={ s with heap:=h',drawn:=dr,toks:=tk }->MN ord ks->(∀ b o,b≠S->s.heap.get? b=some o->h'.get? b=some o)->h'.get? S=some { cls:=.type "list",dict:=none,data:=.seq acc c,slots:=#[] }->ItemsOf (dn knd ord) acc ks.length->R (.ok (.ret (.ref S))) s'):
  wpAny (model prog w) A.in1 (MO (.ref S) (.ref a) (.ref S)) (fun fin s'=>match fin with | .done f=>R (.ok f) s' | .again c'=>c'.quiet=true/\codeAny (model prog w) A c' R s') (fun e s'=>R (.error e) s') s:=by
 have hn:ks.length<=Lz:=L8 (Mw r.small) (by decide)
 unfold MO
 apply Lk
 refine Q7 (T:="set") r.type ?_
 have h1:Os (.ref S) (.ref a)=false:=by simp [Os,ne]
 have h2:(MI "set" == MI "list")=false:=by decide
 have h3:(MI "set" == MI "tuple")=false:=by decide
 simp only [h1,h2,h3,Bool.or_false,MB,if_false]
 apply Lk
 refine GS (A:=A.in1) calm r fun I h' dr fp St ord pm W st inb out ge Ifp kp=>?_
 have hS1:=kp _ _ hS
 have lS:S < s.heap.objs.size:=Lv hS
 have r1:dM knd h' a ks (!eO w):=r.at fun o e=>kp a o e
 have nS:S∉fp:=fun hm=>by
  rcases out S hm with z | z
  ·exact ne z
  ·exact absurd lS (QY.mpr z)
 have loop:∀ (h2:Heap) (c:Nat),(∀ b o,b≠S->h'.get? b=some o->h2.get? b=some o)->h2.get? S=some { cls:=.type "list",dict:=none,data:=.seq #[] c,slots:=#[] }->codeAny (model prog w) A (.builtin "list.extend.loop" ⟨[.ref S,.ref I,.ref S],[]⟩) R { s with heap:=h2,drawn:=dr }:=fun h2 c k2 e2=>by
  refine codeAny_extend_loopS W.toS hn S nS (.ref S) ks.length 0 _ #[] c rfl (Mv _) (W.frame 0 _ _ st fun b hb o e=>k2 b o (fun z=>nS (z ▸ hb)) e) e2 (ItemsOf.nil _) fun s' acc c' mv e3 it=>?_
  rw [Moved.eq_with mv]
  refine q _ s'.heap dr s'.toks ord acc c' rfl pm (fun b o hb e=>mv.heap b o (fun hm=>?_) (k2 b o hb (kp b o e))) e3 it
  rcases Lq.mp hm with z | hm
  ·exact hb z
  ·rw [Ln.mp hm] at e
   exact absurd (Lv e) (QY.mpr ge)
 apply Lk
 apply ME
 refine GT (s:={ s with heap:=h',drawn:=dr }) r1.type ?_
 refine Ry (fun _=>?_) fun _=>?_
 ·apply Lk
  apply NL
  apply Lk
  show wpAny _ _ (Qy S (·.push .none) >>= fun _=>Qy S (·.pop)) _ _ _
  apply Lk
  refine OE hS1 rfl ?_
  have hS2:=Mt (MJ (·.push MH)) hS1 rfl
  refine OE (hz:=by seq_fits) hS2 rfl ?_
  have hS3:=Mt (MJ (·.pop)) hS2 rfl
  refine Lm ⟨Oz Np _,loop _ _ (fun b o hb e=>?_) hS3⟩
  rw [MZ _ _ (MR hb),MZ _ _ (MR hb)]
  exact e
 ·exact Lm ⟨Oz Np _,loop _ _ (fun b o hb e=>e) hS1⟩
theorem Br {ks:List K} {R:List Value->Shared->Prop} (calm:A.handled=none) (r:dM knd s.heap a ks (!eO w))
  (q:∀ h' dr tk ord (acc:Array Value),MN ord ks->(∀ b o,s.heap.get? b=some o->h'.get? b=some o)->s.heap.objs.size < h'.objs.size->ItemsOf (dn knd ord) acc ks.length->R acc.toList { s with heap:=h',drawn:=dr,toks:=tk }):
  wpAny (model prog w) A (collect (.ref a)) R E s:=by
 have lt:a < s.heap.objs.size:=by
  obtain ⟨o,es,ep,t,g1,_⟩:=r
  exact Lv g1
 unfold collect
 apply Lk
 apply wpAny_runValue
 apply NV entry_proto_collect'
 rw [Ny PySem.F.plain_proto_collect _]
 show wpAny _ A.in1 (newList [] >>= fun l=>again (.builtin "list.__iadd__" ⟨[l,.ref a],[]⟩)) _ _ s
 apply Lk
 refine Mx ?_
 refine Lm ⟨Oz Rm _,?_⟩
 apply NV entry_list_iadd'
 rw [Ny Rm _]
 show wpAny _ A.in1 (MO (.ref s.heap.objs.size) (.ref a) (.ref s.heap.objs.size)) _ _ _
 have key:=C8 (A:=A) (s:={ s with heap:=s.heap.push { cls:=.type "list",data:=.seq ([]:List Value).toArray } })
  (R:=fun (u:Result) (s':Shared)=>∃ h' dr tk ord acc c,u=.ok (.ret (.ref s.heap.objs.size))/\s'={ s with heap:=h',drawn:=dr,toks:=tk }/\MN ord ks/\(∀ b o,s.heap.get? b=some o->h'.get? b=some o)/\
   h'.get? s.heap.objs.size=some { cls:=.type "list",dict:=none,data:=.seq acc c,slots:=#[] }/\ItemsOf (dn knd ord) acc ks.length)
  calm (r.at fun o e=>Ll _ e) s.heap.objs.size (Nc lt) (Lx _ rfl)
  fun s' h' dr tk ord acc c e pm kp e3 it=>⟨h',dr,tk,ord,acc,c,rfl,e,pm,fun b o eb=>kp b o (L9 (Lv eb)) (Ll _ eb),e3,it⟩
 refine M1 key (fun fin s' x=>?_) fun e s' x=>?_
 ·cases fin with
  | done f=>
   obtain ⟨h',dr,tk,ord,acc,c,e,rfl,pm,kp,e3,it⟩:=x
   cases e
   show wpAny _ A (load s.heap.objs.size >>= _) _ _ _
   apply Lk
   refine TU e3 ?_
   exact Lm (q h' dr tk ord acc pm kp (Lv e3) it)
  | again c1=>
   refine ⟨x.1,Om x.2 fun u s2 y=>?_⟩
   obtain ⟨h',dr,tk,ord,acc,c,rfl,rfl,pm,kp,e3,it⟩:=y
   show wpAny _ A (load s.heap.objs.size >>= _) _ _ _
   apply Lk
   refine TU e3 ?_
   exact Lm (q h' dr tk ord acc pm kp (Lv e3) it)
 ·obtain ⟨h',dr,tk,ord,acc,c,e',_⟩:=x
  cases e'
end
end
section
open PySem.Spec
section
variable {X:Cx}
end
end
section
open PySem.Spec
section
variable {prog:Program} {w:World} {A:Around} {R:Result->Shared->Prop} {I:Addr} {fp wr:List Addr} {n:Nat} {P:Nat->Value->Prop} {St:Nat->Heap->Prop} {kw:List (Str×Value)}
end
end
section
open PySem.Spec
section
variable {prog:Program} {w:World} {A:Around} {E:Value->Shared->Prop} {s:Shared}
end
end
section
open PySem.Spec
section
variable {X:Cx}
end
end
section
open PySem.Calls
section
variable {X:Cx}
end
end
section
open PySem.Spec PySem.Calls
section
variable {prog:Program} {w:World} {A:Around} {E:Value->Shared->Prop} {s:Shared} {a:Addr}
theorem xS:∀ {ord:List Int} {l:List Value},l.length=ord.length->(∀ i v,l[i]?=some v->dn (intKind prog w) ord i v)->IntsAre l ord
 | [],[],_,_=>.nil
 | [],_ :: _,h,_=>nomatch h
 | _ :: _,[],h,_=>nomatch h
 | k :: ord,v :: l,h,t=>by
  obtain ⟨k',hk,hv⟩:=t 0 v rfl
  obtain rfl:k=k':=LF hk
  obtain ⟨tk,rfl⟩:=SQ hv
  exact .cons k tk (xS (Nat.succ.inj h) fun i u hu=>t (i + 1) u hu)
theorem C9 {ks:List Int} {Q:Value->Shared->Prop} (calm:A.handled=none) (r:dM (intKind prog w) s.heap a ks (!eO w)) (h64:ks.length < 64)
  (q:∀ (p:Addr) (h':Heap) (dr) (tk:Nat) (out:Array Value) (e:Nat) (ms:List Int),(∀ b o,s.heap.get? b=some o->h'.get? b=some o)->s.heap.objs.size<=p->h'.get? p=some (seqObj "list" out e)->IntsAre out.toList ms->ms.Perm ks->ms.Pairwise (·<=·)->Q (.ref p) { s with heap:=h',drawn:=dr,toks:=tk }):
  wpAny (model prog w) A (call (.builtin "sorted") [.ref a]) Q E s:=by
 refine call_function_entry kind_sorted plain_sorted entry_sorted (args_sorted1 _) ?_
 unfold Builtin.«sorted»
 refine Lk (m:=checkCount "sorted" 1 1 _) (Lm ?_)
 apply Lk
 refine Br (A:=A.in1) calm r fun h' dr tk ord acc pm kp gt it=>?_
 have len:acc.toList.length=ks.length:=by rw [Mc]; exact it.1
 have ia:IntsAre acc.toList ord:=xS (by rw [len,pm.length_eq]) fun i v e=>it.2 i v (by rw [<-Oa]; exact e)
 apply Lk
 refine wpAny_newList ?_ (by rw [len]; exact L8 (Mw h64) (by decide))
 have hoL:(h'.push (seqObj "list" acc.toList.toArray 0)).get? h'.objs.size=some (seqObj "list" acc.toList.toArray 0):=Lx _ rfl
 have ge:s.heap.objs.size<=h'.objs.size:=Mw gt
 apply Lk
 apply ME
 refine Mh slot_list_sort ⟨_,hoL,rfl⟩ entry_list_sort ?_ (args_list_sort _)
 refine list_sort_tree hoL ia (by rw [len]; exact h64) fun out ms a1 a2 a3=>⟨_,rfl,?_⟩
 obtain ⟨e,he⟩:=sortedHeap_at (n:=0) (vs:=acc.toList) (out:=out) hoL
 refine Lm ⟨_,rfl,q _ _ dr tk out e ms (fun b o eb=>?_) ge he a1 (a2.trans pm) a3⟩
 have hb:=Lv eb
 rw [sortedHeap_old (L9 (LN hb ge)) (by rw [size_push']; exact MP (LN hb ge))]
 exact Ll _ (kp b o eb)
end
section
variable {X:Cx}
theorem Inv.drew {pins:List (Addr×Obj)} {σ:St} {H:Hp} {s:Shared} (I:Inv X pins σ H s) (dr):Inv X pins σ H { s with drawn:=dr }:=by
 cases I
 constructor <;> assumption
end
end
section
open PySem.Spec PySem.Calls
theorem Cb:∀ {l:List Value} {ns:List Int} {i:Nat} {v:Value},IntsAre l ns->l[i]?=some v->∃ t,v=.int (ns.getD i 0) t
 | _,_,_,_,.nil,e=>nomatch e
 | _,_,0,_,.cons n t _,e=>⟨t,(LF e).symm⟩
 | _,_,i + 1,_,.cons n t h,e=>by
  obtain ⟨t',e'⟩:=Cb (i:=i) h e
  exact ⟨t',e'⟩
section
variable {X:Cx}
theorem Da {e:Expr} {p p2 pos pos2:Pos} {t:TA} (hc:X.calm=true) (hm:X.mg "sorted"=none) (hm2:X.mg "set"=none) (ha:PA X [e] t) (hg:Gl X "sorted":=by rfl) (hg2:Gl X "set":=by rfl)
  (he:LP [e] X.env=(false,eval e X.env) :: LP [] X.env:=by rfl) (hpl:(backTo pos2 (LP [] X.env)).any (·.1)=false:=by rfl)
  (he1:LP [.Call (.Name "set" p2) [e] [] pos2] X.env=(false,eval (.Call (.Name "set" p2) [e] [] pos2) X.env) :: LP [] X.env:=by rfl) (hpl1:(backTo pos (LP [] X.env)).any (·.1)=false:=by rfl):
  PE X (.Call (.Name "sorted" p) [.Call (.Name "set" p2) [e] [] pos2] [] pos) (ug X.K t):=by
 intro pins s σ H Q I h
 refine NM (iz I hg hm boot_sorted ?_ (by decide) (by decide))
 refine PR ?_ he1 hpl1
 rw [he1]
 show wpAny _ _ (spliced ((false,eval (.Call (.Name "set" p2) [e] [] pos2) X.env) :: backTo pos (LP [] X.env))) _ _ s
 refine Qq ?_
 refine NM (iz I hg2 hm2 boot_set ?_ (by decide) (by decide))
 refine MM (thn (ha pos2 pins s σ H _ I h) fun us s1 ⟨vs,H1,I1,r1,q1⟩=>?_) he hpl
 obtain ⟨l,ns,rfl,hq,hl,q⟩:=q1
 obtain ⟨u,rfl,rx⟩:=r1.one
 cases rx
 obtain ⟨its,rv,pl,hz⟩:=I1.list hq
 have hi:=oN rv
 have hlen:its.length=ns.length:=by have:=rv.length; rw [Lp] at this; omega
 have calm:X.A.handled=none:=I.ok.hd hc
 refine IZ (knd:=intKind X.prog X.w) (fun i=>ns.getD i 0) calm pl.isList (fun i v hv=>?_) (by rw [LK,hlen]; exact OA (Nat.succ_le_of_lt hl) (by decide)) fun h' tk ks r mem kp=>?_
 ·rw [RZ] at hv
  obtain ⟨tk,rfl⟩:=Cb hi hv
  exact ⟨by first | simp [intKind,Rz] | (unfold intKind; simp [Rz]),rfl⟩
 have memI:∀ y,y∈ks↔y∈ns:=fun y=>by
  rw [mem,LK,hlen]
  constructor
  ·rintro ⟨j,hj,rfl⟩
   rw [LJ,Lo hj]
   exact Oq hj
  ·intro hy
   obtain ⟨j,hj,rfl⟩:=List.getElem_of_mem hy
   refine ⟨j,hj,?_⟩
   rw [LJ,Lo hj]
   rfl
 have nd:ks.Nodup:=by
  obtain ⟨o,es,ep,t,g1,g2,g3,pr,nd,_⟩:=r
  exact nd
 refine QN ?_
 refine C9 calm r (OA (Ae nd fun y hy=>(memI y).mp hy) hl) fun q' h2 dr tk2 out ex ms kp2 ge hx a1 a2 a3=>?_
 have kk:∀ b o,s1.heap.get? b=some o->h2.get? b=some o:=fun b o eb=>kp2 b o (kp b o (Lv eb) eb)
 have ge1:s1.heap.objs.size<=q':=by
  obtain ⟨o,es,ep,t,g1,_⟩:=r
  exact Mw (LN (Lv g1) ge)
 have hf:H1 q'=none:=I1.hok.fresh ge1
 have nm:ms.Nodup:=a2.nodup_iff.mpr nd
 have ml:ms.length < 64:=by
  rw [a2.length_eq]
  exact OA (Ae nd fun y hy=>(memI y).mp hy) hl
 refine ⟨.ref q',_,(I1.laid (t':=tk2) (o:=.lst (ms.map V.int)) kk ge1 ?_).drew dr,rfl,q _ _ ms hf (bf hf _) az ?_ fun y=>?_⟩
 ·exact ⟨by rw [Lp,Lw]; omega,out.toList,ex,qG a1,by rw [hx,Array.toArray_toList]⟩
 ·exact (a3.and nm).imp fun ⟨z1,z2⟩=>by omega
 ·rw [a2.mem_iff,memI]
end
end
noncomputable def dkP (kvs:List (Key×V)) (i:Int) (v:V):List (Key×V):=
 if (kvs.any fun kv=>decide (kv.1=(Ng i:Key)))=true then kvs.map (fun kv=>if kv.1=(Ng i:Key) then (kv.1,v) else kv) else kvs++[((Ng i:Key),v)]
noncomputable def DkI (kvs:List (Key×V)):Prop:=∀ p∈kvs,∃ i:Int,p.1=Ng i
theorem DkI.put {kvs:List (Key×V)} (h:DkI kvs) (i:Int) (v:V):DkI (dkP kvs i v):=by
 unfold dkP
 split
 ·intro p hp
  obtain ⟨q,hq,rfl⟩:=MC.mp hp
  by_cases e:q.1=Ng i
  ·rw [if_pos e]; exact ⟨i,e⟩
  ·rw [if_neg e]; exact h q hq
 ·intro p hp
  rcases LR.mp hp with hp | hp
  ·exact h p hp
  ·rw [Ln.mp hp]; exact ⟨i,rfl⟩
section
variable {σ:St} {H:Hp} {Q:VK} {a:Addr} {kvs:List (Key×V)} {i:Int} {v:V}
end
section
variable {g:CF TG} {tt:CF TT} {te:CF TE} {σ₀:St} {Q:VK} {H:Hp}
end
section
open PySem.Spec
section
variable {X:Cx}
end
end
section
open PySem.Spec
section
variable {X:Cx}
end
end
section
open PySem.Spec
section
variable {X:Cx}
theorem Fq:cF X (.type "range") HI:=by
 intro pins s σ H xs us Q I r h
 obtain ⟨n,rfl,hn,q⟩:=h
 obtain ⟨u,rfl,rx⟩:=oK r
 obtain ⟨t,rfl⟩:=rx
 exact call_range_1 ⟨.ref s.heap.objs.size,_,I.laid (a:=s.heap.objs.size) (o:=.rng 0 (n:Int)) (t':=s.toks + 1 + 1) (fun _ _ q=>Ll _ q) (Lr _) ⟨_,_,_,Lx _ rfl⟩,rfl,q.upd _ (I.hok.fresh (Lr _))⟩
theorem Fs {n:Nat} {acc:Array Value} (h:ItemsOf (fun i v=>∃ t,v=.int ((0:Int) + i * 1) t) acc n):aH ((LU n).map fun (i:Nat)=>V.int ((i:Nat):Int)) acc.toList:=by
 obtain ⟨hl,hi⟩:=h
 have go:∀ (xs:List V) (us:List Value),xs.length=us.length->(∀ (j:Nat) (x:V) (u:Value),xs[j]?=some x->us[j]?=some u->aK x u)->aH xs us:=by
  intro xs
  induction xs with
  | nil=>intro us hl _; cases us with
   | nil=>exact .nil
   | cons _ _=>simp at hl
  | cons x r ih=>intro us hl h; cases us with
   | nil=>simp at hl
   | cons u t=>exact .cons (h 0 x u rfl rfl) (ih t (by simpa using hl) fun j x u hx hu=>h (j + 1) x u hx hu)
 refine go _ _ (by simp [hl]) fun j x u hx hu=>?_
 rw [LD] at hx
 cases e:(LU n)[j]? with
 | none=>rw [e] at hx; cases hx
 | some z=>
  rw [e] at hx
  cases hx
  obtain ⟨h1,h2⟩:=Ls.mp e
  rw [Qw] at h2
  subst h2
  obtain ⟨t,rfl⟩:=hi j u (by rw [<-Oa]; exact hu)
  exact ⟨t,by simp⟩
theorem Ft (hc:X.calm=true):cF X (.type "list") yS:=by
 intro pins s σ H xs us Q I r h
 obtain ⟨p,n,rfl,e,hn,q⟩:=h
 obtain ⟨u,rfl,rx⟩:=oK r
 cases rx
 obtain ⟨t,u,v,hr⟩:=(show bH X.prog X.w H s.heap p (.rng 0 (n:Int)) from I.hok p _ e)
 refine call_list_range (n:=n) (show X.A.handled=none from I.ok.hd hc) hr (small_one (by omega) (by omega) (by omega) (by omega)) ?_ (by omega) fun h' tk acc' c' kp e' it=>?_
 ·rw [rangeSize_one]; split <;> omega
 ·exact ⟨.ref s.heap.objs.size,_,I.laid (t':=tk) kp (Lr _) (show bH X.prog X.w _ h' _ (.lst _) from ⟨by rw [Lp,Nj,Lw]; omega,acc'.toList,c',Fs it,by simpa using e'⟩),rfl,q.upd _ (I.hok.fresh (Lr _))⟩
end
end
section
open PySem.Spec
noncomputable abbrev mw (h:Heap) (z TI TO:Addr) (f0:Value) (f:Bool):Prop:=
 h.get? z=some { cls:=.type "zip",dict:=none,data:=.fields #[f0,.bool f,.bool false,.ref TI,.ref TO],slots:=#[] }
section
variable {prog:Program} {w:World} {A:Around} {E:Value->Shared->Prop} {s:Shared}
theorem vD {z TI TO a:Addr} {f:Bool} {oa:Obj} {Q:Bool->Shared->Prop} (hz:mw s.heap z TI TO (rawInt a) f) (ha:s.heap.get? a=some oa) (h:∀ g1,mw g1 z TI TO (rawInt a) true->LM z s.heap g1->Q false { s with heap:=g1 }):
  wpAny (model prog w) A (Mm (.ref z)) Q E s:=by
 obtain ⟨hp,g,d,tk₀,os⟩:=s
 unfold Mm
 refine Lk (My hz rfl (x:=rawInt a) rfl ?_)
 show wpAny _ _ (loadIfAlive ((a:Int).toNat) >>= _) _ _ _
 rw [OK]
 refine Lk (PySem.W.kdx_alive ha ?_)
 simp only [Option.isNone_some,MB,if_false]
 refine Lk (My hz rfl (x:=.bool f) rfl ?_)
 cases f with
 | true=>
  rw [if_neg (show ¬ ((ML true != ML true)=true) from LB)]
  exact Lm (h hp hz (S7 _ _))
 | false=>
  rw [if_pos (show (ML false != ML true)=true from rfl)]
  exact Lk (NN hz (by simp) fun h₃ he₃ hs₃=>Lm (h h₃ he₃ hs₃))
theorem Fu {z TI TO j1 j2 a:Addr} {f:Bool} {oa:Obj} {fp1 fp2:List Addr} {n1 n2 k:Nat} {P1 P2:Nat->Value->Prop} {S1 S2:Nat->Heap->Prop} {Q:Value->Shared->Prop} (Z:jk z TI TO j1 j2 fp1 fp2)
  (D1:Draws prog w A j1 fp1 n1 P1 S1) (D2:Draws prog w A j2 fp2 n2 P2 S2) (hz:mw s.heap z TI TO (rawInt a) f) (ha:s.heap.get? a=some oa) (hTI:IsPair s.heap TI (.ref j1) (.ref j2)) (h1:S1 k s.heap) (h2:S2 k s.heap) (l1:k < n1) (l2:k < n2)
  (hQ:∀ x y h' tk,P1 k x->P2 k y->mw h' z TI TO (rawInt a) true->S1 (k + 1) h'->S2 (k + 1) h'->IsPair h' s.heap.objs.size x y->
   (∀ c o,c∉[z,j1,j2]->s.heap.get? c=some o->h'.get? c=some o)->Q (.ref s.heap.objs.size) { s with heap:=h',toks:=tk }):
  wpAny (model prog w) A (Builtin.«zip.__next__» ⟨[.ref z],[]⟩) (fun fin s'=>∃ v,fin=.done (.ret v)/\Q v s') E s:=by
 obtain ⟨hp,g,d,tk₀,os⟩:=s
 show wpAny _ _ (field (.ref z) 2 >>= _) _ _ _
 refine Lk (My hz rfl (x:=.bool false) rfl ?_)
 show wpAny _ _ (field (.ref z) 3 >>= _) _ _ _
 refine Lk (My hz rfl (x:=.ref TI) rfl ?_)
 refine Lk (MD hTI rfl ?_)
 show wpAny _ _ (Mm (.ref z) >>= _) _ _ _
 refine Lk (vD hz ha fun g1 hz1 hs1=>?_)
 replace hs1:LM z hp g1:=hs1
 simp only [MB,if_false]
 refine Lk ?_
 rw [<-OC]
 simp only [O2,Pf]
 refine Lk ?_
 refine Lk (ME ?_)
 show wpAny _ _ (Mi (.ref j1) >>= _) _ _ _
 refine Lk (D1.item k ⟨g1,g,d,tk₀,os⟩ _ _ l1 (D1.but h1 hs1 Z.b1) fun x g2 tk1 px st1 hs2=>Lm ?_)
 replace hs2:LM j1 g1 g2:=hs2
 refine Lm ?_
 refine Lk ?_
 refine Lk (ME ?_)
 show wpAny _ _ (Mi (.ref j2) >>= _) _ _ _
 refine Lk (D2.item k ⟨g2,g,d,tk1,os⟩ _ _ l2 (D2.but (D2.but h2 hs1 Z.b4) hs2 Z.b6) fun y g3 tk2 py st2 hs3=>Lm ?_)
 replace hs3:LM j2 g2 g3:=hs3
 refine Lm ?_
 refine Lm ?_
 show wpAny _ _ (Tu [x,y] >>= fun r=>ret r) _ _ _
 have hsz:g3.objs.size=hp.objs.size:=by rw [hs3.1,hs2.1,hs1.1]
 refine Lk (RV (Lm ⟨_,rfl,?_⟩))
 have up:∀ c o,g3.get? c=some o->(g3.push { cls:=.type "tuple",data:=.seq #[x,y] }).get? c=some o:=fun c o e=>Ll _ e
 have hz3:mw g3 z TI TO (rawInt a) true:=hs3.extBut _ _ Z.a4.symm (hs2.extBut _ _ Z.a3.symm hz1)
 have hT:IsPair (g3.push { cls:=.type "tuple",data:=.seq #[x,y] }) hp.objs.size x y:=by rw [<-hsz]; exact Lx _ rfl
 show Q (.ref g3.objs.size) _
 rw [hsz]
 refine hQ x y _ tk2 px py (up _ _ hz3) (D1.frame _ _ _ (D1.but st1 hs3 Z.b3) fun c _ o e=>up c o e) (D2.frame _ _ _ st2 fun c _ o e=>up c o e) hT fun c o hc e=>?_
 simp only [Lq,Mp,or_false,not_or] at hc
 exact up c o (hs3.extBut _ _ hc.2.2 (hs2.extBut _ _ hc.2.1 (hs1.extBut _ _ hc.1 e)))
theorem GU {z TI TO j1 j2 a:Addr} {f:Bool} {oa:Obj} {fp1 fp2:List Addr} {n1 n2 k:Nat} {P1 P2:Nat->Value->Prop} {S1 S2:Nat->Heap->Prop} {Q:Fin->Shared->Prop} (Z:jk z TI TO j1 j2 fp1 fp2)
  (D1:Draws prog w A j1 fp1 n1 P1 S1) (D2:Draws prog w A j2 fp2 n2 P2 S2) (hz:mw s.heap z TI TO (rawInt a) f) (ha:s.heap.get? a=some oa) (hTI:IsPair s.heap TI (.ref j1) (.ref j2)) (h1:S1 k s.heap) (h2:S2 k s.heap) (l:k=min n1 n2)
  (hE:∀ h' e tk,(∀ c o,c∉[z,TI,TO,j1,j2]->s.heap.get? c=some o->h'.get? c=some o)->(∃ o,h'.get? e=some o/\o.cls=.type "StopIteration")->E (.ref e) { s with heap:=h',toks:=tk }):
  wpAny (model prog w) A (Builtin.«zip.__next__» ⟨[.ref z],[]⟩) Q E s:=by
 obtain ⟨hp,g,d,tk₀,os⟩:=s
 have kp:∀ {h':Heap},(∀ c o,c≠z->c≠j1->c≠j2->hp.get? c=some o->h'.get? c=some o)->∀ c o,c∉[z,TI,TO,j1,j2]->hp.get? c=some o->h'.get? c=some o:=fun {h'} q c o hc e=>by
  simp only [Lq,Mp,or_false,not_or] at hc
  exact q c o hc.1 hc.2.2.2.1 hc.2.2.2.2 e
 show wpAny _ _ (field (.ref z) 2 >>= _) _ _ _
 refine Lk (My hz rfl (x:=.bool false) rfl ?_)
 show wpAny _ _ (field (.ref z) 3 >>= _) _ _ _
 refine Lk (My hz rfl (x:=.ref TI) rfl ?_)
 refine Lk (MD hTI rfl ?_)
 show wpAny _ _ (Mm (.ref z) >>= _) _ _ _
 refine Lk (vD hz ha fun g1 hz1 hs1=>?_)
 replace hs1:LM z hp g1:=hs1
 simp only [MB,if_false]
 refine Lk ?_
 rw [<-OC]
 simp only [O2,Pf]
 refine Lk ?_
 refine Lk (ME ?_)
 show wpAny _ _ (Mi (.ref j1) >>= _) _ _ _
 by_cases hk:k=n1
 ·subst hk
  refine Lk (D1.done ⟨g1,g,d,tk₀,os⟩ _ _ (D1.but h1 hs1 Z.b1) fun g2 e hs2 he=>?_)
  replace hs2:OZ j1 g1 g2:=hs2
  exact hE g2 e tk₀ (kp fun c o c1 c2 _ q=>hs2 _ _ c2 (hs1.extBut _ _ c1 q)) he
 ·have hlt:k < n1:=by omega
  have hk2:k=n2:=by omega
  refine Lk (D1.item k ⟨g1,g,d,tk₀,os⟩ _ _ hlt (D1.but h1 hs1 Z.b1) fun x g2 tk1 px st1 hs2=>Lm ?_)
  replace hs2:LM j1 g1 g2:=hs2
  refine Lm ?_
  refine Lk ?_
  refine Lk (ME ?_)
  show wpAny _ _ (Mi (.ref j2) >>= _) _ _ _
  subst hk2
  refine Lk (D2.done ⟨g2,g,d,tk1,os⟩ _ _ (D2.but (D2.but h2 hs1 Z.b4) hs2 Z.b6) fun g3 e hs3 he=>?_)
  replace hs3:OZ j2 g2 g3:=hs3
  exact hE g3 e tk1 (kp fun c o c1 c2 c3 q=>hs3 _ _ c3 (hs2.extBut _ _ c2 (hs1.extBut _ _ c1 q))) he
noncomputable def ZSt (h:Heap) (z TI TO S:Addr) (i:Nat) (far:Addr->Prop):Prop:=(i=0/\IsZip h z TI TO .none/\∃ u v,IsPair h TO u v)\/∃ (a:Addr) (f:Bool) (oa:Obj),mw h z TI TO (rawInt a) f/\h.get? a=some oa/\far a/\a≠S
noncomputable def ZTs (P1 P2:Nat->Value->Prop) (lo:Addr) (h:Heap) (ts:List Addr):Prop:=∀ (j:Nat) (t:Addr),ts[j]?=some t->lo<=t/\∃ x y,P1 j x/\P2 j y/\IsPair h t x y
end
section
variable {prog:Program} {w:World} {A:Around} {s:Shared} {R:Result->Shared->Prop}
theorem GV {z TI TO j1 j2 S lo:Addr} {fp1 fp2:List Addr} {n1 n2:Nat} {P1 P2:Nat->Value->Prop} {S1 S2:Nat->Heap->Prop} (hh:A.handled=none) (Z:jk z TI TO j1 j2 fp1 fp2)
  (D1:Draws prog w A.in1.in1 j1 fp1 n1 P1 S1) (D2:Draws prog w A.in1.in1 j2 fp2 n2 P2 S2) (hn:min n1 n2<=Lz) (hS:S∉[z,TI,TO,j1,j2]) (hS1:S∉fp1) (hS2:S∉fp2) (hlo:∀ c∈[z,TI,TO,j1,j2,S],c < lo) (hlo1:∀ c∈fp1,c < lo) (hlo2:∀ c∈fp2,c < lo) (res:Value) {h₁:Heap}
  (hR:∀ h' tk acc c ts,(∀ b o,b∉[z,TI,TO,j1,j2]->b≠S->h₁.get? b=some o->h'.get? b=some o)->h'.get? S=some { cls:=.type "list",dict:=none,data:=.seq acc c,slots:=#[] }->ts.length=min n1 n2->ZTs P1 P2 lo h' ts->
   acc.toList=ts.map LZ->R (.ok (.ret res)) { s with heap:=h',toks:=tk }):
  ∀ (m i:Nat) (h:Heap) (tk c:Nat) (acc:Array Value) (ts:List Addr),min n1 n2 - i=m->i<=min n1 n2->ZSt h z TI TO S i (fun a=>lo<=a)->IsPair h TI (.ref j1) (.ref j2)->S1 i h->S2 i h->(∀ b o,b∉[z,TI,TO,j1,j2]->b≠S->h₁.get? b=some o->h.get? b=some o)->
   h.get? S=some { cls:=.type "list",dict:=none,data:=.seq acc c,slots:=#[] }->acc.toList=ts.map LZ->ts.length=i->ZTs P1 P2 lo h ts->lo<=h.objs.size->
   codeAny (model prog w) A (.builtin "list.extend.loop" ⟨[.ref S,.ref z,res],[]⟩) R { s with heap:=h,toks:=tk }:=by
 have notin:∀ t,lo<=t->t∉[z,TI,TO,j1,j2]/\t≠S/\t∉fp1/\t∉fp2:=fun t ht=>⟨fun hm=>by
  have:=hlo t (show t∈[z,TI,TO,j1,j2]++[S] from MT _ hm)
  exact absurd ht (Qb.mpr this),fun e=>by
  have:=hlo S (by simp)
  rw [e] at ht
  exact absurd ht (Qb.mpr this),fun hm=>absurd ht (Qb.mpr (hlo1 t hm)),fun hm=>absurd ht (Qb.mpr (hlo2 t hm))⟩
 intro m
 induction m with
 | zero=>
  intro i h tk c acc ts hk hi hst hTI st1 st2 hkeep hSS hacc hal hG hls
  have hin:i=min n1 n2:=by omega
  refine NV Q1 ?_
  rw [Ny Np _]
  show wpAny _ A.in1 (pyNext (.ref z) >>= _) _ _ _
  have done:∀ h':Heap,∀ tk',(∀ c o,c∉[z,TI,TO,j1,j2]->h.get? c=some o->h'.get? c=some o)->R (.ok (.ret res)) { s with heap:=h',toks:=tk' }:=fun h' tk' kp=>by
   refine hR h' tk' acc c ts (fun b o h1 h2 e=>kp b o h1 (hkeep b o h1 h2 e)) (kp S _ hS hSS) (by omega) (fun j t hj=>?_) hacc
   obtain ⟨hlt,x,y,p1,p2,e⟩:=hG j t hj
   exact ⟨hlt,x,y,p1,p2,kp t _ (notin t hlt).1 e⟩
  have hT:Sm { s with heap:=h,toks:=tk } (.ref z) "zip":=by
   rcases hst with ⟨_,hz,_⟩ | ⟨a,f,oa,hz,_⟩
   ·exact ⟨_,hz,rfl⟩
   ·exact ⟨_,hz,rfl⟩
  unfold pyNext
  refine Lk (Lk (Od (Mq (name:=Nq "__next__") hT NT (Mh NT hT PC ?_ (Pm _)))))
  rcases hst with ⟨_,hz,u,v,hTO⟩ | ⟨a,f,oa,hz,ha,_,_⟩
  ·refine zu (s:={ s with heap:=h,toks:=tk }) Z D1 D2 hz hTI hTO st1 st2 hin fun h' e tk' kp he=>?_
   obtain ⟨o,ho,hcl⟩:=he
   exact Lk (Nt (T:="StopIteration") (b:=true) ⟨o,ho,hcl⟩ Pg (Lm (Lm (done h' tk' kp))))
  ·refine GU (s:={ s with heap:=h,toks:=tk }) Z D1 D2 hz ha hTI st1 st2 hin fun h' e tk' kp he=>?_
   obtain ⟨o,ho,hcl⟩:=he
   exact Lk (Nt (T:="StopIteration") (b:=true) ⟨o,ho,hcl⟩ Pg (Lm (Lm (done h' tk' kp))))
 | succ m ih=>
  intro i h tk c acc ts hk hi hst hTI st1 st2 hkeep hSS hacc hal hG hls
  have hlt:i < min n1 n2:=by omega
  have hsz:acc.size=i:=by rw [<-Mc,hacc,Lp,hal]
  refine NV Q1 ?_
  rw [Ny Np _]
  show wpAny _ A.in1 (pyNext (.ref z) >>= _) _ _ _
  have hT:Sm { s with heap:=h,toks:=tk } (.ref z) "zip":=by
   rcases hst with ⟨_,hz,_⟩ | ⟨a,f,oa,hz,_⟩
   ·exact ⟨_,hz,rfl⟩
   ·exact ⟨_,hz,rfl⟩
  have item:∀ (h':Heap) (tk':Nat) (x y:Value),P1 i x->P2 i y->ZSt h' z TI TO S (i + 1) (fun a=>lo<=a)->S1 (i + 1) h'->S2 (i + 1) h'->IsPair h' h.objs.size x y->(∀ c o,c∉[z,TO,j1,j2]->h.get? c=some o->h'.get? c=some o)->
    wpAny (model prog w) A.in1 (Rn (.ref S) (·.push (LZ h.objs.size)) >>= fun _=>again (.builtin "list.extend.loop" ⟨[.ref S,.ref z,res],[]⟩)) (fun fin s'=>match fin with | .done f=>R (.ok f) s' | .again c'=>c'.quiet=true/\codeAny (model prog w) A c' R s') (fun e s'=>R (.error e) s') { s with heap:=h',toks:=tk' }:=by
   intro h' tk' x y px py hst' st1' st2' ht kp
   have sub:∀ c,c∉[z,TI,TO,j1,j2]->c∉[z,TO,j1,j2]:=fun c hc hm=>hc (by
    simp only [Lq,Mp,or_false] at hm ⊢
    rcases hm with e | e | e | e
    ·exact .inl e
    ·exact .inr (.inr (.inl e))
    ·exact .inr (.inr (.inr (.inl e)))
    ·exact .inr (.inr (.inr (.inr e))))
   have hS':=kp S _ (sub S hS) hSS
   have up:∀ b o,b≠S->h'.get? b=some o->(h'.update S (MJ (·.push (LZ h.objs.size)))).get? b=some o:=fun b o hb e=>(MZ _ _ (MR hb)).trans e
   have hSl:S < h.objs.size:=Lv hSS
   have zS:∀ c∈[z,TI,TO,j1,j2],c≠S:=fun c hc e=>hS (by rw [<-e]; exact hc)
   have hTI':IsPair h' TI (.ref j1) (.ref j2):=kp TI _ (by
    simp only [Lq,Mp,or_false,not_or]
    exact ⟨Z.a1,Z.a5,Z.a6,Z.a7⟩) hTI
   show wpAny _ A.in1 (Qy S (·.push (LZ h.objs.size)) >>= _) _ _ _
   refine Lk ?_
   refine OE hS' rfl (Lm ⟨Oz Np _,ih (i + 1) _ tk' _ (acc.push (LZ h.objs.size)) (ts++[h.objs.size]) (by omega) hlt ?_ (up TI _ (zS TI (by simp)) hTI')
    (D1.frame _ _ _ st1' fun b hb o e=>up b o (fun q=>hS1 (by rw [<-q]; exact hb)) e) (D2.frame _ _ _ st2' fun b hb o e=>up b o (fun q=>hS2 (by rw [<-q]; exact hb)) e)
    (fun b o h1 h2 e=>up b o h2 (kp b o (sub b h1) (hkeep b o h1 h2 e))) (Mt _ hS' rfl) (by rw [QU,hacc,LS]; rfl) (by rw [LG,hal]; rfl) ?_ ?_⟩) (by rw [hsz]; omega) (by show (acc.push (LZ h.objs.size)).size<=Lz + 1; rw [Array.size_push,hsz]; omega)
   ·rcases hst' with ⟨e,_⟩ | ⟨a,f,oa,hz,ha,hfar,haS⟩
    ·omega
    ·exact .inr ⟨a,f,oa,up _ _ (zS z (by simp)) hz,up _ _ haS ha,hfar,haS⟩
   ·intro j t hj
    rcases QT j ts.length with c | c | c
    ·rw [NQ c] at hj
     obtain ⟨hl,x',y',p1,p2,e⟩:=hG j t hj
     obtain ⟨n1',n2',_,_⟩:=notin t hl
     exact ⟨hl,x',y',p1,p2,up t _ n2' (kp t _ (sub t n1') e)⟩
    ·subst c
     have hb:h.objs.size=t:=by simpa using hj
     subst hb
     rw [hal]
     exact ⟨hls,x,y,px,py,up _ _ (Nc hSl) ht⟩
    ·rw [Mb (by rw [LG,RO]; omega)] at hj
     cases hj
   ·have e:(h'.update S (MJ (·.push (LZ h.objs.size)))).get? h.objs.size=_:=up _ _ (Nc hSl) ht
    exact L8 hls (Mw (Lv e))
  unfold pyNext
  refine Lk (Lk (Od (Mq (name:=Nq "__next__") hT NT (Mh NT hT PC ?_ (Pm _)))))
  have hSl:S < h.objs.size:=Lv hSS
  rcases hst with ⟨_,hz,u,v,hTO⟩ | ⟨a,f,oa,hz,ha,hfar,haS⟩
  ·refine xD (s:={ s with heap:=h,toks:=tk }) Z D1 D2 hz hTI hTO st1 st2 (by omega) (by omega) fun x y h' tk' px py z1 z2 z3 z4 z5 z6 z7=>Lm ?_
   refine item h' tk' x y px py (.inr ⟨_,false,_,z1,z5,hls,Nc hSl⟩) z3 z4 z5 fun c o hc e=>?_
   by_cases q:c=TI
   ·rw [q] at e ⊢
    have:o=_:=LF (e.symm.trans hTI)
    rw [this]
    exact z7
   ·refine z6 c o ?_ e
    simp only [Lq,Mp,or_false,not_or] at hc ⊢
    exact ⟨hc.1,q,hc.2⟩
  ·refine Fu (s:={ s with heap:=h,toks:=tk }) Z D1 D2 hz ha hTI st1 st2 (by omega) (by omega) fun x y h' tk' px py z1 z3 z4 z5 z6=>Lm ?_
   have na:=(notin a hfar).1
   refine item h' tk' x y px py (.inr ⟨a,true,oa,z1,z6 a oa ?_ ha,hfar,haS⟩) z3 z4 z5 fun c o hc e=>z6 c o ?_ e
   ·simp only [Lq,Mp,or_false,not_or] at na ⊢
    exact ⟨na.1,na.2.2.2.1,na.2.2.2.2⟩
   ·simp only [Lq,Mp,or_false,not_or] at hc ⊢
    exact ⟨hc.1,hc.2.2.1,hc.2.2.2⟩
end
end
section
open PySem.Spec
theorem Inv.news {X:Cx} {pins:List (Addr×Obj)} {σ:St} {H H':Hp} {s:Shared} {h':Heap} {t':Nat} (I:Inv X pins σ H s) (k:∀ b u,s.heap.get? b=some u->h'.get? b=some u) (hH:∀ b,b < s.heap.objs.size->H' b=H b)
  (new:∀ a o,s.heap.objs.size<=a->H' a=some o->bH X.prog X.w H' h' a o):Inv X pins σ H' { s with heap:=h',toks:=t' }:=by
 have same:∀ b o,H b=some o->H' b=some o:=fun b o e=>(hH b (I.hok.lt e)).trans e
 refine I.un ⟨fun b o q _ _ _=>k b o q,fun b o q _ _ _=>⟨o.slots,k b o q⟩,fun b o q n _=>(hH b (Lv q)).trans n,fun b o q _=>⟨o,k b o q⟩,fun b xs e=>same b _ e,fun b o u e=>same b _ e,fun b ps e=>⟨#[],by rw [same b _ e]; simp⟩⟩ fun a o e=>?_
 by_cases c:a < s.heap.objs.size
 ·rw [hH a c] at e
  exact (I.hok a o e).stay (fun b u _ q=>k b u q) (fun b q=>same b _ q) fun b xs q=>same b _ q
 ·exact new a o (QY.mp c) e
theorem GW {prog:Program} {w:World} {A:Around} {E:Value->Shared->Prop} {s:Shared} {z:Addr} {Q:Bool->Shared->Prop} (hT:s.TypeIs (.ref z) "zip") (h:Q true s):wpAny (model prog w) A (N6 (.ref z)) Q E s:=by
 unfold N6
 refine Lk (MV hT (show R8 (.type "zip") "__len__"=pure none by rw [Qa,OR]; kernel_rfl) ?_)
 show wpAny _ _ (specialOf (LZ z) (Nq "__length_hint__") >>= _) _ _ _
 refine Lk (MV hT (show R8 (.type "zip") "__length_hint__"=pure none by rw [Qa,OR]; kernel_rfl) ?_)
 exact Lm h
section
variable {prog:Program} {w:World} {A:Around} {E:Value->Shared->Prop} {s:Shared}
theorem Db {z TI TO j1 j2 S:Addr} {fp1 fp2:List Addr} {n1 n2:Nat} {P1 P2:Nat->Value->Prop} {S1 S2:Nat->Heap->Prop} {R:Result->Shared->Prop} (hh:A.handled=none) (Z:jk z TI TO j1 j2 fp1 fp2)
  (D1:Draws prog w A.in1.in1 j1 fp1 n1 P1 S1) (D2:Draws prog w A.in1.in1 j2 fp2 n2 P2 S2) (hn:min n1 n2<=Lz) (hS:S∉[z,TI,TO,j1,j2]) (hS1:S∉fp1) (hS2:S∉fp2) (hlo:∀ c∈[z,TI,TO,j1,j2,S],c < s.heap.objs.size) (hlo1:∀ c∈fp1,c < s.heap.objs.size) (hlo2:∀ c∈fp2,c < s.heap.objs.size)
  (hz:IsZip s.heap z TI TO .none) {u v:Value} (hTO:IsPair s.heap TO u v) (hTI:IsPair s.heap TI (.ref j1) (.ref j2)) (st1:S1 0 s.heap) (st2:S2 0 s.heap) {c₀:Nat} (hSS:s.heap.get? S=some { cls:=.type "list",data:=.seq #[] c₀ })
  (hR:∀ h' tk acc c ts,(∀ b o,b∉[z,TI,TO,j1,j2]->b≠S->s.heap.get? b=some o->h'.get? b=some o)->h'.get? S=some { cls:=.type "list",dict:=none,data:=.seq acc c,slots:=#[] }->ts.length=min n1 n2->ZTs P1 P2 s.heap.objs.size h' ts->
   acc.toList=ts.map LZ->R (.ok (.ret .none)) { s with heap:=h',toks:=tk }):
  wpAny (model prog w) A.in1 (MO (.ref S) (.ref z) .none)
   (fun fin s'=>match fin with | .done f=>R (.ok f) s' | .again c'=>c'.quiet=true/\codeAny (model prog w) A c' R s') (fun e s'=>R (.error e) s') s:=by
 have zS:∀ c∈[z,TI,TO,j1,j2],c≠S:=fun c hc e=>hS (by rw [<-e]; exact hc)
 have hT:s.TypeIs (.ref z) "zip":=⟨_,hz,rfl⟩
 unfold MO
 refine Lk (Q7 (T:="zip") hT ?_)
 have h1:Os (.ref S) (.ref z)=false:=by simp [Os,(zS z (by simp)).symm]
 have h2:(MI "zip" == MI "list")=false:=by decide
 have h3:(MI "zip" == MI "tuple")=false:=by decide
 simp only [h1,h2,h3,Bool.or_false,MB,if_false]
 refine Lk (Ra hz ?_)
 refine Lk (ME (GW hT ?_))
 rw [if_pos (by simp)]
 refine Lk (NL ?_)
 refine Lk ?_
 show wpAny _ _ (Qy S (·.push .none) >>= fun _=>Qy S (·.pop)) _ _ _
 refine Lk (OE hSS rfl ?_)
 have hS₂:=Mt (MJ (·.push MH)) hSS rfl
 refine OE (hz:=by seq_fits) hS₂ rfl ?_
 have hS₃:=Mt (MJ (·.pop)) hS₂ rfl
 have oth:∀ b o,b≠S->s.heap.get? b=some o->((s.heap.update S (MJ (·.push MH))).update S (MJ (·.pop))).get? b=some o:=fun b o hb e=>
  (MZ _ _ (MR hb)).trans ((MZ _ _ (MR hb)).trans e)
 refine Lm ⟨Oz Np _,GV (s:=s) (lo:=s.heap.objs.size) (h₁:=s.heap) hh Z D1 D2 hn hS hS1 hS2 hlo hlo1 hlo2 .none hR (min n1 n2) 0 _ _ _ #[] [] (Nat.sub_zero _) (Mv _) (.inl ⟨rfl,oth z _ (zS z (by simp)) hz,u,v,oth TO _ (zS TO (by simp)) hTO⟩) (oth TI _ (zS TI (by simp)) hTI)
  (D1.frame _ _ _ st1 fun b hb o e=>oth b o (fun q=>hS1 (by rw [<-q]; exact hb)) e) (D2.frame _ _ _ st2 fun b hb o e=>oth b o (fun q=>hS2 (by rw [<-q]; exact hb)) e) (fun b o _ hb e=>oth b o hb e) hS₃ rfl rfl (fun j t hj=>by simp at hj) ?_⟩
 rw [Rh,Rh]
 exact Lr _
theorem GX {z TI TO j1 j2:Addr} {fp1 fp2:List Addr} {n1 n2:Nat} {P1 P2:Nat->Value->Prop} {S1 S2:Nat->Heap->Prop} {Q:Value->Shared->Prop} (hh:A.handled=none) (Z:jk z TI TO j1 j2 fp1 fp2)
  (D1:∀ A':Around,A'.handled=none->Draws prog w A' j1 fp1 n1 P1 S1) (D2:∀ A':Around,A'.handled=none->Draws prog w A' j2 fp2 n2 P2 S2) (hn:min n1 n2<=Lz) (hlo:∀ c∈[z,TI,TO,j1,j2],c < s.heap.objs.size) (hlo1:∀ c∈fp1,c < s.heap.objs.size) (hlo2:∀ c∈fp2,c < s.heap.objs.size)
  (hz:IsZip s.heap z TI TO .none) {u v:Value} (hTO:IsPair s.heap TO u v) (hTI:IsPair s.heap TI (.ref j1) (.ref j2)) (st1:S1 0 s.heap) (st2:S2 0 s.heap)
  (hQ:∀ h' tk acc c ts,(∀ b o,b∉[z,TI,TO,j1,j2]->s.heap.get? b=some o->h'.get? b=some o)->h'.get? s.heap.objs.size=some { cls:=.type "list",dict:=none,data:=.seq acc c,slots:=#[] }->ts.length=min n1 n2->ZTs P1 P2 (s.heap.objs.size + 1) h' ts->
   acc.toList=ts.map LZ->Q (.ref s.heap.objs.size) { s with heap:=h',toks:=tk }):
  wpAny (model prog w) A (call (.type "list") [.ref z]) Q E s:=by
 refine callType_codes (Q₁:=fun obj s₁=>obj=.ref s.heap.objs.size/\s₁={ s with heap:=s.heap.push { cls:=.type "list",data:=.seq #[] } }) PySem.F.called_list (PySem.F.typeCall_list_1 _) PySem.F.entry_list_init
  (code_list_new _ ⟨rfl,rfl⟩) fun obj s₁ h₁=>?_
 obtain ⟨rfl,rfl⟩:=h₁
 have hS:(s.heap.push { cls:=.type "list",data:=.seq #[] }).get? s.heap.objs.size=some { cls:=.type "list",data:=.seq #[] }:=Lx _ rfl
 refine ⟨⟨_,hS,rfl⟩,PySem.F.args_list_init_2 _ _,?_⟩
 show wpAny _ _ (do let old <-RL (.ref s.heap.objs.size); Rn (.ref s.heap.objs.size) (fun _=>#[]); letGo old.toList.reverse; MO (.ref s.heap.objs.size) (.ref z) .none) _ _ _
 refine Lk ?_
 unfold RL
 refine Lk (MD hS rfl (Lm ?_))
 show wpAny _ _ (Qy s.heap.objs.size (fun _=>#[]) >>= fun _=>letGo (#[]:Array Value).toList.reverse >>= fun _=>MO (.ref s.heap.objs.size) (.ref z) .none) _ _ _
 refine Lk (OE hS rfl ?_)
 have hS₂:=Mt (MJ (fun _=>(#[]:Array Value))) hS rfl
 have oth:∀ b o,b≠s.heap.objs.size->(s.heap.push { cls:=.type "list",data:=.seq #[] }).get? b=some o->((s.heap.push { cls:=.type "list",data:=.seq #[] }).update s.heap.objs.size (MJ (fun _=>(#[]:Array Value)))).get? b=some o:=
  fun b o hb e=>(MZ _ _ (MR hb)).trans e
 have oth':∀ b o,s.heap.get? b=some o->((s.heap.push { cls:=.type "list",data:=.seq #[] }).update s.heap.objs.size (MJ (fun _=>(#[]:Array Value)))).get? b=some o:=fun b o e=>oth b o (L9 (Lv e)) (Ll _ e)
 have sz:((s.heap.push { cls:=.type "list",data:=.seq #[] }).update s.heap.objs.size (MJ (fun _=>(#[]:Array Value)))).objs.size=s.heap.objs.size + 1:=by rw [Rh,Md]
 refine Lk (RH ?_)
 refine Db (A:=A.in1) hh Z (D1 _ hh) (D2 _ hh) hn (fun hm=>M5 _ (hlo _ hm)) (fun hm=>M5 _ (hlo1 _ hm)) (fun hm=>M5 _ (hlo2 _ hm)) (fun c hc=>?_) (fun c hc=>?_) (fun c hc=>?_) (oth' _ _ hz) (oth' _ _ hTO) (oth' _ _ hTI)
  ((D1 _ hh).frame _ _ _ st1 fun b _ o e=>oth' b o e) ((D2 _ hh).frame _ _ _ st2 fun b _ o e=>oth' b o e) hS₂ (fun h' tk acc c ts hk hS' hl hG hacc=>?_)
 ·show c < ((s.heap.push { cls:=.type "list",data:=.seq #[] }).update s.heap.objs.size (MJ (fun _=>(#[]:Array Value)))).objs.size
  rw [sz]
  rcases LR.mp (show c∈[z,TI,TO,j1,j2]++[s.heap.objs.size] from hc) with hc | hc
  ·exact MP (hlo c hc)
  ·rw [Ln.mp hc]; exact MX _
 ·show c < ((s.heap.push { cls:=.type "list",data:=.seq #[] }).update s.heap.objs.size (MJ (fun _=>(#[]:Array Value)))).objs.size
  rw [sz]
  exact MP (hlo1 c hc)
 ·show c < ((s.heap.push { cls:=.type "list",data:=.seq #[] }).update s.heap.objs.size (MJ (fun _=>(#[]:Array Value)))).objs.size
  rw [sz]
  exact MP (hlo2 c hc)
 ·have hG':ZTs P1 P2 (s.heap.objs.size + 1) h' ts:=by rw [<-sz]; exact hG
  exact ⟨rfl,hQ h' tk acc c ts (fun b o hb e=>hk b o hb (L9 (Lv e)) (oth' b o e)) hS' hl hG' hacc⟩
end
section
variable {X:Cx}
theorem Jf {h:Heap} {us vs:List Value} {xs ys:List V} {lo:Addr} {ts:List Addr} (ru:aH xs us) (rv:aH ys vs) (hl:ts.length=min us.length vs.length) (G:ZTs (fun i v=>us.toArray[i]?=some v) (fun i v=>vs.toArray[i]?=some v) lo h ts):
  ∀ (i:Nat) (t:Addr),ts[i]?=some t->lo<=t/\∃ x y u v,xs[i]?=some x/\ys[i]?=some y/\aK x u/\aK y v/\IsPair h t u v:=fun i t ht=>by
 obtain ⟨h1,u,v,p1,p2,e⟩:=G i t ht
 have hi:i < ts.length:=(Ls.mp ht).1
 have l1:=ru.length
 have l2:=rv.length
 obtain ⟨x,hx⟩:∃ x,xs[i]?=some x:=⟨_,Lo (by omega)⟩
 obtain ⟨y,hy⟩:∃ y,ys[i]?=some y:=⟨_,Lo (by omega)⟩
 obtain ⟨u',hu',ru'⟩:=ru.get hx
 obtain ⟨v',hv',rv'⟩:=rv.get hy
 have eu:u=u':=by
  have:us.toArray[i]?=some u':=by simpa using hu'
  rw [this] at p1
  exact (LF p1).symm
 have ev:v=v':=by
  have:vs.toArray[i]?=some v':=by simpa using hv'
  rw [this] at p2
  exact (LF p2).symm
 subst eu ev
 exact ⟨h1,x,y,u,v,hx,hy,ru',rv',e⟩
theorem Ay {x y:V} {u:Value} (a:aK x u) (b:aK y u):x=y:=by
 cases x <;> cases y <;> simp only [aK] at a b <;> first
  | rfl
  | (subst a; cases b; rfl)
  | (subst a; cases b; done)
  | (obtain ⟨t,rfl⟩:=a; obtain ⟨t',e⟩:=b; cases e; rfl)
  | (obtain ⟨t,rfl⟩:=a; obtain ⟨t',e⟩:=b; cases e; done)
  | (obtain ⟨t,rfl⟩:=a; cases b; done)
  | (subst a; obtain ⟨t',e⟩:=b; cases e; done)
theorem Jg (S1 S2:Src) {a b:Expr} {ta:TA} {p pos p2 pos2:Pos} (hc:X.calm=true) (hgl:Gl X "list") (hml:X.mg "list"=none) (hg:Gl X "zip") (hm:X.mg "zip"=none) (ha:PA X [a,b] ta)
  (hs:LP [a,b] X.env=[(false,eval a X.env),(false,eval b X.env)]:=by rfl) (hs2:LP [b] X.env=[(false,eval b X.env)]:=by rfl)
  (hs3:LP [.Call (.Name "zip" p2) [a,b] [] pos2] X.env=[(false,eval (.Call (.Name "zip" p2) [a,b] [] pos2) X.env)]:=by rfl):
  PE X (.Call (.Name "list" p) [.Call (.Name "zip" p2) [a,b] [] pos2] [] pos) (CN S1 S2 X.K ta):=by
 intro pins s σ H Q I h
 refine NM (iz I hgl hml N0 (MM ?_ hs3 rfl))
 rw [hs3]
 show wpAny _ _ (spliced [(false,eval (.Call (.Name "zip" p2) [a,b] [] pos2) X.env)]) _ _ s
 refine Qq ?_
 refine Call_ (iz I hg hm boot_zip (MM (thn (ha pos2 pins s σ H _ I h) fun us s1 ⟨vs,H1,I1,r1,q1⟩=>?_) (by rw [hs,hs2]) (by rw [hs2]; rfl)))
 obtain ⟨l1,l2,xs,ys,e,hq1,hq2,hxl,q⟩:=q1
 subst e
 obtain ⟨u,v,rfl,ru,rv⟩:=r1.two
 cases ru
 cases rv
 obtain ⟨us1,rv1,p1,_⟩:=S1.get I1 hq1
 obtain ⟨us2,rv2,p2',_⟩:=S2.get I1 hq2
 refine SK F.called_zip (by decide) (Tw _ _) (T6 _ _) (fun obj=>Sd obj _ _) T7 (BM S1 S2 l1 l2 us1.toArray us2.toArray) ⟨p1,p2',?_⟩
 generalize hn:s1.heap.objs.size=n
 have z1:(zh1 S1 s1.heap l1).objs.size=n + 1:=by rw [Md,hn]
 have z2:(zh2 S1 S2 s1.heap l1 l2).objs.size=n + 2:=by rw [Md,z1]
 have z3:(zh3 S1 S2 s1.heap l1 l2).objs.size=n + 3:=by rw [Md,z2]
 have z4:(zh4 S1 S2 s1.heap l1 l2).objs.size=n + 4:=by rw [Md,z3]
 have z5:(zh5 S1 S2 s1.heap l1 l2).objs.size=n + 5:=by rw [Md,z4]
 have g5:(zh5 S1 S2 s1.heap l1 l2).get? (zh4 S1 S2 s1.heap l1 l2).objs.size=some _:=Lx _ rfl
 have g4:(zh5 S1 S2 s1.heap l1 l2).get? (zh3 S1 S2 s1.heap l1 l2).objs.size=some _:=Ll _ (Lx _ rfl)
 have g3:(zh5 S1 S2 s1.heap l1 l2).get? (zh2 S1 S2 s1.heap l1 l2).objs.size=some _:=Ll _ (Ll _ (Lx _ rfl))
 have g2:(zh5 S1 S2 s1.heap l1 l2).get? (zh1 S1 s1.heap l1).objs.size=some _:=Ll _ (Ll _ (Ll _ (Lx _ rfl)))
 have g1:(zh5 S1 S2 s1.heap l1 l2).get? s1.heap.objs.size=some _:=Ll _ (Ll _ (Ll _ (Ll _ (Lx _ rfl))))
 have kp:∀ c o,s1.heap.get? c=some o->(zh5 S1 S2 s1.heap l1 l2).get? c=some o:=fun c o e=>
  Ll _ (Ll _ (Ll _ (Ll _ (Ll _ e))))
 show _/\_
 rw [z2,z3,z4] at g5
 rw [z1,z2,hn] at g3
 rw [z3] at g4
 rw [z1] at g2
 rw [hn] at g1
 rw [z4]
 refine ⟨⟨_,g5,rfl⟩,QN ?_⟩
 have lt1:l1 < n:=by
  obtain ⟨o,_,ho,_⟩:=S1.isSeq p1
  rw [<-hn]; exact Lv ho
 have lt2:l2 < n:=by
  obtain ⟨o,_,ho,_⟩:=S2.isSeq p2'
  rw [<-hn]; exact Lv ho
 have five:∀ c:Nat,c∈[n + 4,n + 2,n + 3,n,n + 1]->n<=c/\c < n + 5:=fun c hc=>by
  simp only [Lq,Mp,or_false] at hc
  omega
 have nel:∀ l c:Nat,l < n->n<=c->c≠l:=fun l c h1 h2=>by omega
 have Z:jk (n + 4) (n + 2) (n + 3) n (n + 1) [n,l1] [n + 1,l2]:=zap (by simp) (fun c hc=>nel l1 c lt1 (five c hc).1) (fun c hc=>nel l2 c lt2 (five c hc).1)
 have is1:S1.Is (zh5 S1 S2 s1.heap l1 l2) l1 us1.toArray:=S1.isKeep p1 fun o e=>kp _ _ e
 have is2:S2.Is (zh5 S1 S2 s1.heap l1 l2) l2 us2.toArray:=S2.isKeep p2' fun o e=>kp _ _ e
 refine GX (s:={ s1 with heap:=zh5 S1 S2 s1.heap l1 l2 }) (n1:=us1.toArray.size) (n2:=us2.toArray.size) (I1.ok.hd hc) Z (fun A' hA=>S1.draws hA n l1 (nel l1 n lt1 (Lr _)).symm us1.toArray) (fun A' hA=>S2.draws hA (n + 1) l2 (nel l2 (n + 1) lt2 (Oi _)).symm us2.toArray) ?_ ?_ ?_ ?_ g5 g4 g3 ⟨S1.mkI g1 rfl rfl,is1⟩ ⟨S2.mkI g2 rfl rfl,is2⟩ ?_
 ·have:=rv1.length
  simp only [LK]
  rw [Lw]
  omega
 ·intro c hc
  show c < (zh5 S1 S2 s1.heap l1 l2).objs.size
  rw [z5]
  exact (five c hc).2
 ·intro c hc
  show c < (zh5 S1 S2 s1.heap l1 l2).objs.size
  rw [z5]
  rcases Lq.mp hc with rfl | hc
  ·exact Nat.lt_add_of_pos_right (by decide)
  ·rw [Ln.mp hc]; exact LN lt1 (Na _ _)
 ·intro c hc
  show c < (zh5 S1 S2 s1.heap l1 l2).objs.size
  rw [z5]
  rcases Lq.mp hc with rfl | hc
  ·exact Nat.add_lt_add_left (by decide) n
  ·rw [Ln.mp hc]; exact LN lt2 (Na _ _)
 intro h' tk acc c ts hk hS' hl hG hacc
 have hS'':h'.get? (n + 5)=some { cls:=.type "list",dict:=none,data:=.seq acc c,slots:=#[] }:=by rw [<-z5]; exact hS'
 have hG':ZTs (fun i v=>us1.toArray[i]?=some v) (fun i v=>us2.toArray[i]?=some v) (n + 5 + 1) h' ts:=by rw [<-z5]; exact hG
 have hl':ts.length=min us1.length us2.length:=by simpa using hl
 have G:=Jf rv1 rv2 hl' hG'
 have old:∀ b o,s1.heap.get? b=some o->h'.get? b=some o:=fun b o e=>hk b o (fun hm=>by
  have:=Lv e
  rw [hn] at this
  exact absurd (five b hm).1 (Qb.mpr this)) (kp b o e)
 have l1':=rv1.length
 have l2':=rv2.length
 let H':Hp:=fun b=>if b=n + 5 then some (.lst (ts.map V.ref)) else match ts.findIdx? (· == b) with
  | some i=>(match xs[i]?,ys[i]? with | some x,some y=>some (.tup [x,y]) | _,_=>H1 b)
  | none=>H1 b
 have big:∀ (i:Nat) (t:Addr),ts[i]?=some t->n + 6<=t:=fun i t ht=>(G i t ht).1
 have Hts:∀ (i:Nat) (t:Addr),ts[i]?=some t->∃ x y u v,H' t=some (.tup [x,y])/\xs[i]?=some x/\ys[i]?=some y/\aK x u/\aK y v/\IsPair h' t u v:=by
  intro i t ht
  obtain ⟨hlo,x,y,u,v,hx,hy,rx,ry,e⟩:=G i t ht
  refine ⟨x,y,u,v,?_,hx,hy,rx,ry,e⟩
  have net:t≠n + 5:=fun q=>by rw [q] at hlo; exact absurd hlo (Qb.mpr (MX _))
  show (if t=n + 5 then _ else _)=_
  rw [if_neg net]
  cases hf:ts.findIdx? (· == t) with
  | none=>
   have:=O4.mp hf t (LA ht)
   simp at this
  | some i0=>
   obtain ⟨h0,h1,_⟩:=NK.mp hf
   have ht0:ts[i0]?=some t:=by rw [Lo h0]; congr 1; exact eq_of_beq h1
   obtain ⟨_,x0,y0,u0,v0,hx0,hy0,rx0,ry0,e0⟩:=G i0 t ht0
   have eq:=LF (e0.symm.trans e)
   have eu:u0=u/\v0=v:=by
    injection eq with _ _ eq
    injection eq with eq _
    simp at eq
    exact eq
   rw [eu.1] at rx0
   rw [eu.2] at ry0
   simp only [hx0,hy0]
   rw [Ay rx0 rx,Ay ry0 ry]
 have hH:∀ b,b < s1.heap.objs.size->H' b=H1 b:=by
  intro b hb
  rw [hn] at hb
  have ne5:b≠n + 5:=fun q=>by rw [q] at hb; exact absurd hb (QY.mpr (Na _ _))
  show (if b=n + 5 then _ else _)=_
  rw [if_neg ne5]
  cases hf:ts.findIdx? (· == b) with
  | none=>rfl
  | some i0=>
   obtain ⟨h0,h1,_⟩:=NK.mp hf
   have ht0:ts[i0]?=some b:=by rw [Lo h0]; congr 1; exact eq_of_beq h1
   have:=big i0 b ht0
   exact absurd (LN hb (L8 (Na _ _) this)) (M5 _)
 have e5:H' (n + 5)=some (.lst (ts.map V.ref)):=if_pos rfl
 have hvals:aH (ts.map V.ref) acc.toList:=by
  have go:∀ l:List Addr,aH (l.map V.ref) (l.map LZ):=fun l=>by
   induction l with
   | nil=>exact .nil
   | cons t r ih=>exact .cons rfl ih
  rw [hacc]
  exact go ts
 have I2:Inv X pins σ H' { s1 with heap:=h',toks:=tk }:=I1.news old hH fun a o ha eo=>by
  by_cases c5:a=n + 5
  ·subst c5
   rw [e5] at eo
   cases eo
   refine ⟨?_,acc.toList,c,hvals,by simpa using hS''⟩
   rw [Lp,hl',Lw]
   omega
  ·have eo':(match ts.findIdx? (· == a) with
    | some i=>(match xs[i]?,ys[i]? with | some x,some y=>some (HO.tup [x,y]) | _,_=>H1 a)
    | none=>H1 a)=some o:=by
    have:H' a=some o:=eo
    rw [show H' a=(if a=n + 5 then some (.lst (ts.map V.ref)) else match ts.findIdx? (· == a) with
     | some i=>(match xs[i]?,ys[i]? with | some x,some y=>some (.tup [x,y]) | _,_=>H1 a)
     | none=>H1 a) from rfl,if_neg c5] at this
    exact this
   have hfr:H1 a=none:=I1.hok.fresh ha
   cases hf:ts.findIdx? (· == a) with
   | none=>rw [hf] at eo'; rw [show H1 a=some o from eo'] at hfr; cases hfr
   | some i0=>
    obtain ⟨h0,h1,_⟩:=NK.mp hf
    have ht0:ts[i0]?=some a:=by rw [Lo h0]; congr 1; exact eq_of_beq h1
    obtain ⟨_,x0,y0,u0,v0,hx0,hy0,rx0,ry0,e0⟩:=G i0 a ht0
    rw [hf] at eo'
    simp only [hx0,hy0] at eo'
    cases eo'
    exact ⟨(by show 2<=Lz; decide),[u0,v0],.cons rx0 (.cons ry0 .nil),_,e0,rfl,⟨0,rfl⟩,rfl⟩
 have hp5:H1 (n + 5)=none:=I1.hok.fresh (by rw [hn]; exact Na _ _)
 have hsame:ap H1 H':=fun b o eb=>by
  rw [hH b (I1.hok.lt eb)]
  exact eb
 show ∃ v H',_/\_/\_
 refine ⟨.ref (n + 5),H',I2,by rw [<-z5]; rfl,q _ _ hp5 hsame ⟨ts,e5,?_⟩⟩
 have go:∀ (l:List Addr) (m:List (V×V)),l.length=m.length->(∀ (i:Nat) (t:Addr) (pq:V×V),l[i]?=some t->m[i]?=some pq->H' t=some (.tup [pq.1,pq.2]))->sg H' l m:=by
  intro l
  induction l with
  | nil=>intro m hl _; cases m with
   | nil=>exact .nil
   | cons _ _=>simp at hl
  | cons t r ih=>intro m hl hh; cases m with
   | nil=>simp at hl
   | cons pq m=>exact .cons (hh 0 t pq rfl rfl) (ih m (by simpa using hl) fun i t pq h1 h2=>hh (i + 1) t pq h1 h2)
 refine go _ _ (by rw [P6]; omega) fun i t pq ht hpq=>?_
 obtain ⟨x,y,u,v,e,hx,hy,_⟩:=Hts i t ht
 rw [e]
 have:(xs.zip ys)[i]?=some (x,y):=by rw [O3]; exact ⟨hx,hy⟩
 rw [this] at hpq
 cases hpq
 rfl
end
end
section
variable {g:CF TG} {tt:CF TT} {te:CF TE} {σ₀:St} {Q:VK} {H:Hp} {K:Fg}
end
section
open PySem.Spec
section
variable {prog:Program} {w:World} {A:Around} {E:Value->Shared->Prop} {s:Shared}
end
section
variable {X:Cx} {tg:Expr}
end
end
section
open PySem.Spec
theorem Dc {M:Model} {A:Around} {E:Value->Shared->Prop} {s:Shared} {scope:Scope} {globals:Addr} {cl:List (Str×Addr)} {qual:Str} {func:Option Addr} {code:Value} {outer:Env} {builtins:Addr} {x:Str} {Q:Env->Shared->Prop}
  (hown:∀ n acc,Rt n scope.names acc=(x,n) :: acc) (hpush:∀ h:Heap,pushCells h scope.names=h.push { cls:=.type "cell",data:=.cell none })
  (hQ:Q (newEnv scope s.heap.objs.size globals ((x,s.heap.objs.size + 1) :: cl) qual func code (some outer) builtins) { s with heap:=(s.heap.push { cls:=.type "dict",data:=.dict #[] }).push { cls:=.type "cell",data:=.cell none } }):
  wpAny M A (Qh scope globals cl [] qual func code (some outer) builtins) Q E s:=by
 simp only [Qh,SL,if_true]
 refine Lk (wpAny_alloc ?_)
 refine Lk (wpAny_layCells _ (fun name kind cells=>by cases hkc:kind == OW <;> simp [hkc]) _ _ _ _ ?_)
 rw [hown,hpush]
 rw [show ({ s with heap:=s.heap.push { cls:=.type "dict",data:=.dict #[] } }:Shared).heap.objs.size=s.heap.objs.size + 1 from Md ..]
 rw [Pf]
 exact Lk (Lm (Lm hQ))
structure vE (sc scope:Scope) (NX N:List Str) (ix:List (Option Nat)) (x:Str):Prop where
 kind:scope.kind=.function
 own:∀ y∈scope.names,y.2=.cell->y.1=x
 ownx:scope.names.lookup x=some .cell
 cells:∀ n acc,Rt n scope.names acc=(x,n) :: acc
 push:∀ h:Heap,pushCells h scope.names=h.push { cls:=.type "cell",data:=.cell none }
 names:∀ y∈scope.names,y.2=.local->scope.names.lookup y.1=some .local
 free:∀ y∈scope.names,y.2=.free->y.1≠x/\(sc.names.lookup y.1=some .cell\/sc.names.lookup y.1=some .free)
 nd:N.Nodup
 len:ix.length=N.length
 at_:∀ p∈N.zip ix,∀ i∈p.2,NX[i]?=some p.1/\scope.names.lookup p.1=some .free
noncomputable def cn (X:Cx) (N:List Str) (scope:Scope) (x:Str) (C:Addr) (s:Shared) (H:Hp) (fp:List Addr):Cx where
 prog:=X.prog
 w:=X.w
 K:=X.K
 mg:=X.mg
 base:=X.base
 A:=X.A
 N:=N
 s₀:=s
 H₀:=H
 env:=PB scope ((x,C + 1) :: dg X.env scope.names []) C X.env
 outer:=X.stack
 stack:=X.stack
 ex:=fp
 fn:=fun y=>decide (y=x)
 calm:=X.calm
 pn:=[]
 xe:=fun _ _=>False
theorem Km {X:Cx} {N:List Str} {scope:Scope} {x:Str} {C:Addr} {s:Shared} {H:Hp} {fp:List Addr}:(cn X N scope x C s H fp).fn x=true:=by
 show decide (x=x)=true
 simp
theorem j6 {x y:Str} {c d:Addr} {l:List (Str×Addr)} (h:((x,d) :: l).lookup y=some c):(y=x/\c=d)\/(y≠x/\l.lookup y=some c):=by
 rw [Mo] at h
 cases e:y == x with
 | true=>rw [e] at h; cases h; exact .inl ⟨eq_of_beq e,rfl⟩
 | false=>
  rw [e] at h
  refine .inr ⟨fun z=>?_,h⟩
  rw [z,beq_self_eq_true] at e
  cases e
theorem Jh {x:Str} {d:Addr} {l:List (Str×Addr)}:((x,d) :: l).lookup x=some d:=by rw [Mo,beq_self_eq_true]
theorem xT {x y:Str} {d c:Addr} {l:List (Str×Addr)} (n:y≠x) (h:l.lookup y=some c):((x,d) :: l).lookup y=some c:=by
 rw [Mo,beq_eq_false_iff_ne.mpr n]
 exact h
section
variable {X:Cx} {elt tg iter:Expr} {ifs:List Expr} {scope sc:Scope} {pos:Pos} {NX N:List Str} {ix:List (Option Nat)} {own:Str} {wi:TI} {g:CF TG} {tt:CF TT} {te:CF TE}
theorem Bs {pins:List (Addr×Obj)} {σ:St} {H:Hp} {s:Shared} {fp:List Addr} {it:Addr} {J:It} {tn:Nat->Heap->Prop} {Q:VK} {E:Value->Shared->Prop} {RR:Value->Addr->Result->Shared->Prop}
  (hc:X.calm=true) (hsc:X.env.scope=sc) (hNX:X.N=NX) (S:vE sc scope NX N ix own)
  (hg:∀ C s H fp,PG (cn X N scope own C s H fp) tg (g C s H fp)) (ht:∀ C s H fp,PTL (cn X N scope own C s H fp) ifs (tt C s H fp)) (he:∀ C s H fp,PE (cn X N scope own C s H fp) elt (te C s H fp))
  (I:Inv X pins σ H s) (T:qC X.prog X.w X.K tg J fp it tn) (st:tn 0 s.heap) (hf:∀ b∈fp,jh X pins H b)
  (hq:∀ p,H p=none->∃ W:Nat->Nat->List V->Hp->Prop,(∃ m,W 0 m [] (upd H p (.lst [])))/\∀ C s' H' fp,cB J (g C s' H' fp) (tt C s' H' fp) (te C s' H' fp) (sub ix σ) p Q W)
  (hR:∀ p C s' H' m,s.heap.objs.size<=p->s.heap.objs.size<=C->s'.heap.Ns C m->H' C=none->Q (.ref p) H'->Inv X pins σ H' s'->RR (.ref p) C (.ok .next) s'):
  wpAny (model X.prog X.w) X.A (newList []) (fun acc s₃=>wpAny (model X.prog X.w) X.A (Qh scope X.env.globals (dg X.env scope.names []) [] X.env.qual none .none (some X.env)) (fun cenv s₄=>
   codeAny (model X.prog X.w) X.A (.compStart (.ListComp elt [⟨tg,iter,ifs,0⟩] scope pos) 0 (.ref it) acc { cenv with scope:=relabel scope X.env }) (RR acc cenv.locals) s₄) E s₃) E s:=by
 refine Mx (Dc S.cells S.push ?_)
 dsimp only
 have hsz:(s.heap.push { cls:=.type "list",dict:=none,data:=.seq ([]:List Value).toArray }).objs.size=s.heap.objs.size + 1:=Md ..
 have hns₀:=Heap.Ns.new (s.heap.push { cls:=.type "list",dict:=none,data:=.seq ([]:List Value).toArray }) (.type "dict")
 have hsz₂:((s.heap.push { cls:=.type "list",dict:=none,data:=.seq ([]:List Value).toArray }).push { cls:=.type "dict",data:=.dict #[] }).objs.size=s.heap.objs.size + 2:=by rw [Md,Md]
 have keep₁:∀ b o,s.heap.get? b=some o->(((s.heap.push { cls:=.type "list",dict:=none,data:=.seq ([]:List Value).toArray }).push { cls:=.type "dict",data:=.dict #[] }).push { cls:=.type "cell",data:=.cell none }).get? b=some o:=fun b o e=>Ll _ (Ll _ (Ll _ e))
 have lst₁:(((s.heap.push { cls:=.type "list",dict:=none,data:=.seq ([]:List Value).toArray }).push { cls:=.type "dict",data:=.dict #[] }).push { cls:=.type "cell",data:=.cell none }).get? s.heap.objs.size=some { cls:=.type "list",data:=.seq ([]:List Value).toArray }:=Ll _ (Ll _ (Lx _ rfl))
 have cel₁:(((s.heap.push { cls:=.type "list",dict:=none,data:=.seq ([]:List Value).toArray }).push { cls:=.type "dict",data:=.dict #[] }).push { cls:=.type "cell",data:=.cell none }).IsCell (s.heap.objs.size + 2) none:=⟨_,by rw [<-hsz₂]; exact Lx _ rfl,rfl⟩
 have hns₁:=hns₀.keeps (h':=((s.heap.push { cls:=.type "list",dict:=none,data:=.seq ([]:List Value).toArray }).push { cls:=.type "dict",data:=.dict #[] }).push { cls:=.type "cell",data:=.cell none }) (fun b o e=>Ll _ e)
 generalize ((s.heap.push { cls:=.type "list",dict:=none,data:=.seq ([]:List Value).toArray }).push { cls:=.type "dict",data:=.dict #[] }).push { cls:=.type "cell",data:=.cell none }=h₁ at hns₁ keep₁ lst₁ cel₁ ⊢
 generalize hC:(s.heap.push { cls:=.type "list",dict:=none,data:=.seq ([]:List Value).toArray }).objs.size=C at hns₁ ⊢
 rw [hsz] at hC
 generalize hp:s.heap.objs.size=p at hC
 have pC:p≠C:=by omega
 have old:∀ b o,s.heap.get? b=some o->h₁.get? b=some o:=keep₁
 have hnew:h₁.get? p=some { cls:=.type "list",data:=.seq ([]:List Value).toArray }:=by rw [<-hp]; exact lst₁
 have cel:h₁.IsCell (C + 1) none:=by
  have e:C + 1=s.heap.objs.size + 2:=by omega
  rw [e]
  exact cel₁
 have hfO:H (C + 1)=none:=I.hok.fresh (by omega)
 have hfp:H p=none:=I.hok.fresh (by omega)
 have hfC:H C=none:=I.hok.fresh (by omega)
 have lt:∀ b∈fp,b < p:=fun b hb=>by
  obtain ⟨o,e,_⟩:=T.obj 0 _ st b hb
  rw [<-hp]
  exact Lv e
 have hcells:∀ y∈scope.names,y.2=.free->∃ c,X.env.cells.lookup y.1=some c:=fun y hy hk=>by
  refine I.ok.has y.1 ?_
  show X.env.scope.names.lookup y.1=some .cell\/X.env.scope.names.lookup y.1=some .free
  rw [hsc]
  exact (S.free y hy hk).2
 have noown:∀ x,scope.names.lookup x=some .cell->x=own:=fun x e=>S.own _ (Mg e) rfl
 have low:∀ {x:Str} {c:Addr},(dg X.env scope.names []).lookup x=some c->c < p:=fun {x c} e=>by
  obtain ⟨v,o,ho,_⟩:=I.cell x c (b7 e)
  rw [<-hp]
  exact Lv ho
 have hok:(cn X N scope own C s H fp).Ok:=by
  refine ⟨I.ok.mod,S.kind,I.ok.glob,I.ok.blt,by show s.heap.objs.size<=C; omega,fun x y c h1 h2=>?_,fun x hx=>?_,fun x c z hc'=>?_,I.ok.hd,I.ok.frames,.inl rfl,fun b hb=>?_,I.bs,L8 I.ok.bsz I.sz,fun b o e hb=>?_,fun b hb z=>?_,I.stack,I.stkFree⟩
  ·rcases j6 h1 with ⟨e1,z1⟩ | ⟨_,h1⟩ <;> rcases j6 h2 with ⟨e2,z2⟩ | ⟨_,h2⟩
   ·rw [e1,e2]
   ·have a1:@LT.lt Nat _ c p:=low h2
    have a2:@Eq Nat c (C + 1):=z1
    omega
   ·have a1:@LT.lt Nat _ c p:=low h1
    have a2:@Eq Nat c (C + 1):=z2
    omega
   ·exact I.ok.inj x y c (b7 h1) (b7 h2)
  ·by_cases hxo:x=own
   ·exact ⟨C + 1,by subst hxo; exact Jh⟩
   have hx':scope.names.lookup x=some .free:=by
    rcases hx with hx | hx
    ·rcases ji hx with q | q
     ·exact absurd (noown x q) hxo
     ·exact q.2
    ·rcases ji hx with q | q
     ·exact q
     ·exact q.2
   obtain ⟨c,hc'⟩:=hcells _ (Mg hx') rfl
   exact ⟨c,xT hxo (mN (Mg hx') hc')⟩
  ·have z':x=own:=of_decide_eq_true z
   rcases j6 hc' with ⟨_,e⟩ | ⟨n,_⟩
   ·have a2:@Eq Nat c (C + 1):=e
    have a3:@LE.le Nat _ s.heap.objs.size c:=by omega
    exact a3
   ·exact absurd z' n
  ·refine ⟨?_,fun x c e=>?_⟩
   ·show b≠C
    exact kS (lt b hb) (by omega)
   ·rcases j6 e with ⟨_,e⟩ | ⟨_,e⟩
    ·have a1:@LT.lt Nat _ b p:=lt b hb
     have a2:@Eq Nat c (C + 1):=e
     intro z
     have a3:@Eq Nat c b:=z
     omega
    ·exact (hf b hb).2.2.2.2.1 x c (b7 e)
  ·rcases (hf b hb).2.2.2.1 with z | z
   ·exact I.ok.noex b o e z
   ·exact absurd (LN (Lv e) (L8 I.ok.bsz z)) (M5 _)
  ·rcases Lq.mp (I.stkSub b z) with q | q
   ·exact (hf b hb).2.1 q
   ·exact (hf b hb).2.2.1 q
 have locs:∀ h':Heap,(∀ x c o,X.env.cells.lookup x=some c->s.heap.get? c=some o->∃ sl,h'.get? c=some { o with slots:=sl })->
   ∀ (i:Nat) (x:Str) (v:V),N[i]?=some x->(sub ix σ)[i]?=some (some v)->∃ u,aK v u/\∀ m,FH (PB scope ((own,C + 1) :: dg X.env scope.names []) C X.env) h' m x u:=by
  intro h' hk i x v h1 h2
  obtain ⟨k,hk',hv⟩:∃ k,ix[i]?=some (some k)/\σ[k]?=some (some v):=by
   unfold sub at h2
   rw [LD] at h2
   cases e:ix[i]? with
   | none=>rw [e] at h2; cases h2
   | some o=>
    rw [e] at h2
    cases o with
    | none=>cases h2
    | some k=>
     refine ⟨k,rfl,?_⟩
     have h2':(match σ[k]? with | some v=>v | none=>none)=some v:=LF h2
     cases e2:σ[k]? with
     | none=>rw [e2] at h2'; cases h2'
     | some z=>
      rw [e2] at h2'
      rw [show z=some v from h2']
  have hm:(x,some k)∈N.zip ix:=by
   refine LA (i:=i) ?_
   rw [O3]
   exact ⟨h1,hk'⟩
  obtain ⟨a1,a2⟩:=S.at_ _ hm k (by simp)
  obtain ⟨hno,hX⟩:=S.free _ (Mg a2) rfl
  have hvis:Vis X.env.scope x:=by
   show _\/_\/_
   rw [hsc]
   exact .inr hX
  obtain ⟨m,hn,hl⟩:=I.loc
  obtain ⟨u,r,l⟩:=hl k x v (by rw [hNX]; exact a1) hv hvis
  refine ⟨u,r,fun m'=>.inr ⟨qJ a2,?_⟩⟩
  rcases l with ⟨l,_⟩ | ⟨_,c,e,z⟩
  ·have l':X.env.scope.names.lookup x=some .local:=l
   rw [hsc] at l'
   rcases hX with q | q <;> (rw [q] at l'; cases l')
  ·obtain ⟨o,ho,hd⟩:=z
   obtain ⟨sl,e'⟩:=hk x c o e ho
   exact ⟨c,xT hno (mN (Mg a2) e),_,e',hd⟩
 have hlen:(sub ix σ).length=N.length:=by
  unfold sub
  rw [Lp]
  exact S.len
 have I1:Inv (cn X N scope own C s H fp) [] (sub ix σ) (upd H p (.lst [])) { s with heap:=h₁ }:=by
  refine ⟨hok,rfl,I.bare,Un.laid old (Ol hp) hfp,⟨_,hns₁,fun i x v h1 h2 h3=>?_⟩,fun x c e=>?_,?_,fun x c e=>?_,fun q hq=>(nomatch hq),I.hok.laid old (Ol hp) ⟨Mv _,[],0,.nil,hnew⟩,hlen⟩
  ·obtain ⟨u,r,l⟩:=locs h₁ (fun y c o _ ho=>⟨o.slots,old c o ho⟩) i x v h1 h2
   exact ⟨u,r,l _⟩
  ·rcases j6 e with ⟨_,e⟩ | ⟨_,e⟩
   ·rw [e]
    exact ⟨none,cel⟩
   ·obtain ⟨v,o,ho,hd⟩:=I.cell x c (b7 e)
    exact ⟨v,o,old c o ho,hd⟩
  ·show upd H p _ C=none
   rw [aO (MR pC)]
   exact hfC
  ·rcases j6 e with ⟨_,e⟩ | ⟨_,e⟩
   ·rw [e,aO (show C + 1≠p by omega)]
    exact hfO
   have e':=b7 e
   obtain ⟨v,o,ho,hd⟩:=I.cell x c e'
   rw [aO (kS (Lv ho) (Ol hp))]
   exact I.freeC x c e'
 have back:∀ {pl:List (Addr×Obj)} {σ':St} {H':Hp} {s':Shared},Inv (cn X N scope own C s H fp) pl σ' H' s'->Inv (cn X N scope own C s H fp) pl (sub ix σ) H' s':=fun {pl σ' H' s'} J=>by
  obtain ⟨m,hn,_⟩:=J.loc
  refine ⟨J.ok,J.os,J.bare,J.base,⟨m,hn,fun i x v h1 h2 h3=>?_⟩,J.cell,J.free,J.freeC,J.pin,J.hok,hlen⟩
  obtain ⟨u,r,l⟩:=locs s'.heap (fun y c o hc' ho=>J.base.any ho (I.freeC y c hc') fun hb=>(hf c hb).2.2.2.2.1 y c hc' rfl) i x v h1 h2
  exact ⟨u,r,l _⟩
 obtain ⟨W,⟨m0,w0⟩,turn⟩:=hq p hfp
 have st1:tn 0 h₁:=T.keep 0 _ _ st fun b _ o e=>old b o e
 have fp1:∀ {H':Hp},(∀ b∈fp,H' b=none)->∀ b∈fp,jh (cn X N scope own C s H fp) [] H' b:=fun {H'} hn b hb=>
  ⟨hn b hb,(hok.exf b hb).1,hok.exfs b hb,.inl hb,(hok.exf b hb).2,fun q hq=>(nomatch hq)⟩
 have loop:codeAny (model X.prog X.w) X.A (.compLoop (.ListComp elt [⟨tg,iter,ifs,0⟩] scope pos) 0 (.ref it) (.ref p) (PB scope ((own,C + 1) :: dg X.env scope.names []) C X.env)) (RR (.ref p) C) { s with heap:=h₁ }:=by
  refine xB (fun n s'=>∃ i acc H',Inv (cn X N scope own C s H fp) [] (sub ix σ) H' s'/\tn i s'.heap/\(∀ b∈fp,H' b=none)/\W i n acc H') ?_ m0
   ⟨0,[],_,I1,st1,fun b hb=>by rw [aO (kS (lt b hb) (Lr _))]; exact (hf b hb).1,w0⟩
  rintro n s3 ⟨i,acc,H3,I3,st3,fr3,w3⟩
  obtain ⟨hacc,w4⟩:=turn C s H fp i n acc H3 w3
  rcases w4 with ⟨stop,qn⟩ | ⟨go,hln,N',hN',step⟩
  ·refine thn (T.done (cn X N scope own C s H fp) rfl rfl rfl hc i [] s3 _ H3 (fun _ _=>False) I3 (fp1 fr3) st3 stop) fun r s4 ⟨hr,I4⟩=>?_
   subst hr
   obtain ⟨m,hn,_⟩:=I4.loc
   refine hR p C s4 H3 m (by omega) (by omega) hn I4.free qn ?_
   exact I.call' I4.os I4.base I4.hok I4.bare fun b hb=>⟨(hf b hb).2.2.2.1,(hf b hb).2.1,(hf b hb).2.2.2.2.1,(hf b hb).2.2.2.2.2⟩
  ·refine thn (T.item (cn X N scope own C s H fp) rfl rfl rfl hc i [] s3 _ H3 (fun _ _=>False) I3 (fp1 fr3) st3 go) fun r s4 ⟨u,hr,h4⟩=>?_
   subst hr
   refine thn h4 fun _ s5 ⟨x,H5,I5,r5,y5,st5,fr5⟩=>?_
   have I5':=I5.pinned (fp1 fr5) (T.obj _ _ st5)
   refine thn (hg C s H fp _ s5 _ H5 x u _ I5' r5 (step x H5 y5)) fun _ s6 ⟨σ6,H6,I6,q6⟩=>?_
   have later:∀ {s7:Shared} {H7:Hp} {acc':List V} {σ7:St},Inv (cn X N scope own C s H fp) ([]++nP fp s5.heap) σ7 H7 s7->(∃ m',m' < n/\W (i + 1) m' acc' H7)->
     ∃ m,m < n/\∃ i acc H',Inv (cn X N scope own C s H fp) [] (sub ix σ) H' s7/\tn i s7.heap/\(∀ b∈fp,H' b=none)/\W i m acc H':=fun {s7 H7 acc' σ7} I7 ⟨m',hm,w7⟩=>by
    refine ⟨m',hm,i + 1,acc',H7,back (I7.unpinned (pins:=[])),T.keep _ _ _ st5 fun b hb o e=>(I7.pin (b,o) (L7 _ (L7 _ (gU hb e)))).1,fun b hb=>?_,w7⟩
    obtain ⟨o,e,d⟩:=T.obj _ _ st5 b hb
    exact (I7.pin (b,o) (L7 _ (L7 _ (gU hb e)))).2.1
   refine thn (ht C s H fp _ s6 σ6 H6 _ I6 q6) fun ok s7 ⟨H7,I7,q7⟩=>?_
   cases ok with
   | false=>exact later I7 (hN' _ _ q7)
   | true=>
    refine thn (he C s H fp _ s7 σ6 H7 _ I7 q7) fun y s8 ⟨v8,H8,I8,r8,hacc8,w8⟩=>?_
    refine thn (fc (X:=cn X N scope own C s H fp) _ s8 σ6 H8 (.ref p) [v8] (.ref p) [y] (fun _ H9=>H9=upd H8 p (.lst (acc++[v8]))) I8 rfl (.cons r8 .nil) ⟨p,acc,v8,rfl,rfl,hacc8,hln,rfl⟩) fun _ s9 ⟨_,H9,I9,_,e9⟩=>?_
    subst e9
    exact later I9 (hN' _ _ w8)
 exact RE loop (T.self _ 0 _ _ _ st1 loop)
theorem Bt {i:Nat} {y:Str} {py spos:Pos} (hN:X.N.Nodup) (hy:X.N[i]?=some y) (hl:X.env.scope.names.lookup y=some .local) (hc:X.calm=true) (S:vE sc scope NX N ix own) (hi:PI X tg iter wi)
  (hg:∀ C s H fp,PG (cn X N scope own C s H fp) tg (g C s H fp)) (ht:∀ C s H fp,PTL (cn X N scope own C s H fp) ifs (tt C s H fp)) (he:∀ C s H fp,PE (cn X N scope own C s H fp) elt (te C s H fp))
  (hsw:Rp (.ListComp elt [⟨tg,iter,ifs,0⟩] scope pos) (some (.Name y py)) spos.line X.env=pure true:=by rfl)
  (hsc:X.env.scope=sc:=by rfl) (hNX:X.N=NX:=by rfl) (hs:∀ x,Pj iter X.env x=pure x:=by intro _; rfl):
  PS X (.Assign [.Name y py] (.ListComp elt [⟨tg,iter,ifs,0⟩] scope pos) spos) (aI (bW wi g tt te ix) (aq i)):=by
 intro pins s σ H D I h
 rw [RQ _ _ _ _ hsw]
 have hcells:QV scope X.env=pure (dg X.env scope.names []):=oR fun z hz hk=>by
  refine I.ok.has z.1 ?_
  show X.env.scope.names.lookup z.1=some .cell\/X.env.scope.names.lookup z.1=some .free
  rw [hsc]
  exact (S.free z hz hk).2
 refine Lk (QA (Lk ?_))
 show wpAny _ X.A (do let _ <-comprehension (.ListComp elt [⟨tg,iter,ifs,0⟩] scope pos) scope X.env _ (newList []) false (eval iter X.env) (some (assign (.Name y py) X.env))) _ _ s
 refine Lk (thn (O8 (use:=some (assign (.Name y py) X.env)) (Q:=fun _ s'=>SP X pins D .next s') rfl hs hcells S.kind S.names (thn (hi pins s σ H _ I h) fun v s1 h1=>thn h1 fun itv s2 h2=>?_)) fun _ s' q=>Lm (Lm q))
 obtain ⟨it,fp,tn,J,H2,e,I2,T,st2,f2,hq⟩:=h2
 subst e
 refine Bs (Q:=fun x H1=>aq i x σ H1 D.nx) (RR:=fun acc C=>compPost (model X.prog X.w) X.A X.xe (some (assign (.Name y py) X.env)) (fun _ s'=>SP X pins D .next s') acc C) hc hsc hNX S hg ht he I2 T st2 f2 hq ?_
 intro p C s' H' m hp hC hn hfree q I'
 refine QL (qx (v:=.ref p) I' hN hy (.inl hl) rfl (fun s'' I'' ⟨a,hsb,ha⟩=>?_) (.inr hl))
 have ne:C≠a:=by
  rcases ha with rfl | ha
  ·exact Nc (LN I2.lt hC)
  ·obtain ⟨v,o,ho,_⟩:=I2.cell y a ha
   exact Nc (LN (Lv ho) hC)
 exact ⟨m,hn.sameBut hsb ne,fun h'' hs''=>⟨_,H',I''.gone I2 hC hfree hs'',q⟩⟩
end
end
end L2
section
namespace L2
open PySem PySem.Spec PySem.W PyProof.Rows
noncomputable def FnA (K:Frag) (x q:Str) (st:Stmt) (f:Addr):Prop:=∃ (oc:Value) (od:Option Addr) (kV doc pm:Value) (an:Option Addr) (cd ct:Value) (sl:Array (Option Value)),K.lookup f=some ⟨oc,od,.func (fnOf x q (jY st) (fF st) (ae st) .none kV doc pm an cd ct),sl⟩/\codeIn K cd q=true/\keepIn K (.ref f)=true
noncomputable def DfA (K:Frag) (x:Str) (st:Stmt):Prop:=∃ f,nsIn K L5 x=some (some (.ref f))/\FnA K x x st f
noncomputable def MtA (K:Frag) (C:Addr) (m q:Str) (st:Stmt):Prop:=∃ f,findIn K (.ref C) m=some (some (.ref f))/\isFn K (.ref f)=true/\FnA K m q st f
theorem FnA.fn {K:Frag} {x q:Str} {st:Stmt} {f:Addr} (h:FnA K x q st f):∃ fd,Fun K x q st f fd:=let ⟨_,_,_,_,_,_,_,_,_,l,c,k⟩:=h; ⟨_,Ew l c k⟩
noncomputable abbrev BdA (x q:Str) (st:Stmt) (ps:List Str):Prop:=∀ (kV doc pm:Value) (an:Option Addr) (cdv ct:Value) (us:List Value),us.length=ps.length->bindArgs (fnOf x q (jY st) (fF st) (ae st) .none kV doc pm an cdv ct) ⟨us,[]⟩=pure (ps.zip us)
theorem DfA.df {K:Frag} {mg:Str->Option Value} {h:Heap} {x:Str} {st:Stmt} {ps:List Str} (X:K.In h) (G:h.Ns L5 mg) (q:DfA K x st) (b:BdA x x st ps):∃ f fd,Def K mg x st ps f fd:=
 let ⟨f,a,l⟩:=q; let ⟨fd,F⟩:=l.fn; ⟨f,fd,F,mg_of X G a,F.binds b⟩
theorem MtA.df {K:Frag} {C:Addr} {m q:Str} {st:Stmt} {ps:List Str} (h:MtA K C m q st) (b:BdA m q st ps):∃ f fd,fV K C m q st ps f fd:=
 let ⟨f,a,i,l⟩:=h; let ⟨fd,F⟩:=l.fn; ⟨f,fd,F,⟨a,i,F.kp⟩,F.binds b⟩
theorem MtA.di {K:Frag} {C:Addr} {q:Str} {st:Stmt} {ps:List Str} (h:MtA K C "__init__" q st) (mk:makesIn K C=true) (kc:keepIn K (.ref C)=true) (b:BdA "__init__" q st ps):∃ f fd,Ad K C q st ps f fd:=
 let ⟨f,a,i,l⟩:=h; let ⟨fd,F⟩:=l.fn; ⟨f,fd,F,⟨mk,a,i,kc⟩,F.binds b⟩
theorem DfA.law {K:Frag} {mg:Str->Option Value} {h:Heap} {x p:Str} {st:Stmt} {fa:Addr} (X:K.In h) (G:h.Ns L5 mg) (q:DfA K x st) (b:BdA x x st [p]) (hf:mg x=some (.ref fa))
  (bb:∀ (kV doc pm:Value) (an:Option Addr) (cdv ct:Value) (s:Shared) (v:Value),BindsTo s (fnOf x x (jY st) (fF st) (ae st) .none kV doc pm an cdv ct) ⟨[v],[]⟩ [(p,v)]):∃ fd,Def K mg x st [p] fa fd/\∀ (s:Shared) (v:Value),BindsTo s fd ⟨[v],[]⟩ [(p,v)]:=by
 obtain ⟨f,a,_,_,kV,doc,pm,an,cdv,ct,_,l,c,k⟩:=q
 have e:=hf.symm.trans (mg_of X G a)
 cases e
 have F:=Ew l c k
 exact ⟨_,⟨F,mg_of X G a,F.binds b⟩,bb kV doc pm an cdv ct⟩
end L2
end
namespace Kc_k36
open PySem L2 PyProof.Rows
local macro_rules | `(tactic| walk_at "v")=>`(tactic| exact ⟨rfl,by first | exact Ly rfl | exact Pt (Ly rfl) | exact Pt (Pt rfl),by decide,by decide⟩)
local macro_rules | `(tactic| walk_at "w")=>`(tactic| exact ⟨rfl,rfl,rfl,by decide +kernel,rfl,by decide +kernel,by decide +kernel⟩)
local macro_rules | `(tactic| walk_at "l")=>`(tactic| (intro _ _ _ _ h; first | (obtain ⟨_,e,_⟩:=h; subst e; rfl) | (obtain ⟨_,_,e,_⟩:=h; subst e; rfl) | (obtain ⟨_,_,_,e,_⟩:=h; subst e; rfl) | (obtain ⟨_,_,_,_,e,_⟩:=h; subst e; rfl) | (obtain ⟨_,_,_,_,_,e,_⟩:=h; subst e; rfl) | (obtain ⟨_,_,_,_,_,_,e,_⟩:=h; subst e; rfl) | (obtain ⟨_,_,_,_,_,_,_,e,_⟩:=h; subst e; rfl) | (obtain ⟨_,_,_,_,_,_,_,_,e,_⟩:=h; subst e; rfl) | (obtain ⟨_,_,_,_,_,_,_,_,_,e,_⟩:=h; subst e; rfl) | (obtain ⟨_,_,_,_,_,_,_,_,_,_,e,_⟩:=h; subst e; rfl) | (obtain ⟨_,_,_,_,_,_,_,_,_,_,_,e,_⟩:=h; subst e; rfl) | (obtain ⟨_,_,_,_,_,_,_,_,_,_,_,_,e,_⟩:=h; subst e; rfl) | (obtain ⟨_,_,_,_,_,_,_,_,_,_,_,_,_,e,_⟩:=h; subst e; rfl) | (obtain ⟨_,_,_,_,_,_,_,_,_,_,_,_,_,_,e,_⟩:=h; subst e; rfl) | (obtain ⟨_,_,_,_,_,_,_,_,_,_,_,_,_,_,_,e,_⟩:=h; subst e; rfl) | (obtain ⟨_,_,_,_,_,_,_,_,_,_,_,_,_,_,_,_,e,_⟩:=h; subst e; rfl)))
local macro_rules | `(tactic| walk_at "c")=>`(tactic| (refine ⟨rfl,?_,?_,?_,?_,rfl,?_⟩ <;> decide +kernel))
local macro_rules | `(tactic| walk_at "e")=>`(tactic| (refine ⟨rfl,?_,?_,?_,?_,rfl,?_⟩ <;> first | decide +kernel | exact Fl (by decide +kernel)))
theorem pvA {X:Cx} {N:List Str} {sc:Scope} {i:Nat} {x:Str} {pos:Pos} (h:aj N sc i x) (hN:X.N=N:=by exact rfl) (hS:X.env.scope=sc:=by exact rfl):PE X (.Name x pos) (ac i):=pvQ h hN hS
theorem rmD {n k:Nat} {A:Around} (h:bQ k A) (e:n<=k:=by decide):bQ n A:=h.mono e
noncomputable abbrev gN:List Str:=["_law_script","_law_cards","_law_sizes","_law_hands","_law_many","_law_first","_law_deeds","_law_k","_law_tables","_law_rows","_law_asked","_law_at","_law_deed_here","_law_told","_law_due","_law_beside"]
noncomputable abbrev lg:List Str:=["_law_script","_law_at","_law_cards","_law_hands","_law_most","_law_pool_here","_law_k","_law_cell_here","_law_one","_law_other","_law_some"]
noncomputable abbrev rC:List Str:=["_law_cards","_law_sizes","_law_deeds","_law_saying_here","_law_table","_law_told","_law_deed_here"]
noncomputable abbrev rD:List Str:=["_law_script","_law_at","_law_cards","_law_hands","_law_pool_here","_law_k","_law_cell_here"]
noncomputable abbrev nK:List Str:=["_law_script","_law_at","_law_cards","_law_hands"]
noncomputable abbrev rE:List Str:=["_law_script","_law_at","_law_cards","_law_hands","_law_cell_here","_law_some"]
noncomputable abbrev um:List Str:=["_law_script","_law_at","_law_most","_law_cards","_law_sizes","_law_k"]
noncomputable abbrev Az:List Str:=["_law_script","_law_at","_law_cards","_law_hands","_law_most"]
noncomputable abbrev mz:List Str:=["deals","views","S","word","inner","some"]
noncomputable abbrev fW:List Str:=["cards","sizes"]
noncomputable abbrev vF:List Str:=["_law_cards","_law_sizes","_law_deeds","_law_saying_here"]
noncomputable abbrev m6:List Str:=["many","views","points","view","thing","least"]
noncomputable abbrev kB:List Str:=["cards","hands","place","part"]
noncomputable abbrev eP:List Str:=["ones","others"]
noncomputable abbrev kE:List Str:=["cards","hands","thing"]
noncomputable abbrev gB:List Str:=["self","cards","sizes"]
noncomputable abbrev m7:List Str:=["_law_table","_law_deed_here"]
noncomputable abbrev pI:List Str:=["begun","room","longer","deal","who","most"]
noncomputable abbrev m8:List Str:=["_law_number","_law_hands"]
noncomputable abbrev lH:List Str:=["thing","least","most"]
noncomputable abbrev vG:List Str:=["_law_table","_law_hands","_law_many"]
noncomputable abbrev vH:List Str:=["_law_table","_law_hands","_law_many","_law_held"]
noncomputable abbrev pJ:List Str:=["cards","hands","thing","words","level"]
noncomputable abbrev pK:List Str:=["view","truths","sure","least","truth"]
noncomputable abbrev su:List Str:=["self","hand","holder","some","rising"]
noncomputable abbrev kF:List Str:=["self","hand","deal"]
noncomputable abbrev vI:List Str:=["_law_script","_law_k"]
noncomputable abbrev vJ:List Str:=["_law_cards","_law_sizes","_law_found","_law_many"]
noncomputable abbrev vK:List Str:=["_law_script","_law_at","_law_most"]
noncomputable abbrev sH:List Str:=["points","one","other","first","second"]
noncomputable abbrev vL:List Str:=["cards","sizes","room","begun","card"]
noncomputable abbrev m9:List Str:=["thing","bound"]
noncomputable abbrev sI:List Str:=["cards","sizes","many","left","size"]
noncomputable abbrev pL:List Str:=["deal","holder","rising"]
noncomputable abbrev lI:List Str:=["self","hands","S"]
noncomputable abbrev vM:List Str:=["self","hand","holder","some"]
noncomputable abbrev pM:List Str:=["fit","reason"]
noncomputable abbrev sK:List Str:=["marks","firsts","thing","mark"]
noncomputable abbrev vN:List Str:=["self","hands","values"]
noncomputable abbrev yV:List Str:=["cards","hands","thing","form"]
noncomputable abbrev ng:List Str:=["thing","cards"]
noncomputable abbrev vO:List Str:=["_law_cards","_law_sizes"]
noncomputable abbrev nh:List Str:=["deal","who"]
noncomputable abbrev vP:List Str:=["views","truths","answers","view"]
noncomputable abbrev yW:List Str:=["_law_saying_here","_law_found","_law_part"]
noncomputable abbrev ni:List Str:=["deals","hand"]
noncomputable abbrev lJ:List Str:=["piles","view"]
noncomputable abbrev vQ:List Str:=["points","one","other"]
noncomputable abbrev nj:List Str:=["view","values"]
noncomputable abbrev vR:List Str:=["deal","holder","rising","card"]
noncomputable abbrev vS:List Str:=["thing","hands","least","hand"]
noncomputable abbrev vT:List Str:=["self","hands","values","hand"]
noncomputable abbrev vU:List Str:=["many","taken","ways","step"]
noncomputable abbrev vV:List Str:=["view","truths"]
noncomputable abbrev sL:List Str:=["deals","views","S"]
noncomputable abbrev yX:List Str:=["_law_script","_law_k","_law_number"]
noncomputable abbrev nn:List Str:=["self","hand"]
noncomputable abbrev np:List Str:=["self","S"]
noncomputable abbrev vW:List Str:=["points","thing"]
noncomputable abbrev yY:List Str:=["_law_many","_law_found","_law_k"]
noncomputable abbrev vX:List Str:=["thing","hands"]
noncomputable abbrev sN:List Str:=["_law_saying_here"]
noncomputable abbrev iM:List Str:=["self"]
noncomputable abbrev vY:List Str:=["views","truths"]
noncomputable abbrev yZ:List Str:=["sayings","parts","saying"]
noncomputable abbrev De:List Str:=["_law_hand","_law_table","_law_many"]
noncomputable abbrev vZ:List Str:=["many","taken"]
noncomputable abbrev v3:List Str:=["begun","room"]
noncomputable abbrev v4:List Str:=["many","views"]
noncomputable abbrev Df:List Str:=["place","part","cards","hands"]
noncomputable abbrev Dg:List Str:=["hands","values","deal","hand"]
noncomputable abbrev y6:List Str:=["points","thing","end"]
noncomputable abbrev HL:List Str:=["_law_k","_law_cards","_law_script","_law_at"]
noncomputable abbrev sO:List Str:=["one","other"]
noncomputable abbrev wa:List Str:=["_law_many"]
noncomputable abbrev pN:List Str:=["thing"]
noncomputable abbrev sP:List Str:=["_law_script"]
noncomputable abbrev HM:List Str:=["_law_deal","_law_hand","_law_table"]
noncomputable abbrev Dh:List Str:=["pile","least","piles"]
noncomputable abbrev wb:List Str:=["sayings"]
noncomputable abbrev Di:List Str:=["card","holder","who"]
noncomputable abbrev y7:List Str:=["saying","form"]
noncomputable abbrev wc:List Str:=["saying"]
noncomputable abbrev Dj (P:Program) (w:World) (K:Fg) (mg:Str->Option Value) (base:Heap) (k:Nat):Prop:=FnB P w K mg base k "is_whole" pN (iE K)
noncomputable abbrev AA (P:Program) (w:World) (K:Fg) (mg:Str->Option Value) (base:Heap) (k:Nat):Prop:=FnB P w K mg base k "is_within" lH (eh K)
noncomputable abbrev uo (P:Program) (w:World) (K:Fg) (mg:Str->Option Value) (base:Heap) (k:Nat):Prop:=FnB P w K mg base k "is_below" m9 (cq K)
noncomputable abbrev Dl (P:Program) (w:World) (K:Fg) (mg:Str->Option Value) (base:Heap) (k:Nat):Prop:=FnB P w K mg base k "are_hands" vX (js K)
noncomputable abbrev GY (P:Program) (w:World) (K:Fg) (mg:Str->Option Value) (base:Heap) (k:Nat):Prop:=FnB P w K mg base k "is_pack" fW (oZ K)
noncomputable abbrev GZ (P:Program) (w:World) (K:Fg) (mg:Str->Option Value) (base:Heap) (k:Nat):Prop:=FnB P w K mg base k "choices" vZ (o0 K)
noncomputable abbrev G0 (P:Program) (w:World) (K:Fg) (mg:Str->Option Value) (base:Heap) (k:Nat):Prop:=FnB P w K mg base k "how_many" fW (nG K)
noncomputable abbrev G3 (P:Program) (w:World) (K:Fg) (mg:Str->Option Value) (base:Heap) (k:Nat):Prop:=FnB P w K mg base k "with_one_more" v3 (iX K)
noncomputable abbrev Dm (P:Program) (w:World) (K:Fg) (mg:Str->Option Value) (base:Heap) (k:Nat):Prop:=FnB P w K mg base k "deals_of" fW (kf K)
noncomputable abbrev AB (P:Program) (w:World) (K:Fg) (mg:Str->Option Value) (base:Heap) (k:Nat):Prop:=FnB P w K mg base k "cards_of" nh (iF K)
noncomputable abbrev Dn (P:Program) (w:World) (K:Fg) (mg:Str->Option Value) (base:Heap) (k:Nat):Prop:=FnB P w K mg base k "is_word" kE (pE K)
noncomputable abbrev Do (P:Program) (w:World) (K:Fg) (mg:Str->Option Value) (base:Heap) (k:Nat):Prop:=FnB P w K mg base k "parts_of_all" wb (jv K)
noncomputable abbrev Dp (P:Program) (w:World) (K:Fg) (mg:Str->Option Value) (base:Heap) (k:Nat):Prop:=FnB P w K mg base k "is_saying" kE (l9 K)
noncomputable abbrev Dq (P:Program) (w:World) (K:Fg) (mg:Str->Option Value) (base:Heap) (k:Nat):Prop:=FnB P w K mg base k "fits" kB (wM K)
noncomputable abbrev Dr (P:Program) (w:World) (K:Fg) (mg:Str->Option Value) (base:Heap) (k:Nat):Prop:=FnB P w K mg base k "parts_of" wc (nH K)
noncomputable abbrev y8 (P:Program) (w:World) (K:Fg) (mg:Str->Option Value) (base:Heap) (k:Nat):Prop:=FnB P w K mg base k "least_with_same" ["marks"] (ff K)
noncomputable abbrev Ds (P:Program) (w:World) (K:Fg) (mg:Str->Option Value) (base:Heap) (k:Nat):Prop:=FnB P w K mg base k "first_view" ni (kU K)
noncomputable abbrev Dt (P:Program) (w:World) (K:Fg) (mg:Str->Option Value) (base:Heap) (k:Nat):Prop:=FnB P w K mg base k "split" nj (t9 K)
noncomputable abbrev y9 (P:Program) (w:World) (K:Fg) (mg:Str->Option Value) (base:Heap) (k:Nat):Prop:=FnB P w K mg base k "end_of" vW (kM K)
noncomputable abbrev Du (P:Program) (w:World) (K:Fg) (mg:Str->Option Value) (base:Heap) (k:Nat):Prop:=FnB P w K mg base k "link" vQ (wJ K)
noncomputable abbrev Dv (P:Program) (w:World) (K:Fg) (mg:Str->Option Value) (base:Heap) (k:Nat):Prop:=FnB P w K mg base k "joined" v4 (qW K)
noncomputable abbrev za (P:Program) (w:World) (K:Fg) (mg:Str->Option Value) (base:Heap) (k:Nat):Prop:=FnB P w K mg base k "both" eP (si K)
noncomputable abbrev Dw (P:Program) (w:World) (K:Fg) (mg:Str->Option Value) (base:Heap) (k:Nat):Prop:=FnB P w K mg base k "either" eP (qY K)
noncomputable abbrev we (P:Program) (w:World) (K:Fg) (mg:Str->Option Value) (base:Heap) (k:Nat):Prop:=FnB P w K mg base k "known" vV (j4 K)
noncomputable abbrev Dy (P:Program) (w:World) (K:Fg) (mg:Str->Option Value) (base:Heap) (k:Nat):Prop:=FnB P w K mg base k "known_to_all" vY (jr K)
noncomputable abbrev Dz (P:Program) (w:World) (K:Fg) (mg:Str->Option Value) (base:Heap) (k:Nat):Prop:=FnB P w K mg base k "seen" lJ (wK K)
noncomputable abbrev sQ (P:Program) (w:World) (K:Fg) (mg:Str->Option Value) (base:Heap) (k:Nat):Prop:=FnB P w K mg base k "refuse_unless" pM (bN K)
noncomputable abbrev DC (P:Program) (w:World) (K:Fg) (mg:Str->Option Value) (base:Heap) (k:Nat):Prop:=FnB P w K mg base k "are_cards" ng (md K)
noncomputable abbrev DD (P:Program) (w:World) (K:Fg) (mg:Str->Option Value) (base:Heap) (k:Nat):Prop:=FnB P w K mg base k "least_held" pL (kY K)
noncomputable abbrev pO (P:Program) (w:World) (K:Fg) (mg:Str->Option Value) (base:Heap) (k:Nat):Prop:=FnB P w K mg base k "_law_cell" vI (bg K)
noncomputable abbrev DE (P:Program) (w:World) (K:Fg) (mg:Str->Option Value) (base:Heap) (k:Nat):Prop:=FnB P w K mg base k "_law_product" wa (gz K)
noncomputable abbrev DF (P:Program) (w:World) (K:Fg) (mg:Str->Option Value) (base:Heap) (k:Nat):Prop:=FnB P w K mg base k "_law_count" vO (iH K)
noncomputable abbrev DG (P:Program) (w:World) (K:Fg) (mg:Str->Option Value) (base:Heap) (k:Nat):Prop:=FnB P w K mg base k "_law_pack" vK (lW K)
noncomputable abbrev zb (P:Program) (w:World) (K:Fg) (mg:Str->Option Value) (base:Heap) (k:Nat):Prop:=FnB P w K mg base k "_law_group" m8 (dL K)
noncomputable abbrev DH (P:Program) (w:World) (K:Fg) (mg:Str->Option Value) (base:Heap) (k:Nat):Prop:=FnB P w K mg base k "_law_pool" nK (ma K)
noncomputable abbrev HN (P:Program) (w:World) (K:Fg) (mg:Str->Option Value) (base:Heap) (k:Nat):Prop:=FnB P w K mg base k "_law_words" sN (eU K 70)
noncomputable abbrev zc (P:Program) (w:World) (K:Fg) (mg:Str->Option Value) (base:Heap) (k:Nat):Prop:=FnB P w K mg base k "_law_saying" Az (fI K)
noncomputable abbrev DI (P:Program) (w:World) (K:Fg) (mg:Str->Option Value) (base:Heap) (k:Nat):Prop:=FnB P w K mg base k "_law_deed" nK (jG K)
noncomputable abbrev zd (P:Program) (w:World) (K:Fg) (mg:Str->Option Value) (base:Heap) (G:GF) (k:Nat):Prop:=FnB P w K mg base k "_law_done" m7 (gK K G)
noncomputable abbrev ze (P:Program) (w:World) (K:Fg) (mg:Str->Option Value) (base:Heap) (G:GF) (k:Nat):Prop:=FnB P w K mg base k "_law_stand" vG (cQ K G)
noncomputable abbrev DJ (P:Program) (w:World) (K:Fg) (mg:Str->Option Value) (base:Heap) (G:GF) (k:Nat):Prop:=FnB P w K mg base k "_law_anew" vF (gM K G)
noncomputable abbrev HP (P:Program) (w:World) (K:Fg) (mg:Str->Option Value) (base:Heap) (k:Nat):Prop:=FnB P w K mg base k "truths_of" sL (bY K 35)
noncomputable abbrev G4 (P:Program) (w:World) (K:Fg) (mg:Str->Option Value) (base:Heap) (G:GF) (k:Nat):Prop:=FnM P w K mg base k G.Table "show" vM (lc K G)
noncomputable abbrev G5 (P:Program) (w:World) (K:Fg) (mg:Str->Option Value) (base:Heap) (G:GF) (k:Nat):Prop:=FnM P w K mg base k G.Table "word" lI (k9 K G)
noncomputable abbrev DK (P:Program) (w:World) (K:Fg) (mg:Str->Option Value) (base:Heap) (G:GF) (k:Nat):Prop:=FnM P w K mg base k G.Table "deals" iM (ib K G)
noncomputable abbrev G6 (P:Program) (w:World) (K:Fg) (mg:Str->Option Value) (base:Heap) (G:GF) (k:Nat):Prop:=FnM P w K mg base k G.Table "saw" kF (mi K G)
noncomputable abbrev G7 (P:Program) (w:World) (K:Fg) (mg:Str->Option Value) (base:Heap) (G:GF) (k:Nat):Prop:=FnM P w K mg base k G.Table "view" nn (kZ K G)
noncomputable abbrev AC (P:Program) (w:World) (K:Fg) (mg:Str->Option Value) (base:Heap) (G:GF) (k:Nat):Prop:=FnM P w K mg base k G.Table "truths" np (cM K G)
noncomputable abbrev G8 (P:Program) (w:World) (K:Fg) (mg:Str->Option Value) (base:Heap) (G:GF) (k:Nat):Prop:=FnM P w K mg base k G.Table "again" iM (ig K G)
noncomputable abbrev DL (P:Program) (w:World) (K:Fg) (mg:Str->Option Value) (base:Heap) (G:GF) (k:Nat):Prop:=FnM P w K mg base k G.Table "learn" vN (ic K G)
seal L2.PE L2.PA L2.PS L2.PSs L2.PT L2.PW L2.PI L2.PG L2.PGs L2.PO L2.PTL L2.OpR L2.UnR L2.cF L2.SlR L2.IxR L2.FJ
noncomputable def top (i:Nat):Stmt:=PySem.Challenge.pw_knowcards_k36_tables_again.main.body.getD i (.Pass ⟨0,0,0,0⟩)
noncomputable abbrev jJ:Stmt:=top 7
theorem Bu:aE pN pN (ae jJ):=by walk_at "w"
theorem rF:aj pN (ae jJ) 0 "thing":=by walk_at "v"
noncomputable abbrev fv:Stmt:=top 8
theorem AD:aE lH lH (ae fv):=by walk_at "w"
theorem pW:aj lH (ae fv) 0 "thing":=by walk_at "v"
theorem yi:aj lH (ae fv) 1 "least":=by walk_at "v"
theorem yj:aj lH (ae fv) 2 "most":=by walk_at "v"
noncomputable abbrev ij:Stmt:=top 9
theorem Bv:aE m9 m9 (ae ij):=by walk_at "w"
theorem AE:aj m9 (ae ij) 0 "thing":=by walk_at "v"
theorem AF:aj m9 (ae ij) 1 "bound":=by walk_at "v"
noncomputable abbrev dW:Stmt:=top 10
theorem jK:aE vS vX (ae dW):=by walk_at "w"
theorem pX:aj vS (ae dW) 0 "thing":=by walk_at "v"
theorem yk:aj vS (ae dW) 1 "hands":=by walk_at "v"
theorem yl:aj vS (ae dW) 2 "least":=by walk_at "v"
theorem pY:aj vS (ae dW) 3 "hand":=by walk_at "v"
noncomputable abbrev gO:Stmt:=top 15
theorem DM:aE fW fW (ae gO):=by walk_at "w"
theorem tL:aj fW (ae gO) 0 "cards":=by walk_at "v"
theorem kG:aj fW (ae gO) 1 "sizes":=by walk_at "v"
noncomputable abbrev dU:Stmt:=top 16
theorem gq:aE sI fW (ae dU):=by walk_at "w"
theorem rG:aj sI (ae dU) 0 "cards":=by walk_at "v"
theorem rH:aj sI (ae dU) 1 "sizes":=by walk_at "v"
theorem rJ:aj sI (ae dU) 2 "many":=by walk_at "v"
theorem rK:aj sI (ae dU) 3 "left":=by walk_at "v"
theorem rL:aj sI (ae dU) 4 "size":=by walk_at "v"
noncomputable abbrev fP:Stmt:=top 17
theorem lK:aE vU vZ (ae fP):=by walk_at "w"
theorem Bw:aj vU (ae fP) 0 "many":=by walk_at "v"
theorem Bx:aj vU (ae fP) 1 "taken":=by walk_at "v"
theorem tM:aj vU (ae fP) 2 "ways":=by walk_at "v"
theorem tN:aj vU (ae fP) 3 "step":=by walk_at "v"
noncomputable abbrev fj:Stmt:=top 18
theorem iG:aE vL fW (ae fj):=by walk_at "w"
theorem mB:aj vL (ae fj) 0 "cards":=by walk_at "v"
theorem mC:aj vL (ae fj) 1 "sizes":=by walk_at "v"
theorem AG:aj vL (ae fj) 2 "room":=by walk_at "v"
theorem rM:aj vL (ae fj) 3 "begun":=by walk_at "v"
noncomputable abbrev bI:Stmt:=top 19
theorem eK:aE pI v3 (ae bI):=by walk_at "w"
theorem sU:aj pI (ae bI) 0 "begun":=by walk_at "v"
theorem sV:aj pI (ae bI) 1 "room":=by walk_at "v"
theorem ll:aj pI (ae bI) 2 "longer":=by walk_at "v"
theorem ln:aj pI (ae bI) 3 "deal":=by walk_at "v"
theorem lp:aj pI (ae bI) 4 "who":=by walk_at "v"
theorem sW:aj pI (ae bI) 5 "most":=by walk_at "v"
noncomputable abbrev im:Stmt:=top 20
theorem By:aE nh nh (ae im):=by walk_at "w"
theorem AH:aj nh (ae im) 0 "deal":=by walk_at "v"
noncomputable abbrev cI:Stmt:=top 24
theorem gP:aE pJ kE (ae cI):=by walk_at "w"
theorem ym:aj pJ (ae cI) 0 "cards":=by walk_at "v"
theorem yn:aj pJ (ae cI) 1 "hands":=by walk_at "v"
theorem yo:aj pJ (ae cI) 2 "thing":=by walk_at "v"
theorem pZ:aj pJ (ae cI) 3 "words":=by walk_at "v"
theorem iN:aj pJ (ae cI) 4 "level":=by walk_at "v"
noncomputable abbrev gQ:Stmt:=top 25
theorem wf:aE yV kE (ae gQ):=by walk_at "w"
theorem fw:aj yV (ae gQ) 2 "thing":=by walk_at "v"
theorem tO:aj yV (ae gQ) 3 "form":=by walk_at "v"
noncomputable abbrev kQ:Stmt:=top 26
theorem Ji:aE kB kB (ae kQ):=by walk_at "w"
theorem G9:aj kB (ae kQ) 0 "cards":=by walk_at "v"
theorem uq:aj kB (ae kQ) 1 "hands":=by walk_at "v"
theorem pP:aj kB (ae kQ) 2 "place":=by walk_at "v"
theorem pQ:aj kB (ae kQ) 3 "part":=by walk_at "v"
noncomputable abbrev fX:Stmt:=top 27
theorem tP:aE y7 wc (ae fX):=by walk_at "w"
theorem rN:aj y7 (ae fX) 0 "saying":=by walk_at "v"
theorem AI:aj y7 (ae fX) 1 "form":=by walk_at "v"
noncomputable abbrev cX:Stmt:=top 28
theorem jL:aE yZ wb (ae cX):=by walk_at "w"
theorem ur:aj yZ (ae cX) 0 "sayings":=by walk_at "v"
theorem mD:aj yZ (ae cX) 1 "parts":=by walk_at "v"
theorem ut:aj yZ (ae cX) 2 "saying":=by walk_at "v"
noncomputable abbrev fK:Stmt:=top 30
theorem yp:aE ni ni (ae fK):=by walk_at "w"
theorem wY:aj ni (ae fK) 0 "deals":=by walk_at "v"
noncomputable abbrev lN:Stmt:=top 31
theorem Ha:aE nj nj (ae lN):=by walk_at "w"
theorem Fv:aj nj (ae lN) 0 "view":=by walk_at "v"
theorem Fw:aj nj (ae lN) 1 "values":=by walk_at "v"
noncomputable abbrev bF:Stmt:=top 32
theorem fk:aE sK ["marks"] (ae bF):=by walk_at "w"
theorem jV:aj sK (ae bF) 0 "marks":=by walk_at "v"
theorem qt:aj sK (ae bF) 1 "firsts":=by walk_at "v"
theorem qu:aj sK (ae bF) 2 "thing":=by walk_at "v"
theorem qw:aj sK (ae bF) 3 "mark":=by walk_at "v"
noncomputable abbrev eL:Stmt:=top 33
theorem kR:aE m6 v4 (ae eL):=by walk_at "w"
theorem wg:aj m6 (ae eL) 0 "many":=by walk_at "v"
theorem DN:aj m6 (ae eL) 1 "views":=by walk_at "v"
theorem DO:aj m6 (ae eL) 2 "points":=by walk_at "v"
theorem DP:aj m6 (ae eL) 3 "view":=by walk_at "v"
theorem DQ:aj m6 (ae eL) 4 "thing":=by walk_at "v"
theorem DR:aj m6 (ae eL) 5 "least":=by walk_at "v"
noncomputable abbrev jM:Stmt:=top 34
theorem wZ:aE sH vQ (ae jM):=by walk_at "w"
theorem uu:aj sH (ae jM) 0 "points":=by walk_at "v"
theorem Hb:aj sH (ae jM) 1 "one":=by walk_at "v"
theorem Hc:aj sH (ae jM) 2 "other":=by walk_at "v"
theorem AJ:aj sH (ae jM) 3 "first":=by walk_at "v"
theorem AK:aj sH (ae jM) 4 "second":=by walk_at "v"
noncomputable abbrev i3:Stmt:=top 35
theorem rO:aE y6 vW (ae i3):=by walk_at "w"
theorem jN:aj y6 (ae i3) 0 "points":=by walk_at "v"
theorem DS:aj y6 (ae i3) 1 "thing":=by walk_at "v"
theorem ip:aj y6 (ae i3) 2 "end":=by walk_at "v"
noncomputable abbrev bJ:Stmt:=top 37
theorem gR:aE mz sL (ae bJ):=by walk_at "w"
theorem cA:aj mz (ae bJ) 0 "deals":=by walk_at "v"
theorem cR:aj mz (ae bJ) 1 "views":=by walk_at "v"
theorem b8:aj mz (ae bJ) 2 "S":=by walk_at "v"
theorem dN:aj mz (ae bJ) 3 "word":=by walk_at "v"
theorem lh:aj mz (ae bJ) 4 "inner":=by walk_at "v"
theorem p8:aj mz (ae bJ) 5 "some":=by walk_at "v"
noncomputable abbrev mE:Stmt:=top 38
theorem Jj:aE eP eP (ae mE):=by walk_at "w"
theorem He:aj eP (ae mE) 0 "ones":=by walk_at "v"
theorem Hf:aj eP (ae mE) 1 "others":=by walk_at "v"
noncomputable abbrev i4:Stmt:=top 39
theorem Fy:aE eP eP (ae i4):=by walk_at "w"
theorem DT:aj eP (ae i4) 0 "ones":=by walk_at "v"
theorem DU:aj eP (ae i4) 1 "others":=by walk_at "v"
noncomputable abbrev gr:Stmt:=top 40
theorem pR:aE pK vV (ae gr):=by walk_at "w"
theorem rP:aj pK (ae gr) 0 "view":=by walk_at "v"
theorem Fz:aj pK (ae gr) 1 "truths":=by walk_at "v"
theorem FA:aj pK (ae gr) 2 "sure":=by walk_at "v"
theorem FB:aj pK (ae gr) 3 "least":=by walk_at "v"
theorem FC:aj pK (ae gr) 4 "truth":=by walk_at "v"
noncomputable abbrev cE:Stmt:=top 41
theorem gC:aE vP vY (ae cE):=by walk_at "w"
theorem uv:aj vP (ae cE) 0 "views":=by walk_at "v"
theorem mF:aj vP (ae cE) 1 "truths":=by walk_at "v"
theorem mG:aj vP (ae cE) 2 "answers":=by walk_at "v"
theorem uw:aj vP (ae cE) 3 "view":=by walk_at "v"
noncomputable abbrev mH:Stmt:=top 42
theorem Jk:aE lJ lJ (ae mH):=by walk_at "w"
theorem Hg:aj lJ (ae mH) 0 "piles":=by walk_at "v"
theorem AL:aj lJ (ae mH) 1 "view":=by walk_at "v"
noncomputable abbrev fm:Stmt:=top 45
theorem ux:aE pM pM (ae fm):=by walk_at "w"
theorem sX:aj pM (ae fm) 0 "fit":=by walk_at "v"
noncomputable abbrev gu:Stmt:=top 46
theorem AM:aE ng ng (ae gu):=by walk_at "w"
theorem qa:aj ng (ae gu) 0 "thing":=by walk_at "v"
noncomputable abbrev dq:Stmt:=top 47
theorem qb:aE vR pL (ae dq):=by walk_at "w"
theorem w5:aj vR (ae dq) 0 "deal":=by walk_at "v"
theorem w6:aj vR (ae dq) 1 "holder":=by walk_at "v"
theorem w9:aj vR (ae dq) 2 "rising":=by walk_at "v"
theorem oj:aj vR (ae dq) 3 "card":=by walk_at "v"
noncomputable abbrev fz:Stmt:=top 49
theorem jO:aE yX vI (ae fz):=by walk_at "w"
theorem gh:aj yX (ae fz) 0 "_law_script":=by walk_at "v"
theorem eV:aj yX (ae fz) 1 "_law_k":=by walk_at "v"
theorem iO:aj yX (ae fz) 2 "_law_number":=by walk_at "v"
noncomputable abbrev cY:Stmt:=top 50
theorem gD:aE yY wa (ae cY):=by walk_at "w"
theorem uy:aj yY (ae cY) 0 "_law_many":=by walk_at "v"
theorem mI:aj yY (ae cY) 1 "_law_found":=by walk_at "v"
theorem uz:aj yY (ae cY) 2 "_law_k":=by walk_at "v"
noncomputable abbrev dt:Stmt:=top 51
theorem iP:aE vJ vO (ae dt):=by walk_at "w"
theorem ol:aj vJ (ae dt) 0 "_law_cards":=by walk_at "v"
theorem om:aj vJ (ae dt) 1 "_law_sizes":=by walk_at "v"
theorem on:aj vJ (ae dt) 2 "_law_found":=by walk_at "v"
theorem xa:aj vJ (ae dt) 3 "_law_many":=by walk_at "v"
noncomputable abbrev cJ:Stmt:=top 52
theorem fL:aE um vK (ae cJ):=by walk_at "w"
theorem gi:aj um (ae cJ) 0 "_law_script":=by walk_at "v"
theorem gj:aj um (ae cJ) 1 "_law_at":=by walk_at "v"
theorem yq:aj um (ae cJ) 2 "_law_most":=by walk_at "v"
theorem gk:aj um (ae cJ) 3 "_law_cards":=by walk_at "v"
theorem b9:aj um (ae cJ) 4 "_law_sizes":=by walk_at "v"
theorem yr:aj um (ae cJ) 5 "_law_k":=by walk_at "v"
noncomputable abbrev eM:Stmt:=top 53
theorem gm:aE yW sN (ae eM):=by walk_at "w"
theorem xc:aj yW (ae eM) 0 "_law_saying_here":=by walk_at "v"
theorem oo:aj yW (ae eM) 1 "_law_found":=by walk_at "v"
theorem iq:aj yW (ae eM) 2 "_law_part":=by walk_at "v"
noncomputable abbrev fM:Stmt:=top 54
theorem yt:aE m8 m8 (ae fM):=by walk_at "w"
theorem xf:aj m8 (ae fM) 1 "_law_hands":=by walk_at "v"
noncomputable abbrev cr:Stmt:=top 55
theorem jP:aE rD nK (ae cr):=by walk_at "w"
theorem qc:aj rD (ae cr) 0 "_law_script":=by walk_at "v"
theorem qd:aj rD (ae cr) 1 "_law_at":=by walk_at "v"
theorem qe:aj rD (ae cr) 2 "_law_cards":=by walk_at "v"
theorem qf:aj rD (ae cr) 3 "_law_hands":=by walk_at "v"
theorem qg:aj rD (ae cr) 4 "_law_pool_here":=by walk_at "v"
theorem yu:aj rD (ae cr) 5 "_law_k":=by walk_at "v"
theorem qh:aj rD (ae cr) 6 "_law_cell_here":=by walk_at "v"
noncomputable abbrev bn:Stmt:=top 56
theorem bG:aE lg Az (ae bn):=by walk_at "w"
theorem jQ:aj lg (ae bn) 0 "_law_script":=by walk_at "v"
theorem jR:aj lg (ae bn) 1 "_law_at":=by walk_at "v"
theorem wj:aj lg (ae bn) 2 "_law_cards":=by walk_at "v"
theorem ci:aj lg (ae bn) 3 "_law_hands":=by walk_at "v"
theorem wk:aj lg (ae bn) 4 "_law_most":=by walk_at "v"
theorem fo:aj lg (ae bn) 5 "_law_pool_here":=by walk_at "v"
theorem wl:aj lg (ae bn) 6 "_law_k":=by walk_at "v"
theorem bK:aj lg (ae bn) 7 "_law_cell_here":=by walk_at "v"
theorem bT:aj lg (ae bn) 8 "_law_one":=by walk_at "v"
theorem cN:aj lg (ae bn) 9 "_law_other":=by walk_at "v"
theorem cZ:aj lg (ae bn) 10 "_law_some":=by walk_at "v"
noncomputable abbrev cu:Stmt:=top 57
theorem mJ:aE rE nK (ae cu):=by walk_at "w"
theorem li:aj rE (ae cu) 0 "_law_script":=by walk_at "v"
theorem lj:aj rE (ae cu) 1 "_law_at":=by walk_at "v"
theorem qj:aj rE (ae cu) 2 "_law_cards":=by walk_at "v"
theorem iQ:aj rE (ae cu) 3 "_law_hands":=by walk_at "v"
theorem iR:aj rE (ae cu) 4 "_law_cell_here":=by walk_at "v"
theorem yv:aj rE (ae cu) 5 "_law_some":=by walk_at "v"
noncomputable abbrev gx:Stmt:=top 59
theorem AN:aE m7 m7 (ae gx):=by walk_at "w"
theorem qk:aj m7 (ae gx) 0 "_law_table":=by walk_at "v"
theorem eW:aj m7 (ae gx) 1 "_law_deed_here":=by walk_at "v"
noncomputable abbrev du:Stmt:=top 60
theorem ql:aE vH vG (ae du):=by walk_at "w"
theorem xg:aj vH (ae du) 0 "_law_table":=by walk_at "v"
theorem xh:aj vH (ae du) 1 "_law_hands":=by walk_at "v"
theorem xi:aj vH (ae du) 3 "_law_held":=by walk_at "v"
noncomputable abbrev cv:Stmt:=top 61
theorem gS:aE rC vF (ae cv):=by walk_at "w"
theorem yw:aj rC (ae cv) 0 "_law_cards":=by walk_at "v"
theorem qm:aj rC (ae cv) 1 "_law_sizes":=by walk_at "v"
theorem yx:aj rC (ae cv) 2 "_law_deeds":=by walk_at "v"
theorem yy:aj rC (ae cv) 3 "_law_saying_here":=by walk_at "v"
theorem iS:aj rC (ae cv) 4 "_law_table":=by walk_at "v"
theorem yz:aj rC (ae cv) 5 "_law_told":=by walk_at "v"
theorem yA:aj rC (ae cv) 6 "_law_deed_here":=by walk_at "v"
noncomputable abbrev dH:Stmt:=top 62
theorem cU:aE gN sP (ae dH):=by walk_at "w"
theorem jc:aj gN (ae dH) 0 "_law_script":=by walk_at "v"
theorem jd:aj gN (ae dH) 1 "_law_cards":=by walk_at "v"
theorem lO:aj gN (ae dH) 2 "_law_sizes":=by walk_at "v"
theorem gy:aj gN (ae dH) 3 "_law_hands":=by walk_at "v"
theorem oq:aj gN (ae dH) 4 "_law_many":=by walk_at "v"
theorem xj:aj gN (ae dH) 5 "_law_first":=by walk_at "v"
theorem ou:aj gN (ae dH) 6 "_law_deeds":=by walk_at "v"
theorem ow:aj gN (ae dH) 7 "_law_k":=by walk_at "v"
theorem ir:aj gN (ae dH) 8 "_law_tables":=by walk_at "v"
theorem xk:aj gN (ae dH) 9 "_law_rows":=by walk_at "v"
theorem j7:aj gN (ae dH) 10 "_law_asked":=by walk_at "v"
theorem fY:aj gN (ae dH) 11 "_law_at":=by walk_at "v"
theorem pS:aj gN (ae dH) 12 "_law_deed_here":=by walk_at "v"
theorem Hh:aj gN (ae dH) 13 "_law_told":=by walk_at "v"
theorem uA:aj gN (ae dH) 14 "_law_due":=by walk_at "v"
theorem uB:aj gN (ae dH) 15 "_law_beside":=by walk_at "v"
noncomputable abbrev dv:Stmt:=gY (top 44) 0
theorem yB:aE gB gB (ae dv):=by walk_at "w"
theorem da:aj gB (ae dv) 0 "self":=by walk_at "v"
theorem ox:aj gB (ae dv) 1 "cards":=by walk_at "v"
theorem j8:aj gB (ae dv) 2 "sizes":=by walk_at "v"
noncomputable abbrev gn:Stmt:=gY (top 44) 1
theorem xl:aE iM iM (ae gn):=by walk_at "w"
theorem wm:aj iM (ae gn) 0 "self":=by walk_at "v"
noncomputable abbrev fN:Stmt:=gY (top 44) 2
theorem yC:aE nn nn (ae fN):=by walk_at "w"
theorem oy:aj nn (ae fN) 0 "self":=by walk_at "v"
theorem oz:aj nn (ae fN) 1 "hand":=by walk_at "v"
noncomputable abbrev eN:Stmt:=gY (top 44) 3
theorem yD:aE lI lI (ae eN):=by walk_at "w"
theorem j9:aj lI (ae eN) 0 "self":=by walk_at "v"
theorem oA:aj lI (ae eN) 1 "hands":=by walk_at "v"
theorem xm:aj lI (ae eN) 2 "S":=by walk_at "v"
noncomputable abbrev cO:Stmt:=gY (top 44) 4
theorem qo:aE su vM (ae cO):=by walk_at "w"
theorem fO:aj su (ae cO) 0 "self":=by walk_at "v"
theorem oB:aj su (ae cO) 1 "hand":=by walk_at "v"
theorem xn:aj su (ae cO) 2 "holder":=by walk_at "v"
theorem oE:aj su (ae cO) 3 "some":=by walk_at "v"
noncomputable abbrev d5:Stmt:=gY (top 44) 5
theorem wn:aE np np (ae d5):=by walk_at "w"
theorem fZ:aj np (ae d5) 0 "self":=by walk_at "v"
theorem mK:aj np (ae d5) 1 "S":=by walk_at "v"
noncomputable abbrev dX:Stmt:=gY (top 44) 6
theorem AO:aE kF kF (ae dX):=by walk_at "w"
theorem iT:aj kF (ae dX) 0 "self":=by walk_at "v"
theorem qp:aj kF (ae dX) 1 "hand":=by walk_at "v"
theorem qq:aj kF (ae dX) 2 "deal":=by walk_at "v"
noncomputable abbrev eX:Stmt:=gY (top 44) 7
theorem oF:aE ["self","other"] iM (ae eX):=by walk_at "w"
theorem gE:aj ["self","other"] (ae eX) 0 "self":=by walk_at "v"
theorem jS:aj ["self","other"] (ae eX) 1 "other":=by walk_at "v"
noncomputable abbrev cS:Stmt:=gY (top 44) 8
theorem oG:aE vT vN (ae cS):=by walk_at "w"
theorem jT:aj vT (ae cS) 0 "self":=by walk_at "v"
theorem nu:aj vT (ae cS) 1 "hands":=by walk_at "v"
theorem jU:aj vT (ae cS) 2 "values":=by walk_at "v"
theorem nv:aj vT (ae cS) 3 "hand":=by walk_at "v"
section
variable {P:Program} {w:World} {K:Fg} {mg:Str->Option Value} {base:Heap} {f:Addr} {fd:LL}
theorem Bz (D:Def K mg "is_whole" jJ pN f fd) (B:Blt mg):Dj P w K mg base 1:=by
 refine D.ok Bu (by walk_at "l") fun _ _ _ _ _ _ _ _ hr h=>?_
 exact ⟨uU K,(ao (ay (qy (aJ fS rfl B.isinstance NI (af (pvA rF) (af (gT (v:=.ty "int") rfl B.int boot_int rfl) ag))) (nL (Ed (aJ fS rfl B.isinstance NI (af (pvA rF) (af (gT (v:=.ty "bool") rfl B.bool boot_bool rfl) ag)))))))),Bb h⟩
theorem AQ (D:Def K mg "is_within" fv lH f fd) (B:Blt mg) (U34:Dj P w K mg base 1):AA P w K mg base 2:=by
 refine D.ok AD (by walk_at "l") fun _ _ _ _ _ _ _ _ hr h=>?_
 exact ⟨tH K,(ao (ay (qy (ak U34 (rmD hr) (af (pvA pW) ag)) (nL (FN yO yO (pvA yi) (pvA pW) (pvA yj)))))),zN h⟩
theorem BA (D:Def K mg "is_below" ij m9 f fd) (B:Blt mg) (U25:AA P w K mg base 2):uo P w K mg base 3:=by
 refine D.ok Bv (by walk_at "l") fun _ _ _ _ _ _ _ _ hr h=>?_
 exact ⟨lB K,(ao (ay (ak U25 (rmD hr) (af (pvA AE) (ar am (aG (av eZ (pvA AF) am) ag)))))),Bk h⟩
theorem AR (D:Def K mg "are_hands" dW vX f fd) (B:Blt mg) (U25:AA P w K mg base 2):Dl P w K mg base 3:=by
 refine D.ok jK (by walk_at "l") fun _ _ _ _ _ _ _ _ hr h=>?_
 exact ⟨ki K,(ai (bo (eY (dO (aJ fS rfl B.isinstance NI (af (pvA pX) (af (gT (v:=.ty "tuple") rfl B.tuple Q2 rfl) ag))))) (ao (ay dP)) aS)
  (ai (aA (i:=2) jK.nd rfl (Ly rfl) am)
  (ai (bX LY rfl (uE (pvA pX)) (aB (i:=3) jK.nd rfl (Ly rfl)) (ai (bo (eY (dO (ak U25 (rmD hr) (af (pvA pY) (af (pvA yl) (aG (av eZ (pvA yk) am) ag)))))) (ao (ay dP)) aS)
  (ao (aA (i:=2) jK.nd rfl (Ly rfl) (av bt (pvA pY) am)))))
  (ao (ay dP))))),zX h⟩
theorem DV (D:Def K mg "is_pack" gO fW f fd) (B:Blt mg) {t_MOST_CARDS:Tok} (m_MOST_CARDS:mg "MOST_CARDS"=some (.int 12 t_MOST_CARDS)) {t_MOST_HANDS:Tok} (m_MOST_HANDS:mg "MOST_HANDS"=some (.int 5 t_MOST_HANDS)) (U25:AA P w K mg base 2):GY P w K mg base 3:=by
 refine D.ok DM (by walk_at "l") fun _ _ _ _ _ _ _ _ hr h=>?_
 exact ⟨xL K,(ai (bo (eY (dO (ak U25 (rmD hr) (af (pvA tL) (ar am (af (jX (v:=(.int 12)) rfl m_MOST_CARDS ⟨_,rfl⟩) ag)))))) (ao (ay dP)) aS)
  (ai (bo (PW.pt (lv (eY (dO (aJ fS rfl B.isinstance NI (af (pvA kG) (af (gT (v:=.ty "list") rfl B.list N0 rfl) ag))))) (je (eY (dO (ak U25 (rmD hr) (aL (aJ aZ rfl B.len Nb (af (pvA kG) ag)) (ar am (af (jX (v:=(.int 5)) rfl m_MOST_HANDS ⟨_,rfl⟩) ag))))))))) (ao (ay dP)) aS)
  (ao (ay (qy (aJ (mO rfl) rfl B.all TK (bZ (bP (sc:=(ae gO)) (NX:=fW) (N:=["size","cards"]) (ix:=[none,some 0]) rfl (by walk_at "c") (cb (pvA kG)) (by intros; exact (aB (i:=0) (show (["size","cards"]:List Str).Nodup by decide +kernel) rfl (Ly rfl))) (by intros; exact bV) (by intros; exact (ak U25 (rmD hr) (af (pv 0) (ar am (af (pv 1) ag)))))) ag)) (nL (nQ yO (aJ (kI rfl) rfl B.sum Sh (af (pvA kG) ag)) (pvA tL) (aU _)))))))),CK h⟩
theorem BB (D:Def K mg "how_many" dU fW f fd) (B:Blt mg) (U39:GZ P w K mg base 1) (U41:GY P w K mg base 3):G0 P w K mg base 4:=by
 refine D.ok gq (by walk_at "l") fun _ _ _ _ _ _ _ _ hr h=>?_
 exact ⟨uW K,(ai (bo (eY (dO (ak U41 (rmD hr) (af (pvA rG) (af (pvA rH) ag))))) (ao oJ) aS)
  (ai (aA (i:=2) gq.nd rfl (Ly rfl) am)
  (ai (aA (i:=3) gq.nd rfl (Ly rfl) (pvA rG))
  (ai (bX LY rfl (cb (pvA rH)) (aB (i:=4) gq.nd rfl (Ly rfl)) (ai (aA (i:=2) gq.nd rfl (Ly rfl) (av eS (pvA rJ) (ak U39 (rmD hr) (af (pvA rK) (af (pvA rL) ag)))))
  (ao (aA (i:=3) gq.nd rfl (Ly rfl) (av eZ (pvA rK) (pvA rL))))))
  (ao (ay (pvA rJ))))))),Bc h⟩
theorem DW (D:Def K mg "choices" fP vZ f fd) (B:Blt mg):GZ P w K mg base 1:=by
 refine D.ok lK (by walk_at "l") fun _ _ _ _ _ _ _ _ hr h=>?_
 exact ⟨xM K,(ai (aA (i:=2) lK.nd rfl (Ly rfl) am)
  (ai (bX LY rfl (cc rfl B.range (af (pvA Bx) ag)) (aB (i:=3) lK.nd rfl (Ly rfl)) (ao (aA (i:=2) lK.nd rfl (Ly rfl) (av ck (av eS (pvA tM) (av eZ (pvA Bw) (pvA tN))) (av bt (pvA tN) am)))))
  (ao (ay (pvA tM))))),CL h⟩
theorem BC (D:Def K mg "deals_of" fj fW f fd) (B:Blt mg) {t_MOST_DEALS:Tok} (m_MOST_DEALS:mg "MOST_DEALS"=some (.int 2000 t_MOST_DEALS)) (U37:G0 P w K mg base 4) (U1:G3 P w K mg base 1):Dm P w K mg base 5:=by
 refine D.ok iG (by walk_at "l") fun _ _ _ _ _ _ _ _ hr h=>?_
 exact ⟨uX K,(ai (bo (aQ mL (ak U37 (rmD hr) (af (pvA mB) (af (pvA mC) ag))) (jX (v:=(.int 2000)) rfl m_MOST_DEALS ⟨_,rfl⟩) (aU _)) (ao oJ) aS)
  (ai (aA (i:=2) iG.nd rfl (Ly rfl) (av Et (pvA mC) (zk (aG (av eZ (pvA mB) (aJ (kI rfl) rfl B.sum Sh (af (pvA mC) ag))) ag))))
  (ai (aA (i:=3) iG.nd rfl (Ly rfl) (zk (bw (En ag) ag)))
  (ai (bX LY rfl (cc rfl B.range (af (pvA mB) ag)) (aB (i:=4) iG.nd rfl (Ly rfl)) (ao (aA (i:=3) iG.nd rfl (Ly rfl) (ak U1 (rmD hr) (af (pvA rM) (af (pvA AG) ag))))))
  (ao (ay (pvA rM))))))),Bd h⟩
theorem uC (D:Def K mg "with_one_more" bI v3 f fd) (B:Blt mg):G3 P w K mg base 1:=by
 refine D.ok eK (by walk_at "l") fun _ _ _ _ _ _ _ _ hr h=>?_
 exact ⟨mU K,(ai (aA (i:=2) eK.nd rfl (Ly rfl) (zk ag))
  (ai (bX LY rfl (cb (pvA sU)) (aB (i:=3) eK.nd rfl (Ly rfl)) (ao (bX LY rfl (rY bS rfl B.enumerate (by decide) (af (pvA sV) ag)) (gb rfl (bq (aB (i:=4) eK.nd rfl (Ly rfl)) (bq (aB (i:=5) eK.nd rfl (Ly rfl)) eR))) (ao (bo (aQ Hn (Kv PySem.F.plainAttrs_tuple Rb PySem.F.type_tuple_count EE (pvA ln) (af (pvA lp) ag)) (pvA sW) (aU _)) (ao (cj (lw MF M6 M7 fc (pvA ll) (aG (av Ii (pvA ln) (En (af (pvA lp) ag))) ag)))) aS)))))
  (ao (ay (pvA ll))))),tZ h⟩
theorem BD (D:Def K mg "cards_of" im nh f fd) (B:Blt mg):AB P w K mg base 1:=by
 refine D.ok By (by walk_at "l") fun _ _ _ _ _ _ _ _ hr h=>?_
 exact ⟨uY K,(ao (ay (ce pT rfl B.tuple Q2 (bZ (bP (sc:=(ae im)) (NX:=nh) (N:=Di) (ix:=[none,none,some 1]) rfl (by walk_at "c") (rY iU rfl B.enumerate (by decide) (af (pvA AH) ag)) (by intros; exact (gb rfl (bq (aB (i:=0) (show (Di:List Str).Nodup by decide +kernel) rfl (Ly rfl)) (bq (aB (i:=1) (show (Di:List Str).Nodup by decide +kernel) rfl (Ly rfl)) eR)))) (by intros; exact (rW (aQ de (pv 1) (pv 2) (aU _)))) (by intros; exact (pv 0))) ag)))),Be h⟩
theorem AS (D:Def K mg "is_saying" cI kE f fd) (B:Blt mg) {t_MOST_WORDS:Tok} (m_MOST_WORDS:mg "MOST_WORDS"=some (.int 30 t_MOST_WORDS)) (U34:Dj P w K mg base 1) (U40:Dn P w K mg base 5) (U5:Do P w K mg base 2):Dp P w K mg base 6:=by
 refine D.ok gP (by walk_at "l") fun _ _ _ _ _ _ _ _ hr h=>?_
 exact ⟨kj K,(ai (bo (PW.pt (lv (eY (dO (ak U34 (rmD hr) (af (pvA ym) ag)))) (je (eY (dO (ak U34 (rmD hr) (af (pvA yn) ag))))))) (ao (ay dP)) aS)
  (ai (aA (i:=3) gP.nd rfl (Ly rfl) am)
  (ai (aA (i:=4) gP.nd rfl (Ly rfl) (cL (af (pvA yo) ag)))
  (ai (tQ LY (aQ mL (aJ aZ rfl B.len Nb (af (pvA iN) ag)) am (aU _)) (ai (aA (i:=3) gP.nd rfl (Ly rfl) (av bt (pvA pZ) (aJ aZ rfl B.len Nb (af (pvA iN) ag))))
  (ai (bo (PW.pt (lv (aQ mL (pvA pZ) (jX (v:=(.int 30)) rfl m_MOST_WORDS ⟨_,rfl⟩) (aU _)) (je (eY (dO (aJ (mO rfl) rfl B.all TK (bZ (bP (sc:=(ae cI)) (NX:=pJ) (N:=["one","cards","hands"]) (ix:=[none,some 0,some 1]) rfl (by walk_at "c") (cb (pvA iN)) (by intros; exact (aB (i:=0) (show (["one","cards","hands"]:List Str).Nodup by decide +kernel) rfl (Ly rfl))) (by intros; exact bV) (by intros; exact (ak U40 (rmD hr) (af (pv 1) (af (pv 2) (af (pv 0) ag)))))) ag))))))) (ao (ay dP)) aS)
  (ao (aA (i:=4) gP.nd rfl (Ly rfl) (ak U5 (rmD hr) (af (pvA iN) ag)))))))
  (ao (ay dP)))))),zZ h⟩
theorem DX (D:Def K mg "is_word" gQ kE f fd) (B:Blt mg) {G:GF} (T:dG P w K mg G) (U50:Dq P w K mg base 4):Dn P w K mg base 5:=by
 refine D.ok wf (by walk_at "l") fun _ _ _ _ _ _ _ _ hr h=>?_
 have m_FORMS:=T.tb.mf
 have d_FORMS:=T.tb.df
 exact ⟨mX K G.toGlo,(ai (bo (PW.pt (lv (eY (dO (aJ fS rfl B.isinstance NI (af (pvA fw) (af (gT (v:=.ty "tuple") rfl B.tuple Q2 rfl) ag))))) (je (aQ de (aJ aZ rfl B.len Nb (af (pvA fw) ag)) am (aU _))))) (ao (ay dP)) aS)
  (ai (bo (PW.pt (lv (eY (dO (aJ fS rfl B.isinstance NI (aD (aM bm (pvA fw) am (fun _ _=>rfl)) (af (gT (v:=.ty "str") rfl B.str boot_str rfl) ag))))) (je (aQ (Ac d_FORMS) (aM bm (pvA fw) am (fun _ _=>rfl)) (jX (v:=(.ref G.forms)) rfl m_FORMS rfl) rfl)))) (ao (ay dP)) aS)
  (ai (aA (i:=3) wf.nd rfl (Ly rfl) (Fc d_FORMS (jX (v:=(.ref G.forms)) rfl m_FORMS rfl) (aM bm (pvA fw) am (fun _ _=>rfl)) (fun _ _=>rfl)))
  (ai (bo (aQ Hl (aJ aZ rfl B.len Nb (af (pvA fw) ag)) (av bt am (aJ aZ rfl B.len Nb (af (pvA tO) ag))) (aU _)) (ao (ay dP)) aS)
  (ao (ay (aJ (mO rfl) rfl B.all TK (bZ (bP (sc:=(ae gQ)) (NX:=yV) (N:=Df) (ix:=[none,none,some 0,some 1]) rfl (by walk_at "c") (nV iU iU rfl B.zip (af (pvA tO) (aD (tV Ab (pvA fw) (wx am) ww) ag))) (by intros; exact (gb rfl (bq (aB (i:=0) (show (Df:List Str).Nodup by decide +kernel) rfl (Ly rfl)) (bq (aB (i:=1) (show (Df:List Str).Nodup by decide +kernel) rfl (Ly rfl)) eR)))) (by intros; exact bV) (by intros; exact (ak U50 (rmD hr) (af (pv 2) (af (pv 3) (af (pv 0) (af (pv 1) ag))))))) ag)))))))),CU T.tb.ok h⟩
theorem Jl (D:Def K mg "fits" kQ kB f fd) (B:Blt mg) (U30:Dl P w K mg base 3) (U35:uo P w K mg base 3):Dq P w K mg base 4:=by
 refine D.ok Ji (by walk_at "l") fun _ _ _ _ _ _ _ _ hr h=>?_
 exact ⟨vo K,(ai (bo (aQ de (pvA pP) aW (aU _)) (ao (ay (ak U35 (rmD hr) (af (pvA pQ) (aG (av bt (pvA uq) am) ag))))) aS)
  (ai (bo (aQ de (pvA pP) aW (aU _)) (ao (ay (ak U35 (rmD hr) (af (pvA pQ) (af (pvA G9) ag))))) aS)
  (ai (bo (aQ de (pvA pP) aW (aU _)) (ao (ay (ak U35 (rmD hr) (af (pvA pQ) (af (pvA uq) ag))))) aS)
  (ai (bo (aQ de (pvA pP) aW (aU _)) (ao (ay (ak U30 (rmD hr) (af (pvA pQ) (af (pvA uq) ag))))) aS)
  (ao (ay dP)))))),IL h⟩
theorem BE (D:Def K mg "parts_of" fX wc f fd) (B:Blt mg) {G:GF} (T:dG P w K mg G):Dr P w K mg base 1:=by
 refine D.ok tP (by walk_at "l") fun _ _ _ _ _ _ _ _ hr h=>?_
 have m_FORMS:=T.tb.mf
 have d_FORMS:=T.tb.df
 exact ⟨lC K G.toGlo,(ai (aA (i:=1) tP.nd rfl (Ly rfl) (Fc d_FORMS (jX (v:=(.ref G.forms)) rfl m_FORMS rfl) (aM bm (pvA rN) am (fun _ _=>rfl)) (fun _ _=>rfl)))
  (ao (ay (bP (sc:=(ae fX)) (NX:=y7) (N:=["place","part"]) (ix:=[none,none]) rfl (by walk_at "c") (nV iU iU rfl B.zip (af (pvA AI) (aD (tV Ab (pvA rN) (wx am) ww) ag))) (by intros; exact (gb rfl (bq (aB (i:=0) (show (["place","part"]:List Str).Nodup by decide +kernel) rfl (Ly rfl)) (bq (aB (i:=1) (show (["place","part"]:List Str).Nodup by decide +kernel) rfl (Ly rfl)) eR)))) (by intros; exact (rW (aQ de (pv 0) aW (aU _)))) (by intros; exact (pv 1)))))),Bl T.tb.ok h⟩
theorem wo (D:Def K mg "parts_of_all" cX wb f fd) (B:Blt mg) (U38:Dr P w K mg base 1):Do P w K mg base 2:=by
 refine D.ok jL (by walk_at "l") fun _ _ _ _ _ _ _ _ hr h=>?_
 exact ⟨hU K,(ai (aA (i:=1) jL.nd rfl (Ly rfl) (cL ag))
  (ai (bX LY rfl (cb (pvA ur)) (aB (i:=2) jL.nd rfl (Ly rfl)) (ao (cj (lw MF PySem.F.slot_list_extend PySem.F.type_list_extend Es (pvA mD) (aL (ak U38 (rmD hr) (af (pvA ut) ag)) ag)))))
  (ao (ay (pvA mD))))),vq h⟩
theorem yE (D:Def K mg "first_view" fK ni f fd) (B:Blt mg) (U33:AB P w K mg base 1) (U0:y8 P w K mg base 1):Ds P w K mg base 2:=by
 refine D.ok yp (by walk_at "l") fun _ _ _ _ _ _ _ _ hr h=>?_
 exact ⟨jq K,(ao (ay (ak U0 (rmD hr) (bZ (bP (sc:=(ae fK)) (NX:=ni) (N:=["deal","hand"]) (ix:=[none,some 1]) rfl (by walk_at "c") (cb (pvA wY)) (by intros; exact (aB (i:=0) (show (["deal","hand"]:List Str).Nodup by decide +kernel) rfl (Ly rfl))) (by intros; exact bV) (by intros; exact (ak U33 (rmD hr) (af (pv 0) (af (pv 1) ag))))) ag)))),xV h⟩
theorem Hi (D:Def K mg "split" lN nj f fd) (B:Blt mg) (U0:y8 P w K mg base 1):Dt P w K mg base 2:=by
 refine D.ok Ha (by walk_at "l") fun _ _ _ _ _ _ _ _ hr h=>?_
 exact ⟨sn K,(ao (ay (ak U0 (rmD hr) (aL (Jg bS bS rfl rfl B.list rfl B.zip (af (pvA Fv) (af (pvA Fw) ag))) ag)))),Gp h⟩
theorem rQ (D:Def K mg "least_with_same" bF ["marks"] f fd) (B:Blt mg):y8 P w K mg base 1:=by
 refine D.ok fk (by walk_at "l") fun _ _ _ _ _ _ _ _ hr h=>?_
 have hux:=hr.units64
 exact ⟨fD K,(ai (aA (i:=1) fk.nd rfl (Pt rfl) GG)
  (ai (bX LY rfl (rY bS rfl B.enumerate (by decide) (af (pvA jV) ag)) (gb rfl (bq (aB (i:=2) fk.nd rfl (Ly rfl)) (bq (aB (i:=3) fk.nd rfl (Ly rfl)) eR))) (ao (cj (K2 Qk PySem.F.type_dict_setdefault (wT hux) (pvA qt) (af (pvA qw) (af (pvA qu) ag))))))
  (ao (ay (bP (sc:=(ae bF)) (NX:=sK) (N:=["mark","firsts"]) (ix:=[none,some 1]) rfl (by walk_at "c") (cb (pvA jV)) (by intros; exact (aB (i:=0) (show (["mark","firsts"]:List Str).Nodup by decide +kernel) rfl (Ly rfl))) (by intros; exact bV) (by intros; exact (IW hux (pv 1) (pv 0) (fun _ _=>rfl)))))))),qT h⟩
theorem FD (D:Def K mg "joined" eL v4 f fd) (B:Blt mg) (U43:y9 P w K mg base 1) (U49:Du P w K mg base 2):Dv P w K mg base 3:=by
 refine D.ok kR (by walk_at "l") fun _ _ _ _ _ _ _ _ hr h=>?_
 exact ⟨pj K,(ai (aA (i:=2) kR.nd rfl (Pt rfl) (ce (Ft rfl) rfl B.list N0 (aL (ce Fq rfl B.range boot_range (af (pvA wg) ag)) ag)))
  (ai (bX LY rfl (cb (pvA DN)) (aB (i:=3) kR.nd rfl (Ly rfl)) (ao (bX LY rfl (rY bS rfl B.enumerate (by decide) (af (pvA DP) ag)) (gb rfl (bq (aB (i:=4) kR.nd rfl (Ly rfl)) (bq (aB (i:=5) kR.nd rfl (Ly rfl)) eR))) (ao (cj (ak U49 (rmD hr) (af (pvA DO) (af (pvA DQ) (af (pvA DR) ag)))))))))
  (ao (ay (bP (sc:=(ae eL)) (NX:=m6) (N:=["thing","points"]) (ix:=[none,some 2]) rfl (by walk_at "c") (cc rfl B.range (af (pvA wg) ag)) (by intros; exact (aB (i:=0) (show (["thing","points"]:List Str).Nodup by decide +kernel) rfl (Ly rfl))) (by intros; exact bV) (by intros; exact (ak U43 (rmD hr) (af (pv 1) (af (pv 0) ag))))))))),E3 h⟩
theorem Jm (D:Def K mg "link" jM vQ f fd) (B:Blt mg) (U43:y9 P w K mg base 1):Du P w K mg base 2:=by
 refine D.ok wZ (by walk_at "l") fun _ _ _ _ _ _ _ _ hr h=>?_
 exact ⟨ve K,(ai (aA (i:=3) wZ.nd rfl (Ly rfl) (ak U43 (rmD hr) (af (pvA uu) (af (pvA Hb) ag))))
  (ai (aA (i:=4) wZ.nd rfl (Ly rfl) (ak U43 (rmD hr) (af (pvA uu) (af (pvA Hc) ag))))
  (ao (nN (aJ (xt rfl) rfl B.min boot_min (af (pvA AJ) (af (pvA AK) ag))) (qB (pvA uu) (aJ (Ei rfl) rfl B.max TL (af (pvA AJ) (af (pvA AK) ag))) lQ))))),IC h⟩
theorem FE (D:Def K mg "end_of" i3 vW f fd) (B:Blt mg):y9 P w K mg base 1:=by
 refine D.ok rO (by walk_at "l") fun _ _ _ _ _ _ _ _ hr h=>?_
 exact ⟨pi K,(ai (aA (i:=2) rO.nd rfl (Ly rfl) (pvA DS))
  (ai (tQ LY (aQ Hl (aM aY (pvA jN) (pvA ip) (fun _ _=>rfl)) (pvA ip) (aU _)) (ai (nN (aM aY (pvA jN) (aM aY (pvA jN) (pvA ip) (fun _ _=>rfl)) (fun _ _=>rfl)) (qB (pvA jN) (pvA ip) lQ))
  (ao (aA (i:=2) rO.nd rfl (Ly rfl) (aM aY (pvA jN) (pvA ip) (fun _ _=>rfl))))))
  (ao (ay (pvA ip))))),E2 h⟩
theorem rR (D:Def K mg "truths_of" bJ sL f fd) (B:Blt mg) (U48:za P w K mg base 1) (U33:AB P w K mg base 1) (U44:Dw P w K mg base 1) (U42:Dv P w K mg base 3) (U46:we P w K mg base 1) (U4:Dy P w K mg base 2) (U47:Dz P w K mg base 2):∀ n,FnB P w K mg base (4 + n) "truths_of" sL (bY K n)
 | 0=>D.ok (k:=3) gR (fun vs H Q E h=>(qZ h).elim) (fun cdv A outer s H vs Q E hr h=>(qZ h).elim)
 | n + 1=>by
  have U21:=rR D B U48 U33 U44 U42 U46 U4 U47 n
  refine D.ok (k:=4 + n) gR (by walk_at "l") fun _ _ _ _ _ _ _ _ hr h=>?_
  exact ⟨kh K n,(ai (aA (i:=3) gR.nd rfl (Ly rfl) (aM bm (pvA b8) am (fun _ _=>rfl)))
  (ai (bo (aQ de (pvA dN) aW (aU _)) (ao (ay (bP (sc:=(ae bJ)) (NX:=mz) (N:=["deal","S"]) (ix:=[none,some 2]) rfl (by walk_at "c") (cb (pvA cA)) (by intros; exact (aB (i:=0) (show (["deal","S"]:List Str).Nodup by decide +kernel) rfl (Ly rfl))) (by intros; exact bV) (by intros; exact (nQ de (aM bm (pv 0) (aM bm (pv 1) am (fun _ _=>rfl)) (fun _ _=>rfl)) (aM bm (pv 1) am (fun _ _=>rfl)) (aU _)))))) aS)
  (ai (bo (aQ de (pvA dN) aW (aU _)) (ao (ay (ak U47 (hr.mono (by omega)) (bZ (bP (sc:=(ae bJ)) (NX:=mz) (N:=["deal","views"]) (ix:=[none,some 1]) rfl (by walk_at "c") (cb (pvA cA)) (by intros; exact (aB (i:=0) (show (["deal","views"]:List Str).Nodup by decide +kernel) rfl (Ly rfl))) (by intros; exact bV) (by intros; exact (ak U33 (hr.mono (by omega)) (af (pv 0) (aL (aJ aZ rfl B.len Nb (af (pv 1) ag)) ag))))) (aD (aM aY (pvA cR) (aM bm (pvA b8) am (fun _ _=>rfl)) (fun _ _=>rfl)) ag))))) aS)
  (ai (bo (aQ de (pvA dN) aW (aU _)) (ao (ay (bP (sc:=(ae bJ)) (NX:=mz) (N:=["truth"]) (ix:=[none]) rfl (by walk_at "c") (cb (ak U21 (hr.mono (by omega)) (af (pvA cA) (af (pvA cR) (aD (aM bm (pvA b8) am (fun _ _=>rfl)) ag))))) (by intros; exact (aB (i:=0) (show (["truth"]:List Str).Nodup by decide +kernel) rfl (Ly rfl))) (by intros; exact bV) (by intros; exact (Ed (pv 0)))))) aS)
  (ai (bo (aQ de (pvA dN) aW (aU _)) (ao (ay (ak U48 (hr.mono (by omega)) (aL (ak U21 (hr.mono (by omega)) (af (pvA cA) (af (pvA cR) (aD (aM bm (pvA b8) am (fun _ _=>rfl)) ag)))) (aL (ak U21 (hr.mono (by omega)) (af (pvA cA) (af (pvA cR) (aD (aM bm (pvA b8) am (fun _ _=>rfl)) ag)))) ag))))) aS)
  (ai (bo (aQ de (pvA dN) aW (aU _)) (ao (ay (ak U44 (hr.mono (by omega)) (aL (ak U21 (hr.mono (by omega)) (af (pvA cA) (af (pvA cR) (aD (aM bm (pvA b8) am (fun _ _=>rfl)) ag)))) (aL (ak U21 (hr.mono (by omega)) (af (pvA cA) (af (pvA cR) (aD (aM bm (pvA b8) am (fun _ _=>rfl)) ag)))) ag))))) aS)
  (ai (aA (i:=4) gR.nd rfl (Ly rfl) (ak U21 (hr.mono (by omega)) (af (pvA cA) (af (pvA cR) (aD (aM bm (pvA b8) am (fun _ _=>rfl)) ag)))))
  (ai (bo (aQ de (pvA dN) aW (aU _)) (ao (ay (ak U46 (hr.mono (by omega)) (aD (aM aY (pvA cR) (aM bm (pvA b8) am (fun _ _=>rfl)) (fun _ _=>rfl)) (af (pvA lh) ag))))) aS)
  (ai (uL (i:=5) gR.nd rfl rfl (sc:=(ae bJ)) (NX:=mz) (N:=["hand","views"]) (ix:=[none,some 1]) rfl (by walk_at "c") (uE (aM bm (pvA b8) am (fun _ _=>rfl))) (by intros; exact (aB (i:=0) (show (["hand","views"]:List Str).Nodup by decide +kernel) rfl (Ly rfl))) (by intros; exact bV) (by intros; exact (aM aY (pv 1) (pv 0) (fun _ _=>rfl))))
  (ai (bo (aQ de (pvA dN) aW (aU _)) (ao (ay (ak U4 (hr.mono (by omega)) (af (pvA p8) (af (pvA lh) ag))))) aS)
  (ao (ay (ak U46 (hr.mono (by omega)) (aL (ak U42 (hr.mono (by omega)) (aL (aJ aZ rfl B.len Nb (af (pvA cA) ag)) (af (pvA p8) ag))) (af (pvA lh) ag))))))))))))))),zU h⟩
theorem Jn (D:Def K mg "both" mE eP f fd) (B:Blt mg):za P w K mg base 1:=by
 refine D.ok Jj (by walk_at "l") fun _ _ _ _ _ _ _ _ hr h=>?_
 exact ⟨vg K,(ao (ay (bP (sc:=(ae mE)) (NX:=eP) (N:=sO) (ix:=[none,none]) rfl (by walk_at "c") (nV bS bS rfl B.zip (af (pvA He) (af (pvA Hf) ag))) (by intros; exact (gb rfl (bq (aB (i:=0) (show (sO:List Str).Nodup by decide +kernel) rfl (Ly rfl)) (bq (aB (i:=1) (show (sO:List Str).Nodup by decide +kernel) rfl (Ly rfl)) eR)))) (by intros; exact bV) (by intros; exact (qy (pv 0) (nL (pv 1))))))),IF h⟩
theorem FF (D:Def K mg "either" i4 eP f fd) (B:Blt mg):Dw P w K mg base 1:=by
 refine D.ok Fy (by walk_at "l") fun _ _ _ _ _ _ _ _ hr h=>?_
 exact ⟨pB K,(ao (ay (bP (sc:=(ae i4)) (NX:=eP) (N:=sO) (ix:=[none,none]) rfl (by walk_at "c") (nV bS bS rfl B.zip (af (pvA DT) (af (pvA DU) ag))) (by intros; exact (gb rfl (bq (aB (i:=0) (show (sO:List Str).Nodup by decide +kernel) rfl (Ly rfl)) (bq (aB (i:=1) (show (sO:List Str).Nodup by decide +kernel) rfl (Ly rfl)) eR)))) (by intros; exact bV) (by intros; exact (Ko (pv 0) (nL (pv 1))))))),E6 h⟩
theorem Hj (D:Def K mg "known" gr vV f fd) (B:Blt mg):we P w K mg base 1:=by
 refine D.ok pR (by walk_at "l") fun _ _ _ _ _ _ _ _ hr h=>?_
 exact ⟨sj K,(ai (aA (i:=2) pR.nd rfl (Pt rfl) (av Fb (cL (ar dP ag)) (aJ aZ rfl B.len Nb (af (pvA rP) ag))))
  (ai (bX LY rfl (nV bS bS rfl B.zip (af (pvA rP) (af (pvA Fz) ag))) (gb rfl (bq (aB (i:=3) pR.nd rfl (Ly rfl)) (bq (aB (i:=4) pR.nd rfl (Ly rfl)) eR))) (ao (bo (eY (dO (pvA FC))) (ao (nN dP (qB (pvA FA) (pvA FB) lQ))) aS)))
  (ao (ay (bP (sc:=(ae gr)) (NX:=pK) (N:=["least","sure"]) (ix:=[none,some 2]) rfl (by walk_at "c") (cb (pvA rP)) (by intros; exact (aB (i:=0) (show (["least","sure"]:List Str).Nodup by decide +kernel) rfl (Ly rfl))) (by intros; exact bV) (by intros; exact (aM aY (pv 1) (pv 0) (fun _ _=>rfl)))))))),Gn h⟩
theorem wp (D:Def K mg "known_to_all" cE vY f fd) (B:Blt mg) (U48:za P w K mg base 1) (U46:we P w K mg base 1):Dy P w K mg base 2:=by
 refine D.ok gC (by walk_at "l") fun _ _ _ _ _ _ _ _ hr h=>?_
 exact ⟨hJ K,(ai (aA (i:=2) gC.nd rfl (Ly rfl) (av Fb (cL (ar dP ag)) (aJ aZ rfl B.len Nb (af (pvA mF) ag))))
  (ai (bX LY rfl (cb (pvA uv)) (aB (i:=3) gC.nd rfl (Ly rfl)) (ao (aA (i:=2) gC.nd rfl (Ly rfl) (ak U48 (rmD hr) (af (pvA mG) (aL (ak U46 (rmD hr) (af (pvA uw) (af (pvA mF) ag))) ag))))))
  (ao (ay (pvA mG))))),vh h⟩
theorem Jo (D:Def K mg "seen" mH lJ f fd) (B:Blt mg) (U46:we P w K mg base 1):Dz P w K mg base 2:=by
 refine D.ok Jk (by walk_at "l") fun _ _ _ _ _ _ _ _ hr h=>?_
 have hu:=hr.units0
 exact ⟨vi K,(ao (ay (ak U46 (rmD hr) (af (pvA AL) (bZ (bP (sc:=(ae mH)) (NX:=lJ) (N:=Dh) (ix:=[none,none,some 0]) rfl (by walk_at "c") (nV bS bS rfl B.zip (af (pvA Hg) (af (pvA AL) ag))) (by intros; exact (gb rfl (bq (aB (i:=0) (show (Dh:List Str).Nodup by decide +kernel) rfl (Ly rfl)) (bq (aB (i:=1) (show (Dh:List Str).Nodup by decide +kernel) rfl (Ly rfl)) eR)))) (by intros; exact bV) (by intros; exact (nQ (JE hu) (pv 0) (aM aY (pv 2) (pv 1) (fun _ _=>rfl)) (aU _)))) ag))))),IH h⟩
theorem uD (D:Def K mg "refuse_unless" fm pM f fd) (B:Blt mg):sQ P w K mg base 1:=by
 refine D.ok ux (by walk_at "l") fun _ _ _ _ _ _ _ _ hr h=>?_
 exact ⟨gA K,(ao (bo (eY (dO (pvA sX))) (ao oJ) aS)),uh h⟩
theorem AT (D:Def K mg "are_cards" gu ng f fd) (B:Blt mg) (U35:uo P w K mg base 3):DC P w K mg base 4:=by
 refine D.ok AM (by walk_at "l") fun _ _ _ _ _ _ _ _ hr h=>?_
 exact ⟨kn K,(ao (ay (qy (aJ fS rfl B.isinstance NI (af (pvA qa) (af (gT (v:=.ty "list") rfl B.list N0 rfl) ag))) (nL (aJ (mO rfl) rfl B.all TK (bZ (bP (sc:=(ae gu)) (NX:=ng) (N:=["card","cards"]) (ix:=[none,some 1]) rfl (by walk_at "c") (cb (pvA qa)) (by intros; exact (aB (i:=0) (show (["card","cards"]:List Str).Nodup by decide +kernel) rfl (Ly rfl))) (by intros; exact bV) (by intros; exact (ak U35 (rmD hr) (af (pv 0) (af (pv 1) ag))))) ag)))))),Ah h⟩
theorem yF (D:Def K mg "least_held" dq pL f fd) (B:Blt mg):DD P w K mg base 1:=by
 refine D.ok qb (by walk_at "l") fun _ _ _ _ _ _ _ _ hr h=>?_
 exact ⟨jz K,(ai (bX LY rfl (cb (pvA w9)) (aB (i:=3) qb.nd rfl (Ly rfl)) (ao (bo (aQ de (aM bm (pvA w5) (pvA oj) (fun _ _=>rfl)) (pvA w6) (aU _)) (ao (ay (pvA oj))) aS)))
  (ao (ay Eb))),xY h⟩
theorem AU (D:Def K mg "_law_cell" fz vI f fd) (B:Blt mg):pO P w K mg base 1:=by
 refine D.ok jO (by walk_at "l") fun _ _ _ _ _ _ _ _ hr h=>?_
 exact ⟨kg K,(ai (bo (aQ Hn (pvA eV) (aJ aZ rfl B.len Nb (af (pvA gh) ag)) (aU _)) (ao (ay (aM aY (pvA gh) (pvA eV) (fun _ _=>rfl)))) aS)
  (ai (aA (i:=2) jO.nd rfl (Ly rfl) (av bt (av eS (pvA eV) am) am))
  (ai (bo (aQ mL (aJ aZ rfl B.len Nb (af (pvA gh) ag)) am (aU _)) (ao (aA (i:=2) jO.nd rfl (Ly rfl) (av bt (av eS (aM aY (pvA gh) (av bx (av eS (pvA eV) am) (aJ aZ rfl B.len Nb (af (pvA gh) ag))) (fun _ _=>rfl)) am) (av eS (pvA eV) am)))) aS)
  (ai (aA (i:=2) jO.nd rfl (Ly rfl) (av bx (av eS (pvA iO) (pvA iO)) am))
  (ao (ay (av bx (av eS (av bt (pvA iO) (pvA eV)) (av bt (pvA iO) am)) am))))))),zO h⟩
theorem wq (D:Def K mg "_law_product" cY wa f fd) (B:Blt mg):DE P w K mg base 1:=by
 refine D.ok gD (by walk_at "l") fun _ _ _ _ _ _ _ _ hr h=>?_
 exact ⟨g0 K,(ai (aA (i:=1) gD.nd rfl (Ly rfl) am)
  (ai (bX LY rfl (cc rfl B.range (af (pvA uy) ag)) (aB (i:=2) gD.nd rfl (Ly rfl)) (ao (aA (i:=1) gD.nd rfl (Ly rfl) (av eS (pvA mI) (av bt (pvA uz) am)))))
  (ao (ay (pvA mI))))),uZ h⟩
theorem yG (D:Def K mg "_law_count" dt vO f fd) (B:Blt mg) (U3:DE P w K mg base 1):DF P w K mg base 2:=by
 refine D.ok iP (by walk_at "l") fun _ _ _ _ _ _ _ _ hr h=>?_
 exact ⟨jo K,(ai (aA (i:=2) iP.nd rfl (Ly rfl) (ak U3 (rmD hr) (af (pvA ol) ag)))
  (ai (bX LY rfl (cb (av og (pvA om) (cL (aG (av eZ (pvA ol) (aJ (kI rfl) rfl B.sum Sh (af (pvA om) ag))) ag)))) (aB (i:=3) iP.nd rfl (Ly rfl)) (ao (aA (i:=2) iP.nd rfl (Ly rfl) (av ck (pvA on) (ak U3 (rmD hr) (af (pvA xa) ag))))))
  (ao (ay (pvA on))))),xU h⟩
theorem AV (D:Def K mg "_law_pack" cJ vK f fd) (B:Blt mg) (U29:pO P w K mg base 1) (U20:DF P w K mg base 2):DG P w K mg base 3:=by
 refine D.ok fL (by walk_at "l") fun _ _ _ _ _ _ _ _ hr h=>?_
 exact ⟨kl K,(ai (aA (i:=3) fL.nd rfl (Ly rfl) (av bx (ak U29 (rmD hr) (af (pvA gi) (af (pvA gj) ag))) am))
  (ai (bo (aQ de (av bx (av ck (ak U29 (rmD hr) (af (pvA gi) (af (pvA gj) ag))) am) am) am (aU _)) (ao (aA (i:=3) fL.nd rfl (Ly rfl) (av bt am (av bx (av ck (ak U29 (rmD hr) (af (pvA gi) (af (pvA gj) ag))) am) am)))) aS)
  (ai (aA (i:=4) fL.nd rfl (Ly rfl) (cL ag))
  (ai (bX LY rfl (cc rfl B.range (aG (av bt am (av bx (ak U29 (rmD hr) (af (pvA gi) (aG (av bt (pvA gj) am) ag))) am)) ag)) (aB (i:=5) fL.nd rfl (Ly rfl)) (ao (cj (lw MF M6 M7 fc (pvA b9) (aG (av bx (ak U29 (rmD hr) (af (pvA gi) (aG (av bt (av bt (pvA gj) am) (pvA yr)) ag))) (av bt (aJ (xt rfl) rfl B.min boot_min (ar am (aG (av eZ (pvA gk) (aJ (kI rfl) rfl B.sum Sh (af (pvA b9) ag))) ag))) am)) ag)))))
  (ai (tQ LY (aQ mL (ak U20 (rmD hr) (af (pvA gk) (af (pvA b9) ag))) (pvA yq) (aU _)) (ai (bo (aQ mL (aJ (qL rfl) rfl B.max TL (af (pvA b9) ag)) (av eZ (pvA gk) (aJ (kI rfl) rfl B.sum Sh (af (pvA b9) ag))) (aU _)) (ao (nN (av eZ (aJ (qL rfl) rfl B.max TL (af (pvA b9) ag)) am) (qB (pvA b9) (lw MF Rj PySem.F.type_list_index FZ (pvA b9) (aL (aJ (qL rfl) rfl B.max TL (af (pvA b9) ag)) ag)) lQ))) aS)
  (ao (aA (i:=3) fL.nd rfl (Ly rfl) (av eZ (pvA gk) am)))))
  (ao (ay (bE (af (pvA gk) (af (pvA b9) ag)))))))))),Aa h⟩
theorem qr (D:Def K mg "_law_words" eM sN f fd) (B:Blt mg):∀ n,FnB P w K mg base (1 + n) "_law_words" sN (eU K n)
 | 0=>D.ok (k:=0) gm (fun vs H Q E h=>(pV h).elim) (fun cdv A outer s H vs Q E hr h=>(pV h).elim)
 | n + 1=>by
  have U13:=qr D B n
  refine D.ok (k:=1 + n) gm (by walk_at "l") fun _ _ _ _ _ _ _ _ hr h=>?_
  have hu:=hr.units0
  exact ⟨jy K n,(ai (aA (i:=1) gm.nd rfl (Ly rfl) am)
  (ai (bX LY rfl (uE (tV Ab (pvA xc) (wx am) ww)) (aB (i:=2) gm.nd rfl (Ly rfl)) (ao (bo (PW.pt (Ec (dO (aJ fS rfl B.isinstance NI (af (pvA iq) (af (gT (v:=.ty "tuple") rfl B.tuple Q2 rfl) ag)))) (Ec (aQ (JF hu) (pvA iq) (bE ag) (aU _)) (HS (dO (aJ fS rfl B.isinstance NI (aD (aM bm (pvA iq) am (fun _ _=>rfl)) (af (gT (v:=.ty "str") rfl B.str boot_str rfl) ag)))))))) (ao (aA (i:=1) gm.nd rfl (Ly rfl) (av bt (pvA oo) (ak U13 (hr.mono (by omega)) (af (pvA iq) ag))))) aS)))
  (ao (ay (pvA oo))))),xX h⟩
theorem yH (D:Def K mg "_law_group" fM m8 f fd) (B:Blt mg):zb P w K mg base 1:=by
 refine D.ok yt (by walk_at "l") fun _ _ _ _ _ _ _ _ hr h=>?_
 exact ⟨jx K,(ao (ay (ce Gu rfl B.tuple Q2 (bZ (bP (sc:=(ae fM)) (NX:=m8) (N:=["_law_hand","_law_number"]) (ix:=[none,some 0]) rfl (by walk_at "c") (cc rfl B.range (af (pvA xf) ag)) (by intros; exact (aB (i:=0) (show (["_law_hand","_law_number"]:List Str).Nodup by decide +kernel) rfl (Ly rfl))) (by intros; exact (rW (aQ de (av bx (av ck (pv 1) (aM aY (cL (ar am (ar am (ar am (ar am (ar am ag)))))) (pv 0) (fun _ _=>rfl))) am) am (aU _)))) (by intros; exact (pv 0))) ag)))),xW h⟩
theorem AW (D:Def K mg "_law_pool" cr nK f fd) (B:Blt mg) (U29:pO P w K mg base 1):DH P w K mg base 2:=by
 refine D.ok jP (by walk_at "l") fun _ _ _ _ _ _ _ _ hr h=>?_
 exact ⟨km K,(ai (aA (i:=4) jP.nd rfl (Ly rfl) (cL (bw (bE (ar aW (aG (av bx (ak U29 (rmD hr) (af (pvA qc) (af (pvA qd) ag))) (pvA qf)) ag))) ag)))
  (ai (bX LY rfl (cc rfl B.range (aG (av eS am (ce Ej rfl B.int boot_int (Bm (nQ mL (pvA qe) am (aU _)) ag))) ag)) (aB (i:=5) jP.nd rfl (Ly rfl)) (ai (aA (i:=6) jP.nd rfl (Ly rfl) (ak U29 (rmD hr) (af (pvA qc) (aG (av bt (av bt (pvA qd) am) (pvA yu)) ag))))
  (ao (cj (lw MF M6 M7 fc (pvA qg) (bw (bE (ar aW (aG (av bx (pvA qh) (av bt (pvA qf) am)) (aG (av bx (av ck (pvA qh) am) (pvA qe)) ag)))) ag))))))
  (ao (ay (pvA qg))))),Ag h⟩
theorem xo (D:Def K mg "_law_saying" bn Az f fd) (B:Blt mg) (U29:pO P w K mg base 1) (U16:zb P w K mg base 1) (U31:DH P w K mg base 2) (U13:HN P w K mg base 71):zc P w K mg base 72:=by
 refine D.ok bG (by walk_at "l") fun _ _ _ _ _ _ _ _ hr h=>?_
 exact ⟨iI K,(ai (aA (i:=5) bG.nd rfl (Ly rfl) (ak U31 (rmD hr) (af (pvA jQ) (af (pvA jR) (af (pvA wj) (af (pvA ci) ag))))))
  (ai (bX LY rfl (cc rfl B.range (aG (av bx (ak U29 (rmD hr) (af (pvA jQ) (aG (av bt (pvA jR) am) ag))) am) ag)) (aB (i:=6) bG.nd rfl (Ly rfl)) (ai (aA (i:=7) bG.nd rfl (Ly rfl) (ak U29 (rmD hr) (af (pvA jQ) (aG (av bt (av bt (pvA jR) am) (pvA wl)) ag))))
  (ai (aA (i:=8) bG.nd rfl (Ly rfl) (aM aY (pvA fo) (Hk Eg am) (fun _ _=>rfl)))
  (ai (aA (i:=9) bG.nd rfl (Ly rfl) (aM aY (pvA fo) (av bx (av ck (pvA bK) am) (aJ aZ rfl B.len Nb (af (pvA fo) ag))) (fun _ _=>rfl)))
  (ai (aA (i:=10) bG.nd rfl (Ly rfl) (cL (bw (bE (ar aW (af (pvA bT) ag))) (bw (bE (ar aW (af (pvA bT) (af (pvA cN) ag)))) (bw (bE (ar aW (af (pvA cN) (af (pvA bT) ag)))) (bw (bE (ar aW (af (pvA cN) ag))) ag))))))
  (ai (aA (i:=10) bG.nd rfl (Ly rfl) (av og (pvA cZ) (cL (bw (bE (ar aW (aG (av bx (av ck (pvA bK) am) (pvA ci)) (af (pvA bT) ag)))) (bw (bE (ar aW (aG (av bx (av ck (pvA bK) am) (pvA ci)) (bw (bE (ar aW (af (pvA bT) ag))) ag)))) ag)))))
  (ai (aA (i:=10) bG.nd rfl (Ly rfl) (av og (pvA cZ) (cL (bw (bE (ar aW (aL (ak U16 (rmD hr) (aG (av ck (pvA bK) am) (af (pvA ci) ag))) (af (pvA bT) ag)))) (bw (bE (ar aW (aL (ak U16 (rmD hr) (aG (av ck (pvA bK) am) (af (pvA ci) ag))) (af (pvA cN) ag)))) ag)))))
  (ai (aA (i:=10) bG.nd rfl (Ly rfl) (av og (pvA cZ) (cL (bw (bE (ar aW (aL (ak U16 (rmD hr) (aG (av ck (pvA bK) am) (af (pvA ci) ag))) (af (pvA bT) ag)))) (bw (bE (ar aW (aG (av bx (av ck (pvA bK) am) (pvA ci)) (af (pvA cN) ag)))) ag)))))
  (ai (aA (i:=10) bG.nd rfl (Ly rfl) (av og (pvA cZ) (cL (bw (bE (ar aW (af (pvA cN) (bw (bE (ar aW (af (pvA bT) ag))) ag)))) (bw (bE (ar aW (af (pvA bT) (bw (bE (ar aW (aG (av bx (av ck (pvA bK) am) (pvA ci)) (af (pvA cN) ag)))) ag)))) ag)))))
  (ao (bo (aQ yO (ak U13 (rmD hr) (aD (aM aY (pvA cZ) (av bx (pvA bK) am) (fun _ _=>rfl)) ag)) (pvA wk) (aU _)) (ao (cj (lw MF M6 M7 fc (pvA fo) (aD (aM aY (pvA cZ) (av bx (pvA bK) am) (fun _ _=>rfl)) ag)))) aS)))))))))))
  (ao (ay (aM aY (pvA fo) (Hk Eg am) (fun _ _=>rfl)))))),wN h⟩
theorem AX (D:Def K mg "_law_deed" cu nK f fd) (B:Blt mg) (U29:pO P w K mg base 1) (U16:zb P w K mg base 1) (U7:zc P w K mg base 72):DI P w K mg base 73:=by
 refine D.ok mJ (by walk_at "l") fun _ _ _ _ _ _ _ _ hr h=>?_
 exact ⟨ko K,(ai (aA (i:=4) mJ.nd rfl (Ly rfl) (ak U29 (rmD hr) (af (pvA li) (af (pvA lj) ag))))
  (ai (bo (PW.pt (lv (aQ mL (av bx (pvA iR) am) am (aU _)) (je (aQ de (pvA qj) am (aU _))))) (ao (ay (bE (ar aW (aL (ak U16 (rmD hr) (aG (av ck (pvA iR) am) (af (pvA iQ) ag))) (aL (ak U7 (rmD hr) (af (pvA li) (aG (av bt (pvA lj) am) (af (pvA qj) (af (pvA iQ) (ar am ag)))))) ag)))))) aS)
  (ai (uL (i:=5) mJ.nd rfl rfl (sc:=(ae cu)) (NX:=rE) (N:=HL) (ix:=[none,some 2,some 0,some 1]) rfl (by walk_at "c") (cc rfl B.range (aG (av bx (ak U29 (rmD hr) (af (pvA li) (aG (av bt (pvA lj) am) ag))) am) ag)) (by intros; exact (aB (i:=0) (show (HL:List Str).Nodup by decide +kernel) rfl (Ly rfl))) (by intros; exact bV) (by intros; exact (av bx (ak U29 (rmD hr) (af (pv 2) (aG (av bt (av bt (pv 3) am) (pv 0)) ag))) (pv 1))))
  (ao (ay (bE (ar aW (aG (av bx (av ck (pvA iR) am) (pvA iQ)) (aG (av bx (av ck (pvA iR) am) (av bt (pvA iQ) am)) (af (pvA yv) ag)))))))))),Ap h⟩
theorem AY (D:Def K mg "_law_done" gx m7 f fd) (B:Blt mg) {G:GF} (T:dG P w K mg G) (U18:G4 P w K mg base G 5) (U12:G5 P w K mg base G 41):zd P w K mg base G 42:=by
 refine D.ok AN (by walk_at "l") fun _ _ _ _ _ _ _ _ hr h=>?_
 exact ⟨kr K G,(ai (bo (aQ de (aM bm (pvA eW) am (fun _ _=>rfl)) aW (aU _)) (ao (ay (em U12 (rmD hr) T.cl_Table (pvA qk) (aD (aM bm (pvA eW) am (fun _ _=>rfl)) (aD (aM bm (pvA eW) am (fun _ _=>rfl)) ag))))) aS)
  (ao (ay (em U18 (rmD hr) T.cl_Table (pvA qk) (aD (aM bm (pvA eW) am (fun _ _=>rfl)) (aD (aM bm (pvA eW) am (fun _ _=>rfl)) (aL (ce hZ rfl B.list N0 (aD (aM bm (pvA eW) am (fun _ _=>rfl)) ag)) ag))))))),Aq h⟩
theorem yI (D:Def K mg "_law_stand" du vG f fd) (B:Blt mg) {G:GF} (T:dG P w K mg G) (U10:DK P w K mg base G 1) (U28:G6 P w K mg base G 4) (U11:G7 P w K mg base G 4):ze P w K mg base G 5:=by
 refine D.ok ql (by walk_at "l") fun _ _ _ _ _ _ _ _ hr h=>?_
 exact ⟨jH K G,(ai (Bt (i:=3) ql.nd rfl rfl (sc:=(ae du)) (NX:=vH) (N:=De) (ix:=[none,some 0,some 2]) (own:="_law_hand") rfl (by refine ⟨rfl,?_,rfl,fun _ _=>rfl,fun _=>rfl,?_,?_,?_,rfl,?_⟩ <;> decide +kernel) (cc rfl B.range (af (pvA xh) ag)) (by intros; exact (aB (i:=0) (show (De:List Str).Nodup by decide +kernel) rfl (Pt rfl) (hf:=.inl Km))) (by intros; exact bV) (by intros; exact (bE (aL (em U11 (rmD hr) T.cl_Table (pv 1) (af (pv 0) ag)) (bZ (bP (sc:=_) (hsc:=rfl) (NX:=De) (N:=HM) (ix:=[none,some 0,some 1]) rfl (by walk_at "e") (cc rfl B.range (af (pv 2) ag)) (by intros; exact (aB (i:=0) (show (HM:List Str).Nodup by decide +kernel) rfl (Ly rfl))) (by intros; exact bV) (by intros; exact (em U28 (rmD hr) T.cl_Table (pv 2) (af (pv 1) (af (pv 0) ag))))) ag)))))
  (ao (ay (bE (aL (mY U10 (rmD hr) T.cl_Table (pvA xg)) (af (pvA xi) ag)))))),yh h⟩
theorem AZ (D:Def K mg "_law_anew" cv vF f fd) (B:Blt mg) {G:GF} (T:dG P w K mg G) (U10:DK P w K mg base G 1) (U17:FnI P w K mg base 6 G.Table gB (cz K G)) (U6:AC P w K mg base G 40) (U23:zd P w K mg base G 42) (U19:ze P w K mg base G 5):DJ P w K mg base G 43:=by
 refine D.ok gS (by walk_at "l") fun _ _ _ _ _ _ _ _ hr h=>?_
 exact ⟨ku K G,(ai (aA (i:=4) gS.nd rfl (Ly rfl) (uf U17 (rmD hr) T.m_Table (af (pvA yw) (af (pvA qm) ag))))
  (ai (aA (i:=5) gS.nd rfl (Ly rfl) Eb)
  (ai (bX LY rfl (cb (pvA yx)) (aB (i:=6) gS.nd rfl (Ly rfl)) (ao (aA (i:=5) gS.nd rfl (Ly rfl) (ak U23 (rmD hr) (af (pvA iS) (af (pvA yA) ag))))))
  (ao (ay (bE (af (pvA yz) (aL (ak U19 (rmD hr) (af (pvA iS) (aL (aJ aZ rfl B.len Nb (af (pvA qm) ag)) (aL (aJ aZ rfl B.len Nb (aL (mY U10 (rmD hr) T.cl_Table (pvA iS)) ag)) ag)))) (aL (em U6 (rmD hr) T.cl_Table (pvA iS) (af (pvA yy) ag)) ag))))))))),Au h⟩
theorem Kn (D:Def K mg "law" dH sP f fd) (B:Blt mg) {G:GF} (T:dG P w K mg G) (U9:G8 P w K mg base G 8) (U17:FnI P w K mg base 6 G.Table gB (cz K G)) (U6:AC P w K mg base G 40) (U22:DJ P w K mg base G 43) (U29:pO P w K mg base 1) (U24:DI P w K mg base 73) (U23:zd P w K mg base G 42) (U26:DG P w K mg base 3) (U7:zc P w K mg base 72) (U19:ze P w K mg base G 5) (U36:Dm P w K mg base 5):cH P w K mg base CX0 74 f fd sP (uO K):=by
 refine D.fn.ok cU (by walk_at "l") fun _ _ _ _ _ _ _ _ hr h=>?_
 have hux:=hr.units64
 exact ⟨yT K G,(ai (nN (ak U26 (rmD hr) (af (pvA jc) (ar am (ar am ag)))) (gb rfl (bq (aB (i:=1) cU.nd rfl (Ly rfl)) (bq (aB (i:=2) cU.nd rfl (Ly rfl)) eR))))
  (ai (aA (i:=3) cU.nd rfl (Ly rfl) (aJ aZ rfl B.len Nb (af (pvA lO) ag)))
  (ai (aA (i:=4) cU.nd rfl (Ly rfl) (aJ aZ rfl B.len Nb (aL (ak U36 (rmD hr) (af (pvA jd) (af (pvA lO) ag))) ag)))
  (ai (aA (i:=5) cU.nd rfl (Ly rfl) (uf U17 (rmD hr) T.m_Table (af (pvA jd) (af (pvA lO) ag))))
  (ai (aA (i:=6) cU.nd rfl (Ly rfl) (cL ag))
  (ai (bX LY rfl (cc rfl B.range (aG (av bx (ak U29 (rmD hr) (af (pvA jc) (ar am ag))) am) ag)) (aB (i:=7) cU.nd rfl (Ly rfl)) (ai (cj (lw MF M6 M7 fc (pvA ou) (aL (ak U24 (rmD hr) (af (pvA jc) (aG (av bt am (av eS am (pvA ow))) (af (pvA jd) (af (pvA gy) ag))))) ag)))
  (ao (cj (ak U23 (rmD hr) (af (pvA xj) (aD (aM aY (pvA ou) (pvA ow) (fun _ _=>rfl)) ag)))))))
  (ai (aA (i:=8) cU.nd rfl (Ly rfl) (cL (af (pvA xj) (aL (mY U9 (rmD hr) T.cl_Table (pvA xj)) ag))))
  (ai (aA (i:=9) cU.nd rfl (Ly rfl) (cL (aL (ce hZ rfl B.list N0 (af (pvA ou) ag)) (aL (ce hZ rfl B.list N0 (af (pvA ou) ag)) ag))))
  (ai (aA (i:=10) cU.nd rfl (Ly rfl) (bE (ar aW (aG (av bx (ak U29 (rmD hr) (af (pvA jc) (ar am ag))) (pvA gy)) (aL (ak U7 (rmD hr) (af (pvA jc) (ar am (af (pvA jd) (af (pvA gy) (ar am ag)))))) ag)))))
  (ai (bo (aQ (iZ hux) (ak U19 (rmD hr) (aD (aM aY (pvA ir) am (fun _ _=>rfl)) (af (pvA gy) (af (pvA oq) ag)))) (aM bm (ak U22 (rmD hr) (af (pvA jd) (af (pvA lO) (af (pvA ou) (af (pvA j7) ag))))) am (fun _ _=>rfl)) (aU _)) (ao (ay dP)) aS)
  (ai (bX LY rfl (cc rfl B.range (aG (av bx (ak U29 (rmD hr) (af (pvA jc) (ar am ag))) am) ag)) (aB (i:=7) cU.nd rfl (Ly rfl)) (ai (aA (i:=11) cU.nd rfl (Ly rfl) (av bx (av ck (ak U29 (rmD hr) (af (pvA jc) (ar am ag))) (aM aY (cL (ar am (ar am (ar am (ar am ag))))) (pvA ow) (fun _ _=>rfl))) am))
  (ai (aA (i:=12) cU.nd rfl (Ly rfl) (ak U24 (rmD hr) (af (pvA jc) (aG (av bt am (av eS am (pvA ow))) (af (pvA jd) (af (pvA gy) ag))))))
  (ai (cj (lw MF M6 M7 fc (aM aY (pvA xk) (pvA fY) (fun _ _=>rfl)) (af (pvA pS) ag)))
  (ai (aA (i:=13) cU.nd rfl (Ly rfl) (ak U23 (rmD hr) (aD (aM aY (pvA ir) (pvA fY) (fun _ _=>rfl)) (af (pvA pS) ag))))
  (ai (bo (aQ de (aM bm (pvA pS) am (fun _ _=>rfl)) aW (aU _)) (ao (aA (i:=10) cU.nd rfl (Ly rfl) (bE (ar aW (aG (av bx (pvA ow) (pvA gy)) (aD (aM bm (pvA pS) am (fun _ _=>rfl)) ag)))))) aS)
  (ai (aA (i:=14) cU.nd rfl (Ly rfl) (ak U22 (rmD hr) (af (pvA jd) (af (pvA lO) (aD (aM aY (pvA xk) (pvA fY) (fun _ _=>rfl)) (af (pvA j7) ag))))))
  (ai (aA (i:=15) cU.nd rfl (Ly rfl) (ak U22 (rmD hr) (af (pvA jd) (af (pvA lO) (aD (aM aY (pvA xk) (av eZ am (pvA fY)) (fun _ _=>rfl)) (af (pvA j7) ag))))))
  (ai (bo (PW.pt (lv (aQ (iZ hux) (em U6 (rmD hr) T.cl_Table (aM aY (pvA ir) (av eZ am (pvA fY)) (fun _ _=>rfl)) (af (pvA j7) ag)) (aM bm (pvA uB) am (fun _ _=>rfl)) (aU _)) (je (aQ (iZ hux) (em U6 (rmD hr) T.cl_Table (aM aY (pvA ir) (pvA fY) (fun _ _=>rfl)) (af (pvA j7) ag)) (aM bm (pvA uA) am (fun _ _=>rfl)) (aU _))))) (ao (ay dP)) aS)
  (ai (bo (PW.pt (lv (aQ (iZ hux) (pvA Hh) (aM bm (pvA uA) am (fun _ _=>rfl)) (aU _)) (je (aQ (iZ hux) (ak U19 (rmD hr) (aD (aM aY (pvA ir) (pvA fY) (fun _ _=>rfl)) (af (pvA gy) (af (pvA oq) ag)))) (aM bm (pvA uA) am (fun _ _=>rfl)) (aU _))))) (ao (ay dP)) aS)
  (ao (bo (PW.pt (lv (aQ (iZ hux) (ak U19 (rmD hr) (aD (aM aY (pvA ir) (av eZ am (pvA fY)) (fun _ _=>rfl)) (af (pvA gy) (af (pvA oq) ag)))) (aM bm (pvA uB) am (fun _ _=>rfl)) (aU _)) (je (aQ (iZ hux) (em U6 (rmD hr) T.cl_Table (aM aY (pvA ir) (av eZ am (pvA fY)) (fun _ _=>rfl)) (af (pvA j7) ag)) (aM bm (pvA uB) am (fun _ _=>rfl)) (aU _))))) (ao (ay dP)) aS))))))))))))
  (ao (ay (nQ (GI hux) (ak U19 (rmD hr) (aL (mY U9 (rmD hr) T.cl_Table (aM aY (pvA ir) am (fun _ _=>rfl))) (af (pvA gy) (af (pvA oq) ag)))) (ak U19 (rmD hr) (aD (aM aY (pvA ir) am (fun _ _=>rfl)) (af (pvA gy) (af (pvA oq) ag)))) (aU _))))))))))))))),Kg h⟩
theorem yJ {G:GF} (D:Ad K G.Table "Table.__init__" dv gB f fd) (B:Blt mg) (T:dG P w K mg G) (U36:Dm P w K mg base 5) (U15:Ds P w K mg base 2):FnI P w K mg base 6 G.Table gB (cz K G):=by
 refine D.ok yB (by walk_at "l") fun _ _ _ _ _ _ _ _ hr h=>?_
 exact ⟨jB K G,(ai (kH (pvA da) (ak U36 (rmD hr) (af (pvA ox) (af (pvA j8) ag))) rfl)
  (ai (kH (pvA da) (pvA ox) rfl)
  (ai (kH (pvA da) (ce hZ rfl B.list N0 (af (pvA j8) ag)) rfl)
  (ai (kH (pvA da) (aJ aZ rfl B.len Nb (af (pvA j8) ag)) rfl)
  (ai (kH (pvA da) (bP (sc:=(ae dv)) (NX:=gB) (N:=["hand","self"]) (ix:=[none,some 0]) rfl (by walk_at "c") (cc rfl B.range (be (bO (pvA da) rfl) ag)) (by intros; exact (aB (i:=0) (show (["hand","self"]:List Str).Nodup by decide +kernel) rfl (Ly rfl))) (by intros; exact bV) (by intros; exact (ak U15 (rmD hr) (be (bO (pv 1) rfl) (af (pv 0) ag))))) rfl)
  (ao (kH (pvA da) (cL ag) rfl))))))),xZ T.ct h⟩
theorem xp {G:GF} (D:fV K G.Table "deals" "Table.deals" gn iM f fd) (B:Blt mg) (T:dG P w K mg G):DK P w K mg base G 1:=by
 refine D.ok xl (by walk_at "l") fun _ _ _ _ _ _ _ _ hr h=>?_
 exact ⟨iJ K G,(ao (ay (ce hZ rfl B.list N0 (be (bO (pvA wm) rfl) ag)))),wO T.ct h⟩
theorem yK {G:GF} (D:fV K G.Table "view" "Table.view" fN nn f fd) (B:Blt mg) (T:dG P w K mg G) (U35:uo P w K mg base 3) (U2:sQ P w K mg base 1):G7 P w K mg base G 4:=by
 refine D.ok yC (by walk_at "l") fun _ _ _ _ _ _ _ _ hr h=>?_
 exact ⟨jC K G,(ai (cj (ak U2 (rmD hr) (aL (ak U35 (rmD hr) (af (pvA oz) (be (bO (pvA oy) rfl) ag))) (ar aW ag))))
  (ao (ay (ce hZ rfl B.list N0 (aD (aM aY (bO (pvA oy) rfl) (pvA oz) (fun _ _=>rfl)) ag))))),yb T.ct h⟩
theorem yL {G:GF} (D:fV K G.Table "word" "Table.word" eN lI f fd) (B:Blt mg) (T:dG P w K mg G) (U8:DL P w K mg base G 3) (U6:AC P w K mg base G 40) (U30:Dl P w K mg base 3) (U2:sQ P w K mg base 1):G5 P w K mg base G 41:=by
 refine D.ok yD (by walk_at "l") fun _ _ _ _ _ _ _ _ hr h=>?_
 exact ⟨jD K G,(ai (cj (ak U2 (rmD hr) (aL (ak U30 (rmD hr) (af (pvA oA) (be (bO (pvA j9) rfl) ag))) (ar aW ag))))
  (ao (ay (em U8 (rmD hr) T.cl_Table (pvA j9) (af (pvA oA) (aL (em U6 (rmD hr) T.cl_Table (pvA j9) (af (pvA xm) ag)) ag)))))),ye T.ct h⟩
theorem yM {G:GF} (D:fV K G.Table "show" "Table.show" cO vM f fd) (B:Blt mg) (T:dG P w K mg G) (m_set:mg "set"=none) (U8:DL P w K mg base G 3) (U27:DC P w K mg base 4) (U35:uo P w K mg base 3) (U14:DD P w K mg base 1) (U2:sQ P w K mg base 1):G4 P w K mg base G 5:=by
 refine D.ok qo (by walk_at "l") fun _ _ _ _ _ _ _ _ hr h=>?_
 exact ⟨jF K G,(ai (cj (ak U2 (rmD hr) (aL (ak U35 (rmD hr) (af (pvA oB) (be (bO (pvA fO) rfl) ag))) (ar aW ag))))
  (ai (cj (ak U2 (rmD hr) (aL (ak U35 (rmD hr) (af (pvA xn) (aG (av bt (bO (pvA fO) rfl) am) ag))) (ar aW ag))))
  (ai (cj (ak U2 (rmD hr) (aL (ak U27 (rmD hr) (af (pvA oE) (be (bO (pvA fO) rfl) ag))) (ar aW ag))))
  (ai (aA (i:=4) qo.nd rfl (Pt rfl) (Da rfl B.sorted m_set (af (pvA oE) ag)))
  (ao (ay (em U8 (rmD hr) T.cl_Table (pvA fO) (bw (bE (af (pvA oB) ag)) (bZ (bP (sc:=(ae cO)) (NX:=su) (N:=pL) (ix:=[none,some 2,some 4]) rfl (by walk_at "c") (cb (bO (pvA fO) rfl)) (by intros; exact (aB (i:=0) (show (pL:List Str).Nodup by decide +kernel) rfl (Ly rfl))) (by intros; exact bV) (by intros; exact (ak U14 (rmD hr) (af (pv 0) (af (pv 1) (af (pv 2) ag)))))) ag))))))))),yf T.ct h⟩
theorem wt {G:GF} (D:fV K G.Table "truths" "Table.truths" d5 np f fd) (B:Blt mg) (T:dG P w K mg G) (U32:Dp P w K mg base 6) (U21:HP P w K mg base 39):AC P w K mg base G 40:=by
 refine D.ok wn (by walk_at "l") fun _ _ _ _ _ _ _ _ hr h=>?_
 exact ⟨ie K G,(ai (bo (eY (dO (ak U32 (rmD hr) (be (bO (pvA fZ) rfl) (be (bO (pvA fZ) rfl) (af (pvA mK) ag)))))) (ao oJ) aS)
  (ao (ay (ak U21 (rmD hr) (be (bO (pvA fZ) rfl) (be (bO (pvA fZ) rfl) (af (pvA mK) ag))))))),vy T.ct h⟩
theorem A0 {G:GF} (D:fV K G.Table "saw" "Table.saw" dX kF f fd) (B:Blt mg) (T:dG P w K mg G) (U33:AB P w K mg base 1) (U35:uo P w K mg base 3) (U2:sQ P w K mg base 1):G6 P w K mg base G 4:=by
 refine D.ok AO (by walk_at "l") fun _ _ _ _ _ _ _ _ hr h=>?_
 exact ⟨kt K G,(ai (cj (ak U2 (rmD hr) (aL (ak U35 (rmD hr) (af (pvA qp) (be (bO (pvA iT) rfl) ag))) (ar aW ag))))
  (ai (cj (ak U2 (rmD hr) (aL (ak U35 (rmD hr) (af (pvA qq) (aL (aJ aZ rfl B.len Nb (be (bO (pvA iT) rfl) ag)) ag))) (ar aW ag))))
  (ao (ay (av og (cL (aL (ak U33 (rmD hr) (aD (aM aY (bO (pvA iT) rfl) (pvA qq) (fun _ _=>rfl)) (af (pvA qp) ag))) ag)) (bP (sc:=(ae dX)) (NX:=kF) (N:=Dg) (ix:=[none,none,some 2,some 1]) rfl (by walk_at "c") (cb (bO (pvA iT) rfl)) (by intros; exact (gb rfl (bq (aB (i:=0) (show (Dg:List Str).Nodup by decide +kernel) rfl (Ly rfl)) (bq (aB (i:=1) (show (Dg:List Str).Nodup by decide +kernel) rfl (Ly rfl)) eR)))) (by intros; exact (rW (aQ Er (pv 3) (pv 0) rfl))) (by intros; exact (aM aY (pv 1) (pv 2) (fun _ _=>rfl))))))))),Ar T.ct h⟩
theorem xq {G:GF} (D:fV K G.Table "again" "Table.again" eX iM f fd) (B:Blt mg) (T:dG P w K mg G) (U17:FnI P w K mg base 6 G.Table gB (cz K G)):G8 P w K mg base G 8:=by
 refine D.ok oF (by walk_at "l") fun _ _ _ _ _ _ _ _ hr h=>?_
 exact ⟨iL K G,(ai (aA (i:=1) oF.nd rfl (Ly rfl) (uf U17 (rmD hr) T.m_Table (be (bO (pvA gE) rfl) (be (bO (pvA gE) rfl) ag))))
  (ai (kH (pvA jS) (ce hZ rfl B.list N0 (be (bO (pvA gE) rfl) ag)) rfl)
  (ai (kH (pvA jS) (ce hZ rfl B.list N0 (be (bO (pvA gE) rfl) ag)) rfl)
  (ao (ay (pvA jS)))))),wR T.ct h⟩
theorem xr {G:GF} (D:fV K G.Table "learn" "Table.learn" cS vN f fd) (B:Blt mg) (T:dG P w K mg G) (U45:Dt P w K mg base 2):DL P w K mg base G 3:=by
 refine D.ok oG (by walk_at "l") fun _ _ _ _ _ _ _ _ hr h=>?_
 exact ⟨iK K G,(ai (bX LY rfl (uE (pvA nu)) (aB (i:=3) oG.nd rfl (Ly rfl)) (ao (nN (ak U45 (rmD hr) (aD (aM aY (bO (pvA jT) rfl) (pvA nv) (fun _ _=>rfl)) (af (pvA jU) ag))) (qB (bO (pvA jT) rfl) (pvA nv) lQ))))
  (ai (cj (lw MF M6 M7 fc (bO (pvA jT) rfl) (bw (bE (af (pvA nu) (af (pvA jU) ag))) ag)))
  (ao (ay (ce hZ rfl B.list N0 (af (pvA jU) ag)))))),wP T.ct h⟩
theorem K3 (B:Blt mg) {G:GF} {f1:Addr} {fd1:LL} (V85:Def K mg "is_whole" jJ pN f1 fd1) {f2:Addr} {fd2:LL} (V76:Def K mg "is_within" fv lH f2 fd2) {f3:Addr} {fd3:LL} (V86:Def K mg "is_below" ij m9 f3 fd3) {f4:Addr} {fd4:LL} (V81:Def K mg "are_hands" dW vX f4 fd4) {f5:Addr} {fd5:LL} (V92:Def K mg "is_pack" gO fW f5 fd5) {f6:Addr} {fd6:LL} (V88:Def K mg "how_many" dU fW f6 fd6) {f7:Addr} {fd7:LL} (V90:Def K mg "choices" fP vZ f7 fd7) {f8:Addr} {fd8:LL} (V87:Def K mg "deals_of" fj fW f8 fd8) {f9:Addr} {fd9:LL} (V52:Def K mg "with_one_more" bI v3 f9 fd9) {f10:Addr} {fd10:LL} (V84:Def K mg "cards_of" im nh f10 fd10) {f11:Addr} {fd11:LL} (V83:Def K mg "is_saying" cI kE f11 fd11) {f12:Addr} {fd12:LL} (V91:Def K mg "is_word" gQ kE f12 fd12) {f13:Addr} {fd13:LL} (V101:Def K mg "fits" kQ kB f13 fd13) {f14:Addr} {fd14:LL} (V89:Def K mg "parts_of" fX wc f14 fd14) {f15:Addr} {fd15:LL} (V56:Def K mg "parts_of_all" cX wb f15 fd15) {f16:Addr} {fd16:LL} (V66:Def K mg "first_view" fK ni f16 fd16) {f17:Addr} {fd17:LL} (V96:Def K mg "split" lN nj f17 fd17) {f18:Addr} {fd18:LL} (V51:Def K mg "least_with_same" bF ["marks"] f18 fd18) {f19:Addr} {fd19:LL} (V93:Def K mg "joined" eL v4 f19 fd19) {f20:Addr} {fd20:LL} (V100:Def K mg "link" jM vQ f20 fd20) {f21:Addr} {fd21:LL} (V94:Def K mg "end_of" i3 vW f21 fd21) {f22:Addr} {fd22:LL} (V72:Def K mg "truths_of" bJ sL f22 fd22) {f23:Addr} {fd23:LL} (V99:Def K mg "both" mE eP f23 fd23) {f24:Addr} {fd24:LL} (V95:Def K mg "either" i4 eP f24 fd24) {f25:Addr} {fd25:LL} (V97:Def K mg "known" gr vV f25 fd25) {f26:Addr} {fd26:LL} (V55:Def K mg "known_to_all" cE vY f26 fd26) {f27:Addr} {fd27:LL} (V98:Def K mg "seen" mH lJ f27 fd27) {f28:Addr} {fd28:LL} (V53:Def K mg "refuse_unless" fm pM f28 fd28) {f29:Addr} {fd29:LL} (V78:Def K mg "are_cards" gu ng f29 fd29) {f30:Addr} {fd30:LL} (V64:Def K mg "least_held" dq pL f30 fd30) {f31:Addr} {fd31:LL} (V80:Def K mg "_law_cell" fz vI f31 fd31) {f32:Addr} {fd32:LL} (V54:Def K mg "_law_product" cY wa f32 fd32) {f33:Addr} {fd33:LL} (V71:Def K mg "_law_count" dt vO f33 fd33) {f34:Addr} {fd34:LL} (V77:Def K mg "_law_pack" cJ vK f34 fd34) {f35:Addr} {fd35:LL} (V65:Def K mg "_law_words" eM sN f35 fd35) {f36:Addr} {fd36:LL} (V67:Def K mg "_law_group" fM m8 f36 fd36) {f37:Addr} {fd37:LL} (V82:Def K mg "_law_pool" cr nK f37 fd37) {f38:Addr} {fd38:LL} (V58:Def K mg "_law_saying" bn Az f38 fd38) {f39:Addr} {fd39:LL} (V75:Def K mg "_law_deed" cu nK f39 fd39) {f40:Addr} {fd40:LL} (V74:Def K mg "_law_done" gx m7 f40 fd40) {f41:Addr} {fd41:LL} (V70:Def K mg "_law_stand" du vG f41 fd41) {f42:Addr} {fd42:LL} (V73:Def K mg "_law_anew" cv vF f42 fd42) {f43:Addr} {fd43:LL} (V102:Def K mg "law" dH sP f43 fd43) {f44:Addr} {fd44:LL} (V68:Ad K G.Table "Table.__init__" dv gB f44 fd44) {f45:Addr} {fd45:LL} (V61:fV K G.Table "deals" "Table.deals" gn iM f45 fd45) {f46:Addr} {fd46:LL} (V62:fV K G.Table "view" "Table.view" fN nn f46 fd46) {f47:Addr} {fd47:LL} (V63:fV K G.Table "word" "Table.word" eN lI f47 fd47) {f48:Addr} {fd48:LL} (V69:fV K G.Table "show" "Table.show" cO vM f48 fd48) {f49:Addr} {fd49:LL} (V57:fV K G.Table "truths" "Table.truths" d5 np f49 fd49) {f50:Addr} {fd50:LL} (V79:fV K G.Table "saw" "Table.saw" dX kF f50 fd50) {f51:Addr} {fd51:LL} (V60:fV K G.Table "again" "Table.again" eX iM f51 fd51) {f52:Addr} {fd52:LL} (V59:fV K G.Table "learn" "Table.learn" cS vN f52 fd52) (T:dG P w K mg G) {t_MOST_CARDS:Tok} (m_MOST_CARDS:mg "MOST_CARDS"=some (.int 12 t_MOST_CARDS)) {t_MOST_HANDS:Tok} (m_MOST_HANDS:mg "MOST_HANDS"=some (.int 5 t_MOST_HANDS)) {t_MOST_DEALS:Tok} (m_MOST_DEALS:mg "MOST_DEALS"=some (.int 2000 t_MOST_DEALS)) {t_MOST_WORDS:Tok} (m_MOST_WORDS:mg "MOST_WORDS"=some (.int 30 t_MOST_WORDS)) (m_set:mg "set"=none):cH P w K mg base CX0 74 f43 fd43 sP (uO K):=by
 have U39:GZ P w K mg base 1:=DW V90 B
 have U34:Dj P w K mg base 1:=Bz V85 B
 have U25:AA P w K mg base 2:=AQ V76 B U34
 have U41:GY P w K mg base 3:=DV V92 B m_MOST_CARDS m_MOST_HANDS U25
 have U37:G0 P w K mg base 4:=BB V88 B U39 U41
 have U1:G3 P w K mg base 1:=uC V52 B
 have U36:Dm P w K mg base 5:=BC V87 B m_MOST_DEALS U37 U1
 have U33:AB P w K mg base 1:=BD V84 B
 have U0:y8 P w K mg base 1:=rQ V51 B
 have U15:Ds P w K mg base 2:=yE V66 B U33 U0
 have U17:FnI P w K mg base 6 G.Table gB (cz K G):=yJ V68 B T U36 U15
 have U9:G8 P w K mg base G 8:=xq V60 B T U17
 have U30:Dl P w K mg base 3:=AR V81 B U25
 have U35:uo P w K mg base 3:=BA V86 B U25
 have U50:Dq P w K mg base 4:=Jl V101 B U30 U35
 have U40:Dn P w K mg base 5:=DX V91 B T U50
 have U38:Dr P w K mg base 1:=BE V89 B T
 have U5:Do P w K mg base 2:=wo V56 B U38
 have U32:Dp P w K mg base 6:=AS V83 B m_MOST_WORDS U34 U40 U5
 have U48:za P w K mg base 1:=Jn V99 B
 have U44:Dw P w K mg base 1:=FF V95 B
 have U43:y9 P w K mg base 1:=FE V94 B
 have U49:Du P w K mg base 2:=Jm V100 B U43
 have U42:Dv P w K mg base 3:=FD V93 B U43 U49
 have U46:we P w K mg base 1:=Hj V97 B
 have U4:Dy P w K mg base 2:=wp V55 B U48 U46
 have U47:Dz P w K mg base 2:=Jo V98 B U46
 have U21:HP P w K mg base 39:=rR V72 B U48 U33 U44 U42 U46 U4 U47 35
 have U6:AC P w K mg base G 40:=wt V57 B T U32 U21
 have U10:DK P w K mg base G 1:=xp V61 B T
 have U45:Dt P w K mg base 2:=Hi V96 B U0
 have U8:DL P w K mg base G 3:=xr V59 B T U45
 have U27:DC P w K mg base 4:=AT V78 B U35
 have U14:DD P w K mg base 1:=yF V64 B
 have U2:sQ P w K mg base 1:=uD V53 B
 have U18:G4 P w K mg base G 5:=yM V69 B T m_set U8 U27 U35 U14 U2
 have U12:G5 P w K mg base G 41:=yL V63 B T U8 U6 U30 U2
 have U23:zd P w K mg base G 42:=AY V74 B T U18 U12
 have U28:G6 P w K mg base G 4:=A0 V79 B T U33 U35 U2
 have U11:G7 P w K mg base G 4:=yK V62 B T U35 U2
 have U19:ze P w K mg base G 5:=yI V70 B T U10 U28 U11
 have U22:DJ P w K mg base G 43:=AZ V73 B T U10 U17 U6 U23 U19
 have U29:pO P w K mg base 1:=AU V80 B
 have U16:zb P w K mg base 1:=yH V67 B
 have U31:DH P w K mg base 2:=AW V82 B U29
 have U13:HN P w K mg base 71:=qr V65 B 70
 have U7:zc P w K mg base 72:=xo V58 B U29 U16 U31 U13
 have U24:DI P w K mg base 73:=AX V75 B U29 U16 U7
 have U3:DE P w K mg base 1:=wq V54 B
 have U20:DF P w K mg base 2:=yG V71 B U3
 have U26:DG P w K mg base 3:=AV V77 B U29 U20
 exact Kn V102 B T U9 U17 U6 U22 U29 U24 U23 U26 U7 U19 U36
end
@[elab_as_elim] theorem ofLen1 {α:Type} {P:List α->Prop} (us:List α) (hl:us.length=1) (h:∀ a0:α,P [a0]):P us:=match us,hl with | [a0],_=>h a0
@[elab_as_elim] theorem ofLen2 {α:Type} {P:List α->Prop} (us:List α) (hl:us.length=2) (h:∀ a0 a1:α,P [a0,a1]):P us:=match us,hl with | [a0,a1],_=>h a0 a1
@[elab_as_elim] theorem ofLen3 {α:Type} {P:List α->Prop} (us:List α) (hl:us.length=3) (h:∀ a0 a1 a2:α,P [a0,a1,a2]):P us:=match us,hl with | [a0,a1,a2],_=>h a0 a1 a2
@[elab_as_elim] theorem ofLen4 {α:Type} {P:List α->Prop} (us:List α) (hl:us.length=4) (h:∀ a0 a1 a2 a3:α,P [a0,a1,a2,a3]):P us:=match us,hl with | [a0,a1,a2,a3],_=>h a0 a1 a2 a3
@[elab_as_elim] theorem ofLen5 {α:Type} {P:List α->Prop} (us:List α) (hl:us.length=5) (h:∀ a0 a1 a2 a3 a4:α,P [a0,a1,a2,a3,a4]):P us:=match us,hl with | [a0,a1,a2,a3,a4],_=>h a0 a1 a2 a3 a4
local macro_rules | `(tactic| walk_at "b1")=>`(tactic| exact fun _ _ _ _ _ _ us hl=>ofLen1 us hl fun _=>rfl)
local macro_rules | `(tactic| walk_at "b2")=>`(tactic| exact fun _ _ _ _ _ _ us hl=>ofLen2 us hl fun _ _=>rfl)
local macro_rules | `(tactic| walk_at "b3")=>`(tactic| exact fun _ _ _ _ _ _ us hl=>ofLen3 us hl fun _ _ _=>rfl)
local macro_rules | `(tactic| walk_at "b4")=>`(tactic| exact fun _ _ _ _ _ _ us hl=>ofLen4 us hl fun _ _ _ _=>rfl)
local macro_rules | `(tactic| walk_at "b5")=>`(tactic| exact fun _ _ _ _ _ _ us hl=>ofLen5 us hl fun _ _ _ _ _=>rfl)
theorem all_mk {l:W.OpenLaw} {w:World} {K:Fg} {h:Heap} {mg:Str->Option Value} {fa:Addr} (X:K.In h) (G:h.Ns L5 mg) (hfa:mg "law"=some (.ref fa))
  {t_MOST_CARDS:Tok}  {t_MOST_HANDS:Tok}  {t_MOST_DEALS:Tok}  {t_MOST_WORDS:Tok}   {aF fm1 fm2 fm3 fm4 fm5 fm6 fm7 fm8:Addr} {tk1 tk2 tk3 tk4 tk5 tk6 tk7 tk8 tu1 tu2 tu3 tu4 tu5 tu6 tu7 tu8 tu9 tu10 tu11 tu12 tu13 tu14:Tok} {epF tn1 tn2 tn3 tn4 tn5 tn6 tn7 tn8:Nat} {to1 to2 to3 to4 to5 to6 to7 to8:Option Addr} {ts1 ts2 ts3 ts4 ts5 ts6 ts7 ts8:Array (Option Value)} {aT:Addr}
  (q1:DfA K "is_whole" jJ)
  (q2:DfA K "is_within" fv)
  (q3:DfA K "is_below" ij)
  (q4:DfA K "are_hands" dW)
  (q5:DfA K "is_pack" gO)
  (q6:DfA K "how_many" dU)
  (q7:DfA K "choices" fP)
  (q8:DfA K "deals_of" fj)
  (q9:DfA K "with_one_more" bI)
  (q10:DfA K "cards_of" im)
  (q11:DfA K "is_saying" cI)
  (q12:DfA K "is_word" gQ)
  (q13:DfA K "fits" kQ)
  (q14:DfA K "parts_of" fX)
  (q15:DfA K "parts_of_all" cX)
  (q16:DfA K "first_view" fK)
  (q17:DfA K "split" lN)
  (q18:DfA K "least_with_same" bF)
  (q19:DfA K "joined" eL)
  (q20:DfA K "link" jM)
  (q21:DfA K "end_of" i3)
  (q22:DfA K "truths_of" bJ)
  (q23:DfA K "both" mE)
  (q24:DfA K "either" i4)
  (q25:DfA K "known" gr)
  (q26:DfA K "known_to_all" cE)
  (q27:DfA K "seen" mH)
  (q28:DfA K "refuse_unless" fm)
  (q29:DfA K "are_cards" gu)
  (q30:DfA K "least_held" dq)
  (q31:DfA K "_law_cell" fz)
  (q32:DfA K "_law_product" cY)
  (q33:DfA K "_law_count" dt)
  (q34:DfA K "_law_pack" cJ)
  (q35:DfA K "_law_words" eM)
  (q36:DfA K "_law_group" fM)
  (q37:DfA K "_law_pool" cr)
  (q38:DfA K "_law_saying" bn)
  (q39:DfA K "_law_deed" cu)
  (q40:DfA K "_law_done" gx)
  (q41:DfA K "_law_stand" du)
  (q42:DfA K "_law_anew" cv)
  (q43:DfA K "law" dH)
  (q44:MtA K aT "__init__" "Table.__init__" dv)
  (q45:MtA K aT "deals" "Table.deals" gn)
  (q46:MtA K aT "view" "Table.view" fN)
  (q47:MtA K aT "word" "Table.word" eN)
  (q48:MtA K aT "show" "Table.show" cO)
  (q49:MtA K aT "truths" "Table.truths" d5)
  (q50:MtA K aT "saw" "Table.saw" dX)
  (q51:MtA K aT "again" "Table.again" eX)
  (q52:MtA K aT "learn" "Table.learn" cS)
  (y1:NA K L5 "MOST_CARDS"=some (some (.int 12 t_MOST_CARDS)))
  (y2:NA K L5 "MOST_HANDS"=some (some (.int 5 t_MOST_HANDS)))
  (y3:NA K L5 "MOST_DEALS"=some (some (.int 2000 t_MOST_DEALS)))
  (y4:NA K L5 "MOST_WORDS"=some (some (.int 30 t_MOST_WORDS)))
  (y5:NA K L5 "set"=some none)
  (x1:NA K L5 "FORMS"=some (some (.ref aF)))
  (x2:K.lookup aF=some ⟨.type "dict",none,.dict #[⟨Mz w.params "holds",.str "holds" tk1,.ref fm1⟩,⟨Mz w.params "not",.str "not" tk2,.ref fm2⟩,⟨Mz w.params "and",.str "and" tk3,.ref fm3⟩,⟨Mz w.params "or",.str "or" tk4,.ref fm4⟩,⟨Mz w.params "knows",.str "knows" tk5,.ref fm5⟩,⟨Mz w.params "all",.str "all" tk6,.ref fm6⟩,⟨Mz w.params "common",.str "common" tk7,.ref fm7⟩,⟨Mz w.params "sees",.str "sees" tk8,.ref fm8⟩] epF,#[]⟩)
  (x3:K.lookup fm1=some ⟨.type "tuple",to1,.seq #[.str "holder" tu1,.str "card" tu2] tn1,ts1⟩)
  (x4:K.lookup fm2=some ⟨.type "tuple",to2,.seq #[.str "saying" tu3] tn2,ts2⟩)
  (x5:K.lookup fm3=some ⟨.type "tuple",to3,.seq #[.str "saying" tu4,.str "saying" tu5] tn3,ts3⟩)
  (x6:K.lookup fm4=some ⟨.type "tuple",to4,.seq #[.str "saying" tu6,.str "saying" tu7] tn4,ts4⟩)
  (x7:K.lookup fm5=some ⟨.type "tuple",to5,.seq #[.str "hand" tu8,.str "saying" tu9] tn5,ts5⟩)
  (x8:K.lookup fm6=some ⟨.type "tuple",to6,.seq #[.str "hands" tu10,.str "saying" tu11] tn6,ts6⟩)
  (x9:K.lookup fm7=some ⟨.type "tuple",to7,.seq #[.str "hands" tu12,.str "saying" tu13] tn7,ts7⟩)
  (x10:K.lookup fm8=some ⟨.type "tuple",to8,.seq #[.str "hand" tu14] tn8,ts8⟩)
  (x11:(aF == Nl)=false)
  (x12:NA K L5 "Table"=some (some (.ref aT)))
  (x13:W.plainGet K aT Ui=true)
  (x14:W.hasDictIn K aT=true)
  (x15:W.plainOver K aT=true)
  (x16:Qn K (.ref aT) "__setattr__"=some (some (.builtin "object.__setattr__")))
  (x17:W.makesIn K aT=true)
  (x18:W.keepIn K (.ref aT)=true)
  (x19:Qn K (.ref aT) "dealt"=some none)
  (x20:Qn K (.ref aT) "cards"=some none)
  (x21:Qn K (.ref aT) "sizes"=some none)
  (x22:Qn K (.ref aT) "hands"=some none)
  (x23:Qn K (.ref aT) "views"=some none)
  (x24:Qn K (.ref aT) "deeds"=some none)
  (z1:NA K L5 "len"=some none) (z2:NA K L5 "range"=some none) (z3:NA K L5 "tuple"=some none) (z4:NA K L5 "list"=some none) (z5:NA K L5 "int"=some none) (z6:NA K L5 "bool"=some none) (z7:NA K L5 "str"=some none) (z8:NA K L5 "dict"=some none) (z9:NA K L5 "sum"=some none) (z10:NA K L5 "all"=some none) (z11:NA K L5 "min"=some none) (z12:NA K L5 "max"=some none) (z13:NA K L5 "sorted"=some none) (z14:NA K L5 "enumerate"=some none) (z15:NA K L5 "zip"=some none) (z16:NA K L5 "isinstance"=some none):
  ∃ fd:LL,(∀ (s:Shared) (v:Value),BindsTo s fd ⟨[v],[]⟩ [("_law_script",v)])/\∀ base:Heap,K.In base->base.Ns L5 mg->cH l.prog w K mg base CX0 74 fa fd sP (uO K):=by
 have B:Blt mg:=⟨MG X G z1,MG X G z2,MG X G z3,MG X G z4,MG X G z5,MG X G z6,MG X G z7,MG X G z8,MG X G z9,MG X G z10,MG X G z11,MG X G z12,MG X G z13,MG X G z14,MG X G z15,MG X G z16⟩
 obtain ⟨_,_,D1⟩:=q1.df (ps:=pN) X G (by walk_at "b1")
 obtain ⟨_,_,D2⟩:=q2.df (ps:=lH) X G (by walk_at "b3")
 obtain ⟨_,_,D3⟩:=q3.df (ps:=m9) X G (by walk_at "b2")
 obtain ⟨_,_,D4⟩:=q4.df (ps:=vX) X G (by walk_at "b2")
 obtain ⟨_,_,D5⟩:=q5.df (ps:=fW) X G (by walk_at "b2")
 obtain ⟨_,_,D6⟩:=q6.df (ps:=fW) X G (by walk_at "b2")
 obtain ⟨_,_,D7⟩:=q7.df (ps:=vZ) X G (by walk_at "b2")
 obtain ⟨_,_,D8⟩:=q8.df (ps:=fW) X G (by walk_at "b2")
 obtain ⟨_,_,D9⟩:=q9.df (ps:=v3) X G (by walk_at "b2")
 obtain ⟨_,_,D10⟩:=q10.df (ps:=nh) X G (by walk_at "b2")
 obtain ⟨_,_,D11⟩:=q11.df (ps:=kE) X G (by walk_at "b3")
 obtain ⟨_,_,D12⟩:=q12.df (ps:=kE) X G (by walk_at "b3")
 obtain ⟨_,_,D13⟩:=q13.df (ps:=kB) X G (by walk_at "b4")
 obtain ⟨_,_,D14⟩:=q14.df (ps:=wc) X G (by walk_at "b1")
 obtain ⟨_,_,D15⟩:=q15.df (ps:=wb) X G (by walk_at "b1")
 obtain ⟨_,_,D16⟩:=q16.df (ps:=ni) X G (by walk_at "b2")
 obtain ⟨_,_,D17⟩:=q17.df (ps:=nj) X G (by walk_at "b2")
 obtain ⟨_,_,D18⟩:=q18.df (ps:=["marks"]) X G (by walk_at "b1")
 obtain ⟨_,_,D19⟩:=q19.df (ps:=v4) X G (by walk_at "b2")
 obtain ⟨_,_,D20⟩:=q20.df (ps:=vQ) X G (by walk_at "b3")
 obtain ⟨_,_,D21⟩:=q21.df (ps:=vW) X G (by walk_at "b2")
 obtain ⟨_,_,D22⟩:=q22.df (ps:=sL) X G (by walk_at "b3")
 obtain ⟨_,_,D23⟩:=q23.df (ps:=eP) X G (by walk_at "b2")
 obtain ⟨_,_,D24⟩:=q24.df (ps:=eP) X G (by walk_at "b2")
 obtain ⟨_,_,D25⟩:=q25.df (ps:=vV) X G (by walk_at "b2")
 obtain ⟨_,_,D26⟩:=q26.df (ps:=vY) X G (by walk_at "b2")
 obtain ⟨_,_,D27⟩:=q27.df (ps:=lJ) X G (by walk_at "b2")
 obtain ⟨_,_,D28⟩:=q28.df (ps:=pM) X G (by walk_at "b2")
 obtain ⟨_,_,D29⟩:=q29.df (ps:=ng) X G (by walk_at "b2")
 obtain ⟨_,_,D30⟩:=q30.df (ps:=pL) X G (by walk_at "b3")
 obtain ⟨_,_,D31⟩:=q31.df (ps:=vI) X G (by walk_at "b2")
 obtain ⟨_,_,D32⟩:=q32.df (ps:=wa) X G (by walk_at "b1")
 obtain ⟨_,_,D33⟩:=q33.df (ps:=vO) X G (by walk_at "b2")
 obtain ⟨_,_,D34⟩:=q34.df (ps:=vK) X G (by walk_at "b3")
 obtain ⟨_,_,D35⟩:=q35.df (ps:=sN) X G (by walk_at "b1")
 obtain ⟨_,_,D36⟩:=q36.df (ps:=m8) X G (by walk_at "b2")
 obtain ⟨_,_,D37⟩:=q37.df (ps:=nK) X G (by walk_at "b4")
 obtain ⟨_,_,D38⟩:=q38.df (ps:=Az) X G (by walk_at "b5")
 obtain ⟨_,_,D39⟩:=q39.df (ps:=nK) X G (by walk_at "b4")
 obtain ⟨_,_,D40⟩:=q40.df (ps:=m7) X G (by walk_at "b2")
 obtain ⟨_,_,D41⟩:=q41.df (ps:=vG) X G (by walk_at "b3")
 obtain ⟨_,_,D42⟩:=q42.df (ps:=vF) X G (by walk_at "b4")
 obtain ⟨fd,D43,hb⟩:=q43.law X G (by walk_at "b1") hfa fun _ _ _ _ _ _ _ _=>.of_eq rfl
 obtain ⟨_,_,D44⟩:=q44.di (ps:=gB) x17 x18 (by walk_at "b3")
 obtain ⟨_,_,D45⟩:=q45.df (ps:=iM) (by walk_at "b1")
 obtain ⟨_,_,D46⟩:=q46.df (ps:=nn) (by walk_at "b2")
 obtain ⟨_,_,D47⟩:=q47.df (ps:=lI) (by walk_at "b3")
 obtain ⟨_,_,D48⟩:=q48.df (ps:=vM) (by walk_at "b4")
 obtain ⟨_,_,D49⟩:=q49.df (ps:=np) (by walk_at "b2")
 obtain ⟨_,_,D50⟩:=q50.df (ps:=kF) (by walk_at "b3")
 obtain ⟨_,_,D51⟩:=q51.df (ps:=iM) (by walk_at "b1")
 obtain ⟨_,_,D52⟩:=q52.df (ps:=vN) (by walk_at "b3")
 refine ⟨fd,hb,fun base _ _=>?_⟩
 have T:dG l.prog w K mg _:=Gw (IN (aC:=0) x11 (R5 X G x1) x2 x3 x4 x5 x6 x7 x8 x9 x10) (R5 X G x12) x13 x14 x15 x16 x19 x20 x21 x22 x23 x24
 exact K3 B D1 D2 D3 D4 D5 D6 D7 D8 D9 D10 D11 D12 D13 D14 D15 D16 D17 D18 D19 D20 D21 D22 D23 D24 D25 D26 D27 D28 D29 D30 D31 D32 D33 D34 D35 D36 D37 D38 D39 D40 D41 D42 D43 D44 D45 D46 D47 D48 D49 D50 D51 D52 T (R5 X G y1) (R5 X G y2) (R5 X G y3) (R5 X G y4) (MG X G y5)
end Kc_k36
local macro_rules | `(tactic| walk_at "q1")=>`(tactic| exact ⟨_,by k_is,_,_,_,_,_,_,_,_,_,by k_is,by k_is,by k_is⟩)
local macro_rules | `(tactic| walk_at "q2")=>`(tactic| exact ⟨_,by k_is,by k_is,_,_,_,_,_,_,_,_,_,by k_is,by k_is,by k_is⟩)
noncomputable def PySem.W.Fast.tw5635013995309389438 : PySem.Program := PySem.Challenge.pw_knowcards_k36_tables_again
theorem PySem.W.Fast.te5635013995309389438 : PySem.Challenge.pw_knowcards_k36_tables_again = PySem.W.Fast.tw5635013995309389438 := rfl
noncomputable def PySem.W.Fast.tw15639767637830396151 : PySem.Params → PySem.W.Frag := fun _ => []
theorem PySem.W.Fast.te15639767637830396151 : (fun _ => [] : PySem.Params → PySem.W.Frag) = PySem.W.Fast.tw15639767637830396151 := rfl
noncomputable def PySem.W.Fast.tw11375369250318514610 : PySem.Program := PySem.Challenge.pw_knowcards_k36_tables_again
theorem PySem.W.Fast.te11375369250318514610 : PySem.Challenge.pw_knowcards_k36_tables_again = PySem.W.Fast.tw11375369250318514610 := rfl
noncomputable def PySem.W.Fast.tw1568547590814009908 : PySem.Params → PySem.Obj := fun _ => default
theorem PySem.W.Fast.te1568547590814009908 : (fun _ => default : PySem.Params → PySem.Obj) = PySem.W.Fast.tw1568547590814009908 := rfl
noncomputable def PySem.W.Fast.tw1227072877000924677 : PySem.Params → PySem.Obj := fun _ => default
theorem PySem.W.Fast.te1227072877000924677 : (fun _ => default : PySem.Params → PySem.Obj) = PySem.W.Fast.tw1227072877000924677 := rfl
noncomputable def PySem.W.Fast.tw264895624274497824 : PySem.Params → PySem.Obj := fun _ => default
theorem PySem.W.Fast.te264895624274497824 : (fun _ => default : PySem.Params → PySem.Obj) = PySem.W.Fast.tw264895624274497824 := rfl
noncomputable def PySem.W.Fast.tw4961560404352525626 : PySem.Params → PySem.Obj := fun _ => default
theorem PySem.W.Fast.te4961560404352525626 : (fun _ => default : PySem.Params → PySem.Obj) = PySem.W.Fast.tw4961560404352525626 := rfl
noncomputable def PySem.W.Fast.tw4973539253021547409 : PySem.Params → PySem.Obj := fun _ => default
theorem PySem.W.Fast.te4973539253021547409 : (fun _ => default : PySem.Params → PySem.Obj) = PySem.W.Fast.tw4973539253021547409 := rfl
noncomputable def PySem.W.Fast.tw3669218621010563225 : PySem.Params → PySem.Obj := fun _ => default
theorem PySem.W.Fast.te3669218621010563225 : (fun _ => default : PySem.Params → PySem.Obj) = PySem.W.Fast.tw3669218621010563225 := rfl
noncomputable def PySem.W.Fast.tw13764392064490627228 : PySem.Params → PySem.Obj := fun _ => default
theorem PySem.W.Fast.te13764392064490627228 : (fun _ => default : PySem.Params → PySem.Obj) = PySem.W.Fast.tw13764392064490627228 := rfl
noncomputable def PySem.W.Fast.tw13965084355573248708 : PySem.Params → PySem.Obj := fun _ => default
theorem PySem.W.Fast.te13965084355573248708 : (fun _ => default : PySem.Params → PySem.Obj) = PySem.W.Fast.tw13965084355573248708 := rfl
noncomputable def PySem.W.Fast.tw15557338949038953600 : PySem.Params → PySem.Obj := fun _ => default
theorem PySem.W.Fast.te15557338949038953600 : (fun _ => default : PySem.Params → PySem.Obj) = PySem.W.Fast.tw15557338949038953600 := rfl
noncomputable def PySem.W.Fast.tw531420967963314821 : PySem.Params → PySem.Obj := fun _ => default
theorem PySem.W.Fast.te531420967963314821 : (fun _ => default : PySem.Params → PySem.Obj) = PySem.W.Fast.tw531420967963314821 := rfl
noncomputable def PySem.W.Fast.tw17030532607132877709 : PySem.Params → PySem.Obj := fun _ => default
theorem PySem.W.Fast.te17030532607132877709 : (fun _ => default : PySem.Params → PySem.Obj) = PySem.W.Fast.tw17030532607132877709 := rfl
noncomputable def PySem.W.Fast.tw16007224812650722764 : PySem.Params → PySem.Obj := fun _ => default
theorem PySem.W.Fast.te16007224812650722764 : (fun _ => default : PySem.Params → PySem.Obj) = PySem.W.Fast.tw16007224812650722764 := rfl
noncomputable def PySem.W.Fast.tw12270972609260087615 : PySem.Params → PySem.Obj := fun _ => default
theorem PySem.W.Fast.te12270972609260087615 : (fun _ => default : PySem.Params → PySem.Obj) = PySem.W.Fast.tw12270972609260087615 := rfl
open PySem PySem.W PyProof.Rows
set_option maxRecDepth 100000 in
set_option maxHeartbeats 0 in
theorem PySem.Challenge.cw_knowcards_k36_tables_again_holds : PySem.Challenge.rw_knowcards_k36_tables_again.Holds := by
 w_on; o_law; k_head; (case hw=>w_witness2)
 k_fill
 refine L2.FX (l:=PySem.Challenge.rw_knowcards_k36_tables_again) (k:=74) (x:="_law_script") rfl rfl ⟨rfl,by decide,by decide⟩ (fun w h Y=>PySem.W.kIn_of Y) ?F
 case F=>
  intro w mg fa h KX G hmg
  refine' Kc_k36.all_mk KX G hmg ?q1 ?q2 ?q3 ?q4 ?q5 ?q6 ?q7 ?q8 ?q9 ?q10 ?q11 ?q12 ?q13 ?q14 ?q15 ?q16 ?q17 ?q18 ?q19 ?q20 ?q21 ?q22 ?q23 ?q24 ?q25 ?q26 ?q27 ?q28 ?q29 ?q30 ?q31 ?q32 ?q33 ?q34 ?q35 ?q36 ?q37 ?q38 ?q39 ?q40 ?q41 ?q42 ?q43 ?q44 ?q45 ?q46 ?q47 ?q48 ?q49 ?q50 ?q51 ?q52 ?y1 ?y2 ?y3 ?y4 ?y5 ?x1 ?x2 ?x3 ?x4 ?x5 ?x6 ?x7 ?x8 ?x9 ?x10 ?x11 ?x12 ?x13 ?x14 ?x15 ?x16 ?x17 ?x18 ?x19 ?x20 ?x21 ?x22 ?x23 ?x24 ?z1 ?z2 ?z3 ?z4 ?z5 ?z6 ?z7 ?z8 ?z9 ?z10 ?z11 ?z12 ?z13 ?z14 ?z15 ?z16
  (case q1=>walk_at "q1")
  (case q2=>walk_at "q1")
  (case q3=>walk_at "q1")
  (case q4=>walk_at "q1")
  (case q5=>walk_at "q1")
  (case q6=>walk_at "q1")
  (case q7=>walk_at "q1")
  (case q8=>walk_at "q1")
  (case q9=>walk_at "q1")
  (case q10=>walk_at "q1")
  (case q11=>walk_at "q1")
  (case q12=>walk_at "q1")
  (case q13=>walk_at "q1")
  (case q14=>walk_at "q1")
  (case q15=>walk_at "q1")
  (case q16=>walk_at "q1")
  (case q17=>walk_at "q1")
  (case q18=>walk_at "q1")
  (case q19=>walk_at "q1")
  (case q20=>walk_at "q1")
  (case q21=>walk_at "q1")
  (case q22=>walk_at "q1")
  (case q23=>walk_at "q1")
  (case q24=>walk_at "q1")
  (case q25=>walk_at "q1")
  (case q26=>walk_at "q1")
  (case q27=>walk_at "q1")
  (case q28=>walk_at "q1")
  (case q29=>walk_at "q1")
  (case q30=>walk_at "q1")
  (case q31=>walk_at "q1")
  (case q32=>walk_at "q1")
  (case q33=>walk_at "q1")
  (case q34=>walk_at "q1")
  (case q35=>walk_at "q1")
  (case q36=>walk_at "q1")
  (case q37=>walk_at "q1")
  (case q38=>walk_at "q1")
  (case q39=>walk_at "q1")
  (case q40=>walk_at "q1")
  (case q41=>walk_at "q1")
  (case q42=>walk_at "q1")
  (case q43=>walk_at "q1")
  (case y1=>k_is)
  (case y2=>k_is)
  (case y3=>k_is)
  (case y4=>k_is)
  (case y5=>k_is)
  (case x1=>k_is)
  (case x2=>k_is)
  (case x3=>k_is)
  (case x4=>k_is)
  (case x5=>k_is)
  (case x6=>k_is)
  (case x7=>k_is)
  (case x8=>k_is)
  (case x9=>k_is)
  (case x10=>k_is)
  (case x11=>rfl)
  (case x12=>k_is)
  (case x13=>k_is)
  (case x14=>k_is)
  (case x15=>k_is)
  (case x16=>k_is)
  (case x17=>k_is)
  (case x18=>k_is)
  (case x19=>k_is)
  (case x20=>k_is)
  (case x21=>k_is)
  (case x22=>k_is)
  (case x23=>k_is)
  (case x24=>k_is)
  (case q44=>walk_at "q2")
  (case q45=>walk_at "q2")
  (case q46=>walk_at "q2")
  (case q47=>walk_at "q2")
  (case q48=>walk_at "q2")
  (case q49=>walk_at "q2")
  (case q50=>walk_at "q2")
  (case q51=>walk_at "q2")
  (case q52=>walk_at "q2")
  (case z1=>k_is); (case z2=>k_is); (case z3=>k_is); (case z4=>k_is); (case z5=>k_is); (case z6=>k_is); (case z7=>k_is); (case z8=>k_is); (case z9=>k_is); (case z10=>k_is); (case z11=>k_is); (case z12=>k_is); (case z13=>k_is); (case z14=>k_is); (case z15=>k_is); (case z16=>k_is)
