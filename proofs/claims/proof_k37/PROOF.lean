import PyProof.Rows.All
import Wide.All
import OpenK.AllK
import Wide.FinOn
import Lean
import PyProof.EqAt
import PyProof.EqKinds
import PyProof.TupleCall
import PyProof.NeKinds
import PyProof.SumWalkG
import PyProof.ConsumeWalk
import KE.IntBitsLaws
import PyProof.ZipIter
import KE.KTryMore
import PyProof.ExcArgsOwn
import KE.KDictLaws
import KE.KEqDict
import PyProof.Rows.EqDataRows
import PyProof.SetScanFacts
import PyProof.SetKind
import PyProof.Rows.SetFrom
import KE.KDictSum
import PyProof.ListMulRoad
import PyProof.Rows.CallKwBuiltin
import PyProof.Rows.SeqMore
import PyProof.WalkInts
import KE.KMinBuiltin
import KE.KRevSl
import PyProof.Rows.SortShell
import PyProof.DictWalks
import PyProof.ListRange
import KE.KItemsList
import PySem.Challenge.RW_knowcards_k37_whole_alike_just_where_see
set_option Elab.async false
set_option linter.all false
set_option maxRecDepth 100000
set_option maxHeartbeats 4000000
set_option compiler.extract_closed false
open Array renaming append_assoc → Ti, forIn_toList → Pc, getD → SY, getElem?_eq_getElem → N5, getElem?_eq_none → Ql, getElem?_toList → ON, length_toList → ME, toList_push → RB
open Bool renaming and_eq_true → NM, and_false → QT, beq_eq_decide_eq → Qv, eq_iff_iff → QB, false_and → QR, false_eq_true → M4, false_ne_true → Ma, not_true → PJ, true_and → Qn
open Classical renaming propDecidable → Og
open False renaming elim → N2
open ForInStep renaming yield → Pb
open Int renaming emod_lt_of_pos → Os, emod_nonneg → OL, le_antisymm → UY, natCast_ediv → Ux, natCast_mul → Si, toNat_natCast → Pp, zero_add → RV
open List renaming Perm → Nz, all_cons → O9, all_eq_true → RP, all_map → QE, any_cons → Qm, any_eq_false → TN, append_assoc → Rv, append_nil → Nm, cons_append → Uv, cons_eq_cons → Pq, countP_cons → Ut, count_append → Rx, count_cons → UX, drop_eq_getElem_cons → RD, ext_getElem? → Oi, filterMap_cons → PM, filter_append → OI, filter_cons → Oc, filter_cons_of_neg → OD, filter_cons_of_pos → OC, find?_cons → MH, findIdx?_eq_none_iff → PQ, findIdx?_eq_some_iff_getElem → Oo, flatMap_append → QQ, flatMap_cons → Ry, flatten_cons → Qe, foldl → UM, foldl_append → T2, foldl_cons → UN, forIn_cons → PP, forIn_nil → P7, getD_eq_getElem?_getD → Md, getElem?_append_left → OU, getElem?_append_right → PD, getElem?_eq_getElem → LS, getElem?_eq_none → Mw, getElem?_eq_some_iff → LU, getElem?_map → LX, getElem?_of_mem → QK, getElem?_range → MS, getElem?_set → OT, getElem?_set_ne → SN, getElem?_set_self → Sm, getElem?_take_of_lt → PU, getElem?_toArray → SJ, getElem?_zip_eq_some → Ou, getElem_mem → O3, getElem_range → Rb, idxOf_append → TZ, idxOf_cons → US, idxOf_lt_length_of_mem → Q9, length → Ub, length_append → Mj, length_cons → My, length_drop → Up, length_eq_zero_iff → O7, length_eraseIdx_of_lt → Rq, length_filter_le → Qx, length_map → LR, length_nil → UT, length_pos_iff → QP, length_range → MU, length_reverse → Td, length_set → N4, length_singleton → SB, length_take → NL, length_zip → Pe, lookup → Pg, lookup_cons → MX, map → Uw, map_append → Ml, map_congr_left → Nx, map_cons → Mo, map_map → NQ, map_nil → Pu, mem_append → Mt, mem_append_left → NG, mem_append_right → MB, mem_cons → L7, mem_cons_of_mem → Mh, mem_cons_self → Mc, mem_filter → Ol, mem_filterMap → Q3, mem_flatMap → RY, mem_iff_getElem → QL, mem_iff_getElem? → Py, mem_map → Na, mem_map_of_mem → Tf, mem_of_getElem? → LZ, mem_range → ND, mem_singleton → LW, min?_eq_some_iff → SG, nodup_append → RA, nodup_cons → N3, nodup_nil → QW, not_mem_nil → M9, of_mem_zip → Sd, pairwise_append → QJ, pairwise_cons → Rc, pairwise_iff_getElem → Ov, pairwise_lt_range → Sx, pairwise_singleton → Qb, range → Mn, range_succ → OM, range_succ_eq_map → Sv, replicate → MI, replicate_succ → O5, replicate_succ' → PC, reverse_cons → TX, set_cons_succ → Ob, set_cons_zero → Oa, size_toArray → Me, sum_append → NH, sum_cons → Mv, sum_nil → Px, take_add_one → NP, take_append_drop → Pw, take_length → MF, take_of_length_le → Pk, zipIdx_cons → Ur, zipIdx_nil → UP, zip_cons_cons → NJ, zip_nil_left → Oj
open Nat renaming add_assoc → Rn, add_le_add_right → SW, add_mul → Uj, eq_of_mul_eq_mul_right → Ro, eq_zero_or_pos → Pd, le_add_right → NU, le_of_ble_eq_true → Ot, le_of_eq → OZ, le_of_lt → M8, le_of_not_lt → RO, le_refl → LV, le_succ → OG, le_trans → MD, lt_irrefl → Nd, lt_of_le_of_lt → Pa, lt_of_lt_of_le → Mr, lt_or_eq_of_le → P0, lt_or_ge → TH, lt_succ_of_lt → NB, lt_succ_self → Nv, lt_trichotomy → Rz, min_self → O2, mul_assoc → NV, mul_comm → N8, mul_left_comm → OA, mul_pos → Uh, ne_of_gt → On, ne_of_lt → MC, not_le → QN, not_lt → RF, not_lt_zero → NT, one_mul → Ui, pos_of_ne_zero → Re, sub_self → RX, succ_le_succ → UA, succ_pos → TF, zero_le → M7
open Ne renaming symm → Np
open Option renaming isSome_iff_exists → RK, isSome_map → T3, isSome_some → TB, map_eq_some_iff → Sw, map_some → QG, some → Mf
open Option.some renaming inj → L9
open Or renaming inl → L8, inr → PF
open PyProof.Rows renaming Subscript_ → UJ, boot_all → UC, boot_bool → TJ, boot_int → UB, boot_isinstance → MZ, boot_list → OX, boot_max → UD, boot_sum → SZ, boot_tuple → Pf, callWith_builtin1 → QC, callWith_type1 → Ny, slot_tuple_getitem → O6, subscriptTail → S3, subscriptTail_builtinR → Ss
open PyProof.Rows.F renaming entry_set_update_loop → R7, plain_set_update_loop → Qc
open PySem renaming DictEntry → To, FuncData → Mi, GenState → SM, IntMulOk → OP, IsTupleKey → UV, NameKind → MQ, PassesOwn → MO, PlainAttrs → UL, SetTable → Mq, Within → RJ, assignEach → Qz, atKey_none_of_get → Qi, attributeBase → O8, backToKw → Qp, behindInMarks → Rj, beq_builtin_none → RW, binaryOp → OO, bootBuiltins → PR, boot_len → NR, builtinLookup_eq_fast → Pz, builtinsNs → UE, callSpecialIfBoundUnlessNone? → Pn, callType_new → Tz, call_meets → P6, cellsFrom → Se, closureFor → RC, codeAny_builtin → NK, codeAny_compStart_list → Su, codeAny_mono → Pt, codeAny_of_tree → Va, compEnvC → Qq, compareOp → NZ, concat_meets → Tv, dictSetDefault → QX, eqBool → TC, eqIsQuiet → Sh, eqIsQuiet_byValue → T1, fastBuiltinMro → SC, fits_of_scanBound → T7, foldedSetIterable → Qd, getMethod → Tq, intBits_le_64 → Ri, intBits_le_64 → Te, intBits_mul_le → SF, intItems → Qs, intItems_at → Ug, isInstance → UW, isSubtype_stop → P8, isSubtype_tuple_tuple → Qw, isSubtype_type → SI, keywordEach → Ph, letOwnedTupleGo → QA, mainGlobals → Mx, mem_of_lookup → MJ, newFunctionEnv → QU, newTuple → Uq, noFill_tuple_add → RM, numAt_eq → Uu, pickOrder → P4, plainId_quiet → NW, reduceHash → UU, relayAll → QZ, scanBound → P3, seqIndex_neg → Tw, seqIndex_of → Uc, seqItems? → Q7, seq_tuple_add → S0, setEntries → RH, sizeLine → Mb, sizeLine_eq → LY, starEach → Mp, storedH_new → Uk, subscripted → Sr, swapsWith → Tj, sysModules → N1, typeIs_int → UK, typeLookup → SO, typeLookup_type → QM, updateSeq → P5, wpAny_Call_Name_kw → N7, wpAny_Call_method_late → Qk, wpAny_Dict_empty → Uz, wpAny_List_spliced → Tu, wpAny_Name → UF, wpAny_Tuple_spliced → S7, wpAny_askSetting → RZ, wpAny_assign_Name → TL, wpAny_attempt → OR, wpAny_bind → LO, wpAny_call → UI, wpAny_callSpecial?_slot → M0, wpAny_callSpecialIfBoundUnlessNone?_slot → Oz, wpAny_call_entry → ML, wpAny_comprehension_free → PY, wpAny_execs_cons → Um, wpAny_execs_nil → Qy, wpAny_field → Ng, wpAny_fieldsOf → Q0, wpAny_forIn_list → Qt, wpAny_getItem_of → Uy, wpAny_handled → S4, wpAny_holding → Nf, wpAny_isInstance → N9, wpAny_ite_split → Sj, wpAny_letGo → Pj, wpAny_load → UG, wpAny_mono → NO, wpAny_newObj_type → MY, wpAny_newTuple → SE, wpAny_of_eq → Q2, wpAny_onRaise → Rm, wpAny_passesOwn → OK, wpAny_pure → LQ, wpAny_pyHash_int → Ul, wpAny_pyIter_enum → TY, wpAny_pyIter_list → Po, wpAny_pyIter_slot → T9, wpAny_pyIter_tuple → Tn, wpAny_pyIter_zip → RS, wpAny_ret_mkInt → QH, wpAny_rule → Of, wpAny_seqItems → MV, wpAny_setField → OE, wpAny_setField_rec → Oq, wpAny_setState_of → NC, wpAny_specialOf → NI, wpAny_standAt → Rh, wpAny_storeSet_of → T6, wpAny_throw → Ud, wpAny_truthy_bool → NY, wpAny_tryCatch → P9, wpAny_tupleItemsOf → Ra, wpAny_typeOf → RN, wpAny_updateSeq → Om, wpAny_updateSeq_pair → QF
open PySem.Around renaming under → Tr, under_plainId → Nl
open PySem.Builtin.Builtins renaming bindParams → Rf
open PySem.Builtin.Int renaming intBits → MW
open PySem.Builtin.List renaming listExtendWith → NA, listItems → Sz, listLengthHint → OJ, listSameRef → O4, listTooLong → O1, listUpdate → R9
open PySem.Builtin.Slice renaming sliceAdjust → PN, sliceApplied → Rk, slicePlaces → OV
open PySem.Builtin.SmallTypes renaming nextOf → MM, ownedTupleHandOut → PZ, ownedTupleIsFree → MT
open PySem.Builtin.Tuple renaming tupleExact → O0, tupleHashOf → NN, tupleItemsOf → Rl
open PySem.Calls renaming Name_function_global → Rg, callWith_builtin → Pi, evalArgs_plain → QD, spliced_cons → Q4, spliced_nil → Ru
open PySem.Code renaming isFrame → Ts
open PySem.F renaming args_object_init_3 → SV, args_tuple_add_2 → PX, args_tuple_iterator_next_1 → QV, args_zip_next_1 → Qg, entry_extend_loop → RI, entry_min_loop → Pm, entry_tuple_add → Qa, entry_tuple_iterator_next → Q6, entry_zip_new → UR, entry_zip_next → Qr, newCall_zip_2 → UQ, plainAttrs_list → MN, plain_extend_loop → N6, plain_list_iadd → R8, plain_min_loop → Nu, plain_set_new → SH, slot_NoneType_hash → OS, slot_bool_hash → Pl, slot_dict_getitem → RE, slot_dict_setdefault → QY, slot_int_rmul → UO, slot_list_append → Nb, slot_list_index → R6, slot_set_iter → SK, slot_tuple_add → Qj, slot_tuple_count → RU, slot_tuple_eq → QI, slot_tuple_hash → Qh, slot_tuple_iterator_next → OQ, slot_zip_next → Oy, typeCall_zip_2 → Us, type_list_append → Nc
open PySem.Heap renaming ExtBut → PL, SameBut → Mm, get?_push_of_some → LP, get?_push_size → L6, get?_update_other → MR, get?_update_self → MP, lt_size → L5, size_push → MG, size_update → R3
open PySem.Heap.SameBut renaming refl → T8, update → M6
open PySem.NameKind renaming cell → PH, free → NF
open PySem.Obj renaming cls_mapFields → Rw, data_mapDictKeys → SX, data_mapFields → OH, isFreed_of_fields → Qu, mapFields → Rp, mapSeq → Nt, putSet → RG
open PySem.Paired renaming length → M5
open PySem.PassesOwn renaming never → Ms
open PySem.PyData renaming canLayAll0 → T4, depthAll → UZ, keyHash → Nj
open PySem.SeqAt renaming EqAt → Mz
open PySem.SeqAt.EqAt renaming bool_bool → SS, bool_int → S9, bool_none → SR, int_bool → Tc, int_int → Tx, int_none → Ta, int_str → Tg, none_bool → SQ, none_int → S8, same → Sf, str_int → Th
open PySem.SetTable renaming below → Mu, grown → OY
open PySem.SetTable.below renaming go → OB
open PySem.SetTable.probe renaming go → T5
open PySem.Shared renaming TypeIs → S6, heap → Ue
open PySem.Str renaming empty → Vb, ofString → Nw
open PySem.Value renaming bool → Nh, builtin → S5, float → Ua, int → OW, isInt → Sk, isInt_shape → TK, none → Nq, ref → MA, str → Sa, type → Nr
open PySem.W renaming callWith_K → Q5, cellsFrom_some → So, codeIn → SA, emptyDict → N0, findIn → Oe, findIn → Q1, fnOf → PV, handedIn → Uo, hasDictIn → Rt, instObj → Ox, isFn → Tp, keepIn → Pr, kia_one → NS, kitMeta → Sg, kitOne → M1, kitx_dict → TV, kitx_list → TU, lookIn → QS, makesIn → UH, methodObj → Rr, mg_none_of → Nn, mg_of → SL, nsIn → Oh, plainGet → Qo, plainGet_of → QO, plainOver → TQ, takerIn → Sb
open PySem.W.WData renaming int → Qf, layable → SD, layableAll → RQ, list → Q8, weight → PB, weightAll → R5
open PySem.Walks renaming list → SU
open Sum renaming inl → Od, inr → Ni
open Sum.inl renaming inj → Sl
open Sum.inr renaming inj → Ow
open True renaming intro → OF
noncomputable abbrev Fg:=PySem.W.Frag
section
namespace L2
open PySem PySem.Spec PyProof.Rows
noncomputable abbrev Key:=Sum Int Str
noncomputable def sg:Key->Value->Bool
 | .inl k,v=>Sk k v
 | .inr x,v=>Value.isStrOf x v
noncomputable def LA (w:World):Key->Int
 | .inl k=>hashInt k
 | .inr x=>hashStr w x
theorem dy:∀ {k:Key} {v:Value},sg k v=true->(∃ i t,k=Od i/\v=OW i t)\/(∃ x t,k=Ni x/\v=Sa x t)
 | .inl i,v,h=>by
  obtain ⟨t,e⟩:=TK (k:=i) (v:=v) h
  exact .inl ⟨i,t,rfl,e⟩
 | .inr x,v,h=>by
  obtain ⟨t,e⟩:=Value.isStrOf_shape (x:=x) (v:=v) h
  exact .inr ⟨x,t,rfl,e⟩
theorem Ey (i:Int) (t:Tok):sg (.inl i) (.int i t)=true:=by simp [sg,Sk]
theorem Ez (x:Str) (t:Tok):sg (.inr x) (.str x t)=true:=by simp [sg,Value.isStrOf]
theorem J2 (a b:Int):decide ((Od a:Key)=Od b)=(a == b):=by
 by_cases e:a=b
 ·subst e; simp
 ·have h:¬ (Od a:Key)=Od b:=fun q=>e (Sl q)
  rw [decide_eq_false h]
  exact (beq_eq_false_iff_ne.mpr e).symm
theorem J3 (a b:Str):decide ((Ni a:Key)=Ni b)=decide (a=b):=by
 by_cases e:a=b
 ·subst e; simp
 ·have h:¬ (Ni a:Key)=Ni b:=fun q=>e (Ow q)
  rw [decide_eq_false h,decide_eq_false e]
theorem J4 (a:Int) (b:Str):decide ((Od a:Key)=Ni b)=false:=decide_eq_false (fun q=>nomatch q)
theorem J5 (a:Str) (b:Int):decide ((Ni a:Key)=Od b)=false:=decide_eq_false (fun q=>nomatch q)
noncomputable def iU (prog:Program) (w:World):PySem.KeyKind prog w Key where
 is:=sg
 hash:=LA w
 inj:=fun v a b ha hb=>by
  rcases dy ha with ⟨i,t,rfl,rfl⟩ | ⟨x,t,rfl,rfl⟩
  ·rcases dy hb with ⟨j,u,rfl,e⟩ | ⟨y,u,rfl,e⟩
   ·injection e with e1 _; rw [e1]
   ·exact nomatch e
  ·rcases dy hb with ⟨j,u,rfl,e⟩ | ⟨y,u,rfl,e⟩
   ·exact nomatch e
   ·injection e with e1 _; rw [e1]
 byValue:=fun k v h=>by
  rcases dy h with ⟨i,t,rfl,rfl⟩ | ⟨x,t,rfl,rfl⟩ <;> rfl
 pyHash:=fun hv h=>by
  rcases dy hv with ⟨i,t,rfl,rfl⟩ | ⟨x,t,rfl,rfl⟩
  ·exact Ul h
  ·exact wpAny_pyHash_str h
 eqBool:=fun hu hv h=>by
  rcases dy hu with ⟨i,t,rfl,rfl⟩ | ⟨x,t,rfl,rfl⟩
  ·rcases dy hv with ⟨j,u,rfl,rfl⟩ | ⟨y,u,rfl,rfl⟩
   ·rw [J2] at h; exact wpAny_eqBool_int h
   ·rw [J4] at h; exact Tg i t y u _ _ _ _ h
  ·rcases dy hv with ⟨j,u,rfl,rfl⟩ | ⟨y,u,rfl,rfl⟩
   ·rw [J5] at h; exact Th x t j u _ _ _ _ h
   ·rw [J3] at h; exact wpAny_eqBool_str h
 «strs»:=fun k x t v h=>by
  rcases dy h with ⟨i,u,rfl,e⟩ | ⟨y,u,rfl,e⟩
  ·exact nomatch e
  ·injection e with e1 _
   subst e1
   cases v <;> rfl
theorem Bq (prog:Program) (w:World) (i:Int) (t:Tok):(iU prog w).is (.inl i) (.int i t)=true:=Ey i t
theorem bo (prog:Program) (w:World) (x:Str) (t:Tok):(iU prog w).is (.inr x) (.str x t)=true:=Ez x t
end L2
namespace L2
open PySem PySem.Spec PyProof.Rows
inductive V where
 | non | bl (b:Bool) | int (i:Int) | str (x:Str) | byt (b:Array UInt8) | flt (b:UInt64) | ref (a:Addr) | ty (n:String)
 deriving DecidableEq
noncomputable def aH:V->Value->Prop
 | .non,u=>u=Nq
 | .bl b,u=>u=Nh b
 | .int i,u=>∃ t,u=OW i t
 | .str x,u=>∃ t,u=Sa x t
 | .byt b,u=>∃ t,u=Value.bytes b t
 | .flt b,u=>∃ t,u=Ua b t
 | .ref a,u=>u=MA a
 | .ty n,u=>u=Nr n
noncomputable abbrev aG:List V->List Value->Prop:=Paired aH
theorem aG.length {xs:List V} {us:List Value} (r:aG xs us):xs.length=us.length:=M5 r
theorem aG.get:∀ {xs:List V} {us:List Value} {i:Nat} {x:V},aG xs us->xs[i]?=some x->∃ u,us[i]?=some u/\aH x u
 | _,_,_,_,.nil,e=>by simp at e
 | _,_,0,_,.cons r _,e=>by simp at e; subst e; exact ⟨_,rfl,r⟩
 | _,_,i + 1,x,.cons _ t,e=>by
  obtain ⟨u,h1,h2⟩:=aG.get (i:=i) (x:=x) t (by simpa using e)
  exact ⟨u,by simpa using h1,h2⟩
theorem aG.set {x:V} {u:Value} (r:aH x u):∀ {xs:List V} {us:List Value} (i:Nat),aG xs us->aG (xs.set i x) (us.set i u)
 | _,_,_,.nil=>.nil
 | _,_,0,.cons _ t=>.cons r t
 | _,_,i + 1,.cons q t=>.cons q (aG.set r i t)
theorem aG.append:∀ {xs ys:List V} {us ws:List Value},aG xs us->aG ys ws->aG (xs++ys) (us++ws)
 | _,_,_,_,.nil,s=>s
 | _,_,_,_,.cons r t,s=>.cons r (aG.append t s)
theorem aG.take:∀ {xs:List V} {us:List Value} (n:Nat),aG xs us->aG (xs.take n) (us.take n)
 | _,_,0,_=>.nil
 | _,_,_ + 1,.nil=>.nil
 | _,_,n + 1,.cons r t=>.cons r (aG.take n t)
theorem aG.drop:∀ {xs:List V} {us:List Value} (n:Nat),aG xs us->aG (xs.drop n) (us.drop n)
 | _,_,0,r=>r
 | _,_,_ + 1,.nil=>.nil
 | _,_,n + 1,.cons _ t=>aG.drop n t
noncomputable def ic:Option V->Option Value->Prop
 | some v,some u=>aH v u
 | none,none=>True
 | _,_=>False
noncomputable def KV {κ:Type}:List (κ×V)->List (κ×Value)->Prop:=Paired fun (p:κ×V) (q:κ×Value)=>p.1=q.1/\aH p.2 q.2
noncomputable def kV:Key->V
 | .inl i=>.int i
 | .inr x=>.str x
inductive HO where
 | lst (xs:List V)
 | tup (xs:List V)
 | dK (kvs:List (Key×V)) | dT (kvs:List (List Key×V))
 | set (S:Int->Bool) (n:Nat)
 | ins (C dx:Addr) (fs:List (Str×V))
 | own (x:Addr)
 | xd (fs:List (Str×V))
 | met (f x:Addr)
 | rng (lo hi:Int)
 | frz (o:Obj) (u:HO)
 | tbl (ps:Array Value)
 | ext (φ:Heap->Prop)
noncomputable abbrev Hp:=Addr->Option HO
noncomputable def upd (H:Hp) (a:Addr) (o:HO):Hp:=fun b=>if b=a then some o else H b
theorem az {H:Hp} {a:Addr} {o:HO}:upd H a o a=some o:=by unfold upd; rw [if_pos rfl]
theorem aM {H:Hp} {a b:Addr} {o:HO} (h:b≠a):upd H a o b=H b:=by unfold upd; rw [if_neg h]
theorem zl {H:Hp} {a b:Addr} {o u:HO} (h:H a=some o) (h':H b=some u) (d:o≠u):a≠b:=by
 intro e; subst e; rw [h] at h'; exact d (L9 h')
theorem be {H:Hp} {a b:Addr} {o:HO} (h:H a=some o) (h':H b=none):a≠b:=by
 intro e; subst e; rw [h] at h'; cases h'
noncomputable def fW (h:Heap) (a:Addr) (items:Array Value):Prop:=∃ o,h.get? a=some o/\o.cls=.type "tuple"/\(∃ n,o.data=.seq items n)/\o.dict=none
theorem fW.lt {h:Heap} {a:Addr} {items:Array Value} (x:fW h a items):a < h.objs.size:=let ⟨_,e,_⟩:=x; L5 e
theorem fW.tup {h:Heap} {a:Addr} {items:Array Value} (x:fW h a items):IsTup h a items:=let ⟨o,e,c,d,_⟩:=x; ⟨o,e,c,d⟩
theorem fW.new (h:Heap) (items:Array Value):fW (h.push { cls:=.type "tuple",data:=.seq items }) h.objs.size items:=⟨_,L6 _ rfl,rfl,⟨_,rfl⟩,rfl⟩
section
variable (P:Program) (w:World)
noncomputable def bN (H:Hp) (h:Heap) (a:Addr):HO->Prop
 | .lst xs=>xs.length<=Mb/\∃ (its:List Value) (n:Nat),aG xs its/\h.get? a=some { cls:=.type "list",data:=.seq its.toArray n }
 | .tup xs=>xs.length<=Mb/\∃ its:List Value,aG xs its/\fW h a its.toArray
 | .dK kvs=>kvs.length<=Mb/\(a == N1)=false/\∃ vs,KV kvs vs/\h.DictOf (iU P w) a vs
 | .dT kvs=>kvs.length<=Mb/\(a == N1)=false/\∃ xs:List (List Key×Addr×Value),
   Paired (fun (p:List Key×V) (q:List Key×Addr×Value)=>p.1=q.1/\H q.2.1=some (.tup (p.1.map kV))/\aH p.2 q.2.2) kvs xs/\
   ∃ o es ep,h.get? a=some o/\o.ExactDict/\o.data=.dict es ep/\es.toList=xs.map (entryOfKey (tupleKind (iU P w)))/\(xs.map (·.1)).Nodup
 | .set S n=>h.SetOf (intKind P w) a S n
 | .ins C dx fs=>H dx=some (.own a)/\fs.length<=1000/\dx≠a/\h.get? a=some (Ox C dx)/\
   ∃ mA,h.Ns1 dx mA/\(∀ f,ic (fs.lookup f) (mA f))/\RJ mA (fs.map (·.1))
 | .own _=>∃ o,h.get? a=some o
 | .xd fs=>∃ mA,h.Ns1 a mA/\∀ f,ic (fs.lookup f) (mA f)
 | .rng lo hi=>∃ t u v,h.get? a=some { cls:=.type "range",data:=.fields #[.int lo t,.int hi u,.int 1 v] }
 | .frz o u=>h.get? a=some o/\bN H h a u
 | .tbl ps=>h.get? a=some { cls:=.none,data:=.fields ps }
 | .met f x=>h.get? a=some (Rr (.ref f) (.ref x))
 | .ext φ=>φ h/\(∃ o,h.get? a=some o)/\∀ h1 h2:Heap,φ h1->(∀ o,h1.get? a=some o->h2.get? a=some o)->φ h2
noncomputable def HOk (H:Hp) (h:Heap):Prop:=∀ a o,H a=some o->bN P w H h a o
end
section
variable {P:Program} {w:World} {H H':Hp} {h h':Heap} {a:Addr} {o:HO}
theorem bN.lt (x:bN P w H h a o):a < h.objs.size:=by
 cases o with
 | lst xs=>obtain ⟨_,_,_,_,e⟩:=x; exact L5 e
 | tup xs=>obtain ⟨_,_,_,p⟩:=x; exact p.lt
 | dK kvs=>obtain ⟨_,_,_,_,o,_,_,e,_⟩:=x; exact L5 e
 | dT kvs=>obtain ⟨_,_,_,_,o,_,_,e,_⟩:=x; exact L5 e
 | set S n=>obtain ⟨o,_,_,_,e,_⟩:=x; exact L5 e
 | ins C dx fs=>obtain ⟨_,_,_,e,_⟩:=x; exact L5 e
 | own y=>obtain ⟨_,e⟩:=x; exact L5 e
 | xd fs=>obtain ⟨_,⟨_,_,_,e,_⟩,_⟩:=x; exact L5 e
 | rng lo hi=>obtain ⟨_,_,_,e⟩:=x; exact L5 e
 | frz ob u=>obtain ⟨e,_⟩:=x; exact L5 e
 | tbl ps=>exact L5 (show h.get? a=some _ from x)
 | met f y=>exact L5 (show h.get? a=some _ from x)
 | ext φ=>obtain ⟨_,⟨_,e⟩,_⟩:=x; exact L5 e
theorem Paired.mapP {α β:Type} {F G:α->β->Prop}:∀ {l₁:List α} {l₂:List β},Paired F l₁ l₂->(∀ a b,F a b->G a b)->Paired G l₁ l₂
 | _,_,.nil,_=>.nil
 | _,_,.cons r t,f=>.cons (f _ _ r) (Paired.mapP t f)
theorem bN.stay (x:bN P w H h a o) (k:∀ b u,(b=a\/H b=some (.own a))->h.get? b=some u->h'.get? b=some u)
  (ho:∀ b,H b=some (.own a)->H' b=some (.own a)) (ht:∀ b xs,H b=some (.tup xs)->H' b=some (.tup xs)):bN P w H' h' a o:=by
 induction o with
 | lst xs=>obtain ⟨z,its,n,r,e⟩:=x; exact ⟨z,its,n,r,k _ _ (.inl rfl) e⟩
 | tup xs=>obtain ⟨z,its,r,ob,e,c⟩:=x; exact ⟨z,its,r,ob,k _ _ (.inl rfl) e,c⟩
 | dK kvs=>obtain ⟨z,y,vs,r,ob,es,ep,e,c⟩:=x; exact ⟨z,y,vs,r,ob,es,ep,k _ _ (.inl rfl) e,c⟩
 | dT kvs=>
  obtain ⟨z,y,xs,r,ob,es,ep,e,c⟩:=x
  exact ⟨z,y,xs,Paired.mapP r fun p q z=>⟨z.1,ht _ _ z.2.1,z.2.2⟩,ob,es,ep,k _ _ (.inl rfl) e,c⟩
 | set S n=>obtain ⟨ob,es,ep,t,e,c⟩:=x; exact ⟨ob,es,ep,t,k _ _ (.inl rfl) e,c⟩
 | ins C dx fs=>
  obtain ⟨d,z,ne,e,mA,⟨od,es,ep,e2,c⟩,r⟩:=x
  exact ⟨ho _ d,z,ne,k _ _ (.inl rfl) e,mA,⟨od,es,ep,k _ _ (.inr d) e2,c⟩,r⟩
 | own y=>obtain ⟨ob,e⟩:=x; exact ⟨ob,k _ _ (.inl rfl) e⟩
 | xd fs=>obtain ⟨mA,⟨od,es,ep,e,c⟩,r⟩:=x; exact ⟨mA,⟨od,es,ep,k _ _ (.inl rfl) e,c⟩,r⟩
 | rng lo hi=>obtain ⟨t,u,v,e⟩:=x; exact ⟨t,u,v,k _ _ (.inl rfl) e⟩
 | frz ob u ih=>obtain ⟨e,q⟩:=x; exact ⟨k _ _ (.inl rfl) e,ih q⟩
 | tbl ps=>
  have e:h.get? a=some { cls:=.none,data:=.fields ps }:=x
  show h'.get? a=some { cls:=.none,data:=.fields ps }
  exact k a _ (.inl rfl) e
 | met f y=>
  have e:h.get? a=some (Rr (.ref f) (.ref y)):=x
  show h'.get? a=some (Rr (.ref f) (.ref y))
  exact k a _ (.inl rfl) e
 | ext φ=>obtain ⟨p,⟨o,e⟩,st⟩:=x; exact ⟨st _ _ p fun o q=>k _ _ (.inl rfl) q,⟨o,k _ _ (.inl rfl) e⟩,st⟩
theorem HOk.lt (x:HOk P w H h) (e:H a=some o):a < h.objs.size:=(x a o e).lt
theorem HOk.fresh (x:HOk P w H h) (e:h.objs.size<=a):H a=none:=by
 cases q:H a with
 | none=>rfl
 | some u=>exact absurd (Mr (x.lt q) e) (Nd _)
theorem HOk.kept (x:HOk P w H h) (k:∀ b u,h.get? b=some u->h'.get? b=some u):HOk P w H h':=fun a o e=>
 (x a o e).stay (fun b u _ q=>k b u q) (fun _ q=>q) fun _ _ q=>q
theorem HOk.laid (x:HOk P w H h) (k:∀ b u,h.get? b=some u->h'.get? b=some u) (hp:h.objs.size<=a) (new:bN P w (upd H a o) h' a o):HOk P w (upd H a o) h':=fun b u e=>by
 have hn:=x.fresh hp
 by_cases hb:b=a
 ·subst hb; rw [az] at e; cases e; exact new
 ·rw [aM hb] at e
  exact (x b u e).stay (fun c v _ q=>k c v q) (fun c q=>by rw [aM (be q hn)]; exact q) fun c xs q=>by rw [aM (be q hn)]; exact q
end
noncomputable def Rd (H:Hp) (a:Addr) (u:HO):Prop:=H a=some u\/∃ o,H a=some (.frz o u)
theorem Rd.of {H:Hp} {a:Addr} {u:HO} (h:H a=some u):Rd H a u:=.inl h
theorem Rd.ok {P:Program} {w:World} {H:Hp} {h:Heap} {a:Addr} {u:HO} (r:Rd H a u) (x:HOk P w H h):bN P w H h a u:=by
 rcases r with r | ⟨o,r⟩
 ·exact x a u r
 ·obtain ⟨_,q⟩:=x a _ r
  exact q
noncomputable def Mut:Option HO->Prop
 | some (.lst _)=>True
 | some (.dK _)=>True
 | some (.dT _)=>True
 | some (.set _ _)=>True
 | some (.ins _ _ _)=>True
 | some (.ext _)=>True
 | _=>False
section
variable {P:Program} {w:World} {H:Hp} {h h':Heap} {x e:Addr} {o':HO}
theorem HOk.write (ok:HOk P w H h) (mu:Mut (H x)) (he:e=x\/H e=some (.own x)) (k:∀ b u,b≠e->h.get? b=some u->h'.get? b=some u) (heo:∃ u,h'.get? e=some u)
  (new:bN P w (upd H x o') h' x o'):HOk P w (upd H x o') h':=fun b u q=>by
 have nown:∀ c y,H c=some (.own y)->c≠x:=fun c y r z=>by subst z; rw [r] at mu; exact mu
 have ntup:∀ c xs,H c=some (.tup xs)->c≠x:=fun c xs r z=>by subst z; rw [r] at mu; exact mu
 by_cases hb:b=x
 ·subst hb; rw [az] at q; cases q; exact new
 ·rw [aM hb] at q
  by_cases hbe:b=e
  ·have q':H b=some (.own x):=by
    rcases he with z | z
    ·exact absurd (hbe.trans z) hb
    ·rw [hbe]; exact z
   rw [q] at q'; cases q'
   obtain ⟨v,hv⟩:=heo
   exact ⟨v,by rw [hbe]; exact hv⟩
  ·refine (ok b u q).stay (fun c v hc r=>k c v ?_ r) (fun c r=>by rw [aM (nown c b r)]; exact r) fun c xs r=>by rw [aM (ntup c xs r)]; exact r
   rcases hc with rfl | hc
   ·exact hbe
   ·rintro rfl
    rcases he with z | z
    ·exact nown c b hc z
    ·rw [hc] at z; cases z; exact hb rfl
end
structure Un (fs ex:List Addr) (H H':Hp) (h h':Heap):Prop where
 keep:∀ b o,h.get? b=some o->H b=none->b∉fs->b∉ex->h'.get? b=some o
 slot:∀ b o,h.get? b=some o->H b=none->b∈fs->b∉ex->∃ sl,h'.get? b=some { o with slots:=sl }
 free:∀ b o,h.get? b=some o->H b=none->b∉ex->H' b=none
 there:∀ b o,h.get? b=some o->b∉ex->∃ o',h'.get? b=some o'
 tups:∀ b xs,H b=some (.tup xs)->H' b=some (.tup xs)
 frzs:∀ b o u,H b=some (.frz o u)->H' b=some (.frz o u)
 tbls:∀ b ps,H b=some (.tbl ps)->∃ more,H' b=some (.tbl (ps++more))
section
variable {fs fs' ex ex':List Addr} {H H1 H2:Hp} {h h1 h2 h':Heap} {a x e:Addr} {o:HO}
theorem Un.any (u:Un fs ex H H1 h h1) {b:Addr} {ob:Obj} (q:h.get? b=some ob) (n:H b=none) (hx:b∉ex):∃ sl,h1.get? b=some { ob with slots:=sl }:=by
 by_cases hb:b∈fs
 ·exact u.slot b ob q n hb hx
 ·exact ⟨ob.slots,u.keep b ob q n hb hx⟩
theorem Un.trans (a:Un fs ex H H1 h h1) (b:Un fs ex H1 H2 h1 h2):Un fs ex H H2 h h2 where
 keep:=fun c ob q n hc hx=>b.keep c ob (a.keep c ob q n hc hx) (a.free c ob q n hx) hc hx
 slot:=fun c ob q n hc hx=>by
  obtain ⟨sl,e1⟩:=a.slot c ob q n hc hx
  obtain ⟨sl',e2⟩:=b.slot c _ e1 (a.free c ob q n hx) hc hx
  exact ⟨sl',e2⟩
 free:=fun c ob q n hx=>by
  obtain ⟨o',e1⟩:=a.there c ob q hx
  exact b.free c o' e1 (a.free c ob q n hx) hx
 there:=fun c ob q hx=>by
  obtain ⟨o',e1⟩:=a.there c ob q hx
  exact b.there c o' e1 hx
 tups:=fun c xs q=>b.tups c xs (a.tups c xs q)
 frzs:=fun c ob xs q=>b.frzs c ob xs (a.frzs c ob xs q)
 tbls:=fun c ps q=>by
  obtain ⟨m1,e1⟩:=a.tbls c ps q
  obtain ⟨m2,e2⟩:=b.tbls c _ e1
  exact ⟨m1++m2,by rw [e2,Ti]⟩
theorem Un.kept (k:∀ b u,h.get? b=some u->h'.get? b=some u):Un fs ex H H h h':=
 ⟨fun b ob q _ _ _=>k b ob q,fun b ob q _ _ _=>⟨ob.slots,k b ob q⟩,fun _ _ _ n _=>n,fun b ob q _=>⟨ob,k b ob q⟩,fun _ _ q=>q,fun _ _ _ q=>q,fun _ ps q=>⟨#[],by rw [q]; simp⟩⟩
theorem Un.refl:Un fs ex H H h h:=Un.kept fun _ _ q=>q
theorem Un.laid (k:∀ b u,h.get? b=some u->h'.get? b=some u) (hp:h.objs.size<=a) (hn:H a=none):Un fs ex H (upd H a o) h h' where
 keep:=fun b u q _ _ _=>k b u q
 slot:=fun b u q _ _ _=>⟨u.slots,k b u q⟩
 free:=fun b u q n _=>by rw [aM (MC (Mr (L5 q) hp))]; exact n
 there:=fun b u q _=>⟨u,k b u q⟩
 tups:=fun b xs q=>by rw [aM (be q hn)]; exact q
 frzs:=fun b u xs q=>by rw [aM (be q hn)]; exact q
 tbls:=fun b ps q=>⟨#[],by rw [aM (be q hn),q]; simp⟩
theorem Un.write (mu:Mut (H x)) (he:e=x\/H e=some (.own x)) (k:∀ b u,b≠e->h.get? b=some u->h'.get? b=some u) (heo:∃ u,h'.get? e=some u):Un fs ex H (upd H x o) h h':=by
 have hx:∀ b,H b=none->b≠x:=fun b n z=>by subst z; rw [n] at mu; exact mu
 have hb:∀ b,H b=none->b≠e:=fun b n z=>by
  subst z
  rcases he with r | r
  ·exact hx b n r
  ·rw [n] at r; cases r
 have hm:∀ b u,H b=some u->¬ Mut (some u)->b≠x:=fun b u q nm z=>by subst z; rw [q] at mu; exact nm mu
 refine ⟨fun b u q n _ _=>k b u (hb b n) q,fun b u q n _ _=>⟨u.slots,k b u (hb b n) q⟩,fun b u q n _=>by rw [aM (hx b n)]; exact n,fun b u q _=>?_,
  fun b xs q=>by rw [aM (hm b _ q fun z=>z)]; exact q,fun b u xs q=>by rw [aM (hm b _ q fun z=>z)]; exact q,fun b ps q=>⟨#[],by rw [aM (hm b _ q fun z=>z),q]; simp⟩⟩
 by_cases hbe:b=e
 ·subst hbe; exact heo
 ·exact ⟨u,k b u hbe q⟩
end
noncomputable def trk (h:Heap) (H:Hp):List Addr:=(Mn h.objs.size).filter fun a=>(H a).isSome
noncomputable def oT (h:Heap) (H:Hp):Heap:=PySem.W.hideAll h (trk h H)
theorem EA (h:Heap) (H:Hp):(oT h H).objs.size=h.objs.size:=PySem.W.hideAll_size _ _
theorem Gf {h:Heap} {H:Hp} {b:Addr} {o:Obj} (e:h.get? b=some o) (n:H b=none):(oT h H).get? b=some o:=
 PySem.W.hideAll_get _ e fun hm=>by
  have q:(H b).isSome=true:=(Ol.mp hm).2
  rw [n] at q; simp at q
theorem IJ {h:Heap} {H:Hp} {b:Addr} {o:Obj} (e:(oT h H).get? b=some o):h.get? b=some o/\H b=none:=by
 have e':h.get? b=some o:=PySem.W.of_hideAll (trk h H) e
 refine ⟨e',?_⟩
 cases q:H b with
 | none=>rfl
 | some x=>
  have hm:b∈trk h H:=Ol.mpr ⟨ND.mpr (L5 e'),by simp [q]⟩
  have z:(oT h H).get? b=none:=PySem.W.hideAll_none (trk h H) hm
  rw [z] at e; cases e
noncomputable def IL (g h:Heap) (L:Addr):List (Addr×Obj):=(Mn h.objs.size).filterMap fun a=>if a=L\/(g.get? a).isSome=true then none else (h.get? a).map fun o=>(a,o)
noncomputable def dj (g h:Heap) (L d:Addr):List (Addr×Obj):=(IL g h L).filter fun p=>decide (p.1≠d)
end L2
namespace L2
open PySem PySem.Spec PyProof.Rows
structure Mod (K:Fg) (mg:Str->Option Value) (base:Heap):Prop where
 kin:K.In base
 glob:base.Ns Mx mg
 blt:∃ mb,base.Ns UE mb/\∀ x:Str,x≠"__name__"->mb x=PR x
 nolimit:base.NoLimit
set_option genInjectivity false in
structure Cx where
 prog:Program
 w:World
 K:Fg
 mg:Str->Option Value
 base:Heap
 A:Around
 N:List Str
 s₀:Shared
 H₀:Hp
 env:Env
 outer:List Env
 stack:List Env
 ex:List Addr
 fn:Str->Bool
 calm:Bool
 pn:List (Addr×Obj)
 xe:Value->Shared->Prop
noncomputable def frs (l:List Env):List Addr:=l.filterMap (·.frame)
noncomputable abbrev Cx.fs (X:Cx):List Addr:=frs X.outer
noncomputable def Vis (sc:Scope) (x:Str):Prop:=sc.names.lookup x=some .local\/sc.names.lookup x=some .cell\/sc.names.lookup x=some .free
noncomputable def Loc (sc:Scope) (x:Str):Prop:=sc.names.lookup x=some .local\/sc.names.lookup x=some .cell
noncomputable def Gg (env:Env) (h:Heap) (m:Str->Option Value) (x:Str) (u:Value):Prop:=
 (env.kindOf x=some .local/\m x=some u)\/((env.kindOf x=some .cell\/env.kindOf x=some .free)/\∃ c,env.cells.lookup x=some c/\h.IsCell c (some u))
structure Cx.Ok (X:Cx):Prop where
 mod:Mod X.K X.mg X.base
 kind:X.env.scope.kind=.function
 glob:X.env.globals=Mx
 blt:X.env.builtins=UE
 above:X.s₀.heap.objs.size<=X.env.locals
 inj:∀ x y c,X.env.cells.lookup x=some c->X.env.cells.lookup y=some c->x=y
 has:∀ x,(X.env.kindOf x=some .cell\/X.env.kindOf x=some .free)->∃ c,X.env.cells.lookup x=some c
 cab:∀ x c,X.fn x=true->X.env.cells.lookup x=some c->X.s₀.heap.objs.size<=c
 hd:X.calm=true->X.A.handled=none
 frames:X.A.frames=some X.stack
 stk:X.stack=X.outer\/(X.stack=X.env :: X.outer/\X.env.frame=some X.env.locals)
 exf:∀ b∈X.ex,b≠X.env.locals/\∀ x c,X.env.cells.lookup x=some c->c≠b
 bs:∀ b o,X.base.get? b=some o->X.s₀.heap.get? b=some o/\X.H₀ b=none
 bsz:X.base.objs.size<=X.s₀.heap.objs.size
 noex:∀ b o,X.base.get? b=some o->b∉X.ex
 exfs:∀ b∈X.ex,b∉X.fs
 funs:X.s₀.heap.FunFrames X.base X.outer
 frf:∀ b∈X.fs,X.H₀ b=none
structure Inv (X:Cx) (pins:List (Addr×Obj)) (σ:List (Option V)) (H:Hp) (s:Shared):Prop where
 ok:X.Ok
 os:s.os=X.s₀.os
 bare:AllBare s.gens
 base:Un X.fs X.ex X.H₀ H X.s₀.heap s.heap
 loc:∃ m,s.heap.Ns X.env.locals m/\∀ (i:Nat) (x:Str) (v:V),X.N[i]?=some x->σ[i]?=some (some v)->Vis X.env.scope x->∃ u,aH v u/\Gg X.env s.heap m x u
 cell:∀ x c,X.env.cells.lookup x=some c->∃ v,s.heap.IsCell c v
 free:H X.env.locals=none
 freeC:∀ x c,X.env.cells.lookup x=some c->H c=none
 pin:∀ p∈X.pn++pins,s.heap.get? p.1=some p.2/\H p.1=none/\p.1≠X.env.locals/\p.1∉X.fs/\∀ v,p.2.data≠.cell v
 hok:HOk X.prog X.w H s.heap
 len:σ.length=X.N.length
section
variable {X:Cx} {pins:List (Addr×Obj)} {σ:List (Option V)} {H H':Hp} {s:Shared} {h':Heap}
theorem Cx.Ok.nofr (ok:X.Ok) {b:Addr} {o:Obj} (e:X.base.get? b=some o):b∉X.fs:=fun hb=>by
 have:=(ok.funs.mem hb).1
 rw [e] at this; cases this
theorem Inv.bs (I:Inv X pins σ H s):∀ b o,X.base.get? b=some o->s.heap.get? b=some o/\H b=none:=fun b o e=>
 ⟨I.base.keep b o (I.ok.bs b o e).1 (I.ok.bs b o e).2 (I.ok.nofr e) (I.ok.noex b o e),I.base.free b o (I.ok.bs b o e).1 (I.ok.bs b o e).2 (I.ok.noex b o e)⟩
theorem Inv.bk (I:Inv X pins σ H s):∀ b o,X.base.get? b=some o->s.heap.get? b=some o:=fun b o e=>(I.bs b o e).1
theorem Inv.mod (I:Inv X pins σ H s):Mod X.K X.mg X.base:=I.ok.mod
theorem Inv.kIn (I:Inv X pins σ H s):X.K.In s.heap:=I.ok.mod.kin.keeps I.bk
theorem Inv.nolimit (I:Inv X pins σ H s):s.heap.NoLimit:=I.ok.mod.nolimit.keeps I.bk
theorem Inv.lt (I:Inv X pins σ H s):X.env.locals < s.heap.objs.size:=let ⟨_,hn,_⟩:=I.loc; hn.lt
theorem Inv.sz (I:Inv X pins σ H s):X.s₀.heap.objs.size<=s.heap.objs.size:=MD I.ok.above (M8 I.lt)
theorem Inv.nofs (I:Inv X pins σ H s) {a:Addr} (h:s.heap.objs.size<=a):a∉X.fs:=fun hb=>by
 obtain ⟨_,o,ho,_⟩:=I.ok.funs.mem hb
 exact absurd (Mr (L5 ho) (MD I.sz h)) (Nd _)
theorem Inv.cne (I:Inv X pins σ H s):∀ x c,X.env.cells.lookup x=some c->c≠X.env.locals:=fun x c e z=>by
 obtain ⟨v,o,ho,hd⟩:=I.cell x c e
 obtain ⟨m,⟨o',es,ep,ho',hd',_⟩,_⟩:=I.loc
 rw [z,ho'] at ho; cases ho; rw [hd'] at hd; cases hd
theorem Inv.funs (I:Inv X pins σ H s):s.heap.FunFrames X.base X.outer:=by
 have all:∀ (l:List Env),(∀ b∈frs l,b∈X.fs)->X.s₀.heap.FunFrames X.base l->s.heap.FunFrames X.base l:=by
  intro l
  induction l with
  | nil=>intro _ _; trivial
  | cons env r ih=>
   intro hs hl
   obtain ⟨hk,⟨L,o,hf,hn,ho,hd⟩,hr⟩:=hl
   have hL:L∈X.fs:=hs L (by unfold frs; rw [PM,hf]; exact Mc)
   obtain ⟨sl,e⟩:=I.base.slot L o ho (I.ok.frf L hL) hL fun z=>I.ok.exfs L z hL
   exact ⟨hk,⟨L,_,hf,hn,e,hd⟩,ih (fun b hb=>hs b (by unfold frs; rw [PM,hf]; exact Mh _ hb)) hr⟩
 exact all X.outer (fun _ hb=>hb) I.ok.funs
theorem Inv.stack (I:Inv X pins σ H s):s.heap.FunFrames X.base X.stack:=by
 rcases I.ok.stk with e | ⟨e,hf⟩
 ·rw [e]; exact I.funs
 ·rw [e]
  obtain ⟨m,hn,_⟩:=I.loc
  refine .cons (by rw [I.ok.kind]; decide) hf hn ?_ I.funs
  exact Heap.get?_none_of_le (MD I.ok.bsz I.ok.above)
theorem Inv.stkSub (I:Inv X pins σ H s):∀ b∈frs X.stack,b∈X.env.locals :: X.fs:=fun b hb=>by
 rcases I.ok.stk with e | ⟨e,hf⟩
 ·rw [e] at hb; exact Mh _ hb
 ·rw [e] at hb
  unfold frs at hb
  rw [PM,hf] at hb
  exact hb
theorem Inv.stkFree (I:Inv X pins σ H s):∀ b∈frs X.stack,H b=none:=fun b hb=>by
 rcases L7.mp (I.stkSub b hb) with e | hb
 ·rw [e]; exact I.free
 ·obtain ⟨_,o,ho,_⟩:=I.ok.funs.mem hb
  exact I.base.free b o ho (I.ok.frf b hb) fun z=>I.ok.exfs b z hb
theorem Inv.step {g':Array SM} {t':Nat} {d':Drawn} {ch:List Addr} (I:Inv X pins σ H s)
  (hch:∀ b∈ch,(b∈X.ex\/X.s₀.heap.objs.size<=b)/\b≠X.env.locals/\(∀ x c,X.env.cells.lookup x=some c->c≠b)/\∀ p∈X.pn++pins,p.1≠b)
  (keep:∀ b o,b≠X.env.locals->b∉X.fs->b∉ch->s.heap.get? b=some o->H b=none->h'.get? b=some o)
  (slot:∀ b o,b≠X.env.locals->b∈X.fs->b∉ch->s.heap.get? b=some o->H b=none->∃ sl,h'.get? b=some { o with slots:=sl }) (free:∀ b o,b∉ch->s.heap.get? b=some o->H b=none->H' b=none)
  (there:∀ b o,b∉ch->s.heap.get? b=some o->∃ o',h'.get? b=some o')
  (tups:∀ b xs,H b=some (.tup xs)->H' b=some (.tup xs)) (frzs:∀ b o u,H b=some (.frz o u)->H' b=some (.frz o u)) (tbls:∀ b ps,H b=some (.tbl ps)->∃ more,H' b=some (.tbl (ps++more)))
  (ns:∀ m,s.heap.Ns X.env.locals m->h'.Ns X.env.locals m) (hok:HOk X.prog X.w H' h') (hg:AllBare g'):
  Inv X pins σ H' { s with heap:=h',gens:=g',drawn:=d',toks:=t' }:=by
 have neL:∀ b o,X.s₀.heap.get? b=some o->b≠X.env.locals:=fun b o e=>MC (Mr (L5 e) I.ok.above)
 have neC:∀ b o,X.s₀.heap.get? b=some o->b∉X.ex->b∉ch:=fun b o e hx hb=>by
  rcases (hch b hb).1 with z | z
  ·exact hx z
  ·exact absurd (Mr (L5 e) z) (Nd _)
 have cellK:∀ x c,X.env.cells.lookup x=some c->∀ v,s.heap.IsCell c v->h'.IsCell c v:=fun x c e v ⟨o,ho,hd⟩=>by
  have nch:c∉ch:=fun z=>(hch c z).2.2.1 x c e rfl
  by_cases hc:c∈X.fs
  ·obtain ⟨sl,q⟩:=slot c o (I.cne x c e) hc nch ho (I.freeC x c e)
   exact ⟨_,q,hd⟩
  ·exact ⟨o,keep c o (I.cne x c e) hc nch ho (I.freeC x c e),hd⟩
 refine ⟨I.ok,I.os,hg,⟨fun b o e n hb hx=>?_,fun b o e n hb hx=>?_,fun b o e n hx=>?_,fun b o e hx=>?_,fun b xs e=>tups b xs (I.base.tups b xs e),fun b o xs e=>frzs b o xs (I.base.frzs b o xs e),fun b ps e=>?_⟩,?_,fun x c e=>?_,?_,fun x c e=>?_,fun p hp=>?_,hok,I.len⟩
 ·exact keep b o (neL b o e) hb (neC b o e hx) (I.base.keep b o e n hb hx) (I.base.free b o e n hx)
 ·obtain ⟨sl,e1⟩:=I.base.slot b o e n hb hx
  obtain ⟨sl',e2⟩:=slot b _ (neL b o e) hb (neC b o e hx) e1 (I.base.free b o e n hx)
  exact ⟨sl',e2⟩
 ·obtain ⟨o',e1⟩:=I.base.there b o e hx
  exact free b o' (neC b o e hx) e1 (I.base.free b o e n hx)
 ·obtain ⟨o',e1⟩:=I.base.there b o e hx
  exact there b o' (neC b o e hx) e1
 ·obtain ⟨m1,e1⟩:=I.base.tbls b ps e
  obtain ⟨m2,e2⟩:=tbls b _ e1
  exact ⟨m1++m2,by rw [e2,Ti]⟩
 ·obtain ⟨m,hn,hl⟩:=I.loc
  refine ⟨m,ns m hn,fun i x v e1 e2 e3=>?_⟩
  obtain ⟨u,r,l⟩:=hl i x v e1 e2 e3
  refine ⟨u,r,?_⟩
  rcases l with l | ⟨k,c,e,z⟩
  ·exact .inl l
  ·exact .inr ⟨k,c,e,cellK x c e _ z⟩
 ·obtain ⟨v,z⟩:=I.cell x c e
  exact ⟨v,cellK x c e v z⟩
 ·obtain ⟨m,⟨o,_,_,ho,_⟩,_⟩:=I.loc
  exact free _ o (fun z=>(hch _ z).2.1 rfl) ho I.free
 ·obtain ⟨v,o,ho,hd⟩:=I.cell x c e
  exact free c o (fun z=>(hch c z).2.2.1 x c e rfl) ho (I.freeC x c e)
 ·obtain ⟨e,n,ne,nf,d⟩:=I.pin p hp
  have nch:p.1∉ch:=fun z=>(hch p.1 z).2.2.2 p hp rfl
  exact ⟨keep p.1 p.2 ne nf nch e n,free p.1 p.2 nch e n,ne,nf,d⟩
theorem Inv.un {t':Nat} (I:Inv X pins σ H s) (u:Un X.fs [] H H' s.heap h') (hok:HOk X.prog X.w H' h'):Inv X pins σ H' { s with heap:=h',toks:=t' }:=by
 obtain ⟨m,⟨o,es,ep,ho,r⟩,_⟩:=id I.loc
 obtain ⟨sl,hL⟩:=u.any ho I.free (by simp)
 exact I.step (g':=s.gens) (d':=s.drawn) (ch:=[]) (fun _ z=>nomatch z) (fun b o _ hb _ e n=>u.keep b o e n hb (by simp)) (fun b o _ hb _ e n=>u.slot b o e n hb (by simp)) (fun b o _ e n=>u.free b o e n (by simp)) (fun b o _ e=>u.there b o e (by simp)) u.tups u.frzs u.tbls (fun m' hm=>by
  obtain ⟨o',es',ep',ho',r'⟩:=hm
  rw [ho] at ho'; cases ho'
  exact ⟨_,es',ep',hL,r'⟩) hok I.bare
theorem Inv.call {g':Array SM} {t':Nat} {d':Drawn} {ch:List Addr} (I:Inv X pins σ H s) (u:Un (frs X.stack) ch H H' s.heap h') (hok:HOk X.prog X.w H' h') (hg:AllBare g')
  (hch:∀ b∈ch,(b∈X.ex\/X.s₀.heap.objs.size<=b)/\b≠X.env.locals/\(∀ x c,X.env.cells.lookup x=some c->c≠b)/\∀ p∈X.pn++pins,p.1≠b):
  Inv X pins σ H' { s with heap:=h',gens:=g',drawn:=d',toks:=t' }:=by
 obtain ⟨m,⟨o,es,ep,ho,r⟩,_⟩:=id I.loc
 obtain ⟨sl,hL⟩:=u.any ho I.free fun z=>(hch _ z).2.1 rfl
 exact I.step (ch:=ch) hch (fun b o hL hb hc e n=>u.keep b o e n (fun z=>(L7.mp (I.stkSub b z)).elim hL hb) hc) (fun b o _ _ hc e n=>u.any e n hc) (fun b o hc e n=>u.free b o e n hc) (fun b o hc e=>u.there b o e hc) u.tups u.frzs u.tbls (fun m' hm=>by
  obtain ⟨o',es',ep',ho',r'⟩:=hm
  rw [ho] at ho'; cases ho'
  exact ⟨_,es',ep',hL,r'⟩) hok hg
theorem Inv.turned {t':Nat} {it:Addr} (I:Inv X pins σ H s) (k:∀ b o,b≠it->s.heap.get? b=some o->h'.get? b=some o) (hn:H it=none) (hL:it≠X.env.locals)
  (h1:it∈X.ex\/X.s₀.heap.objs.size<=it) (h2:∀ x c,X.env.cells.lookup x=some c->c≠it) (h3:∀ p∈X.pn++pins,p.1≠it):Inv X pins σ H { s with heap:=h',toks:=t' }:=by
 have nit:∀ b u,H b=some u->b≠it:=fun b u e z=>by rw [z,hn] at e; cases e
 refine I.step (g':=s.gens) (d':=s.drawn) (ch:=[it]) (fun b hb=>?_) (fun b o _ _ hc e _=>k b o (fun z=>hc (by simp [z])) e) (fun b o _ _ hc e _=>⟨o.slots,k b o (fun z=>hc (by simp [z])) e⟩) (fun _ _ _ _ n=>n)
  (fun b o hc e=>⟨o,k b o (fun z=>hc (by simp [z])) e⟩) (fun _ _ e=>e) (fun _ _ _ e=>e) (fun b ps e=>⟨#[],by rw [e]; simp⟩) (fun m hm=>?_) (fun b u e=>?_) I.bare
 ·have e:b=it:=by simpa using hb
  subst e
  exact ⟨h1,hL,h2,h3⟩
 ·obtain ⟨o,es,ep,ho,r⟩:=hm
  exact ⟨o,es,ep,k _ o (Np hL) ho,r⟩
 ·refine (I.hok b u e).stay (fun c v hc q=>k c v ?_ q) (fun _ q=>q) fun _ _ q=>q
  rcases hc with z | z
  ·rw [z]; exact nit b u e
  ·exact nit c _ z
theorem Inv.tok (I:Inv X pins σ H s) (t:Nat):Inv X pins σ H { s with toks:=t }:=I.un (h':=s.heap) (t':=t) Un.refl I.hok
theorem Inv.kept {t':Nat} (I:Inv X pins σ H s) (k:∀ b u,s.heap.get? b=some u->h'.get? b=some u):Inv X pins σ H { s with heap:=h',toks:=t' }:=I.un (Un.kept k) (I.hok.kept k)
theorem Inv.laid {a:Addr} {o:HO} {t':Nat} (I:Inv X pins σ H s) (k:∀ b u,s.heap.get? b=some u->h'.get? b=some u) (hp:s.heap.objs.size<=a) (new:bN X.prog X.w (upd H a o) h' a o):
  Inv X pins σ (upd H a o) { s with heap:=h',toks:=t' }:=I.un (Un.laid k hp (I.hok.fresh hp)) (I.hok.laid k hp new)
theorem Inv.write {x e:Addr} {o:HO} {t':Nat} (I:Inv X pins σ H s) (mu:Mut (H x)) (he:e=x\/H e=some (.own x)) (k:∀ b u,b≠e->s.heap.get? b=some u->h'.get? b=some u) (heo:∃ u,h'.get? e=some u)
  (new:bN X.prog X.w (upd H x o) h' x o):Inv X pins σ (upd H x o) { s with heap:=h',toks:=t' }:=I.un (Un.write mu he k heo) (I.hok.write mu he k heo new)
theorem Inv.pins_of {pins':List (Addr×Obj)} (I:Inv X pins σ H s) (h:∀ p∈pins',s.heap.get? p.1=some p.2/\H p.1=none/\p.1≠X.env.locals/\p.1∉X.fs/\∀ v,p.2.data≠.cell v):Inv X pins' σ H s:=
 ⟨I.ok,I.os,I.bare,I.base,I.loc,I.cell,I.free,I.freeC,fun p hp=>(Mt.mp hp).elim (fun z=>I.pin p (NG _ z)) (h p),I.hok,I.len⟩
theorem zG {N:List Str} (hN:N.Nodup) {i j:Nat} {x:Str} (a:N[i]?=some x) (b:N[j]?=some x):i=j:=by
 obtain ⟨h1,e1⟩:=LU.mp a
 obtain ⟨h2,e2⟩:=LU.mp b
 exact (List.getElem_inj hN).mp (e1.trans e2.symm)
theorem xV {M:Model} {A:Around} {E:Value->Shared->Prop} {i:Nat} {x:Str} {v:V} {u:Value} {Q:Unit->Shared->Prop} (I:Inv X pins σ H s) (hN:X.N.Nodup) (hi:X.N[i]?=some x) (hx:Loc X.env.scope x) (r:aH v u)
  (h:∀ s',Inv X pins (σ.set i (some v)) H s'->(∃ a,Mm a s.heap s'.heap/\(a=X.env.locals\/X.env.cells.lookup x=some a))->Q () s') (hf:X.fn x=true\/X.env.scope.names.lookup x=some .local:=by first | exact .inl rfl | exact .inr rfl | assumption):wpAny M A (storeName X.env x u) Q E s:=by
 obtain ⟨m,hn,hl⟩:=id I.loc
 have hcls:(X.env.scope.kind == .class || (X.env.scope.kind == .module && X.env.locals != X.env.globals))=false:=by rw [I.ok.kind]; rfl
 have hiσ:i < σ.length:=by rw [I.len]; exact (LU.mp hi).1
 have cne:=I.cne
 have tracked:∀ {a:Addr} {h':Heap},(∃ o,s.heap.get? a=some o/\H a=none)->Mm a s.heap h'->HOk X.prog X.w H h':=fun {a h'} ha hs b ob e=>by
  obtain ⟨_,_,hfree⟩:=ha
  refine (I.hok b ob e).stay (fun c w' hc q=>(hs.2 c ?_).trans q) (fun _ q=>q) fun _ _ q=>q
  rintro rfl
  rcases hc with rfl | hc
  ·rw [hfree] at e; cases e
  ·rw [hfree] at hc; cases hc
 rcases hx with hk | hk
 ·refine wpAny_storeName_local hk hn (fun h' hn' hs=>?_) hcls
  obtain ⟨oL,_,_,hoL,_⟩:=id hn
  refine h _ ⟨I.ok,I.os,I.bare,⟨fun b o e n hb hx=>?_,fun b o e n hb hx=>?_,I.base.free,fun b o e hx=>?_,I.base.tups,I.base.frzs,I.base.tbls⟩,⟨_,hn',fun j y v' e1 e2 e3=>?_⟩,fun y c e=>?_,I.free,I.freeC,fun p hp=>?_,tracked ⟨oL,hoL,I.free⟩ hs,by simpa using I.len⟩ ⟨_,hs,.inl rfl⟩
  ·exact (hs.2 b (MC (Mr (L5 e) I.ok.above))).trans (I.base.keep b o e n hb hx)
  ·obtain ⟨sl,e1⟩:=I.base.slot b o e n hb hx
   exact ⟨sl,(hs.2 b (MC (Mr (L5 e) I.ok.above))).trans e1⟩
  ·obtain ⟨o',e1⟩:=I.base.there b o e hx
   exact ⟨o',(hs.2 b (MC (Mr (L5 e) I.ok.above))).trans e1⟩
  ·by_cases hj:j=i
   ·subst hj
    rw [hi] at e1; cases e1
    rw [Sm hiσ] at e2
    cases e2
    exact ⟨u,r,.inl ⟨hk,by simp⟩⟩
   ·rw [SN (Np hj)] at e2
    obtain ⟨u',r',q⟩:=hl j y v' e1 e2 e3
    refine ⟨u',r',?_⟩
    rcases q with ⟨k,e⟩ | ⟨k,c,e,z⟩
    ·refine .inl ⟨k,?_⟩
     have:y≠x:=fun e=>hj (zG hN e1 (e ▸ hi))
     simp [this,e]
    ·exact .inr ⟨k,c,e,z.sameBut hs (cne y c e)⟩
  ·obtain ⟨w',z⟩:=I.cell y c e
   exact ⟨w',z.sameBut hs (cne y c e)⟩
  ·obtain ⟨e,n,ne,nf,d⟩:=I.pin p hp
   exact ⟨(hs.2 p.1 ne).trans e,n,ne,nf,d⟩
 ·have hfn:X.fn x=true:=by
   rcases hf with z | z
   ·exact z
   ·rw [z] at hk; cases hk
  obtain ⟨c,hc⟩:=I.ok.has x (.inl hk)
  obtain ⟨w',z⟩:=I.cell x c hc
  refine wpAny_storeName_cell I.ok.kind hk hc z (fun h' hc' hs=>?_)
  obtain ⟨oc,hoc,hocd⟩:=id z
  refine h { s with heap:=h' } ⟨I.ok,I.os,I.bare,⟨fun b o e n hb hx=>?_,fun b o e n hb hx=>?_,I.base.free,fun b o e hx=>?_,I.base.tups,I.base.frzs,I.base.tbls⟩,⟨m,hn.sameBut hs (Np (cne x c hc)),fun j y v' e1 e2 e3=>?_⟩,fun y c' e=>?_,I.free,I.freeC,fun p hp=>?_,tracked ⟨oc,hoc,I.freeC x c hc⟩ hs,by simpa using I.len⟩ ⟨c,hs,.inr hc⟩
  ·exact (hs.2 b (MC (Mr (L5 e) (I.ok.cab x c hfn hc)))).trans (I.base.keep b o e n hb hx)
  ·obtain ⟨sl,e1⟩:=I.base.slot b o e n hb hx
   exact ⟨sl,(hs.2 b (MC (Mr (L5 e) (I.ok.cab x c hfn hc)))).trans e1⟩
  ·obtain ⟨o',e1⟩:=I.base.there b o e hx
   exact ⟨o',(hs.2 b (MC (Mr (L5 e) (I.ok.cab x c hfn hc)))).trans e1⟩
  ·by_cases hj:j=i
   ·subst hj
    rw [hi] at e1; cases e1
    rw [Sm hiσ] at e2
    cases e2
    exact ⟨u,r,.inr ⟨.inl hk,c,hc,hc'⟩⟩
   ·rw [SN (Np hj)] at e2
    obtain ⟨u',r',q⟩:=hl j y v' e1 e2 e3
    refine ⟨u',r',?_⟩
    rcases q with q | ⟨k,c',e,z'⟩
    ·exact .inl q
    ·refine .inr ⟨k,c',e,z'.sameBut hs ?_⟩
     rintro rfl
     exact hj (zG hN e1 (I.ok.inj _ _ _ e hc ▸ hi))
  ·by_cases hcc:c'=c
   ·subst hcc; exact ⟨_,hc'⟩
   ·obtain ⟨w2,z2⟩:=I.cell y c' e
    exact ⟨w2,z2.sameBut hs hcc⟩
  ·obtain ⟨e,n,ne,nf,d⟩:=I.pin p hp
   refine ⟨(hs.2 p.1 ?_).trans e,n,ne,nf,d⟩
   intro q
   rw [q,hoc] at e
   have q':oc=p.2:=L9 e
   exact d w' (by rw [<-q']; exact hocd)
theorem zH {M:Model} {A:Around} {E:Value->Shared->Prop} {i:Nat} {x:Str} {v:V} {u:Value} {Q:Unit->Shared->Prop} (I:Inv X pins σ H s) (hN:X.N.Nodup) (hi:X.N[i]?=some x) (hx:Loc X.env.scope x) (r:aH v u)
  (h:∀ s',Inv X pins (σ.set i (some v)) H s'->Q () s') (hf:X.fn x=true\/X.env.scope.names.lookup x=some .local:=by first | exact .inl rfl | exact .inr rfl | assumption):wpAny M A (storeName X.env x u) Q E s:=
 xV I hN hi hx r (fun s' I' _=>h s' I') hf
theorem Inv.call' {s':Shared} {ch:List Addr} (I:Inv X pins σ H s) (ho:s'.os=s.os) (u:Un (frs X.stack) ch H H' s.heap s'.heap) (hok:HOk X.prog X.w H' s'.heap) (hg:AllBare s'.gens)
  (hch:∀ b∈ch,(b∈X.ex\/X.s₀.heap.objs.size<=b)/\b≠X.env.locals/\(∀ x c,X.env.cells.lookup x=some c->c≠b)/\∀ p∈X.pn++pins,p.1≠b):Inv X pins σ H' s':=by
 obtain ⟨h',g',d',t',o'⟩:=s'
 have e:o'=s.os:=ho
 subst e
 exact I.call (g':=g') (t':=t') (d':=d') u hok hg hch
end
noncomputable abbrev XK:=Value->Option Addr->Hp->Prop
noncomputable abbrev St:=List (Option V)
noncomputable abbrev VK:=V->Hp->Prop
noncomputable abbrev TE:=St->Hp->VK->Prop
noncomputable abbrev TT:=St->Hp->(Bool->Hp->Prop)->Prop
noncomputable abbrev TA:=St->Hp->(List V->Hp->Prop)->Prop
set_option genInjectivity false in
structure jD where
 nx:St->Hp->Prop
 rt:VK
 bk:St->Hp->Prop:=fun _ _=>False
 ct:St->Hp->Prop:=fun _ _=>False
noncomputable abbrev TS:=jD->St->Hp->Prop
noncomputable def EP (X:Cx) (pins:List (Addr×Obj)) (σ:St) (Q:VK) (u:Value) (s':Shared):Prop:=∃ v H',Inv X pins σ H' s'/\aH v u/\Q v H'
noncomputable def TP (X:Cx) (pins:List (Addr×Obj)) (σ:St) (Q:Bool->Hp->Prop) (b:Bool) (s':Shared):Prop:=∃ H',Inv X pins σ H' s'/\Q b H'
noncomputable def AP (X:Cx) (pins:List (Addr×Obj)) (σ:St) (Q:List V->Hp->Prop) (us:List Value) (s':Shared):Prop:=∃ vs H',Inv X pins σ H' s'/\aG vs us/\Q vs H'
noncomputable def SP (X:Cx) (pins:List (Addr×Obj)) (D:jD) (f:Flow) (s':Shared):Prop:=
 match f with
 | .next=>∃ σ' H',Inv X pins σ' H' s'/\D.nx σ' H'
 | .brk=>∃ σ' H',Inv X pins σ' H' s'/\D.bk σ' H'
 | .cont=>∃ σ' H',Inv X pins σ' H' s'/\D.ct σ' H'
 | .ret u=>∃ v σ' H',Inv X pins σ' H' s'/\aH v u/\D.rt v H'
noncomputable def PE (X:Cx) (e:Expr) (t:TE):Prop:=
 ∀ (pins:List (Addr×Obj)) (s:Shared) (σ:St) (H:Hp) (Q:VK),Inv X pins σ H s->t σ H Q->wpAny (model X.prog X.w) X.A (eval e X.env) (EP X pins σ Q) X.xe s
noncomputable def PT (X:Cx) (e:Expr) (t:TT):Prop:=
 ∀ (pins:List (Addr×Obj)) (s:Shared) (σ:St) (H:Hp) (Q:Bool->Hp->Prop),Inv X pins σ H s->t σ H Q->wpAny (model X.prog X.w) X.A (isTrue e X.env (eval e X.env)) (TP X pins σ Q) X.xe s
noncomputable def PW (X:Cx) (e:Expr) (t:TT):Prop:=
 ∀ (whole:Sem Value) (pins:List (Addr×Obj)) (s:Shared) (σ:St) (H:Hp) (Q:Bool->Hp->Prop),Inv X pins σ H s->t σ H Q->wpAny (model X.prog X.w) X.A (isTrue e X.env whole) (TP X pins σ Q) X.xe s
theorem PW.pt {X:Cx} {e:Expr} {t:TT} (h:PW X e t):PT X e t:=h _
noncomputable def PA (X:Cx) (es:List Expr) (t:TA):Prop:=
 ∀ (pos:Pos) (pins:List (Addr×Obj)) (s:Shared) (σ:St) (H:Hp) (Q:List V->Hp->Prop),Inv X pins σ H s->t σ H Q->wpAny (model X.prog X.w) X.A (spliced (backTo pos (Mp es X.env))) (AP X pins σ Q) X.xe s
noncomputable def PS (X:Cx) (st:Stmt) (t:TS):Prop:=
 ∀ (pins:List (Addr×Obj)) (s:Shared) (σ:St) (H:Hp) (D:jD),Inv X pins σ H s->t D σ H->wpAny (model X.prog X.w) X.A (exec st X.env) (SP X pins D) X.xe s
noncomputable def PSs (X:Cx) (st:List Stmt) (t:TS):Prop:=
 ∀ (pins:List (Addr×Obj)) (s:Shared) (σ:St) (H:Hp) (D:jD),Inv X pins σ H s->t D σ H->wpAny (model X.prog X.w) X.A (execs st X.env) (SP X pins D) X.xe s
theorem thn {α:Type} {t:Sem α} {Q Q':α->Shared->Prop} {M:Model} {A:Around} {E:Value->Shared->Prop} {s:Shared} (h:wpAny M A t Q E s) (hQ:∀ a s,Q a s->Q' a s):wpAny M A t Q' E s:=NO h hQ fun _ _ x=>x
end L2
namespace L2
open PySem PySem.Spec PyProof.Rows
section
variable {X:Cx}
noncomputable def ac (i:Nat):TE:=fun σ H Q=>∃ v,σ[i]?=some (some v)/\Q v H
noncomputable def tC (v:V):TE:=fun _ H Q=>Q v H
theorem EB {i:Nat} {x:Str} {pos:Pos} (hN:X.N[i]?=some x) (hv:Vis X.env.scope x) (hd:(x == ("__debug__":Str))=false:=by decide) (hcd:(x == ("__classdict__":Str))=false:=by decide):PE X (.Name x pos) (ac i):=by
 intro pins s σ H Q I h
 obtain ⟨v,e,h⟩:=h
 obtain ⟨m,hn,hl⟩:=I.loc
 obtain ⟨u,r,l⟩:=hl i x v hN e hv
 have fin:EP X pins σ Q u s:=⟨v,H,I,r,h⟩
 rcases l with ⟨hk,hm⟩ | ⟨hk,c,hc,hcell⟩
 ·exact UF (wpAny_loadName_local I.ok.kind hk hn hm fin) hd
 ·rcases hk with hk | hk
  ·exact UF (wpAny_loadName_cell I.ok.kind hk hc hcell fin) hd
  ·exact UF (wpAny_loadName_free I.ok.kind hk hc hcell fin hcd) hd
theorem ap {i j pos}:PE X (.Constant (.int i) j pos) (tC (.int i)):=fun _ _ _ H _ I h=>wpAny_Constant_int ⟨.int i,H,I.tok _,⟨_,rfl⟩,h⟩
theorem cn {b j pos}:PE X (.Constant (.bool b) j pos) (tC (.bl b)):=fun _ _ _ H _ I h=>Constant_bool ⟨.bl b,H,I,rfl,h⟩
theorem uW {j pos}:PE X (.Constant .none j pos) (tC .non):=fun _ _ _ H _ I h=>Constant_none ⟨.non,H,I,rfl,h⟩
theorem aZ {x j pos}:PE X (.Constant (.str x) j pos) (tC (.str x)):=fun _ _ _ H _ I h=>Calls.Constant_str ⟨.str x,H,I.tok _,⟨_,rfl⟩,h⟩
noncomputable def Gl (X:Cx) (x:Str):Prop:=X.env.kindOf x=some .globalImplicit
theorem wV {E:Value->Shared->Prop} {pins:List (Addr×Obj)} {s:Shared} {σ:St} {H:Hp} {x:Str} {u:Value} {pos:Pos} {Q:Value->Shared->Prop} (I:Inv X pins σ H s) (hg:Gl X x) (hm:X.mg x=some u) (h:Q u s)
  (hd:(x == ("__debug__":Str))=false:=by decide):wpAny (model X.prog X.w) X.A (eval (.Name x pos) X.env) Q E s:=
 Rg I.ok.kind hg (Calls.loadGlobal_global (by rw [I.ok.glob]; exact I.mod.glob.keeps I.bk) hm h) hd
theorem gA {E:Value->Shared->Prop} {pins:List (Addr×Obj)} {s:Shared} {σ:St} {H:Hp} {x:Str} {u:Value} {pos:Pos} {Q:Value->Shared->Prop} (I:Inv X pins σ H s) (hg:Gl X x) (hm:X.mg x=none) (hv:PR x=some u) (h:Q u s)
  (hn:x≠"__name__":=by decide) (hd:(x == ("__debug__":Str))=false:=by decide):wpAny (model X.prog X.w) X.A (eval (.Name x pos) X.env) Q E s:=by
 obtain ⟨mb,h1,h2⟩:=I.mod.blt
 exact Rg I.ok.kind hg (Calls.loadGlobal_builtin (by rw [I.ok.glob]; exact I.mod.glob.keeps I.bk) hm (by rw [I.ok.blt]; exact h1.keeps I.bk) ((h2 x hn).trans hv) h) hd
theorem jE {x:Str} {v:V} {u:Value} {pos:Pos} (hg:Gl X x) (hm:X.mg x=some u) (r:aH v u) (hd:(x == ("__debug__":Str))=false:=by decide):PE X (.Name x pos) (tC v):=
 fun _ _ _ H _ I h=>wV I hg hm ⟨v,H,I,r,h⟩ hd
theorem cH {x:Str} {v:V} {u:Value} {pos:Pos} (hg:Gl X x) (hm:X.mg x=none) (hv:PR x=some u) (r:aH v u) (hn:x≠"__name__":=by decide) (hd:(x == ("__debug__":Str))=false:=by decide):PE X (.Name x pos) (tC v):=
 fun _ _ _ H _ I h=>gA I hg hm hv ⟨v,H,I,r,h⟩ hn hd
variable {a b:Expr} {ta tb:TE} {pos:Pos}
noncomputable def tB (t:TE):TT:=fun σ H Q=>t σ H fun x H1=>∃ c,x=.bl c/\Q c H1
theorem bY {e:Expr} {t:TE} (h:PE X e t) (he:∀ whole,isTrue e X.env whole=(do let v <-whole; standAt e.pos; holding [v] (truthy v)):=by intro _; rfl):PT X e (tB t):=by
 intro pins s σ H Q I hw
 refine isTrue_plain (thn (h pins s σ H _ I hw) fun v s1 ⟨x,H1,I1,r1,q1⟩=>?_) (he _)
 obtain ⟨d,rfl,q⟩:=q1
 cases r1
 exact NY ⟨H1,I1,q⟩
variable {tA tB':TT} {dj:List Expr}
noncomputable def CB (t u:TT):TT:=fun σ H Q=>t σ H fun c H1=>if c=true then u σ H1 Q else Q false H1
noncomputable def tOr (t u:TT):TT:=fun σ H Q=>t σ H fun c H1=>if c=true then Q true H1 else u σ H1 Q
noncomputable def d5 (t:TT):TT:=fun σ H Q=>t σ H fun c H1=>Q (!c) H1
theorem IM (ha:PT X a tA):PW X (.BoolOp .And [a] pos) tA:=by
 intro wh pins s σ H Q I h
 refine isTrue_and (thn (ha pins s σ H Q I h) fun c s1 e=>?_)
 cases c with
 | true=>exact isTrue_and_nil e
 | false=>exact e
theorem ig (ha:PT X a tA):PW X (.BoolOp .Or [a] pos) tA:=by
 intro wh pins s σ H Q I h
 refine isTrue_or (thn (ha pins s σ H Q I h) fun c s1 e=>?_)
 cases c with
 | false=>exact isTrue_or_nil e
 | true=>exact e
theorem EC (ha:PT X a tA) (hb:PW X (.BoolOp .And (b :: dj) pos) tB'):PW X (.BoolOp .And (a :: b :: dj) pos) (CB tA tB'):=by
 intro wh pins s σ H Q I h
 refine isTrue_and (thn (ha pins s σ H _ I h) fun c s1 ⟨H1,I1,q1⟩=>?_)
 cases c with
 | true=>exact hb wh pins s1 σ H1 Q I1 q1
 | false=>exact ⟨H1,I1,q1⟩
theorem jT (ha:PT X a tA) (hb:PW X (.BoolOp .Or (b :: dj) pos) tB'):PW X (.BoolOp .Or (a :: b :: dj) pos) (tOr tA tB'):=by
 intro wh pins s σ H Q I h
 refine isTrue_or (thn (ha pins s σ H _ I h) fun c s1 ⟨H1,I1,q1⟩=>?_)
 cases c with
 | true=>exact ⟨H1,I1,q1⟩
 | false=>exact hb wh pins s1 σ H1 Q I1 q1
theorem cz (ha:PT X a tA):PT X (.UnaryOp .Not a pos) (d5 tA):=by
 intro pins s σ H Q I h
 exact isTrue_not (ha pins s σ H (fun c H1=>Q (!c) H1) I h)
noncomputable def oU (ta tb:TE):TE:=fun σ H Q=>ta σ H fun x H1=>∃ c,x=.bl c/\if c=true then tb σ H1 Q else Q (.bl false) H1
noncomputable def Gh (ta tb:TE):TE:=fun σ H Q=>ta σ H fun x H1=>∃ c,x=.bl c/\if c=true then Q (.bl true) H1 else tb σ H1 Q
noncomputable def zm (ta:TE):TE:=fun σ H Q=>ta σ H fun x H1=>∃ c,x=.bl c/\Q (.bl (!c)) H1
theorem nU {op} {t:TE} (h:PE X a t):PE X (.BoolOp op [a] pos) t:=fun pins s σ H Q I hw=>BoolOp_one (h pins s σ H Q I hw)
theorem qJ (ha:PE X a ta) (hb:PE X (.BoolOp .And (b :: dj) pos) tb):PE X (.BoolOp .And (a :: b :: dj) pos) (oU ta tb):=by
 intro pins s σ H Q I h
 refine BoolOp_and (thn (ha pins s σ H _ I h) fun v s1 ⟨x,H1,I1,r1,q1⟩=>?_)
 obtain ⟨c,rfl,q1⟩:=q1
 cases r1
 refine NY ?_
 cases c with
 | true=>exact hb pins s1 σ H1 Q I1 q1
 | false=>exact ⟨.bl false,H1,I1,rfl,q1⟩
theorem K5 (ha:PE X a ta) (hb:PE X (.BoolOp .Or (b :: dj) pos) tb):PE X (.BoolOp .Or (a :: b :: dj) pos) (Gh ta tb):=by
 intro pins s σ H Q I h
 refine BoolOp_or (thn (ha pins s σ H _ I h) fun v s1 ⟨x,H1,I1,r1,q1⟩=>?_)
 obtain ⟨c,rfl,q1⟩:=q1
 cases r1
 refine NY ?_
 cases c with
 | false=>exact hb pins s1 σ H1 Q I1 q1
 | true=>exact ⟨.bl true,H1,I1,rfl,q1⟩
theorem ED (ha:PE X a ta):PE X (.UnaryOp .Not a pos) (zm ta):=by
 intro pins s σ H Q I h
 refine UnaryOp_ (thn (ha pins s σ H _ I h) fun v s1 ⟨x,H1,I1,r1,q1⟩=>?_)
 obtain ⟨c,rfl,q1⟩:=q1
 cases r1
 exact not_of (NY ⟨.bl (!c),H1,I1,rfl,q1⟩)
end
end L2
namespace L2
open PySem PySem.Spec PyProof.Rows
noncomputable def SqL (K:Fg) (H:Hp) (a:Addr) (xs:List V):Prop:=
 Rd H a (.lst xs)\/
  ∃ (o:Obj) (its:Array Value) (n:Nat),K.lookup a=some o/\o.cls=.type "list"/\o.dict=none/\o.data=.seq its n/\its.size<=Mb/\aG xs its.toList
noncomputable def SqT (K:Fg) (H:Hp) (a:Addr) (xs:List V):Prop:=
 Rd H a (.tup xs)\/
  ∃ (o:Obj) (its:Array Value) (n:Nat),K.lookup a=some o/\o.cls=.type "tuple"/\o.data=.seq its n/\its.size<=Mb/\aG xs its.toList
noncomputable def LB:Value->Option V
 | .none=>some .non
 | .bool b=>some (.bl b)
 | .int i _=>some (.int i)
 | .str x _=>some (.str x)
 | .bytes b _=>some (.byt b)
 | .float b _=>some (.flt b)
 | .ref a=>some (.ref a)
 | .type n=>some (.ty n)
 | _=>none
theorem aH.abs {x:V} {u:Value} (r:aH x u):LB u=some x:=by
 cases x with
 | non=>cases r; rfl
 | bl _=>cases r; rfl
 | int _=>obtain ⟨t,rfl⟩:=r; rfl
 | str _=>obtain ⟨t,rfl⟩:=r; rfl
 | byt _=>obtain ⟨t,rfl⟩:=r; rfl
 | flt _=>obtain ⟨t,rfl⟩:=r; rfl
 | ref _=>cases r; rfl
 | ty _=>cases r; rfl
theorem aH.inj {x y:V} {u:Value} (r:aH x u) (q:aH y u):x=y:=L9 (r.abs.symm.trans q.abs)
theorem aG.inj {xs ys:List V} {us:List Value} (h:aG xs us):aG ys us->xs=ys:=by
 induction h generalizing ys with
 | nil=>intro h; cases h; rfl
 | cons r t ih=>intro h; cases h with
  | cons r' t'=>rw [r.inj r',ih t']
section
variable {X:Cx} {pins:List (Addr×Obj)} {σ:St} {H:Hp} {s:Shared} {a:Addr} {xs ys:List V}
theorem SqL.of {K:Fg} (h:H a=some (.lst xs)):SqL K H a xs:=.inl (.inl h)
theorem SqT.of {K:Fg} (h:H a=some (.tup xs)):SqT K H a xs:=.inl (.inl h)
theorem Inv.list (I:Inv X pins σ H s) (h:SqL X.K H a xs):∃ its:List Value,aG xs its/\PlainL s.heap a its.toArray/\xs.length<=Mb:=by
 rcases h with h | ⟨o,its,n,hk,hc,hd,hs,hz,r⟩
 ·obtain ⟨z,its,n,r,e⟩:=h.ok I.hok
  exact ⟨its,r,⟨_,n,e,rfl,rfl,rfl⟩,z⟩
 ·refine ⟨its.toList,r,⟨o,n,I.kIn a o hk,hc,hd,by simpa using hs⟩,?_⟩
  have e:=r.length
  simp only [ME] at e
  omega
theorem Inv.tuple (I:Inv X pins σ H s) (h:SqT X.K H a xs):∃ its:List Value,aG xs its/\IsTup s.heap a its.toArray/\xs.length<=Mb:=by
 rcases h with h | ⟨o,its,n,hk,hc,hs,hz,r⟩
 ·obtain ⟨z,its,r,p⟩:=h.ok I.hok
  exact ⟨its,r,p.tup,z⟩
 ·refine ⟨its.toList,r,⟨o,I.kIn a o hk,hc,n,by simpa using hs⟩,?_⟩
  have e:=r.length
  simp only [ME] at e
  omega
theorem Inv.list_inj (I:Inv X pins σ H s) (h:SqL X.K H a xs) (h':SqL X.K H a ys):xs=ys:=by
 obtain ⟨its,r,⟨o,n,e,_,_,d⟩,_⟩:=I.list h
 obtain ⟨its',r',⟨o',n',e',_,_,d'⟩,_⟩:=I.list h'
 rw [e] at e'; cases e'
 rw [d] at d'
 injection d' with d1 _
 have:its=its':=by simpa using congrArg Array.toList d1
 subst this
 exact r.inj r'
theorem Inv.tuple_inj (I:Inv X pins σ H s) (h:SqT X.K H a xs) (h':SqT X.K H a ys):xs=ys:=by
 obtain ⟨its,r,⟨o,e,_,n,d⟩,_⟩:=I.tuple h
 obtain ⟨its',r',⟨o',e',_,n',d'⟩,_⟩:=I.tuple h'
 rw [e] at e'; cases e'
 rw [d] at d'
 injection d' with d1 _
 have:its=its':=by simpa using congrArg Array.toList d1
 subst this
 exact r.inj r'
end
noncomputable abbrev Cx.wish (X:Cx) (E:Value->Shared->Prop):Cx:={ X with xe:=E }
noncomputable abbrev Cx.nox (X:Cx):Cx:=X.wish fun _ _=>False
theorem Cx.Ok.wish {X:Cx} (ok:X.Ok) (E:Value->Shared->Prop):(X.wish E).Ok:=
 ⟨ok.mod,ok.kind,ok.glob,ok.blt,ok.above,ok.inj,ok.has,ok.cab,ok.hd,ok.frames,ok.stk,ok.exf,ok.bs,ok.bsz,ok.noex,ok.exfs,ok.funs,ok.frf⟩
theorem Cx.Ok.unwish {X:Cx} {E:Value->Shared->Prop} (ok:(X.wish E).Ok):X.Ok:=
 ⟨ok.mod,ok.kind,ok.glob,ok.blt,ok.above,ok.inj,ok.has,ok.cab,ok.hd,ok.frames,ok.stk,ok.exf,ok.bs,ok.bsz,ok.noex,ok.exfs,ok.funs,ok.frf⟩
section
variable {X:Cx} {pins:List (Addr×Obj)} {σ:St} {H:Hp} {s:Shared} {E:Value->Shared->Prop}
theorem Inv.wish (I:Inv X pins σ H s) (E:Value->Shared->Prop):Inv (X.wish E) pins σ H s:=⟨I.ok.wish E,I.os,I.bare,I.base,I.loc,I.cell,I.free,I.freeC,I.pin,I.hok,I.len⟩
theorem Inv.unwish (I:Inv (X.wish E) pins σ H s):Inv X pins σ H s:=⟨I.ok.unwish,I.os,I.bare,I.base,I.loc,I.cell,I.free,I.freeC,I.pin,I.hok,I.len⟩
theorem SP.unwish {D:jD} {f:Flow} {s':Shared} (h:SP (X.wish E) pins D f s'):SP X pins D f s':=by
 cases f with
 | next=>obtain ⟨σ',H',I,q⟩:=h; exact ⟨σ',H',I.unwish,q⟩
 | brk=>obtain ⟨σ',H',I,q⟩:=h; exact ⟨σ',H',I.unwish,q⟩
 | cont=>obtain ⟨σ',H',I,q⟩:=h; exact ⟨σ',H',I.unwish,q⟩
 | ret u=>obtain ⟨v,σ',H',I,r,q⟩:=h; exact ⟨v,σ',H',I.unwish,r,q⟩
theorem PE.nox {e:Expr} {t:TE} (h:PE X.nox e t):PE X e t:=fun pins s σ H Q I hw=>
 NO (h pins s σ H Q (I.wish _) hw) (fun _ _ ⟨v,H',I',r,q⟩=>⟨v,H',I'.unwish,r,q⟩) fun _ _ z=>N2 z
theorem PT.nox {e:Expr} {t:TT} (h:PT X.nox e t):PT X e t:=fun pins s σ H Q I hw=>
 NO (h pins s σ H Q (I.wish _) hw) (fun _ _ ⟨H',I',q⟩=>⟨H',I'.unwish,q⟩) fun _ _ z=>N2 z
theorem PSs.nox {st:List Stmt} {t:TS} (h:PSs X.nox st t):PSs X st t:=fun pins s σ H D I hw=>
 NO (h pins s σ H D (I.wish _) hw) (fun _ _ q=>q.unwish) fun _ _ z=>N2 z
end
section
variable {X:Cx} {st:Stmt} {dj:List Stmt} {t u:TS} {e:Expr} {te:TE} {pos:Pos}
noncomputable def ba:TS:=fun D σ H=>D.nx σ H
noncomputable def ar (t u:TS):TS:=fun D σ H=>t { D with nx:=u D } σ H
theorem aL:PSs X [] ba:=fun _ _ σ H _ I h=>Qy ⟨σ,H,I,h⟩
theorem ah (h1:PS X st t) (h2:PSs X dj u):PSs X (st :: dj) (ar t u):=by
 intro pins s σ H D I h
 refine Um (thn (h1 pins s σ H { D with nx:=u D } I h) fun f s1 q=>?_)
 cases f with
 | next=>
  obtain ⟨σ',H',I',q⟩:=q
  exact h2 pins s1 σ' H' D I' q
 | ret v=>exact q
 | brk=>exact q
 | cont=>exact q
theorem aj (h1:PS X st t):PSs X [st] t:=by
 intro pins s σ H D I h
 refine Um (thn (h1 pins s σ H D I h) fun f s1 q=>?_)
 cases f with
 | next=>exact Qy q
 | ret v=>exact q
 | brk=>exact q
 | cont=>exact q
theorem Inv.quiet {pins:List (Addr×Obj)} {σ:St} {H:Hp} {s:Shared} (I:Inv X pins σ H s):interactive X.env=false:=by simp [interactive,I.ok.kind]
noncomputable def cV (te:TE):TS:=fun D σ H=>te σ H fun _ H1=>D.nx σ H1
theorem bV (he:PE X e te) (hs:Tj e none pos.line X.env=pure false:=by rfl):PS X (.Expr e pos) (cV te):=by
 intro pins s σ H D I h
 exact wpAny_Expr_any (thn (he pins s σ H _ I h) fun v s1 ⟨x,H1,I1,r1,q1⟩=>⟨σ,H1,I1,q1⟩) I.quiet hs
noncomputable def aJ (te:TE):TS:=fun D σ H=>te σ H D.rt
theorem ay (he:PE X e te):PS X (.Return (some e) pos) (aJ te):=by
 intro pins s σ H D I h
 exact wpAny_Return_some (thn (he pins s σ H _ I h) fun v s1 ⟨x,H1,I1,r1,q1⟩=>⟨x,σ,H1,I1,r1,q1⟩)
noncomputable def bp (c:TT) (t u:TS):TS:=fun D σ H=>c σ H fun b H1=>if b=true then t D σ H1 else u D σ H1
theorem bh {c:Expr} {a b:List Stmt} {tc:TT} (hc:PT X c tc) (ha:PSs X a t) (hb:PSs X b u):PS X (.If c a b pos) (bp tc t u):=by
 intro pins s σ H D I h
 refine wpAny_If (thn (hc pins s σ H _ I h) fun d s1 ⟨H1,I1,q1⟩=>?_)
 cases d with
 | true=>exact ha pins s1 σ H1 D I1 q1
 | false=>exact hb pins s1 σ H1 D I1 q1
noncomputable def qK:TS:=fun _ _ _=>False
theorem oV:PS X st qK:=fun _ _ _ _ _ _ h=>h.elim
end
noncomputable abbrev TG:=V->St->Hp->(St->Hp->Prop)->Prop
noncomputable abbrev TGs:=List V->St->Hp->(St->Hp->Prop)->Prop
noncomputable def PG (X:Cx) (target:Expr) (t:TG):Prop:=
 ∀ (pins:List (Addr×Obj)) (s:Shared) (σ:St) (H:Hp) (v:V) (u:Value) (Q:St->Hp->Prop),Inv X pins σ H s->aH v u->t v σ H Q->
  wpAny (model X.prog X.w) X.A (assign target X.env u) (fun _ s'=>∃ σ' H',Inv X pins σ' H' s'/\Q σ' H') X.xe s
noncomputable def PGs (X:Cx) (ts:List Expr) (t:TGs):Prop:=
 ∀ (pins:List (Addr×Obj)) (s:Shared) (σ:St) (H:Hp) (vs:List V) (us:List Value) (Q:St->Hp->Prop),Inv X pins σ H s->aG vs us->t vs σ H Q->
  wpAny (model X.prog X.w) X.A (assignInOrder ((Qz ts X.env).map (·.2)) us) (fun _ s'=>∃ σ' H',Inv X pins σ' H' s'/\Q σ' H') X.xe s
noncomputable abbrev zI:=V->V->V->Hp->(Hp->Prop)->Prop
noncomputable def CC (X:Cx) (t:zI):Prop:=
 ∀ (pins:List (Addr×Obj)) (s:Shared) (σ:St) (H:Hp) (o i v:V) (ov iv u:Value) (Q:Hp->Prop),Inv X pins σ H s->aH o ov->aH i iv->aH v u->t o i v H Q->
  wpAny (model X.prog X.w) X.A (setItem ov iv u) (fun _ s'=>∃ H',Inv X pins σ H' s'/\Q H') X.xe s
section
variable {X:Cx} {pos:Pos}
noncomputable def ao (i:Nat):TG:=fun v σ H Q=>Q (σ.set i (some v)) H
theorem ax {i:Nat} {x:Str} (hN:X.N.Nodup) (hi:X.N[i]?=some x) (hx:Loc X.env.scope x) (hf:X.fn x=true\/X.env.scope.names.lookup x=some .local:=by first | exact .inl rfl | exact .inr rfl | assumption):PG X (.Name x pos) (ao i):=by
 intro pins s σ H v u Q I r h
 exact TL (zH I hN hi hx r (fun s' I'=>⟨_,H,I',h⟩) hf)
noncomputable def gB:TGs:=fun vs σ H Q=>vs=[]/\Q σ H
noncomputable def bI (t:TG) (u:TGs):TGs:=fun vs σ H Q=>∃ v r,vs=v :: r/\t v σ H fun σ' H'=>u r σ' H' Q
theorem dn:PGs X [] gB:=by
 intro pins s σ H vs us Q I r h
 obtain ⟨e,h⟩:=h
 subst e
 cases r
 exact assignInOrder_nil ⟨σ,H,I,h⟩
theorem aY {e:Expr} {es:List Expr} {t:TG} {u:TGs} (h1:PG X e t) (h2:PGs X es u)
  (hs:(Qz (e :: es) X.env).map (·.2)=assign e X.env :: (Qz es X.env).map (·.2):=by rfl):PGs X (e :: es) (bI t u):=by
 intro pins s σ H vs us Q I r h
 obtain ⟨v,vr,e1,h⟩:=h
 subst e1
 cases r with
 | cons r rr=>
  rw [hs]
  refine assignInOrder_cons (thn (h1 pins s σ H _ _ _ I r h) fun _ s1 ⟨σ1,H1,I1,q1⟩=>?_)
  exact h2 pins s1 σ1 H1 _ _ Q I1 rr q1
noncomputable def gC (K:Fg) (n:Nat) (t:TGs):TG:=fun v σ H Q=>∃ a xs,v=.ref a/\SqT K H a xs/\xs.length=n/\t xs σ H Q
theorem d6 {es:List Expr} {k:Nat} {t:TGs} {n:Nat} (hc:X.calm=true) (h:PGs X es t)
  (hn:(Qz es X.env).length=n:=by rfl) (hst:(Qz es X.env).findIdx? (·.1)=none:=by rfl):PG X (.Tuple es k pos) (gC X.K n t):=by
 intro pins s σ H v u Q I r hw
 obtain ⟨a,xs,e1,hq,hl,hw⟩:=hw
 subst e1
 cases r
 obtain ⟨its,rv,ht,hz⟩:=I.tuple hq
 refine assign_Tuple_tuple (I.ok.hd hc) ht (by simp [hn,<-hl,rv.length]) hst fun h' hx=>?_
 have I1:Inv X pins σ H { s with heap:=h' }:=I.kept (t':=s.toks) fun b o e=>hx b o (MC (L5 e)) e
 exact h pins _ σ H xs _ Q I1 (by simpa using rv) hw
noncomputable def oW (to ti:TE) (t:zI):TG:=fun v σ H Q=>to σ H fun o H1=>ti σ H1 fun i H2=>t o i v H2 fun H3=>Q σ H3
theorem nV {o i:Expr} {to ti:TE} {t:zI} (ho:PE X o to) (hi:PE X i ti) (hs:CC X t)
  (ha:∀ v,assign (.Subscript o i pos) X.env v=(do
   let ov <-holding [v] (eval o X.env)
   let iv <-holding [v,ov] (eval i X.env)
   standAt pos
   holding [v,ov,iv] (setItem ov iv v)
   release [v,ov,iv] []):=by intro _; rfl):PG X (.Subscript o i pos) (oW to ti t):=by
 intro pins s σ H v u Q I r h
 rw [ha]
 refine LO (Nf (thn (ho pins s σ H _ I h) fun ov s1 ⟨x,H1,I1,r1,q1⟩=>?_))
 refine LO (Nf (thn (hi pins s1 σ H1 _ I1 q1) fun iv s2 ⟨y,H2,I2,r2,q2⟩=>?_))
 refine LO (Rh (LO (Nf (thn (hs pins s2 σ H2 x y v ov iv u _ I2 r1 r2 r q2) fun _ s3 ⟨H3,I3,q3⟩=>?_))))
 exact wpAny_release ⟨σ,H3,I3,q3⟩
noncomputable def aK (te:TE) (g:TG):TS:=fun D σ H=>te σ H fun x H1=>g x σ H1 D.nx
theorem lP {tg e:Expr} {te:TE} {g:TG} (he:PE X e te) (hg:PG X tg g) (hs:swapsWithSole [tg] e pos.line X.env=pure false:=by rfl) (hw:swappedStores [tg] e X.env=pure none:=by rfl)
  (h1:(Qz [tg] X.env).map (·.2)=[assign tg X.env]:=by rfl):PS X (.Assign [tg] e pos) (aK te g):=by
 intro pins s σ H D I h
 refine wpAny_Assign_stores (thn (he pins s σ H _ I h) fun v s1 ⟨x,H1,I1,r1,q1⟩=>?_) hs hw
 rw [h1]
 exact thn (hg pins s1 σ H1 x v _ I1 r1 q1) fun _ s2 q=>q
theorem aB {i:Nat} {x:Str} {e:Expr} {te:TE} {pos':Pos} (hN:X.N.Nodup) (hi:X.N[i]?=some x) (hx:Loc X.env.scope x) (he:PE X e te) (hs:Tj e (some (.Name x pos')) pos.line X.env=pure false:=by rfl) (hf:X.fn x=true\/X.env.scope.names.lookup x=some .local:=by first | exact .inl rfl | exact .inr rfl | assumption):
  PS X (.Assign [.Name x pos'] e pos) (aK te (ao i)):=by
 intro pins s σ H D I h
 refine wpAny_Assign_Name (thn (he pins s σ H _ I h) fun v s1 ⟨y,H1,I1,r1,q1⟩=>?_) hs
 exact zH I1 hN hi hx r1 (fun s2 I2=>⟨_,H1,I2,q1⟩) hf
end
section
variable {X:Cx} {pos:Pos}
noncomputable def nW (c:TT) (tb:TS):TS:=fun D σ H=>∃ W:Nat->St->Hp->Prop,(∃ m,W m σ H)/\∀ m σ H,W m σ H->
 c σ H fun b H1=>if b=true then ∃ N:St->Hp->Prop,(∀ σ' H',N σ' H'->∃ m',m' < m/\W m' σ' H')/\tb { D with nx:=N,ct:=N,bk:=D.nx } σ H1 else D.nx σ H1
theorem uj {c:Expr} {body:List Stmt} {tc:TT} {tb:TS} (hp:MO (model X.prog X.w) X.A X.env X.xe) (hc:PT X c tc) (hb:PSs X body tb):PS X (.While c body [] pos) (nW tc tb):=by
 intro pins s σ H D I h
 obtain ⟨W,⟨m0,w0⟩,turn⟩:=h
 refine wpAny_While (codeAny_whileLoop (fun n s'=>∃ σ' H',Inv X pins σ' H' s'/\W n σ' H') ?_ m0 ⟨σ,H,I,w0⟩)
 rintro n s1 ⟨σ1,H1,I1,w1⟩
 refine OK hp (thn (hc pins s1 σ1 H1 _ I1 (turn n σ1 H1 w1)) fun b s2 ⟨H2,I2,q2⟩=>?_)
 cases b with
 | true=>
  obtain ⟨N,hN,q2⟩:=q2
  rw [if_pos rfl]
  refine OK hp (thn (hb pins s2 σ1 H2 _ I2 q2) fun f s3 q3=>?_)
  cases f with
  | next=>
   obtain ⟨σ3,H3,I3,n3⟩:=q3
   obtain ⟨m',hm,w3⟩:=hN σ3 H3 n3
   exact ⟨m',hm,σ3,H3,I3,w3⟩
  | cont=>
   obtain ⟨σ3,H3,I3,n3⟩:=q3
   obtain ⟨m',hm,w3⟩:=hN σ3 H3 n3
   exact ⟨m',hm,σ3,H3,I3,w3⟩
  | brk=>exact q3
  | ret v=>exact q3
 | false=>
  rw [if_neg Ma]
  exact Qy ⟨σ1,H2,I2,q2⟩
end
set_option genInjectivity false in
structure It where
 go:Nat->Hp->Prop
 yld:Nat->Hp->V->Hp->Prop
 stop:Nat->Hp->Prop
noncomputable def iZ (X:Cx) (pins:List (Addr×Obj)) (H:Hp) (b:Addr):Prop:=
 H b=none/\b≠X.env.locals/\b∉X.fs/\(b∈X.ex\/X.s₀.heap.objs.size<=b)/\(∀ x c,X.env.cells.lookup x=some c->c≠b)/\∀ p∈X.pn++pins,p.1≠b
theorem Inv.fpOk {X:Cx} {pins:List (Addr×Obj)} {σ:St} {H H':Hp} {s:Shared} {b:Addr} (I:Inv X pins σ H s) (hb:s.heap.objs.size<=b) (hn:H' b=none):iZ X pins H' b:=by
 refine ⟨hn,On (Mr I.lt hb),I.nofs hb,.inr (MD I.sz hb),fun x c e z=>?_,fun p hp z=>?_⟩
 ·obtain ⟨v,q⟩:=I.cell x c e
  exact absurd (Mr q.lt (by rw [z]; exact hb)) (Nd _)
 ·exact absurd (Mr (L5 (I.pin p hp).1) (by rw [z]; exact hb)) (Nd _)
structure qL (P:Program) (w:World) (K:Fg) (tg:Expr) (J:It) (fp:List Addr) (it:Addr) (tn:Nat->Heap->Prop):Prop where
 mem:it∈fp
 obj:∀ i h,tn i h->∀ b∈fp,∃ o,h.get? b=some o/\∀ v,o.data≠.cell v
 keep:∀ i h h',tn i h->(∀ b∈fp,∀ o,h.get? b=some o->h'.get? b=some o)->tn i h'
 item:∀ (X:Cx),X.prog=P->X.w=w->X.K=K->X.calm=true->∀ (i:Nat) (pins:List (Addr×Obj)) (s:Shared) (σ:St) (H:Hp) (E:Value->Shared->Prop),Inv X pins σ H s->(∀ b∈fp,iZ X pins H b)->tn i s.heap->J.go i H->
  wpAny (model P w) X.A (pyNext (.ref it)) (fun r s1=>∃ u,r=some u/\
   wpAny (model P w) X.A (QA tg (.ref it) u) (fun _ s2=>∃ x H',Inv X pins σ H' s2/\aH x u/\J.yld i H x H'/\tn (i + 1) s2.heap/\∀ b∈fp,H' b=none) E s1) E s
 done:∀ (X:Cx),X.prog=P->X.w=w->X.K=K->X.calm=true->∀ (i:Nat) (pins:List (Addr×Obj)) (s:Shared) (σ:St) (H:Hp) (E:Value->Shared->Prop),Inv X pins σ H s->(∀ b∈fp,iZ X pins H b)->tn i s.heap->J.stop i H->
  wpAny (model P w) X.A (pyNext (.ref it)) (fun r s1=>r=none/\Inv X pins σ H s1) E s
 self:∀ (A:Around) (i:Nat) (s:Shared) (Q:Value->Shared->Prop) (E:Value->Shared->Prop),tn i s.heap->Q (.ref it) s->wpAny (model P w) A (pyIter (.ref it)) Q E s
noncomputable abbrev TI:=St->Hp->(It->Hp->Prop)->Prop
noncomputable def PIE (X:Cx) (pins:List (Addr×Obj)) (σ:St) (tg:Expr) (R:It->Hp->Prop) (itv:Value) (s2:Shared):Prop:=
 ∃ (it:Addr) (fp:List Addr) (tn:Nat->Heap->Prop) (J:It) (H':Hp),itv=.ref it/\Inv X pins σ H' s2/\qL X.prog X.w X.K tg J fp it tn/\tn 0 s2.heap/\(∀ b∈fp,iZ X pins H' b)/\R J H'
noncomputable def PI (X:Cx) (tg iter:Expr) (wi:TI):Prop:=
 ∀ (pins:List (Addr×Obj)) (s:Shared) (σ:St) (H:Hp) (R:It->Hp->Prop),Inv X pins σ H s->wi σ H R->
  wpAny (model X.prog X.w) X.A (eval iter X.env) (fun v s1=>wpAny (model X.prog X.w) X.A (pyIter v) (PIE X pins σ tg R) X.xe s1) X.xe s
theorem CD {M : Model} {A : Around} {E : Value → Shared → Prop} {s : Shared} {tg : Expr} {it : Addr} {u : Value} {o : Obj} {n : String} {vs : Array Value} {Q : Unit → Shared → Prop} (ho : s.heap.get? it = some o) (hc : o.cls = .type n) (hd : o.data = .fields vs)
    (hn : ["enumerate", "zip", "dict_itemiterator", "dict_reverseitemiterator", "odict_iterator", "itertools.zip_longest", "itertools.pairwise"].contains n = false) (hQ : Q () s) : wpAny M A (QA tg (.ref it) u) Q E s := by
  unfold QA
  cases tg <;> first
    | exact LQ hQ
    | (cases u <;> first
        | exact LQ hQ
        | (refine LO (UG ho ?_)
           rw [hc, hd]
           show wpAny M A (if (["enumerate", "zip", "dict_itemiterator", "dict_reverseitemiterator", "odict_iterator", "itertools.zip_longest", "itertools.pairwise"].contains n && vs[0]? == some (rawInt _)) = true then _ else _) Q E s
           rw [if_neg (by intro h; rw [hn, QR] at h; cases h)]
           exact LQ hQ))
noncomputable def Itl (K:Fg) (a:Addr):It:=
 ⟨fun i H=>∃ xs x,SqL K H a xs/\xs[i]?=some x,fun i H x H'=>H'=H/\∀ xs,SqL K H a xs->xs[i]?=some x,fun i H=>∃ xs,SqL K H a xs/\xs.length<=i⟩
noncomputable def Itt (K:Fg) (a:Addr):It:=
 ⟨fun i H=>∃ xs x,SqT K H a xs/\xs[i]?=some x,fun i H x H'=>H'=H/\∀ xs,SqT K H a xs->xs[i]?=some x,fun i H=>∃ xs,SqT K H a xs/\xs.length<=i⟩
noncomputable def Itr (lo:Int) (n:Nat):It:=⟨fun i _=>i < n,fun i H x H'=>H'=H/\x=.int (lo + i),fun i _=>n<=i⟩
theorem EE {P:Program} {w:World} {K:Fg} {tg:Expr} (a it:Addr):qL P w K tg (Itl K a) [it] it (fun i h=>h.IsListIter it a i) where
 mem:=by simp
 obj:=fun i h st b hb=>by
  have e:b=it:=by simpa using hb
  subst e
  obtain ⟨o,e,c,d⟩:=st
  exact ⟨o,e,fun v z=>by rw [d] at z; cases z⟩
 keep:=fun i h h' st k=>st.at fun o e=>k it (by simp) o e
 item:=by
  intro X hP hw hK hc i pins s σ H E I hf st hg
  subst hP hw hK
  obtain ⟨xs,x,hq,hx⟩:=hg
  obtain ⟨its,rv,p,hz⟩:=I.list hq
  obtain ⟨u,hu,ru⟩:=rv.get hx
  obtain ⟨f0,f1,f2,f3,f4,f5⟩:=hf it (by simp)
  refine wpAny_pyNext_list_item st p.isList (x:=u) (by simpa using hu) fun h' st' sb=>?_
  have I1:Inv X pins σ H { s with heap:=h' }:=I.turned (t':=s.toks) (fun b o hb e=>(sb.2 b hb).trans e) f0 f1 f3 f4 f5
  obtain ⟨o,e,c,d⟩:=id st'
  exact ⟨u,rfl,CD (s:={ s with heap:=h' }) e c d (by decide) ⟨x,H,I1,ru,⟨rfl,fun ys hy=>by rw [I.list_inj hy hq]; exact hx⟩,st',fun b hb=>(hf b hb).1⟩⟩
 done:=by
  intro X hP hw hK hc i pins s σ H E I hf st hg
  subst hP hw hK
  obtain ⟨xs,hq,hx⟩:=hg
  obtain ⟨its,rv,p,hz⟩:=I.list hq
  obtain ⟨f0,f1,f2,f3,f4,f5⟩:=hf it (by simp)
  have hl:=rv.length
  exact wpAny_pyNext_list_end (I.ok.hd hc) st p.isList (by simp; omega) fun h' eb=>⟨rfl,I.turned (t':=s.toks) (fun b o hb e=>eb b o hb e) f0 f1 f3 f4 f5⟩
 self:=fun _ _ _ _ _ st h=>wpAny_pyIter_listiter st h
theorem CG {P:Program} {w:World} {K:Fg} {tg:Expr} (a it:Addr):qL P w K tg (Itt K a) [it] it (fun i h=>h.IsTupleIter it a i) where
 mem:=by simp
 obj:=fun i h st b hb=>by
  have e:b=it:=by simpa using hb
  subst e
  obtain ⟨o,e,c,d⟩:=st
  exact ⟨o,e,fun v z=>by rw [d] at z; cases z⟩
 keep:=fun i h h' st k=>st.at fun o e=>k it (by simp) o e
 item:=by
  intro X hP hw hK hc i pins s σ H E I hf st hg
  subst hP hw hK
  obtain ⟨xs,x,hq,hx⟩:=hg
  obtain ⟨its,rv,p,hz⟩:=I.tuple hq
  obtain ⟨u,hu,ru⟩:=rv.get hx
  obtain ⟨f0,f1,f2,f3,f4,f5⟩:=hf it (by simp)
  refine wpAny_pyNext_tuple_item st (show s.heap.IsTuple a its.toArray from p) (x:=u) (by simpa using hu) fun h' st' sb=>?_
  have I1:Inv X pins σ H { s with heap:=h' }:=I.turned (t':=s.toks) (fun b o hb e=>(sb.2 b hb).trans e) f0 f1 f3 f4 f5
  obtain ⟨o,e,c,d⟩:=id st'
  exact ⟨u,rfl,CD (s:={ s with heap:=h' }) e c d (by decide) ⟨x,H,I1,ru,⟨rfl,fun ys hy=>by rw [I.tuple_inj hy hq]; exact hx⟩,st',fun b hb=>(hf b hb).1⟩⟩
 done:=by
  intro X hP hw hK hc i pins s σ H E I hf st hg
  subst hP hw hK
  obtain ⟨xs,hq,hx⟩:=hg
  obtain ⟨its,rv,p,hz⟩:=I.tuple hq
  obtain ⟨f0,f1,f2,f3,f4,f5⟩:=hf it (by simp)
  have hl:=rv.length
  exact wpAny_pyNext_tuple_end (I.ok.hd hc) st (show s.heap.IsTuple a its.toArray from p) (by simp; omega) fun h' eb=>⟨rfl,I.turned (t':=s.toks) (fun b o hb e=>eb b o hb e) f0 f1 f3 f4 f5⟩
 self:=fun _ _ _ _ _ st h=>wpAny_pyIter_tupleiter st h
theorem CH {P:Program} {w:World} {K:Fg} {tg:Expr} (it:Addr) (lo:Int) (n:Nat):qL P w K tg (Itr lo n) [it] it (fun i h=>IsRangeIter h it (lo + (i:Nat) * 1) ((n:Int) - (i:Nat)) 1) where
 mem:=by simp
 obj:=fun i h st b hb=>by
  have e:b=it:=by simpa using hb
  subst e
  exact ⟨_,st,fun v z=>by
   have z':Data.fields _=Data.cell v:=z
   cases z'⟩
 keep:=fun i h h' st k=>k it (by simp) _ st
 item:=by
  intro X hP hw hK hc i pins s σ H E I hf st hg
  subst hP hw hK
  obtain ⟨f0,f1,f2,f3,f4,f5⟩:=hf it (by simp)
  have W:=Walks.range (prog:=X.prog) (w:=X.w) (I.ok.hd hc) it lo 1 n
  refine W.item i s _ _ hg st fun v h' tk hv st' kk=>?_
  obtain ⟨t,rfl⟩:=hv
  have I1:Inv X pins σ H { s with heap:=h',toks:=tk }:=I.turned (fun b o hb e=>kk b o (by simpa using hb) e) f0 f1 f3 f4 f5
  refine ⟨_,rfl,CD (s:={ s with heap:=h',toks:=tk }) (n:="range_iterator") st' rfl rfl (by decide) ⟨.int (lo + i),H,I1,⟨t,?_⟩,⟨rfl,rfl⟩,st',fun b hb=>(hf b hb).1⟩⟩
  rw [Int.mul_one]
 done:=by
  intro X hP hw hK hc i pins s σ H E I hf st hg
  subst hP hw hK
  obtain ⟨f0,f1,f2,f3,f4,f5⟩:=hf it (by simp)
  exact wpAny_pyNext_range_end (I.ok.hd hc) st (by have:n<=i:=hg; omega) fun h' eb=>⟨rfl,I.turned (t':=s.toks) (fun b o hb e=>eb b o hb e) f0 f1 f3 f4 f5⟩
 self:=fun _ _ _ _ _ st h=>wpAny_pyIter_rangeiter st h
end L2
namespace L2
open PySem PySem.Spec PyProof.Rows
section
variable {X:Cx} {tg:Expr}
noncomputable def cp (K:Fg) (tl:TE):TI:=fun σ H R=>tl σ H fun x H1=>∃ a,x=.ref a/\(∃ xs,SqL K H1 a xs)/\R (Itl K a) H1
noncomputable def uk (K:Fg) (tl:TE):TI:=fun σ H R=>tl σ H fun x H1=>∃ a,x=.ref a/\(∃ xs,SqT K H1 a xs)/\R (Itt K a) H1
theorem bE {l:Expr} {tl:TE} (hl:PE X l tl):PI X tg l (cp X.K tl):=by
 intro pins s σ H R I h
 refine thn (hl pins s σ H _ I h) fun v s1 ⟨x,H1,I1,r1,q1⟩=>?_
 obtain ⟨a,e,⟨xs,hq⟩,q⟩:=q1
 subst e
 cases r1
 obtain ⟨its,rv,p,hz⟩:=I1.list hq
 refine Po p.isList ?_
 refine ⟨s1.heap.objs.size,[s1.heap.objs.size],_,_,H1,rfl,I1.kept (t':=s1.toks) fun b o e=>LP _ e,EE a _,⟨_,L6 _ rfl,rfl,rfl⟩,fun b hb=>?_,q⟩
 have e:b=s1.heap.objs.size:=by simpa using hb
 subst e
 exact I1.fpOk (LV _) (I1.hok.fresh (LV _))
theorem qM {l:Expr} {tl:TE} (hl:PE X l tl):PI X tg l (uk X.K tl):=by
 intro pins s σ H R I h
 refine thn (hl pins s σ H _ I h) fun v s1 ⟨x,H1,I1,r1,q1⟩=>?_
 obtain ⟨a,e,⟨xs,hq⟩,q⟩:=q1
 subst e
 cases r1
 obtain ⟨its,rv,p,hz⟩:=I1.tuple hq
 refine Tn (show s1.heap.IsTuple a its.toArray from p) ?_
 refine ⟨s1.heap.objs.size,[s1.heap.objs.size],_,_,H1,rfl,I1.kept (t':=s1.toks) fun b o e=>LP _ e,CG a _,⟨_,L6 _ rfl,rfl,rfl⟩,fun b hb=>?_,q⟩
 have e:b=s1.heap.objs.size:=by simpa using hb
 subst e
 exact I1.fpOk (LV _) (I1.hok.fresh (LV _))
theorem Gi {pins:List (Addr×Obj)} {σ:St} {H:Hp} {s:Shared} {R:It->Hp->Prop} {E:Value->Shared->Prop} {lo hi:Int} {t u v:Tok} {tk:Nat} (I:Inv X pins σ H s) (h1:-(2 ^ 62)<=lo) (h2:lo < 2 ^ 62) (h3:-(2 ^ 62)<=hi) (h4:hi < 2 ^ 62)
  (q:R (Itr lo (hi - lo).toNat) H):wpAny (model X.prog X.w) X.A (pyIter (.ref s.heap.objs.size)) (PIE X pins σ tg R) E { s with heap:=s.heap.push { cls:=.type "range",data:=.fields #[.int lo t,.int hi u,.int 1 v] },toks:=tk }:=by
 refine wpAny_pyIter_range (IsRange.new ..) (small_one h1 h2 h3 h4) ?_
 have I1:Inv X pins σ H { s with heap:=s.heap.push { cls:=.type "range",data:=.fields #[.int lo t,.int hi u,.int 1 v] },toks:=tk }:=I.kept fun b o e=>LP _ e
 refine ⟨(s.heap.push { cls:=.type "range",data:=.fields #[.int lo t,.int hi u,.int 1 v] }).objs.size,[(s.heap.push { cls:=.type "range",data:=.fields #[.int lo t,.int hi u,.int 1 v] }).objs.size],_,_,H,rfl,
  I1.kept (t':=tk) fun b o e=>LP _ e,CH _ lo (hi - lo).toNat,?_,fun b hb=>?_,q⟩
 ·have e1:lo + ((0:Nat):Int) * 1=lo:=by simp
  have e2:(((hi - lo).toNat:Nat):Int) - ((0:Nat):Int)=Builtin.Range.rangeSize lo hi 1:=by rw [rangeSize_one]; split <;> omega
  show IsRangeIter _ _ (lo + ((0:Nat):Int) * 1) ((((hi - lo).toNat:Nat):Int) - ((0:Nat):Int)) 1
  rw [e1,e2]
  exact L6 _ rfl
 ·have e:b=(s.heap.push { cls:=.type "range",data:=.fields #[.int lo t,.int hi u,.int 1 v] }).objs.size:=by simpa using hb
  subst e
  exact I1.fpOk (LV _) (I1.hok.fresh (LV _))
noncomputable def fq (ta:TA):TI:=fun σ H R=>ta σ H fun vs H1=>∃ j:Int,vs=[.int j]/\-(2 ^ 62)<=j/\j < 2 ^ 62/\R (Itr 0 j.toNat) H1
theorem cq {a:Expr} {ta:TA} {p pos:Pos} (hg:Gl X "range") (hm:X.mg "range"=none) (ha:PA X [a] ta) (hs:Mp [a] X.env=[(false,eval a X.env)]:=by rfl):PI X tg (.Call (.Name "range" p) [a] [] pos) (fq ta):=by
 intro pins s σ H R I h
 refine Call_ (gA I hg hm boot_range (Ny (thn (ha pos pins s σ H _ I h) fun us s1 ⟨vs,H1,I1,r1,q1⟩=>?_) hs rfl))
 obtain ⟨j,e,q1,q2,q⟩:=q1
 subst e
 cases r1 with
 | cons r rr=>
  cases rr
  obtain ⟨t,rfl⟩:=r
  exact call_range_1 (Gi I1 (by omega) (by omega) q1 q2 (by simpa using q))
noncomputable def cR (wi:TI) (g:TG) (tb:TS):TS:=fun D σ H=>wi σ H fun J H1=>∃ W:Nat->Nat->St->Hp->Prop,(∃ m,W 0 m σ H1)/\∀ i m σ H,W i m σ H->
 (J.stop i H/\D.nx σ H)\/(J.go i H/\∃ N:St->Hp->Prop,(∀ σ' H',N σ' H'->∃ m',m' < m/\W (i + 1) m' σ' H')/\∀ x H',J.yld i H x H'->g x σ H' fun σ2 H2=>tb { D with nx:=N,ct:=N,bk:=D.nx } σ2 H2)
noncomputable def nX (fp:List Addr) (h:Heap):List (Addr×Obj):=fp.filterMap fun b=>(h.get? b).map fun o=>(b,o)
theorem gQ {fp:List Addr} {h:Heap} {b:Addr} {o:Obj} (hb:b∈fp) (e:h.get? b=some o):(b,o)∈nX fp h:=Q3.mpr ⟨b,hb,by rw [e]; rfl⟩
theorem EF {fp:List Addr} {h:Heap} {p:Addr×Obj} (hp:p∈nX fp h):p.1∈fp/\h.get? p.1=some p.2:=by
 obtain ⟨b,hb,e⟩:=Q3.mp hp
 cases q:h.get? b with
 | none=>rw [q] at e; cases e
 | some o=>
  rw [q] at e
  have e':(b,o)=p:=L9 e
  subst e'
  exact ⟨hb,q⟩
theorem Inv.pinned {pins:List (Addr×Obj)} {σ:St} {H:Hp} {s:Shared} {fp:List Addr} (I:Inv X pins σ H s) (hf:∀ b∈fp,iZ X pins H b) (ho:∀ b∈fp,∃ o,s.heap.get? b=some o/\∀ v,o.data≠.cell v):Inv X (pins++nX fp s.heap) σ H s:=
 I.pins_of fun p hp=>(Mt.mp hp).elim (fun z=>I.pin p (MB _ z)) fun z=>by
  obtain ⟨hb,e⟩:=EF z
  obtain ⟨f0,f1,f2,_⟩:=hf p.1 hb
  obtain ⟨o,e',d⟩:=ho p.1 hb
  rw [e] at e'; cases e'
  exact ⟨e,f0,f1,f2,d⟩
theorem Inv.unpinned {pins pl:List (Addr×Obj)} {σ:St} {H:Hp} {s:Shared} (I:Inv X (pins++pl) σ H s):Inv X pins σ H s:=I.pins_of fun p hp=>I.pin p (MB _ (NG _ hp))
theorem bG {iter:Expr} {body:List Stmt} {wi:TI} {g:TG} {tb:TS} {pos:Pos} (hp:MO (model X.prog X.w) X.A X.env X.xe) (hc:X.calm=true) (hi:PI X tg iter wi) (hg:PG X tg g) (hb:PSs X body tb)
  (hs:∀ x,Qd iter X.env x=pure x:=by intro _; rfl):PS X (.For tg iter body [] pos) (cR wi g tb):=by
 intro pins s σ H D I h
 refine wpAny_For (thn (hi pins s σ H _ I h) fun v s1 h1=>thn h1 fun itv s2 h2=>?_) hs
 obtain ⟨it,fp,tn,J,H2,e,I2,T,st2,f2,W,⟨m0,w0⟩,turn⟩:=h2
 subst e
 have stat:∀ {H':Hp},(∀ b∈fp,H' b=none)->∀ b∈fp,iZ X pins H' b:=fun hn b hb=>⟨hn b hb,(f2 b hb).2⟩
 refine codeAny_forLoop_any (fun n s'=>∃ i σ' H',Inv X pins σ' H' s'/\tn i s'.heap/\(∀ b∈fp,H' b=none)/\W i n σ' H') ?_ m0 ⟨0,σ,H2,I2,st2,fun b hb=>(f2 b hb).1,w0⟩
 rintro n s3 ⟨i,σ3,H3,I3,st3,fr3,w3⟩
 rcases turn i n σ3 H3 w3 with ⟨stop,qn⟩ | ⟨go,N,hN,step⟩
 ·refine OK hp (thn (T.done X rfl rfl rfl hc i pins s3 σ3 H3 X.xe I3 (stat fr3) st3 stop) fun r s4 ⟨hr,I4⟩=>?_)
  subst hr
  exact Qy ⟨σ3,H3,I4,qn⟩
 ·refine OK hp (thn (T.item X rfl rfl rfl hc i pins s3 σ3 H3 X.xe I3 (stat fr3) st3 go) fun r s4 ⟨u,hr,h4⟩=>?_)
  subst hr
  refine OK hp (thn h4 fun _ s5 ⟨x,H5,I5,r5,y5,st5,fr5⟩=>?_)
  have I5':=I5.pinned (stat fr5) (T.obj _ _ st5)
  refine OK hp (thn (hg _ s5 σ3 H5 x u _ I5' r5 (step x H5 y5)) fun _ s6 ⟨σ6,H6,I6,q6⟩=>?_)
  refine OK hp (thn (hb _ s6 σ6 H6 _ I6 q6) fun f s7 q7=>?_)
  have again:∀ {σ7:St} {H7:Hp},Inv X (pins++nX fp s5.heap) σ7 H7 s7->N σ7 H7->∃ m,m < n/\∃ i σ' H',Inv X pins σ' H' s7/\tn i s7.heap/\(∀ b∈fp,H' b=none)/\W i m σ' H':=fun {σ7 H7} I7 n7=>by
   obtain ⟨m',hm,w7⟩:=hN σ7 H7 n7
   refine ⟨m',hm,i + 1,σ7,H7,I7.unpinned,T.keep _ _ _ st5 fun b hb o e=>(I7.pin (b,o) (MB _ (MB _ (gQ hb e)))).1,fun b hb=>?_,w7⟩
   obtain ⟨o,e,d⟩:=T.obj _ _ st5 b hb
   exact (I7.pin (b,o) (MB _ (MB _ (gQ hb e)))).2.1
  cases f with
  | next=>obtain ⟨σ7,H7,I7,n7⟩:=q7; exact again I7 n7
  | cont=>obtain ⟨σ7,H7,I7,n7⟩:=q7; exact again I7 n7
  | brk=>obtain ⟨σ7,H7,I7,q7⟩:=q7; exact ⟨σ7,H7,I7.unpinned,q7⟩
  | ret v=>obtain ⟨x7,σ7,H7,I7,r7,q7⟩:=q7; exact ⟨x7,σ7,H7,I7.unpinned,r7,q7⟩
end
theorem ul {K:Fg} {a:Addr} {xs:List V} {g:TG} {tb:TS} {D:jD} {σ:St} {H:Hp} (Pv:Nat->St->Hp->Prop) (h0:Pv 0 σ H) (hl:∀ i σ H,i<=xs.length->Pv i σ H->SqL K H a xs)
  (hs:∀ i x σ H,xs[i]?=some x->Pv i σ H->g x σ H fun σ2 H2=>tb { D with nx:=Pv (i + 1),ct:=Pv (i + 1),bk:=D.nx } σ2 H2) (hd:∀ σ H,Pv xs.length σ H->D.nx σ H):
  ∃ W:Nat->Nat->St->Hp->Prop,(∃ m,W 0 m σ H)/\∀ i m σ H,W i m σ H->
   ((Itl K a).stop i H/\D.nx σ H)\/((Itl K a).go i H/\∃ N:St->Hp->Prop,(∀ σ' H',N σ' H'->∃ m',m' < m/\W (i + 1) m' σ' H')/\∀ x H',(Itl K a).yld i H x H'->g x σ H' fun σ2 H2=>tb { D with nx:=N,ct:=N,bk:=D.nx } σ2 H2):=by
 refine ⟨fun i m σ H=>m=xs.length - i/\i<=xs.length/\Pv i σ H,⟨xs.length,by simp,M7 _,h0⟩,?_⟩
 rintro i m σ H ⟨rfl,hi,p⟩
 have q:=hl i σ H hi p
 by_cases hlt:i < xs.length
 ·refine .inr ⟨⟨xs,xs[i],q,by simp [hlt]⟩,Pv (i + 1),fun σ' H' p'=>⟨xs.length - (i + 1),by omega,rfl,hlt,p'⟩,fun x H' y=>?_⟩
  obtain ⟨e,y⟩:=y
  subst e
  exact hs i x σ _ (y xs q) p
 ·have e:i=xs.length:=by omega
  subst e
  exact .inl ⟨⟨xs,q,LV _⟩,hd σ H p⟩
theorem IN {K:Fg} {a:Addr} {xs:List V} {g:TG} {tb:TS} {D:jD} {σ:St} {H:Hp} (Pv:Nat->St->Hp->Prop) (h0:Pv 0 σ H) (hl:∀ i σ H,i<=xs.length->Pv i σ H->SqT K H a xs)
  (hs:∀ i x σ H,xs[i]?=some x->Pv i σ H->g x σ H fun σ2 H2=>tb { D with nx:=Pv (i + 1),ct:=Pv (i + 1),bk:=D.nx } σ2 H2) (hd:∀ σ H,Pv xs.length σ H->D.nx σ H):
  ∃ W:Nat->Nat->St->Hp->Prop,(∃ m,W 0 m σ H)/\∀ i m σ H,W i m σ H->
   ((Itt K a).stop i H/\D.nx σ H)\/((Itt K a).go i H/\∃ N:St->Hp->Prop,(∀ σ' H',N σ' H'->∃ m',m' < m/\W (i + 1) m' σ' H')/\∀ x H',(Itt K a).yld i H x H'->g x σ H' fun σ2 H2=>tb { D with nx:=N,ct:=N,bk:=D.nx } σ2 H2):=by
 refine ⟨fun i m σ H=>m=xs.length - i/\i<=xs.length/\Pv i σ H,⟨xs.length,by simp,M7 _,h0⟩,?_⟩
 rintro i m σ H ⟨rfl,hi,p⟩
 have q:=hl i σ H hi p
 by_cases hlt:i < xs.length
 ·refine .inr ⟨⟨xs,xs[i],q,by simp [hlt]⟩,Pv (i + 1),fun σ' H' p'=>⟨xs.length - (i + 1),by omega,rfl,hlt,p'⟩,fun x H' y=>?_⟩
  obtain ⟨e,y⟩:=y
  subst e
  exact hs i x σ _ (y xs q) p
 ·have e:i=xs.length:=by omega
  subst e
  exact .inl ⟨⟨xs,q,LV _⟩,hd σ H p⟩
theorem qN {lo:Int} {n:Nat} {g:TG} {tb:TS} {D:jD} {σ:St} {H:Hp} (Pv:Nat->St->Hp->Prop) (h0:Pv 0 σ H)
  (hs:∀ i σ H,i < n->Pv i σ H->g (.int (lo + i)) σ H fun σ2 H2=>tb { D with nx:=Pv (i + 1),ct:=Pv (i + 1),bk:=D.nx } σ2 H2) (hd:∀ σ H,Pv n σ H->D.nx σ H):
  ∃ W:Nat->Nat->St->Hp->Prop,(∃ m,W 0 m σ H)/\∀ i m σ H,W i m σ H->
   ((Itr lo n).stop i H/\D.nx σ H)\/((Itr lo n).go i H/\∃ N:St->Hp->Prop,(∀ σ' H',N σ' H'->∃ m',m' < m/\W (i + 1) m' σ' H')/\∀ x H',(Itr lo n).yld i H x H'->g x σ H' fun σ2 H2=>tb { D with nx:=N,ct:=N,bk:=D.nx } σ2 H2):=by
 refine ⟨fun i m σ H=>m=n - i/\i<=n/\Pv i σ H,⟨n,by simp,M7 _,h0⟩,?_⟩
 rintro i m σ H ⟨rfl,hi,p⟩
 by_cases hlt:i < n
 ·refine .inr ⟨hlt,Pv (i + 1),fun σ' H' p'=>⟨n - (i + 1),by omega,rfl,hlt,p'⟩,fun x H' y=>?_⟩
  obtain ⟨e,y⟩:=y
  subst e y
  exact hs i σ _ hlt p
 ·have e:i=n:=by omega
  subst e
  exact .inl ⟨LV _,hd σ H p⟩
end L2
namespace L2
open PySem PySem.Spec PyProof.Rows
noncomputable abbrev R2:=V->V->Hp->VK->Prop
noncomputable def OpR (X:Cx) (f:Value->Value->Sem Value) (r:R2):Prop:=
 ∀ (pins:List (Addr×Obj)) (s:Shared) (σ:St) (H:Hp) (x y:V) (v u:Value) (Q:VK),Inv X pins σ H s->aH x v->aH y u->r x y H Q->
  wpAny (model X.prog X.w) X.A (f v u) (EP X pins σ Q) X.xe s
noncomputable def UnR (X:Cx) (f:Value->Sem Value) (r:V->Hp->VK->Prop):Prop:=
 ∀ (pins:List (Addr×Obj)) (s:Shared) (σ:St) (H:Hp) (x:V) (v:Value) (Q:VK),Inv X pins σ H s->aH x v->r x H Q->
  wpAny (model X.prog X.w) X.A (f v) (EP X pins σ Q) X.xe s
noncomputable def dI (X:Cx) (f:Value) (r:List V->Hp->VK->Prop):Prop:=
 ∀ (pins:List (Addr×Obj)) (s:Shared) (σ:St) (H:Hp) (xs:List V) (us:List Value) (Q:VK),Inv X pins σ H s->aG xs us->r xs H Q->
  wpAny (model X.prog X.w) X.A (call f us) (EP X pins σ Q) X.xe s
noncomputable def tOp (r:R2) (ta tb:TE):TE:=fun σ H Q=>ta σ H fun x H1=>tb σ H1 fun y H2=>r x y H2 Q
noncomputable def tUn (r:V->Hp->VK->Prop) (ta:TE):TE:=fun σ H Q=>ta σ H fun x H1=>r x H1 Q
noncomputable def rI (C:Int->Int->Prop) (g:Int->Int->V):R2:=fun x y H Q=>∃ i j,x=.int i/\y=.int j/\C i j/\Q (g i j) H
noncomputable def rI0 (g:Int->Int->V):R2:=fun x y H Q=>∃ i j,x=.int i/\y=.int j/\Q (g i j) H
noncomputable def rU (g:Int->V):V->Hp->VK->Prop:=fun x H Q=>∃ i,x=.int i/\Q (g i) H
section
variable {X:Cx} {a b c:Expr} {ta tb tc:TE} {pos:Pos}
theorem Gj (ha:PE X a ta) (hb:PE X b tb) {pins:List (Addr×Obj)} {s:Shared} {σ:St} {H:Hp} {R:V->V->Hp->Prop} (I:Inv X pins σ H s)
  (h:ta σ H fun x H1=>tb σ H1 fun y H2=>R x y H2) {Q:Value->Shared->Prop} {f:Value->Value->Sem Value}
  (hf:∀ v u s2 x y H2,Inv X pins σ H2 s2->aH x v->aH y u->R x y H2->wpAny (model X.prog X.w) X.A (f v u) Q X.xe s2):
  wpAny (model X.prog X.w) X.A (eval a X.env) (fun v s₁=>wpAny (model X.prog X.w) X.A (eval b X.env) (fun u s₂=>wpAny (model X.prog X.w) X.A (f v u) Q X.xe s₂) X.xe s₁) X.xe s:=by
 refine thn (ha pins s σ H _ I h) fun v s1 ⟨x,H1,I1,r1,q1⟩=>?_
 refine thn (hb pins s1 σ H1 _ I1 q1) fun u s2 ⟨y,H2,I2,r2,q2⟩=>?_
 exact hf v u s2 x y H2 I2 r1 r2 q2
theorem av {op:Operator} {r:R2} (ho:OpR X (OO op) r) (ha:PE X a ta) (hb:PE X b tb):PE X (.BinOp a op b pos) (tOp r ta tb):=by
 intro pins s σ H Q I h
 exact wpAny_BinOp (Gj ha hb I h fun v u s2 x y H2 I2 rx ry q=>ho pins s2 σ H2 x y v u Q I2 rx ry q)
theorem Im {op:UnaryOp} {r:V->Hp->VK->Prop} (ho:UnR X (unaryOp op) r) (ha:PE X a ta):PE X (.UnaryOp op a pos) (tUn r ta):=by
 intro pins s σ H Q I h
 exact UnaryOp_ (thn (ha pins s σ H _ I h) fun v s1 ⟨x,H1,I1,r1,q1⟩=>ho pins s1 σ H1 x v Q I1 r1 q1)
theorem opI {f:Value->Value->Sem Value} {C:Int->Int->Prop} {g:Int->Int->Int}
  (rule:∀ (i j:Int) (t u:Tok) (s:Shared) (Q:Value->Shared->Prop) (E:Value->Shared->Prop),C i j->Q (.int (g i j) s.toks) { s with toks:=s.toks + 1 }->wpAny (model X.prog X.w) X.A (f (.int i t) (.int j u)) Q E s):
  OpR X f (rI C fun i j=>.int (g i j)):=by
 intro pins s σ H x y v u Q I rx ry h
 obtain ⟨i,j,rfl,rfl,hc,q⟩:=h
 obtain ⟨t,rfl⟩:=rx
 obtain ⟨t',rfl⟩:=ry
 exact rule i j t t' s _ _ hc ⟨.int (g i j),H,I.tok _,⟨_,rfl⟩,q⟩
theorem J6 {f:Value->Value->Sem Value} {g:Int->Int->Int}
  (rule:∀ (i j:Int) (t u:Tok) (s:Shared) (Q:Value->Shared->Prop) (E:Value->Shared->Prop),Q (.int (g i j) s.toks) { s with toks:=s.toks + 1 }->wpAny (model X.prog X.w) X.A (f (.int i t) (.int j u)) Q E s):
  OpR X f (rI0 fun i j=>.int (g i j)):=by
 intro pins s σ H x y v u Q I rx ry h
 obtain ⟨i,j,rfl,rfl,q⟩:=h
 obtain ⟨t,rfl⟩:=rx
 obtain ⟨t',rfl⟩:=ry
 exact rule i j t t' s _ _ ⟨.int (g i j),H,I.tok _,⟨_,rfl⟩,q⟩
theorem Gk {f:Value->Value->Sem Value} {g:Int->Int->Bool}
  (rule:∀ (i j:Int) (t u:Tok) (s:Shared) (Q:Value->Shared->Prop) (E:Value->Shared->Prop),Q (.bool (g i j)) s->wpAny (model X.prog X.w) X.A (f (.int i t) (.int j u)) Q E s):
  OpR X f (rI0 fun i j=>.bl (g i j)):=by
 intro pins s σ H x y v u Q I rx ry h
 obtain ⟨i,j,rfl,rfl,q⟩:=h
 obtain ⟨t,rfl⟩:=rx
 obtain ⟨t',rfl⟩:=ry
 exact rule i j t t' s _ _ ⟨.bl (g i j),H,I,rfl,q⟩
noncomputable def fO (i j:Int):Prop:=0 < j/\j < 1073741824
noncomputable def J7 (i j:Int):Prop:=(-(2 ^ 64) < i/\i < 2 ^ 64)\/(-(2 ^ 64) < j/\j < 2 ^ 64)
theorem J7.ok {i j:Int} (h:J7 i j):OP i j:=by
 rcases h with ⟨h1,h2⟩ | ⟨h1,h2⟩
 ·exact .of_left (Ri h1 h2)
 ·exact .of_right (Ri h1 h2)
theorem bx:OpR X (OO .Add) (rI0 fun i j=>.int (i + j)):=J6 fun _ _ _ _ _ _ _ q=>add_int q
theorem ii:OpR X (OO .Sub) (rI0 fun i j=>.int (i - j)):=J6 fun _ _ _ _ _ _ _ q=>sub_int q
theorem cI:OpR X (OO .FloorDiv) (rI fO fun i j=>.int (i / j)):=opI fun i j _ _ _ _ _ hc q=>by
 have h1:(0:Int) < j:=hc.1
 have h2:j < 1073741824:=hc.2
 exact floordiv_int (by omega) (by rw [Int.fdiv_eq_ediv_of_nonneg i (by omega)]; exact q) (.inl (PyProof.noPylong_small (by omega)))
theorem bB:OpR X (OO .Mod) (rI (fun _ j=>0 < j) fun i j=>.int (i % j)):=opI fun i j _ _ _ _ _ hc q=>by
 have h1:(0:Int) < j:=hc
 exact mod_int' (by omega) (by rw [Int.fmod_eq_emod_of_nonneg i (by omega)]; exact q)
theorem unI {f:Value->Sem Value} {g:Int->Int}
  (rule:∀ (i:Int) (t:Tok) (s:Shared) (Q:Value->Shared->Prop) (E:Value->Shared->Prop),Q (.int (g i) s.toks) { s with toks:=s.toks + 1 }->wpAny (model X.prog X.w) X.A (f (.int i t)) Q E s):
  UnR X f (rU fun i=>.int (g i)):=by
 intro pins s σ H x v Q I rx h
 obtain ⟨i,rfl,q⟩:=h
 obtain ⟨t,rfl⟩:=rx
 exact rule i t s _ _ ⟨.int (g i),H,I.tok _,⟨_,rfl⟩,q⟩
theorem EG:UnR X (unaryOp .USub) (rU fun i=>.int (-i)):=unI fun _ _ _ _ _ q=>neg_int q
end
noncomputable def J8:V->V->Bool
 | .non,.non=>true | .non,.int _=>true | .int _,.non=>true | .non,.bl _=>true | .bl _,.non=>true | .non,.str _=>true | .str _,.non=>true
 | .int _,.int _=>true | .bl _,.bl _=>true | .str _,.str _=>true | .byt _,.byt _=>true
 | .int _,.str _=>true | .str _,.int _=>true | .bl _,.str _=>true | .str _,.bl _=>true
 | _,_=>false
noncomputable def rEq:R2:=fun x y H Q=>J8 x y=true/\Q (.bl (decide (x=y))) H
noncomputable def rNe:R2:=fun x y H Q=>J8 x y=true/\Q (.bl (!decide (x=y))) H
theorem BZ {i j:Int}:decide (V.int i=V.int j)=(i == j):=by
 rw [QB]
 simp
theorem EH {i j:Bool}:decide (V.bl i=V.bl j)=(i == j):=by
 rw [QB]
 simp
theorem B5 {i j:Str}:decide (V.str i=V.str j)=(i == j):=by
 rw [QB]
 simp
theorem B6 {i j:Array UInt8}:decide (V.byt i=V.byt j)=(i.toList == j.toList):=by
 rw [QB]
 cases i
 cases j
 simp
section
variable {X:Cx} {a b c:Expr} {ta tb tc:TE} {pos:Pos}
theorem bz {pins:List (Addr×Obj)} {σ:St} {H:Hp} {s:Shared} {Q:VK} {k k':Bool} (I:Inv X pins σ H s) (q:Q (.bl k) H) (e:k=k'):EP X pins σ Q (.bool k') s:=by
 subst e
 exact ⟨.bl k,H,I,rfl,q⟩
theorem cQ:OpR X (NZ .Eq) rEq:=by
 intro pins s σ H x y v u Q I rx ry h
 obtain ⟨hs,q⟩:=h
 cases x with
 | non=>
  cases rx
  cases y with
  | non=>cases ry; exact PySem.EqNone.eq_none_none (bz I q (by simp))
  | bl j=>cases ry; exact PySem.EqNone.eq_none_bool (bz I q (by simp))
  | int j=>obtain ⟨t',rfl⟩:=ry; exact PySem.EqNone.eq_none_int (bz I q (by simp))
  | str j=>obtain ⟨t',rfl⟩:=ry; exact PySem.EqNone.eq_none_str (bz I q (by simp))
  | _=>exact absurd (show false=true from hs) Ma
 | bl i=>
  cases rx
  cases y with
  | non=>cases ry; exact PySem.EqNone.eq_bool_none (bz I q (by simp))
  | bl j=>cases ry; exact eq_bool (bz I q EH)
  | str j=>obtain ⟨t',rfl⟩:=ry; exact PySem.EqMixed.eq_bool_str (bz I q (by simp))
  | _=>exact absurd (show false=true from hs) Ma
 | int i=>
  obtain ⟨t,rfl⟩:=rx
  cases y with
  | non=>cases ry; exact PySem.EqNone.eq_int_none (bz I q (by simp))
  | int j=>obtain ⟨t',rfl⟩:=ry; exact eq_int (bz I q BZ)
  | str j=>obtain ⟨t',rfl⟩:=ry; exact PySem.EqMixed.eq_int_str (bz I q (by simp))
  | _=>exact absurd (show false=true from hs) Ma
 | str i=>
  obtain ⟨t,rfl⟩:=rx
  cases y with
  | non=>cases ry; exact PySem.EqNone.eq_str_none (bz I q (by simp))
  | bl j=>cases ry; exact PySem.EqMixed.eq_str_bool (bz I q (by simp))
  | int j=>obtain ⟨t',rfl⟩:=ry; exact PySem.EqMixed.eq_str_int (bz I q (by simp))
  | str j=>obtain ⟨t',rfl⟩:=ry; exact eq_str (bz I q B5)
  | _=>exact absurd (show false=true from hs) Ma
 | byt i=>
  obtain ⟨t,rfl⟩:=rx
  cases y with
  | byt j=>obtain ⟨t',rfl⟩:=ry; exact PySem.W.eq_bytes (bz I q B6)
  | _=>exact absurd (show false=true from hs) Ma
 | _=>cases y <;> exact absurd (show false=true from hs) Ma
theorem zn:OpR X (NZ .NotEq) rNe:=by
 intro pins s σ H x y v u Q I rx ry h
 obtain ⟨hs,q⟩:=h
 cases x with
 | non=>
  cases rx
  cases y with
  | non=>cases ry; exact PySem.EqNone.ne_none_none (bz I q (by simp))
  | bl j=>cases ry; exact PySem.EqNone.ne_none_bool (bz I q (by simp))
  | int j=>obtain ⟨t',rfl⟩:=ry; exact PySem.EqNone.ne_none_int (bz I q (by simp))
  | str j=>obtain ⟨t',rfl⟩:=ry; exact PySem.EqNone.ne_none_str (bz I q (by simp))
  | _=>exact absurd (show false=true from hs) Ma
 | bl i=>
  cases rx
  cases y with
  | non=>cases ry; exact PySem.EqNone.ne_bool_none (bz I q (by simp))
  | bl j=>cases ry; exact ne_bool (bz I q (congrArg not EH))
  | str j=>obtain ⟨t',rfl⟩:=ry; exact PySem.EqMixed.ne_bool_str (bz I q (by simp))
  | _=>exact absurd (show false=true from hs) Ma
 | int i=>
  obtain ⟨t,rfl⟩:=rx
  cases y with
  | non=>cases ry; exact PySem.EqNone.ne_int_none (bz I q (by simp))
  | int j=>obtain ⟨t',rfl⟩:=ry; exact ne_int (bz I q (congrArg not BZ))
  | str j=>obtain ⟨t',rfl⟩:=ry; exact PySem.EqMixed.ne_int_str (bz I q (by simp))
  | _=>exact absurd (show false=true from hs) Ma
 | str i=>
  obtain ⟨t,rfl⟩:=rx
  cases y with
  | non=>cases ry; exact PySem.EqNone.ne_str_none (bz I q (by simp))
  | bl j=>cases ry; exact PySem.EqMixed.ne_str_bool (bz I q (by simp))
  | int j=>obtain ⟨t',rfl⟩:=ry; exact PySem.EqMixed.ne_str_int (bz I q (by simp))
  | str j=>obtain ⟨t',rfl⟩:=ry; exact ne_str (bz I q (congrArg not B5))
  | _=>exact absurd (show false=true from hs) Ma
 | byt i=>
  obtain ⟨t,rfl⟩:=rx
  cases y with
  | byt j=>obtain ⟨t',rfl⟩:=ry; exact PySem.W.ne_bytes (bz I q (congrArg not B6))
  | _=>exact absurd (show false=true from hs) Ma
 | _=>cases y <;> exact absurd (show false=true from hs) Ma
theorem Io:OpR X (NZ .Lt) (rI0 fun i j=>.bl (decide (i < j))):=Gk fun _ _ _ _ _ _ _ q=>lt_int q
theorem zo:OpR X (NZ .LtE) (rI0 fun i j=>.bl (decide (i<=j))):=Gk fun _ _ _ _ _ _ _ q=>le_int q
theorem mO:OpR X (NZ .Gt) (rI0 fun i j=>.bl (decide (j < i))):=Gk fun _ _ _ _ _ _ _ q=>gt_int q
theorem aQ (b:Expr) {op:CmpOp} (h:op≠.In:=by decide) (h2:op≠.NotIn:=by decide):Rj op b=false:=by
 have e1:(op == CmpOp.In)=false:=by cases op <;> first | rfl | exact absurd rfl h
 have e2:(op == CmpOp.NotIn)=false:=by cases op <;> first | rfl | exact absurd rfl h2
 cases b <;> simp [Rj,e1,e2]
theorem lI {op:CmpOp} {r:R2} (ho:OpR X (NZ op) r) (ha:PE X a ta) (hb:PE X b tb) (hm:Rj op b=false):PE X (.Compare a [op] [b] pos) (tOp r ta tb):=by
 intro pins s σ H Q I h
 exact wpAny_Compare1 (Gj ha hb I h fun v u s2 x y H2 I2 rx ry q=>ho pins s2 σ H2 x y v u Q I2 rx ry q) hm
noncomputable def bf (t:TE):TT:=fun σ H Q=>t σ H fun x H'=>∃ k,x=.bl k/\Q k H'
theorem aN {op:CmpOp} {r:R2} (ho:OpR X (NZ op) r) (ha:PE X a ta) (hb:PE X b tb) (hm:Rj op b=false):PT X (.Compare a [op] [b] pos) (bf (tOp r ta tb)):=by
 intro pins s σ H Q I h
 refine wpAny_isTrue_Compare1 (thn (ha pins s σ H _ I h) fun v s1 ⟨x,H1,I1,r1,q1⟩=>thn (hb pins s1 σ H1 _ I1 q1) fun u s2 ⟨y,H2,I2,r2,q2⟩=>
  thn (ho pins s2 σ H2 x y v u _ I2 r1 r2 q2) fun c s3 ⟨z,H3,I3,r3,k,e,q3⟩=>?_) hm
 subst e
 cases r3
 exact NY ⟨H3,I3,q3⟩
noncomputable def EI (r r':R2) (ta tb tc:TE):TE:=fun σ H Q=>ta σ H fun x H1=>tb σ H1 fun y H2=>r x y H2 fun z H3=>∃ k,z=.bl k/\
 (if k=true then tc σ H3 fun w' H4=>r' y w' H4 Q else Q (.bl false) H3)
theorem Gm {op op':CmpOp} {r r':R2} (ho:OpR X (NZ op) r) (ho':OpR X (NZ op') r') (ha:PE X a ta) (hb:PE X b tb) (hc:PE X c tc)
  (hm:lastMarks [op,op'] [b,c]=false:=by with_unfolding_all rfl):PE X (.Compare a [op,op'] [b,c] pos) (EI r r' ta tb tc):=by
 intro pins s σ H Q I h
 refine Compare_chain (thn (ha pins s σ H _ I h) fun v s1 ⟨x,H1,I1,r1,q1⟩=>chain_link (thn (hb pins s1 σ H1 _ I1 q1) fun u s2 ⟨y,H2,I2,r2,q2⟩=>
  thn (ho pins s2 σ H2 x y v u _ I2 r1 r2 q2) fun d s3 ⟨z,H3,I3,r3,k,e,q3⟩=>?_)) hm
 subst e
 cases r3
 refine NY ?_
 cases k with
 | false=>exact ite_ff ⟨.bl false,H3,I3,rfl,q3⟩
 | true=>exact ite_tt (chain_last (thn (hc pins s3 σ H3 _ I3 q3) fun w' s4 ⟨z',H4,I4,r4,q4⟩=>ho' pins s4 σ H4 y z' u w' Q I4 r2 r4 q4))
theorem uX:(Mb:Nat) < 2 ^ 63:=by rw [LY]; decide
theorem oX {x:V} {us:List Value} (r:aG [x] us):∃ u,us=[u]/\aH x u:=by
 cases r with
 | cons r1 r2=>cases r2; exact ⟨_,rfl,r1⟩
theorem Ip {x y:V} {us:List Value} (r:aG [x,y] us):∃ u w',us=[u,w']/\aH x u/\aH y w':=by
 cases r with
 | cons r1 r2=>
  cases r2 with
  | cons r3 r4=>cases r4; exact ⟨_,_,rfl,r1,r3⟩
theorem EJ (hc:X.calm=true):dI X (.builtin "max") (fun xs H Q=>∃ i j,xs=[.int i,.int j]/\Q (.int (if j > i then j else i)) H):=by
 intro pins s σ H xs us Q I r h
 obtain ⟨i,j,rfl,q⟩:=h
 obtain ⟨u,w',rfl,⟨t,rfl⟩,⟨t',rfl⟩⟩:=Ip r
 refine max_two_ints (I.ok.hd hc) fun h' tk k=>⟨_,H,I.kept k,?_,q⟩
 by_cases hj:j > i
 ·rw [if_pos hj,if_pos hj]; exact ⟨_,rfl⟩
 ·rw [if_neg hj,if_neg hj]; exact ⟨_,rfl⟩
theorem xW (hc:X.calm=true):dI X (.builtin "min") (fun xs H Q=>∃ i j,xs=[.int i,.int j]/\Q (.int (if j < i then j else i)) H):=by
 intro pins s σ H xs us Q I r h
 obtain ⟨i,j,rfl,q⟩:=h
 obtain ⟨u,w',rfl,⟨t,rfl⟩,⟨t',rfl⟩⟩:=Ip r
 refine min_two_ints (I.ok.hd hc) fun h' tk k=>⟨_,H,I.kept k,?_,q⟩
 by_cases hj:j < i
 ·rw [if_pos hj,if_pos hj]; exact ⟨_,rfl⟩
 ·rw [if_neg hj,if_neg hj]; exact ⟨_,rfl⟩
theorem xX:dI X (.type "int") (fun xs H Q=>(∃ i,xs=[.int i]/\Q (.int i) H)\/∃ k,xs=[.bl k]/\Q (.int (if k then 1 else 0)) H):=by
 intro pins s σ H xs us Q I r h
 rcases h with ⟨i,rfl,q⟩ | ⟨k,rfl,q⟩
 ·obtain ⟨u,rfl,t,rfl⟩:=oX r
  exact call_int_int ⟨.int i,H,I,⟨_,rfl⟩,q⟩
 ·obtain ⟨u,rfl,r1⟩:=oX r
  cases r1
  exact call_int_bool ⟨.int (if k then 1 else 0),H,I.tok _,⟨_,rfl⟩,q⟩
end
end L2
namespace L2
open PySem PySem.Spec PyProof.Rows
structure um (h:Heap) (x dx C:Addr) (mA:Str->Option Value):Prop where
 obj:h.get? x=some (Ox C dx)
 ns:h.Ns1 dx mA
 ne:dx≠x
theorem EK {h:Heap} {dx:Addr} {mA:Str->Option Value} (n:h.Ns1 dx mA):∃ od,h.get? dx=some od/\∀ name,QS name od=some (mA name):=by
 obtain ⟨o,es,ep,ho,hd,hk,_,hm⟩:=n
 refine ⟨o,ho,fun name=>?_⟩
 have e:=hm name
 unfold nsFind findBy at e
 rw [<-Array.find?_toList] at e
 unfold QS
 rw [hd]
 dsimp only
 split
 ·rename_i y q
  rw [q] at e
  exact congrArg some e
 ·rename_i q
  rw [q] at e
  have a:es.toList.any (·.refKey)=false:=by
   rw [TN]
   intro y hy
   obtain ⟨z,t,hkey⟩:=hk y (Array.mem_toList_iff.mp hy)
   simp [To.refKey,hkey]
  have a':¬ es.toList.any (·.refKey)=true:=by rw [a]; exact Ma
  rw [if_neg a']
  exact congrArg some e
theorem um.look {h:Heap} {x dx C:Addr} {mA:Str->Option Value} (I:um h x dx C mA):∃ od,PySem.W.InstAt h x (Ox C dx) C (some od)/\∀ name,QS name od=some (mA name):=
 let ⟨od,ho,hl⟩:=EK I.ns
 ⟨od,⟨I.obj,rfl,rfl,ho⟩,hl⟩
section
variable {prog:Program} {w:World} {A:Around} {E:Value->Shared->Prop} {s:Shared} {K:Fg} {x dx C f:Addr} {mA:Str->Option Value} {name:Str} {v:Value}
theorem IO {expr:Bool} {Q:Value->Shared->Prop} (X:K.In s.heap) (I:um s.heap x dx C mA) (hg:Qo K C name=true) (hh:Rt K C=true)
  (ha:Oe K (.ref C) name=some none) (hv:mA name=some v) (hv':Uo v=true) (h:Q v { s with toks:=s.toks + 1 }):
  wpAny (model prog w) A (getAttr (.ref x) name expr) Q E s:=by
 obtain ⟨od,J,hl⟩:=I.look
 exact PySem.W.get_value X J (QO hg).1 (PySem.W.findObj_own hh ha rfl (by rw [hl,hv])) hv' h
theorem Gn {pl:Sem Bool} {Q:Value×List Value->Shared->Prop} (X:K.In s.heap) (I:um s.heap x dx C mA) (hg:Qo K C name=true)
  (hf:Oe K (.ref C) name=some (some (.ref f))) (ht:Tp K (.ref f)=true) (hv:mA name=none) (h:Q (.ref f,[.ref x]) s):
  wpAny (model prog w) A (Tq (.ref x) name pl) Q E s:=by
 obtain ⟨od,J,hl⟩:=I.look
 exact PySem.W.method_fn X J (QO hg).1 (QO hg).2 hf (beq_iff_eq.mp ht) (by show (QS name od).map (·.isSome)=some false; rw [hl,hv]; rfl) h
theorem IP {ns:List Str} {Q:Unit->Shared->Prop} (X:K.In s.heap) (I:um s.heap x dx C mA)
  (hs:Oe K (.ref C) "__setattr__"=some (some (.builtin "object.__setattr__"))) (hp:TQ K C=true) (ht:Sb K C name=some none) (hh:Rt K C=true)
  (hw:RJ mA ns) (hsz:ns.length<=Mb)
  (h:∀ h',um h' x dx C (fun y=>if y=name then some v else mA y)->Mm dx s.heap h'->Q () { s with heap:=h',toks:=s.toks + 2 }):
  wpAny (model prog w) A (setAttr (.ref x) name v) Q E s:=by
 obtain ⟨od,J,hl⟩:=I.look
 refine PySem.W.set_plain X J hs (PySem.W.osa_open (s:={ s with toks:=s.toks + 1 }) (r:=none) X J hp ht fun b=>?_)
 obtain ⟨cd,hc,hd'⟩:=PySem.W.any_some hh
 have hx:s.heap.get? x=some ⟨.ref C,some dx,.plain,#[]⟩:=I.obj
 refine LO (LQ (LO (LO (wpAny_loadPart hx (LO (PySem.W.Looks.here (s:={ s with toks:=s.toks + 1 }) (PySem.W.looks_clsIn X hc) ?_))))))
 rw [hd']
 refine LQ (a:=some dx) (LO (LQ (LO ?_)))
 refine wpAny_nsSet1 (s:={ s with toks:=s.toks + 1 }) I.ns fun h' hn2 hs2=>?_
 obtain ⟨oD,esD,epD,hoD,hdD,hcD⟩:=hn2.count (RJ.cons name v hw)
 refine LO (wpAny_lookBehind hoD (by rw [hdD]; exact pastItsLine_dict (MD hcD (by rw [My]; omega))) ?_)
 exact LQ (h _ ⟨(hs2.2 _ (Np I.ne)).trans I.obj,hn2,I.ne⟩ hs2)
theorem Go {R:Result->Shared->Prop} {vs:List Value} {kw:List (Str×Value)} (X:K.In s.heap) (hm:UH K C=true)
  (hi:Oe K (.ref C) "__init__"=some (some (.ref f))) (hf:PySem.W.typeIn K (.ref f)=some (.type "function"))
  (h:codeAny (model prog w) (A.under (.builtin "type.__call__" ⟨.ref C :: vs,kw⟩)) (.call (.ref f) ⟨.ref (s.heap.objs.size + 1) :: vs,kw⟩) (PySem.W.InitBack (s.heap.objs.size + 1) R)
   { s with heap:=(s.heap.push N0).push (Ox C s.heap.objs.size) }):
  codeAny (model prog w) A (.call (.ref C) ⟨vs,kw⟩) R s:=by
 obtain ⟨hh,g,d,t,os⟩:=s
 exact PySem.W.make_core (PySem.W.makes_of X hm) (PySem.W.looks_findIn X hi) (fun self=>PySem.W.bind_fn X self hf) (.inl rfl) h
end
noncomputable def gD (f:Str) (v:V):List (Str×V)->List (Str×V)
 | []=>[(f,v)]
 | (g,x) :: r=>if g=f then (g,v) :: r else (g,x) :: gD f v r
theorem tP (f g:Str) (v:V):∀ fs:List (Str×V),(gD f v fs).lookup g=if g=f then some v else fs.lookup g
 | []=>by
  show Pg g [(f,v)]=_
  by_cases h:g=f
  ·have hb:(g == f)=true:=beq_iff_eq.mpr h
   simp only [Pg,hb,if_pos h]
  ·have hb:(g == f)=false:=beq_eq_false_iff_ne.mpr h
   simp only [Pg,hb,if_neg h]
 | (k,x) :: r=>by
  have ih:=tP f g v r
  rw [show gD f v ((k,x) :: r)=(if k=f then (k,v) :: r else (k,x) :: gD f v r) from rfl]
  by_cases hk:k=f
  ·rw [if_pos hk]
   by_cases h:g=k
   ·have hb:(g == k)=true:=beq_iff_eq.mpr h
    simp only [Pg,hb,if_pos (h.trans hk)]
   ·have hb:(g == k)=false:=beq_eq_false_iff_ne.mpr h
    simp only [Pg,hb,if_neg (fun e:g=f=>h (e.trans hk.symm))]
  ·rw [if_neg hk]
   by_cases h:g=k
   ·have hb:(g == k)=true:=beq_iff_eq.mpr h
    simp only [Pg,hb,if_neg (fun e:g=f=>hk (h.symm.trans e))]
   ·have hb:(g == k)=false:=beq_eq_false_iff_ne.mpr h
    simp only [Pg,hb]
    exact ih
theorem qO (f:Str) (v:V):∀ fs:List (Str×V),f∈(gD f v fs).map (·.1)/\∀ g,g∈fs.map (·.1)->g∈(gD f v fs).map (·.1)
 | []=>⟨by simp [gD],fun g h=>by simp at h⟩
 | (k,x) :: r=>by
  obtain ⟨i1,i2⟩:=qO f v r
  rw [show gD f v ((k,x) :: r)=(if k=f then (k,v) :: r else (k,x) :: gD f v r) from rfl]
  by_cases hk:k=f
  ·rw [if_pos hk]
   subst hk
   exact ⟨by simp,fun g h=>by simpa using h⟩
  ·rw [if_neg hk]
   refine ⟨?_,fun g h=>?_⟩
   ·rw [Mo]
    exact Mh _ i1
   ·rw [Mo] at h ⊢
    rcases L7.mp h with e | e
    ·exact L7.mpr (.inl e)
    ·exact Mh _ (i2 g e)
theorem tQ (f:Str) (v:V):∀ fs:List (Str×V),(gD f v fs).length<=fs.length + 1
 | []=>by simp [gD]
 | (k,x) :: r=>by
  have ih:=tQ f v r
  rw [show gD f v ((k,x) :: r)=(if k=f then (k,v) :: r else (k,x) :: gD f v r) from rfl]
  by_cases hk:k=f
  ·rw [if_pos hk,My,My]; omega
  ·rw [if_neg hk,My,My]; omega
theorem ic.some_of {v:V} {o:Option Value} (r:ic (some v) o):∃ u,o=some u/\aH v u:=by
 cases o with
 | none=>exact (show False from r).elim
 | some u=>exact ⟨u,rfl,r⟩
theorem ic.none_of {o:Option Value} (r:ic none o):o=none:=by
 cases o with
 | none=>rfl
 | some u=>exact (show False from r).elim
theorem EL {v:V} {u:Value} (r:aH v u):Uo u=true:=by
 cases v with
 | non=>cases (show u=Nq from r); rfl
 | bl b=>cases (show u=Nh b from r); rfl
 | int i=>obtain ⟨t,e⟩:=(show ∃ t,u=OW i t from r); cases e; rfl
 | str x=>obtain ⟨t,e⟩:=(show ∃ t,u=Sa x t from r); cases e; rfl
 | byt b=>obtain ⟨t,e⟩:=(show ∃ t,u=Value.bytes b t from r); cases e; rfl
 | flt b=>obtain ⟨t,e⟩:=(show ∃ t,u=Ua b t from r); cases e; rfl
 | ref a=>cases (show u=MA a from r); rfl
 | ty n=>cases (show u=Nr n from r); rfl
section
variable {P:Program} {w:World} {H H':Hp} {h h':Heap} {a C dx:Addr} {fs fs':List (Str×V)}
theorem si (hok:HOk P w H h) (e:H a=some (.ins C dx fs)):∃ mA,um h a dx C mA/\(∀ f,ic (fs.lookup f) (mA f))/\RJ mA (fs.map (·.1))/\fs.length<=1000/\H dx=some (.own a):=by
 obtain ⟨d,z,ne,ob,mA,n,r,q⟩:=(show bN P w H h a (.ins C dx fs) from hok a _ e)
 exact ⟨mA,⟨ob,n,ne⟩,r,q,z,d⟩
end
structure Cls (K:Fg) (C:Addr):Prop where
 pg:Qo K C Vb=true
 hd:Rt K C=true
 po:TQ K C=true
 sa:Oe K (.ref C) "__setattr__"=some (some (.builtin "object.__setattr__"))
theorem Cls.get {K:Fg} {C:Addr} (c:Cls K C) (f:Str):Qo K C f=true:=c.pg
noncomputable def eU (K:Fg) (C:Addr) (f:Str):Prop:=Oe K (.ref C) f=some none
theorem eU.taker {K:Fg} {C:Addr} {f:Str} (n:eU K C f):Sb K C f=some none:=by
 unfold Sb
 rw [show Oe K (.ref C) f=some none from n]
 rfl
structure CI (K:Fg) (C:Addr) (m:Str) (f:Addr):Prop where
 at_:Oe K (.ref C) m=some (some (.ref f))
 fn:Tp K (.ref f)=true
 kp:Pr K (.ref f)=true
section
variable {X:Cx} {pins:List (Addr×Obj)} {σ:St} {H:Hp} {s:Shared} {a C dx:Addr} {fs:List (Str×V)} {f:Str} {v:V} {A:Around} {E:Value->Shared->Prop}
theorem CJ {b:Bool} {Q:Value->Shared->Prop} (I:Inv X pins σ H s) (e:H a=some (.ins C dx fs)) (c:Cls X.K C) (n:eU X.K C f) (l:fs.lookup f=some v)
  (h:∀ u s',Inv X pins σ H s'->aH v u->Q u s'):wpAny (model X.prog X.w) A (getAttr (.ref a) f b) Q E s:=by
 obtain ⟨mA,O,r,_,_,_⟩:=si I.hok e
 obtain ⟨u,hu,ru⟩:=ic.some_of (v:=v) (o:=mA f) (by rw [<-l]; exact r f)
 exact IO I.kIn O (c.get f) c.hd n hu (EL ru) (h u _ (I.tok _) ru)
theorem CK {m:Str} {g:Addr} {pl:Sem Bool} {Q:Value×List Value->Shared->Prop} (I:Inv X pins σ H s) (e:H a=some (.ins C dx fs)) (c:Cls X.K C) (k:CI X.K C m g) (l:fs.lookup m=none)
  (h:Q (.ref g,[.ref a]) s):wpAny (model X.prog X.w) A (Tq (.ref a) m pl) Q E s:=by
 obtain ⟨mA,O,r,_,_,_⟩:=si I.hok e
 have hn:mA m=none:=ic.none_of (by rw [<-l]; exact r m)
 exact Gn I.kIn O (c.get m) k.at_ k.fn hn h
theorem CL {y:V} {u:Value} {Q:Unit->Shared->Prop} (I:Inv X pins σ H s) (e:H a=some (.ins C dx fs)) (c:Cls X.K C) (n:eU X.K C f) (hl:fs.length < 1000) (ry:aH y u)
  (h:∀ s',Inv X pins σ (upd H a (.ins C dx (gD f y fs))) s'->Q () s'):wpAny (model X.prog X.w) A (setAttr (.ref a) f u) Q E s:=by
 obtain ⟨mA,O,r,wi,_,ho⟩:=si I.hok e
 have hz:(fs.map (·.1)).length<=Mb:=by rw [LR,LY]; omega
 refine IP I.kIn O c.sa c.po n.taker c.hd wi hz fun h' O' sb=>h _ ?_
 have hd:∃ o,h'.get? dx=some o:=let ⟨o,_,_,e',_⟩:=O'.ns; ⟨o,e'⟩
 refine I.write (x:=a) (e:=dx) (by rw [e]; exact OF) (.inr ho) (fun b q hb z=>(sb.2 b hb).trans z) hd ?_
 refine ⟨by rw [aM O.ne]; exact ho,?_,O.ne,O'.obj,_,O'.ns,fun g=>?_,fun g hg=>?_⟩
 ·have:=tQ f y fs; omega
 ·show ic ((gD f y fs).lookup g) (if g=f then some u else mA g)
  rw [tP]
  by_cases q:g=f
  ·rw [if_pos q,if_pos q]; exact ry
  ·rw [if_neg q,if_neg q]; exact r g
 ·by_cases q:g=f
  ·rw [q]; exact (qO f y fs).1
  ·refine (qO f y fs).2 g (wi g fun z=>hg ?_)
   show (if g=f then some u else mA g)=none
   rw [if_neg q]; exact z
theorem Inv.made (I:Inv X pins σ H s):Inv X pins σ (upd (upd H s.heap.objs.size (.own (s.heap.objs.size + 1))) (s.heap.objs.size + 1) (.ins C s.heap.objs.size []))
  { s with heap:=(s.heap.push N0).push (Ox C s.heap.objs.size) }:=by
 have e1:(s.heap.push N0).get? s.heap.objs.size=some N0:=L6 s.heap rfl
 have e2:((s.heap.push N0).push (Ox C s.heap.objs.size)).get? (s.heap.objs.size + 1)=some (Ox C s.heap.objs.size):=by
  have:=L6 (s.heap.push N0) (o:=Ox C s.heap.objs.size) rfl
  rwa [MG] at this
 have e3:(s.heap.push N0).Ns s.heap.objs.size (fun _=>none):=⟨N0,#[],_,e1,rfl,(fun e he=>absurd he (by simp)),fun _=>rfl⟩
 have I1:=I.laid (a:=s.heap.objs.size) (o:=.own (s.heap.objs.size + 1)) (h':=s.heap.push N0) (t':=s.toks) (fun b u q=>LP _ q) (LV _) ⟨_,e1⟩
 refine I1.laid (a:=s.heap.objs.size + 1) (o:=.ins C s.heap.objs.size []) (t':=s.toks) (fun b u q=>LP _ q) (OZ (MG _ _)) ?_
 have ne:s.heap.objs.size≠s.heap.objs.size + 1:=MC (Nv _)
 refine ⟨by rw [aM ne,az],M7 _,ne,e2,fun _=>none,(Heap.Ns1.of_empty e3).at fun o q=>LP _ q,fun _=>OF,fun y hy=>absurd rfl hy⟩
theorem IQ {prog:Program} {w:World} {env:Env} {e:Expr} {f:Str} {pos:Pos} {s:Shared} {Q:Value->Shared->Prop} (hb:O8 e f env (eval e env)=eval e env)
  (h:wpAny (model prog w) A (eval e env) (fun o s₁=>wpAny (model prog w) A (getAttr o f true) Q E s₁) E s):wpAny (model prog w) A (eval (.Attribute e f pos) env) Q E s:=
 Attribute_any_ h (by rw [arm_eval_Attribute,hb])
end
noncomputable def eM (K:Fg) (ta:TE) (f:Str):TE:=fun σ H Q=>ta σ H fun x H1=>∃ a C dx fs v,x=.ref a/\H1 a=some (.ins C dx fs)/\Cls K C/\eU K C f/\fs.lookup f=some v/\Q v H1
noncomputable def qP (K:Fg) (ta tv:TE) (f:Str):TS:=fun D σ H=>tv σ H fun y H1=>ta σ H1 fun x H2=>∃ a C dx fs,x=.ref a/\H2 a=some (.ins C dx fs)/\Cls K C/\eU K C f/\fs.length < 1000/\
 D.nx σ (upd H2 a (.ins C dx (gD f y fs)))
section
variable {X:Cx} {o e value:Expr} {f:Str} {pos pos' tpos:Pos} {ta tv:TE}
theorem cJ (he:PE X e ta) (hb:O8 e f X.env (eval e X.env)=eval e X.env):PE X (.Attribute e f pos) (eM X.K ta f):=by
 intro pins s σ H Q I h
 refine IQ hb (thn (he pins s σ H _ I h) fun u s1 ⟨x,H1,I1,rx,a,C,dx,fs,v,ex,ea,c,n,l,q⟩=>?_)
 subst ex
 obtain rfl:u=MA a:=rx
 exact CJ I1 ea c n l fun u' s2 I2 ru=>⟨v,H1,I2,ru,q⟩
theorem nY (ha:PE X o ta) (hv:PE X value tv) (hs:Tj value (some (.Attribute o f pos')) pos.line X.env=pure false):PS X (.Assign [.Attribute o f pos'] value pos) (qP X.K ta tv f):=by
 intro pins s σ H D I h
 refine plainObj_wpAny_Assign_Attribute (thn (hv pins s σ H _ I h) fun u s1 ⟨y,H1,I1,ry,q⟩=>thn (ha pins s1 σ H1 _ I1 q) fun ov s2 ⟨x,H2,I2,rx,a,C,dx,fs,ex,ea,c,n,l,q2⟩=>?_) hs
 subst ex
 obtain rfl:ov=MA a:=rx
 exact CL I2 ea c n l ry fun s3 I3=>⟨σ,_,I3,q2⟩
end
section
variable {X:Cx} {pins:List (Addr×Obj)} {σ:St} {H:Hp} {s:Shared} {A:Around} {E:Value->Shared->Prop} {Q:Value->Shared->Prop} {c:Value} {b:Bool}
inductive eN (K:Fg) (H:Hp):V->Value->Prop where
 | non:eN K H .non (.type "NoneType")
 | bl (x:Bool):eN K H (.bl x) (.type "bool")
 | int (i:Int):eN K H (.int i) (.type "int")
 | str (x:Str):eN K H (.str x) (.type "str")
 | flt (x:UInt64):eN K H (.flt x) (.type "float")
 | lst {a:Addr} {xs:List V} (e:H a=some (.lst xs)):eN K H (.ref a) (.type "list")
 | frz {a:Addr} {o:Obj} {xs:List V} (e:H a=some (.frz o (.lst xs))):eN K H (.ref a) (.type "list")
 | tup {a:Addr} {xs:List V} (e:H a=some (.tup xs)):eN K H (.ref a) (.type "tuple")
 | dK {a:Addr} {kvs:List (Key×V)} (e:H a=some (.dK kvs)):eN K H (.ref a) (.type "dict")
 | dT {a:Addr} {kvs:List (List Key×V)} (e:H a=some (.dT kvs)):eN K H (.ref a) (.type "dict")
 | ins {a C dx:Addr} {fs:List (Str×V)} (e:H a=some (.ins C dx fs)) (cl:Cls K C) (ha:Oe K (.ref C) "__class__"=some (some (.builtin "object.__class__")))
   (hn:PySem.W.specialIn K (.builtin "object.__class__") "__get__"=some (some (.builtin "getset_descriptor.__get__"))) (htk:PySem.W.takesIn K (.builtin "object.__class__")=some true)
   (hm:PySem.W.mroIn K C (.type "object")=some true):eN K H (.ref a) (.ref C)
theorem EM {x:V} {u t:Value} (I:Inv X pins σ H s) (rx:aH x u) (ty:eN X.K H x t) (e:M1 X.K t c=some b) (h:∀ tk,Q (.bool b) { s with toks:=tk }):
  wpAny (model X.prog X.w) A (call (.builtin "isinstance") [u,c]) Q E s:=by
 cases ty with
 | non=>cases (show u=Nq from rx); exact NS PySem.W.kitx_none I.kIn OF e (fun z=>nomatch z) h
 | bl y=>cases (show u=Nh y from rx); exact NS PySem.W.kitx_bool I.kIn OF e (fun z=>nomatch z) h
 | int i=>obtain ⟨t,q⟩:=(show ∃ t,u=OW i t from rx); cases q; exact NS PySem.W.kitx_int I.kIn OF e (fun z=>nomatch z) h
 | str y=>obtain ⟨t,q⟩:=(show ∃ t,u=Sa y t from rx); cases q; exact NS PySem.W.kitx_str I.kIn OF e (fun z=>nomatch z) h
 | flt y=>obtain ⟨t,q⟩:=(show ∃ t,u=Ua y t from rx); cases q; exact NS PySem.W.kitx_float I.kIn OF e (fun z=>nomatch z) h
 | @lst a xs ea=>
  cases (show u=MA a from rx)
  obtain ⟨_,_,n,_,h1⟩:=(show bN X.prog X.w H s.heap a (.lst xs) from I.hok a _ ea)
  exact NS TU I.kIn ⟨_,h1,rfl⟩ e (fun z=>nomatch z) h
 | @frz a ob xs ea=>
  cases (show u=MA a from rx)
  obtain ⟨_,_,_,n,_,h1⟩:=(show bN X.prog X.w H s.heap a (.frz ob (.lst xs)) from I.hok a _ ea)
  exact NS TU I.kIn ⟨_,h1,rfl⟩ e (fun z=>nomatch z) h
 | @tup a xs ea=>
  cases (show u=MA a from rx)
  obtain ⟨_,_,_,p⟩:=(show bN X.prog X.w H s.heap a (.tup xs) from I.hok a _ ea)
  obtain ⟨o,h1,h2,_⟩:=p
  exact NS PySem.W.kitx_tuple I.kIn ⟨o,h1,h2⟩ e (fun z=>nomatch z) h
 | @dK a kvs ea=>
  cases (show u=MA a from rx)
  obtain ⟨_,_,vs,_,p⟩:=(show bN X.prog X.w H s.heap a (.dK kvs) from I.hok a _ ea)
  obtain ⟨o,es,ep,h1,h2,_⟩:=p
  exact NS TV I.kIn ⟨o,h1,h2.1⟩ e (fun z=>nomatch z) h
 | @dT a kvs ea=>
  cases (show u=MA a from rx)
  obtain ⟨_,_,xs,_,o,es,ep,h1,h2,_⟩:=(show bN X.prog X.w H s.heap a (.dT kvs) from I.hok a _ ea)
  exact NS TV I.kIn ⟨o,h1,h2.1⟩ e (fun z=>nomatch z) h
 | @ins a C dx fs ea cl ha hn htk hm=>
  cases (show u=MA a from rx)
  obtain ⟨mA,O,_⟩:=si I.hok ea
  obtain ⟨od,J,_⟩:=O.look
  exact NS (PySem.W.kitx_own (cl.get _) cl.hd ha hn htk hm) I.kIn J e (fun z=>nomatch z) h
end
end L2
namespace L2
open PySem PySem.Spec PyProof.Rows
structure cj (k:Nat) (A:Around):Prop where
 hd:A.handled=none
 dp:A.depth + 3 * k + 5 < recursionLimit
 un:A.units + 16 * k + 200 < cLine
theorem cj.mono {j k:Nat} {A:Around} (r:cj k A) (h:j<=k):cj j A:=⟨r.hd,by have:=r.dp; omega,by have:=r.un; omega⟩
theorem cj.deeper {k:Nat} {A:Around} (r:cj (k + 1) A) (env:Env):cj k (A.deeper env):=
 ⟨r.hd,by have:=r.dp; show A.depth + 1 + 3 * k + 5 < _; omega,by have:=r.un; show A.units + 3 + 16 * k + 200 < _; omega⟩
theorem CM {A:Around} {C:Addr} {us:List Value} {kw:List (Str×Value)}:(A.under (.builtin "type.__call__" ⟨.ref C :: us,kw⟩)).depth=A.depth + 1:=by
 first | rfl | simp [Tr,Code.weight,Code.isCreation,Code.isGuard,Code.isCaller,Code.frames,Ts,guardIds]
theorem CN {A:Around} {C:Addr} {us:List Value} {kw:List (Str×Value)}:(A.under (.builtin "type.__call__" ⟨.ref C :: us,kw⟩)).units=A.units + 1:=by
 first | rfl | simp [Tr,Code.cUnits,Code.frames,Ts]
theorem cj.make {k:Nat} {A:Around} (r:cj (k + 1) A) (C:Addr) (us:List Value) (kw:List (Str×Value)):cj k (A.under (.builtin "type.__call__" ⟨.ref C :: us,kw⟩)):=
 ⟨r.hd,by have:=r.dp; rw [CM]; omega,by have:=r.un; rw [CN]; omega⟩
theorem cj.depth {k:Nat} {A:Around} (r:cj k A):A.depth < recursionLimit:=by have:=r.dp; omega
theorem cj.units0 {k:Nat} {A:Around} (r:cj k A):A.units < cLine:=by have:=r.un; omega
noncomputable def ag:TA:=fun _ H Q=>Q [] H
noncomputable def aa (ta:TE) (tr:TA):TA:=fun σ H Q=>ta σ H fun x H1=>tr σ H1 fun xs H2=>Q (x :: xs) H2
section
variable {X:Cx} {e:Expr} {es:List Expr} {te:TE} {t:TA} {pos:Pos}
theorem af:PA X [] ag:=fun _ _ _ _ H Q I h=>Ru ⟨[],H,I,.nil,h⟩
theorem gR (ha:PE X e te) (hr:PA X es t) (hs:Mp (e :: es) X.env=(false,eval e X.env) :: Mp es X.env:=by rfl):PA X (e :: es) (aa te t):=by
 intro pos pins s σ H Q I h
 rw [hs]
 show wpAny _ _ (spliced ((false,eval e X.env) :: backTo pos (Mp es X.env))) _ _ s
 refine Q4 (thn (ha pins s σ H _ I h) fun u s1 ⟨x,H1,I1,r1,q1⟩=>?_)
 exact thn (hr pos pins s1 σ H1 _ I1 q1) fun us s2 ⟨xs,H2,I2,r2,q2⟩=>⟨x :: xs,H2,I2,.cons r1 r2,q2⟩
noncomputable def Gp (t:TA):TE:=fun σ H Q=>t σ H fun xs H1=>xs.length<=Mb/\∀ p,H1 p=none->Q (.ref p) (upd H1 p (.tup xs))
noncomputable def CO (t:TA):TE:=fun σ H Q=>t σ H fun xs H1=>xs.length<=Mb/\∀ p,H1 p=none->Q (.ref p) (upd H1 p (.lst xs))
theorem EN {x1} (h:PA X es t):PE X (.Tuple es x1 pos) (Gp t):=by
 intro pins s σ H Q I hq
 refine S7 (thn (h pos pins s σ H _ I hq) fun us s1 ⟨xs,H1,I1,r,z,q⟩=>⟨by rw [<-r.length]; exact z,?_⟩)
 have hf:H1 s1.heap.objs.size=none:=I1.hok.fresh (LV _)
 refine ⟨.ref s1.heap.objs.size,upd H1 s1.heap.objs.size (.tup xs),I1.laid (t':=s1.toks) (fun b u e=>LP _ e) (LV _) ?_,rfl,q _ hf⟩
 exact ⟨z,us,r,fW.new _ _⟩
theorem zJ (h:PA X es t):PE X (.List es pos) (CO t):=by
 intro pins s σ H Q I hq
 refine Tu (thn (h pos pins s σ H _ I hq) fun us s1 ⟨xs,H1,I1,r,z,q⟩=>⟨by rw [<-r.length]; exact z,?_⟩)
 have hf:H1 s1.heap.objs.size=none:=I1.hok.fresh (LV _)
 refine ⟨.ref s1.heap.objs.size,upd H1 s1.heap.objs.size (.lst xs),I1.laid (t':=s1.toks) (fun b u e=>LP _ e) (LV _) ?_,rfl,q _ hf⟩
 exact ⟨z,us,0,r,L6 _ rfl⟩
end
noncomputable abbrev Sp:=List V->Hp->VK->XK->Prop
noncomputable abbrev CXT:=List Env->Hp->Shared->XK->Value->Shared->Prop
structure uo (P:Program) (w:World) (K:Fg) (mg:Str->Option Value) (base:Heap) (A:Around) (outer:List Env) (s:Shared) (H:Hp):Prop where
 frames:A.frames=some outer
 mod:Mod K mg base
 bs:∀ b o,base.get? b=some o->s.heap.get? b=some o/\H b=none
 bsz:base.objs.size<=s.heap.objs.size
 funs:s.heap.FunFrames base outer
 frf:∀ b∈frs outer,H b=none
 hok:HOk P w H s.heap
 bare:AllBare s.gens
noncomputable def CE (outer:List Env) (P:Program) (w:World) (H:Hp) (s:Shared) (Q:VK) (u:Value) (s':Shared):Prop:=
 ∃ v H',s'.os=s.os/\AllBare s'.gens/\Un (frs outer) [] H H' s.heap s'.heap/\HOk P w H' s'.heap/\aH v u/\Q v H'
noncomputable def CR (CX:CXT) (outer:List Env) (P:Program) (w:World) (H:Hp) (s:Shared) (Q:VK) (E:XK) (r:Result) (s':Shared):Prop:=
 match r with
 | .ok (.ret u)=>CE outer P w H s Q u s'
 | .ok _=>False
 | .error e=>CX outer H s E e s'
structure iM (P:Program) (w:World) (K:Fg) (mg:Str->Option Value) (base:Heap) (CX:CXT) (k:Nat) (f:Addr) (fd:Mi) (ps:List Str) (sp:Sp):Prop where
 len:∀ vs H Q E,sp vs H Q E->vs.length=ps.length
 run:∀ (A:Around) (outer:List Env) (s:Shared) (H:Hp) (args:Args) (us:List Value) (vs:List V) (Q:VK) (E:XK),cj k A->uo P w K mg base A outer s H->BindsTo s fd args (ps.zip us)->aG vs us->sp vs H Q E->
  codeAny (model P w) A (.call (.ref f) args) (CR CX outer P w H s Q E) s
theorem uo.make {P:Program} {w:World} {K:Fg} {mg:Str->Option Value} {base:Heap} {A:Around} {outer:List Env} {s:Shared} {H:Hp} (e:uo P w K mg base A outer s H) (C:Addr) (us:List Value) (kw:List (Str×Value)):
  uo P w K mg base (A.under (.builtin "type.__call__" ⟨.ref C :: us,kw⟩)) outer s H:=⟨by first | exact e.frames | (simpa [Tr,Code.envs,Ts,pushEnvs] using e.frames),e.mod,e.bs,e.bsz,e.funs,e.frf,e.hok,e.bare⟩
section
variable {X:Cx} {pins:List (Addr×Obj)} {σ:St} {H:Hp} {s s':Shared}
theorem Inv.env0 (I:Inv X pins σ H s):uo X.prog X.w X.K X.mg X.base X.A X.stack s H:=
 ⟨I.ok.frames,I.ok.mod,I.bs,MD I.ok.bsz I.sz,I.stack,I.stkFree,I.hok,I.bare⟩
theorem Inv.after {Q:VK} {u:Value} (I:Inv X pins σ H s) (h:CE X.stack X.prog X.w H s Q u s'):EP X pins σ Q u s':=by
 obtain ⟨v,H',os,bare,un,hok,r,q⟩:=h
 obtain ⟨hh,g,d,t,os'⟩:=s'
 obtain rfl:os'=s.os:=os
 exact ⟨v,H',I.call (h':=hh) (g':=g) (d':=d) (t':=t) (ch:=[]) un hok bare (fun b z=>absurd z (by simp)),r,q⟩
end
noncomputable def au (sp:Sp) (dvs:List V) (E:XK) (t:TA):TE:=fun σ H Q=>t σ H fun vs H1=>sp (vs++dvs) H1 Q E
noncomputable def jU (C:Addr) (m:Str) (sp:Sp) (dvs:List V) (E:XK) (ta:TE) (t:TA):TE:=fun σ H Q=>ta σ H fun x H1=>∃ a dx fs,x=.ref a/\H1 a=some (.ins C dx fs)/\fs.lookup m=none/\
 t σ H1 fun vs H2=>sp (x :: (vs++dvs)) H2 Q E
noncomputable def zp (C:Addr) (sp:Sp) (dvs:List V) (E:XK) (t:TA):TE:=fun σ H Q=>t σ H fun vs H1=>∀ x dx,H1 x=none->H1 dx=none->dx≠x->
 sp (.ref x :: (vs++dvs)) (upd (upd H1 dx (.own x)) x (.ins C dx [])) (fun v H2=>v=.non/\Q (.ref x) H2) E
noncomputable def gr (K:Fg) (fd:Mi) (ps:List Str) (ds:List Value):Prop:=
 ∀ (s:Shared) (us:List Value),K.In s.heap->(us++ds).length=ps.length->BindsTo s fd ⟨us,[]⟩ (ps.zip (us++ds))
theorem gr.all {K:Fg} {fd:Mi} {ps:List Str} (h:∀ us:List Value,us.length=ps.length->bindArgs fd ⟨us,[]⟩=pure (ps.zip us)):gr K fd ps []:=fun s us _ hl=>by
 rw [Nm] at hl ⊢
 exact .of_eq (h us hl)
noncomputable def nZ (CX:CXT) (X:Cx) (E:XK):Prop:=∀ (pins:List (Addr×Obj)) (σ:St) (H:Hp) (s:Shared) (e:Value) (s':Shared),Inv X pins σ H s->CX X.stack H s E e s'->X.xe e s'
section
variable {X:Cx} {CX:CXT} {k:Nat} {f C:Addr} {fd:Mi} {ps:List Str} {sp:Sp} {dvs:List V} {ds:List Value} {E:XK} {x m:Str} {p pos apos:Pos} {e o:Expr} {es:List Expr} {ta:TE} {t:TA}
theorem EO {pins:List (Addr×Obj)} {σ:St} {H:Hp} {s:Shared} {Q:VK} {us:List Value} {vs:List V} (F:iM X.prog X.w X.K X.mg X.base CX k f fd ps sp) (hr:cj k X.A) (hb:gr X.K fd ps ds) (hd:aG dvs ds) (hx:nZ CX X E)
  (I:Inv X pins σ H s) (r:aG vs us) (h:sp (vs++dvs) H Q E):wpAny (model X.prog X.w) X.A (call (.ref f) us) (EP X pins σ Q) X.xe s:=by
 have r2:aG (vs++dvs) (us++ds):=r.append hd
 have hl:(us++ds).length=ps.length:=by rw [<-r2.length]; exact F.len _ _ _ _ h
 refine UI (Pt (F.run X.A X.stack s H ⟨us,[]⟩ (us++ds) (vs++dvs) Q E hr I.env0 (hb s us I.kIn hl) r2 h) fun r s' hq=>?_)
 cases r with
 | error e=>exact hx pins σ H s e s' I hq
 | ok fl=>
  cases fl with
  | ret u=>exact I.after hq
  | next=>exact N2 hq
  | brk=>exact N2 hq
  | cont=>exact N2 hq
theorem IR (F:iM X.prog X.w X.K X.mg X.base CX k f fd ps sp) (hr:cj k X.A) (hg:Gl X x) (hm:X.mg x=some (.ref f)) (hk:Pr X.K (.ref f)=true) (hb:gr X.K fd ps ds) (hd:aG dvs ds) (hx:nZ CX X E)
  (ha:PA X (e :: es) t) (hdb:(x == ("__debug__":Str))=false:=by decide) (he:Mp (e :: es) X.env=(false,eval e X.env) :: Mp es X.env:=by rfl) (hpl:(backTo pos (Mp es X.env)).any (·.1)=false:=by rfl):
  PE X (.Call (.Name x p) (e :: es) [] pos) (au sp dvs E t):=by
 intro pins s σ H Q I h
 refine N7 (wV I hg hm ?_ hdb)
 refine Q5 (h₀:=X.base) I.ok.mod.kin hk (thn (ha pos pins s σ H _ I h) fun us s1 ⟨vs,H1,I1,r,q⟩=>⟨I1.kIn,?_⟩) he hpl
 exact EO F hr hb hd hx I1 r q
theorem IS {pl:Sem Bool} (he:PE X o ta) (c:Cls X.K C) (hm:CI X.K C m f) (F:iM X.prog X.w X.K X.mg X.base CX k f fd ps sp) (hr:cj k X.A) (hb:gr X.K fd ps ds) (hd:aG dvs ds) (hx:nZ CX X E) (ha:PA X (e :: es) t)
  (hst:Mp (e :: es) X.env=(false,eval e X.env) :: Mp es X.env:=by rfl) (hpl:(backTo pos (Mp es X.env)).any (·.1)=false:=by rfl)
  (ht:eval (.Call (.Attribute o m apos) (e :: es) [] pos) X.env=(do
   let ov <-eval o X.env
   standAt apos.atName
   let (f,first) <-holding [ov] (Tq ov m pl)
   callWith pos f first (backTo pos (Mp (e :: es) X.env)) (Qp pos (Ph [] X.env))):=by rfl):
  PE X (.Call (.Attribute o m apos) (e :: es) [] pos) (jU C m sp dvs E ta t):=by
 intro pins s σ H Q I h
 refine PySem.W.methodCall_KW (pl:=pl) (thn (he pins s σ H _ I h) fun u s1 ⟨x,H1,I1,rx,a,dx,fs,ex,ea,l,q⟩=>?_) ht
 subst ex
 obtain rfl:u=MA a:=rx
 refine CK I1 ea c hm l ?_
 refine Q5 (first:=[.ref a]) (h₀:=X.base) I.ok.mod.kin hm.kp (thn (ha pos pins s1 σ H1 _ I1 q) fun us s2 ⟨vs,H2,I2,r,q2⟩=>⟨I2.kIn,?_⟩) hst hpl
 exact EO (us:=.ref a :: us) (vs:=.ref a :: vs) F hr hb hd hx I2 (.cons rfl r) q2
structure Mk (K:Fg) (C f:Addr):Prop where
 makes:UH K C=true
 init:Oe K (.ref C) "__init__"=some (some (.ref f))
 fn:Tp K (.ref f)=true
 kp:Pr K (.ref C)=true
theorem Gq {pins:List (Addr×Obj)} {σ:St} {H:Hp} {s:Shared} {Q:VK} {us:List Value} {vs:List V} (M:Mk X.K C f) (F:iM X.prog X.w X.K X.mg X.base CX k f fd ps sp) (hr:cj (k + 1) X.A) (hb:gr X.K fd ps ds) (hd:aG dvs ds)
  (hx:nZ CX X E) (I:Inv X pins σ H s) (r:aG vs us)
  (h:∀ x dx,H x=none->H dx=none->dx≠x->sp (.ref x :: (vs++dvs)) (upd (upd H dx (.own x)) x (.ins C dx [])) (fun v H2=>v=.non/\Q (.ref x) H2) E):
  wpAny (model X.prog X.w) X.A (call (.ref C) us) (EP X pins σ Q) X.xe s:=by
 have hq:=h (s.heap.objs.size + 1) s.heap.objs.size (I.hok.fresh (OG _)) (I.hok.fresh (LV _)) (MC (Nv _))
 have I2:=Inv.made (C:=C) I
 have r2:aG (V.ref (s.heap.objs.size + 1) :: (vs++dvs)) (MA (s.heap.objs.size + 1) :: (us++ds)):=.cons rfl (r.append hd)
 have hl:(MA (s.heap.objs.size + 1) :: us++ds).length=ps.length:=by
  have e:=r2.length
  rw [F.len _ _ _ _ hq] at e
  exact e.symm
 refine UI (Go (f:=f) I.kIn M.makes M.init (beq_iff_eq.mp M.fn) (Pt (F.run _ X.stack _ _ ⟨MA (s.heap.objs.size + 1) :: us,[]⟩ (MA (s.heap.objs.size + 1) :: (us++ds)) _ _ E (hr.make C us [])
  (I2.env0.make C us []) (hb _ (MA (s.heap.objs.size + 1) :: us) I2.kIn hl) r2 hq) fun r s' hq'=>?_))
 cases r with
 | error e=>exact hx pins σ _ _ e s' I2 hq'
 | ok fl=>
  cases fl with
  | ret u=>
   obtain ⟨v,H',I3,rv,ev,q3⟩:=I2.after hq'
   subst ev
   exact ⟨rv,⟨V.ref (s.heap.objs.size + 1),H',I3,rfl,q3⟩⟩
  | next=>exact N2 hq'
  | brk=>exact N2 hq'
  | cont=>exact N2 hq'
theorem IT (M:Mk X.K C f) (F:iM X.prog X.w X.K X.mg X.base CX k f fd ps sp) (hr:cj (k + 1) X.A) (hg:Gl X x) (hm:X.mg x=some (.ref C)) (hb:gr X.K fd ps ds) (hd:aG dvs ds) (hx:nZ CX X E)
  (ha:PA X (e :: es) t) (hdb:(x == ("__debug__":Str))=false:=by decide) (he:Mp (e :: es) X.env=(false,eval e X.env) :: Mp es X.env:=by rfl) (hpl:(backTo pos (Mp es X.env)).any (·.1)=false:=by rfl):
  PE X (.Call (.Name x p) (e :: es) [] pos) (zp C sp dvs E t):=by
 intro pins s σ H Q I h
 refine N7 (wV I hg hm ?_ hdb)
 refine Q5 (h₀:=X.base) I.ok.mod.kin M.kp (thn (ha pos pins s σ H _ I h) fun us s1 ⟨vs,H1,I1,r,q⟩=>⟨I1.kIn,?_⟩) he hpl
 exact Gq M F hr hb hd hx I1 r q
end
noncomputable def PK (X:Cx) (kws:List Keyword) (t:TA):Prop:=
 ∀ (pos:Pos) (pins:List (Addr×Obj)) (s:Shared) (σ:St) (H:Hp) (Q:List V->Hp->Prop),Inv X pins σ H s->t σ H Q->wpAny (model X.prog X.w) X.A (evalAll ((Qp pos (Ph kws X.env)).map (·.2))) (AP X pins σ Q) X.xe s
section
variable {X:Cx} {CX:CXT} {k:Nat} {f C:Addr} {fd:Mi} {ps ks:List Str} {sp:Sp} {E:XK} {x m:Str} {p pos apos kpos:Pos} {e o:Expr} {es:List Expr} {kws:List Keyword} {te ta:TE} {t tk:TA} {nm:Option Str}
theorem J9:PK X [] ag:=fun _ _ _ _ H Q I h=>wpAny_evalAll_nil ⟨[],H,I,.nil,h⟩
theorem IU (ha:PE X e te) (hr:PK X kws t):PK X (⟨nm,e,kpos⟩ :: kws) (aa te t):=by
 intro pos pins s σ H Q I h
 show wpAny _ _ (evalAll ((do let v <-eval e X.env; standAt pos; pure v) :: (Qp pos (Ph kws X.env)).map (·.2))) _ _ s
 refine wpAny_evalAll_cons (LO (thn (ha pins s σ H _ I h) fun u s1 ⟨x,H1,I1,r1,q1⟩=>LO (Rh (LQ ?_))))
 exact thn (hr pos pins s1 σ H1 _ I1 q1) fun us s2 ⟨xs,H2,I2,r2,q2⟩=>⟨x :: xs,H2,I2,.cons r1 r2,q2⟩
variable {g:List Value->List Value->List Value} {gV:List V->List V->List V}
end
structure aD (N P:List Str) (sc:Scope):Prop where
 kind:sc.kind=.function
 co:sc.isCoroutine=false
 gen:sc.isGenerator=false
 nd:N.Nodup
 pre:N.take P.length=P
 par:∀ x∈P,sc.names.lookup x=some .local\/sc.names.lookup x=some .cell
 nofree:∀ y∈sc.names,y.2≠.free
theorem xY {kindOf:Str->Option MQ} {x:Str}:∀ {binds:List (Str×Value)} {m:Str->Option Value},(∀ v,(x,v)∉binds)->bindL kindOf binds m x=m x
 | [],_,_=>rfl
 | (n,v) :: r,m,h=>by
  unfold bindL
  rw [xY fun w hw=>h w (Mh _ hw)]
  split
  ·have:x≠n:=by rintro rfl; exact h v Mc
   simp [this]
  ·rfl
theorem xZ {kindOf:Str->Option MQ} {x:Str}:∀ {binds:List (Str×Value)} {m:Str->Option Value},(∀ v,(x,v)∉binds)->bindC kindOf binds m x=m x
 | [],_,_=>rfl
 | (n,v) :: r,m,h=>by
  unfold bindC
  rw [xZ fun w hw=>h w (Mh _ hw)]
  split
  ·rfl
  ·have:x≠n:=by rintro rfl; exact h v Mc
   simp [this]
theorem ya {kindOf:Str->Option MQ} {x:Str} {v:Value}:∀ {P:List Str} {vs:List Value} {i:Nat} {m:Str->Option Value},P.Nodup->P[i]?=some x->vs[i]?=some v->kindOf x=some .local->
  bindL kindOf (P.zip vs) m x=some v
 | [],_,_,_,_,h,_,_=>by simp at h
 | _ :: _,[],_,_,_,_,h,_=>by simp at h
 | p :: P,w :: vs,0,m,nd,h1,h2,hk=>by
  simp at h1 h2; subst h1; subst h2
  show bindL kindOf ((p,w) :: P.zip vs) m p=_
  unfold bindL
  rw [xY fun v hv=>(N3.mp nd).1 (Sd hv).1,if_pos hk]
  simp
 | p :: P,w :: vs,i + 1,m,nd,h1,h2,hk=>by
  show bindL kindOf ((p,w) :: P.zip vs) m x=_
  unfold bindL
  exact ya (i:=i) (N3.mp nd).2 (by simpa using h1) (by simpa using h2) hk
theorem yb {kindOf:Str->Option MQ} {x:Str} {v:Value}:∀ {P:List Str} {vs:List Value} {i:Nat} {m:Str->Option Value},P.Nodup->P[i]?=some x->vs[i]?=some v->kindOf x≠some .local->
  bindC kindOf (P.zip vs) m x=some v
 | [],_,_,_,_,h,_,_=>by simp at h
 | _ :: _,[],_,_,_,_,h,_=>by simp at h
 | p :: P,w :: vs,0,m,nd,h1,h2,hk=>by
  simp at h1 h2; subst h1; subst h2
  show bindC kindOf ((p,w) :: P.zip vs) m p=_
  unfold bindC
  rw [xZ fun v hv=>(N3.mp nd).1 (Sd hv).1,if_neg hk]
  simp
 | p :: P,w :: vs,i + 1,m,nd,h1,h2,hk=>by
  show bindC kindOf ((p,w) :: P.zip vs) m x=_
  unfold bindC
  exact yb (i:=i) (N3.mp nd).2 (by simpa using h1) (by simpa using h2) hk
noncomputable def start (N:List Str) (vs:List V):St:=vs.map some++MI (N.length - vs.length) none
noncomputable def oY (CX:CXT) (P:Program) (w:World) (K:Fg) (mg:Str->Option Value) (base:Heap) (N:List Str) (qual:Str) (scope:Scope) (f:Addr) (cd:Value) (A:Around) (outer:List Env) (s:Shared) (H:Hp) (E:XK):Cx where
 prog:=P
 w:=w
 K:=K
 mg:=mg
 base:=base
 A:=A.deeper (envOfC qual scope s.heap.objs.size f cd)
 N:=N
 s₀:=s
 H₀:=H
 env:=envOfC qual scope s.heap.objs.size f cd
 outer:=outer
 stack:=envOfC qual scope s.heap.objs.size f cd :: outer
 ex:=[]
 calm:=true
 fn:=fun _=>true
 pn:=[]
 xe:=fun e s'=>wpAny (model P w) (A.deeper (envOfC qual scope s.heap.objs.size f cd)) («leaving» (envOfC qual scope s.heap.objs.size f cd) e) (fun _ s''=>CX outer H s E e s'') (fun e' s''=>CX outer H s E e' s'') s'
theorem zK {sc:Scope} {n:Nat} {x:Str} (h:sc.names.lookup x=some .cell):∃ c,(Se n sc.names []).lookup x=some c:=by
 have q:=So sc.names n [] (.inl h)
 exact RK.mp q
theorem EQ {CX:CXT} {P:Program} {w:World} {K:Fg} {mg:Str->Option Value} {base:Heap} {N ps:List Str} {qual:Str} {scope:Scope} {f:Addr} {cd:Value} {A:Around} {outer:List Env} {s s1:Shared} {H:Hp} {E:XK} {us:List Value} {vs:List V}
  (S:aD N ps scope) (hd:A.handled=none) (e0:uo P w K mg base A outer s H) (hl:vs.length=ps.length) (r:aG vs us)
  (x:InCallC s s.heap.objs.size (bindL (envOfC qual scope s.heap.objs.size f cd).kindOf (ps.zip us) fun _=>none) (Se (s.heap.objs.size + 1) scope.names []) (bindC (envOfC qual scope s.heap.objs.size f cd).kindOf (ps.zip us) fun _=>none) s1):
  Inv (oY CX P w K mg base N qual scope f cd A outer s H E) [] (start N vs) H s1:=by
 have hpl:ps.length<=N.length:=by have:=congrArg Ub S.pre; rw [NL] at this; omega
 obtain ⟨h1,tk,rfl,hk⟩:=x.done
 have noA:∀ b:Addr,b∉(oY CX P w K mg base N qual scope f cd A outer s H E).ex:=fun b z=>absurd (show b∈([]:List Addr) from z) (by simp)
 refine ⟨⟨e0.mod,S.kind,rfl,rfl,LV _,fun y z c h1 h2=>?_,fun y hy=>?_,fun y c _ h=>?_,fun _=>hd,Around.frames_deeper e0.frames,.inr ⟨rfl,rfl⟩,fun b z=>absurd z (noA b),e0.bs,e0.bsz,fun b _ _=>noA b,fun b z=>absurd z (noA b),e0.funs,e0.frf⟩,
  rfl,e0.bare,Un.kept hk,⟨_,x.toInCall.ns,fun i y v h1 h2 h3=>?_⟩,fun y c h=>⟨_,x.cell y c h⟩,e0.hok.fresh (LV _),fun y c h=>?_,fun p hp=>absurd (show p∈([]:List (Addr×Obj)) from hp) (by simp),e0.hok.kept hk,?_⟩
 ·exact name_of_addr x.apart (MJ h1) (MJ h2)
 ·have hy:scope.names.lookup y=some .cell\/scope.names.lookup y=some .free:=hy
  rcases hy with hy | hy
  ·exact zK hy
  ·exact absurd rfl (S.nofree _ (MJ hy))
 ·exact M8 (x.above y c (MJ h))
 ·have hi:i < vs.length:=by
   unfold start at h2
   by_cases hi:i < vs.length
   ·exact hi
   ·rw [PD (by simpa using hi)] at h2
    rw [List.getElem?_replicate] at h2
    split at h2 <;> cases h2
  have ha:vs[i]?=some v:=by
   unfold start at h2
   rw [OU (by simpa using hi),LX] at h2
   cases e:vs[i]? with
   | none=>rw [e] at h2; cases h2
   | some a=>rw [e] at h2; cases h2; rfl
  obtain ⟨u,hu,rv⟩:=r.get ha
  have hp:ps[i]?=some y:=by
   rw [<-S.pre,PU (by omega)]; exact h1
  have ndP:ps.Nodup:=by rw [<-S.pre]; exact S.nd.sublist (List.take_sublist _ _)
  refine ⟨u,rv,?_⟩
  rcases S.par y (LZ hp) with k | k
  ·exact .inl ⟨k,ya ndP hp hu k⟩
  ·obtain ⟨c,e⟩:=zK (n:=s.heap.objs.size + 1) k
   refine .inr ⟨.inl k,c,e,?_⟩
   have q:=x.cell y c e
   rw [yb ndP hp hu (by show scope.names.lookup y≠_; rw [k]; decide)] at q
   exact q
 ·exact e0.hok.fresh (M8 (x.above y c (MJ h)))
 ·unfold start
  show _=N.length
  rw [Mj,LR,List.length_replicate]
  omega
theorem K6 {CX:CXT} {P:Program} {w:World} {K:Fg} {mg:Str->Option Value} {base:Heap} {k:Nat} {f:Addr} {name qual:Str} {params:Arguments} {body:List Stmt} {scope:Scope} {dV kV doc pm cdv ct oc:Value} {an od:Option Addr}
  {osl:Array (Option Value)} {N ps:List Str} {sp:Sp} (lk:K.lookup f=some ⟨oc,od,.func (PV name qual params body scope dV kV doc pm an cdv ct),osl⟩) (hcd:SA K cdv qual=true) (S:aD N ps scope)
  (len:∀ vs H Q E,sp vs H Q E->vs.length=ps.length)
  (hbody:∀ (A:Around) (outer:List Env) (s:Shared) (H:Hp) (vs:List V) (Q:VK) (E:XK),cj k (A.deeper (envOfC qual scope s.heap.objs.size f cdv))->sp vs H Q E->
   ∃ t,PSs (oY CX P w K mg base N qual scope f cdv A outer s H E) body t/\t { nx:=fun _ H'=>Q .non H',rt:=Q } (start N vs) H):
  iM P w K mg base CX (k + 1) f (PV name qual params body scope dV kV doc pm an cdv ct) ps sp:=by
 refine ⟨len,fun A outer s H args us vs Q E hr e0 hb r hsp=>?_⟩
 have hl:=len _ _ _ _ hsp
 have KX:K.In s.heap:=e0.mod.kin.keeps fun b o e=>(e0.bs b o e).1
 have lim:s.heap.NoLimit:=e0.mod.nolimit.keeps fun b o e=>(e0.bs b o e).1
 have hkind:∀ y∈ps.zip us,scope.names.lookup y.1=some .local\/(scope.names.lookup y.1=some .cell/\((Se (s.heap.objs.size + 1) scope.names []).lookup y.1).isSome=true):=fun ⟨n,v⟩ hy=>by
  rcases S.par n (Sd hy).1 with q | q
  ·exact .inl q
  ·exact .inr ⟨q,So _ _ _ (.inl q)⟩
 refine codeAny_call_function hr.depth (KX _ _ lk) rfl S.co S.gen rfl (PySem.W.codeRec_of KX hcd) (hb _ _ _ _ ?_)
 refine wpAny_newFunctionEnv_cells S.kind hkind fun env he s1 x=>?_
 subst he
 refine ⟨lim.keeps x.toInCall.keep,codeAny_func ?_⟩
 obtain ⟨t,ht,hq⟩:=hbody A outer s H vs Q E (hr.deeper _) hsp
 have I:Inv (oY CX P w K mg base N qual scope f cdv A outer s H E) [] (start N vs) H s1:=EQ S hr.hd e0 hl r x
 refine NO (ht [] s1 (start N vs) H _ I hq) (fun fl s' hs=>?_) fun e s' hs=>hs
 have fin:∀ {σ':St} {H':Hp} {v:V} {u:Value},Inv (oY CX P w K mg base N qual scope f cdv A outer s H E) [] σ' H' s'->aH v u->Q v H'->CE outer P w H s Q u s':=
  fun {σ' H' v u} J rv q=>⟨v,H',J.os,J.bare,J.base,J.hok,rv,q⟩
 cases fl with
 | ret u=>
  obtain ⟨v,σ',H',J,rv,q⟩:=hs
  exact fin J rv q
 | next=>
  obtain ⟨σ',H',J,q⟩:=hs
  exact fin (v:=V.non) (u:=Nq) J rfl q
 | brk=>
  obtain ⟨_,_,_,q⟩:=hs
  exact N2 q
 | cont=>
  obtain ⟨_,_,_,q⟩:=hs
  exact N2 q
end L2
namespace L2
open PySem PySem.Spec PyProof.Rows
section
variable {X:Cx} {x:Str} {p pos:Pos} {e:Expr} {es:List Expr} {t:TA} {id T:String} {r:List V->Hp->VK->Prop}
noncomputable def tCB (r:List V->Hp->VK->Prop) (t:TA):TE:=fun σ H Q=>t σ H fun vs H1=>r vs H1 Q
theorem aA (hc:dI X (.builtin id) r) (hg:Gl X x) (hm:X.mg x=none) (hv:PR x=some (.builtin id)) (ha:PA X (e :: es) t) (hn:x≠"__name__":=by decide) (hdb:(x == ("__debug__":Str))=false:=by decide)
  (he:Mp (e :: es) X.env=(false,eval e X.env) :: Mp es X.env:=by rfl) (hpl:(backTo pos (Mp es X.env)).any (·.1)=false:=by rfl):PE X (.Call (.Name x p) (e :: es) [] pos) (tCB r t):=by
 intro pins s σ H Q I h
 refine N7 (gA I hg hm hv ?_ hn hdb)
 exact QC (thn (ha pos pins s σ H _ I h) fun us s1 ⟨vs,H1,I1,r1,q1⟩=>hc pins s1 σ H1 vs us Q I1 r1 q1) he hpl
theorem cK (hc:dI X (.type T) r) (hg:Gl X x) (hm:X.mg x=none) (hv:PR x=some (.type T)) (ha:PA X (e :: es) t) (hn:x≠"__name__":=by decide) (hdb:(x == ("__debug__":Str))=false:=by decide)
  (he:Mp (e :: es) X.env=(false,eval e X.env) :: Mp es X.env:=by rfl) (hpl:(backTo pos (Mp es X.env)).any (·.1)=false:=by rfl):PE X (.Call (.Name x p) (e :: es) [] pos) (tCB r t):=by
 intro pins s σ H Q I h
 refine N7 (gA I hg hm hv ?_ hn hdb)
 exact Ny (thn (ha pos pins s σ H _ I h) fun us s1 ⟨vs,H1,I1,r1,q1⟩=>hc pins s1 σ H1 vs us Q I1 r1 q1) he hpl
end
end L2
namespace HT
open PySem PyProof.Rows
section
open PySem.SeqAt
open PySem.AutoSeq1 (wpAny_loadPart')
open PySem.MeetsSeq PySem.MeetsSeq2 PySem.MeetsSeq3
end
section
variable {prog:Program} {w:World} {A:Around} {E:Value->Shared->Prop} {s:Shared}
theorem IV {t b:Addr} {vs ws:List Value} {Q:Value->Shared->Prop} (ht:IsTup s.heap t vs.toArray) (hb:IsTup s.heap b ws.toArray) (hv:vs≠[])
  (h1:ws=[]->Q (.ref t) s) (h2:ws≠[]->Q (.ref s.heap.objs.size) { s with heap:=s.heap.push { cls:=.type "tuple",data:=.seq (vs++ws).toArray } })
  (hsz:vs.length + ws.length<=Mb):wpAny (model prog w) A (OO .Add (.ref t) (.ref b)) Q E s:=by
 obtain ⟨⟨cls,dd,data,sl⟩,ho,hc,n,hd⟩:=id ht
 obtain ⟨⟨cls2,dd2,data2,sl2⟩,ho2,hc2,n2,hd2⟩:=id hb
 simp only at hc hd hc2 hd2
 subst hc hd hc2 hd2
 have e:vs.toArray++ws.toArray=(vs++ws).toArray:=by simp
 by_cases hw:ws=[]
 ·exact Tv ⟨_,ho,rfl⟩ ⟨_,ho2,rfl⟩ RM S0 Qj Qa (PX _ _)
   (tuple_addW1 t b vs.toArray ws.toArray n n2 dd dd2 sl sl2 (by simpa using hv) (by simp [hw])) ⟨ho,ho2,h1 hw⟩
 ·refine Tv ⟨_,ho,rfl⟩ ⟨_,ho2,rfl⟩ RM S0 Qj Qa (PX _ _)
   (tuple_addW2 t b vs.toArray ws.toArray n n2 dd dd2 sl sl2 (by simpa using hv) (by simpa using hw) (by rw [Me,Me]; exact hsz)) ⟨ho,ho2,?_⟩
  rw [e]
  exact h2 hw
noncomputable def sIx (n d:Nat):Option Int->Nat
 | none=>d
 | some v=>if v < 0 then (v + (n:Int)).toNat else min v.toNat n
theorem Ka (n d:Nat) (hd:d<=n) (o:Option Int):sIx n d o<=n:=by
 cases o with
 | none=>exact hd
 | some v=>
  show (if v < 0 then (v + (n:Int)).toNat else min v.toNat n)<=n
  by_cases hv:v < 0
  ·rw [if_pos hv]; omega
  ·rw [if_neg hv]; exact Nat.min_le_right _ _
theorem B7 (v:Int) (n d:Nat):(if v < 0 then max (v + (n:Int)) 0 else min v (n:Int))=((sIx n d (some v):Nat):Int):=by
 show (if v < 0 then max (v + (n:Int)) 0 else min v (n:Int))=(((if v < 0 then (v + (n:Int)).toNat else min v.toNat n):Nat):Int)
 by_cases hv:v < 0
 ·simp only [if_pos hv]; omega
 ·simp only [if_neg hv]; omega
theorem CP (lo hi:Option Int) (n:Nat):PN lo hi 1 (n:Int)=(((sIx n 0 lo:Nat):Int),((sIx n n hi:Nat):Int)):=by
 have h1:¬ ((1:Int) < 0):=by omega
 unfold PN
 simp only [h1,if_false]
 refine Prod.ext ?_ ?_
 ·cases lo with
  | none=>rfl
  | some v=>exact B7 v n 0
 ·cases hi with
  | none=>rfl
  | some v=>exact B7 v n n
theorem CQ (i j:Nat):OV (i:Int) (j:Int) 1=j - i:=by
 unfold OV
 have h1:(1:Int) > 0:=by omega
 simp only [h1,if_true,Int.ediv_one]
 split <;> omega
theorem uY {v:Value} {o:Option Int} {Q:Option Int->Shared->Prop} (p:IsPart v o) (h:Q o s):wpAny (model prog w) A (Builtin.Slice.slicePartIndex v) Q E s:=by
 cases p with
 | none=>exact slicePart_none h
 | int i t=>exact slicePart_int h
theorem uq {sl:Addr} {vl vu:Value} {lo hi:Option Int} {n:Nat} {Q:Int×Int×Nat->Shared->Prop} (hs:s.heap.IsSliceOf sl vl vu .none) (pl:IsPart vl lo) (pu:IsPart vu hi)
  (h:Q (((sIx n 0 lo:Nat):Int),1,sIx n n hi - sIx n 0 lo) s):wpAny (model prog w) A (Rk (.ref sl) (pure (n:Int))) Q E s:=by
 obtain ⟨os,hos,hcs,hds⟩:=id hs
 unfold Rk Builtin.Slice.sliceFields
 refine LO (LO (Ng hos hds (x:=vl) rfl (LO (Ng hos hds (x:=vu) rfl (LO (Ng hos hds (x:=.none) rfl (LQ ?_)))))))
 refine LO (slicePart_none ?_)
 show wpAny _ _ (if ((1:Int) == 0)=true then _ else _) _ _ s
 rw [if_neg (by decide)]
 refine LO (uY pl (LO (uY pu (LO (LQ ?_)))))
 show wpAny _ _ (match PN lo hi 1 (n:Int) with | (lo,hi)=>pure (lo,(1:Int),OV lo hi 1)) _ _ s
 rw [CP lo hi n]
 show wpAny _ _ (pure (((sIx n 0 lo:Nat):Int),(1:Int),OV ((sIx n 0 lo:Nat):Int) ((sIx n n hi:Nat):Int) 1)) _ _ s
 rw [CQ]
 exact LQ h
theorem Gr (xs:Array Value) (i k:Nat):((Mn k).filterMap fun (m:Nat)=>xs[((i:Int) + (m:Int) * 1).toNat]?).toArray=((xs.toList.drop i).take k).toArray:=by
 have e:(fun (m:Nat)=>xs[((i:Int) + (m:Int) * 1).toNat]?)=fun m=>xs[i + m]?:=by
  funext m
  have:((i:Int) + (m:Int) * 1).toNat=i + m:=by omega
  rw [this]
 rw [e]
 have:=pick_run xs i k
 rw [List.filterMap_map] at this
 have e2:((fun x=>xs[x]?) ∘ fun x=>i + x)=fun m=>xs[i + m]?:=rfl
 rw [e2] at this
 rw [this]
theorem tF {t sl:Addr} {items:Array Value} {vl vu:Value} {lo hi:Option Int} {Q:Value->Shared->Prop} (ht:IsTup s.heap t items) (hs:s.heap.IsSliceOf sl vl vu .none) (pl:IsPart vl lo) (pu:IsPart vu hi)
  (hw:¬ (sIx items.size 0 lo=0/\sIx items.size items.size hi=items.size))
  (h:Q (.ref s.heap.objs.size) { s with heap:=s.heap.push { cls:=.type "tuple",data:=.seq ((items.toList.drop (sIx items.size 0 lo)).take (sIx items.size items.size hi - sIx items.size 0 lo)).toArray } })
  (hsz:items.size<=Mb):wpAny (model prog w) A (getItem (.ref t) (.ref sl)) Q E s:=by
 have htake:sizeOk (.seq ((items.toList.drop (sIx items.size 0 lo)).take (sIx items.size items.size hi - sIx items.size 0 lo)).toArray):=by
  show ((items.toList.drop (sIx items.size 0 lo)).take (sIx items.size items.size hi - sIx items.size 0 lo)).toArray.size<=Mb
  rw [Me,NL,Up,ME]
  omega
 have hj:sIx items.size items.size hi<=items.size:=Ka _ _ (LV _) hi
 obtain ⟨os,hos,hcs,hds⟩:=id hs
 have hTs:s.TypeIs (.ref sl) "slice":=⟨os,hos,hcs⟩
 unfold getItem
 try with_reducible refine Nf ?_
 first | refine LO (LQ ?_) | skip
 refine LO (wpAny_sequenceKey ht.typeIs (by decide) ?_)
 refine LO (M0 (name:=Nw "__getitem__") ht.typeIs O6
  (ML O6 ht.typeIs entry_tuple_getitem ?_ (args_tuple_getitem _ _)))
 show wpAny _ _ (Rl (.ref t) >>= _) _ _ s
 refine LO (tupleItemsOf_ ht ?_)
 refine LO (RN hTs ?_)
 rw [if_pos (by decide)]
 refine LO (uq hs pl pu ?_)
 have hno:¬ ((((sIx items.size 0 lo:Nat):Int) == 0 && (1:Int) == 1 && (sIx items.size items.size hi - sIx items.size 0 lo) == items.size)=true):=by
  intro q
  rw [NM,NM] at q
  have q1:((sIx items.size 0 lo:Nat):Int)=0:=eq_of_beq q.1.1
  have q2:sIx items.size items.size hi - sIx items.size 0 lo=items.size:=eq_of_beq q.2
  exact hw ⟨by omega,by omega⟩
 show wpAny _ _ (if (((sIx items.size 0 lo:Nat):Int) == 0 && (1:Int) == 1 && (sIx items.size items.size hi - sIx items.size 0 lo) == items.size)=true then _ else _) _ _ s
 rw [if_neg hno,Gr]
 first
  | exact LO (m:=O0 _) (MY (LQ ⟨_,rfl,LQ h⟩) htake)
  | exact LO (m:=O0 _) (MY (LO (LQ (LQ ⟨_,rfl,LQ h⟩))) htake)
  | exact LO (LO (m:=O0 _) (MY (LQ (LQ ⟨_,rfl,LQ h⟩)) htake))
  | exact LO (LO (m:=O0 _) (MY (LQ ⟨_,rfl,LQ h⟩) htake))
end
end HT
namespace L2
open PySem PySem.Spec PyProof.Rows
noncomputable abbrev TO:=St->Hp->(Option Int->Hp->Prop)->Prop
noncomputable def PO (X:Cx) (e:Option Expr) (t:TO):Prop:=
 ∀ (pins:List (Addr×Obj)) (s:Shared) (σ:St) (H:Hp) (Q:Option Int->Hp->Prop),Inv X pins σ H s->t σ H Q->
  wpAny (model X.prog X.w) X.A (evalPart e X.env) (fun u s'=>∃ o H',Inv X pins σ H' s'/\IsPart u o/\Q o H') X.xe s
noncomputable def n9:TO:=fun _ H Q=>Q none H
noncomputable def uZ (t:TE):TO:=fun σ H Q=>t σ H fun x H1=>∃ i,x=.int i/\Q (some i) H1
theorem lj {ns:List Int}:∀ {us:List Value},aG (ns.map V.int) us->IntsAre us ns:=by
 induction ns with
 | nil=>intro us r; rw [Pu] at r; cases r; exact .nil
 | cons n ns ih=>
  intro us r
  rw [Mo] at r
  cases r with
  | cons r1 r2=>
   obtain ⟨t,e⟩:=r1
   subst e
   exact .cons n t (ih r2)
section
variable {X:Cx} {e:Expr} {te:TE} {lo hi:Option Expr} {tl th:TO} {pos p2:Pos}
theorem wW:PO X none n9:=by
 intro pins s σ H Q I h
 rw [evalPart_none]
 exact LQ ⟨none,H,I,.none,h⟩
theorem wX (h:PE X e te):PO X (some e) (uZ te):=by
 intro pins s σ H Q I hw
 rw [evalPart_some]
 refine thn (h pins s σ H _ I hw) fun u s1 ⟨x,H1,I1,r1,q1⟩=>?_
 obtain ⟨i,rfl,q⟩:=q1
 obtain ⟨t,rfl⟩:=r1
 exact ⟨some i,H1,I1,.int i t,q⟩
noncomputable def SlR (X:Cx) (r:V->Option Int->Option Int->Hp->VK->Prop):Prop:=
 ∀ (pins:List (Addr×Obj)) (s:Shared) (σ:St) (H:Hp) (x:V) (v vl vu:Value) (lo hi:Option Int) (sl:Addr) (Q:VK),Inv X pins σ H s->aH x v->s.heap.IsSliceOf sl vl vu .none->IsPart vl lo->IsPart vu hi->r x lo hi H Q->
  ∃ T id,SO (.type T) "__getitem__"=pure (some (.builtin id))/\s.TypeIs v T/\wpAny (model X.prog X.w) X.A (getItem v (.ref sl)) (EP X pins σ Q) X.xe s
noncomputable def tSl (r:V->Option Int->Option Int->Hp->VK->Prop) (te:TE) (tl th:TO):TE:=fun σ H Q=>te σ H fun x H1=>tl σ H1 fun l H2=>th σ H2 fun u H3=>r x l u H3 Q
theorem ur {r:V->Option Int->Option Int->Hp->VK->Prop} (hr:SlR X r) (he:PE X e te) (hl:PO X lo tl) (hu:PO X hi th):PE X (.Subscript e (.Slice lo hi none p2) pos) (tSl r te tl th):=by
 intro pins s σ H Q I h
 refine UJ (thn (he pins s σ H _ I h) fun v s1 ⟨x,H1,I1,r1,q1⟩=>?_)
 refine wpAny_Slice (thn (hl pins s1 σ H1 _ I1 q1) fun vl s2 ⟨l,H2,I2,pl,q2⟩=>thn (hu pins s2 σ H2 _ I2 q2) fun vu s3 ⟨u,H3,I3,pu,q3⟩=>?_)
 rw [evalPart_none]
 refine LQ ?_
 have I4:Inv X pins σ H3 { s3 with heap:=s3.heap.push { cls:=.type "slice",data:=.fields #[vl,vu,.none] } }:=I3.kept (t':=s3.toks) fun b ob q=>LP _ q
 obtain ⟨T,id,hT,ht,hg⟩:=hr pins { s3 with heap:=s3.heap.push { cls:=.type "slice",data:=.fields #[vl,vu,.none] } } σ H3 x v vl vu l u s3.heap.objs.size Q I4 r1 (Heap.IsSliceOf.new ..) pl pu q3
 show wpAny (model X.prog X.w) X.A (S3 e (.Slice lo hi none p2) v (.ref s3.heap.objs.size)) (EP X pins σ Q) X.xe { s3 with heap:=s3.heap.push { cls:=.type "slice",data:=.fields #[vl,vu,.none] } }
 exact tail_any (ops:=[.ref s3.heap.objs.size,v]) ht hT hg (by with_unfolding_all rfl)
noncomputable def qQ (xs:List V) (lo hi:Option Int):List V:=(xs.drop (HT.sIx xs.length 0 lo)).take (HT.sIx xs.length xs.length hi - HT.sIx xs.length 0 lo)
theorem Br (xs:List V) (lo hi:Option Int):(qQ xs lo hi).length<=xs.length:=by
 unfold qQ
 rw [NL,Up]
 omega
noncomputable def LC (K:Fg):V->Option Int->Option Int->Hp->VK->Prop:=fun x lo hi H Q=>∃ a xs,x=.ref a/\SqT K H a xs/\
 ¬ (HT.sIx xs.length 0 lo=0/\HT.sIx xs.length xs.length hi=xs.length)/\∀ p,H p=none->Q (.ref p) (upd H p (.tup (qQ xs lo hi)))
theorem Kb:SlR X (LC X.K):=by
 intro pins s σ H x v vl vu lo hi sl Q I rx hs pl pu h
 obtain ⟨a,xs,rfl,hx,hw,q⟩:=h
 cases rx
 obtain ⟨its,r,ht,hz⟩:=I.tuple hx
 have hlen:its.toArray.size=xs.length:=by rw [Me]; exact r.length.symm
 refine ⟨"tuple",_,O6.lookup,ht.typeIs,?_⟩
 refine HT.tF ht hs pl pu (by rw [hlen]; exact hw) ?_ (by rw [hlen]; exact hz)
 rw [hlen]
 refine ⟨.ref s.heap.objs.size,_,I.laid (t':=s.toks) (o:=.tup (qQ xs lo hi)) (fun b ob q=>LP _ q) (LV _) ?_,rfl,q _ (I.hok.fresh (LV _))⟩
 exact ⟨MD (Br xs lo hi) hz,_,(r.drop (HT.sIx xs.length 0 lo)).take (HT.sIx xs.length xs.length hi - HT.sIx xs.length 0 lo),fW.new _ _⟩
noncomputable def K7 (K:Fg):R2:=fun x y H Q=>∃ a b xs ys,x=.ref a/\y=.ref b/\SqT K H a xs/\SqT K H b ys/\xs≠[]/\xs.length + ys.length<=Mb/\
 (ys=[]->Q (.ref a) H)/\(ys≠[]->∀ p,H p=none->Q (.ref p) (upd H p (.tup (xs++ys))))
theorem aG.nil_iff {xs:List V} {us:List Value} (r:aG xs us):us=[]↔xs=[]:=by
 cases r with
 | nil=>simp
 | cons _ _=>simp
theorem IW:OpR X (OO .Add) (K7 X.K):=by
 intro pins s σ H x y v u Q I rx ry h
 obtain ⟨a,b,xs,ys,rfl,rfl,ha,hb,hx,hz,q1,q2⟩:=h
 cases rx
 cases ry
 obtain ⟨its,r1,p1,_⟩:=I.tuple ha
 obtain ⟨its2,r2,p2,_⟩:=I.tuple hb
 refine HT.IV p1 p2 (fun z=>hx (r1.nil_iff.mp z)) (fun z=>⟨.ref a,H,I,rfl,q1 (r2.nil_iff.mp z)⟩) (fun z=>?_) (by rw [<-r1.length,<-r2.length]; exact hz)
 refine ⟨.ref s.heap.objs.size,_,I.laid (t':=s.toks) (o:=.tup (xs++ys)) (fun b ob q=>LP _ q) (LV _) ?_,rfl,q2 (fun w=>z (r2.nil_iff.mpr w)) _ (I.hok.fresh (LV _))⟩
 exact ⟨by rw [Mj]; exact hz,_,r1.append r2,fW.new _ _⟩
end
end L2
namespace L2
open PySem PySem.Spec PyProof.Rows
noncomputable def ixN (n:Nat) (i:Int):Option Nat:=if 0<=i then (if i < n then some i.toNat else none) else if -(n:Int)<=i then some (i + n).toNat else none
noncomputable def atI {α:Type} (xs:List α) (i:Int):Option α:=(ixN xs.length i).bind fun j=>xs[j]?
theorem B8 {n:Nat} {i:Int} {j:Nat} (h:ixN n i=some j):seqIndex? i n=some j/\j < n/\-(n:Int)<=i/\i < n:=by
 unfold ixN at h
 by_cases h0:0<=i
 ·rw [if_pos h0] at h
  by_cases h1:i < n
  ·rw [if_pos h1] at h
   have e:i.toNat=j:=L9 h
   exact ⟨by rw [Uc h0 h1,e],by omega,by omega,h1⟩
  ·rw [if_neg h1] at h; cases h
 ·rw [if_neg h0] at h
  by_cases h1:-(n:Int)<=i
  ·rw [if_pos h1] at h
   have e:(i + n).toNat=j:=L9 h
   exact ⟨by rw [Tw (by omega) h1,e],by omega,h1,by omega⟩
  ·rw [if_neg h1] at h; cases h
theorem B9 {α:Type} {xs:List α} {i:Int} {v:α} (h:atI xs i=some v):∃ j,seqIndex? i xs.length=some j/\xs[j]?=some v/\j < xs.length/\-(xs.length:Int)<=i/\i < xs.length:=by
 unfold atI at h
 cases e:ixN xs.length i with
 | none=>rw [e] at h; cases h
 | some j=>
  rw [e] at h
  obtain ⟨h1,h2,h3,h4⟩:=B8 e
  exact ⟨j,h1,h,h2,h3,h4⟩
theorem cx {α:Type} {xs:List α} {j:Nat} {v:α} (h:xs[j]?=some v):atI xs (j:Int)=some v:=by
 have hj:j < xs.length:=(LU.mp h).1
 have e:ixN xs.length (j:Int)=some j:=by
  unfold ixN
  rw [if_pos (by omega),if_pos (by omega)]; simp
 unfold atI; rw [e]; exact h
noncomputable def IX (b:Expr):Prop:=∀ o i,Sr b false o i=operate [o,i] (getItem o i)
noncomputable def IxR (X:Cx) (r:R2):Prop:=
 ∀ (value slice:Expr) (pins:List (Addr×Obj)) (s:Shared) (σ:St) (H:Hp) (x y:V) (v u:Value) (Q:VK),Inv X pins σ H s->aH x v->aH y u->r x y H Q->
  Sr slice false v u=operate [v,u] (getItem v u)->wpAny (model X.prog X.w) X.A (S3 value slice v u) (EP X pins σ Q) X.xe s
noncomputable def MtR (X:Cx) (id:String) (r:V->List V->Hp->VK->Prop):Prop:=
 ∀ (pins:List (Addr×Obj)) (s:Shared) (σ:St) (H:Hp) (x:V) (xs:List V) (v:Value) (us:List Value) (Q:VK),Inv X pins σ H s->aH x v->aG xs us->r x xs H Q->
  wpAny (model X.prog X.w) X.A (call (.builtin id) (v :: us)) (EP X pins σ Q) X.xe s
section
variable {X:Cx} {a b:Expr} {ta tb:TE} {pos:Pos}
theorem aO {r:R2} (hr:IxR X r) (ha:PE X a ta) (hb:PE X b tb) (hs:IX b):PE X (.Subscript a b pos) (tOp r ta tb):=by
 intro pins s σ H Q I h
 exact UJ (Gj ha hb I h fun v u s2 x y H2 I2 rx ry q=>hr a b pins s2 σ H2 x y v u Q I2 rx ry q (hs _ _))
noncomputable def cS (K:Fg):R2:=fun x y H Q=>∃ p xs i v,x=.ref p/\y=.int i/\SqL K H p xs/\atI xs i=some v/\Q v H
noncomputable def ck (K:Fg):R2:=fun x y H Q=>∃ p xs i v,x=.ref p/\y=.int i/\SqT K H p xs/\atI xs i=some v/\Q v H
theorem bn:IxR X (cS X.K):=by
 intro value slice pins s σ H x y v u Q I rx ry h hs
 obtain ⟨p,xs,i,z,rfl,rfl,hq,he,q⟩:=h
 cases rx
 obtain ⟨t,rfl⟩:=ry
 obtain ⟨its,r,pl,hz⟩:=I.list hq
 obtain ⟨j,h1,h2,h3,h4,h5⟩:=B9 he
 obtain ⟨w,ew,rw'⟩:=r.get h2
 have hl:=r.length
 have hn:=uX
 have fin:EP X pins σ Q w s:=⟨z,H,I,rw',q⟩
 by_cases h0:0<=i
 ·have hj:i.toNat=j:=by
   rw [Uc h0 h5] at h1
   exact L9 h1
  exact item_listR pl.isList h0 (by omega) (by rw [hj]; simpa using ew) fin hs
 ·have hj:(i + (its.toArray.size:Int)).toNat=j:=by
   rw [Tw (by omega) h4] at h1
   rw [Me,<-hl]
   exact L9 h1
  exact Ss (x:=w) pl.isList.typeIs slot_list_getitem.lookup
   (wpAny_getItem_list_neg (Q:=fun r s'=>r=w/\EP X pins σ Q r s') pl.isList (by omega) (by rw [Me] <;> omega) (by omega) (by rw [hj]; simpa using ew) ⟨rfl,fin⟩) hs
theorem bq:IxR X (ck X.K):=by
 intro value slice pins s σ H x y v u Q I rx ry h hs
 obtain ⟨p,xs,i,z,rfl,rfl,hq,he,q⟩:=h
 cases rx
 obtain ⟨t,rfl⟩:=ry
 obtain ⟨its,r,pl,hz⟩:=I.tuple hq
 obtain ⟨j,h1,h2,h3,h4,h5⟩:=B9 he
 obtain ⟨w,ew,rw'⟩:=r.get h2
 have hl:=r.length
 have hn:=uX
 have fin:EP X pins σ Q w s:=⟨z,H,I,rw',q⟩
 exact Ss (x:=w) pl.typeIs slot_tuple_getitem.lookup
  (getItem_tuple (j:=j) (Q:=fun r s'=>r=w/\EP X pins σ Q r s') pl (by omega) (by omega) (by rw [Me,<-hl]; exact h1) (by simpa using ew) ⟨rfl,fin⟩) hs
theorem CS (its:List Value) (n j:Nat) (u:Value):Nt (·.setIfInBounds j u) { cls:=.type "list",data:=.seq its.toArray n }={ cls:=.type "list",data:=.seq (its.set j u).toArray n }:=by
 simp [Nt]
theorem Inv.lst {pins:List (Addr×Obj)} {σ:St} {H:Hp} {s:Shared} {p:Addr} {xs:List V} (I:Inv X pins σ H s) (h:H p=some (.lst xs)):
  ∃ (its:List Value) (n:Nat),aG xs its/\s.heap.get? p=some { cls:=.type "list",data:=.seq its.toArray n }/\xs.length<=Mb:=by
 obtain ⟨z,its,n,r,e⟩:=I.hok p _ h
 exact ⟨its,n,r,e,z⟩
theorem Inv.lstUpd {pins:List (Addr×Obj)} {σ:St} {H:Hp} {s:Shared} {p:Addr} {xs ys:List V} {its its':List Value} {n n':Nat} {f:Obj->Obj} (I:Inv X pins σ H s) (h:H p=some (.lst xs))
  (ho:s.heap.get? p=some { cls:=.type "list",data:=.seq its.toArray n }) (hf:f { cls:=.type "list",data:=.seq its.toArray n }={ cls:=.type "list",data:=.seq its'.toArray n' }) (r:aG ys its') (hz:ys.length<=Mb) (t:Nat):
  Inv X pins σ (upd H p (.lst ys)) { s with heap:=s.heap.update p f,toks:=t }:=by
 have e:(s.heap.update p f).get? p=some { cls:=.type "list",data:=.seq its'.toArray n' }:=by
  rw [MP f ho (by rw [hf] <;> rfl),hf]
 refine I.write (x:=p) (e:=p) (by rw [h]; trivial) (.inl rfl) (fun b u hb q=>(MR _ _ (Np hb)).trans q) ⟨_,e⟩ ?_
 exact ⟨hz,its',n',r,e⟩
noncomputable def mP:V->V->V->Hp->(Hp->Prop)->Prop:=fun o i v H Q=>∃ p xs k j,o=.ref p/\i=.int k/\H p=some (.lst xs)/\ixN xs.length k=some j/\Q (upd H p (.lst (xs.set j v)))
theorem lQ:CC X mP:=by
 intro pins s σ H o i v ov iv u Q I ro ri rv h
 obtain ⟨p,xs,k,j,rfl,rfl,hp,hj,q⟩:=h
 cases ro
 obtain ⟨t,rfl⟩:=ri
 obtain ⟨its,n,r,ho,hz⟩:=I.lst hp
 obtain ⟨h1,h2,h3,h4⟩:=B8 hj
 have hl:=r.length
 have hn:=uX
 have I':Inv X pins σ (upd H p (.lst (xs.set j v))) { s with heap:=s.heap.update p (Nt (·.setIfInBounds j u)) }:=
  I.lstUpd hp ho (CS its n j u) (r.set rv j) (by rw [N4]; exact hz) s.toks
 by_cases h0:0<=k
 ·have hk:k.toNat=j:=by
   rw [Uc h0 h4] at h1
   exact L9 h1
  exact PySem.W.ki_setAt ho h0 (by omega) (by rw [Me,<-hl]; exact h4) (by rw [hk]; exact ⟨_,I',q⟩)
 ·have hk:(k + (its.toArray.size:Int)).toNat=j:=by
   rw [Tw (by omega) h3] at h1
   rw [Me,<-hl]
   exact L9 h1
  exact PySem.W.ki_setBack ho (by omega) (by rw [Me,<-hl]; exact h3) (by omega) (by rw [hk]; exact ⟨_,I',q⟩)
noncomputable def dQ:V->Bool
 | .non=>true
 | .bl _=>true
 | .int _=>true
 | .str _=>true
 | _=>false
noncomputable def eqV:V->V->Bool
 | .non,.non=>true
 | .bl a,.bl b=>a == b
 | .bl a,.int b=>(if a then 1 else 0) == b
 | .int a,.bl b=>a == (if b then 1 else 0)
 | .int a,.int b=>a == b
 | .str a,.str b=>a == b
 | _,_=>false
theorem ER {A:Around} {s:Shared} {y x:V} {u v:Value} (ry:aH y u) (rx:aH x v) (fy:dQ y=true) (fx:dQ x=true):Mz A s u v (eqV y x):=by
 cases y with
 | non=>
  cases ry
  cases x with
  | non=>cases rx; exact Sf _
  | bl b=>cases rx; exact SQ b
  | int b=>obtain ⟨t,rfl⟩:=rx; exact S8 b t
  | str b=>obtain ⟨t,rfl⟩:=rx; exact Mz.none_str b t
  | _=>exact absurd (show false=true from fx) Ma
 | bl a=>
  cases ry
  cases x with
  | non=>cases rx; exact SR a
  | bl b=>cases rx; exact SS a b
  | int b=>obtain ⟨t,rfl⟩:=rx; exact S9 a b t
  | str b=>obtain ⟨t,rfl⟩:=rx; exact Mz.bool_str a b t
  | _=>exact absurd (show false=true from fx) Ma
 | int a=>
  obtain ⟨t',rfl⟩:=ry
  cases x with
  | non=>cases rx; exact Ta a t'
  | bl b=>cases rx; exact Tc a t' b
  | int b=>obtain ⟨t,rfl⟩:=rx; exact Tx a t' b t
  | str b=>obtain ⟨t,rfl⟩:=rx; exact Tg a t' b t
  | _=>exact absurd (show false=true from fx) Ma
 | str a=>
  obtain ⟨t',rfl⟩:=ry
  cases x with
  | non=>cases rx; exact Mz.str_none a t'
  | bl b=>cases rx; exact Mz.str_bool a t' b
  | int b=>obtain ⟨t,rfl⟩:=rx; exact Th a t' b t
  | str b=>obtain ⟨t,rfl⟩:=rx; exact Mz.str_str a t' b t
  | _=>exact absurd (show false=true from fx) Ma
 | _=>exact absurd (show false=true from fy) Ma
noncomputable def eqU (x:V) (u:Value):Bool:=match u with
 | .none=>eqV .non x
 | .bool b=>eqV (.bl b) x
 | .int i _=>eqV (.int i) x
 | .str z _=>eqV (.str z) x
 | _=>false
theorem zL {x y:V} {u:Value} (r:aH y u) (f:dQ y=true):eqU x u=eqV y x:=by
 cases y with
 | non=>cases r; rfl
 | bl b=>cases r; rfl
 | int i=>obtain ⟨t,rfl⟩:=r; rfl
 | str z=>obtain ⟨t,rfl⟩:=r; rfl
 | _=>exact absurd (show false=true from f) Ma
theorem wY {x:V}:∀ {xs:List V} {us:List Value},aG xs us->xs.all dQ=true->us.any (eqU x)=xs.any fun y=>eqV y x
 | _,_,.nil,_=>rfl
 | y :: xs,u :: us,.cons r t,f=>by
  rw [O9,NM] at f
  rw [Qm,Qm,zL r f.1,wY t f.2]
theorem lR {A:Around} {s:Shared} {x:V} {v:Value} (rx:aH x v) (fx:dQ x=true):∀ {xs:List V} {us:List Value},aG xs us->xs.all dQ=true->∀ u∈us,Mz A s u v (eqU x u)
 | _,_,.nil,_=>fun u hu=>by cases hu
 | y :: xs,u :: us,.cons r t,f=>fun u' hu=>by
  rw [O9,NM] at f
  rcases L7.mp hu with rfl | hu
  ·rw [zL r f.1]; exact ER r rx f.1 fx
  ·exact lR rx fx t f.2 u' hu
noncomputable def inV (x:V) (xs:List V):Bool:=xs.any fun y=>eqV y x
noncomputable def rIn (K:Fg) (neg:Bool):R2:=fun x y H Q=>∃ p xs,y=.ref p/\(SqL K H p xs\/SqT K H p xs)/\dQ x=true/\xs.all dQ=true/\Q (.bl (if neg then !inV x xs else inV x xs)) H
theorem ES:OpR X (NZ .In) (rIn X.K false):=by
 intro pins s σ H x y v u Q I rx ry h
 obtain ⟨p,xs,rfl,hq,fx,fs,q⟩:=h
 cases ry
 rcases hq with hq | hq
 ·obtain ⟨its,r,pl,hz⟩:=I.list hq
  refine SeqAt.in_listAt (eqU x) pl.isList (fun w hw=>lR rx fx r fs w (by simpa using hw)) ⟨.bl _,H,I,rfl,?_⟩
  rw [show its.toArray.any (eqU x)=its.any (eqU x) by simp,wY r fs]
  exact q
 ·obtain ⟨its,r,pl,hz⟩:=I.tuple hq
  refine SeqAt.in_tupleAt (eqU x) pl (fun w hw=>lR rx fx r fs w (by simpa using hw)) ⟨.bl _,H,I,rfl,?_⟩
  rw [show its.toArray.any (eqU x)=its.any (eqU x) by simp,wY r fs]
  exact q
theorem aU:dI X (.builtin "len") (fun xs H Q=>∃ p ys,xs=[.ref p]/\(SqL X.K H p ys\/SqT X.K H p ys)/\Q (.int ys.length) H):=by
 intro pins s σ H xs us Q I r h
 obtain ⟨p,ys,rfl,hq,q⟩:=h
 obtain ⟨u,rfl,rx⟩:=oX r
 cases rx
 have hn:=uX
 rcases hq with hq | hq
 ·obtain ⟨its,r',pl,hz⟩:=I.list hq
  have hlen:=r'.length
  exact Calls.call_len_list pl.isList (by simp only [Me] <;> omega) ⟨.int ys.length,H,I.tok _,⟨s.toks + 1,by rw [Me,hlen]⟩,q⟩
 ·obtain ⟨its,r',pl,hz⟩:=I.tuple hq
  have hlen:=r'.length
  exact len_tuple pl (by simp only [Me] <;> omega) ⟨.int ys.length,H,I.tok _,⟨s.toks + 1,by rw [Me,hlen]⟩,q⟩
theorem zM:dI X (.type "list") (fun xs H Q=>∃ p ys,xs=[.ref p]/\(SqL X.K H p ys\/SqT X.K H p ys)/\∀ l,H l=none->Q (.ref l) (upd H l (.lst ys))):=by
 intro pins s σ H xs us Q I r h
 obtain ⟨p,ys,rfl,hq,q⟩:=h
 obtain ⟨u,rfl,rx⟩:=oX r
 cases rx
 have fin:∀ (its:List Value),aG ys its->ys.length<=Mb->∀ (h':Heap) (c':Nat),(∀ b o',s.heap.get? b=some o'->h'.get? b=some o')->
   h'.get? s.heap.objs.size=some { cls:=.type "list",dict:=none,data:=.seq its.toArray c',slots:=#[] }->EP X pins σ Q (.ref s.heap.objs.size) { s with heap:=h' }:=fun its r' hz h' c' kp e=>
  ⟨.ref s.heap.objs.size,_,I.laid (t':=s.toks) kp (LV _) (show bN X.prog X.w _ h' _ (.lst ys) from ⟨hz,its,c',r',e⟩),rfl,q _ (I.hok.fresh (LV _))⟩
 rcases hq with hq | hq
 ·obtain ⟨its,r',pl,hz⟩:=I.list hq
  have hlen:=r'.length
  obtain ⟨o,ho,hc,n,hd⟩:=pl.isList
  exact call_list_seq p (.inl rfl) ho hc hd (fun h' c' kp e=>fin its r' hz h' c' kp e) (by simp only [Me] <;> omega)
 ·obtain ⟨its,r',pl,hz⟩:=I.tuple hq
  have hlen:=r'.length
  obtain ⟨o,ho,hc,n,hd⟩:=pl
  exact call_list_seq p (.inr rfl) ho hc hd (fun h' c' kp e=>fin its r' hz h' c' kp e) (by simp only [Me] <;> omega)
theorem qd:dI X (.type "tuple") (fun xs H Q=>∃ p ys,xs=[.ref p]/\((SqL X.K H p ys/\∀ l,H l=none->Q (.ref l) (upd H l (.tup ys)))\/(SqT X.K H p ys/\Q (.ref p) H))):=by
 intro pins s σ H xs us Q I r h
 obtain ⟨p,ys,rfl,h⟩:=h
 obtain ⟨u,rfl,rx⟩:=oX r
 cases rx
 rcases h with ⟨hq,q⟩ | ⟨hq,q⟩
 ·obtain ⟨its,r',pl,hz⟩:=I.list hq
  have hlen:=r'.length
  refine call_tuple_list pl.isList (fun h' kp=>?_) (by simp only [Me] <;> omega)
  have I1:Inv X pins σ H { s with heap:=h' }:=I.kept (t':=s.toks) kp
  have I2:Inv X pins σ (upd H h'.objs.size (.tup ys)) { s with heap:=h'.push { cls:=.type "tuple",data:=.seq its.toArray } }:=
   I1.laid (t':=s.toks) (fun b o e=>LP _ e) (LV _) (show bN X.prog X.w _ _ _ (.tup ys) from ⟨hz,its,r',fW.new _ _⟩)
  exact ⟨.ref h'.objs.size,_,I2,rfl,q _ (I1.hok.fresh (LV _))⟩
 ·obtain ⟨its,r',pl,hz⟩:=I.tuple hq
  exact call_tuple_same pl ⟨.ref p,H,I,rfl,q⟩
noncomputable def tyV (K:Fg) (T:String) (x:V) (H:Hp):Prop:=match x with
 | .str _=>T="str"
 | .int _=>T="int"
 | .ref p=>(T="list"/\∃ xs,SqL K H p xs)\/(T="tuple"/\∃ o,K.lookup p=some o/\o.cls=.type "tuple"/\o.dict=none)\/
   (T="dict"/\((∃ kvs,H p=some (.dK kvs))\/∃ kvs,H p=some (.dT kvs)))\/(T="set"/\∃ S n,H p=some (.set S n))
 | _=>False
theorem ET {pins:List (Addr×Obj)} {σ:St} {H:Hp} {s:Shared} {T:String} {x:V} {v:Value} (I:Inv X pins σ H s) (r:aH x v) (ty:tyV X.K T x H):
  s.TypeIs v T/\∀ a,v=.ref a->∃ ob,s.heap.get? a=some ob/\ob.dict=none:=by
 cases x with
 | str z=>
  obtain ⟨t,rfl⟩:=r
  cases (show T="str" from ty)
  exact ⟨typeIs_str s z t,fun _ e=>nomatch e⟩
 | int i=>
  obtain ⟨t,rfl⟩:=r
  cases (show T="int" from ty)
  exact ⟨UK s i t,fun _ e=>nomatch e⟩
 | ref p=>
  cases r
  rcases ty with ⟨rfl,xs,hq⟩ | ⟨rfl,o,hk,hc,hd⟩ | ⟨rfl,hk⟩ | ⟨rfl,S,n,hk⟩
  ·obtain ⟨its,_,pl,_⟩:=I.list hq
   refine ⟨pl.isList.typeIs,fun a e=>?_⟩
   cases e
   obtain ⟨o,n,e,c,hd,_⟩:=pl
   exact ⟨o,e,hd⟩
  ·refine ⟨⟨o,I.kIn p o hk,hc⟩,fun a e=>?_⟩
   cases e
   exact ⟨o,I.kIn _ o hk,hd⟩
  ·have z:∃ o,s.heap.get? p=some o/\o.ExactDict:=by
    rcases hk with ⟨kvs,hk⟩ | ⟨kvs,hk⟩
    ·obtain ⟨_,_,_,_,o,_,_,e,ex,_⟩:=I.hok p _ hk
     exact ⟨o,e,ex⟩
    ·obtain ⟨_,_,_,_,o,_,_,e,ex,_⟩:=I.hok p _ hk
     exact ⟨o,e,ex⟩
   obtain ⟨o,e,ex⟩:=z
   refine ⟨⟨o,e,ex.1⟩,fun a e2=>?_⟩
   cases e2
   exact ⟨o,e,ex.2.1⟩
  ·obtain ⟨o,_,_,_,e,ex,_⟩:=I.hok p _ hk
   refine ⟨⟨o,e,ex.1⟩,fun a e2=>?_⟩
   cases e2
   exact ⟨o,e,ex.2.1⟩
 | _=>exact N2 ty
noncomputable def Gs (K:Fg) (T:String) (r:V->List V->Hp->VK->Prop) (to:TE):TE:=fun σ H Q=>to σ H fun x H1=>tyV K T x H1/\r x [] H1 Q
noncomputable def tBM (K:Fg) (T:String) (r:V->List V->Hp->VK->Prop) (to:TE) (t:TA):TE:=fun σ H Q=>to σ H fun x H1=>tyV K T x H1/\t σ H1 fun xs H2=>r x xs H2 Q
variable {o e:Expr} {es:List Expr} {to:TE} {t:TA} {name:Str} {apos cpos:Pos} {T id:String} {r:V->List V->Hp->VK->Prop}
theorem Kc (pa:UL T) (slot:Slot T name id) (hty:typeOf (.builtin id)=pure (.type "method_descriptor")) (hm:MtR X id r) (ho:PE X o to)
  (hbase:O8 o name X.env (eval o X.env)=eval o X.env:=by rfl) (hline:(apos.endLine == cpos.line)=true:=by rfl):PE X (.Call (.Attribute o name apos) [] [] cpos) (Gs X.K T r to):=by
 intro pins s σ H Q I h
 refine wpAny_Call_method0_late hbase hline (thn (ho pins s σ H _ I h) fun v s1 ⟨x,H1,I1,r1,ty,q1⟩=>?_)
 obtain ⟨h1,h2⟩:=ET I1 r1 ty
 exact ⟨T,id,pa,slot,hty,h1,h2,Pi rfl (PySem.evalArgs_none (hm pins s1 σ H1 x [] v [] Q I1 r1 .nil q1))⟩
theorem ir (pa:UL T) (slot:Slot T name id) (hty:typeOf (.builtin id)=pure (.type "method_descriptor")) (hm:MtR X id r) (ho:PE X o to) (ha:PA X (e :: es) t)
  (hbase:O8 o name X.env (eval o X.env)=eval o X.env:=by rfl)
  (hfew:((backTo cpos (Mp (e :: es) X.env)).all (fun x=>!x.1) && (Qp cpos (Ph [] X.env)).all (fun x=>x.1.isSome)
   && decide ((e :: es).length + ([]:List Keyword).length + (if ([]:List Keyword).isEmpty then 0 else 1) < 30))=true:=by rfl)
  (hline:(apos.endLine == cpos.line)=true:=by rfl) (hs:Mp (e :: es) X.env=(false,eval e X.env) :: Mp es X.env:=by rfl) (hplain:(backTo cpos (Mp es X.env)).any (·.1)=false:=by rfl):
  PE X (.Call (.Attribute o name apos) (e :: es) [] cpos) (tBM X.K T r to t):=by
 intro pins s σ H Q I h
 refine Qk hbase hfew hline rfl (thn (ho pins s σ H _ I h) fun v s1 ⟨x,H1,I1,r1,ty,q1⟩=>?_)
 obtain ⟨h1,h2⟩:=ET I1 r1 ty
 refine ⟨T,id,pa,slot,hty,h1,h2,?_⟩
 have hA:=ha cpos pins s1 σ H1 _ I1 q1
 rw [hs] at hA ⊢
 refine Pi (by show (false || (backTo cpos (Mp es X.env)).any (·.1))=false; rw [hplain] <;> rfl) (QD ?_)
 exact thn hA fun us s2 ⟨vs,H2,I2,r2,q2⟩=>hm pins s2 σ H2 x vs v us Q I2 r1 r2 q2
end
end L2
namespace L2
open PySem PySem.Spec PyProof.Rows
noncomputable def MtM (X:Cx) (id:String) (r:V->List V->Hp->VK->Prop):Prop:=
 ∀ (pins:List (Addr×Obj)) (s:Shared) (σ:St) (H:Hp) (x:V) (xs:List V) (v:Value) (us:List Value) (Q:VK),Inv X pins σ H s->aH x v->aG xs us->r x xs H Q->
  wpAny (model X.prog X.w) X.A (call (.builtin id) (v :: us)) (EP X pins σ Q) X.xe s
theorem aG.one {x:V} {us:List Value} (h:aG [x] us):∃ u,us=[u]/\aH x u:=by
 cases h with
 | cons r t=>cases t; exact ⟨_,rfl,r⟩
theorem aG.two {x y:V} {us:List Value} (h:aG [x,y] us):∃ u v,us=[u,v]/\aH x u/\aH y v:=by
 cases h with
 | cons r t=>cases t with
  | cons q z=>cases z; exact ⟨_,_,rfl,r,q⟩
theorem aG.zero:∀ {us:List Value},aG [] us->us=[]
 | _,.nil=>rfl
theorem aG.reverse {xs:List V} {us:List Value} (h:aG xs us):aG xs.reverse us.reverse:=by
 induction h with
 | nil=>exact .nil
 | cons r t ih=>rw [TX,TX]; exact aG.append ih (.cons r .nil)
theorem aG.rep {xs:List V} {us:List Value} (h:aG xs us):∀ k:Nat,aG (MI k xs).flatten (MI k us).flatten
 | 0=>.nil
 | k + 1=>by
  rw [O5,O5,Qe,Qe]
  exact aG.append h (aG.rep h k)
theorem yc (its:List Value):∀ (k:Nat) (acc:List Value),
  UM (fun x1 x2=>x1++x2) acc.toArray (MI k its.toArray)=(acc++(MI k its).flatten).toArray
 | 0,acc=>by simp
 | k + 1,acc=>by
  have e:acc.toArray++its.toArray=(acc++its).toArray:=by simp
  have e2:(acc++its)++(MI k its).flatten=acc++(MI (k + 1) its).flatten:=by
   rw [O5,Qe,Rv]
  rw [<-e2,<-yc its k (acc++its),<-e,O5,UN]
section
variable {X:Cx} {pins:List (Addr×Obj)} {σ:St} {H:Hp} {s:Shared} {l b:Addr} {xs ys zs:List V}
theorem Inv.lset {its its':List Value} {n:Nat} {f:Array Value->Array Value} {t':Nat} (I:Inv X pins σ H s) (hH:H l=some (.lst xs))
  (e:s.heap.get? l=some { cls:=.type "list",data:=.seq its.toArray n }) (hf:f its.toArray=its'.toArray) (hv:aG ys its') (hz:ys.length<=Mb):
  Inv X pins σ (upd H l (.lst ys)) { s with heap:=s.heap.update l (Nt f),toks:=t' }:=by
 have q:=PySem.IsL.update e f
 rw [hf] at q
 refine I.write (x:=l) (e:=l) (by rw [hH]; exact trivial) (.inl rfl) (fun b' u hb hu=>(MR s.heap (Nt f) (Np hb)).trans hu) ⟨_,q⟩ ?_
 exact ⟨hz,its',_,hv,q⟩
theorem Inv.lnew {its:List Value} {t':Nat} (I:Inv X pins σ H s) (hv:aG ys its) (hz:ys.length<=Mb):
  Inv X pins σ (upd H s.heap.objs.size (.lst ys)) { s with heap:=s.heap.push { cls:=.type "list",data:=.seq its.toArray },toks:=t' }:=
 I.laid (fun _ _ q=>LP _ q) (LV _) ⟨hz,its,0,hv,L6 _ rfl⟩
theorem Inv.fresh (I:Inv X pins σ H s):H s.heap.objs.size=none:=I.hok.fresh (LV _)
theorem Inv.lstM (I:Inv X pins σ H s) (hH:H l=some (.lst xs)):xs.length<=Mb/\∃ (its:List Value) (n:Nat),aG xs its/\xs.length=its.length/\s.heap.get? l=some { cls:=.type "list",data:=.seq its.toArray n }:=by
 obtain ⟨z,its,n,r,e⟩:=I.hok l _ hH
 exact ⟨z,its,n,r,r.length,e⟩
theorem zN {n:Nat} (h:n<=Mb):O1 n=false:=by
 unfold O1
 exact decide_eq_false (by omega)
end
section
variable {X:Cx}
noncomputable def eO:V->List V->Hp->VK->Prop:=fun x vs H Q=>∃ l xs y,x=.ref l/\vs=[y]/\H l=some (.lst xs)/\xs.length < Mb/\Q .non (upd H l (.lst (xs++[y])))
theorem db:MtM X "list.append" eO:=by
 intro pins s σ H x vs v us Q I rx rv h
 obtain ⟨l,xs,y,rfl,rfl,hH,hz,q⟩:=h
 cases rx
 obtain ⟨u,rfl,ru⟩:=rv.one
 obtain ⟨z,its,n,r,hl,e⟩:=I.lstM hH
 refine P6 F.slot_list_append ⟨_,e,rfl⟩ F.entry_list_append (F.args_list_append_2 _ _) (PySem.list_append l its.toArray n u (by rw [Me]; omega)) ⟨e,?_⟩
 refine ⟨.non,_,I.lset (its':=its++[u]) hH e (by simp) (r.append (.cons ru .nil)) ?_,rfl,q⟩
 rw [Mj,SB]
 omega
noncomputable def wZ:V->List V->Hp->VK->Prop:=fun x vs H Q=>∃ l b xs zs,x=.ref l/\vs=[.ref b]/\H l=some (.lst xs)/\H b=some (.lst zs)/\xs.length + zs.length<=Mb/\Q .non (upd H l (.lst (xs++zs)))
theorem EU:MtM X "list.extend" wZ:=by
 intro pins s σ H x vs v us Q I rx rv h
 obtain ⟨l,b,xs,zs,rfl,rfl,hH,hB,hz,q⟩:=h
 cases rx
 obtain ⟨u,rfl,ru⟩:=rv.one
 cases ru
 obtain ⟨z,its,n,r,hl,e⟩:=I.lstM hH
 obtain ⟨z2,its2,n2,r2,hl2,e2⟩:=I.lstM hB
 have hsz:its.toArray.size + its2.toArray.size<=Mb:=by rw [Me,Me]; omega
 have hlong:¬ (!its.toArray.isEmpty && O1 (its.toArray.size + its2.toArray.size))=true:=by
  rw [zN hsz,QT]
  exact Ma
 refine P6 F.slot_list_extend ⟨_,e,rfl⟩ F.entry_list_extend (F.args_list_extend_2 _ _)
  (AutoSeq1.list_extend_list_list_0 l its.toArray n b its2.toArray n2 hlong (by rw [Me]; omega) (by omega)) ⟨e,e2,?_⟩
 refine ⟨.non,_,I.lset (its':=its++its2) hH e (by simp) (r.append r2) ?_,rfl,q⟩
 rw [Mj]
 omega
noncomputable def zO:V->List V->Hp->VK->Prop:=fun x vs H Q=>∃ l xs,x=.ref l/\vs=[]/\H l=some (.lst xs)/\Q .non (upd H l (.lst xs.reverse))
theorem CT:MtM X "list.reverse" zO:=by
 intro pins s σ H x vs v us Q I rx rv h
 obtain ⟨l,xs,rfl,rfl,hH,q⟩:=h
 cases rx
 have hus:=rv.zero
 subst hus
 obtain ⟨z,its,n,r,hl,e⟩:=I.lstM hH
 refine P6 F.slot_list_reverse ⟨_,e,rfl⟩ F.entry_list_reverse (F.args_list_reverse_1 _) (AutoSeq1.list_reverse_list_0 l its.toArray n (by rw [Me]; omega)) ⟨e,?_⟩
 refine ⟨.non,_,I.lset (its':=its.reverse) hH e (by simp) r.reverse ?_,rfl,q⟩
 rw [Td]
 omega
noncomputable def Kd:R2:=fun x y H Q=>∃ l b xs zs,x=.ref l/\y=.ref b/\H l=some (.lst xs)/\H b=some (.lst zs)/\xs.length + zs.length<=Mb/\∀ p,H p=none->Q (.ref p) (upd H p (.lst (xs++zs)))
theorem EV:OpR X (OO .Add) Kd:=by
 intro pins s σ H x y v u Q I rx ry h
 obtain ⟨l,b,xs,zs,rfl,rfl,hH,hB,hz,q⟩:=h
 cases rx
 cases ry
 obtain ⟨z,its,n,r,hl,e⟩:=I.lstM hH
 obtain ⟨z2,its2,n2,r2,hl2,e2⟩:=I.lstM hB
 refine PySem.P.add_list e e2 ?_ (by rw [Me,Me]; omega)
 have ea:its.toArray++its2.toArray=(its++its2).toArray:=by simp
 rw [ea]
 exact ⟨.ref _,_,I.lnew (t':=s.toks) (r.append r2) (by rw [Mj]; omega),rfl,q _ I.fresh⟩
noncomputable def LD:R2:=fun x y H Q=>∃ l k xs,x=.ref l/\y=.int k/\H l=some (.lst xs)/\-(2 ^ 63)<=k/\k < 2 ^ 63/\xs.length * k.toNat<=Mb/\
 ∀ p,H p=none->Q (.ref p) (upd H p (.lst (MI k.toNat xs).flatten))
theorem IY {α:Type} (xs:List α) (k:Nat):(MI k xs).flatten.length=k * xs.length:=by
 induction k with
 | zero=>simp
 | succ k ih=>rw [O5,Qe,Mj,ih,Nat.succ_mul,Nat.add_comm]
theorem Ke:OpR X (OO .Mult) LD:=by
 intro pins s σ H x y v u Q I rx ry h
 obtain ⟨l,k,xs,rfl,rfl,hH,h1,h2,hz,q⟩:=h
 cases rx
 obtain ⟨t,rfl⟩:=ry
 obtain ⟨z,its,n,r,hl,e⟩:=I.lstM hH
 have hlen:its.toArray.size * k.toNat<=Mb:=by rw [Me,<-hl]; exact hz
 have hcap:¬ its.toArray.size * k.toNat > (2 ^ 63 - 1) / 8:=by
  have:(Mb:Nat)<=(2 ^ 63 - 1) / 8:=by decide
  omega
 have hfit:¬ (!Builtin.List.listFitsIndex k)=true:=by
  rw [fitsIndex_both h1 h2]
  exact Ma
 have hlong:¬ O1 (its.toArray.size * k.toNat)=true:=by
  rw [zN hlen]
  exact Ma
 have hnew:UM (fun x1 x2=>x1++x2) #[] (MI (if its.toArray.isEmpty=true then 0 else k.toNat) its.toArray)=(MI k.toNat its).flatten.toArray:=by
  have f0:∀ m:Nat,UM (fun x1 x2=>x1++x2) #[] (MI m its.toArray)=(MI m its).flatten.toArray:=fun m=>by
   have:=yc its m []
   rw [List.nil_append] at this
   exact this
  rw [f0]
  cases its with
  | nil=>simp
  | cons a r'=>rw [if_neg (by simp)]
 refine wpAny_binaryOp_repeat_ref (T:="list") (U:="int") (by decide) ⟨_,e,rfl⟩ (fun s'=>UK s' k t) noFill_list_mul F.fills_int_mul UO repeat_list F.slot_int_index.lookup
  (P6 UO (UK s k t) F.entry_int_rmul (F.args_int_rmul_2 _ _) (int___rmul___int_list k t l its.toArray n)
   ⟨e,rfl,⟨_,e,rfl⟩,P6 F.slot_list_mul ⟨_,e,rfl⟩ F.entry_list_mul (F.args_list_mul_2 _ _) (AutoListH.list___mul___list_int_3 l its.toArray n k t hfit hcap hlong) ⟨e,?_⟩⟩)
 rw [hnew]
 exact ⟨.ref _,_,I.lnew (t':=s.toks) (r.rep k.toNat) (by rw [IY,N8]; exact hz),rfl,q _ I.fresh⟩
end
section
variable {prog:Program} {w:World} {A:Around} {E:Value->Shared->Prop} {s:Shared}
end
section
variable {X:Cx}
end
end L2
namespace Att
open PySem PySem.W PySem.Calls PyProof.Rows
theorem va {P:Params} {h:Heap}:∀ (ns:List Int) (vs:List Value),WellAll P h vs (ns.map WData.int)->IntsAre vs ns:=by
 intro ns
 induction ns with
 | nil=>
  intro vs w
  rw [Pu] at w
  cases w
  exact .nil
 | cons n ns ih=>
  intro vs w
  rw [Mo] at w
  cases w with
  | cons a b=>
   cases a
   exact .cons _ _ (ih _ b)
theorem EW {l:OpenLaw} {n:Nat} (hn:l.most=some n) {P:Params} {h:Heap} {args:List WData} {vals:List Value}
  (hpre:l.row.toRowW.claim.pre args=true) (hwl:WellAll P h vals args):
  ∃ a vs ns,vals=[MA a]/\args=[WData.list (ns.map WData.int)]/\h.get? a=some { cls:=.type "list",data:=.seq vs.toArray }/\IntsAre vs ns/\ns.length<=n:=by
 have hsh:WShape.hasAll [] args [.list .int]=true:=(pre_splitW hpre).1
 have hc:l.pre.holds [] { args:=args }=true:=(pre_splitW hpre).2
 obtain ⟨d,r,rfl,h1,h2⟩:=hasAllW_cons hsh
 obtain rfl:=hasAllW_nil h2
 obtain ⟨xs,rfl,h3⟩:=hasW_list h1
 obtain ⟨ns,rfl⟩:=items_int h3
 have hlen:ns.length<=n:=by
  unfold OpenLaw.pre at hc
  have h4:(WTm.not (.lt (.lit (.int (n:Int))) (.len (.arg 0)))).holds [] { args:=[.list (ns.map .int)] }=true:=by
   have h4:=(holds_andW hc).1
   rw [hn] at h4
   exact h4
  have h5:=condW_of h4 (w_not (w_lt w_lit (w_len_list (w_arg rfl))))
  rw [LR] at h5
  refine RO fun q=>?_
  have q':(n:Int) < ((ns.length:Nat):Int):=by omega
  first
   | (rw [decide_eq_true q'] at h5; exact absurd h5 (by decide))
   | (simp at h5; omega)
 cases hwl with
 | cons w1 w2=>
  cases w2
  cases w1 with
  | list ho hall=>exact ⟨_,_,ns,rfl,rfl,ho,va ns _ hall,hlen⟩
theorem EX (l:OpenLaw) (args:List WData):l.row.toRowW.claim.post args (.bool true) args=true:=
 postW_of (r:=l.row.toRowW) (X:=(true == true))
  (show WShape.has [] (.bool true) .bool=true by first | rfl | decide | simp [WShape.has,WShape.arms,WShape.armsAll])
  (show (WTm.eq .res (.lit (.bool true))).value [] { args:=args,res:=some (.bool true),after:=args }=some (.bool (true == true)) from w_eq_bool (w_res rfl) w_lit) rfl
section
variable {prog:Program} {w:World} {A:Around} {E:Value->Shared->Prop} {s:Shared} {K:Frag}
end
end Att
namespace L2
open PySem PySem.Spec PyProof.Rows
theorem qR:∀ {vs:List Value} {ns:List Int},IntsAre vs ns->aG (ns.map V.int) vs
 | _,_,.nil=>.nil
 | _,_,.cons n t h=>.cons ⟨t,rfl⟩ (qR h)
noncomputable def Kf (H:Hp):Prop:=∀ b,H b=none\/∃ o xs,H b=some (.frz o (.lst xs))
theorem Gu {P:Program} {w:World} {K:Fg} {mg mb:Str->Option Value} {CX:CXT} {k:Nat} {fa a:Addr} {fd:Mi} {x:Str} {sp:Sp} {s₁:Shared} {vs:List Value} {ns:List Int}
  (KX:K.In s₁.heap) (hns:s₁.heap.Ns Mx mg) (hb:s₁.heap.Ns UE mb) (hbb:∀ x:Str,x≠"__name__"->mb x=PR x) (hlim:s₁.heap.NoLimit) (hg:s₁.gens=#[])
  (ha:s₁.heap.get? a=some { cls:=.type "list",data:=.seq vs.toArray }) (hi:IntsAre vs ns) (hl:ns.length<=Mb) (hr:cj k callerA)
  (F:∀ base:Heap,K.In base->base.Ns Mx mg->iM P w K mg base CX k fa fd [x] sp) (hbind:∀ (s:Shared) (u:Value),BindsTo s fd ⟨[u],[]⟩ [(x,u)])
  (hsp:∀ H:Hp,Kf H->SqL K H a (ns.map V.int)->sp [.ref a] H (fun v _=>v=.bl true) fun _ _ _=>False)
  (hCX:∀ H e s',CX [] H s₁ (fun _ _ _=>False) e s'->False):
  codeAny (model P w) callerA (.call (.ref fa) ⟨[.ref a],[]⟩) (fun r s'=>r=.ok (.ret (.bool true))/\OldK s₁.heap s'.heap/\s'.os=s₁.os/\AllBare s'.gens) s₁:=by
 have rv:=qR hi
 have lenV:=hi.length
 have core:∀ H:Hp,Kf H->SqL K H a (ns.map V.int)->HOk P w H s₁.heap->(∀ b,H b≠none->b=a)->(H a≠none->K.lookup a=none)->
   codeAny (model P w) callerA (.call (.ref fa) ⟨[.ref a],[]⟩) (fun r s'=>r=.ok (.ret (.bool true))/\OldK s₁.heap s'.heap/\s'.os=s₁.os/\AllBare s'.gens) s₁:=by
  intro H hO hS hok hA hK
  have base_of:∀ {b:Addr} {o:Obj},s₁.heap.get? b=some o->H b=none->(oT s₁.heap H).get? b=some o:=fun e n=>Gf e n
  have noA:∀ {b:Addr} {o:Obj} {es:Array To} {ep:Nat},s₁.heap.get? b=some o->o.data=.dict es ep->H b=none:=fun {b o es ep} e d=>by
   cases q:H b with
   | none=>rfl
   | some u=>
    have e':b=a:=hA b (by rw [q]; simp)
    subst e'
    rw [ha] at e; cases e
    have d':Data.seq vs.toArray _=Data.dict es ep:=d
    cases d'
  have nsK:∀ {b:Addr} {m:Str->Option Value},s₁.heap.Ns b m->(oT s₁.heap H).Ns b m:=fun {b m} ⟨o,es,ep,e,d,r⟩=>⟨o,es,ep,base_of e (noA e d),d,r⟩
  have hKb:K.In (oT s₁.heap H):=fun b o e=>base_of (KX b o e) (by
   cases q:H b with
   | none=>rfl
   | some u=>
    have e':b=a:=hA b (by rw [q]; simp)
    subst e'
    rw [hK (by rw [q]; simp)] at e; cases e)
  have hM:Mod K mg (oT s₁.heap H):=⟨hKb,nsK hns,⟨mb,nsK hb,hbb⟩,let ⟨mc,h1,h2⟩:=hlim; ⟨mc,nsK h1,h2⟩⟩
  have e0:uo P w K mg (oT s₁.heap H) callerA [] s₁ H:=⟨rfl,hM,fun b o e=>IJ e,OZ (EA _ _),trivial,fun b hb=>absurd (show b∈([]:List Addr) from hb) (by simp),hok,.of_eq hg⟩
  refine Pt ((F _ hKb (nsK hns)).run callerA [] s₁ H ⟨[.ref a],[]⟩ [.ref a] [.ref a] _ _ hr e0 (hbind s₁ (.ref a)) (.cons rfl .nil) (hsp H hO hS)) fun r s' h=>?_
  cases r with
  | error e=>exact (hCX H e s' h).elim
  | ok fl=>
   cases fl with
   | next=>exact N2 h
   | brk=>exact N2 h
   | cont=>exact N2 h
   | ret u=>
    obtain ⟨v,H',os,bare,un,hok',r',q⟩:=h
    have q':v=.bl true:=q
    subst q'
    obtain rfl:u=Nh true:=r'
    refine ⟨rfl,OldK.of_keep fun b o e=>?_,os,bare⟩
    cases q:H b with
    | none=>exact un.keep b o e q (by intro z; exact absurd (show b∈([]:List Addr) from z) (by simp)) (by simp)
    | some u=>
     rcases hO b with z | ⟨ob,xs,z⟩
     ·rw [q] at z; cases z
     ·have z2:=un.frzs b ob _ z
      obtain ⟨e1,_⟩:=hok b _ z
      obtain ⟨e2,_⟩:=hok' b _ z2
      rw [e] at e1; cases e1
      exact e2
 cases hk:K.lookup a with
 | some o=>
  have e:=KX a o hk
  rw [ha] at e
  cases e
  refine core (fun _=>none) (fun _=>.inl rfl) (.inr ⟨_,vs.toArray,_,hk,rfl,rfl,rfl,by rw [Me,lenV]; exact hl,by simpa using rv⟩) (fun b u z=>by have z':(none:Option HO)=some u:=z; cases z') (fun b z=>absurd rfl z) fun z=>absurd rfl z
 | none=>
  refine core (fun b=>if b=a then some (.frz { cls:=.type "list",data:=.seq vs.toArray } (.lst (ns.map V.int))) else none) (fun b=>?_) (.inl (.inr ⟨{ cls:=.type "list",data:=.seq vs.toArray },if_pos rfl⟩)) (fun b u z=>?_) (fun b z=>?_) fun _=>hk
  ·by_cases hb:b=a
   ·exact .inr ⟨_,_,if_pos hb⟩
   ·exact .inl (if_neg hb)
  ·by_cases hb:b=a
   ·have z':=(if_pos hb).symm.trans z
    cases z'
    subst hb
    exact ⟨ha,by rw [LR]; exact hl,vs,_,rv,ha⟩
   ·have z':=(if_neg hb).symm.trans z
    cases z'
  ·by_cases hb:b=a
   ·exact hb
   ·exact absurd (if_neg hb) z
end L2
namespace L2
open PySem PySem.Spec PyProof.Rows
end L2
namespace L2
open PySem PySem.Spec PyProof.Rows
noncomputable def jF (s:Stmt) (j:Nat):Stmt:=match s with
 | .ClassDef _ _ _ body _ _ _ _ _ _ _=>body.getD j (.Pass ⟨0,0,0,0⟩)
 | _=>.Pass ⟨0,0,0,0⟩
noncomputable def jG (s:Stmt):Arguments:=match s with
 | .FunctionDef _ a _ _ _ _ _ _ _ _=>a
 | _=>{ posonlyargs:=[],args:=[],vararg:=none,kwonlyargs:=[],kw_defaults:=[],kwarg:=none,defaults:=[] }
noncomputable def fz (s:Stmt):List Stmt:=match s with
 | .FunctionDef _ _ b _ _ _ _ _ _ _=>b
 | _=>[]
noncomputable def ab (s:Stmt):Scope:=match s with
 | .FunctionDef _ _ _ _ _ _ sc _ _ _=>sc
 | _=>{ kind:=.function,names:=[],isGenerator:=false,isCoroutine:=false }
noncomputable abbrev CX0:CXT:=fun _ _ _ _ _ _=>False
noncomputable abbrev E0:XK:=fun _ _ _=>False
theorem CU {X:Cx}:nZ CX0 X E0:=fun _ _ _ _ _ _ _ h=>h.elim
structure Fun (K:Fg) (x qual:Str) (st:Stmt) (f:Addr) (fd:Mi):Prop where
 ex:∃ (oc:Value) (od:Option Addr) (kV doc pm:Value) (an:Option Addr) (cdv ct:Value) (osl:Array (Option Value)),
  fd=PV x qual (jG st) (fz st) (ab st) .none kV doc pm an cdv ct/\K.lookup f=some ⟨oc,od,.func fd,osl⟩/\SA K cdv qual=true
 kp:Pr K (.ref f)=true
section
variable {P:Program} {w:World} {K:Fg} {mg:Str->Option Value} {base:Heap}
theorem Fun.ok {x qual:Str} {st:Stmt} {f:Addr} {fd:Mi} {N ps:List Str} {k:Nat} {sp:Sp} (F:Fun K x qual st f fd) (S:aD N ps (ab st)) (len:∀ vs H Q E,sp vs H Q E->vs.length=ps.length)
  (hbody:∀ (cdv:Value) (A:Around) (outer:List Env) (s:Shared) (H:Hp) (vs:List V) (Q:VK) (E:XK),cj k (A.deeper (envOfC qual (ab st) s.heap.objs.size f cdv))->sp vs H Q E->
   ∃ t,PSs (oY CX0 P w K mg base N qual (ab st) f cdv A outer s H E).nox (fz st) t/\t { nx:=fun _ H'=>Q .non H',rt:=Q } (start N vs) H):iM P w K mg base CX0 (k + 1) f fd ps sp:=by
 obtain ⟨oc,od,kV,doc,pm,an,cdv,ct,osl,rfl,lk,hcd⟩:=F.ex
 refine K6 lk hcd S len fun A outer s H vs Q E hr hsp=>?_
 obtain ⟨t,h,q⟩:=hbody cdv A outer s H vs Q E hr hsp
 exact ⟨t,h.nox,q⟩
theorem Fun.binds {x qual:Str} {st:Stmt} {f:Addr} {fd:Mi} {ps:List Str} (F:Fun K x qual st f fd)
  (h:∀ (kV doc pm:Value) (an:Option Addr) (cdv ct:Value) (us:List Value),us.length=ps.length->bindArgs (PV x qual (jG st) (fz st) (ab st) .none kV doc pm an cdv ct) ⟨us,[]⟩=pure (ps.zip us)):gr K fd ps []:=by
 obtain ⟨oc,od,kV,doc,pm,an,cdv,ct,osl,rfl,lk,hcd⟩:=F.ex
 exact .all (h kV doc pm an cdv ct)
theorem EY {x qual:Str} {st:Stmt} {f:Addr} {oc:Value} {od an:Option Addr} {osl:Array (Option Value)} {kV doc pm cdv ct:Value} (l:K.lookup f=some ⟨oc,od,.func (PV x qual (jG st) (fz st) (ab st) .none kV doc pm an cdv ct),osl⟩)
  (c:SA K cdv qual=true) (k:Pr K (.ref f)=true):Fun K x qual st f (PV x qual (jG st) (fz st) (ab st) .none kV doc pm an cdv ct):=⟨⟨oc,od,kV,doc,pm,an,cdv,ct,osl,rfl,l,c⟩,k⟩
end
theorem EZ {n:Nat} (h:n<=1000):n < Mb:=Pa h (by decide)
section
variable {X:Cx}
theorem pv (i:Nat) {x:Str} {pos:Pos} (hN:X.N[i]?=some x:=by rfl) (hv:Vis X.env.scope x:=by first | exact L8 rfl | exact PF (L8 rfl) | exact PF (PF rfl)) (hd:(x == ("__debug__":Str))=false:=by decide)
  (hcd:(x == ("__classdict__":Str))=false:=by decide):PE X (.Name x pos) (ac i):=EB hN hv hd hcd
end
theorem nE {A B:Prop} (h:B):if false=true then A else B:=by
 rw [if_neg Ma]
 exact h
theorem oZ {A B:Prop} (h:A):if true=true then A else B:=by
 rw [if_pos rfl]
 exact h
noncomputable def am (H H':Hp):Prop:=∀ b o,H b=some o->H' b=some o
theorem am.refl (H:Hp):am H H:=fun _ _ h=>h
theorem am.trans {H H1 H2:Hp} (a:am H H1) (b:am H1 H2):am H H2:=fun c o h=>b c o (a c o h)
theorem am.free {H H':Hp} (e:am H H') {l:Addr} (h:H' l=Option.none):H l=Option.none:=by
 cases q:H l with
 | none=>rfl
 | some o=>
  rw [e l o q] at h
  cases h
theorem am.seq {K:Fg} {H H':Hp} {a:Addr} {xs:List V} (e:am H H') (h:SqL K H a xs):SqL K H' a xs:=by
 rcases h with (h | ⟨o,h⟩) | h
 ·exact .inl (.inl (e _ _ h))
 ·exact .inl (.inr ⟨o,e _ _ h⟩)
 ·exact .inr h
end L2
end
namespace L2
open PySem PyProof.Rows
section
open PySem.Spec
theorem kK {a b:Addr} {n:Nat} (h:a < n) (h':n<=b):a≠b:=MC (Mr h h')
theorem Kg {a b:Addr} {n:Nat} (h:n<=a) (h':b < n):a≠b:=On (Mr h' h)
noncomputable def dz (env:Env):List (Str×MQ)->List (Str×Addr)->List (Str×Addr)
 | [],acc=>acc
 | (n,k) :: r,acc=>if k=.free then (match env.cells.lookup n with | some c=>dz env r ((n,c) :: acc) | none=>dz env r acc) else dz env r acc
theorem ll {env:Env}:∀ (ns:List (Str×MQ)) (acc:List (Str×Addr)),(∀ p∈acc,env.cells.lookup p.1=some p.2)->∀ p∈dz env ns acc,env.cells.lookup p.1=some p.2
 | [],acc,h=>by intro p hp; exact h p hp
 | (n,k) :: r,acc,h=>by
  intro p hp
  rw [dz] at hp
  split at hp
  ·split at hp
   ·rename_i c hc
    refine ll r _ (fun q hq=>?_) p hp
    rcases L7.mp hq with rfl | hq
    ·exact hc
    ·exact h q hq
   ·exact ll r acc h p hp
  ·exact ll r acc h p hp
theorem o0 {env:Env}:∀ (ns:List (Str×MQ)) (acc:List (Str×Addr)),∀ p∈acc,p∈dz env ns acc
 | [],acc=>fun p hp=>hp
 | (n,k) :: r,acc=>fun p hp=>by
  rw [dz]
  split
  ·split
   ·exact o0 r _ p (Mh _ hp)
   ·exact o0 r acc p hp
  ·exact o0 r acc p hp
theorem pb {env:Env}:∀ (ns:List (Str×MQ)) (acc:List (Str×Addr)) (x:Str) (c:Addr),(x,NF)∈ns->env.cells.lookup x=some c->(x,c)∈dz env ns acc
 | [],acc,x,c=>fun h _=>(nomatch h)
 | (n,k) :: r,acc,x,c=>fun h hc=>by
  rw [dz]
  rcases L7.mp h with e | h
  ·cases e
   rw [if_pos rfl,hc]
   exact o0 r _ _ Mc
  ·split
   ·split
    ·exact pb r _ x c h hc
    ·exact pb r acc x c h hc
   ·exact pb r acc x c h hc
theorem qe {α:Type} {x:Str} {c:α}:∀ {l:List (Str×α)},(x,c)∈l->∃ d,l.lookup x=some d
 | (y,d) :: r,h=>by
  rw [MX]
  cases e:x == y with
  | true=>exact ⟨d,rfl⟩
  | false=>
   rcases L7.mp h with q | q
   ·cases q
    rw [beq_self_eq_true] at e
    cases e
   ·exact qe q
theorem cf {env:Env} {ns:List (Str×MQ)} {x:Str} {c:Addr} (h:(dz env ns []).lookup x=some c):env.cells.lookup x=some c:=
 ll ns [] (fun _ hp=>(nomatch hp)) (x,c) (MJ h)
theorem mQ {env:Env} {ns:List (Str×MQ)} {x:Str} {c:Addr} (hm:(x,NF)∈ns) (hc:env.cells.lookup x=some c):(dz env ns []).lookup x=some c:=by
 obtain ⟨d,hd⟩:=qe (pb ns [] x c hm hc)
 have e:=cf hd
 rw [hc] at e
 cases e
 exact hd
theorem pc {scope:Scope} {env:Env} (h:∀ y∈scope.names,y.2=.free->∃ c,env.cells.lookup y.1=some c):RC scope env=pure (dz env scope.names []):=by
 have go:∀ (ns:List (Str×MQ)) (acc:List (Str×Addr)),(∀ y∈ns,y.2=.free->∃ c,env.cells.lookup y.1=some c)->
   (forIn ns acc fun (x:Str×MQ) (cs:List (Str×Addr))=>(match x with
    | (name,kind)=>if (kind == NF)=true then (do let c <-cellOf env name; pure (Pb ((name,c) :: cs))) else pure (Pb cs):Sem (ForInStep (List (Str×Addr)))))=(pure (dz env ns acc):Sem (List (Str×Addr))):=by
  intro ns
  induction ns with
  | nil=>intro acc _; rfl
  | cons y r ih=>
   intro acc hy
   obtain ⟨n,k⟩:=y
   have ih':=fun acc=>ih acc fun z hz=>hy z (Mh _ hz)
   rw [PP,dz]
   by_cases hk:k=.free
   ·subst hk
    obtain ⟨c,hc⟩:=hy (n,.free) Mc rfl
    have hc':env.cells.lookup n=some c:=hc
    simp only [beq_self_eq_true,if_true,cellOf,hc',pure_bind]
    exact ih' _
   ·have hb:(k == NF)=false:=by simpa using hk
    simp only [hb,M4,if_false,pure_bind,if_neg hk]
    exact ih' _
 unfold RC
 have g:=go scope.names [] h
 simp only [bind_pure]
 exact g
structure qS (sc scope:Scope) (NX N:List Str) (ix:List (Option Nat)):Prop where
 kind:scope.kind=.function
 nocell:∀ y∈scope.names,y.2≠.cell
 names:∀ y∈scope.names,y.2=.local->scope.names.lookup y.1=some .local
 free:∀ y∈scope.names,y.2=.free->sc.names.lookup y.1=some .cell\/sc.names.lookup y.1=some .free
 nd:N.Nodup
 len:ix.length=N.length
 at_:∀ p∈N.zip ix,∀ i∈p.2,NX[i]?=some p.1/\scope.names.lookup p.1=some .free
noncomputable def sub (ix:List (Option Nat)) (σ:St):St:=ix.map fun o=>match o with | some i=>(match σ[i]? with | some v=>v | none=>none) | none=>none
noncomputable def cL (X:Cx) (N:List Str) (scope:Scope) (C:Addr) (s:Shared) (H:Hp) (fp:List Addr):Cx where
 prog:=X.prog
 w:=X.w
 K:=X.K
 mg:=X.mg
 base:=X.base
 A:=X.A
 N:=N
 s₀:=s
 H₀:=H
 env:=Qq scope (dz X.env scope.names []) C X.env
 outer:=X.stack
 stack:=X.stack
 ex:=fp
 fn:=fun _=>false
 calm:=X.calm
 pn:=[]
 xe:=fun _ _=>False
theorem i3 {scope:Scope} {env:Env} {x:Str} {k:MQ} (h:(relabel scope env).names.lookup x=some k):scope.names.lookup x=some k\/(k=.cell/\scope.names.lookup x=some .free):=by
 have go:∀ ns:List (Str×MQ),(ns.map fun (n,k)=>if (k == NF && env.scope.kind == .function && env.kindOf n == some .cell) then (n,PH) else (n,k)).lookup x=some k->
   ns.lookup x=some k\/(k=.cell/\ns.lookup x=some .free):=by
  intro ns
  induction ns with
  | nil=>intro q; simp at q
  | cons y r ih=>
   obtain ⟨n,k'⟩:=y
   intro q
   rw [Mo] at q
   by_cases hc:(k' == NF && env.scope.kind == .function && env.kindOf n == some .cell)=true
   ·simp only [hc,if_true] at q
    have hk':k'=.free:=by
     have:=(NM _ _ ▸ hc)
     have h1:=(NM _ _ ▸ this.1)
     exact eq_of_beq h1.1
    subst hk'
    rw [MX] at q ⊢
    cases e:x == n with
    | true=>
     rw [e] at q
     cases q
     exact .inr ⟨rfl,rfl⟩
    | false=>
     rw [e] at q
     exact ih q
   ·simp only [hc] at q
    rw [if_neg (by simp)] at q
    rw [MX] at q ⊢
    cases e:x == n with
    | true=>rw [e] at q; exact .inl q
    | false=>rw [e] at q; exact ih q
 exact go scope.names h
theorem qT {scope:Scope} {env:Env} {x:Str} (h:scope.names.lookup x=some .free):(relabel scope env).names.lookup x=some .cell\/(relabel scope env).names.lookup x=some .free:=by
 have go:∀ ns:List (Str×MQ),ns.lookup x=some .free->
   (ns.map fun (n,k)=>if (k == NF && env.scope.kind == .function && env.kindOf n == some .cell) then (n,PH) else (n,k)).lookup x=some .cell\/
   (ns.map fun (n,k)=>if (k == NF && env.scope.kind == .function && env.kindOf n == some .cell) then (n,PH) else (n,k)).lookup x=some .free:=by
  intro ns
  induction ns with
  | nil=>intro q; simp at q
  | cons y r ih=>
   obtain ⟨n,k'⟩:=y
   intro q
   rw [Mo]
   rw [MX] at q
   cases e:x == n with
   | true=>
    rw [e] at q
    cases q
    by_cases hc:(NF == NF && env.scope.kind == .function && env.kindOf n == some .cell)=true
    ·simp only [hc,if_true]
     rw [MX,e]
     exact .inl rfl
    ·simp only [hc]
     rw [if_neg (by simp),MX,e]
     exact .inr rfl
   | false=>
    rw [e] at q
    have z:=ih q
    by_cases hc:(k' == NF && env.scope.kind == .function && env.kindOf n == some .cell)=true
    ·simp only [hc,if_true]
     rw [MX,e]
     exact z
    ·simp only [hc]
     rw [if_neg (by simp),MX,e]
     exact z
 exact go scope.names h
theorem Inv.gone {X:Cx} {pins:List (Addr×Obj)} {σ σ₂:St} {H H₂:Hp} {s s₂:Shared} {C:Addr} {h'':Heap} (I:Inv X pins σ H s) (I2:Inv X pins σ₂ H₂ s₂) (hC:s₂.heap.objs.size<=C) (hn:H C=none) (hs:Mm C s.heap h''):Inv X pins σ H { s with heap:=h'' }:=
 I.turned (t':=s.toks) (it:=C) (fun b o hb e=>hs.extBut b o hb e) hn (On (Mr I2.lt hC)) (.inr (MD I2.sz hC))
  (fun x c e=>by
   obtain ⟨v,o,ho,_⟩:=I2.cell x c e
   exact kK (L5 ho) hC) fun q hq=>kK (L5 (I2.pin q hq).1) hC
noncomputable def PTL (X:Cx) (ifs:List Expr) (t:TT):Prop:=
 ∀ (pins:List (Addr×Obj)) (s:Shared) (σ:St) (H:Hp) (Q:Bool->Hp->Prop),Inv X pins σ H s->t σ H Q->
  wpAny (model X.prog X.w) X.A (forIn ifs true fun c r=>if r=true then do let ok <-isTrue c X.env (eval c X.env); pure (Pb ok) else pure (Pb r)) (TP X pins σ Q) X.xe s
noncomputable def bL:TT:=fun _ H Q=>Q true H
theorem bW {X:Cx}:PTL X [] bL:=fun _ _ _ H _ I h=>wpAny_tests_nil ⟨H,I,h⟩
theorem jH {X:Cx} {c:Expr} {t:TT} (h:PT X c t):PTL X [c] t:=fun pins s σ H Q I q=>wpAny_tests_one (h pins s σ H Q I q)
noncomputable def ca (J:It) (g:TG) (tt:TT) (te:TE) (σ₀:St) (p:Addr) (Q:VK) (W:Nat->Nat->List V->Hp->Prop):Prop:=
 ∀ i m acc H,W i m acc H->H p=some (.lst acc)/\
  ((J.stop i H/\Q (.ref p) H)\/(J.go i H/\acc.length < Mb/\∃ N:List V->Hp->Prop,(∀ acc' H',N acc' H'->∃ m',m' < m/\W (i + 1) m' acc' H')/\
   ∀ x H1,J.yld i H x H1->g x σ₀ H1 fun σ2 H2=>tt σ2 H2 fun b H3=>if b=true then te σ2 H3 fun y H4=>H4 p=some (.lst acc)/\N (acc++[y]) (upd H4 p (.lst (acc++[y]))) else N acc H3))
noncomputable abbrev CF (α:Type):=Addr->Shared->Hp->List Addr->α
noncomputable def bO (wi:TI) (g:CF TG) (tt:CF TT) (te:CF TE) (ix:List (Option Nat)):TE:=fun σ H Q=>wi σ H fun J H1=>∀ p,H1 p=none->
 ∃ W:Nat->Nat->List V->Hp->Prop,(∃ m,W 0 m [] (upd H1 p (.lst [])))/\∀ C s' H' fp,ca J (g C s' H' fp) (tt C s' H' fp) (te C s' H' fp) (sub ix σ) p Q W
section
variable {X:Cx} {elt tg iter:Expr} {ifs:List Expr} {scope sc:Scope} {pos:Pos} {NX N:List Str} {ix:List (Option Nat)} {wi:TI} {g:CF TG} {tt:CF TT} {te:CF TE}
theorem ye {prog:Program} {w:World} {A:Around} {R:Result->Shared->Prop} {s:Shared} {it acc:Value} {env:Env} (I:Nat->Shared->Prop)
  (turn:∀ n s,I n s->wpAny (model prog w) A (pyNext it) (fun r s₁=>match r with
   | none=>R (.ok .next) s₁
   | some v=>wpAny (model prog w) A (QA tg it v) (fun _ s₁'=>wpAny (model prog w) A (assign tg env v) (fun _ s₂=>
     wpAny (model prog w) A (forIn ifs true fun c r=>if r=true then do let ok <-isTrue c env (eval c env); pure (Pb ok) else pure (Pb r)) (fun ok s₃=>
      if ok=true then wpAny (model prog w) A (eval elt env) (fun x s₄=>
       wpAny (model prog w) A (call (.builtin "list.append") [acc,x]) (fun _ s₅=>∃ m,m < n/\I m s₅) (fun _ _=>False) s₄) (fun _ _=>False) s₃
      else ∃ m,m < n/\I m s₃) (fun _ _=>False) s₂) (fun _ _=>False) s₁') (fun _ _=>False) s₁) (fun _ _=>False) s)
  (n:Nat) (h:I n s):codeAny (model prog w) A (.compLoop (.ListComp elt [⟨tg,iter,ifs,0⟩] scope pos) 0 it acc env) R s:=by
 refine codeAny_loop rfl I (fun n s hI=>?_) n h
 show wpAny _ A ((compTurn (.ListComp elt [⟨tg,iter,ifs,0⟩] scope pos) 0 it acc env).onRaise (fun x=>do noteFrame x env; theTreesLotGoes x)) _ _ s
 refine wpAny_noted ?_
 rw [compTurn_list]
 refine LO (Rh (LO (NO (turn n s hI) (fun r s₁ h₁=>?_) fun _ _ z=>z.elim)))
 cases r with
 | none=>exact LQ h₁
 | some v=>
  refine LO (NO h₁ (fun _ s₁' h₁'=>?_) fun _ _ z=>z.elim)
  refine LO (NO h₁' (fun _ s₂ h₂=>LO (NO h₂ (fun ok s₃ h₃=>?_) fun _ _ z=>z.elim)) fun _ _ z=>z.elim)
  cases ok with
  | false=>exact LQ ⟨rfl,h₃⟩
  | true=>exact LO (LO (NO h₃ (fun x s₄ h₄=>LO (NO h₄ (fun _ s₅ h₅=>LQ (LQ ⟨rfl,h₅⟩)) fun _ _ z=>z.elim)) fun _ _ z=>z.elim))
theorem vc {pins:List (Addr×Obj)} {σ:St} {H:Hp} {s:Shared} {fp:List Addr} {it:Addr} {J:It} {tn:Nat->Heap->Prop} {Q:VK} {E:Value->Shared->Prop} {RR:Value->Addr->Result->Shared->Prop}
  (hc:X.calm=true) (hsc:X.env.scope=sc) (hNX:X.N=NX) (S:qS sc scope NX N ix)
  (hg:∀ C s H fp,PG (cL X N scope C s H fp) tg (g C s H fp)) (ht:∀ C s H fp,PTL (cL X N scope C s H fp) ifs (tt C s H fp)) (he:∀ C s H fp,PE (cL X N scope C s H fp) elt (te C s H fp))
  (I:Inv X pins σ H s) (T:qL X.prog X.w X.K tg J fp it tn) (st:tn 0 s.heap) (hf:∀ b∈fp,iZ X pins H b)
  (hq:∀ p,H p=none->∃ W:Nat->Nat->List V->Hp->Prop,(∃ m,W 0 m [] (upd H p (.lst [])))/\∀ C s' H' fp,ca J (g C s' H' fp) (tt C s' H' fp) (te C s' H' fp) (sub ix σ) p Q W)
  (hR:∀ p C s' H' m,s.heap.objs.size<=p->s.heap.objs.size<=C->s'.heap.Ns C m->H' C=none->Q (.ref p) H'->Inv X pins σ H' s'->RR (.ref p) C (.ok .next) s'):
  wpAny (model X.prog X.w) X.A (newList []) (fun acc s₃=>wpAny (model X.prog X.w) X.A (QU scope X.env.globals (dz X.env scope.names []) [] X.env.qual none .none (some X.env)) (fun cenv s₄=>
   codeAny (model X.prog X.w) X.A (.compStart (.ListComp elt [⟨tg,iter,ifs,0⟩] scope pos) 0 (.ref it) acc { cenv with scope:=relabel scope X.env }) (RR acc cenv.locals) s₄) E s₃) E s:=by
 refine MY (wpAny_newFunctionEnv S.nocell (by intro y hy; simp at hy) (fun h₁ hns₁ hsb₁=>?_) S.kind)
 dsimp only at hns₁ hsb₁ ⊢
 have hsz:(s.heap.push { cls:=.type "list",dict:=none,data:=.seq ([]:List Value).toArray }).objs.size=s.heap.objs.size + 1:=MG ..
 generalize hC:(s.heap.push { cls:=.type "list",dict:=none,data:=.seq ([]:List Value).toArray }).objs.size=C at hns₁ hsb₁ ⊢
 rw [hsz] at hC
 generalize hp:s.heap.objs.size=p at hC
 have pC:p≠C:=by omega
 have old:∀ b o,s.heap.get? b=some o->h₁.get? b=some o:=fun b o e=>hsb₁.extBut b o (kK (L5 e) (by omega)) (LP _ (LP _ e))
 have hnew:h₁.get? p=some { cls:=.type "list",data:=.seq ([]:List Value).toArray }:=hsb₁.extBut _ _ pC (LP _ (by rw [<-hp]; exact L6 _ rfl))
 have hfp:H p=none:=I.hok.fresh (by omega)
 have hfC:H C=none:=I.hok.fresh (by omega)
 have lt:∀ b∈fp,b < p:=fun b hb=>by
  obtain ⟨o,e,_⟩:=T.obj 0 _ st b hb
  rw [<-hp]
  exact L5 e
 have hcells:∀ y∈scope.names,y.2=.free->∃ c,X.env.cells.lookup y.1=some c:=fun y hy hk=>by
  refine I.ok.has y.1 ?_
  show X.env.scope.names.lookup y.1=some .cell\/X.env.scope.names.lookup y.1=some .free
  rw [hsc]
  exact S.free y hy hk
 have noown:∀ x,scope.names.lookup x≠some .cell:=fun x e=>S.nocell _ (MJ e) rfl
 have hok:(cL X N scope C s H fp).Ok:=by
  refine ⟨I.ok.mod,S.kind,I.ok.glob,I.ok.blt,by show s.heap.objs.size<=C; omega,fun x y c h1 h2=>I.ok.inj x y c (cf h1) (cf h2),fun x hx=>?_,fun x c z=>(by cases z),I.ok.hd,I.ok.frames,.inl rfl,fun b hb=>?_,I.bs,MD I.ok.bsz I.sz,fun b o e hb=>?_,fun b hb z=>?_,I.stack,I.stkFree⟩
  ·have hx':scope.names.lookup x=some .free:=by
    rcases hx with hx | hx
    ·rcases i3 hx with q | q
     ·exact absurd q (noown x)
     ·exact q.2
    ·rcases i3 hx with q | q
     ·exact q
     ·exact q.2
   obtain ⟨c,hc'⟩:=hcells _ (MJ hx') rfl
   exact ⟨c,mQ (MJ hx') hc'⟩
  ·refine ⟨?_,fun x c e=>(hf b hb).2.2.2.2.1 x c (cf e)⟩
   show b≠C
   exact kK (lt b hb) (by omega)
  ·rcases (hf b hb).2.2.2.1 with z | z
   ·exact I.ok.noex b o e z
   ·exact absurd (Mr (L5 e) (MD I.ok.bsz z)) (Nd _)
  ·rcases L7.mp (I.stkSub b z) with q | q
   ·exact (hf b hb).2.1 q
   ·exact (hf b hb).2.2.1 q
 have locs:∀ h':Heap,(∀ x c o,X.env.cells.lookup x=some c->s.heap.get? c=some o->∃ sl,h'.get? c=some { o with slots:=sl })->
   ∀ (i:Nat) (x:Str) (v:V),N[i]?=some x->(sub ix σ)[i]?=some (some v)->∃ u,aH v u/\∀ m,Gg (Qq scope (dz X.env scope.names []) C X.env) h' m x u:=by
  intro h' hk i x v h1 h2
  obtain ⟨k,hk',hv⟩:∃ k,ix[i]?=some (some k)/\σ[k]?=some (some v):=by
   unfold sub at h2
   rw [LX] at h2
   cases e:ix[i]? with
   | none=>rw [e] at h2; cases h2
   | some o=>
    rw [e] at h2
    cases o with
    | none=>cases h2
    | some k=>
     refine ⟨k,rfl,?_⟩
     have h2':(match σ[k]? with | some v=>v | none=>none)=some v:=L9 h2
     cases e2:σ[k]? with
     | none=>rw [e2] at h2'; cases h2'
     | some z=>
      rw [e2] at h2'
      rw [show z=some v from h2']
  have hm:(x,some k)∈N.zip ix:=by
   refine LZ (i:=i) ?_
   rw [Ou]
   exact ⟨h1,hk'⟩
  obtain ⟨a1,a2⟩:=S.at_ _ hm k (by simp)
  have hX:=S.free _ (MJ a2) rfl
  have hvis:Vis X.env.scope x:=by
   show _\/_\/_
   rw [hsc]
   exact .inr hX
  obtain ⟨m,hn,hl⟩:=I.loc
  obtain ⟨u,r,l⟩:=hl k x v (by rw [hNX]; exact a1) hv hvis
  refine ⟨u,r,fun m'=>.inr ⟨qT a2,?_⟩⟩
  rcases l with ⟨l,_⟩ | ⟨_,c,e,z⟩
  ·have l':X.env.scope.names.lookup x=some .local:=l
   rw [hsc] at l'
   rcases hX with q | q <;> (rw [q] at l'; cases l')
  ·obtain ⟨o,ho,hd⟩:=z
   obtain ⟨sl,e'⟩:=hk x c o e ho
   exact ⟨c,mQ (MJ a2) e,_,e',hd⟩
 have hlen:(sub ix σ).length=N.length:=by
  unfold sub
  rw [LR]
  exact S.len
 have I1:Inv (cL X N scope C s H fp) [] (sub ix σ) (upd H p (.lst [])) { s with heap:=h₁,toks:=s.toks + ([]:List (Str×Value)).length }:=by
  refine ⟨hok,rfl,I.bare,Un.laid old (OZ hp) hfp,⟨_,hns₁,fun i x v h1 h2 h3=>?_⟩,fun x c e=>?_,?_,fun x c e=>?_,fun q hq=>(nomatch hq),I.hok.laid old (OZ hp) ⟨M7 _,[],0,.nil,hnew⟩,hlen⟩
  ·obtain ⟨u,r,l⟩:=locs h₁ (fun y c o _ ho=>⟨o.slots,old c o ho⟩) i x v h1 h2
   exact ⟨u,r,l _⟩
  ·obtain ⟨v,o,ho,hd⟩:=I.cell x c (cf e)
   exact ⟨v,o,old c o ho,hd⟩
  ·show upd H p _ C=none
   rw [aM (Np pC)]
   exact hfC
  ·have e':=cf e
   obtain ⟨v,o,ho,hd⟩:=I.cell x c e'
   rw [aM (kK (L5 ho) (OZ hp))]
   exact I.freeC x c e'
 have back:∀ {pl:List (Addr×Obj)} {σ':St} {H':Hp} {s':Shared},Inv (cL X N scope C s H fp) pl σ' H' s'->Inv (cL X N scope C s H fp) pl (sub ix σ) H' s':=fun {pl σ' H' s'} J=>by
  obtain ⟨m,hn,_⟩:=J.loc
  refine ⟨J.ok,J.os,J.bare,J.base,⟨m,hn,fun i x v h1 h2 h3=>?_⟩,J.cell,J.free,J.freeC,J.pin,J.hok,hlen⟩
  obtain ⟨u,r,l⟩:=locs s'.heap (fun y c o hc' ho=>J.base.any ho (I.freeC y c hc') fun hb=>(hf c hb).2.2.2.2.1 y c hc' rfl) i x v h1 h2
  exact ⟨u,r,l _⟩
 obtain ⟨W,⟨m0,w0⟩,turn⟩:=hq p hfp
 have st1:tn 0 h₁:=T.keep 0 _ _ st fun b _ o e=>old b o e
 have fp1:∀ {H':Hp},(∀ b∈fp,H' b=none)->∀ b∈fp,iZ (cL X N scope C s H fp) [] H' b:=fun {H'} hn b hb=>
  ⟨hn b hb,(hok.exf b hb).1,hok.exfs b hb,.inl hb,(hok.exf b hb).2,fun q hq=>(nomatch hq)⟩
 have loop:codeAny (model X.prog X.w) X.A (.compLoop (.ListComp elt [⟨tg,iter,ifs,0⟩] scope pos) 0 (.ref it) (.ref p) (Qq scope (dz X.env scope.names []) C X.env)) (RR (.ref p) C) { s with heap:=h₁,toks:=s.toks + ([]:List (Str×Value)).length }:=by
  refine ye (fun n s'=>∃ i acc H',Inv (cL X N scope C s H fp) [] (sub ix σ) H' s'/\tn i s'.heap/\(∀ b∈fp,H' b=none)/\W i n acc H') ?_ m0
   ⟨0,[],_,I1,st1,fun b hb=>by rw [aM (kK (lt b hb) (LV _))]; exact (hf b hb).1,w0⟩
  rintro n s3 ⟨i,acc,H3,I3,st3,fr3,w3⟩
  obtain ⟨hacc,w4⟩:=turn C s H fp i n acc H3 w3
  rcases w4 with ⟨stop,qn⟩ | ⟨go,hln,N',hN',step⟩
  ·refine thn (T.done (cL X N scope C s H fp) rfl rfl rfl hc i [] s3 _ H3 (fun _ _=>False) I3 (fp1 fr3) st3 stop) fun r s4 ⟨hr,I4⟩=>?_
   subst hr
   obtain ⟨m,hn,_⟩:=I4.loc
   refine hR p C s4 H3 m (by omega) (by omega) hn I4.free qn ?_
   exact I.call' I4.os I4.base I4.hok I4.bare fun b hb=>⟨(hf b hb).2.2.2.1,(hf b hb).2.1,(hf b hb).2.2.2.2.1,(hf b hb).2.2.2.2.2⟩
  ·refine thn (T.item (cL X N scope C s H fp) rfl rfl rfl hc i [] s3 _ H3 (fun _ _=>False) I3 (fp1 fr3) st3 go) fun r s4 ⟨u,hr,h4⟩=>?_
   subst hr
   refine thn h4 fun _ s5 ⟨x,H5,I5,r5,y5,st5,fr5⟩=>?_
   have I5':=I5.pinned (fp1 fr5) (T.obj _ _ st5)
   refine thn (hg C s H fp _ s5 _ H5 x u _ I5' r5 (step x H5 y5)) fun _ s6 ⟨σ6,H6,I6,q6⟩=>?_
   have later:∀ {s7:Shared} {H7:Hp} {acc':List V} {σ7:St},Inv (cL X N scope C s H fp) ([]++nX fp s5.heap) σ7 H7 s7->(∃ m',m' < n/\W (i + 1) m' acc' H7)->
     ∃ m,m < n/\∃ i acc H',Inv (cL X N scope C s H fp) [] (sub ix σ) H' s7/\tn i s7.heap/\(∀ b∈fp,H' b=none)/\W i m acc H':=fun {s7 H7 acc' σ7} I7 ⟨m',hm,w7⟩=>by
    refine ⟨m',hm,i + 1,acc',H7,back (I7.unpinned (pins:=[])),T.keep _ _ _ st5 fun b hb o e=>(I7.pin (b,o) (MB _ (MB _ (gQ hb e)))).1,fun b hb=>?_,w7⟩
    obtain ⟨o,e,d⟩:=T.obj _ _ st5 b hb
    exact (I7.pin (b,o) (MB _ (MB _ (gQ hb e)))).2.1
   refine thn (ht C s H fp _ s6 σ6 H6 _ I6 q6) fun ok s7 ⟨H7,I7,q7⟩=>?_
   cases ok with
   | false=>exact later I7 (hN' _ _ q7)
   | true=>
    refine thn (he C s H fp _ s7 σ6 H7 _ I7 q7) fun y s8 ⟨v8,H8,I8,r8,hacc8,w8⟩=>?_
    refine thn (db (X:=cL X N scope C s H fp) _ s8 σ6 H8 (.ref p) [v8] (.ref p) [y] (fun _ H9=>H9=upd H8 p (.lst (acc++[v8]))) I8 rfl (.cons r8 .nil) ⟨p,acc,v8,rfl,rfl,hacc8,hln,rfl⟩) fun _ s9 ⟨_,H9,I9,_,e9⟩=>?_
    subst e9
    exact later I9 (hN' _ _ w8)
 exact Su loop (T.self _ 0 _ _ _ st1 loop)
theorem bA (hc:X.calm=true) (S:qS sc scope NX N ix) (hi:PI X tg iter wi)
  (hg:∀ C s H fp,PG (cL X N scope C s H fp) tg (g C s H fp)) (ht:∀ C s H fp,PTL (cL X N scope C s H fp) ifs (tt C s H fp)) (he:∀ C s H fp,PE (cL X N scope C s H fp) elt (te C s H fp))
  (hsc:X.env.scope=sc:=by rfl) (hNX:X.N=NX:=by rfl) (hs:∀ x,Qd iter X.env x=pure x:=by intro _; rfl):
  PE X (.ListComp elt [⟨tg,iter,ifs,0⟩] scope pos) (bO wi g tt te ix):=by
 intro pins s σ H Q I h
 rw [eval_ListComp]
 have hcells:RC scope X.env=pure (dz X.env scope.names []):=pc fun y hy hk=>by
  refine I.ok.has y.1 ?_
  show X.env.scope.names.lookup y.1=some .cell\/X.env.scope.names.lookup y.1=some .free
  rw [hsc]
  exact S.free y hy hk
 refine PY (use:=none) rfl hs hcells S.kind S.names (thn (hi pins s σ H _ I h) fun v s1 h1=>thn h1 fun itv s2 h2=>?_)
 obtain ⟨it,fp,tn,J,H2,e,I2,T,st2,f2,hq⟩:=h2
 subst e
 refine vc (Q:=Q) (RR:=fun acc C=>compPost (model X.prog X.w) X.A X.xe none (EP X pins σ Q) acc C) hc hsc hNX S hg ht he I2 T st2 f2 hq ?_
 intro p C s' H' m hp hC hn hfree q I'
 exact ⟨m,hn,fun h'' hs''=>⟨.ref p,H',I'.gone I2 hC hfree hs'',rfl,q⟩⟩
theorem vd {i:Nat} {y:Str} {py spos:Pos} (hN:X.N.Nodup) (hy:X.N[i]?=some y) (hl:X.env.scope.names.lookup y=some .local) (hc:X.calm=true) (S:qS sc scope NX N ix) (hi:PI X tg iter wi)
  (hg:∀ C s H fp,PG (cL X N scope C s H fp) tg (g C s H fp)) (ht:∀ C s H fp,PTL (cL X N scope C s H fp) ifs (tt C s H fp)) (he:∀ C s H fp,PE (cL X N scope C s H fp) elt (te C s H fp))
  (hsw:Tj (.ListComp elt [⟨tg,iter,ifs,0⟩] scope pos) (some (.Name y py)) spos.line X.env=pure true:=by rfl)
  (hsc:X.env.scope=sc:=by rfl) (hNX:X.N=NX:=by rfl) (hs:∀ x,Qd iter X.env x=pure x:=by intro _; rfl):
  PS X (.Assign [.Name y py] (.ListComp elt [⟨tg,iter,ifs,0⟩] scope pos) spos) (aK (bO wi g tt te ix) (ao i)):=by
 intro pins s σ H D I h
 rw [exec_Assign_Name_used _ _ _ _ hsw]
 have hcells:RC scope X.env=pure (dz X.env scope.names []):=pc fun z hz hk=>by
  refine I.ok.has z.1 ?_
  show X.env.scope.names.lookup z.1=some .cell\/X.env.scope.names.lookup z.1=some .free
  rw [hsc]
  exact S.free z hz hk
 refine LO (Rh (LO ?_))
 show wpAny _ X.A (do let _ <-comprehension (.ListComp elt [⟨tg,iter,ifs,0⟩] scope pos) scope X.env _ (newList []) false (eval iter X.env) (some (assign (.Name y py) X.env))) _ _ s
 refine LO (thn (PY (use:=some (assign (.Name y py) X.env)) (Q:=fun _ s'=>SP X pins D .next s') rfl hs hcells S.kind S.names (thn (hi pins s σ H _ I h) fun v s1 h1=>thn h1 fun itv s2 h2=>?_)) fun _ s' q=>LQ (LQ q))
 obtain ⟨it,fp,tn,J,H2,e,I2,T,st2,f2,hq⟩:=h2
 subst e
 refine vc (Q:=fun x H1=>ao i x σ H1 D.nx) (RR:=fun acc C=>compPost (model X.prog X.w) X.A X.xe (some (assign (.Name y py) X.env)) (fun _ s'=>SP X pins D .next s') acc C) hc hsc hNX S hg ht he I2 T st2 f2 hq ?_
 intro p C s' H' m hp hC hn hfree q I'
 refine TL (xV (v:=.ref p) I' hN hy (.inl hl) rfl (fun s'' I'' ⟨a,hsb,ha⟩=>?_) (.inr hl))
 have ne:C≠a:=by
  rcases ha with rfl | ha
  ·exact On (Mr I2.lt hC)
  ·obtain ⟨v,o,ho,_⟩:=I2.cell y a ha
   exact On (Mr (L5 ho) hC)
 exact ⟨m,hn.sameBut hsb ne,fun h'' hs''=>⟨_,H',I''.gone I2 hC hfree hs'',q⟩⟩
end
section
variable {g:CF TG} {tt:CF TT} {te:CF TE} {σ₀:St} {p:Addr} {Q:VK} {H:Hp}
theorem og {J:It} {n:Nat} {Y:Nat->Hp->V->Hp->Prop} (Pv:Nat->List V->Hp->Prop) (h0:Pv 0 [] (upd H p (.lst []))) (hp:∀ i acc H,i<=n->Pv i acc H->H p=some (.lst acc)/\acc.length<=i) (hz:n<=Mb)
  (hgo:∀ i acc H,i < n->Pv i acc H->J.go i H) (hst:∀ acc H,Pv n acc H->J.stop n H) (hy:∀ i acc H x H1,i < n->Pv i acc H->J.yld i H x H1->Y i H x H1)
  (hs:∀ C s' H' fp,∀ i x acc H H1,i < n->Pv i acc H->Y i H x H1->g C s' H' fp x σ₀ H1 fun σ2 H2=>tt C s' H' fp σ2 H2 fun b H3=>if b=true then te C s' H' fp σ2 H3 fun y H4=>H4 p=some (.lst acc)/\Pv (i + 1) (acc++[y]) (upd H4 p (.lst (acc++[y]))) else Pv (i + 1) acc H3)
  (hd:∀ acc H,Pv n acc H->Q (.ref p) H):
  ∃ W:Nat->Nat->List V->Hp->Prop,(∃ m,W 0 m [] (upd H p (.lst [])))/\∀ C s' H' fp,ca J (g C s' H' fp) (tt C s' H' fp) (te C s' H' fp) σ₀ p Q W:=by
 refine ⟨fun i m acc H=>m=n - i/\i<=n/\Pv i acc H,⟨n,by simp,M7 _,h0⟩,?_⟩
 rintro C s' H' fp i m acc H ⟨rfl,hi,w⟩
 obtain ⟨h1,h2⟩:=hp i acc H hi w
 refine ⟨h1,?_⟩
 by_cases hlt:i < n
 ·exact .inr ⟨hgo i acc H hlt w,by omega,Pv (i + 1),fun acc' H' q=>⟨n - (i + 1),by omega,rfl,hlt,q⟩,fun x H1 y=>hs C s' H' fp i x acc H H1 hlt w (hy i acc H x H1 hlt w y)⟩
 ·have e:i=n:=by omega
  subst e
  exact .inl ⟨hst acc H w,hd acc H w⟩
theorem qU {K:Fg} {a:Addr} {xs:List V} (Pv:Nat->List V->Hp->Prop) (h0:Pv 0 [] (upd H p (.lst []))) (hp:∀ i acc H,i<=xs.length->Pv i acc H->H p=some (.lst acc)/\acc.length<=i) (hl:∀ i acc H,i<=xs.length->Pv i acc H->SqL K H a xs) (hz:xs.length<=Mb)
  (hs:∀ C s' H' fp,∀ i x acc H,xs[i]?=some x->Pv i acc H->g C s' H' fp x σ₀ H fun σ2 H2=>tt C s' H' fp σ2 H2 fun b H3=>if b=true then te C s' H' fp σ2 H3 fun y H4=>H4 p=some (.lst acc)/\Pv (i + 1) (acc++[y]) (upd H4 p (.lst (acc++[y]))) else Pv (i + 1) acc H3)
  (hd:∀ acc H,Pv xs.length acc H->Q (.ref p) H):
  ∃ W:Nat->Nat->List V->Hp->Prop,(∃ m,W 0 m [] (upd H p (.lst [])))/\∀ C s' H' fp,ca (Itl K a) (g C s' H' fp) (tt C s' H' fp) (te C s' H' fp) σ₀ p Q W:=
 og (Y:=fun i H x H1=>H1=H/\xs[i]?=some x) Pv h0 hp hz (fun i acc H hi w=>⟨xs,xs[i],hl i acc H (M8 hi) w,by simp [hi]⟩) (fun acc H w=>⟨xs,hl _ acc H (LV _) w,LV _⟩)
  (fun i acc H x H1 hi w y=>⟨y.1,y.2 xs (hl i acc H (M8 hi) w)⟩) (fun C s' H' fp i x acc H H1 hi w y=>by
   obtain ⟨e,y⟩:=y
   subst e
   exact hs C s' H' fp i x acc _ y w) hd
theorem Gv {K:Fg} {a:Addr} {xs:List V} (Pv:Nat->List V->Hp->Prop) (h0:Pv 0 [] (upd H p (.lst []))) (hp:∀ i acc H,i<=xs.length->Pv i acc H->H p=some (.lst acc)/\acc.length<=i) (hl:∀ i acc H,i<=xs.length->Pv i acc H->SqT K H a xs) (hz:xs.length<=Mb)
  (hs:∀ C s' H' fp,∀ i x acc H,xs[i]?=some x->Pv i acc H->g C s' H' fp x σ₀ H fun σ2 H2=>tt C s' H' fp σ2 H2 fun b H3=>if b=true then te C s' H' fp σ2 H3 fun y H4=>H4 p=some (.lst acc)/\Pv (i + 1) (acc++[y]) (upd H4 p (.lst (acc++[y]))) else Pv (i + 1) acc H3)
  (hd:∀ acc H,Pv xs.length acc H->Q (.ref p) H):
  ∃ W:Nat->Nat->List V->Hp->Prop,(∃ m,W 0 m [] (upd H p (.lst [])))/\∀ C s' H' fp,ca (Itt K a) (g C s' H' fp) (tt C s' H' fp) (te C s' H' fp) σ₀ p Q W:=
 og (Y:=fun i H x H1=>H1=H/\xs[i]?=some x) Pv h0 hp hz (fun i acc H hi w=>⟨xs,xs[i],hl i acc H (M8 hi) w,by simp [hi]⟩) (fun acc H w=>⟨xs,hl _ acc H (LV _) w,LV _⟩)
  (fun i acc H x H1 hi w y=>⟨y.1,y.2 xs (hl i acc H (M8 hi) w)⟩) (fun C s' H' fp i x acc H H1 hi w y=>by
   obtain ⟨e,y⟩:=y
   subst e
   exact hs C s' H' fp i x acc _ y w) hd
theorem pi {lo:Int} {n:Nat} (Pv:Nat->List V->Hp->Prop) (h0:Pv 0 [] (upd H p (.lst []))) (hp:∀ i acc H,i<=n->Pv i acc H->H p=some (.lst acc)/\acc.length<=i) (hz:n<=Mb)
  (hs:∀ C s' H' fp,∀ i acc H,i < n->Pv i acc H->g C s' H' fp (.int (lo + i)) σ₀ H fun σ2 H2=>tt C s' H' fp σ2 H2 fun b H3=>if b=true then te C s' H' fp σ2 H3 fun y H4=>H4 p=some (.lst acc)/\Pv (i + 1) (acc++[y]) (upd H4 p (.lst (acc++[y]))) else Pv (i + 1) acc H3)
  (hd:∀ acc H,Pv n acc H->Q (.ref p) H):
  ∃ W:Nat->Nat->List V->Hp->Prop,(∃ m,W 0 m [] (upd H p (.lst [])))/\∀ C s' H' fp,ca (Itr lo n) (g C s' H' fp) (tt C s' H' fp) (te C s' H' fp) σ₀ p Q W:=
 og (Y:=fun i H x H1=>H1=H/\x=.int (lo + i)) Pv h0 hp hz (fun i acc H hi w=>hi) (fun acc H w=>LV _) (fun i acc H x H1 hi w y=>y) (fun C s' H' fp i x acc H H1 hi w y=>by
   obtain ⟨e,e2⟩:=y
   subst e e2
   exact hs C s' H' fp i acc _ hi w) hd
end
end
section
open PySem.Spec
section
variable {prog:Program} {w:World} {A:Around} {E:Value->Shared->Prop} {s:Shared}
theorem ve {jt t:Addr} {i:Nat} {its:Array Value} {y:Value} {Q:Value->Shared->Prop} (h1:s.heap.IsTupleIter jt t i) (h2:s.heap.IsTuple t its) (hy:its[i]?=some y)
  (k:∀ h',h'.IsTupleIter jt t (i + 1)->Mm jt s.heap h'->Q y { s with heap:=h' }):wpAny (model prog w) A (MM (.ref jt)) Q E s:=by
 obtain ⟨o,ho,hc,hd⟩:=id h1
 obtain ⟨ot,hot,_,nt,hdt⟩:=h2
 unfold MM
 refine LO (M0 (name:=Nw "__next__") h1.typeIs OQ (ML OQ h1.typeIs Q6 ?_ (QV _)))
 show wpAny _ _ (field (.ref jt) 0 >>= _) _ _ s
 refine LO (Ng ho hd (x:=.ref t) rfl ?_)
 show wpAny _ _ (if (MA t == Nq)=true then _ else _) _ _ s
 rw [if_neg (show ¬ ((MA t == Nq)=true) from Ma)]
 show wpAny _ _ (field (.ref jt) 1 >>= _) _ _ s
 refine LO (Ng ho hd (x:=.int i 0) rfl ?_)
 show wpAny _ _ (Q7 (.ref t) >>= _) _ _ s
 refine LO (MV hot hdt ?_)
 simp only [Pp,hy]
 refine LO (OE ho hd (by simp) (LQ ⟨y,rfl,LQ (k _ ?_ (M6 ..))⟩))
 exact ⟨_,MP _ ho (Qu (OH hd _)),(Rw ..).trans hc,by rw [OH hd]; simp [rawInt]⟩
theorem w5 {jt t:Addr} {i:Nat} {its:Array Value} {Q:Value->Shared->Prop} (hh:A.handled=none) (h1:s.heap.IsTupleIter jt t i) (h2:s.heap.IsTuple t its) (hy:its[i]?=none)
  (k:∀ h' e,PL jt s.heap h'->(∃ o,h'.get? e=some o/\o.cls=.type "StopIteration")->E (.ref e) { s with heap:=h' }):wpAny (model prog w) A (MM (.ref jt)) Q E s:=by
 obtain ⟨o,ho,hc,hd⟩:=id h1
 obtain ⟨ot,hot,_,nt,hdt⟩:=h2
 unfold MM
 refine LO (M0 (name:=Nw "__next__") h1.typeIs OQ (ML OQ h1.typeIs Q6 ?_ (QV _)))
 show wpAny _ _ (field (.ref jt) 0 >>= _) _ _ s
 refine LO (Ng ho hd (x:=.ref t) rfl ?_)
 show wpAny _ _ (if (MA t == Nq)=true then _ else _) _ _ s
 rw [if_neg (show ¬ ((MA t == Nq)=true) from Ma)]
 show wpAny _ _ (field (.ref jt) 1 >>= _) _ _ s
 refine LO (Ng ho hd (x:=.int i 0) rfl ?_)
 show wpAny _ _ (Q7 (.ref t) >>= _) _ _ s
 refine LO (MV hot hdt ?_)
 simp only [Pp,hy]
 refine LO (Of (LO (OE ho hd (by simp) ?_)))
 show wpAny _ _ (newExc (.type "StopIteration") [] >>= _) _ _ _
 refine LO ?_
 simp only [newExc,Uq]
 refine LO (MY ?_ (by size_fits))
 refine LO (m:=firstArgMember _ _) (Q2 (a:=Nq) (by first | rfl | (simp only [firstArgMember]; rfl)) ?_)
 refine MY ?_ (by size_fits)
 simp only [raiseNew]
 refine LO (S4 ?_)
 first | rw [show A.in1.handled=none from hh] | rw [hh]
 refine LO (LQ (Ud ?_))
 exact k _ _ (((M6 ..).extBut.push _).push _) ⟨_,L6 _ rfl,rfl⟩
end
theorem Bs {prog:Program} {w:World} {A:Around} (hh:A.handled=none) (jt t:Addr) (hne:t≠jt) (its:Array Value):
  Draws prog w A jt [jt,t] its.size (fun i v=>its[i]?=some v) (fun i h=>h.IsTupleIter jt t i/\h.IsTuple t its) where
 live:=fun _ _ st=>let ⟨o,ho,_⟩:=st.1; ⟨o,ho⟩
 frame:=fun _ _ _ st hk=>⟨st.1.at fun o e=>hk jt (by simp) o e,let ⟨o,ho,r⟩:=st.2; ⟨o,hk t (by simp) o ho,r⟩⟩
 item:=fun i s Q E hi st hQ=>ve st.1 st.2 (y:=its[i]) (by simp [hi]) fun h' a b=>hQ _ h' s.toks (by simp [hi]) ⟨a,st.2.extBut b.extBut hne⟩ b
 done:=fun s Q E st hE=>w5 hh st.1 st.2 (by simp) hE
theorem Inv.offBase {X:Cx} {pins:List (Addr×Obj)} {σ:St} {H:Hp} {s:Shared} {c:Addr} {o:Obj} (I:Inv X pins σ H s) (f:iZ X pins H c) (e:X.base.get? c=some o):False:=by
 rcases f.2.2.2.1 with z | z
 ·exact I.ok.noex c o e z
 ·exact absurd (Mr (L5 e) (MD I.ok.bsz z)) (Nd _)
set_option genInjectivity false in
structure Src where
 Sq:Fg->Hp->Addr->List V->Prop
 Is:Heap->Addr->Array Value->Prop
 It:Heap->Addr->Addr->Nat->Prop
 icls:String
 get:∀ {X:Cx} {pins:List (Addr×Obj)} {σ:St} {H:Hp} {s:Shared} {a:Addr} {xs:List V},Inv X pins σ H s->Sq X.K H a xs->∃ its:List Value,aG xs its/\Is s.heap a its.toArray/\xs.length<=Mb
 inj:∀ {X:Cx} {pins:List (Addr×Obj)} {σ:St} {H:Hp} {s:Shared} {a:Addr} {xs ys:List V},Inv X pins σ H s->Sq X.K H a xs->Sq X.K H a ys->xs=ys
 off:∀ {X:Cx} {pins:List (Addr×Obj)} {σ:St} {H:Hp} {s:Shared} {a c:Addr} {xs:List V},Inv X pins σ H s->Sq X.K H a xs->iZ X pins H c->c≠a
 isSeq:∀ {h:Heap} {a:Addr} {its:Array Value},Is h a its->∃ o n,h.get? a=some o/\o.data=.seq its n
 isIt:∀ {h:Heap} {jt a:Addr} {i:Nat},It h jt a i->∃ o,h.get? jt=some o/\o.cls=.type icls/\o.data=.fields #[.ref a,.int i 0]
 mkI:∀ {h:Heap} {jt a:Addr} {i:Nat} {o:Obj},h.get? jt=some o->o.cls=.type icls->o.data=.fields #[.ref a,.int i 0]->It h jt a i
 itKeep:∀ {h h':Heap} {jt a:Addr} {i:Nat},It h jt a i->(∀ o,h.get? jt=some o->h'.get? jt=some o)->It h' jt a i
 isKeep:∀ {h h':Heap} {a:Addr} {its:Array Value},Is h a its->(∀ o,h.get? a=some o->h'.get? a=some o)->Is h' a its
 draws:∀ {prog:Program} {w:World} {A:Around},A.handled=none->∀ (jt a:Addr),a≠jt->∀ its:Array Value,Draws prog w A jt [jt,a] its.size (fun i v=>its[i]?=some v) (fun i h=>It h jt a i/\Is h a its)
 iter:∀ {prog:Program} {w:World} {A:Around} {E:Value->Shared->Prop} {s:Shared} {a:Addr} {its:Array Value} {Q:Value->Shared->Prop},Is s.heap a its->
  Q (.ref s.heap.objs.size) { s with heap:=s.heap.push { cls:=.type icls,data:=.fields #[.ref a,.int 0 0] } }->wpAny (model prog w) A (pyIter (.ref a)) Q E s
noncomputable def bw:Src where
 Sq:=SqL
 Is:=fun h a its=>h.IsList a its
 It:=fun h jt a i=>h.IsListIter jt a i
 icls:="list_iterator"
 get:=fun I h=>let ⟨its,r,p,z⟩:=I.list h; ⟨its,r,p.isList,z⟩
 inj:=fun I h h'=>I.list_inj h h'
 off:=fun {X pins σ H s a c xs} I h f e=>by
  subst e
  rcases h with (h | ⟨o,h⟩) | ⟨o,its,n,hk,_⟩
  ·rw [f.1] at h; cases h
  ·rw [f.1] at h; cases h
  ·exact I.offBase f (I.ok.mod.kin _ _ hk)
 isSeq:=fun h=>let ⟨o,ho,_,n,hd⟩:=h; ⟨o,n,ho,hd⟩
 isIt:=fun h=>h
 mkI:=fun h1 h2 h3=>⟨_,h1,h2,h3⟩
 itKeep:=fun h k=>h.at k
 isKeep:=fun h k=>h.at k
 draws:=fun hh jt a hne its=>Draws.list hh jt a hne its
 iter:=fun h q=>Po h q
noncomputable def gp:Src where
 Sq:=SqT
 Is:=fun h a its=>h.IsTuple a its
 It:=fun h jt a i=>h.IsTupleIter jt a i
 icls:="tuple_iterator"
 get:=fun I h=>let ⟨its,r,p,z⟩:=I.tuple h; ⟨its,r,p,z⟩
 inj:=fun I h h'=>I.tuple_inj h h'
 off:=fun {X pins σ H s a c xs} I h f e=>by
  subst e
  rcases h with (h | ⟨o,h⟩) | ⟨o,its,n,hk,_⟩
  ·rw [f.1] at h; cases h
  ·rw [f.1] at h; cases h
  ·exact I.offBase f (I.ok.mod.kin _ _ hk)
 isSeq:=fun h=>let ⟨o,ho,_,n,hd⟩:=h; ⟨o,n,ho,hd⟩
 isIt:=fun h=>h
 mkI:=fun h1 h2 h3=>⟨_,h1,h2,h3⟩
 itKeep:=fun h k=>h.at k
 isKeep:=fun h k=>let ⟨o,ho,r⟩:=h; ⟨o,k o ho,r⟩
 draws:=fun hh jt a hne its=>Bs hh jt a hne its
 iter:=fun h q=>Tn h q
theorem Inv.turns {X:Cx} {pins:List (Addr×Obj)} {σ:St} {H:Hp} {s:Shared} {h':Heap} {t':Nat} {ch:List Addr} {T:Addr} {o:HO} (I:Inv X pins σ H s) (hf:∀ b∈ch,iZ X pins H b)
  (k:∀ b ob,b∉ch->s.heap.get? b=some ob->h'.get? b=some ob) (hT:s.heap.objs.size<=T) (new:bN X.prog X.w (upd H T o) h' T o):Inv X pins σ (upd H T o) { s with heap:=h',toks:=t' }:=by
 have hn:H T=none:=I.hok.fresh hT
 have nc:∀ b u,H b=some u->b∉ch:=fun b u e z=>by
  have:=(hf b z).1
  rw [e] at this
  cases this
 refine I.step (g':=s.gens) (d':=s.drawn) (ch:=ch) (fun b hb=>⟨(hf b hb).2.2.2.1,(hf b hb).2.1,(hf b hb).2.2.2.2.1,(hf b hb).2.2.2.2.2⟩) (fun b ob _ _ hc e _=>k b ob hc e) (fun b ob _ _ hc e _=>⟨ob.slots,k b ob hc e⟩)
  (fun b ob _ e n=>?_) (fun b ob hc e=>⟨ob,k b ob hc e⟩) (fun b xs e=>?_) (fun b ob xs e=>?_) (fun b ps e=>⟨#[],?_⟩) (fun m hm=>?_) (fun b u e=>?_) I.bare
 ·rw [aM (kK (L5 e) hT)]
  exact n
 ·rw [aM (be e hn)]
  exact e
 ·rw [aM (be e hn)]
  exact e
 ·rw [aM (be e hn),e]
  simp
 ·obtain ⟨ob,es,ep,ho,r⟩:=hm
  exact ⟨ob,es,ep,k _ ob (fun z=>(hf _ z).2.1 rfl) ho,r⟩
 ·by_cases hb:b=T
  ·subst hb
   rw [az] at e
   cases e
   exact new
  ·rw [aM hb] at e
   refine (I.hok b u e).stay (fun c v hc q=>k c v ?_ q) (fun c q=>by rw [aM (be q hn)]; exact q) fun c xs q=>by rw [aM (be q hn)]; exact q
   rcases hc with z | z
   ·rw [z]; exact nc b u e
   ·exact nc c _ z
theorem Inv.turnsN {X:Cx} {pins:List (Addr×Obj)} {σ:St} {H:Hp} {s:Shared} {h':Heap} {t':Nat} {ch:List Addr} (I:Inv X pins σ H s) (hf:∀ b∈ch,iZ X pins H b)
  (k:∀ b ob,b∉ch->s.heap.get? b=some ob->h'.get? b=some ob):Inv X pins σ H { s with heap:=h',toks:=t' }:=by
 have nc:∀ b u,H b=some u->b∉ch:=fun b u e z=>by
  have:=(hf b z).1
  rw [e] at this
  cases this
 refine I.step (g':=s.gens) (d':=s.drawn) (ch:=ch) (fun b hb=>⟨(hf b hb).2.2.2.1,(hf b hb).2.1,(hf b hb).2.2.2.2.1,(hf b hb).2.2.2.2.2⟩) (fun b ob _ _ hc e _=>k b ob hc e) (fun b ob _ _ hc e _=>⟨ob.slots,k b ob hc e⟩)
  (fun b ob _ e n=>n) (fun b ob hc e=>⟨ob,k b ob hc e⟩) (fun b xs e=>e) (fun b ob xs e=>e) (fun b ps e=>⟨#[],by rw [e]; simp⟩) (fun m hm=>?_) (fun b u e=>?_) I.bare
 ·obtain ⟨ob,es,ep,ho,r⟩:=hm
  exact ⟨ob,es,ep,k _ ob (fun z=>(hf _ z).2.1 rfl) ho,r⟩
 ·refine (I.hok b u e).stay (fun c v hc q=>k c v ?_ q) (fun c q=>q) fun c xs q=>q
  rcases hc with z | z
  ·rw [z]; exact nc b u e
  ·exact nc c _ z
noncomputable def Ite (S:Src) (K:Fg) (a:Addr):It:=
 ⟨fun i H=>∃ xs x,S.Sq K H a xs/\xs[i]?=some x,fun i H x H'=>∃ T v,H T=none/\x=.ref T/\H'=upd H T (.tup [.int i,v])/\∀ xs,S.Sq K H a xs->xs[i]?=some v,fun i H=>∃ xs,S.Sq K H a xs/\xs.length=i⟩
theorem E1 {P:Program} {w:World} {K:Fg} {elts:List Expr} {k0:Nat} {pos:Pos} (S:Src) (a e it:Addr) (hl:S.icls≠"enumerate"):
  qL P w K (.Tuple elts k0 pos) (Ite S K a) [e,it] e (fun i h=>(∃ old,IsEnum h e it i old)/\S.It h it a i) where
 mem:=by simp
 obj:=fun i h st b hb=>by
  obtain ⟨⟨old,he⟩,hi⟩:=st
  rcases L7.mp hb with rfl | hb
  ·exact ⟨_,he,fun v z=>nomatch z⟩
  ·obtain rfl:=LW.mp hb
   obtain ⟨o,ho,_,hd⟩:=S.isIt hi
   exact ⟨o,ho,fun v z=>by rw [hd] at z; cases z⟩
 keep:=fun i h h' st k=>by
  obtain ⟨⟨old,he⟩,hi⟩:=st
  exact ⟨⟨old,k e (by simp) _ he⟩,S.itKeep hi fun o q=>k it (by simp) o q⟩
 item:=by
  intro X hP hw hK hc i pins s σ H E I hf st hg
  subst hP hw hK
  obtain ⟨xs,x,hq,hx⟩:=hg
  obtain ⟨its,rv,p,hz⟩:=S.get I hq
  obtain ⟨⟨old,he⟩,hi⟩:=st
  obtain ⟨u,hu,ru⟩:=rv.get hx
  obtain ⟨oa,na,hoa,hda⟩:=S.isSeq p
  obtain ⟨oi,hoi,hci,hdi⟩:=S.isIt hi
  have nei:e≠it:=fun z=>by
   have he':s.heap.get? e=some _:=he
   rw [z,hoi] at he'
   cases he'
   exact hl (by simpa using hci.symm)
  have nae:e≠a:=S.off I hq (hf e (by simp))
  have nai:a≠it:=fun z=>by
   rw [z,hoi] at hoa
   cases hoa
   rw [hdi] at hda
   cases hda
  have hlt:i < its.toArray.size:=by
   have:=(LU.mp hu).1
   simpa using this
  refine wpAny_pyNext_enum_itemD (S.draws (A:=X.A.in1) (show X.A.in1.handled=none from I.ok.hd hc) it a nai its.toArray) he ⟨hi,p⟩ hlt nei (by simp [nei,nae]) fun y h1 tk hP ho hs1 hT hsz hk=>⟨_,rfl,?_⟩
  have hy:y=u:=by
   have:its.toArray[i]?=some u:=by simpa using hu
   rw [this] at hP
   exact (L9 hP).symm
  subst hy
  refine wpAny_letOwnedTupleGo_enum ho fun h2 he2 hs2=>?_
  have elt:e < s.heap.objs.size:=L5 he
  have hT2:h2.get? s.heap.objs.size=some { cls:=.type "tuple",data:=.seq #[.int i tk,y] }:=hs2.extBut _ _ (Kg (LV _) elt) hT
  have kept:∀ b ob,b∉[e,it]->s.heap.get? b=some ob->h2.get? b=some ob:=fun b ob hb q=>by
   have h1':b≠e:=fun z=>hb (by simp [z])
   exact hs2.extBut _ _ h1' (hk b ob h1' (fun z=>hb (by simp [z])) q)
  refine ⟨.ref s.heap.objs.size,upd H s.heap.objs.size (.tup [.int i,x]),?_,rfl,⟨_,x,I.fresh,rfl,rfl,fun ys hy=>by rw [S.inj I hy hq]; exact hx⟩,⟨⟨_,he2⟩,S.itKeep hs1.1 fun o q=>hs2.extBut _ _ (Np nei) q⟩,fun b hb=>?_⟩
  ·refine I.turns (t':=tk + 1) hf kept (LV _) ⟨(by show 2<=Mb; decide),[.int i tk,y],.cons ⟨tk,rfl⟩ (.cons ru .nil),_,hT2,rfl,⟨0,rfl⟩,rfl⟩
  ·have lt:b < s.heap.objs.size:=by
    rcases L7.mp hb with rfl | hb
    ·exact elt
    ·obtain rfl:=LW.mp hb
     exact L5 hoi
   rw [aM (kK lt (LV _))]
   exact (hf b hb).1
 done:=by
  intro X hP hw hK hc i pins s σ H E I hf st hg
  subst hP hw hK
  obtain ⟨xs,hq,hx⟩:=hg
  obtain ⟨its,rv,p,hz⟩:=S.get I hq
  obtain ⟨⟨old,he⟩,hi⟩:=st
  obtain ⟨oa,na,hoa,hda⟩:=S.isSeq p
  obtain ⟨oi,hoi,hci,hdi⟩:=S.isIt hi
  have nai:a≠it:=fun z=>by
   rw [z,hoi] at hoa
   cases hoa
   rw [hdi] at hda
   cases hda
  have hsz:i=its.toArray.size:=by
   have:=rv.length
   simp only [Me]
   omega
  subst hsz
  exact wpAny_pyNext_enum_endD (S.draws (A:=X.A.in1) (show X.A.in1.handled=none from I.ok.hd hc) it a nai its.toArray) he ⟨hi,p⟩ fun h' hx'=>⟨rfl,I.turnsN (t':=s.toks) hf fun b ob hb q=>hx' b ob (fun z=>hb (by simp [z])) q⟩
 self:=fun _ _ _ _ _ st h=>by
  obtain ⟨⟨old,he⟩,_⟩:=st
  exact TY he h
section
variable {X:Cx} {elts:List Expr} {k0:Nat} {tpos:Pos}
theorem Gw (S:Src) (l:Addr) (its:Array Value):
  Meets (Builtin.«enumerate.__new__» ⟨[.type "enumerate",.ref l],[]⟩) (fun _ R s=>S.Is s.heap l its/\
   R (.ok (.ret (.ref (s.heap.push { cls:=.type S.icls,data:=.fields #[.ref l,.int 0 0] }).objs.size)))
    { s with heap:=(s.heap.push { cls:=.type S.icls,data:=.fields #[.ref l,.int 0 0] }).push { cls:=.type "enumerate",data:=.fields #[.none,.bool false,.ref s.heap.objs.size,rawInt 0,.none,.none] } }):=
 .of_wp fun prog w A R s h=>by
  obtain ⟨hp,g,d,tk,os⟩:=s
  obtain ⟨hl,h⟩:=h
  have hsub:=sub_enumerate
  have hL:S.Is (Ue ⟨hp,g,d,tk,os⟩) l its:=hl
  wp_walk
  refine wpAny_stack_any fun st=>LQ ?_
  split
  ·rename_i c _ _ _ _ _
   cases (c == Nr "enumerate")
   ·wp_walk using S.iter hL
    exact ⟨_,rfl,h⟩
   ·wp_walk using S.iter hL
    exact ⟨_,rfl,h⟩
  ·wp_walk using S.iter hL
   exact ⟨_,rfl,h⟩
theorem E2 (S:Src) {prog:Program} {w:World} {A:Around} {E:Value->Shared->Prop} {s:Shared} {l:Addr} {its:Array Value} {Q:Value->Shared->Prop} (hL:S.Is s.heap l its)
  (h:∀ h',IsEnum h' (s.heap.objs.size + 1) s.heap.objs.size 0 .none->S.It h' s.heap.objs.size l 0->(∀ b o,s.heap.get? b=some o->h'.get? b=some o)->Q (.ref (s.heap.objs.size + 1)) { s with heap:=h' }):
  wpAny (model prog w) A (call (.type "enumerate") [.ref l]) Q E s:=by
 refine Tz F.called_enumerate (by decide) (F.typeCall_enumerate_1 _) (F.newCall_enumerate_1 _) (fun obj=>F.args_object_init_2 obj _) F.entry_enumerate_new (Gw S l its) ⟨hL,?_⟩
 have hz:(s.heap.push { cls:=.type S.icls,data:=.fields #[.ref l,.int 0 0] }).objs.size=s.heap.objs.size + 1:=MG ..
 show _/\_
 rw [hz]
 have he:=L6 (s.heap.push { cls:=.type S.icls,data:=.fields #[.ref l,.int 0 0] }) (o:={ cls:=.type "enumerate",data:=.fields #[.none,.bool false,.ref s.heap.objs.size,rawInt 0,.none,.none] }) rfl
 rw [hz] at he
 exact ⟨⟨_,he,rfl⟩,h _ he (S.mkI (LP _ (L6 _ rfl)) rfl rfl) fun b o q=>LP _ (LP _ q)⟩
noncomputable def mR (S:Src) (K:Fg) (ta:TA):TI:=fun σ H R=>ta σ H fun vs H1=>∃ a xs,vs=[.ref a]/\S.Sq K H1 a xs/\R (Ite S K a) H1
theorem lJ (S:Src) {a:Expr} {ta:TA} {p pos:Pos} (hg:Gl X "enumerate") (hm:X.mg "enumerate"=none) (hS:S.icls≠"enumerate") (ha:PA X [a] ta) (hs:Mp [a] X.env=[(false,eval a X.env)]:=by rfl):
  PI X (.Tuple elts k0 tpos) (.Call (.Name "enumerate" p) [a] [] pos) (mR S X.K ta):=by
 intro pins s σ H R I h
 refine Call_ (gA I hg hm boot_enumerate (Ny (thn (ha pos pins s σ H _ I h) fun us s1 ⟨vs,H1,I1,r1,q1⟩=>?_) hs rfl))
 obtain ⟨l,xs,e,hq,q⟩:=q1
 subst e
 obtain ⟨u,rfl,ru⟩:=r1.one
 cases ru
 obtain ⟨its,rv,p',hz⟩:=S.get I1 hq
 refine E2 S p' fun h' he hi kp=>TY he ?_
 have I2:Inv X pins σ H1 { s1 with heap:=h' }:=I1.kept (t':=s1.toks) kp
 refine ⟨s1.heap.objs.size + 1,[s1.heap.objs.size + 1,s1.heap.objs.size],_,_,H1,rfl,I2,E1 S l _ _ hS,⟨⟨_,he⟩,hi⟩,fun b hb=>?_,q⟩
 have hb':s1.heap.objs.size<=b:=by
  rcases L7.mp hb with rfl | hb
  ·exact OG _
  ·obtain rfl:=LW.mp hb
   exact LV _
 exact I1.fpOk hb' (I1.hok.fresh hb')
end
end
section
open PySem.Spec
section
variable {X:Cx}
noncomputable def fP (K:Fg):List V->Hp->VK->Prop:=fun xs H Q=>∃ x T t b,xs=[x,.ty T]/\eN K H x t/\M1 K t (.type T)=some b/\Q (.bl b) H
theorem cb:dI X (.builtin "isinstance") (fP X.K):=by
 intro pins s σ H xs us Q I r h
 obtain ⟨x,T,t,b,rfl,ty,e,q⟩:=h
 obtain ⟨u,v,rfl,ru,rv⟩:=r.two
 cases (show v=Nr T from rv)
 exact EM I ru ty e fun tk=>⟨.bl b,H,I.tok tk,rfl,q⟩
theorem tR (K:Fg):M1 K (.type "int") (.type "int")=some true:=by unfold M1; rw [if_pos (beq_self_eq_true _)]
theorem qV (K:Fg):M1 K (.type "int") (.type "bool")=some false:=by show (if (Nr "int" == Nr "bool")=true then some true else if Sg "bool"=true then (SC "int").map (·.contains (.type "bool")) else none)=some false; decide +kernel
theorem jV (K:Fg):M1 K (.type "tuple") (.type "tuple")=some true:=by unfold M1; rw [if_pos (beq_self_eq_true _)]
theorem jW (K:Fg):M1 K (.type "list") (.type "list")=some true:=by unfold M1; rw [if_pos (beq_self_eq_true _)]
theorem IZ:∀ (bs:List Bool),(Mn bs.length).all (fun i=>bs.getD i false)=bs.all id:=by
 intro bs
 induction bs with
 | nil=>rfl
 | cons b r ih=>
  rw [My,Sv,O9,QE,O9]
  show (b && _)=(b && _)
  rw [<-ih]
  rfl
theorem I0 {bs:List Bool} {us:List Value} (r:aG (bs.map V.bl) us):us=bs.map Nh:=by
 induction bs generalizing us with
 | nil=>cases r; rfl
 | cons b t ih=>
  cases r with
  | cons q r'=>
   rw [Mo,<-ih r',show _=Nh b from q]
theorem Inv.walked {pins:List (Addr×Obj)} {σ:St} {H:Hp} {s:Shared} {h':Heap} {tk:Nat} {o:Obj} (I:Inv X pins σ H s) (hk:∀ b ob,b∉[s.heap.objs.size]->(s.heap.push o).get? b=some ob->h'.get? b=some ob):Inv X pins σ H { s with heap:=h',toks:=tk }:=
 I.kept fun b ob e=>hk b ob (fun z=>absurd (LW.mp z) (MC (L5 e))) (LP _ e)
theorem mS (hc:X.calm=true):dI X (.builtin "all") (fun xs H Q=>∃ (p:Addr) (bs:List Bool),xs=[.ref p]/\SqL X.K H p (bs.map V.bl)/\Q (.bl (bs.all id)) H):=by
 intro pins s σ H xs us Q I r h
 obtain ⟨p,bs,rfl,hq,q⟩:=h
 obtain ⟨u,rfl,rx⟩:=r.one
 cases rx
 obtain ⟨its,rv,pl,hz⟩:=I.list hq
 have e:=I0 rv
 subst e
 refine call_all_walk (Po pl.isList ⟨s.heap.objs.size,_,_,_,_,_,fun i=>bs.getD i false,rfl,SU (show X.A.in1.handled=none from I.ok.hd hc) _ p (by obtain ⟨o,ho,_⟩:=pl.isList; exact MC (L5 ho)) (bs.map Nh).toArray,
  ⟨⟨_,L6 _ rfl,rfl,rfl⟩,pl.isList.push _⟩,?_,fun h' tk hk=>?_⟩)
 ·intro i v s' Q' E' hP hQ
  have hP':(bs.map Nh)[i]?=some v:=by simpa using hP
  rw [LX] at hP'
  cases e:bs[i]? with
  | none=>rw [e] at hP'; cases hP'
  | some b=>
   rw [e] at hP'
   cases hP'
   have:bs.getD i false=b:=by rw [Md,e]; rfl
   have hQ':Q' (bs.getD i false) s':=hQ
   rw [this] at hQ'
   exact NY hQ'
 ·refine ⟨.bl (bs.all id),H,I.walked hk,?_,q⟩
  show Nh _=Nh _
  rw [<-IZ]
  simp
theorem Bt (ns:List Int):∀ k,k<=ns.length->preSum (fun i=>ns.getD i 0) k=(ns.take k).sum:=by
 intro k
 induction k with
 | zero=>intro _; simp [preSum]
 | succ k ih=>
  intro hk
  have hlt:k < ns.length:=hk
  rw [preSum,ih (M8 hlt),NP,NH,LS hlt,Md,LS hlt]
  simp
theorem ko (hc:X.calm=true):dI X (.builtin "sum") (fun xs H Q=>∃ (p:Addr) (ns:List Int),xs=[.ref p]/\SqL X.K H p (ns.map V.int)/\Q (.int ns.sum) H):=by
 intro pins s σ H xs us Q I r h
 obtain ⟨p,ns,rfl,hq,q⟩:=h
 obtain ⟨u,rfl,rx⟩:=r.one
 cases rx
 obtain ⟨its,rv,pl,hz⟩:=I.list hq
 have hlen:ns.length=its.length:=by have:=rv.length; simpa using this
 have ia:=lj rv
 refine call_sum_walkG (Po pl.isList ⟨s.heap.objs.size,_,_,_,_,_,fun i=>ns.getD i 0,rfl,SU (show X.A.in1.handled=none from I.ok.hd hc) _ p (by obtain ⟨o,ho,_⟩:=pl.isList; exact MC (L5 ho)) its.toArray,
  ⟨⟨_,L6 _ rfl,rfl,rfl⟩,pl.isList.push _⟩,fun b hb=>?_,?_,fun h' tk t' hk=>?_⟩)
 ·have hp:p < s.heap.objs.size:=by
   obtain ⟨o,ho,_⟩:=pl.isList
   exact L5 ho
  show b < (s.heap.push _).objs.size
  rw [MG]
  rcases L7.mp hb with rfl | hb
  ·exact Nv _
  ·obtain rfl:=LW.mp hb
   exact NB hp
 ·intro i v hP
  have hP':its[i]?=some v:=by simpa using hP
  have hlt:i < ns.length:=by
   have:=(LU.mp hP').1
   omega
  obtain ⟨u',hu',ru'⟩:=rv.get (x:=.int ns[i]) (i:=i) (by rw [LX,LS hlt] <;> rfl)
  rw [hP'] at hu'
  cases hu'
  obtain ⟨t,e⟩:=(show ∃ t,v=OW ns[i] t from ru')
  refine ⟨t,?_⟩
  show v=OW (ns.getD i 0) t
  rw [e,Md,LS hlt]
  rfl
 ·refine ⟨.int ns.sum,H,I.walked hk,⟨t',?_⟩,q⟩
  rw [show its.toArray.size=ns.length by simp; omega,Bt ns _ (LV _),MF]
noncomputable def EqE (x y:V) (b:Bool):Prop:=(dQ x=true/\dQ y=true/\b=eqV x y)\/(∃ a,x=.ref a/\y=.ref a/\b=true)
theorem EqE.at {A:Around} {s:Shared} {x y:V} {b:Bool} {u v:Value} (h:EqE x y b) (ru:aH x u) (rv:aH y v):Mz A s u v b:=by
 rcases h with ⟨f1,f2,rfl⟩ | ⟨a,rfl,rfl,rfl⟩
 ·exact ER ru rv f1 f2
 ·cases ru
  cases rv
  exact Sf _
noncomputable def Gx (xs ys:List V) (e:Nat->Bool):Prop:=∀ j x y,xs[j]?=some x->ys[j]?=some y->EqE x y (e j)
theorem w6 {A:Around} {s:Shared} {xs ys:List V} {e:Nat->Bool} {us vs:List Value} (h:Gx xs ys e) (ru:aG xs us) (rv:aG ys vs):
  ∀ j (h1:j < us.toArray.size) (h2:j < vs.toArray.size),Mz A s us.toArray[j] vs.toArray[j] (e j):=by
 intro j h1 h2
 have h1':j < xs.length:=by rw [ru.length]; simpa using h1
 have h2':j < ys.length:=by rw [rv.length]; simpa using h2
 obtain ⟨u,eu,r1⟩:=ru.get (LS h1')
 obtain ⟨v,ev,r2⟩:=rv.get (LS h2')
 have q:=(h j _ _ (LS h1') (LS h2')).at (A:=A) (s:=s) r1 r2
 have e1:us.toArray[j]=u:=by
  have:=(LU.mp eu).2
  simpa using this
 have e2:vs.toArray[j]=v:=by
  have:=(LU.mp ev).2
  simpa using this
 rw [e1,e2]
 exact q
noncomputable def iu (xs ys:List V) (e:Nat->Bool):Bool:=(Mn (min xs.length ys.length)).all e && xs.length == ys.length
noncomputable def pj (Sq:Hp->Addr->List V->Prop) (neg:Bool):R2:=fun x y H Q=>∃ a b xs ys e,x=.ref a/\y=.ref b/\Sq H a xs/\Sq H b ys/\Gx xs ys e/\Q (.bl (if neg then !iu xs ys e else iu xs ys e)) H
theorem Kh (hu:X.A.units < cLine):OpR X (NZ .Eq) (pj (SqT X.K) false):=by
 intro pins s σ H x y v u Q I r1 r2 h
 obtain ⟨a,b,xs,ys,e,rfl,rfl,ha,hb,he,q⟩:=h
 cases r1
 cases r2
 obtain ⟨us,ru,pu,_⟩:=I.tuple ha
 obtain ⟨vs,rv,pv,_⟩:=I.tuple hb
 refine SeqAt.eq_tupleAt (e:=e) pu pv hu (w6 he ru rv) ⟨.bl (iu xs ys e),H,I,?_,q⟩
 show Nh _=Nh _
 unfold iu
 rw [Me,Me,ru.length,rv.length]
theorem Ki (hu:X.A.units < cLine):OpR X (NZ .NotEq) (pj (SqT X.K) true):=by
 intro pins s σ H x y v u Q I r1 r2 h
 obtain ⟨a,b,xs,ys,e,rfl,rfl,ha,hb,he,q⟩:=h
 cases r1
 cases r2
 obtain ⟨us,ru,pu,_⟩:=I.tuple ha
 obtain ⟨vs,rv,pv,_⟩:=I.tuple hb
 refine SeqAt.RcNeAt.tuples (e:=e) pu pv hu (w6 he ru rv) _ _ _ _ ⟨.bl (!iu xs ys e),H,I,?_,q⟩
 show Nh _=Nh _
 unfold iu
 rw [Me,Me,ru.length,rv.length]
theorem Kj (hu:X.A.units < cLine):OpR X (NZ .Eq) (pj (SqL X.K) false):=by
 intro pins s σ H x y v u Q I r1 r2 h
 obtain ⟨a,b,xs,ys,e,rfl,rfl,ha,hb,he,q⟩:=h
 cases r1
 cases r2
 obtain ⟨us,ru,pu,_⟩:=I.list ha
 obtain ⟨vs,rv,pv,_⟩:=I.list hb
 have h1:=ru.length
 have h2:=rv.length
 by_cases hl:xs.length=ys.length
 ·refine SeqAt.eq_listAt (e:=e) pu.isList pv.isList (by simp only [Me]; omega) hu (w6 he ru rv) ⟨.bl (iu xs ys e),H,I,?_,q⟩
  show Nh _=Nh _
  unfold iu
  rw [Me,<-h1,hl,O2,beq_self_eq_true,Bool.and_true]
 ·refine SeqAt.eq_list_lengthsAt pu.isList pv.isList (by simp only [Me,bne_iff_ne]; omega) hu ⟨.bl (iu xs ys e),H,I,?_,q⟩
  show Nh _=Nh _
  unfold iu
  rw [beq_eq_false_iff_ne.mpr hl,QT]
end
theorem yf (ns ms:List Int):Gx (ns.map V.int) (ms.map V.int) (fun j=>decide (ns[j]?=ms[j]?)):=by
 intro j x y hx hy
 rw [LX] at hx hy
 cases e1:ns[j]? with
 | none=>rw [e1] at hx; cases hx
 | some n=>
  cases e2:ms[j]? with
  | none=>rw [e2] at hy; cases hy
  | some m=>
   rw [e1] at hx
   rw [e2] at hy
   cases hx
   cases hy
   refine .inl ⟨rfl,rfl,?_⟩
   show decide (ns[j]?=ms[j]?)=(n == m)
   rw [e1,e2]
   by_cases h:n=m
   ·subst h; simp
   ·simp [h]
theorem vf (ns ms:List Int):iu (ns.map V.int) (ms.map V.int) (fun j=>decide (ns[j]?=ms[j]?))=decide (ns=ms):=by
 unfold iu
 rw [LR,LR]
 by_cases h:ns=ms
 ·subst h
  simp
 ·rw [decide_eq_false h]
  by_cases hl:ns.length=ms.length
  ·rw [Bool.and_eq_false_iff]
   left
   rw [<-Bool.not_eq_true,RP]
   intro q
   apply h
   apply Oi
   intro j
   by_cases hj:j < ns.length
   ·have:=q j (by rw [ND]; omega)
    exact of_decide_eq_true this
   ·rw [Mw (by omega),Mw (by omega)]
  ·rw [beq_eq_false_iff_ne.mpr hl,QT]
end
section
open PySem.Spec
noncomputable def FnB (P:Program) (w:World) (K:Fg) (mg:Str->Option Value) (base:Heap) (k:Nat) (x:Str) (ps:List Str) (sp:Sp):Prop:=
 ∃ f fd,iM P w K mg base CX0 k f fd ps sp/\mg x=some (.ref f)/\Pr K (.ref f)=true/\gr K fd ps []
theorem ak {X:Cx} {k:Nat} {x:Str} {ps:List Str} {sp:Sp} {p pos:Pos} {e:Expr} {es:List Expr} {t:TA} (F:FnB X.prog X.w X.K X.mg X.base k x ps sp) (hr:cj k X.A) (ha:PA X (e :: es) t) (hg:Gl X x:=by rfl)
  (hdb:(x == ("__debug__":Str))=false:=by decide) (he:Mp (e :: es) X.env=(false,eval e X.env) :: Mp es X.env:=by rfl) (hpl:(backTo pos (Mp es X.env)).any (·.1)=false:=by rfl):
  PE X (.Call (.Name x p) (e :: es) [] pos) (au sp [] E0 t):=by
 obtain ⟨f,fd,ok,m,kp,b⟩:=F
 exact IR ok hr hg m kp b .nil CU ha hdb he hpl
structure Def (K:Fg) (mg:Str->Option Value) (x:Str) (st:Stmt) (ps:List Str) (f:Addr) (fd:Mi):Prop where
 fn:Fun K x x st f fd
 m:mg x=some (.ref f)
 b:gr K fd ps []
theorem Def.ok {P:Program} {w:World} {K:Fg} {mg:Str->Option Value} {base:Heap} {x:Str} {st:Stmt} {N ps:List Str} {f:Addr} {fd:Mi} {k:Nat} {sp:Sp} (D:Def K mg x st ps f fd) (S:aD N ps (ab st)) (len:∀ vs H Q E,sp vs H Q E->vs.length=ps.length)
  (hbody:∀ (cdv:Value) (A:Around) (outer:List Env) (s:Shared) (H:Hp) (vs:List V) (Q:VK) (E:XK),cj k (A.deeper (envOfC x (ab st) s.heap.objs.size f cdv))->sp vs H Q E->
   ∃ t,PSs (oY CX0 P w K mg base N x (ab st) f cdv A outer s H E).nox (fz st) t/\t { nx:=fun _ H'=>Q .non H',rt:=Q } (start N vs) H):FnB P w K mg base (k + 1) x ps sp:=
 ⟨f,fd,D.fn.ok S len hbody,D.m,D.fn.kp,D.b⟩
theorem fA {X:Cx}:OpR X (OO .Mult) (rI OP fun i j=>.int (i * j)):=opI fun _ _ _ _ _ _ _ hc q=>mul_int q hc
theorem vg:∀ (ns:List Int),∀ n∈ns,MW n<=R5 (ns.map Qf)
 | [],n,h=>(nomatch h)
 | m :: r,n,h=>by
  rw [Mo,R5]
  have e:PB (.int m)=MW m:=by
   rw [PB]
   rfl
  rw [e]
  rcases L7.mp h with rfl | h
  ·omega
  ·have:=vg r n h
   omega
theorem Bu {ns:List Int} (h:RQ [Q8 (ns.map Qf)]=true):∀ n∈ns,MW n<=1048576:=by
 intro n hn
 have h1:SD (Q8 (ns.map Qf))=true:=by
  unfold RQ at h
  rw [O9,NM] at h
  exact h.1
 unfold SD at h1
 rw [NM] at h1
 have h2:PB (Q8 (ns.map Qf))<=2 ^ 20:=of_decide_eq_true h1.2
 rw [PB] at h2
 have h3:=vg ns n hn
 have e:(2:Nat) ^ 20=1048576:=by decide
 omega
noncomputable def fQ (K:Fg) (H:Hp) (a:Addr) (ns:List Int):Prop:=SqL K H a (ns.map V.int)/\ns.length<=63/\∀ n∈ns,MW n<=1048576
noncomputable def vh (K:Fg):Sp:=fun vs H Q _=>∃ (a:Addr) (ns:List Int),vs=[.ref a]/\fQ K H a ns/\∀ H',Q (.bl true) H'
theorem Gy {l:PySem.W.OpenLaw} {k:Nat} {q:Program} {loose:List Str} {XP:(Str->Option Value)->Heap->Prop} {YP:World->Heap->Prop} {d:DefRec} {K:Params->Fg} {x:Str}
  (hn:l.most=some 63) (hdf:d.params.defaults=[]) (hr:cj k callerA) (hY:∀ (w:World) (h:Heap),YP w h->(K w.params).In h)
  (F:∀ (w:World) (mg:Str->Option Value) (fa:Addr) (h:Heap),(K w.params).In h->h.Ns Mx mg->mg d.name=some (.ref fa)->
   ∃ fd:Mi,(∀ (s:Shared) (u:Value),BindsTo s fd ⟨[u],[]⟩ [(x,u)])/\
    ∀ base:Heap,(K w.params).In base->base.Ns Mx mg->iM l.prog w (K w.params) mg base CX0 k fa fd [x] (vh (K w.params))):
  PySem.W.WalkO q loose XP YP l.row.toRowW d [] (fun f vs=>PySem.call f vs):=by
 intro w s₀ s₁ mg mb G Y fa o pm cd doc dV kV ho hd hcd hD hmg hg args vals as hpre hlay hrd hwl hlo
 obtain rfl:dV=.none:=PySem.W.Dflts.none hD hdf
 obtain rfl:kV=.none:=PySem.W.Dflts.noKw hD
 obtain ⟨a,vs,ns,rfl,rfl,hobj,hints,hlen⟩:=Att.EW hn hpre hwl
 have hbits:=Bu hlay
 have KX:=hY w _ Y
 obtain ⟨fd,hb,hF⟩:=F w mg fa _ KX G.T.g hmg
 have c:=Gu KX G.T.g G.T.b G.T.builtins G.T.nolimit hg hobj hints (MD hlen (by decide)) hr hF hb (fun H hO hS=>⟨a,ns,rfl,⟨hS,hlen,hbits⟩,fun _=>rfl⟩) fun H e s' z=>z
 refine PySem.W.enter_call (Pt c fun r s' hq=>?_)
 obtain ⟨rfl,h2,h3,h4⟩:=hq
 exact ⟨.inl ⟨.bool true,.bool true,[],rfl,fun _=>rfl,.bool true,Att.EX l _,fun _=>⟨List.Pairwise.nil,fun _ hm=>(nomatch hm)⟩⟩,h2,h3,h4⟩
theorem E3 {J:It} {n:Nat} {g:TG} {tb:TS} {D:jD} {σ:St} {H:Hp} {Y:Nat->Hp->V->Hp->Prop} (Pv:Nat->St->Hp->Prop) (h0:Pv 0 σ H) (hgo:∀ i σ H,i < n->Pv i σ H->J.go i H) (hst:∀ σ H,Pv n σ H->J.stop n H)
  (hy:∀ i σ H x H1,i < n->Pv i σ H->J.yld i H x H1->Y i H x H1) (hs:∀ i x σ H H1,i < n->Pv i σ H->Y i H x H1->g x σ H1 fun σ2 H2=>tb { D with nx:=Pv (i + 1),ct:=Pv (i + 1),bk:=D.nx } σ2 H2) (hd:∀ σ H,Pv n σ H->D.nx σ H):
  ∃ W:Nat->Nat->St->Hp->Prop,(∃ m,W 0 m σ H)/\∀ i m σ H,W i m σ H->
   (J.stop i H/\D.nx σ H)\/(J.go i H/\∃ N:St->Hp->Prop,(∀ σ' H',N σ' H'->∃ m',m' < m/\W (i + 1) m' σ' H')/\∀ x H',J.yld i H x H'->g x σ H' fun σ2 H2=>tb { D with nx:=N,ct:=N,bk:=D.nx } σ2 H2):=by
 refine ⟨fun i m σ H=>m=n - i/\i<=n/\Pv i σ H,⟨n,by simp,M7 _,h0⟩,?_⟩
 rintro i m σ H ⟨rfl,hi,p⟩
 by_cases hlt:i < n
 ·exact .inr ⟨hgo i σ H hlt p,Pv (i + 1),fun σ' H' p'=>⟨n - (i + 1),by omega,rfl,hlt,p'⟩,fun x H' y=>hs i x σ H H' hlt p (hy i σ H x H' hlt p y)⟩
 ·have e:i=n:=by omega
  subst e
  exact .inl ⟨hst σ H p,hd σ H p⟩
theorem zP {S:Src} {K:Fg} {a:Addr} {xs:List V} {g:TG} {tb:TS} {D:jD} {σ:St} {H:Hp} (Pv:Nat->St->Hp->Prop) (h0:Pv 0 σ H) (hl:∀ i σ H,i<=xs.length->Pv i σ H->S.Sq K H a xs)
  (hs:∀ i x T σ H,xs[i]?=some x->Pv i σ H->H T=none->g (.ref T) σ (upd H T (.tup [.int i,x])) fun σ2 H2=>tb { D with nx:=Pv (i + 1),ct:=Pv (i + 1),bk:=D.nx } σ2 H2) (hd:∀ σ H,Pv xs.length σ H->D.nx σ H):
  ∃ W:Nat->Nat->St->Hp->Prop,(∃ m,W 0 m σ H)/\∀ i m σ H,W i m σ H->
   ((Ite S K a).stop i H/\D.nx σ H)\/((Ite S K a).go i H/\∃ N:St->Hp->Prop,(∀ σ' H',N σ' H'->∃ m',m' < m/\W (i + 1) m' σ' H')/\∀ x H',(Ite S K a).yld i H x H'->g x σ H' fun σ2 H2=>tb { D with nx:=N,ct:=N,bk:=D.nx } σ2 H2):=
 E3 (J:=Ite S K a) (n:=xs.length) (Y:=fun i H x H1=>∃ T v,H T=none/\x=.ref T/\H1=upd H T (.tup [.int i,v])/\xs[i]?=some v) Pv h0 (fun i σ H hi w=>⟨xs,xs[i],hl i σ H (M8 hi) w,by simp [hi]⟩) (fun σ H w=>⟨xs,hl _ σ H (LV _) w,rfl⟩)
  (fun i σ H x H1 hi w y=>by
   obtain ⟨T,v,e1,e2,e3,e4⟩:=y
   exact ⟨T,v,e1,e2,e3,e4 xs (hl i σ H (M8 hi) w)⟩) (fun i x σ H H1 hi w y=>by
   obtain ⟨T,v,e1,rfl,rfl,e4⟩:=y
   exact hs i v T σ H e4 w e1) hd
theorem yg {S:Src} {K:Fg} {a:Addr} {xs:List V} {g:CF TG} {tt:CF TT} {te:CF TE} {σ₀:St} {p:Addr} {Q:VK} {H:Hp} (Pv:Nat->List V->Hp->Prop) (h0:Pv 0 [] (upd H p (.lst []))) (hp:∀ i acc H,i<=xs.length->Pv i acc H->H p=some (.lst acc)/\acc.length<=i) (hl:∀ i acc H,i<=xs.length->Pv i acc H->S.Sq K H a xs) (hz:xs.length<=Mb)
  (hs:∀ C s' H' fp,∀ i x T acc H,xs[i]?=some x->Pv i acc H->H T=none->g C s' H' fp (.ref T) σ₀ (upd H T (.tup [.int i,x])) fun σ2 H2=>tt C s' H' fp σ2 H2 fun b H3=>if b=true then te C s' H' fp σ2 H3 fun y H4=>H4 p=some (.lst acc)/\Pv (i + 1) (acc++[y]) (upd H4 p (.lst (acc++[y]))) else Pv (i + 1) acc H3)
  (hd:∀ acc H,Pv xs.length acc H->Q (.ref p) H):
  ∃ W:Nat->Nat->List V->Hp->Prop,(∃ m,W 0 m [] (upd H p (.lst [])))/\∀ C s' H' fp,ca (Ite S K a) (g C s' H' fp) (tt C s' H' fp) (te C s' H' fp) σ₀ p Q W:=
 og (Y:=fun i H x H1=>∃ T v,H T=none/\x=.ref T/\H1=upd H T (.tup [.int i,v])/\xs[i]?=some v) Pv h0 hp hz (fun i acc H hi w=>⟨xs,xs[i],hl i acc H (M8 hi) w,by simp [hi]⟩) (fun acc H w=>⟨xs,hl _ acc H (LV _) w,rfl⟩)
  (fun i acc H x H1 hi w y=>by
   obtain ⟨T,v,e1,e2,e3,e4⟩:=y
   exact ⟨T,v,e1,e2,e3,e4 xs (hl i acc H (M8 hi) w)⟩) (fun C s' H' fp i x acc H H1 hi w y=>by
   obtain ⟨T,v,e1,rfl,rfl,e4⟩:=y
   exact hs C s' H' fp i v T acc H e4 w e1) hd
theorem aR {H:Hp} {p:Addr} (h:H p=none) (o:HO):am H (upd H p o):=fun b u q=>by rw [aM (be q h)]; exact q
theorem am.upd {H H':Hp} {p:Addr} (s:am H H') (h:H p=none) (o:HO):am H (upd H' p o):=fun b u q=>by rw [aM (be q h)]; exact s b u q
theorem am.tup {K:Fg} {H H':Hp} {a:Addr} {xs:List V} (e:am H H') (h:SqT K H a xs):SqT K H' a xs:=by
 rcases h with (h | ⟨o,h⟩) | h
 ·exact .inl (.inl (e _ _ h))
 ·exact .inl (.inr ⟨o,e _ _ h⟩)
 ·exact .inr h
theorem small {n:Nat} (h:n<=1000):n<=Mb:=M8 (EZ h)
theorem zQ {ns:List Int} {k:Int} (h0:0<=k) (h1:k < (ns.length:Int)):atI (ns.map V.int) k=some (.int (ns.getD k.toNat 0)):=by
 have hk:k.toNat < ns.length:=by omega
 have e:k=((k.toNat:Nat):Int):=by omega
 have q:atI (ns.map V.int) ((k.toNat:Nat):Int)=some (.int (ns.getD k.toNat 0)):=cx (by rw [LX,LS hk,Md,LS hk] <;> rfl)
 rw [<-e] at q
 exact q
theorem i4 {c:Bool} {A B:Prop} (h1:c=true->A) (h2:c=false->B):if c=true then A else B:=by
 cases c with
 | true=>rw [if_pos rfl]; exact h1 rfl
 | false=>rw [if_neg Ma]; exact h2 rfl
noncomputable def bC (ns:List Int) (k:Int):Int:=
 if k < (ns.length:Int) then ns.getD k.toNat 0 else
  let n0:=if 0 < (ns.length:Int) then ns.getD ((k * 7) % (ns.length:Int)).toNat 0 * 48271 + k * 7919 else k * 7919 + 5
  let n1:=n0 * n0 % 2147483629
  (n1 + k) * (n1 + 69621) % 2147483587
noncomputable def Kk (K:Fg):Sp:=fun vs H Q _=>∃ (a:Addr) (ns:List Int) (k:Int),vs=[.ref a,.int k]/\fQ K H a ns/\0<=k/\k<=1000000/\Q (.int (bC ns k)) H
theorem fQ.same {K:Fg} {H H':Hp} {a:Addr} {ns:List Int} (h:fQ K H a ns) (s:am H H'):fQ K H' a ns:=⟨s.seq h.1,h.2⟩
structure Blt (mg:Str->Option Value):Prop where
 len:mg "len"=none
 range:mg "range"=none
 tuple:mg "tuple"=none
 list:mg "list"=none
 int:mg "int"=none
 bool:mg "bool"=none
 str:mg "str"=none
 dict:mg "dict"=none
 sum:mg "sum"=none
 all:mg "all"=none
 min:mg "min"=none
 max:mg "max"=none
 sorted:mg "sorted"=none
 enumerate:mg "enumerate"=none
 zip:mg "zip"=none
 isinstance:mg "isinstance"=none
theorem E4 {ns:List Int} (h:∀ n∈ns,MW n<=1048576) (i:Nat):MW (ns.getD i 0)<=1048576:=by
 rw [Md]
 cases e:ns[i]? with
 | none=>show MW 0<=_; decide
 | some n=>exact h n (LZ e)
end
section
open PySem.Spec
structure i5 (z TI TO j1 j2:Addr) (fp1 fp2:List Addr):Prop where
 a1:TI≠z
 a2:TO≠z
 a3:j1≠z
 a4:j2≠z
 a5:TI≠TO
 a6:TI≠j1
 a7:TI≠j2
 a8:TO≠j1
 a9:TO≠j2
 b0:j1≠j2
 b1:z∉fp1
 b2:TO∉fp1
 b3:j2∉fp1
 b4:z∉fp2
 b5:TO∉fp2
 b6:j1∉fp2
section
variable {prog:Program} {w:World} {A:Around} {E:Value->Shared->Prop} {s:Shared}
theorem _root_.PySem.Draws.but {it:Addr} {fp:List Addr} {n i:Nat} {P:Nat->Value->Prop} {St:Nat->Heap->Prop} {h h':Heap} {c:Addr} (D:Draws prog w A it fp n P St) (hst:St i h) (hs:Mm c h h') (hc:c∉fp):St i h':=
 D.frame i _ _ hst fun b hb o e=>hs.extBut b o (fun z=>hc (by rw [<-z]; exact hb)) e
theorem yh {z TI TO j1 j2:Addr} {fp1 fp2:List Addr} {n1 n2 k:Nat} {P1 P2:Nat->Value->Prop} {S1 S2:Nat->Heap->Prop} {a b:Value} {Q:Value->Shared->Prop} (Z:i5 z TI TO j1 j2 fp1 fp2)
  (D1:Draws prog w A j1 fp1 n1 P1 S1) (D2:Draws prog w A j2 fp2 n2 P2 S2) (hz:IsZip s.heap z TI TO .none) (hTI:IsPair s.heap TI (.ref j1) (.ref j2)) (hTO:IsPair s.heap TO a b) (h1:S1 k s.heap) (h2:S2 k s.heap) (l1:k < n1) (l2:k < n2)
  (hQ:∀ x y h' tk,P1 k x->P2 k y->IsZip h' z TI TO (rawInt s.heap.objs.size)->(∃ a b,IsPair h' TO a b)->S1 (k + 1) h'->S2 (k + 1) h'->IsPair h' s.heap.objs.size x y->
   (∀ c o,c∉[z,TI,TO,j1,j2]->s.heap.get? c=some o->h'.get? c=some o)->IsPair h' TI (.ref j1) (.ref j2)->Q (.ref s.heap.objs.size) { s with heap:=h',toks:=tk }):
  wpAny (model prog w) A (Builtin.«zip.__next__» ⟨[.ref z],[]⟩) (fun fin s'=>∃ v,fin=.done (.ret v)/\Q v s') E s:=by
 obtain ⟨hp,g,d,tk₀,os⟩:=s
 show wpAny _ _ (field (.ref z) 2 >>= _) _ _ _
 refine LO (Ng hz rfl (x:=.bool false) rfl ?_)
 show wpAny _ _ (field (.ref z) 3 >>= _) _ _ _
 refine LO (Ng hz rfl (x:=.ref TI) rfl ?_)
 refine LO (MV hTI rfl ?_)
 show wpAny _ _ (MT (.ref z) >>= _) _ _ _
 refine LO ?_
 unfold MT
 refine LO (Ng hz rfl (x:=.none) rfl (LQ ?_))
 simp only [if_true]
 refine LO (Of ?_)
 refine LO (Ng hz rfl (x:=.ref TO) rfl ?_)
 refine LO (Oq hz (by simp) fun g1 hz1 hs1=>?_)
 replace hz1:IsZip g1 z TI TO .ellipsis:=hz1
 replace hs1:Mm z hp g1:=hs1
 refine LO ?_
 simp only [Ur,UP,PP,P7]
 refine LO (LO (Rm ?_))
 show wpAny _ _ (MM (.ref j1) >>= _) _ _ _
 refine LO (D1.item k ⟨g1,g,d,tk₀,os⟩ _ _ l1 (D1.but h1 hs1 Z.b1) fun x g2 tk1 px st1 hs2=>LQ ?_)
 replace hs2:Mm j1 g1 g2:=hs2
 have hTO2:IsPair g2 TO a b:=hs2.extBut _ _ Z.a8 (hs1.extBut _ _ Z.a2 hTO)
 refine LO (MV hTO2 rfl ?_)
 refine LO (QF hTO2 fun g3 hTO3 hs3=>?_)
 replace hTO3:IsPair g3 TO x b:=hTO3
 replace hs3:Mm TO g2 g3:=hs3
 refine LO (Pj (LQ ?_))
 refine LO (LO (Rm ?_))
 show wpAny _ _ (MM (.ref j2) >>= _) _ _ _
 refine LO (D2.item k ⟨g3,g,d,tk1,os⟩ _ _ l2 (D2.but (D2.but (D2.but h2 hs1 Z.b4) hs2 Z.b6) hs3 Z.b5) fun y g4 tk2 py st2 hs4=>LQ ?_)
 replace hs4:Mm j2 g3 g4:=hs4
 have hTO4:IsPair g4 TO x b:=hs4.extBut _ _ Z.a9 hTO3
 refine LO (MV hTO4 rfl ?_)
 refine LO (QF hTO4 fun g5 hTO5 hs5=>?_)
 replace hTO5:IsPair g5 TO x y:=hTO5
 replace hs5:Mm TO g4 g5:=hs5
 refine LO (Pj (LQ (LQ ?_)))
 refine LO (MV hTO5 rfl ?_)
 refine LO (SE ?_)
 have hsz:g5.objs.size=hp.objs.size:=by rw [hs5.1,hs4.1,hs3.1,hs2.1,hs1.1]
 have hz5:IsZip g5 z TI TO .ellipsis:=hs5.extBut _ _ Z.a2.symm (hs4.extBut _ _ Z.a4.symm (hs3.extBut _ _ Z.a2.symm (hs2.extBut _ _ Z.a3.symm hz1)))
 have k5:∀ c o,c≠z->c≠TO->c≠j1->c≠j2->hp.get? c=some o->g5.get? c=some o:=fun c o c1 c2 c3 c4 e=>
  hs5.extBut _ _ c2 (hs4.extBut _ _ c4 (hs3.extBut _ _ c2 (hs2.extBut _ _ c3 (hs1.extBut _ _ c1 e))))
 have st15:S1 (k + 1) g5:=D1.but (D1.but (D1.but st1 hs3 Z.b2) hs4 Z.b3) hs5 Z.b2
 have st25:S2 (k + 1) g5:=D2.but st2 hs5 Z.b5
 have zlt:z < g5.objs.size:=L5 hz5
 show wpAny _ _ (PZ (.ref z) (.ref g5.objs.size) >>= _) _ _ _
 refine LO ?_
 unfold PZ
 have hz6:IsZip (g5.push { cls:=.type "tuple",data:=.seq #[x,y] }) z TI TO .ellipsis:=LP _ hz5
 refine LO (Oq hz6 (by simp) fun g7 hz7 hs7=>?_)
 replace hz7:IsZip g7 z TI TO (rawInt g5.objs.size):=hz7
 refine Oq hz7 (by simp) fun g8 hz8 hs8=>?_
 replace hz8:IsZip g8 z TI TO (rawInt g5.objs.size):=hz8
 have up:∀ c o,c≠z->g5.get? c=some o->g8.get? c=some o:=fun c o c1 e=>hs8.extBut _ _ c1 (hs7.extBut _ _ c1 (LP _ e))
 have hT8:IsPair g8 g5.objs.size x y:=hs8.extBut _ _ (On zlt) (hs7.extBut _ _ (On zlt) (L6 _ rfl))
 rw [hsz] at hz8 hT8
 refine LQ ⟨_,rfl,?_⟩
 show Q (.ref g5.objs.size) _
 rw [hsz]
 exact hQ x y g8 tk2 px py hz8 ⟨x,y,up _ _ Z.a2 hTO5⟩ (D1.frame _ _ _ st15 fun c hc o e=>up c o (fun q=>Z.b1 (by rw [<-q]; exact hc)) e) (D2.frame _ _ _ st25 fun c hc o e=>up c o (fun q=>Z.b4 (by rw [<-q]; exact hc)) e) hT8
  (fun c o hc e=>by
   simp only [L7,M9,or_false,not_or] at hc
   exact up c o hc.1 (k5 c o hc.1 hc.2.2.1 hc.2.2.2.1 hc.2.2.2.2 e)) (up _ _ Z.a1 (k5 _ _ Z.a1 Z.a5 Z.a6 Z.a7 hTI))
theorem zR {z TI TO j1 j2:Addr} {fp1 fp2:List Addr} {n1 n2 k:Nat} {P1 P2:Nat->Value->Prop} {S1 S2:Nat->Heap->Prop} {a b:Value} {Q:Fin->Shared->Prop} (Z:i5 z TI TO j1 j2 fp1 fp2)
  (D1:Draws prog w A j1 fp1 n1 P1 S1) (D2:Draws prog w A j2 fp2 n2 P2 S2) (hz:IsZip s.heap z TI TO .none) (hTI:IsPair s.heap TI (.ref j1) (.ref j2)) (hTO:IsPair s.heap TO a b) (h1:S1 k s.heap) (h2:S2 k s.heap) (l:k=min n1 n2)
  (hE:∀ h' e tk,(∀ c o,c∉[z,TI,TO,j1,j2]->s.heap.get? c=some o->h'.get? c=some o)->(∃ o,h'.get? e=some o/\o.cls=.type "StopIteration")->E (.ref e) { s with heap:=h',toks:=tk }):
  wpAny (model prog w) A (Builtin.«zip.__next__» ⟨[.ref z],[]⟩) Q E s:=by
 obtain ⟨hp,g,d,tk₀,os⟩:=s
 have kp:∀ {h':Heap},(∀ c o,c≠z->c≠TO->c≠j1->c≠j2->hp.get? c=some o->h'.get? c=some o)->∀ c o,c∉[z,TI,TO,j1,j2]->hp.get? c=some o->h'.get? c=some o:=fun {h'} q c o hc e=>by
  simp only [L7,M9,or_false,not_or] at hc
  exact q c o hc.1 hc.2.2.1 hc.2.2.2.1 hc.2.2.2.2 e
 show wpAny _ _ (field (.ref z) 2 >>= _) _ _ _
 refine LO (Ng hz rfl (x:=.bool false) rfl ?_)
 show wpAny _ _ (field (.ref z) 3 >>= _) _ _ _
 refine LO (Ng hz rfl (x:=.ref TI) rfl ?_)
 refine LO (MV hTI rfl ?_)
 show wpAny _ _ (MT (.ref z) >>= _) _ _ _
 refine LO ?_
 unfold MT
 refine LO (Ng hz rfl (x:=.none) rfl (LQ ?_))
 simp only [if_true]
 refine LO (Of ?_)
 refine LO (Ng hz rfl (x:=.ref TO) rfl ?_)
 refine LO (Oq hz (by simp) fun g1 hz1 hs1=>?_)
 replace hz1:IsZip g1 z TI TO .ellipsis:=hz1
 replace hs1:Mm z hp g1:=hs1
 refine LO ?_
 simp only [Ur,UP,PP,P7]
 refine LO (LO (Rm ?_))
 show wpAny _ _ (MM (.ref j1) >>= _) _ _ _
 by_cases hk:k=n1
 ·subst hk
  refine LO (D1.done ⟨g1,g,d,tk₀,os⟩ _ _ (D1.but h1 hs1 Z.b1) fun g2 e hs2 he=>?_)
  replace hs2:PL j1 g1 g2:=hs2
  obtain ⟨oe,hoe,hce⟩:=he
  have hz2:IsZip g2 z TI TO .ellipsis:=hs2 _ _ Z.a3.symm hz1
  have nez:e≠z:=fun q=>by
   subst q
   rw [hz2] at hoe
   cases hoe
   simp at hce
  refine Oq hz2 (by simp) fun g3 _ hs3=>hE g3 e tk₀ (kp fun c o c1 _ c3 _ q=>hs3.extBut _ _ c1 (hs2 _ _ c3 (hs1.extBut _ _ c1 q))) ⟨oe,hs3.extBut _ _ nez hoe,hce⟩
 ·have hlt:k < n1:=by omega
  have hk2:k=n2:=by omega
  refine LO (D1.item k ⟨g1,g,d,tk₀,os⟩ _ _ hlt (D1.but h1 hs1 Z.b1) fun x g2 tk1 px st1 hs2=>LQ ?_)
  replace hs2:Mm j1 g1 g2:=hs2
  have hTO2:IsPair g2 TO a b:=hs2.extBut _ _ Z.a8 (hs1.extBut _ _ Z.a2 hTO)
  refine LO (MV hTO2 rfl ?_)
  refine LO (QF hTO2 fun g3 hTO3 hs3=>?_)
  replace hs3:Mm TO g2 g3:=hs3
  refine LO (Pj (LQ ?_))
  refine LO (LO (Rm ?_))
  show wpAny _ _ (MM (.ref j2) >>= _) _ _ _
  subst hk2
  refine LO (D2.done ⟨g3,g,d,tk1,os⟩ _ _ (D2.but (D2.but (D2.but h2 hs1 Z.b4) hs2 Z.b6) hs3 Z.b5) fun g4 e hs4 he=>?_)
  replace hs4:PL j2 g3 g4:=hs4
  obtain ⟨oe,hoe,hce⟩:=he
  have hz4:IsZip g4 z TI TO .ellipsis:=hs4 _ _ Z.a4.symm (hs3.extBut _ _ Z.a2.symm (hs2.extBut _ _ Z.a3.symm hz1))
  have nez:e≠z:=fun q=>by
   subst q
   rw [hz4] at hoe
   cases hoe
   simp at hce
  refine Oq hz4 (by simp) fun g5 _ hs5=>hE g5 e tk1 (kp fun c o c1 c2 c3 c4 q=>hs5.extBut _ _ c1 (hs4 _ _ c4 (hs3.extBut _ _ c2 (hs2.extBut _ _ c3 (hs1.extBut _ _ c1 q))))) ⟨oe,hs5.extBut _ _ nez hoe,hce⟩
end
noncomputable abbrev zh1 (S1:Src) (h:Heap) (l1:Addr):Heap:=h.push { cls:=.type S1.icls,data:=.fields #[.ref l1,.int 0 0] }
noncomputable abbrev zh2 (S1 S2:Src) (h:Heap) (l1 l2:Addr):Heap:=(zh1 S1 h l1).push { cls:=.type S2.icls,data:=.fields #[.ref l2,.int 0 0] }
noncomputable abbrev zh3 (S1 S2:Src) (h:Heap) (l1 l2:Addr):Heap:=(zh2 S1 S2 h l1 l2).push { cls:=.type "tuple",data:=.seq #[.ref h.objs.size,.ref (zh1 S1 h l1).objs.size] }
noncomputable abbrev zh4 (S1 S2:Src) (h:Heap) (l1 l2:Addr):Heap:=(zh3 S1 S2 h l1 l2).push { cls:=.type "tuple",data:=.seq #[.none,.none] }
noncomputable abbrev zh5 (S1 S2:Src) (h:Heap) (l1 l2:Addr):Heap:=(zh4 S1 S2 h l1 l2).push { cls:=.type "zip",data:=.fields #[.none,.bool false,.bool false,.ref (zh2 S1 S2 h l1 l2).objs.size,.ref (zh3 S1 S2 h l1 l2).objs.size] }
theorem Ca (S1 S2:Src) (l1 l2:Addr) (xs ys:Array Value):
  Meets (Builtin.«zip.__new__» ⟨[.type "zip",.ref l1,.ref l2],[]⟩) (fun _ R s=>S1.Is s.heap l1 xs/\S2.Is s.heap l2 ys/\R (.ok (.ret (.ref (zh4 S1 S2 s.heap l1 l2).objs.size))) { s with heap:=zh5 S1 S2 s.heap l1 l2 }):=
 .of_wp fun prog w A R s h=>by
  obtain ⟨hp,g,d,tk,os⟩:=s
  obtain ⟨q1,q2,h⟩:=h
  have hsub:=sub_zip
  have hL1:S1.Is (Ue ⟨hp,g,d,tk,os⟩) l1 xs:=q1
  have hL2:S2.Is (Ue ⟨zh1 S1 hp l1,g,d,tk,os⟩) l2 ys:=S2.isKeep q2 fun o e=>LP _ e
  wp_walk using S1.iter hL1,S2.iter hL2
  exact ⟨_,rfl,h⟩
noncomputable def Itz (S1 S2 : Src) (K : Fg) (a b : Addr) : It :=
  ⟨fun i H => ∃ xs ys x y, S1.Sq K H a xs ∧ S2.Sq K H b ys ∧ xs[i]? = some x ∧ ys[i]? = some y,
   fun i H x H' => ∃ T u v, H T = none ∧ x = .ref T ∧ H' = upd H T (.tup [u, v]) ∧ ∀ xs ys, S1.Sq K H a xs → S2.Sq K H b ys → xs[i]? = some u ∧ ys[i]? = some v,
   fun i H => ∃ xs ys, S1.Sq K H a xs ∧ S2.Sq K H b ys ∧ min xs.length ys.length = i⟩
theorem zap {z TI TO j1 j2 a b:Addr} (nd:[z,TI,TO,j1,j2].Nodup) (h1:∀ c∈[z,TI,TO,j1,j2],c≠a) (h2:∀ c∈[z,TI,TO,j1,j2],c≠b):i5 z TI TO j1 j2 [j1,a] [j2,b]:=by
 simp only [N3,L7,M9,or_false,not_or] at nd
 obtain ⟨⟨c1,c2,c3,c4⟩,⟨c5,c6,c7⟩,⟨c8,c9⟩,c10,_⟩:=nd
 have g1:=h1 z (by simp)
 have g2:=h1 TO (by simp)
 have g3:=h1 j2 (by simp)
 have g4:=h2 z (by simp)
 have g5:=h2 TO (by simp)
 have g6:=h2 j1 (by simp)
 exact ⟨Np c1,Np c2,Np c3,Np c4,c5,c6,c7,c8,c9,c10,by simp [c3,g1],by simp [c8,g2],by simp [Np c10,g3],by simp [c4,g4],by simp [c9,g5],by simp [c10,g6]⟩
theorem Gz {P:Program} {w:World} {K:Fg} {elts:List Expr} {k0:Nat} {pos:Pos} (S1 S2:Src) (a b z TI TO j1 j2:Addr) (nd:[z,TI,TO,j1,j2].Nodup):
  qL P w K (.Tuple elts k0 pos) (Itz S1 S2 K a b) [z,TI,TO,j1,j2] z (fun i h=>IsZip h z TI TO .none/\IsPair h TI (.ref j1) (.ref j2)/\(∃ u v,IsPair h TO u v)/\S1.It h j1 a i/\S2.It h j2 b i) where
 mem:=by simp
 obj:=fun i h st c hc=>by
  obtain ⟨q1,q2,⟨u,v,q3⟩,q4,q5⟩:=st
  simp only [L7,M9,or_false] at hc
  rcases hc with rfl | rfl | rfl | rfl | rfl
  ·exact ⟨_,q1,fun v z=>nomatch z⟩
  ·exact ⟨_,q2,fun v z=>nomatch z⟩
  ·exact ⟨_,q3,fun v z=>nomatch z⟩
  ·obtain ⟨o,ho,_,hd⟩:=S1.isIt q4
   exact ⟨o,ho,fun v z=>by rw [hd] at z; cases z⟩
  ·obtain ⟨o,ho,_,hd⟩:=S2.isIt q5
   exact ⟨o,ho,fun v z=>by rw [hd] at z; cases z⟩
 keep:=fun i h h' st k=>by
  obtain ⟨q1,q2,⟨u,v,q3⟩,q4,q5⟩:=st
  exact ⟨k z (by simp) _ q1,k TI (by simp) _ q2,⟨u,v,k TO (by simp) _ q3⟩,S1.itKeep q4 fun o q=>k j1 (by simp) o q,S2.itKeep q5 fun o q=>k j2 (by simp) o q⟩
 item:=by
  intro X hP hw hK hc i pins s σ H E I hf st hg
  subst hP hw hK
  obtain ⟨xs,ys,x,y,hq1,hq2,hx,hy⟩:=hg
  obtain ⟨us,r1,p1,_⟩:=S1.get I hq1
  obtain ⟨vs,r2,p2,_⟩:=S2.get I hq2
  obtain ⟨q1,q2,⟨u0,v0,q3⟩,q4,q5⟩:=st
  obtain ⟨u,hu,ru⟩:=r1.get hx
  obtain ⟨v,hv,rv⟩:=r2.get hy
  have Z:=zap nd (fun c hc'=>S1.off I hq1 (hf c hc')) (fun c hc'=>S2.off I hq2 (hf c hc'))
  have hh:X.A.in1.handled=none:=I.ok.hd hc
  have n1:a≠j1:=Np (S1.off I hq1 (hf j1 (by simp)))
  have n2:b≠j2:=Np (S2.off I hq2 (hf j2 (by simp)))
  have l1:i < us.toArray.size:=by have:=(LU.mp hu).1; simpa using this
  have l2:i < vs.toArray.size:=by have:=(LU.mp hv).1; simpa using this
  have hT:s.TypeIs (.ref z) "zip":=⟨_,q1,rfl⟩
  unfold pyNext
  refine LO (OR (M0 (name:=Nw "__next__") hT Oy (ML Oy hT Qr
   (yh (A:=X.A.in1) Z (S1.draws hh j1 a n1 us.toArray) (S2.draws hh j2 b n2 vs.toArray) q1 q2 q3 ⟨q4,p1⟩ ⟨q5,p2⟩ l1 l2 fun x' y' h' tk px py z1 z2 z3 z4 z5 z6 z7=>LQ ?_) (Qg _))))
  have ex:x'=u:=by
   have:us.toArray[i]?=some u:=by simpa using hu
   rw [this] at px
   exact (L9 px).symm
  have ey:y'=v:=by
   have:vs.toArray[i]?=some v:=by simpa using hv
   rw [this] at py
   exact (L9 py).symm
  subst ex ey
  refine ⟨_,rfl,wpAny_letOwnedTupleGo_zip z1 fun h2 w1 hs2=>?_⟩
  have nz:∀ c,c∈[TI,TO,j1,j2]->c≠z:=fun c hc' e=>by
   subst e
   exact (N3.mp nd).1 hc'
  have zlt:z < s.heap.objs.size:=L5 q1
  have hT2:h2.get? s.heap.objs.size=some { cls:=.type "tuple",data:=.seq #[x',y'] }:=hs2.extBut _ _ (Kg (LV _) zlt) z5
  have kept:∀ c ob,c∉[z,TI,TO,j1,j2]->s.heap.get? c=some ob->h2.get? c=some ob:=fun c ob hc' q=>hs2.extBut _ _ (fun e=>hc' (by simp [e])) (z6 c ob hc' q)
  obtain ⟨u1,v1,z2⟩:=z2
  refine ⟨.ref s.heap.objs.size,upd H s.heap.objs.size (.tup [x,y]),?_,rfl,⟨_,x,y,I.fresh,rfl,rfl,fun xs' ys' h1 h2=>by rw [S1.inj I h1 hq1,S2.inj I h2 hq2]; exact ⟨hx,hy⟩⟩,
   ⟨w1,hs2.extBut _ _ (nz TI (by simp)) z7,⟨u1,v1,hs2.extBut _ _ (nz TO (by simp)) z2⟩,S1.itKeep z3.1 fun o q=>hs2.extBut _ _ (nz j1 (by simp)) q,S2.itKeep z4.1 fun o q=>hs2.extBut _ _ (nz j2 (by simp)) q⟩,fun c hc'=>?_⟩
  ·exact I.turns (t':=tk) hf kept (LV _) ⟨(by show 2<=Mb; decide),[x',y'],.cons ru (.cons rv .nil),_,hT2,rfl,⟨0,rfl⟩,rfl⟩
  ·have lt:c < s.heap.objs.size:=by
    have st':IsZip s.heap z TI TO .none/\IsPair s.heap TI (.ref j1) (.ref j2)/\(∃ u v,IsPair s.heap TO u v)/\S1.It s.heap j1 a i/\S2.It s.heap j2 b i:=⟨q1,q2,⟨u0,v0,q3⟩,q4,q5⟩
    simp only [L7,M9,or_false] at hc'
    rcases hc' with rfl | rfl | rfl | rfl | rfl
    ·exact zlt
    ·exact L5 q2
    ·exact L5 q3
    ·obtain ⟨o,ho,_⟩:=S1.isIt q4
     exact L5 ho
    ·obtain ⟨o,ho,_⟩:=S2.isIt q5
     exact L5 ho
   rw [aM (kK lt (LV _))]
   exact (hf c hc').1
 done:=by
  intro X hP hw hK hc i pins s σ H E I hf st hg
  subst hP hw hK
  obtain ⟨xs,ys,hq1,hq2,hi⟩:=hg
  obtain ⟨us,r1,p1,_⟩:=S1.get I hq1
  obtain ⟨vs,r2,p2,_⟩:=S2.get I hq2
  obtain ⟨q1,q2,⟨u0,v0,q3⟩,q4,q5⟩:=st
  have Z:=zap nd (fun c hc'=>S1.off I hq1 (hf c hc')) (fun c hc'=>S2.off I hq2 (hf c hc'))
  have hh:X.A.in1.handled=none:=I.ok.hd hc
  have n1:a≠j1:=Np (S1.off I hq1 (hf j1 (by simp)))
  have n2:b≠j2:=Np (S2.off I hq2 (hf j2 (by simp)))
  have hT:s.TypeIs (.ref z) "zip":=⟨_,q1,rfl⟩
  have hl:i=min us.toArray.size vs.toArray.size:=by
   have:=r1.length
   have:=r2.length
   simp only [Me]
   omega
  unfold pyNext
  refine LO (OR (M0 (name:=Nw "__next__") hT Oy (ML Oy hT Qr
   (zR (A:=X.A.in1) Z (S1.draws hh j1 a n1 us.toArray) (S2.draws hh j2 b n2 vs.toArray) q1 q2 q3 ⟨q4,p1⟩ ⟨q5,p2⟩ hl fun h' e tk kp he=>?_) (Qg _))))
  obtain ⟨o,ho,hcl⟩:=he
  refine LO (N9 (T:="StopIteration") (b:=true) ⟨o,ho,hcl⟩ P8 ?_)
  exact LQ ⟨rfl,I.turnsN (t':=tk) hf kp⟩
 self:=fun _ _ _ _ _ st h=>RS st.1 h
section
variable {X:Cx} {elts:List Expr} {k0:Nat} {tpos:Pos}
noncomputable def pA (S1 S2:Src) (K:Fg) (ta:TA):TI:=fun σ H R=>ta σ H fun vs H1=>∃ a b xs ys,vs=[.ref a,.ref b]/\S1.Sq K H1 a xs/\S2.Sq K H1 b ys/\R (Itz S1 S2 K a b) H1
theorem lT (S1 S2:Src) {a b:Expr} {ta:TA} {p pos:Pos} (hg:Gl X "zip") (hm:X.mg "zip"=none) (ha:PA X [a,b] ta) (hs:Mp [a,b] X.env=[(false,eval a X.env),(false,eval b X.env)]:=by rfl) (hs2:Mp [b] X.env=[(false,eval b X.env)]:=by rfl):
  PI X (.Tuple elts k0 tpos) (.Call (.Name "zip" p) [a,b] [] pos) (pA S1 S2 X.K ta):=by
 intro pins s σ H R I h
 refine Call_ (gA I hg hm boot_zip (Ny (thn (ha pos pins s σ H _ I h) fun us s1 ⟨vs,H1,I1,r1,q1⟩=>?_) (by rw [hs,hs2]) (by rw [hs2]; rfl)))
 obtain ⟨l1,l2,xs,ys,e,hq1,hq2,q⟩:=q1
 subst e
 obtain ⟨u,v,rfl,ru,rv⟩:=r1.two
 cases ru
 cases rv
 obtain ⟨us1,_,p1,_⟩:=S1.get I1 hq1
 obtain ⟨us2,_,p2,_⟩:=S2.get I1 hq2
 refine Tz F.called_zip (by decide) (Us _ _) (UQ _ _) (fun obj=>SV obj _ _) UR (Ca S1 S2 l1 l2 us1.toArray us2.toArray) ⟨p1,p2,?_⟩
 generalize hn:s1.heap.objs.size=n
 have z1:(zh1 S1 s1.heap l1).objs.size=n + 1:=by rw [MG,hn]
 have z2:(zh2 S1 S2 s1.heap l1 l2).objs.size=n + 2:=by rw [MG,z1]
 have z3:(zh3 S1 S2 s1.heap l1 l2).objs.size=n + 3:=by rw [MG,z2]
 have z4:(zh4 S1 S2 s1.heap l1 l2).objs.size=n + 4:=by rw [MG,z3]
 have g5:(zh5 S1 S2 s1.heap l1 l2).get? (zh4 S1 S2 s1.heap l1 l2).objs.size=some _:=L6 _ rfl
 have g4:(zh5 S1 S2 s1.heap l1 l2).get? (zh3 S1 S2 s1.heap l1 l2).objs.size=some _:=LP _ (L6 _ rfl)
 have g3:(zh5 S1 S2 s1.heap l1 l2).get? (zh2 S1 S2 s1.heap l1 l2).objs.size=some _:=LP _ (LP _ (L6 _ rfl))
 have g2:(zh5 S1 S2 s1.heap l1 l2).get? (zh1 S1 s1.heap l1).objs.size=some _:=LP _ (LP _ (LP _ (L6 _ rfl)))
 have g1:(zh5 S1 S2 s1.heap l1 l2).get? s1.heap.objs.size=some _:=LP _ (LP _ (LP _ (LP _ (L6 _ rfl))))
 have kp:∀ c o,s1.heap.get? c=some o->(zh5 S1 S2 s1.heap l1 l2).get? c=some o:=fun c o e=>
  LP _ (LP _ (LP _ (LP _ (LP _ e))))
 show _/\_
 rw [z2,z3,z4] at g5
 rw [z1,z2,hn] at g3
 rw [z3] at g4
 rw [z1] at g2
 rw [hn] at g1
 rw [z4]
 refine ⟨⟨_,g5,rfl⟩,RS g5 ?_⟩
 have I2:Inv X pins σ H1 { s1 with heap:=zh5 S1 S2 s1.heap l1 l2 }:=I1.kept (t':=s1.toks) kp
 refine ⟨n + 4,[n + 4,n + 2,n + 3,n,n + 1],_,_,H1,rfl,I2,Gz S1 S2 l1 l2 _ _ _ _ _ (by simp),⟨g5,g3,⟨_,_,g4⟩,S1.mkI g1 rfl rfl,S2.mkI g2 rfl rfl⟩,fun c hc=>?_,q⟩
 have hc':s1.heap.objs.size<=c:=by
  rw [hn]
  simp only [L7,M9,or_false] at hc
  rcases hc with rfl | rfl | rfl | rfl | rfl
  ·exact NU _ _
  ·exact NU _ _
  ·exact NU _ _
  ·exact LV _
  ·exact NU _ _
 exact I1.fpOk hc' (I1.hok.fresh hc')
end
end
section
open PySem.Spec
section
variable {X:Cx}
noncomputable def Iq (K:Fg):R2:=fun x y H Q=>∃ a b xs ys,x=.ref a/\y=.ref b/\SqT K H a xs/\SqT K H b ys/\xs.length + ys.length<=Mb/\
 (xs=[]->Q (.ref b) H)/\(xs≠[]->ys=[]->Q (.ref a) H)/\(xs≠[]->ys≠[]->∀ p,H p=none->Q (.ref p) (upd H p (.tup (xs++ys))))
theorem Ja:OpR X (OO .Add) (Iq X.K):=by
 intro pins s σ H x y v u Q I rx ry h
 obtain ⟨a,b,xs,ys,rfl,rfl,ha,hb,hz,q0,q1,q2⟩:=h
 by_cases hx:xs=[]
 ·cases rx
  cases ry
  obtain ⟨its,r1,p1,_⟩:=I.tuple ha
  obtain ⟨its2,r2,p2,_⟩:=I.tuple hb
  obtain ⟨⟨cls,dd,data,sl⟩,ho,hc,n,hd⟩:=id p1
  obtain ⟨⟨cls2,dd2,data2,sl2⟩,ho2,hc2,n2,hd2⟩:=id p2
  simp only at hc hd hc2 hd2
  subst hc hd hc2 hd2
  have e:its=[]:=r1.nil_iff.mpr hx
  exact Tv ⟨_,ho,rfl⟩ ⟨_,ho2,rfl⟩ RM S0 Qj Qa (PX _ _)
   (tuple_addW0 a b its.toArray its2.toArray n n2 dd dd2 sl sl2 (by simp [e])) ⟨ho,ho2,⟨.ref b,H,I,rfl,q0 hx⟩⟩
 ·exact IW pins s σ H _ _ v u Q I rx ry ⟨a,b,xs,ys,rfl,rfl,ha,hb,hx,hz,q1 hx,q2 hx⟩
theorem yi {x:V}:∀ {xs:List V} {us:List Value},aG xs us->xs.all dQ=true->us.countP (eqU x)=xs.countP fun y=>eqV y x
 | _,_,.nil,_=>rfl
 | y :: xs,u :: us,.cons r t,f=>by
  rw [O9,NM] at f
  rw [Ut,Ut,zL r f.1,yi t f.2]
noncomputable def tBT (r:V->List V->Hp->VK->Prop) (to:TE) (t:TA):TE:=fun σ H Q=>to σ H fun x H1=>(∃ a xs,x=.ref a/\H1 a=some (.tup xs))/\t σ H1 fun xs H2=>r x xs H2 Q
theorem K8 {o e:Expr} {es:List Expr} {to:TE} {t:TA} {name:Str} {apos cpos:Pos} {id:String} {r:V->List V->Hp->VK->Prop} (pa:UL "tuple") (slot:Slot "tuple" name id) (hty:typeOf (.builtin id)=pure (.type "method_descriptor")) (hm:MtR X id r) (ho:PE X o to) (ha:PA X (e :: es) t)
  (hbase:O8 o name X.env (eval o X.env)=eval o X.env:=by rfl)
  (hfew:((backTo cpos (Mp (e :: es) X.env)).all (fun x=>!x.1) && (Qp cpos (Ph [] X.env)).all (fun x=>x.1.isSome)
   && decide ((e :: es).length + ([]:List Keyword).length + (if ([]:List Keyword).isEmpty then 0 else 1) < 30))=true:=by rfl)
  (hline:(apos.endLine == cpos.line)=true:=by rfl) (hs:Mp (e :: es) X.env=(false,eval e X.env) :: Mp es X.env:=by rfl) (hplain:(backTo cpos (Mp es X.env)).any (·.1)=false:=by rfl):
  PE X (.Call (.Attribute o name apos) (e :: es) [] cpos) (tBT r to t):=by
 intro pins s σ H Q I h
 refine Qk hbase hfew hline rfl (thn (ho pins s σ H _ I h) fun v s1 ⟨x,H1,I1,r1,ty,q1⟩=>?_)
 obtain ⟨a,xs,rfl,hx⟩:=ty
 cases r1
 obtain ⟨_,its,_,o',ho',hc',_,hd'⟩:=I1.hok a _ hx
 refine ⟨"tuple",id,pa,slot,hty,⟨o',ho',hc'⟩,fun b e=>?_,?_⟩
 ·cases e
  exact ⟨o',ho',hd'⟩
 have hA:=ha cpos pins s1 σ H1 _ I1 q1
 rw [hs] at hA ⊢
 refine Pi (by show (false || (backTo cpos (Mp es X.env)).any (·.1))=false; rw [hplain] <;> rfl) (QD ?_)
 exact thn hA fun us s2 ⟨vs,H2,I2,r2,q2⟩=>hm pins s2 σ H2 (.ref a) vs (.ref a) us Q I2 rfl r2 q2
noncomputable def Cb:V->List V->Hp->VK->Prop:=fun x vs H Q=>∃ l xs y,x=.ref l/\vs=[y]/\H l=some (.tup xs)/\dQ y=true/\xs.all dQ=true/\Q (.int (xs.countP fun z=>eqV z y:Nat)) H
theorem E5:MtR X "tuple.count" Cb:=by
 intro pins s σ H x vs v us Q I rx rv h
 obtain ⟨l,xs,y,rfl,rfl,hH,fy,fx,q⟩:=h
 cases rx
 obtain ⟨u,rfl,ru⟩:=rv.one
 obtain ⟨_,its,r,⟨cls,dd,data,sl⟩,ho,hc,⟨n,hd⟩,hdd⟩:=I.hok l _ hH
 simp only at hc hd hdd
 subst hc hd hdd
 refine P6 RU ⟨_,ho,rfl⟩ PySem.F.entry_tuple_count (PySem.F.args_tuple_count_2 _ _) (SeqAt.tuple_countAt l its.toArray n none sl u (eqU y)) ⟨ho,fun z hz=>lR ru fy r fx z (by simpa using hz),?_⟩
 refine ⟨.int (xs.countP fun z=>eqV z y:Nat),H,I.tok _,⟨s.toks,?_⟩,q⟩
 show OW ((its.toArray.toList.countP (eqU y):Nat):Int) s.toks=_
 rw [show its.toArray.toList=its from rfl,yi r fx]
theorem qW (hc:X.calm=true):dI X (.builtin "max") (fun xs H Q=>∃ (p:Addr) (ns:List Int),xs=[.ref p]/\SqL X.K H p (ns.map V.int)/\ns≠[]/\∀ M,M∈ns->(∀ a∈ns,a<=M)->Q (.int M) H):=by
 intro pins s σ H xs us Q I r h
 obtain ⟨p,ns,rfl,hq,hne,q⟩:=h
 obtain ⟨u,rfl,rx⟩:=r.one
 cases rx
 obtain ⟨its,rv,pl,hz⟩:=I.list hq
 have hi:=lj rv
 obtain ⟨zs,ez⟩:=(hi.allInts).items
 have hl:s.heap.IsList p (Qs zs):=by rw [<-ez]; exact pl.isList
 have hnum:zs.toList.map (·.1)=ns:=by
  rw [<-nums_intItems,<-ez]
  exact hi.numsOf
 have hsz:zs.size=ns.length:=by rw [<-hnum]; simp
 have hpos:0 < zs.size:=by
  rw [hsz]
  exact QP.mpr hne
 refine max_intList (I.ok.hd hc) hl hpos fun v h' tk hv hk=>?_
 obtain ⟨t,rfl⟩:=Ug hv
 obtain ⟨h1,h2⟩:=argBest_gt (numAt zs) (zs.size - 1)
 refine ⟨.int _,H,I.kept hk,⟨t,rfl⟩,q _ ?_ fun a ha=>?_⟩
 ·rw [Uu,hnum]
  exact getD_mem (by omega)
 ·rw [<-hnum] at ha
  obtain ⟨j,hj,rfl⟩:=mem_getD ha
  rw [LR,ME] at hj
  rw [<-Uu]
  exact h2 j (by omega)
noncomputable def zT:V->List V->Hp->VK->Prop:=fun x vs H Q=>∃ (l:Addr) (ns:List Int) (m:Int) (j:Nat),x=.ref l/\vs=[.int m]/\H l=some (.lst (ns.map V.int))/\ns[j]?=some m/\(∀ i,i < j->ns[i]?≠some m)/\j<=1000/\Q (.int j) H
theorem GB:MtR X "list.index" zT:=by
 intro pins s σ H x vs v us Q I rx rv h
 obtain ⟨l,ns,m,j,rfl,rfl,hH,hj,hno,h1000,q⟩:=h
 cases rx
 obtain ⟨u,rfl,t,rfl⟩:=rv.one
 obtain ⟨z,its,n,r,hl,e⟩:=I.lstM hH
 have at_:∀ (i:Nat) (hi:i < its.toArray.size),∃ k t',ns[i]?=some k/\its.toArray[i]=.int k t':=fun i hi=>by
  have hi':i < ns.length:=by
   rw [LR] at hl
   have:i < its.length:=by simpa using hi
   omega
  obtain ⟨w',hw,rw'⟩:=r.get (i:=i) (x:=.int ns[i]) (by rw [LX,LS hi'] <;> rfl)
  obtain ⟨t',e'⟩:=(show ∃ t',w'=OW ns[i] t' from rw')
  have:=(LU.mp hw).2
  exact ⟨ns[i],t',LS hi',by rw [<-e']; simpa using this⟩
 have hjs:j < its.toArray.size:=by
  have:=(LU.mp hj).1
  rw [LR] at hl
  simp only [Me]
  omega
 refine P6 R6 ⟨_,e,rfl⟩ PySem.F.entry_list_index (PySem.F.args_list_index_2 _ _) (SeqAt.list_indexAt l its.toArray n none #[] (.int m t) (eqU (.int m)) j hjs (by omega) ?_ ?_) ⟨e,fun y hy=>?_,?_⟩
 ·obtain ⟨k,t',e1,e2⟩:=at_ j hjs
  rw [e2]
  rw [hj] at e1
  cases e1
  exact beq_self_eq_true m
 ·intro i hi hlt
  obtain ⟨k,t',e1,e2⟩:=at_ i hi
  rw [e2]
  show (k == m)=false
  exact beq_eq_false_iff_ne.mpr fun z=>hno i hlt (by rw [e1,z])
 ·exact lR (x:=.int m) ⟨t,rfl⟩ rfl r (by rw [QE]; simp [dQ]) y (by simpa using hy)
 ·exact ⟨.int j,H,I.tok _,⟨_,rfl⟩,q⟩
end
end
end L2
section
namespace L2
open PySem
section
variable {σ:St} {H:Hp} {Q:VK} {D:jD} {K:Fg}
theorem bu {t u:TS} (h:t { nx:=u D,rt:=D.rt,bk:=D.bk,ct:=D.ct } σ H):ar t u D σ H:=h
theorem fB {t u:TS} (h:∀ NX:St->Hp->Prop,(∀ σ H,u D σ H->NX σ H)->t { nx:=NX,rt:=D.rt,bk:=D.bk,ct:=D.ct } σ H):ar t u D σ H:=h _ fun _ _ h=>h
theorem E6 (h:D.nx σ H):ba D σ H:=h
theorem mT {te:TE} {g:TG} (h:te σ H fun x H1=>g x σ H1 D.nx):aK te g D σ H:=h
theorem K9 {te:TE} (h:te σ H D.rt):aJ te D σ H:=h
theorem Kl {te:TE} (h:te σ H fun _ H1=>D.nx σ H1):cV te D σ H:=h
theorem Ir {c:TT} {t u:TS} (h:c σ H fun b H1=>if b=true then t D σ H1 else u D σ H1):bp c t u D σ H:=h
theorem kr {i:Nat} {v:V} {R:St->Hp->Prop} (h:R (σ.set i (some v)) H):ao i v σ H R:=h
theorem Km {to ti:TE} {t:zI} {v:V} {R:St->Hp->Prop} (h:to σ H fun o H1=>ti σ H1 fun i H2=>t o i v H2 fun H3=>R σ H3):oW to ti t v σ H R:=h
theorem qX {p:Addr} {xs:List V} {k:Int} {v:V} {R:Hp->Prop} {j:Nat} (e:H p=some (.lst xs)) (hj:ixN xs.length k=some j) (h:R (upd H p (.lst (xs.set j v)))):mP (.ref p) (.int k) v H R:=⟨p,xs,k,j,rfl,rfl,e,hj,h⟩
theorem pB {i:Nat} {v:V} (e:σ[i]?=some (some v)) (h:Q v H):ac i σ H Q:=⟨v,e,h⟩
theorem r_c {v:V} (h:Q v H):tC v σ H Q:=h
theorem ut {r:R2} {ta tb:TE} (h:ta σ H fun x H1=>tb σ H1 fun y H2=>r x y H2 Q):tOp r ta tb σ H Q:=h
theorem LF {r:V->Hp->VK->Prop} {ta:TE} (h:ta σ H fun x H1=>r x H1 Q):tUn r ta σ H Q:=h
theorem LG {g:Int->Int->V} {i j:Int} (h:Q (g i j) H):rI0 g (.int i) (.int j) H Q:=⟨i,j,rfl,rfl,h⟩
theorem r_I {C:Int->Int->Prop} {g:Int->Int->V} {i j:Int} (c:C i j) (h:Q (g i j) H):rI C g (.int i) (.int j) H Q:=⟨i,j,rfl,rfl,c,h⟩
theorem r_U {g:Int->V} {i:Int} (h:Q (g i) H):rU g (.int i) H Q:=⟨i,rfl,h⟩
theorem La {i j:Int} (h:Q (.bl (decide (i=j))) H):rEq (.int i) (.int j) H Q:=⟨rfl,by rw [show decide (V.int i=V.int j)=decide (i=j) from decide_eq_decide.mpr ⟨fun e=>by injection e,fun e=>by rw [e]⟩]; exact h⟩
theorem Lb {i j:Int} (h:Q (.bl (!decide (i=j))) H):rNe (.int i) (.int j) H Q:=⟨rfl,by rw [show decide (V.int i=V.int j)=decide (i=j) from decide_eq_decide.mpr ⟨fun e=>by injection e,fun e=>by rw [e]⟩]; exact h⟩
theorem Lc {i j:Bool} (h:Q (.bl (!(i == j))) H):rNe (.bl i) (.bl j) H Q:=⟨rfl,by rw [show decide (V.bl i=V.bl j)=(i == j) by cases i <;> cases j <;> rfl]; exact h⟩
theorem Kn {t:TE} {R:Bool->Hp->Prop} (h:t σ H fun x H'=>∃ k,x=.bl k/\R k H'):bf t σ H R:=h
theorem LH {t:TE} {R:Bool->Hp->Prop} (h:t σ H fun x H'=>∃ k,x=.bl k/\R k H'):tB t σ H R:=h
theorem LI {b:Bool} {R:Bool->Prop} (h:R b):∃ k,V.bl b=.bl k/\R k:=⟨b,rfl,h⟩
theorem Ld {t u:TT} {R:Bool->Hp->Prop} (h:t σ H fun c H1=>if c=true then u σ H1 R else R false H1):CB t u σ H R:=h
theorem LJ {t u:TT} {R:Bool->Hp->Prop} (h:t σ H fun c H1=>if c=true then R true H1 else u σ H1 R):tOr t u σ H R:=h
theorem Le {t:TT} {R:Bool->Hp->Prop} (h:t σ H fun c H1=>R (!c) H1):d5 t σ H R:=h
theorem Ko {ta tb:TE} (h:ta σ H fun x H1=>∃ c,x=.bl c/\if c=true then tb σ H1 Q else Q (.bl false) H1):oU ta tb σ H Q:=h
theorem Lf {ta tb:TE} (h:ta σ H fun x H1=>∃ c,x=.bl c/\if c=true then Q (.bl true) H1 else tb σ H1 Q):Gh ta tb σ H Q:=h
theorem Kq {ta:TE} (h:ta σ H fun x H1=>∃ c,x=.bl c/\Q (.bl (!c)) H1):zm ta σ H Q:=h
theorem Iu {R:List V->Hp->Prop} (h:R [] H):ag σ H R:=h
theorem E7 {ta:TE} {tr:TA} {R:List V->Hp->Prop} (h:ta σ H fun x H1=>tr σ H1 fun xs H2=>R (x :: xs) H2):aa ta tr σ H R:=h
theorem Kr {sp:Sp} {E:XK} {t:TA} (h:t σ H fun vs H1=>sp vs H1 Q E):au sp [] E t σ H Q:=by
 show t σ H fun vs H1=>sp (vs++[]) H1 Q E
 simpa only [Nm] using h
theorem LK {r:List V->Hp->VK->Prop} {t:TA} (h:t σ H fun vs H1=>r vs H1 Q):tCB r t σ H Q:=h
theorem LL {T:String} {r:V->List V->Hp->VK->Prop} {to:TE} {t:TA} (h:to σ H fun x H1=>tyV K T x H1/\t σ H1 fun xs H2=>r x xs H2 Q):tBM K T r to t σ H Q:=h
theorem Lg {T:String} {r:V->List V->Hp->VK->Prop} {to:TE} (h:to σ H fun x H1=>tyV K T x H1/\r x [] H1 Q):Gs K T r to σ H Q:=h
theorem LM {r:V->Option Int->Option Int->Hp->VK->Prop} {te:TE} {tl th:TO} (h:te σ H fun x H1=>tl σ H1 fun l H2=>th σ H2 fun u H3=>r x l u H3 Q):tSl r te tl th σ H Q:=h
theorem GC {R:Option Int->Hp->Prop} (h:R none H):n9 σ H R:=h
theorem Ks {t:TE} {R:Option Int->Hp->Prop} (h:t σ H fun x H1=>∃ i,x=.int i/\R (some i) H1):uZ t σ H R:=h
theorem Lh {i:Int} {R:Int->Prop} (h:R i):∃ j,V.int i=.int j/\R j:=⟨i,rfl,h⟩
theorem Li {wi:TI} {g:TG} {tb:TS} (h:wi σ H fun J H1=>∃ W:Nat->Nat->St->Hp->Prop,(∃ m,W 0 m σ H1)/\∀ i m σ H,W i m σ H->
  (J.stop i H/\D.nx σ H)\/(J.go i H/\∃ N:St->Hp->Prop,(∀ σ' H',N σ' H'->∃ m',m' < m/\W (i + 1) m' σ' H')/\∀ x H',J.yld i H x H'->g x σ H' fun σ2 H2=>tb { D with nx:=N,ct:=N,bk:=D.nx } σ2 H2)):cR wi g tb D σ H:=h
theorem Kt {wi:TI} {g:CF TG} {tt:CF TT} {te:CF TE} {ix:List (Option Nat)} (h:wi σ H fun J H1=>∀ p,H1 p=none->
  ∃ W:Nat->Nat->List V->Hp->Prop,(∃ m,W 0 m [] (upd H1 p (.lst [])))/\∀ C s' H' fp,ca J (g C s' H' fp) (tt C s' H' fp) (te C s' H' fp) (sub ix σ) p Q W):bO wi g tt te ix σ H Q:=h
section
variable {R:It->Hp->Prop}
theorem Jb {tl:TE} (h:tl σ H fun x H1=>∃ a,x=.ref a/\(∃ xs,SqL K H1 a xs)/\R (Itl K a) H1):cp K tl σ H R:=h
theorem Ku {tl:TE} (h:tl σ H fun x H1=>∃ a,x=.ref a/\(∃ xs,SqT K H1 a xs)/\R (Itt K a) H1):uk K tl σ H R:=h
theorem Jc {ta:TA} (h:ta σ H fun vs H1=>∃ j:Int,vs=[.int j]/\-(2 ^ 62)<=j/\j < 2 ^ 62/\R (Itr 0 j.toNat) H1):fq ta σ H R:=h
theorem Jd {S:Src} {ta:TA} (h:ta σ H fun vs H1=>∃ a xs,vs=[.ref a]/\S.Sq K H1 a xs/\R (Ite S K a) H1):mR S K ta σ H R:=h
theorem Kv {S1 S2:Src} {ta:TA} (h:ta σ H fun vs H1=>∃ a b xs ys,vs=[.ref a,.ref b]/\S1.Sq K H1 a xs/\S2.Sq K H1 b ys/\R (Itz S1 S2 K a b) H1):pA S1 S2 K ta σ H R:=h
end
noncomputable def Off (l:Addr) (H H':Hp):Prop:=∀ b,b≠l->H' b=H b
theorem iV {l:Addr} {o:HO}:Off l H (upd H l o):=fun b hb=>aM hb
theorem am.off {H0 H':Hp} {l:Addr} (s:am H0 H) (h:H0 l=none) (o:Off l H H'):am H0 H':=fun b u q=>by rw [o b (be q h)]; exact s b u q
noncomputable def dR (H H':Hp):Prop:=∀ b xs,H b=some (.tup xs)->H' b=some (.tup xs)
theorem dR.refl (H:Hp):dR H H:=fun _ _ h=>h
theorem am.keep {H':Hp} (s:am H H'):dR H H':=fun b _ h=>s b _ h
theorem dR.trans {H1 H2:Hp} (a:dR H H1) (b:dR H1 H2):dR H H2:=fun c o h=>b c o (a c o h)
theorem Off.keep {H':Hp} {l:Addr} {xs:List V} (o:Off l H H') (e:H l=some (.lst xs)):dR H H':=fun b ys q=>by
 rw [o b (zl q e (by intro z; cases z))]
 exact q
theorem fR {l:Addr} {xs:List V} {y:V} (e:H l=some (.lst xs)) (hz:xs.length < Mb) (h:∀ H',Off l H H'->H' l=some (.lst (xs++[y]))->Q .non H'):eO (.ref l) [y] H Q:=⟨l,xs,y,rfl,rfl,e,hz,h _ iV az⟩
theorem vi {l:Addr} {xs:List V} (e:H l=some (.lst xs)):tyV K "list" (.ref l) H:=.inl ⟨rfl,xs,SqL.of e⟩
theorem bZ {l:Addr} {xs:List V} {i:Int} {v:V} (e:SqL K H l xs) (hv:atI xs i=some v) (h:Q v H):cS K (.ref l) (.int i) H Q:=⟨l,xs,i,v,rfl,rfl,e,hv,h⟩
theorem bj {l:Addr} {xs:List V} {i:Int} {v:V} (e:SqT K H l xs) (hv:atI xs i=some v) (h:Q v H):ck K (.ref l) (.int i) H Q:=⟨l,xs,i,v,rfl,rfl,e,hv,h⟩
end
theorem dq {p A B:Prop} [Decidable p] (h1:p->A) (h2:¬ p->B):if decide p=true then A else B:=by
 by_cases h:p
 ·rw [if_pos (decide_eq_true h)]; exact h1 h
 ·rw [if_neg (by rw [decide_eq_false h]; exact Ma)]; exact h2 h
theorem zU {p A B:Prop} [Decidable p] (h1:¬ p->A) (h2:p->B):if (!decide p)=true then A else B:=by
 by_cases h:p
 ·rw [if_neg (by rw [decide_eq_true h]; exact Ma)]; exact h2 h
 ·rw [if_pos (by rw [decide_eq_false h]; rfl)]; exact h1 h
theorem d3 {p A B:Prop} [Decidable p] (h:p) (h1:A):if decide p=true then A else B:=dq (fun _=>h1) (fun n=>absurd h n)
theorem aW {p A B:Prop} [Decidable p] (h:¬ p) (h1:B):if decide p=true then A else B:=dq (fun n=>absurd n h) (fun _=>h1)
theorem CV {A B:Prop} (h:B):if (!true)=true then A else B:=by exact nE h
theorem Lj {A B:Prop} (h:A):if (!false)=true then A else B:=by exact oZ h
theorem GD {σ:St} {H:Hp} {R:Bool->Hp->Prop} (h:R true H):bL σ H R:=h
theorem CW {B:(St->Hp->Prop)->Prop} {R:St->Hp->Prop} (h:B R):∃ N:St->Hp->Prop,(∀ σ' H',N σ' H'->R σ' H')/\B N:=⟨R,fun _ _ h=>h,h⟩
theorem CY {c:TT} {tb:TS} {D:jD} {σ:St} {H:Hp} (W:Nat->St->Hp->Prop) (m:Nat) (h0:W m σ H) (h:∀ m σ H,W m σ H->c σ H fun b H1=>if b=true then ∃ N:St->Hp->Prop,(∀ σ' H',N σ' H'->∃ m',m' < m/\W m' σ' H')/\tb { D with nx:=N,ct:=N,bk:=D.nx } σ H1 else D.nx σ H1):
  nW c tb D σ H:=⟨W,⟨m,h0⟩,h⟩
noncomputable def d7 (K:Fg):List V->Hp->VK->Prop:=fun xs H Q=>∃ p ys,xs=[.ref p]/\(SqL K H p ys\/SqT K H p ys)/\Q (.int ys.length) H
noncomputable def uu (K:Fg):List V->Hp->VK->Prop:=fun xs H Q=>∃ (p:Addr) (ns:List Int),xs=[.ref p]/\SqL K H p (ns.map V.int)/\Q (.int ns.sum) H
noncomputable def CZ (K:Fg):List V->Hp->VK->Prop:=fun xs H Q=>∃ (p:Addr) (bs:List Bool),xs=[.ref p]/\SqL K H p (bs.map V.bl)/\Q (.bl (bs.all id)) H
noncomputable def w9 (K:Fg):List V->Hp->VK->Prop:=fun xs H Q=>∃ (p:Addr) (ns:List Int),xs=[.ref p]/\SqL K H p (ns.map V.int)/\ns≠[]/\∀ M,M∈ns->(∀ a∈ns,a<=M)->Q (.int M) H
noncomputable def C0:List V->Hp->VK->Prop:=fun xs H Q=>∃ i j,xs=[.int i,.int j]/\Q (.int (if j < i then j else i)) H
noncomputable def Iv:List V->Hp->VK->Prop:=fun xs H Q=>∃ i j,xs=[.int i,.int j]/\Q (.int (if j > i then j else i)) H
noncomputable def GG:List V->Hp->VK->Prop:=fun xs H Q=>(∃ i,xs=[.int i]/\Q (.int i) H)\/∃ k,xs=[.bl k]/\Q (.int (if k then 1 else 0)) H
noncomputable def Kw (K:Fg):List V->Hp->VK->Prop:=fun xs H Q=>∃ p ys,xs=[.ref p]/\((SqL K H p ys/\∀ l,H l=none->Q (.ref l) (upd H l (.tup ys)))\/(SqT K H p ys/\Q (.ref p) H))
section
variable {K:Fg} {H:Hp} {Q:VK}
theorem vj {l:Addr} {ys:List V} (e:SqL K H l ys) (h:Q (.int ys.length) H):d7 K [.ref l] H Q:=⟨l,ys,rfl,.inl e,h⟩
theorem Cc {l:Addr} {ys:List V} (e:SqT K H l ys) (h:Q (.int ys.length) H):d7 K [.ref l] H Q:=⟨l,ys,rfl,.inr e,h⟩
theorem C1 {l:Addr} {ns:List Int} (e:SqL K H l (ns.map V.int)) (h:Q (.int ns.sum) H):uu K [.ref l] H Q:=⟨l,ns,rfl,e,h⟩
theorem Ky {i j:Int} (h:Q (.int (if j < i then j else i)) H):C0 [.int i,.int j] H Q:=⟨i,j,rfl,h⟩
theorem Kz {i j:Int} (h:Q (.int (if j > i then j else i)) H):Iv [.int i,.int j] H Q:=⟨i,j,rfl,h⟩
theorem KA {k:Bool} (h:Q (.int (if k then 1 else 0)) H):GG [.bl k] H Q:=.inr ⟨k,rfl,h⟩
end
noncomputable def New (H:Hp) (o:HO) (Q:Addr->Hp->Prop):Prop:=∀ p H',H p=none->am H H'->H' p=some o->Q p H'
theorem New.upd {H:Hp} {o:HO} {Q:Addr->Hp->Prop} (h:New H o Q):∀ p,H p=none->Q p (upd H p o):=fun p hp=>h p _ hp (aR hp _) az
noncomputable def dg (t:TA):TE:=fun σ H Q=>t σ H fun xs H1=>xs.length<=Mb/\New H1 (.tup xs) fun p H2=>Q (.ref p) H2
noncomputable def d8 (t:TA):TE:=fun σ H Q=>t σ H fun xs H1=>xs.length<=Mb/\New H1 (.lst xs) fun p H2=>Q (.ref p) H2
noncomputable def qY:R2:=fun x y H Q=>∃ l b xs zs,x=.ref l/\y=.ref b/\H l=some (.lst xs)/\H b=some (.lst zs)/\xs.length + zs.length<=Mb/\New H (.lst (xs++zs)) fun p H2=>Q (.ref p) H2
noncomputable def GH:R2:=fun x y H Q=>∃ l k xs,x=.ref l/\y=.int k/\H l=some (.lst xs)/\-(2 ^ 63)<=k/\k < 2 ^ 63/\xs.length * k.toNat<=Mb/\New H (.lst (MI k.toNat xs).flatten) fun p H2=>Q (.ref p) H2
noncomputable def lU (K:Fg):List V->Hp->VK->Prop:=fun xs H Q=>∃ p ys,xs=[.ref p]/\(SqL K H p ys\/SqT K H p ys)/\New H (.lst ys) fun l H2=>Q (.ref l) H2
noncomputable def oh (K:Fg):List V->Hp->VK->Prop:=fun xs H Q=>∃ p ys,xs=[.ref p]/\SqL K H p ys/\New H (.tup ys) fun l H2=>Q (.ref l) H2
section
variable {σ:St} {H:Hp} {Q:VK} {K:Fg}
theorem Lk {t:TA} (h:t σ H fun xs H1=>xs.length<=Mb/\New H1 (.tup xs) fun p H2=>Q (.ref p) H2):dg t σ H Q:=h
theorem sj {t:TA} (h:t σ H fun xs H1=>xs.length<=Mb/\New H1 (.lst xs) fun p H2=>Q (.ref p) H2):d8 t σ H Q:=h
theorem sk {l b:Addr} {xs zs:List V} (h1:H l=some (.lst xs)) (h2:H b=some (.lst zs)) (hz:xs.length + zs.length<=Mb) (h:∀ p H',H p=none->am H H'->H' p=some (.lst (xs++zs))->Q (.ref p) H'):qY (.ref l) (.ref b) H Q:=⟨l,b,xs,zs,rfl,rfl,h1,h2,hz,h⟩
theorem qZ {p:Addr} {ys:List V} (e:SqL K H p ys) (h:∀ l H',H l=none->am H H'->H' l=some (.lst ys)->Q (.ref l) H'):lU K [.ref p] H Q:=⟨p,ys,rfl,.inl e,h⟩
theorem xa {p:Addr} {ys:List V} (e:SqL K H p ys) (h:∀ l H',H l=none->am H H'->H' l=some (.tup ys)->Q (.ref l) H'):oh K [.ref p] H Q:=⟨p,ys,rfl,e,h⟩
end
section
variable {g:TG} {tb:TS} {NX:St->Hp->Prop} {RT:VK} {σ:St} {H:Hp} {K:Fg}
theorem gE {j:Int} (n:Nat) (hn:j.toNat=n) (hj:j<=1000000000) (hj0:-1000000000<=j) (Pv:Nat->St->Hp->Prop) (h0:Pv 0 σ H) (hs:∀ i σ H,i < n->Pv i σ H->g (.int i) σ H fun σ2 H2=>tb { nx:=Pv (i + 1),rt:=RT,bk:=NX,ct:=Pv (i + 1) } σ2 H2) (hd:∀ σ H,Pv n σ H->NX σ H):
  ∃ j':Int,[V.int j]=[.int j']/\-(2 ^ 62)<=j'/\j' < 2 ^ 62/\∃ W:Nat->Nat->St->Hp->Prop,(∃ m,W 0 m σ H)/\∀ i m σ H,W i m σ H->
   ((Itr 0 j'.toNat).stop i H/\NX σ H)\/((Itr 0 j'.toNat).go i H/\∃ N:St->Hp->Prop,(∀ σ' H',N σ' H'->∃ m',m' < m/\W (i + 1) m' σ' H')/\∀ x H',(Itr 0 j'.toNat).yld i H x H'->g x σ H' fun σ2 H2=>tb { nx:=N,rt:=RT,bk:=NX,ct:=N } σ2 H2):=by
 refine ⟨j,rfl,by omega,by omega,?_⟩
 subst hn
 exact qN (lo:=0) (D:={ nx:=NX,rt:=RT }) Pv h0 (fun i σ H hi p=>by rw [RV]; exact hs i σ H hi p) hd
theorem lK {a:Addr} (xs:List V) (hx:SqL K H a xs) (Pv:Nat->St->Hp->Prop) (h0:Pv 0 σ H) (hl:∀ i σ H,i<=xs.length->Pv i σ H->SqL K H a xs) (hs:∀ i x σ H,xs[i]?=some x->Pv i σ H->g x σ H fun σ2 H2=>tb { nx:=Pv (i + 1),rt:=RT,bk:=NX,ct:=Pv (i + 1) } σ2 H2) (hd:∀ σ H,Pv xs.length σ H->NX σ H):
  ∃ a',V.ref a=.ref a'/\(∃ xs,SqL K H a' xs)/\∃ W:Nat->Nat->St->Hp->Prop,(∃ m,W 0 m σ H)/\∀ i m σ H,W i m σ H->
   ((Itl K a').stop i H/\NX σ H)\/((Itl K a').go i H/\∃ N:St->Hp->Prop,(∀ σ' H',N σ' H'->∃ m',m' < m/\W (i + 1) m' σ' H')/\∀ x H',(Itl K a').yld i H x H'->g x σ H' fun σ2 H2=>tb { nx:=N,rt:=RT,bk:=NX,ct:=N } σ2 H2):=
 ⟨a,rfl,⟨xs,hx⟩,ul (D:={ nx:=NX,rt:=RT }) Pv h0 hl hs hd⟩
theorem vm {a:Addr} (xs:List V) (hx:SqT K H a xs) (Pv:Nat->St->Hp->Prop) (h0:Pv 0 σ H) (hl:∀ i σ H,i<=xs.length->Pv i σ H->SqT K H a xs) (hs:∀ i x σ H,xs[i]?=some x->Pv i σ H->g x σ H fun σ2 H2=>tb { nx:=Pv (i + 1),rt:=RT,bk:=NX,ct:=Pv (i + 1) } σ2 H2) (hd:∀ σ H,Pv xs.length σ H->NX σ H):
  ∃ a',V.ref a=.ref a'/\(∃ xs,SqT K H a' xs)/\∃ W:Nat->Nat->St->Hp->Prop,(∃ m,W 0 m σ H)/\∀ i m σ H,W i m σ H->
   ((Itt K a').stop i H/\NX σ H)\/((Itt K a').go i H/\∃ N:St->Hp->Prop,(∀ σ' H',N σ' H'->∃ m',m' < m/\W (i + 1) m' σ' H')/\∀ x H',(Itt K a').yld i H x H'->g x σ H' fun σ2 H2=>tb { nx:=N,rt:=RT,bk:=NX,ct:=N } σ2 H2):=
 ⟨a,rfl,⟨xs,hx⟩,IN (D:={ nx:=NX,rt:=RT }) Pv h0 hl hs hd⟩
theorem xc {S:Src} {a:Addr} (xs:List V) (hx:S.Sq K H a xs) (Pv:Nat->St->Hp->Prop) (h0:Pv 0 σ H) (hl:∀ i σ H,i<=xs.length->Pv i σ H->S.Sq K H a xs)
  (hs:∀ i x T σ H H',xs[i]?=some x->Pv i σ H->H T=none->am H H'->H' T=some (.tup [.int i,x])->g (.ref T) σ H' fun σ2 H2=>tb { nx:=Pv (i + 1),rt:=RT,bk:=NX,ct:=Pv (i + 1) } σ2 H2) (hd:∀ σ H,Pv xs.length σ H->NX σ H):
  ∃ a' xs',[V.ref a]=[.ref a']/\S.Sq K H a' xs'/\∃ W:Nat->Nat->St->Hp->Prop,(∃ m,W 0 m σ H)/\∀ i m σ H,W i m σ H->
   ((Ite S K a').stop i H/\NX σ H)\/((Ite S K a').go i H/\∃ N:St->Hp->Prop,(∀ σ' H',N σ' H'->∃ m',m' < m/\W (i + 1) m' σ' H')/\∀ x H',(Ite S K a').yld i H x H'->g x σ H' fun σ2 H2=>tb { nx:=N,rt:=RT,bk:=NX,ct:=N } σ2 H2):=
 ⟨a,xs,rfl,hx,zP (D:={ nx:=NX,rt:=RT }) Pv h0 hl (fun i x T σ H e p hT=>hs i x T σ H _ e p hT (aR hT _) az) hd⟩
end
theorem zV {α:Type} [DecidableEq α]:∀ {xs:List α} {m:α},m∈xs->∃ j:Nat,xs[j]?=some m/\∀ i:Nat,i < j->xs[i]?≠some m
 | x :: r,m,h=>by
  by_cases e:x=m
  ·exact ⟨0,by rw [e]; rfl,fun i hi=>absurd hi (by omega)⟩
  ·have hm:m∈r:=by
    rcases L7.mp h with h | h
    ·exact absurd h.symm e
    ·exact h
   obtain ⟨j,h1,h2⟩:=zV hm
   refine ⟨j + 1,h1,fun i hi=>?_⟩
   cases i with
   | zero=>intro z; exact e (L9 z)
   | succ i=>exact h2 i (by omega)
theorem fC {K:Fg} {i j:Nat} {a:Addr} {x y:V} {σ:St} {H:Hp} {R:St->Hp->Prop} (e:SqT K H a [x,y]) (h:R ((σ.set i (some x)).set j (some y)) H):gC K 2 (bI (ao i) (bI (ao j) gB)) (.ref a) σ H R:=
 ⟨a,[x,y],rfl,e,rfl,x,[y],rfl,y,[],rfl,rfl,h⟩
noncomputable def aX (H:Hp) (p:Addr) (R:Nat->List V->Hp->Prop) (i:Nat) (acc:List V) (H2:Hp):Prop:=am H H2/\H2 p=some (.lst acc)/\acc.length<=i/\R i acc H2
theorem aX.put {H H4:Hp} {p:Addr} {R:Nat->List V->Hp->Prop} {i:Nat} {acc:List V} {y:V} (hp:H p=none) (st:∀ i acc H H',R i acc H->dR H H'->R i acc H') (s:am H H4) (e:H4 p=some (.lst acc)) (l:acc.length<=i) (r:R (i + 1) (acc++[y]) H4):
  H4 p=some (.lst acc)/\aX H p R (i + 1) (acc++[y]) (upd H4 p (.lst (acc++[y]))):=
 ⟨e,s.upd hp _,az,by rw [Mj]; exact SW l 1,st _ _ _ _ r (iV.keep e)⟩
theorem aX.skip {H H4:Hp} {p:Addr} {R:Nat->List V->Hp->Prop} {i:Nat} {acc:List V} (s:am H H4) (e:H4 p=some (.lst acc)) (l:acc.length<=i) (r:R (i + 1) acc H4):aX H p R (i + 1) acc H4:=⟨s,e,by omega,r⟩
section
variable {g:CF TG} {tt:CF TT} {te:CF TE} {σ₀:St} {Q:VK} {H:Hp} {K:Fg}
theorem zW {j:Int} (n:Nat) (hn:j.toNat=n) (hj:j<=1000000) (hj0:-1000000<=j) (R:Nat->List V->Hp->Prop) (h0:∀ H',am H H'->R 0 [] H')
  (hs:∀ p,H p=none->∀ C s' H' fp,∀ i acc H2,i < n->aX H p R i acc H2->g C s' H' fp (.int i) σ₀ H2 fun σ2 H3=>tt C s' H' fp σ2 H3 fun b H4=>if b=true then te C s' H' fp σ2 H4 fun y H5=>H5 p=some (.lst acc)/\aX H p R (i + 1) (acc++[y]) (upd H5 p (.lst (acc++[y]))) else aX H p R (i + 1) acc H4)
  (hd:∀ p acc H2,H p=none->am H H2->H2 p=some (.lst acc)->R n acc H2->Q (.ref p) H2):
  ∃ j':Int,[V.int j]=[.int j']/\-(2 ^ 62)<=j'/\j' < 2 ^ 62/\∀ p,H p=none->∃ W:Nat->Nat->List V->Hp->Prop,(∃ m,W 0 m [] (upd H p (.lst [])))/\∀ C s' H' fp,ca (Itr 0 j'.toNat) (g C s' H' fp) (tt C s' H' fp) (te C s' H' fp) σ₀ p Q W:=by
 refine ⟨j,rfl,by omega,by omega,fun p hp=>?_⟩
 subst hn
 exact pi (lo:=0) (aX H p R) ⟨aR hp _,az,LV _,h0 _ (aR hp _)⟩ (fun i acc H2 _ c=>⟨c.2.1,c.2.2.1⟩) (by rw [LY]; omega) (fun C s' H' fp i acc H2 hi c=>by rw [RV]; exact hs p hp C s' H' fp i acc H2 hi c) fun acc H2 c=>hd p acc H2 hp c.1 c.2.1 c.2.2.2
theorem dJ {a:Addr} (xs:List V) (hx:SqL K H a xs) (hz:xs.length<=1000000) (R:Nat->List V->Hp->Prop) (h0:∀ H',am H H'->R 0 [] H')
  (hs:∀ p,H p=none->∀ C s' H' fp,∀ i x acc H2,xs[i]?=some x->aX H p R i acc H2->g C s' H' fp x σ₀ H2 fun σ2 H3=>tt C s' H' fp σ2 H3 fun b H4=>if b=true then te C s' H' fp σ2 H4 fun y H5=>H5 p=some (.lst acc)/\aX H p R (i + 1) (acc++[y]) (upd H5 p (.lst (acc++[y]))) else aX H p R (i + 1) acc H4)
  (hd:∀ p acc H2,H p=none->am H H2->H2 p=some (.lst acc)->R xs.length acc H2->Q (.ref p) H2):
  ∃ a',V.ref a=.ref a'/\(∃ xs,SqL K H a' xs)/\∀ p,H p=none->∃ W:Nat->Nat->List V->Hp->Prop,(∃ m,W 0 m [] (upd H p (.lst [])))/\∀ C s' H' fp,ca (Itl K a') (g C s' H' fp) (tt C s' H' fp) (te C s' H' fp) σ₀ p Q W:=
 ⟨a,rfl,⟨xs,hx⟩,fun p hp=>qU (aX H p R) ⟨aR hp _,az,LV _,h0 _ (aR hp _)⟩ (fun i acc H2 _ c=>⟨c.2.1,c.2.2.1⟩) (fun i acc H2 _ c=>c.1.seq hx) (by rw [LY]; omega) (fun C s' H' fp i x acc H2 hi c=>hs p hp C s' H' fp i x acc H2 hi c) fun acc H2 c=>hd p acc H2 hp c.1 c.2.1 c.2.2.2⟩
end
section
variable {g:TG} {tb:TS} {NX:St->Hp->Prop} {RT:VK} {σ:St} {H:Hp} {K:Fg}
theorem E8 {S1 S2:Src} {a b:Addr} (xs ys:List V) (hx:S1.Sq K H a xs) (hy:S2.Sq K H b ys) (Pv:Nat->St->Hp->Prop) (h0:Pv 0 σ H) (hl:∀ i σ H,Pv i σ H->S1.Sq K H a xs/\S2.Sq K H b ys)
  (hs:∀ i x y T σ H H',xs[i]?=some x->ys[i]?=some y->Pv i σ H->H T=none->am H H'->H' T=some (.tup [x,y])->g (.ref T) σ H' fun σ2 H2=>tb { nx:=Pv (i + 1),rt:=RT,bk:=NX,ct:=Pv (i + 1) } σ2 H2) (hd:∀ σ H,Pv (min xs.length ys.length) σ H->NX σ H):
  ∃ a' b' xs' ys',[V.ref a,V.ref b]=[.ref a',.ref b']/\S1.Sq K H a' xs'/\S2.Sq K H b' ys'/\∃ W:Nat->Nat->St->Hp->Prop,(∃ m,W 0 m σ H)/\∀ i m σ H,W i m σ H->
   ((Itz S1 S2 K a' b').stop i H/\NX σ H)\/((Itz S1 S2 K a' b').go i H/\∃ N:St->Hp->Prop,(∀ σ' H',N σ' H'->∃ m',m' < m/\W (i + 1) m' σ' H')/\∀ x H',(Itz S1 S2 K a' b').yld i H x H'->g x σ H' fun σ2 H2=>tb { nx:=N,rt:=RT,bk:=NX,ct:=N } σ2 H2):=by
 refine ⟨a,b,xs,ys,rfl,hx,hy,E3 (J:=Itz S1 S2 K a b) (n:=min xs.length ys.length) (D:={ nx:=NX,rt:=RT }) (Y:=fun i H x H1=>∃ T u v,H T=none/\x=.ref T/\H1=upd H T (.tup [u,v])/\xs[i]?=some u/\ys[i]?=some v) Pv h0 (fun i σ H hi w=>?_) (fun σ H w=>?_) (fun i σ H x H1 hi w y=>?_) (fun i x σ H H1 hi w y=>?_) hd⟩
 ·obtain ⟨q1,q2⟩:=hl i σ H w
  exact ⟨xs,ys,xs[i],ys[i],q1,q2,by simp [show i < xs.length by omega],by simp [show i < ys.length by omega]⟩
 ·obtain ⟨q1,q2⟩:=hl _ σ H w
  exact ⟨xs,ys,q1,q2,rfl⟩
 ·obtain ⟨T,u,v,e1,e2,e3,e4⟩:=y
  obtain ⟨q1,q2⟩:=hl _ σ H w
  obtain ⟨e5,e6⟩:=e4 xs ys q1 q2
  exact ⟨T,u,v,e1,e2,e3,e5,e6⟩
 ·obtain ⟨T,u,v,e1,rfl,rfl,e4,e5⟩:=y
  exact hs i u v T σ H _ e4 e5 w e1 (aR e1 _) az
end
section
variable {K:Fg} {H:Hp} {Q:VK} {a b:Addr} {ns ms:List Int}
theorem Ll (h1:SqL K H a (ns.map V.int)) (h2:SqL K H b (ms.map V.int)) (h:Q (.bl (decide (ns=ms))) H):pj (SqL K) false (.ref a) (.ref b) H Q:=⟨a,b,_,_,_,rfl,rfl,h1,h2,yf ns ms,by rw [vf]; exact h⟩
theorem Lm (h1:SqT K H a (ns.map V.int)) (h2:SqT K H b (ms.map V.int)) (h:Q (.bl (decide (ns=ms))) H):pj (SqT K) false (.ref a) (.ref b) H Q:=⟨a,b,_,_,_,rfl,rfl,h1,h2,yf ns ms,by rw [vf]; exact h⟩
theorem eV {x:V} {T:String} {t:Value} {c:Bool} (ty:eN K H x t) (e:M1 K t (.type T)=some c) (h:Q (.bl c) H):fP K [x,.ty T] H Q:=⟨x,T,t,c,rfl,ty,e,h⟩
end
section
variable {g:CF TG} {tt:CF TT} {te:CF TE} {σ₀:St} {Q:VK} {H:Hp} {K:Fg}
theorem rc {S1 S2:Src} {a b:Addr} (xs ys:List V) (hx:S1.Sq K H a xs) (hy:S2.Sq K H b ys) (kx:∀ H',am H H'->S1.Sq K H' a xs) (ky:∀ H',am H H'->S2.Sq K H' b ys) (hz:xs.length<=1000000) (R:Nat->List V->Hp->Prop) (h0:∀ H',am H H'->R 0 [] H')
  (hs:∀ p,H p=none->∀ C s' H' fp,∀ i x y T acc H2 H3,xs[i]?=some x->ys[i]?=some y->aX H p R i acc H2->H2 T=none->am H2 H3->H3 T=some (.tup [x,y])->H3 p=some (.lst acc)->g C s' H' fp (.ref T) σ₀ H3 fun σ2 H3=>tt C s' H' fp σ2 H3 fun b H4=>if b=true then te C s' H' fp σ2 H4 fun y H5=>H5 p=some (.lst acc)/\aX H p R (i + 1) (acc++[y]) (upd H5 p (.lst (acc++[y]))) else aX H p R (i + 1) acc H4)
  (hd:∀ p acc H2,H p=none->am H H2->H2 p=some (.lst acc)->R (min xs.length ys.length) acc H2->Q (.ref p) H2):
  ∃ a' b' xs' ys',[V.ref a,V.ref b]=[.ref a',.ref b']/\S1.Sq K H a' xs'/\S2.Sq K H b' ys'/\∀ p,H p=none->∃ W:Nat->Nat->List V->Hp->Prop,(∃ m,W 0 m [] (upd H p (.lst [])))/\∀ C s' H' fp,ca (Itz S1 S2 K a' b') (g C s' H' fp) (tt C s' H' fp) (te C s' H' fp) σ₀ p Q W:=by
 refine ⟨a,b,xs,ys,rfl,hx,hy,fun p hp=>og (n:=min xs.length ys.length) (Y:=fun i H x H1=>∃ T u v,H T=none/\x=.ref T/\H1=upd H T (.tup [u,v])/\xs[i]?=some u/\ys[i]?=some v) (aX H p R)
  ⟨aR hp _,az,LV _,h0 _ (aR hp _)⟩ (fun i acc H2 _ c=>⟨c.2.1,c.2.2.1⟩) (by rw [LY]; omega) (fun i acc H2 hi c=>?_) (fun acc H2 c=>?_) (fun i acc H2 x H3 hi c y=>?_) (fun C s' H' fp i x acc H2 H3 hi c y=>?_) fun acc H2 c=>hd p acc H2 hp c.1 c.2.1 c.2.2.2⟩
 ·exact ⟨xs,ys,xs[i],ys[i],kx _ c.1,ky _ c.1,by simp [show i < xs.length by omega],by simp [show i < ys.length by omega]⟩
 ·exact ⟨xs,ys,kx _ c.1,ky _ c.1,rfl⟩
 ·obtain ⟨T,u,v,e1,e2,e3,e4⟩:=y
  obtain ⟨e5,e6⟩:=e4 xs ys (kx _ c.1) (ky _ c.1)
  exact ⟨T,u,v,e1,e2,e3,e5,e6⟩
 ·obtain ⟨T,u,v,e1,rfl,rfl,e4,e5⟩:=y
  exact hs p hp C s' H' fp i u v T acc H2 _ e4 e5 c e1 (aR e1 _) az (by rw [aM (be c.2.1 e1)]; exact c.2.1)
noncomputable def zX (K:Fg):V->Option Int->Option Int->Hp->VK->Prop:=fun x lo hi H Q=>∃ a xs,x=.ref a/\SqT K H a xs/\¬ (HT.sIx xs.length 0 lo=0/\HT.sIx xs.length xs.length hi=xs.length)/\New H (.tup (qQ xs lo hi)) fun p H2=>Q (.ref p) H2
theorem C3 {a:Addr} {xs:List V} {lo hi:Option Int} (e:SqT K H a xs) (hn:¬ (HT.sIx xs.length 0 lo=0/\HT.sIx xs.length xs.length hi=xs.length)) (h:∀ p H',H p=none->am H H'->H' p=some (.tup (qQ xs lo hi))->Q (.ref p) H'):zX K (.ref a) lo hi H Q:=⟨a,xs,rfl,e,hn,h⟩
theorem uv (x:V) (xs:List V):qQ (x :: xs) (some 1) none=xs:=by
 unfold qQ
 have e:HT.sIx (x :: xs).length 0 (some 1)=min 1 (x :: xs).length:=rfl
 rw [e,show min 1 (x :: xs).length=1 by simp]
 show ((x :: xs).drop 1).take ((x :: xs).length - 1)=xs
 rw [Pk (by simp)]
 rfl
theorem nG (x:V) (xs:List V):¬ (HT.sIx (x :: xs).length 0 (some 1)=0/\HT.sIx (x :: xs).length (x :: xs).length none=(x :: xs).length):=fun h=>by
 have e:HT.sIx (x :: xs).length 0 (some 1)=min 1 (x :: xs).length:=rfl
 rw [e,show min 1 (x :: xs).length=1 by simp] at h
 exact absurd h.1 (by decide)
theorem Ln {x y:Str} (h:Q (.bl (decide (x=y))) H):rEq (.str x) (.str y) H Q:=⟨rfl,by rw [show decide (V.str x=V.str y)=decide (x=y) from decide_eq_decide.mpr ⟨fun e=>by injection e,fun e=>by rw [e]⟩]; exact h⟩
noncomputable def C4 (kvs:List (Str×V)) (a:Addr):R2:=fun x y H Q=>x=.ref a/\∃ k v,y=.str k/\kvs.lookup k=some v/\Q v H
theorem Iw {kvs:List (Str×V)} {a:Addr} {k:Str} {v:V} (e:kvs.lookup k=some v) (h:Q v H):C4 kvs a (.ref a) (.str k) H Q:=⟨rfl,k,v,rfl,e,h⟩
noncomputable def zY (kvs:List (Str×V)) (a:Addr) (neg:Bool):R2:=fun x y H Q=>y=.ref a/\∃ k,x=.str k/\Q (.bl (if neg then !(kvs.lookup k).isSome else (kvs.lookup k).isSome)) H
end
noncomputable def kL (K:Fg) (a:Addr) (xs:List V):Prop:=∃ (o:Obj) (its:Array Value) (n:Nat),K.lookup a=some o/\o.cls=.type "tuple"/\o.data=.seq its n/\its.size<=Mb/\aG xs its.toList
theorem kL.sq {K:Fg} {a:Addr} {xs:List V} (h:kL K a xs) (H:Hp):SqT K H a xs:=.inr h
section
variable {H:Hp} {Q:VK} {K:Fg}
theorem GI {l b:Addr} {xs zs:List V} (e:H l=some (.lst xs)) (eb:H b=some (.lst zs)) (hz:xs.length + zs.length<=Mb) (h:∀ H',Off l H H'->H' l=some (.lst (xs++zs))->Q .non H'):wZ (.ref l) [.ref b] H Q:=⟨l,b,xs,zs,rfl,rfl,e,eb,hz,h _ iV az⟩
theorem Lo {a:Addr} {x:V} {xs:List V} {c:Bool} (e:SqT K H a xs) (fx:dQ x=true) (fs:xs.all dQ=true) (hc:inV x xs=c) (h:Q (.bl c) H):rIn K false x (.ref a) H Q:=⟨a,xs,rfl,.inr e,fx,fs,by rw [<-hc] at h; exact h⟩
end
theorem E9 (xs:List V) (z:Int) {m:Nat} (hl:xs.length=m) (hm:0 < m):∃ x,atI xs (z % (m:Int))=some x/\x∈xs:=by
 have m1:=OL z (b:=(m:Int)) (by omega)
 have m2:=Os z (b:=(m:Int)) (by omega)
 have hk:(z % (m:Int)).toNat < xs.length:=by omega
 refine ⟨xs[(z % (m:Int)).toNat],?_,O3 hk⟩
 have e:z % (m:Int)=(((z % (m:Int)).toNat:Nat):Int):=by omega
 have q:atI xs (((z % (m:Int)).toNat:Nat):Int)=some xs[(z % (m:Int)).toNat]:=cx (LS hk)
 rw [<-e] at q
 exact q
end L2
end
local macro_rules | `(tactic| walk_at "rb1")=>`(tactic| first
 | ((with_reducible refine' L2.pB (v:=?v) ?e ?h); (case e=>exact rfl))
 | (with_reducible first | refine L2.E6 ?_ | refine L2.mT ?_ | refine L2.K9 ?_ | refine L2.Kl ?_ | refine L2.kr ?_ | refine L2.Km ?_ | refine L2.r_c ?_ | refine L2.ut ?_ | refine L2.LF ?_ | refine L2.LG ?_ | refine L2.r_U ?_ | refine L2.La ?_ | refine L2.Lb ?_ | refine L2.Ln ?_ | refine L2.Lc ?_ | refine L2.Kn ?_ | refine L2.LH ?_ | refine L2.LI ?_ | refine L2.Lh ?_ | refine L2.Ld ?_ | refine L2.LJ ?_ | refine L2.Le ?_ | refine L2.Ko ?_ | refine L2.Lf ?_ | refine L2.Kq ?_ | refine L2.Iu ?_ | refine L2.E7 ?_ | refine L2.Kr ?_ | refine L2.LK ?_ | refine L2.LL ?_ | refine L2.Lg ?_ | refine L2.LM ?_ | refine L2.GC ?_ | refine L2.Ks ?_ | refine L2.Li ?_ | refine L2.Kt ?_ | refine L2.Jb ?_ | refine L2.Ku ?_ | refine L2.Jc ?_ | refine L2.Jd ?_ | refine L2.Kv ?_ | refine L2.Lk ?_ | refine L2.sj ?_ | refine L2.Ky ?_ | refine L2.Kz ?_ | refine L2.KA ?_ | refine L2.oZ ?_ | refine L2.nE ?_ | refine L2.CV ?_ | refine L2.Lj ?_ | refine L2.GD ?_)
 | ((with_reducible refine L2.r_I ?_ ?_); (first | (show (0:Int) < _; omega) | (show (0:Int) < _; decide) | exact ⟨by decide,by decide,by decide⟩ | exact And.intro (by omega) (by omega) | exact (PySem.IntMulOk.of_right (Te (by omega) (by omega))) | exact (PySem.IntMulOk.of_left (Te (by omega) (by omega)))))
 | ((with_reducible refine' L2.vj (ys:=?y) ?e ?h); (case e=>first | assumption | exact L2.SqL.of (by assumption)))
 | ((with_reducible refine' L2.Cc (ys:=?y) ?e ?h); (case e=>first | assumption | exact L2.SqT.of (by assumption)))
 | dsimp only [Oa,Ob,L2.sub,Mo,Pu,List.getElem?_cons_zero,List.getElem?_cons_succ])
local macro_rules | `(tactic| walk_at "rd")=>`(tactic| repeat (first | (with_reducible first | refine L2.bu ?_ | refine L2.Ir ?_) | walk_at "rb1"))
local macro_rules | `(tactic| walk_at "rs")=>`(tactic| repeat (first | (with_reducible refine L2.Ir ?_) | walk_at "rb1"))
local macro_rules | `(tactic| walk_at "ra")=>`(tactic| repeat (walk_at "rb1"))
namespace L2
open PySem PyProof.Rows
noncomputable abbrev IA:=Option Int
noncomputable abbrev IK:=Sum IA (List IA)
noncomputable abbrev MK:=Sum IA (List IK)
noncomputable def iaV:V->Option IA
 | .non=>some none
 | .bl b=>some (some (if b then 1 else 0))
 | .int i=>some (some i)
 | _=>none
noncomputable def ln (H:Hp) (x:V):IK->Prop
 | .inl a=>iaV x=some a
 | .inr as=>∃ c ys,x=.ref c/\H c=some (.tup ys)/\ys.map iaV=as.map some
noncomputable def b9 (H:Hp) (x:V):MK->Prop
 | .inl a=>iaV x=some a
 | .inr is=>∃ c xs,x=.ref c/\H c=some (.tup xs)/\Paired (ln H) xs is
noncomputable def fS:MK->Bool
 | .inl _=>false
 | .inr _=>true
theorem ln.keep {H H':Hp} {x:V} {k:IK} (h:ln H x k) (kp:dR H H'):ln H' x k:=by
 cases k with
 | inl a=>exact h
 | inr as=>obtain ⟨c,ys,e,q,r⟩:=h; exact ⟨c,ys,e,kp _ _ q,r⟩
theorem b9.keep {H H':Hp} {x:V} {k:MK} (h:b9 H x k) (kp:dR H H'):b9 H' x k:=by
 cases k with
 | inl a=>exact h
 | inr as=>obtain ⟨c,xs,e,q,r⟩:=h; exact ⟨c,xs,e,kp _ _ q,Paired.mapP r fun _ _ z=>ln.keep z kp⟩
theorem mU {H H':Hp} {xs:List V} {ks:List MK} (h:Paired (b9 H) xs ks) (kp:dR H H'):Paired (b9 H') xs ks:=Paired.mapP h fun _ _ z=>b9.keep z kp
theorem bS {α β:Type} {F:α->β->Prop}:∀ {xs:List α} {ys:List β} {i:Nat} {x:α},Paired F xs ys->xs[i]?=some x->∃ y,ys[i]?=some y/\F x y
 | _,_,_,_,.nil,e=>by simp at e
 | _,_,0,_,.cons r _,e=>by simp at e; subst e; exact ⟨_,rfl,r⟩
 | _,_,i + 1,x,.cons _ t,e=>by
  obtain ⟨u,h1,h2⟩:=bS (i:=i) (x:=x) t (by simpa using e)
  exact ⟨u,by simpa using h1,h2⟩
theorem vn (H:Hp):∀ ns:List Int,Paired (ln H) (ns.map V.int) (ns.map fun n=>(Od (some n):IK))
 | []=>.nil
 | n :: r=>.cons rfl (vn H r)
theorem Je {H:Hp} {c:Addr} {ns:List Int} (e:H c=some (.tup (ns.map V.int))):b9 H (.ref c) (.inr (ns.map fun n=>(Od (some n):IK))):=⟨c,_,rfl,e,vn H ns⟩
theorem Off.keepD {H H':Hp} {l:Addr} (o:Off l H H') (h:∀ xs,H l≠some (.tup xs)):dR H H':=fun b ys q=>by
 rw [o b (fun z=>by subst z; exact h _ q)]
 exact q
noncomputable def bc {α:Type} [DecidableEq α] (ks:List α):List Nat:=ks.map fun k=>ks.idxOf k
theorem bX {α:Type} [DecidableEq α] (ks:List α):(bc ks).length=ks.length:=LR _
theorem C5 {α:Type} [DecidableEq α] {ks:List α} {i:Nat} {k:α} (h:k∈ks.take i):(ks.take i).idxOf k=ks.idxOf k:=by
 have:=TZ (l₁:=ks.take i) (l₂:=ks.drop i) (a:=k)
 rw [Pw,if_pos h] at this
 exact this.symm
theorem yj {α:Type} [DecidableEq α] {ks:List α} {i:Nat} {k:α} (hk:ks[i]?=some k) (h:k∉ks.take i):ks.idxOf k=i:=by
 obtain ⟨hi,e⟩:=LU.mp hk
 have e1:ks=ks.take i++(k :: ks.drop (i + 1)):=by
  rw [<-e,List.getElem_cons_drop,Pw]
 have:=TZ (l₁:=ks.take i) (l₂:=k :: ks.drop (i + 1)) (a:=k)
 rw [<-e1,if_neg h,List.idxOf_cons_self,NL] at this
 omega
theorem bH {α:Type} {ks:List α} {i:Nat} {k:α} (hk:ks[i]?=some k):ks.take (i + 1)=ks.take i++[k]:=by
 rw [NP,hk]; rfl
theorem tS {α β:Type} [DecidableEq α] [DecidableEq β] {f:α->β} (inj:∀ a b,f a=f b->a=b) (ks:List α):bc (ks.map f)=bc ks:=by
 unfold bc
 rw [NQ]
 refine Nx fun k hk=>?_
 show (ks.map f).idxOf (f k)=ks.idxOf k
 clear hk
 induction ks with
 | nil=>rfl
 | cons a r ih=>
  rw [Mo,US,US,ih]
  by_cases e:a=k
  ·rw [e,beq_self_eq_true,beq_self_eq_true]
  ·rw [beq_eq_false_iff_ne.mpr e,beq_eq_false_iff_ne.mpr (fun z=>e (inj _ _ z))]
theorem vo {α:Type} [DecidableEq α] {ks:List α} {i:Nat} {z:Nat} (h:(bc ks)[i]?=some z):∃ k,ks[i]?=some k/\z=ks.idxOf k/\z<=i:=by
 unfold bc at h
 rw [LX] at h
 cases e:ks[i]? with
 | none=>rw [e] at h; cases h
 | some k=>
  rw [e] at h
  refine ⟨k,rfl,(L9 h).symm,?_⟩
  rw [<-L9 h]
  show ks.idxOf k<=i
  by_cases q:k∈ks.take i
  ·have:=Q9 q
   rw [C5 q,NL] at this
   omega
  ·rw [yj e q]; exact LV _
section
open PySem.Spec
section
variable {κ:Type} [DecidableEq κ]
noncomputable def gq (kvs:List (κ×V)) (k:κ):Option V:=(kvs.find? fun kv=>decide (kv.1=k)).map (·.2)
noncomputable def pD (kvs:List (κ×V)) (k:κ) (v:V):List (κ×V):=
 if (kvs.any fun kv=>decide (kv.1=k))=true then kvs.map (fun kv=>if kv.1=k then (kv.1,v) else kv) else kvs++[(k,v)]
theorem fi {p:κ×V} {r:List (κ×V)} {k:κ} (e:p.1=k):gq (p :: r) k=some p.2:=by simp [gq,MH,e]
theorem fj {p:κ×V} {r:List (κ×V)} {k:κ} (e:¬ p.1=k):gq (p :: r) k=gq r k:=by simp [gq,MH,e]
theorem uw (k:κ):∀ kvs:List (κ×V),(kvs.any fun kv=>decide (kv.1=k))=(gq kvs k).isSome
 | []=>rfl
 | p :: r=>by
  rw [Qm]
  by_cases e:p.1=k
  ·simp only [fi e,decide_eq_true e,Bool.true_or,TB]
  ·rw [fj e,decide_eq_false e,Bool.false_or]; exact uw k r
theorem zZ (k j:κ) (y:V):∀ kvs:List (κ×V),gq (kvs.map fun kv=>if kv.1=k then (kv.1,y) else kv) j=(gq kvs j).map fun x=>if j=k then y else x
 | []=>rfl
 | p :: r=>by
  have ih:=zZ k j y r
  rw [Mo]
  by_cases h:p.1=k
  ·rw [if_pos h]
   by_cases e:p.1=j
   ·rw [fi (p:=(p.1,y)) e,fi e,QG,if_pos (e.symm.trans h)]
   ·rw [fj (p:=(p.1,y)) e,fj e,ih]
  ·rw [if_neg h]
   by_cases e:p.1=j
   ·rw [fi (p:=p) e,fi e,QG,if_neg (fun z=>h (e.trans z))]
   ·rw [fj (p:=p) e,fj e,ih]
theorem yk (k j:κ) (y:V):∀ kvs:List (κ×V),gq kvs k=none->gq (kvs++[(k,y)]) j=if j=k then some y else gq kvs j
 | [],_=>by
  by_cases e:k=j
  ·rw [if_pos e.symm]; exact fi (p:=(k,y)) e
  ·rw [if_neg (fun z=>e z.symm)]; exact fj (p:=(k,y)) e
 | p :: r,hn=>by
  rw [Uv]
  have hk:¬ p.1=k:=fun z=>by rw [fi z] at hn; cases hn
  rw [fj hk] at hn
  have ih:=yk k j y r hn
  by_cases e:p.1=j
  ·rw [fi e,fi e,if_neg (fun z=>hk (e.trans z))]
  ·rw [fj e,fj e,ih]
theorem GJ (kvs:List (κ×V)) (k j:κ) (y:V):gq (pD kvs k y) j=if j=k then some y else gq kvs j:=by
 unfold pD
 by_cases a:(kvs.any fun kv=>decide (kv.1=k))=true
 ·rw [if_pos a,zZ]
  rw [uw] at a
  by_cases e:j=k
  ·obtain ⟨x,hx⟩:=RK.mp a
   rw [if_pos e,e,hx,QG,if_pos rfl]
  ·rw [if_neg e]
   cases gq kvs j with
   | none=>rfl
   | some x=>rw [QG,if_neg e]
 ·rw [if_neg a]
  refine yk k j y kvs ?_
  rw [uw] at a
  cases q:gq kvs k with
  | none=>rfl
  | some x=>rw [q] at a; exact (a rfl).elim
theorem nH (kvs:List (κ×V)) (k:κ) (v:V):(pD kvs k v).length<=kvs.length + 1:=by
 unfold pD
 split
 ·rw [LR]; omega
 ·rw [Mj,My,UT]; omega
theorem ic.isSome_eq {o:Option V} {u:Option Value} (r:ic o u):o.isSome=u.isSome:=by
 cases o with
 | none=>cases u with
  | none=>rfl
  | some _=>exact (show False from r).elim
 | some _=>cases u with
  | none=>exact (show False from r).elim
  | some _=>rfl
theorem KV.val {kvs:List (κ×V)} {vs:List (κ×Value)} (r:KV kvs vs) (k:κ):ic (gq kvs k) (valueAt vs k):=by
 unfold KV at r
 induction r with
 | nil=>exact OF
 | @cons p q ps qs h t ih=>
  obtain ⟨h1,h2⟩:=h
  by_cases e:p.1=k
  ·have e':q.1=k:=h1.symm.trans e
   have b:valueAt (q :: qs) k=some q.2:=by simp [valueAt,MH,e']
   rw [fi e,b]; exact h2
  ·have e':¬ q.1=k:=fun z=>e (h1.trans z)
   have b:valueAt (q :: qs) k=valueAt qs k:=by simp [valueAt,MH,e']
   rw [fj e,b]; exact ih
theorem KV.any {kvs:List (κ×V)} {vs:List (κ×Value)} (r:KV kvs vs) (k:κ):(kvs.any fun kv=>decide (kv.1=k))=vs.any fun kv=>decide (kv.1=k):=by
 unfold KV at r
 induction r with
 | nil=>rfl
 | cons h t ih=>rw [Qm,Qm,ih,h.1]
theorem KV.repl {kvs:List (κ×V)} {vs:List (κ×Value)} (r:KV kvs vs) (k:κ) {y:V} {u:Value} (ry:aH y u):
  KV (kvs.map fun kv=>if kv.1=k then (kv.1,y) else kv) (vs.map fun kv=>if kv.1=k then (kv.1,u) else kv):=by
 unfold KV at r ⊢
 induction r with
 | nil=>exact .nil
 | @cons p q ps qs h t ih=>
  rw [Mo,Mo]
  refine .cons ?_ ih
  obtain ⟨h1,h2⟩:=h
  by_cases e:p.1=k
  ·rw [if_pos e,if_pos (h1.symm.trans e)]; exact ⟨h1,ry⟩
  ·rw [if_neg e,if_neg (fun z=>e (h1.trans z))]; exact ⟨h1,h2⟩
theorem KV.put {kvs:List (κ×V)} {vs:List (κ×Value)} (r:KV kvs vs) (k:κ) {y:V} {u:Value} (ry:aH y u):KV (pD kvs k y) (stored vs k u):=by
 unfold pD stored
 rw [r.any k]
 by_cases e:(vs.any fun kv=>decide (kv.1=k))=true
 ·rw [if_pos e,if_pos e]; exact r.repl k ry
 ·rw [if_neg e,if_neg e]; exact Paired.snoc r ⟨rfl,ry⟩
theorem KV.length {kvs:List (κ×V)} {vs:List (κ×Value)} (r:KV kvs vs):kvs.length=vs.length:=M5 r
end
theorem Ix {P:Program} {w:World} {k:Key} {u:Value} (r:aH (kV k) u):(iU P w).is k u=true:=by
 cases k with
 | inl i=>obtain ⟨t,e⟩:=(show ∃ t,u=OW i t from r); subst e; exact Bq P w i t
 | inr x=>obtain ⟨t,e⟩:=(show ∃ t,u=Sa x t from r); subst e; exact bo P w x t
noncomputable abbrev KT (H:Hp):List (List Key×V)->List (List Key×Addr×Value)->Prop:=Paired fun p q=>p.1=q.1/\H q.2.1=some (.tup (p.1.map kV))/\aH p.2 q.2.2
theorem KT.keeps {H H':Hp} {kvs:List (List Key×V)} {xs:List (List Key×Addr×Value)} (r:KT H kvs xs) (ht:∀ b ys,H b=some (.tup ys)->H' b=some (.tup ys)):KT H' kvs xs:=
 Paired.mapP r fun _ _ z=>⟨z.1,ht _ _ z.2.1,z.2.2⟩
section
variable {P:Program} {w:World} {H:Hp} {h:Heap} {a:Addr}
end
section
variable {X:Cx} {pins:List (Addr×Obj)} {σ:St} {H:Hp} {s:Shared} {a:Addr} {y v:V} {u r:Value} {o:Option V} {A:Around} {E:Value->Shared->Prop}
theorem Inv.big (I:Inv X pins σ H s):N1 < s.heap.objs.size:=by
 have h:Mx < s.heap.objs.size:=(I.mod.glob.keeps I.bk).lt
 exact Nat.lt_trans (by decide) h
theorem Cd {h':Heap} {t':Nat} {ob:HO} (I:Inv X pins σ H s) (mu:Mut (H a)) (hs:Mm a s.heap h') (he:∃ q,h'.get? a=some q) (new:bN X.prog X.w (upd H a ob) h' a ob):
  Inv X pins σ (upd H a ob) { s with heap:=h',toks:=t' }:=
 I.write (x:=a) (e:=a) mu (.inl rfl) (fun b q hb z=>(hs.2 b hb).trans z) he new
end
section
variable {X:Cx} {pins:List (Addr×Obj)} {σ:St} {H:Hp} {s:Shared} {a:Addr} {kvs:List (Key×V)} {k:Key} {u:Value} {A:Around} {E:Value->Shared->Prop}
end
noncomputable def GK (i:Expr):Prop:=∀ ov iv,Sr i false ov iv=operate [ov,iv] (getItem ov iv)
theorem Ce {prog:Program} {w:World} {A:Around} {E:Value->Shared->Prop} {s:Shared} {env:Env} {value slice:Expr} {pos:Pos} {T id:String} {Q:Value->Shared->Prop}
  (hl:SO (.type T) "__getitem__"=pure (some (.builtin id))) (hs:GK slice)
  (h:wpAny (model prog w) A (eval value env) (fun o s₁=>wpAny (model prog w) A (eval slice env) (fun i s₂=>s₂.TypeIs o T/\wpAny (model prog w) A (getItem o i) Q E s₂) E s₁) E s):
  wpAny (model prog w) A (eval (.Subscript value slice pos) env) Q E s:=by
 refine UJ (NO h (fun o s₁ h₁=>NO h₁ (fun i s₂ h₂=>?_) fun _ _ x=>x) fun _ _ x=>x)
 obtain ⟨hT,h₂⟩:=h₂
 unfold S3
 refine LO ?_
 rw [getitemInPython_of_ne hT.not_modules]
 refine LO (NI hT hl ?_)
 have fin:wpAny (model prog w) A (Sr slice false o i) (fun r s₃=>wpAny (model prog w) A (letTemporaryGo value o r >>= fun _=>pure r) Q E s₃) E s₂:=by
  rw [hs o i]
  exact wpAny_operating (NO h₂ (fun r s₃ h₃=>LO (wpAny_letTemporaryGo (LQ h₃))) fun _ _ x=>x)
 first
  | exact LQ (LO fin)
  | exact LO (LQ (LO fin))
  | exact LO fin
section
variable {X:Cx} {o i e value:Expr} {pos pos' tpos:Pos} {td ty tv:TE}
end
section
variable {X:Cx} {pos:Pos}
end
structure M2 (X:Cx) (o:Expr) (m:Str) (apos:Pos) (e f:Expr) (cpos:Pos):Prop where
 base:O8 o m X.env (eval o X.env)=eval o X.env
 few:((backTo cpos (Mp [e,f] X.env)).all (fun x=>!x.1) && (Qp cpos (Ph [] X.env)).all (fun x=>x.1.isSome)
  && decide (([e,f]:List Expr).length + ([]:List Keyword).length + (if ([]:List Keyword).isEmpty then 0 else 1) < 30))=true
 line:(apos.endLine == cpos.line)=true
 trees:backTo cpos (Mp [e,f] X.env)=[(false,eval e X.env),(false,eval f X.env)]
section
variable {X:Cx} {pins:List (Addr×Obj)} {σ:St} {H:Hp} {s:Shared} {a:Addr} {y d:V} {u r:Value} {o:Option V} {A:Around} {E:Value->Shared->Prop}
end
section
variable {X:Cx} {o e f:Expr} {apos cpos:Pos} {td ty tx:TE}
end
section
variable {X:Cx} {pins:List (Addr×Obj)} {σ:St} {H:Hp} {s:Shared} {a:Addr} {kvs:List (Key×V)} {A:Around} {E:Value->Shared->Prop}
end
section
variable {X:Cx} {pins:List (Addr×Obj)} {σ:St} {H:Hp} {s:Shared} {a:Addr} {y:V} {u:Value} {A:Around} {E:Value->Shared->Prop}
end
end
section
open PySem.Spec
section
variable {prog:Program} {w:World} {A:Around} {E:Value->Shared->Prop} {s:Shared}
theorem tI {b:Bool} {Q:Int->Shared->Prop} (h:Q (hashInt (if b then 1 else 0)) { s with toks:=s.toks + 1 }):wpAny (model prog w) A (pyHash (.bool b)) Q E s:=by
 have hr:=rawHash_range (if b then 1 else 0)
 unfold pyHash
 have hv:[Nh b].any Value.onHeap=false:=rfl
 refine LO ?_
 rw [cRoomFor,if_neg (by rw [hv]; exact Ma)]; refine LQ ?_
 have hT:s.TypeIs (.bool b) "bool":=rfl
 refine LO (NI hT Pl.lookup ?_)
 show wpAny _ _ (if (some (S5 "int.__hash__") == some Nq)=true then _ else _) Q E s
 rw [if_neg (by rw [RW]; exact Ma)]
 refine LO (NI hT Pl.lookup ?_)
 show wpAny _ _ (Pn (.bool b) "__hash__" _ >>= _) Q E s
 refine LO (Oz hT Pl (ML Pl hT entry_int_hash ?_ (args_int_hash _)))
 cases b with
 | true=>
  refine (show wpAny _ _ (do ret (<-mkInt (rawHash 1))) _ _ s from QH ?_)
  show wpAny _ _ (if (decide (-(2:Int) ^ 63<=rawHash 1) && decide (rawHash 1 < 2 ^ 63))=true then _ else _) Q E _
  rw [if_pos (by decide)]
  exact LQ h
 | false=>
  refine (show wpAny _ _ (do ret (<-mkInt (rawHash 0))) _ _ s from QH ?_)
  show wpAny _ _ (if (decide (-(2:Int) ^ 63<=rawHash 0) && decide (rawHash 0 < 2 ^ 63))=true then _ else _) Q E _
  rw [if_pos (by decide)]
  exact LQ h
theorem tK {Q:Int->Shared->Prop} (h:Q 4238894112 { s with toks:=s.toks + 1 }):wpAny (model prog w) A (pyHash .none) Q E s:=by
 unfold pyHash
 have hv:[Nq].any Value.onHeap=false:=rfl
 refine LO ?_
 rw [cRoomFor,if_neg (by rw [hv]; exact Ma)]; refine LQ ?_
 have hT:s.TypeIs .none "NoneType":=rfl
 refine LO (NI hT OS.lookup ?_)
 show wpAny _ _ (if (some (S5 "NoneType.__hash__") == some Nq)=true then _ else _) Q E s
 rw [if_neg (by rw [RW]; exact Ma)]
 refine LO (NI hT OS.lookup ?_)
 show wpAny _ _ (Pn .none "__hash__" _ >>= _) Q E s
 refine LO (Oz hT OS (ML OS hT PySem.F.entry_NoneType_hash ?_ (PySem.F.args_NoneType_hash_1 _)))
 refine (show wpAny _ _ (do ret (<-mkInt 4238894112)) _ _ s from QH ?_)
 show wpAny _ _ (if (decide (-(2:Int) ^ 63<=4238894112) && decide ((4238894112:Int) < 2 ^ 63))=true then _ else _) Q E _
 rw [if_pos (by decide)]
 exact LQ h
end
noncomputable def Aa:IA->Int
 | none=>4238894112
 | some i=>hashInt i
noncomputable def pE:IA->Value->Bool
 | none,.none=>true
 | some i,.int j _=>i == j
 | some i,.bool b=>i == (if b then 1 else 0)
 | _,_=>false
theorem d9 {k:IA} {v:Value} (h:pE k v=true):(k=none/\v=.none)\/(∃ i t,k=some i/\v=.int i t)\/∃ b,k=some (if b then 1 else 0)/\v=.bool b:=by
 rcases k with _ | i <;> cases v <;> (delta pE at h; simp at h)
 ·exact .inl ⟨rfl,rfl⟩
 ·subst h; exact .inr (.inr ⟨_,rfl,rfl⟩)
 ·subst h; exact .inr (.inl ⟨_,_,rfl,rfl⟩)
noncomputable def cW (prog:Program) (w:World):PySem.KeyKind prog w IA where
 is:=pE
 hash:=Aa
 inj:=fun v a b ha hb=>by
  rcases d9 ha with ⟨rfl,rfl⟩ | ⟨i,t,rfl,rfl⟩ | ⟨c,rfl,rfl⟩ <;> rcases d9 hb with ⟨rfl,e⟩ | ⟨j,u,rfl,e⟩ | ⟨d,rfl,e⟩ <;> first | rfl | (cases e; rfl) | cases e
 byValue:=fun k v h=>by
  rcases d9 h with ⟨rfl,rfl⟩ | ⟨i,t,rfl,rfl⟩ | ⟨c,rfl,rfl⟩ <;> rfl
 pyHash:=fun hv h=>by
  rcases d9 hv with ⟨rfl,rfl⟩ | ⟨i,t,rfl,rfl⟩ | ⟨c,rfl,rfl⟩
  ·exact tK h
  ·exact Ul h
  ·exact tI h
 eqBool:=fun {A E s a b u v Q} hu hv h=>by
  rcases d9 hu with ⟨rfl,rfl⟩ | ⟨i,t,rfl,rfl⟩ | ⟨c,rfl,rfl⟩ <;> rcases d9 hv with ⟨rfl,rfl⟩ | ⟨j,u,rfl,rfl⟩ | ⟨d,rfl,rfl⟩
  ·exact Sf _ _ _ _ _ (by simpa using h)
  ·exact S8 _ _ _ _ _ _ (by simpa using h)
  ·exact SQ _ _ _ _ _ (by simpa using h)
  ·exact Ta _ _ _ _ _ _ (by simpa using h)
  ·exact Tx _ _ _ _ _ _ _ _ (by simpa [Qv] using h)
  ·exact Tc _ _ _ _ _ _ _ (by simpa [Qv] using h)
  ·exact SR _ _ _ _ _ (by simpa using h)
  ·exact S9 _ _ _ _ _ _ _ (by simpa [Qv] using h)
  ·refine SS _ _ _ _ _ _ ?_
   cases c <;> cases d <;> simpa using h
 «strs»:=fun k x t v h=>by
  rcases d9 h with ⟨rfl,e⟩ | ⟨i,u,rfl,e⟩ | ⟨c,rfl,e⟩ <;> cases e
noncomputable def lV:IK->Int
 | .inl a=>Aa a
 | .inr as=>UU (NN (as.map Aa))
noncomputable def zq (is:List IK):Int:=UU (NN (is.map lV))
noncomputable def oj:IK->Nat
 | .inl _=>1
 | .inr as=>as.length + 1
section
variable (prog:Program) (w:World)
noncomputable def dh (h:Heap):IK->Value->Prop
 | .inl a,v=>pE a v=true
 | .inr as,v=>∃ b,v=.ref b/\UV (cW prog w) h as b
noncomputable def ie (h:Heap) (is:List IK) (a:Addr):Prop:=∃ o items n,h.get? a=some o/\o.cls=.type "tuple"/\o.data=.seq items n/\Paired (dh prog w h) is items.toList
end
section
variable {prog:Program} {w:World}
theorem dh.inj {h:Heap} {x y:IK} {v:Value} (hx:dh prog w h x v) (hy:dh prog w h y v):x=y:=by
 cases x with
 | inl a=>cases y with
  | inl b=>rw [(cW prog w).inj v a b hx hy]
  | inr bs=>
   obtain ⟨c,rfl,_⟩:=hy
   rcases d9 hx with ⟨_,e⟩ | ⟨_,_,_,e⟩ | ⟨_,_,e⟩ <;> cases e
 | inr as=>cases y with
  | inl b=>
   obtain ⟨c,rfl,_⟩:=hx
   rcases d9 hy with ⟨_,e⟩ | ⟨_,_,_,e⟩ | ⟨_,_,e⟩ <;> cases e
  | inr bs=>
   obtain ⟨c,rfl,h1⟩:=hx
   obtain ⟨d,e,h2⟩:=hy
   cases e
   rw [h1.inj h2]
theorem Fa {h:Heap} {xs ys:List IK} {vs:List Value} (p:Paired (dh prog w h) xs vs):Paired (dh prog w h) ys vs->xs=ys:=by
 induction p generalizing ys with
 | nil=>intro q; cases q; rfl
 | cons a t ih=>intro q; cases q with
  | cons b u=>rw [a.inj b,ih u]
theorem ie.inj {h:Heap} {a:Addr} {x y:List IK} (hx:ie prog w h x a) (hy:ie prog w h y a):x=y:=by
 obtain ⟨o,items,n,ho,_,hd,hi⟩:=hx
 obtain ⟨o',items',n',ho',_,hd',hi'⟩:=hy
 obtain rfl:o=o':=L9 (ho.symm.trans ho')
 rw [hd] at hd'
 injection hd' with h1 _
 subst h1
 exact Fa hi hi'
theorem dh.keeps {h h':Heap} {k:IK} {v:Value} {d:Addr} {o:Obj} {es ep} (x:dh prog w h k v) (ho:h.get? d=some o) (hd:o.data=.dict es ep) (hs:Mm d h h'):dh prog w h' k v:=by
 cases k with
 | inl a=>exact x
 | inr as=>obtain ⟨b,e,q⟩:=x; exact ⟨b,e,q.keeps ho hd hs⟩
theorem ie.keeps {h h':Heap} {ks:List IK} {a d:Addr} {o:Obj} {es ep} (x:ie prog w h ks a) (ho:h.get? d=some o) (hd:o.data=.dict es ep) (hs:Mm d h h'):ie prog w h' ks a:=by
 obtain ⟨o',items,n,ho',hc,hd',hi⟩:=x
 have hne:a≠d:=by
  rintro rfl
  obtain rfl:o'=o:=L9 (ho'.symm.trans ho)
  rw [hd] at hd'; exact nomatch hd'
 exact ⟨o',items,n,(hs.2 a hne).trans ho',hc,hd',Paired.mapP hi fun _ _ z=>z.keeps ho hd hs⟩
theorem ie.typeIs {s:Shared} {ks:List IK} {a:Addr} (x:ie prog w s.heap ks a):s.TypeIs (.ref a) "tuple":=let ⟨o,_,_,ho,hc,_⟩:=x; ⟨o,ho,hc⟩
theorem vq {h:Heap} {ks:List IA} {a:Addr} (x:UV (cW prog w) h ks a):∃ items,h.IsTuple a items:=let ⟨o,items,n,h1,h2,h3,_⟩:=x; ⟨items,o,h1,h2,n,h3⟩
variable {A:Around} {E:Value->Shared->Prop} {s:Shared}
theorem Fb {k:IK} {v:Value} {Q:Int->Shared->Prop} (hu:A.units < cLine) (hk:dh prog w s.heap k v) (h:Q (lV k) { s with toks:=s.toks + oj k }):wpAny (model prog w) A (pyHash v) Q E s:=by
 cases k with
 | inl a=>exact (cW prog w).pyHash (k:=a) hk h
 | inr as=>
  obtain ⟨b,rfl,q⟩:=hk
  exact wpAny_pyHash_tuple (knd:=cW prog w) hu q h
theorem GL {a:IA} {v:Value} {b:Addr} {items:Array Value} {Q:Bool->Shared->Prop} (hu:A.units < cLine) (hk:pE a v=true) (ht:s.heap.IsTuple b items) (h:Q false s):wpAny (model prog w) A (TC v (.ref b)) Q E s:=by
 rcases d9 hk with ⟨rfl,rfl⟩ | ⟨i,t,rfl,rfl⟩ | ⟨c,rfl,rfl⟩
 ·exact Mz.none_tuple ht hu _ _ _ _ h
 ·exact Mz.int_tuple _ _ ht hu _ _ _ _ h
 ·exact Mz.bool_tuple _ ht hu _ _ _ _ h
theorem GM {a:IA} {v:Value} {b:Addr} {items:Array Value} {Q:Bool->Shared->Prop} (hu:A.units < cLine) (hk:pE a v=true) (ht:s.heap.IsTuple b items) (h:Q false s):wpAny (model prog w) A (TC (.ref b) v) Q E s:=by
 rcases d9 hk with ⟨rfl,rfl⟩ | ⟨i,t,rfl,rfl⟩ | ⟨c,rfl,rfl⟩
 ·exact Mz.tuple_none ht hu _ _ _ _ h
 ·exact Mz.tuple_int _ _ ht hu _ _ _ _ h
 ·exact Mz.tuple_bool _ ht hu _ _ _ _ h
theorem Jf {x y:IK} {u v:Value} {Q:Bool->Shared->Prop} (hu:A.units < cLine) (hx:dh prog w s.heap x u) (hy:dh prog w s.heap y v) (h:Q (decide (x=y)) s):wpAny (model prog w) A (TC u v) Q E s:=by
 cases x with
 | inl a=>cases y with
  | inl b=>
   refine (cW prog w).eqBool (a:=a) (b:=b) hx hy ?_
   rw [show decide (a=b)=decide ((Od a:IK)=Od b) from decide_eq_decide.mpr ⟨fun e=>by rw [e],fun e=>Sl e⟩]
   exact h
  | inr bs=>
   obtain ⟨c,rfl,q⟩:=hy
   obtain ⟨items,ht⟩:=vq q
   refine GL hu hx ht ?_
   rw [decide_eq_false (fun e=>nomatch e)] at h
   exact h
 | inr as=>cases y with
  | inl b=>
   obtain ⟨c,rfl,q⟩:=hx
   obtain ⟨items,ht⟩:=vq q
   refine GM hu hy ht ?_
   rw [decide_eq_false (fun e=>nomatch e)] at h
   exact h
  | inr bs=>
   obtain ⟨c,rfl,q⟩:=hx
   obtain ⟨d,rfl,q'⟩:=hy
   refine wpAny_eqBool_tuple (knd:=cW prog w) hu q q' ?_
   rw [show decide (as=bs)=decide ((Ni as:IK)=Ni bs) from decide_eq_decide.mpr ⟨fun e=>by rw [e],fun e=>Ow e⟩]
   exact h
noncomputable def Ab (ks:List IK):Nat:=(ks.map oj).sum + 1
theorem Fc {ks:List IK} {a:Addr} {Q:Int->Shared->Prop} (hu:A.units + 1 < cLine) (hk:ie prog w s.heap ks a) (h:Q (zq ks) { s with toks:=s.toks + Ab ks }):
  wpAny (model prog w) A (pyHash (.ref a)) Q E s:=by
 have hT:=hk.typeIs
 obtain ⟨o,items,n,ho,_,hd,hi⟩:=hk
 have hu0:A.units < cLine:=by omega
 unfold pyHash
 first | unfold pyHashByItsType | skip
 first | refine LO (wpAny_cRoomFor_or (.inr hu0) ?_) | skip
 refine LO (NI hT Qh.lookup ?_)
 show wpAny _ _ (if (some (S5 "tuple.__hash__") == some Nq)=true then _ else _) Q E s
 rw [if_neg (by rw [RW]; exact Ma)]
 refine LO (NI hT Qh.lookup ?_)
 show wpAny _ _ (Pn (.ref a) "__hash__" _ >>= _) Q E s
 refine LO (Oz hT Qh (ML Qh hT F.entry_tuple_hash ?_ (F.args_tuple_hash_1 _)))
 show wpAny _ _ (Rl (.ref a) >>= _) _ _ s
 refine LO (Ra ho hd ?_)
 refine LO ?_
 rw [<-Pc]
 refine Qt _
  (fun dj (b:Array Int) s'=>∃ done left,ks=done++left/\Paired (dh prog w s.heap) left dj/\b.toList=done.map lV/\s'={ s with toks:=s.toks + (done.map oj).sum })
  _ ?_ ?_ _ _ ⟨[],ks,rfl,hi,rfl,rfl⟩
 ·rintro x dj b s' ⟨done,left,rfl,hl,hb,rfl⟩
  cases hl with
  | @cons k _ ks' _ h1 hl'=>
   refine LO (Fb (k:=k) hu h1 ?_)
   have e:(done.map oj).sum + oj k=((done++[k]).map oj).sum:=by simp
   first
    | exact LQ ⟨done++[k],ks',by simp,hl',by simp [hb],by rw [<-e]; simp [Rn]⟩
    | exact LO (LQ (LQ ⟨done++[k],ks',by simp,hl',by simp [hb],by rw [<-e]; simp [Rn]⟩))
 ·rintro b s' ⟨done,left,rfl,hl,hb,rfl⟩
  cases hl
  rw [Nm] at h
  show wpAny _ _ (retInt (NN b.toList)) _ _ _
  rw [hb]
  refine QH ?_
  show wpAny _ _ (if (decide (-(2:Int) ^ 63<=NN (done.map lV)) && decide (NN (done.map lV) < 2 ^ 63))=true then _ else _) Q E _
  unfold zq UU Ab at h
  by_cases hr:(decide (-(2:Int) ^ 63<=NN (done.map lV)) && decide (NN (done.map lV) < 2 ^ 63))=true
  ·rw [if_pos hr]
   rw [if_pos hr] at h
   exact LQ (by simpa [Rn] using h)
  ·rw [if_neg hr]
   rw [if_neg hr] at h
   exact LO (Of (LQ (by simpa [Rn] using h)))
theorem C6 {x y:List IK} {a b:Addr} {P:Fin->Shared->Prop} (hu:A.units < cLine) (hx:ie prog w s.heap x a) (hy:ie prog w s.heap y b) (h:P (.done (.ret (.bool (decide (x=y))))) s):
  wpAny (model prog w) A (Builtin.«tuple.__eq__» ⟨[.ref a,.ref b],[]⟩) P E s:=by
 have hTb:=hy.typeIs
 obtain ⟨oa,xs,na,hoa,_,hda,hia⟩:=hx
 obtain ⟨ob,ys,nb,hob,_,hdb,hib⟩:=hy
 show wpAny _ _ (UW (.ref b) (.type "tuple") >>= _) _ _ s
 refine LO (N9 hTb Qw ?_)
 simp only [PJ,M4,if_false]
 refine LO (Ra hoa hda ?_)
 refine LO (Ra hob hdb ?_)
 refine LO ?_
 refine Qt _
  (fun dj r s'=>r.1=none/\s'=s/\∃ x' y' xs' ys',dj=List.zip xs' ys'/\Paired (dh prog w s.heap) x' xs'/\Paired (dh prog w s.heap) y' ys'/\decide (x'=y')=decide (x=y)/\(xs'.length == ys'.length)=(xs.size == ys.size))
  _ ?_ ?_ _ _ ⟨rfl,rfl,x,y,xs.toList,ys.toList,rfl,hia,hib,rfl,by simp⟩
 ·rintro ⟨u,v⟩ dj r s' ⟨hr,rfl,x',y',xs',ys',hz,hx',hy',hdec,hlen⟩
  cases hx' with
  | nil=>simp at hz
  | @cons k1 u' x'' xs'' h1 hx''=>
   cases hy' with
   | nil=>simp at hz
   | @cons k2 v' y'' ys'' h2 hy''=>
    simp only [NJ,List.cons.injEq,Prod.mk.injEq] at hz
    obtain ⟨⟨rfl,rfl⟩,rfl⟩:=hz
    refine LO (Jf (x:=k1) (y:=k2) hu h1 h2 ?_)
    by_cases hk:k1=k2
    ·subst hk
     rw [decide_eq_true rfl]
     simp only [PJ,M4,if_false]
     refine LQ ⟨rfl,rfl,x'',y'',xs'',ys'',rfl,hx'',hy'',?_,by simpa using hlen⟩
     rw [<-hdec]
     by_cases hxy:x''=y''
     ·simp [hxy]
     ·simp [hxy]
    ·rw [decide_eq_false hk]
     simp only [Bool.not_false,if_true]
     have hf:decide (x=y)=false:=by rw [<-hdec]; simp [hk]
     rw [hf] at h
     exact LO (LQ (LQ (LQ h)))
 ·rintro ⟨r1,r2⟩ s' ⟨hr,rfl,x',y',xs',ys',hz,hx',hy',hdec,hlen⟩
  simp only at hr
  subst hr
  refine LQ ?_
  have hfin:(xs.size == ys.size)=decide (x=y):=by
   rw [<-hdec,<-hlen]
   cases hx' with
   | nil=>
    cases hy' with
    | nil=>simp
    | cons _ _=>simp
   | cons _ _=>
    cases hy' with
    | nil=>simp
    | cons _ _=>simp at hz
  show P (.done (.ret (.bool (xs.size == ys.size)))) s'
  rw [hfin]; exact h
theorem Fd {x y:List IK} {a b:Addr} {Q:Bool->Shared->Prop} (hu:A.units + 1 < cLine) (hx:ie prog w s.heap x a) (hy:ie prog w s.heap y b) (h:Q (decide (x=y)) s):
  wpAny (model prog w) A (eqBool (.ref a) (.ref b)) Q E s:=by
 unfold eqBool
 try with_reducible refine Nf ?_
 show wpAny _ _ (if (MA a == MA b)=true then _ else _) Q E s
 by_cases hab:(MA a == MA b)=true
 ·rw [if_pos hab]
  have e:a=b:=by have:=eq_of_beq hab; injection this
  subst e
  obtain rfl:=hx.inj hy
  exact LO (Of (LQ (by simpa using h)))
 ·rw [if_neg hab]
  exact LO (wpAny_richCompare_same_room (op:=.Eq) hx.typeIs hy.typeIs QI
   (ML QI hx.typeIs F.entry_tuple_eq (C6 hu hx hy ⟨_,rfl,(fun e=>nomatch e),NY h⟩) (F.args_tuple_eq_2 _ _)) (by omega))
theorem Bv {n:Nat} {ks:List IA} {a:Addr} {Q:Bool->Shared->Prop} (hk:UV (cW prog w) s.heap ks a) (h:Q true s):wpAny (model prog w) A (Sh (n + 1) (.ref a)) Q E s:=by
 have hT:=hk.typeIs
 obtain ⟨o,items,_,ho,_,hd,hi⟩:=hk
 unfold Sh
 refine LO (NI hT QI.lookup ?_)
 show wpAny _ _ (UW (.ref a) (.type "tuple") >>= _) _ _ s
 refine LO (N9 hT Qw ?_)
 simp only [PJ,M4,if_false]
 refine LO (MV ho hd ?_)
 refine LO ?_
 show wpAny _ _ (forIn items _ _) _ _ s
 rw [<-Pc]
 refine Qt _ (fun dj r s'=>r.1=none/\s'=s/\∀ v∈dj,carriedByValue v=true) _ ?_ ?_ _ _ ⟨rfl,rfl,hi.byValue⟩
 ·rintro v dj r s' ⟨hr,rfl,hall⟩
  rw [T1 _ (hall v Mc)]
  refine LO (LQ ?_)
  simp only [PJ,M4,if_false]
  exact LQ ⟨rfl,rfl,fun u hu'=>hall u (Mh _ hu')⟩
 ·rintro ⟨r1,r2⟩ s' ⟨hr,rfl,_⟩
  simp only at hr
  subst hr
  exact LQ h
theorem GN {ks:List IK} {a:Addr} {Q:Bool->Shared->Prop} (hk:ie prog w s.heap ks a) (h:Q true s):wpAny (model prog w) A (Sh 8 (.ref a)) Q E s:=by
 have hT:=hk.typeIs
 obtain ⟨o,items,n,ho,_,hd,hi⟩:=hk
 unfold Sh
 refine LO (NI hT QI.lookup ?_)
 show wpAny _ _ (UW (.ref a) (.type "tuple") >>= _) _ _ s
 refine LO (N9 hT Qw ?_)
 simp only [PJ,M4,if_false]
 refine LO (MV ho hd ?_)
 refine LO ?_
 show wpAny _ _ (forIn items _ _) _ _ s
 rw [<-Pc]
 refine Qt _ (fun dj r s'=>r.1=none/\s'=s/\∃ ks,Paired (dh prog w s.heap) ks dj) _ ?_ ?_ _ _ ⟨rfl,rfl,ks,hi⟩
 ·rintro v dj r s' ⟨hr,rfl,ks,hall⟩
  cases hall with
  | @cons k _ ks' _ h1 hl=>
   refine LO ?_
   have fin:wpAny (model prog w) A (Sh 7 v) (fun b s2=>b=true/\s2=s') E s':=by
    cases k with
    | inl a'=>rw [T1 _ ((cW prog w).byValue _ _ h1)]; exact LQ ⟨rfl,rfl⟩
    | inr as=>obtain ⟨b,rfl,q⟩:=h1; exact Bv (n:=6) q ⟨rfl,rfl⟩
   refine NO fin (fun b s2 ⟨e1,e2⟩=>?_) fun _ _ x=>x
   subst e1 e2
   simp only [PJ,M4,if_false]
   exact LQ ⟨rfl,rfl,ks',hl⟩
 ·rintro ⟨r1,r2⟩ s' ⟨hr,rfl,_⟩
  simp only at hr
  subst hr
  exact LQ h
end
noncomputable def lW (prog:Program) (w:World):HeapKind prog w (List IK) where
 is:=ie prog w
 hash:=zq
 draws:=Ab
 room:=fun A=>A.units + 1 < cLine
 inj:=fun hx hy=>hx.inj hy
 keeps:=fun x ho hd hs=>x.keeps ho hd hs
 pyHash:=fun hu hk h=>Fc hu hk h
 eqBool:=fun hu hx hy h=>Fd hu hx hy h
 quiet:=fun hk h=>GN hk h
noncomputable def DA (a:Addr) (kvs:List (IA×V)) (h:Heap):Prop:=kvs.length<=Mb/\(a == N1)=false/\∃ (P:Program) (w:World) (vs:List (IA×Value)),KV kvs vs/\h.DictOf (cW P w) a vs
noncomputable def ZX:List (List IK×Addr×V)->List (List IK×Addr×Value)->Prop:=Paired fun z x=>z.1=x.1/\z.2.1=x.2.1/\aH z.2.2 x.2.2
noncomputable def DB (a:Addr) (zs:List (List IK×Addr×V)) (h:Heap):Prop:=zs.length<=Mb/\(a == N1)=false/\∃ xs:List (List IK×Addr×Value),ZX zs xs/\
 ∃ o es ep,h.get? a=some o/\o.ExactDict/\o.data=.dict es ep/\es.toList=xs.map (fun x=>⟨zq x.1,.ref x.2.1,x.2.2⟩)/\(xs.map (·.1)).Nodup
noncomputable def dA (a:Addr) (kvs:List (IA×V)):HO:=.ext (DA a kvs)
noncomputable def dB (a:Addr) (zs:List (List IK×Addr×V)):HO:=.ext (DB a zs)
noncomputable def atZ (zs:List (List IK×Addr×V)) (k:List IK):Option V:=(zs.find? fun p=>decide (p.1=k)).map (·.2.2)
noncomputable def Dx (H:Hp) (a:Addr) (s:Bool) (f:MK->Option V) (n:Nat):Prop:=
 (s=false/\∃ kvs,H a=some (dA a kvs)/\(∀ k,gq kvs k=f (.inl k))/\kvs.length<=n)\/
 (s=true/\∃ zs,H a=some (dB a zs)/\(∀ z∈zs,b9 H (.ref z.2.1) (.inr z.1))/\(∀ k,atZ zs k=f (.inr k))/\zs.length<=n)
section
variable {H H':Hp} {a b:Addr} {s:Bool} {f g:MK->Option V} {n m:Nat}
theorem Dx.ext (h:Dx H a s f n):∃ φ,H a=some (.ext φ):=by
 rcases h with ⟨_,kvs,e,_⟩ | ⟨_,zs,e,_⟩
 ·exact ⟨_,e⟩
 ·exact ⟨_,e⟩
theorem Dx.keep (h:Dx H a s f n) (e:H' a=H a) (kp:dR H H'):Dx H' a s f n:=by
 rcases h with ⟨hs,kvs,h1,h2⟩ | ⟨hs,zs,h1,h2,h3⟩
 ·exact .inl ⟨hs,kvs,e.trans h1,h2⟩
 ·exact .inr ⟨hs,zs,e.trans h1,fun z hz=>(h2 z hz).keep kp,h3⟩
theorem Dx.same (h:Dx H a s f n) (q:am H H'):Dx H' a s f n:=by
 obtain ⟨φ,h1⟩:=h.ext
 exact h.keep ((q _ _ h1).trans h1.symm) q.keep
theorem Dx.ne_lst {xs:List V} (h:Dx H a s f n) (e:H b=some (.lst xs)):b≠a:=by
 obtain ⟨φ,h1⟩:=h.ext
 exact zl e h1 (fun z=>nomatch z)
theorem Dx.ne_tup {xs:List V} (h:Dx H a s f n) (e:H b=some (.tup xs)):b≠a:=by
 obtain ⟨φ,h1⟩:=h.ext
 exact zl e h1 (fun z=>nomatch z)
theorem Dx.le (h:Dx H a s f n) (e:n<=m):Dx H a s f m:=by
 rcases h with ⟨hs,kvs,h1,h2,h3⟩ | ⟨hs,zs,h1,h2,h3,h4⟩
 ·exact .inl ⟨hs,kvs,h1,h2,MD h3 e⟩
 ·exact .inr ⟨hs,zs,h1,h2,h3,MD h4 e⟩
theorem Dx.congr (h:Dx H a s f n) (e:∀ k,f k=g k):Dx H a s g n:=by
 rcases h with ⟨hs,kvs,h1,h2,h3⟩ | ⟨hs,zs,h1,h2,h3,h4⟩
 ·exact .inl ⟨hs,kvs,h1,fun k=>(h2 k).trans (e _),h3⟩
 ·exact .inr ⟨hs,zs,h1,h2,fun k=>(h3 k).trans (e _),h4⟩
end
end
theorem Dx.off {H H':Hp} {a l:Addr} {s:Bool} {f:MK->Option V} {n:Nat} {xs:List V} (h:Dx H a s f n) (e:H l=some (.lst xs)) (o:Off l H H'):Dx H' a s f n:=
 h.keep (o a (h.ne_lst e).symm) (o.keep e)
theorem Dx.offK {H H':Hp} {a:Addr} {s:Bool} {f:MK->Option V} {n:Nat} (h:Dx H a s f n) (o:Off a H H'):dR H H':=o.keepD fun xs e=>h.ne_tup e rfl
noncomputable def vt:TE:=fun _ H Q=>∃ s,∀ p H',H p=none->am H H'->Dx H' p s (fun _=>none) 0->Q (.ref p) H'
theorem Cf {σ:St} {H:Hp} {Q:VK} (s:Bool) (h:∀ p H',H p=none->am H H'->Dx H' p s (fun _=>none) 0->Q (.ref p) H'):vt σ H Q:=⟨s,h⟩
noncomputable def GO (neg:Bool):R2:=fun y x H Q=>∃ a s f n k,x=.ref a/\Dx H a s f n/\b9 H y k/\fS k=s/\Q (.bl (if neg then (f k).isNone else (f k).isSome)) H
noncomputable def zr:R2:=fun x y H Q=>∃ a s f n k v,x=.ref a/\Dx H a s f n/\b9 H y k/\fS k=s/\f k=some v/\Q v H
noncomputable def jX (f:MK->Option V) (k:MK) (v:V):MK->Option V:=fun j=>if j=k then some v else f j
noncomputable def C7:zI:=fun o i v H R=>∃ a s f n k,o=.ref a/\Dx H a s f n/\b9 H i k/\fS k=s/\n < Mb/\∀ H',Off a H H'->Dx H' a s (jX f k v) (n + 1)->R H'
noncomputable def Ac:V->List V->Hp->VK->Prop:=fun x ys H Q=>∃ a s f n k y v,x=.ref a/\ys=[y,v]/\Dx H a s f n/\b9 H y k/\fS k=s/\n < Mb/\(∀ u,f k=some u->Q u H)/\
 (f k=none->∀ H',Off a H H'->Dx H' a s (jX f k v) (n + 1)->Q v H')
noncomputable def tXM (r:V->List V->Hp->VK->Prop) (to:TE) (t:TA):TE:=fun σ H Q=>to σ H fun x H1=>(∃ a s f n,x=.ref a/\Dx H1 a s f n)/\t σ H1 fun ys H2=>r x ys H2 Q
section
variable {σ:St} {H:Hp} {Q:VK} {a:Addr} {s:Bool} {f:MK->Option V} {n:Nat} {k:MK} {y v:V}
theorem GP (d:Dx H a s f n) (hk:b9 H y k) (hs:fS k=s) (h:Q (.bl (f k).isNone) H):GO true y (.ref a) H Q:=⟨a,s,f,n,k,rfl,d,hk,hs,h⟩
theorem Fe (d:Dx H a s f n) (hk:b9 H y k) (hs:fS k=s) (e:f k=some v) (h:Q v H):zr (.ref a) y H Q:=⟨a,s,f,n,k,v,rfl,d,hk,hs,e,h⟩
theorem KB {R:Hp->Prop} (d:Dx H a s f n) (hk:b9 H y k) (hs:fS k=s) (hn:n < Mb) (h:∀ H',Off a H H'->Dx H' a s (jX f k v) (n + 1)->R H'):C7 (.ref a) y v H R:=⟨a,s,f,n,k,rfl,d,hk,hs,hn,h⟩
theorem Jg (d:Dx H a s f n) (hk:b9 H y k) (hs:fS k=s) (hn:n < Mb) (h1:∀ u,f k=some u->Q u H) (h2:f k=none->∀ H',Off a H H'->Dx H' a s (jX f k v) (n + 1)->Q v H'):Ac (.ref a) [y,v] H Q:=⟨a,s,f,n,k,y,v,rfl,rfl,d,hk,hs,hn,h1,h2⟩
theorem LN {r:V->List V->Hp->VK->Prop} {to:TE} {t:TA} (h:to σ H fun x H1=>(∃ a s f n,x=.ref a/\Dx H1 a s f n)/\t σ H1 fun ys H2=>r x ys H2 Q):tXM r to t σ H Q:=h
end
section
variable {α:Type} [DecidableEq α] {ks:List α} {i:Nat} {k:α}
noncomputable def fX (ks:List α) (i:Nat):α->Option V:=fun k=>if k∈ks.take i then some (.int (ks.idxOf k:Nat)) else none
theorem vv (hk:ks[i]?=some k) (h:k∈ks.take i) (j:α):fX ks i j=fX ks (i + 1) j:=by
 unfold fX
 rw [bH hk]
 by_cases q:j∈ks.take i
 ·rw [if_pos q,if_pos (NG _ q)]
 ·rw [if_neg q,if_neg]
  intro z
  rcases Mt.mp z with z | z
  ·exact q z
  ·rw [LW.mp z] at q; exact q h
theorem vx (hk:ks[i]?=some k) (h:k∉ks.take i) (j:α):(if j=k then some (V.int (i:Nat)) else fX ks i j)=fX ks (i + 1) j:=by
 unfold fX
 rw [bH hk]
 by_cases q:j=k
 ·subst q
  rw [if_pos rfl,if_pos (by simp),yj hk h]
 ·rw [if_neg q]
  by_cases z:j∈ks.take i
  ·rw [if_pos z,if_pos (NG _ z)]
  ·rw [if_neg z,if_neg]
   intro w
   rcases Mt.mp w with w | w
   ·exact z w
   ·exact q (LW.mp w)
theorem mV (h:k∈ks.take i):fX ks i k=some (.int (ks.idxOf k:Nat)):=if_pos h
theorem tT (h:k∉ks.take i):fX ks i k=none:=if_neg h
theorem Bw (hk:ks[i]?=some k):k∈ks.take (i + 1):=by rw [bH hk]; simp
theorem tU (k:α):none=fX ks 0 k:=(if_neg (by simp)).symm
theorem re (hk:ks[i]?=some k):(bc ks).take (i + 1)=(bc ks).take i++[ks.idxOf k]:=bH (by unfold bc; rw [LX,hk]; rfl)
end
end L2
section
namespace KM
noncomputable def aS:Nat->Nat
 | 0=>1
 | n + 1=>aS n * (n + 1)
noncomputable def choose:Nat->Nat->Nat
 | _,0=>1
 | 0,_ + 1=>0
 | n + 1,k + 1=>choose n k + choose n (k + 1)
theorem gF:∀ n,0 < aS n
 | 0=>by decide
 | n + 1=>Uh (gF n) (TF n)
theorem jY (n:Nat):choose n 0=1:=by cases n <;> rfl
theorem mW:∀ (n k:Nat),n < k->choose n k=0
 | _,0,h=>absurd h (NT _)
 | 0,_ + 1,_=>rfl
 | n + 1,k + 1,h=>by rw [choose,mW n k (by omega),mW n (k + 1) (by omega)]
theorem tV:∀ n,choose n n=1
 | 0=>rfl
 | n + 1=>by rw [choose,tV n,mW n (n + 1) (by omega)]
theorem ij:∀ (n k:Nat),k<=n->choose n k * (aS k * aS (n - k))=aS n
 | n,0,_=>by rw [jY,aS,Nat.sub_zero,Ui,Ui]
 | 0,_ + 1,h=>absurd h (by omega)
 | n + 1,k + 1,h=>by
  rw [choose,Uj]
  by_cases hk:k=n
  ·subst hk
   rw [tV,mW k (k + 1) (by omega),RX]
   simp [aS]
  ·have hk':k + 1<=n:=by omega
   have e1:=ij n k (by omega)
   have e2:=ij n (k + 1) hk'
   have s1:n + 1 - (k + 1)=n - k:=by omega
   have s2:n - k=(n - (k + 1)) + 1:=by omega
   rw [s1]
   have a1:choose n k * (aS (k + 1) * aS (n - k))=(k + 1) * aS n:=by
    rw [<-e1,aS]
    simp only [NV,N8,OA]
   have a2:choose n (k + 1) * (aS (k + 1) * aS (n - k))=(n - k) * aS n:=by
    have s3:aS (n - k)=aS (n - (k + 1)) * (n - k):=by
     rw [s2,aS,<-s2]
    rw [<-e2,s3]
    simp only [NV,N8,OA]
   rw [a1,a2,<-Uj,aS,N8]
   congr 1
   omega
theorem Bx (n k:Nat) (h:k + 1<=n):choose n k * (n - k) / (k + 1)=choose n (k + 1):=by
 have e1:=ij n k (by omega)
 have e2:=ij n (k + 1) h
 have s2:n - k=(n - (k + 1)) + 1:=by omega
 have p:0 < aS k * aS (n - (k + 1)):=Uh (gF _) (gF _)
 have q:choose n k * (n - k)=choose n (k + 1) * (k + 1):=by
  have:choose n k * (n - k) * (aS k * aS (n - (k + 1)))=choose n (k + 1) * (k + 1) * (aS k * aS (n - (k + 1))):=by
   have l:choose n k * (n - k) * (aS k * aS (n - (k + 1)))=aS n:=by
    rw [<-e1,show aS (n - k)=aS (n - (k + 1)) * (n - k) by rw [s2,aS,<-s2]]
    simp only [NV,N8,OA]
   have r:choose n (k + 1) * (k + 1) * (aS k * aS (n - (k + 1)))=aS n:=by
    rw [<-e2,aS]
    simp only [NV,N8,OA]
   rw [l,r]
  exact Ro p this
 rw [q,Nat.mul_div_cancel _ (TF k)]
noncomputable def cr:Nat->List Nat->Nat
 | _,[]=>1
 | n,s :: r=>choose n s * cr (n - s) r
theorem vy:∀ (ss:List Nat) (n:Nat),ss.sum<=n->cr n ss * ((ss.map aS).foldr (· * ·) 1 * aS (n - ss.sum))=aS n
 | [],n,_=>by simp [cr]
 | s :: r,n,h=>by
  rw [Mv] at h
  have ih:=vy r (n - s) (by omega)
  have c:=ij n s (by omega)
  rw [cr,Mo,List.foldr_cons,Mv,<-c,<-ih,Nat.sub_sub]
  simp only [NV,N8,OA]
end KM
end
section
namespace KM
noncomputable def so (room:List Nat) (w:List Nat):List Nat:=(Mn room.length).filter fun j=>decide (w.count j < room.getD j 0)
noncomputable def grow (room:List Nat) (ws:List (List Nat)):List (List Nat):=ws.flatMap fun w=>(so room w).map fun j=>w++[j]
noncomputable def cE (room:List Nat):Nat->List (List Nat)
 | 0=>[[]]
 | i + 1=>grow room (cE room i)
noncomputable def words:Nat->List Nat->Nat
 | 0,_=>1
 | n + 1,r=>(((Mn r.length).filter fun j=>decide (0 < r.getD j 0)).map fun j=>words n (r.set j (r.getD j 0 - 1))).sum
noncomputable def left (room w:List Nat):List Nat:=(Mn room.length).map fun j=>room.getD j 0 - w.count j
theorem lX (room w:List Nat):(left room w).length=room.length:=by unfold left; rw [LR,MU]
theorem Ad (room w:List Nat) (j:Nat) (h:j < room.length):(left room w).getD j 0=room.getD j 0 - w.count j:=by
 unfold left
 rw [Md,LX,MS h]
 rfl
theorem Ff (room w:List Nat) (j:Nat) (h:j < room.length):left room (w++[j])=(left room w).set j ((left room w).getD j 0 - 1):=by
 apply Oi
 intro k
 by_cases hk:k < room.length
 ·have e1:(left room (w++[j]))[k]?=some (room.getD k 0 - (w++[j]).count k):=by
   unfold left
   rw [LX,MS hk]
   rfl
  rw [e1,OT,Ad room w j h,lX]
  by_cases hjk:j=k
  ·subst hjk
   rw [if_pos rfl,if_pos h,Rx]
   simp
   omega
  ·rw [if_neg hjk]
   unfold left
   rw [LX,MS hk,Rx]
   simp [UX,hjk]
 ·rw [Mw (by rw [lX]; omega),Mw (by rw [N4,lX]; omega)]
theorem C8 (room w:List Nat):so room w=(Mn (left room w).length).filter fun j=>decide (0 < (left room w).getD j 0):=by
 unfold so
 rw [lX]
 apply List.filter_congr
 intro j hj
 rw [ND] at hj
 rw [Ad room w j hj]
 by_cases h:w.count j < room.getD j 0
 ·simp [h]
  omega
 ·simp [h]
  omega
noncomputable def sr (room:List Nat):Nat->List (List Nat)->List (List Nat)
 | 0,ws=>ws
 | n + 1,ws=>sr room n (grow room ws)
theorem nI (room:List Nat):∀ n i,sr room n (cE room i)=cE room (i + n)
 | 0,i=>rfl
 | n + 1,i=>by
  rw [sr,show grow room (cE room i)=cE room (i + 1) from rfl,nI room n (i + 1)]
  congr 1
  omega
theorem mX (f:List Nat->Nat) (room:List Nat):∀ ws:List (List Nat),((grow room ws).map f).sum=(ws.map fun w=>((so room w).map fun j=>f (w++[j])).sum).sum
 | []=>rfl
 | w :: r=>by
  have ih:=mX f room r
  unfold grow at ih ⊢
  rw [Ry,Ml,NH,ih,Mo,Mv,NQ]
  rfl
theorem rf (room:List Nat):∀ (n:Nat) (ws:List (List Nat)),(sr room n ws).length=(ws.map fun w=>words n (left room w)).sum
 | 0,ws=>by
  rw [sr]
  induction ws with
  | nil=>rfl
  | cons w r ih=>rw [My,ih,Mo,Mv,words]; omega
 | n + 1,ws=>by
  rw [sr,rf room n,mX]
  congr 1
  apply Nx
  intro w _
  rw [words,C8]
  congr 1
  apply Nx
  intro j hj
  have hj':=Ol.mp hj
  rw [ND,lX] at hj'
  rw [Ff room w j hj'.1]
noncomputable def cX (r:List Nat):Nat:=(r.map aS).foldr (· * ·) 1
theorem gS (a:Nat) (r:List Nat):cX (a :: r)=aS a * cX r:=rfl
theorem yl:∀ r,0 < cX r
 | []=>by decide
 | a :: r=>Uh (gF a) (yl r)
theorem ym:∀ (r:List Nat) (j:Nat),j < r.length->0 < r.getD j 0->cX r=cX (r.set j (r.getD j 0 - 1)) * r.getD j 0
 | [],j,h,_=>absurd h (by simp)
 | a :: r,0,_,h=>by
  have h':0 < a:=h
  show cX (a :: r)=cX ((a - 1) :: r) * a
  rw [gS,gS]
  obtain ⟨b,rfl⟩:∃ b,a=b + 1:=⟨a - 1,by omega⟩
  rw [show b + 1 - 1=b by omega,aS]
  simp only [NV,N8,OA]
 | a :: r,j + 1,h,hp=>by
  have ih:=ym r j (by simpa using h) hp
  show cX (a :: r)=cX (a :: r.set j (r.getD j 0 - 1)) * r.getD j 0
  rw [gS,gS,ih]
  simp only [NV,N8,OA]
theorem xf:∀ (r:List Nat) (j:Nat),j < r.length->0 < r.getD j 0->(r.set j (r.getD j 0 - 1)).sum + 1=r.sum
 | [],j,h,_=>absurd h (by simp)
 | a :: r,0,_,h=>by
  have h':0 < a:=h
  show ((a - 1) :: r).sum + 1=(a :: r).sum
  rw [Mv,Mv]
  omega
 | a :: r,j + 1,h,hp=>by
  have ih:=xf r j (by simpa using h) hp
  show (a :: r.set j (r.getD j 0 - 1)).sum + 1=(a :: r).sum
  rw [Mv,Mv]
  omega
theorem xg (c:Nat) (f:Nat->Nat):∀ l:List Nat,(l.map f).sum * c=(l.map fun j=>f j * c).sum
 | []=>by simp
 | a :: r=>by rw [Mo,Mv,Uj,xg c f r,Mo,Mv]
theorem Ae (r:List Nat):(((Mn r.length).filter fun j=>decide (0 < r.getD j 0)).map fun j=>r.getD j 0).sum=r.sum:=by
 have go:∀ (l:List Nat) (g:Nat->Nat),((l.filter fun j=>decide (0 < g j)).map g).sum=(l.map g).sum:=by
  intro l g
  induction l with
  | nil=>rfl
  | cons a t ih=>
   rw [Oc]
   by_cases h:0 < g a
   ·rw [if_pos (by simpa using h),Mo,Mv,ih,Mo,Mv]
   ·rw [if_neg (by simpa using h),ih,Mo,Mv]
    omega
 rw [go]
 congr 1
 apply Oi
 intro k
 rw [LX]
 by_cases hk:k < r.length
 ·rw [MS hk,LS hk]
  show some (r.getD k 0)=some r[k]
  rw [Md,LS hk]
  rfl
 ·rw [Mw (by simpa using hk),Mw (by simpa using hk)]
  rfl
theorem pF:∀ (n:Nat) (r:List Nat),r.sum=n->words n r * cX r=aS n
 | 0,r,h=>by
  have:cX r=1:=by
   induction r with
   | nil=>rfl
   | cons a t ih=>
    rw [Mv] at h
    have ha:a=0:=by omega
    subst ha
    rw [gS,ih (by omega)]
    rfl
  rw [words,this]
  rfl
 | n + 1,r,h=>by
  rw [words,xg]
  have e:((Mn r.length).filter fun j=>decide (0 < r.getD j 0)).map (fun j=>words n (r.set j (r.getD j 0 - 1)) * cX r)=((Mn r.length).filter fun j=>decide (0 < r.getD j 0)).map (fun j=>r.getD j 0 * aS n):=by
   apply Nx
   intro j hj
   have hj':=Ol.mp hj
   rw [ND] at hj'
   have hp:0 < r.getD j 0:=of_decide_eq_true hj'.2
   rw [ym r j hj'.1 hp,<-NV,pF n _ (by have:=xf r j hj'.1 hp; omega),N8]
  rw [e,<-xg,Ae,h,aS,N8]
theorem GQ (room:List Nat):left room []=room:=by
 apply Oi
 intro k
 unfold left
 rw [LX]
 by_cases hk:k < room.length
 ·rw [MS hk,LS hk]
  show some (room.getD k 0 - ([]:List Nat).count k)=some room[k]
  rw [Md,LS hk]
  simp
 ·rw [Mw (by simpa using hk),Mw (by simpa using hk)]
  rfl
theorem Fh (room:List Nat):(cE room room.sum).length * cX room=aS room.sum:=by
 have e:=nI room room.sum 0
 rw [Nat.zero_add] at e
 rw [<-e,rf]
 show (Uw (fun w=>words room.sum (left room w)) [[]]).sum * cX room=aS room.sum
 rw [Mo,Pu,Mv,Px,GQ,Nat.add_zero]
 exact pF _ _ rfl
structure Iy (room:List Nat) (i:Nat) (w:List Nat):Prop where
 len:w.length=i
 all:∀ j∈w,j < room.length
 cnt:∀ j,j < room.length->w.count j<=room.getD j 0
theorem ik (room:List Nat):∀ i,∀ w∈cE room i,Iy room i w
 | 0,w,h=>by
  have:w=[]:=by simpa [cE] using h
  subst this
  exact ⟨rfl,fun _ h=>(nomatch h),fun j _=>by simp⟩
 | i + 1,w,h=>by
  rw [cE,grow,RY] at h
  obtain ⟨v,hv,h⟩:=h
  obtain ⟨j,hj,rfl⟩:=Na.mp h
  have b:=ik room i v hv
  have hj':=Ol.mp hj
  rw [ND] at hj'
  have hc:v.count j < room.getD j 0:=of_decide_eq_true hj'.2
  refine ⟨by rw [Mj,b.len]; rfl,fun k hk=>?_,fun k hk=>?_⟩
  ·rcases Mt.mp hk with hk | hk
   ·exact b.all k hk
   ·rw [LW] at hk
    omega
  ·rw [Rx]
   by_cases e:j=k
   ·subst e
    rw [List.count_singleton_self]
    omega
   ·have:=b.cnt k hk
    rw [List.count_singleton,if_neg (by simpa using e)]
    omega
theorem vz:∀ (n:Nat) (w:List Nat),(∀ j∈w,j < n)->((Mn n).map fun j=>w.count j).sum=w.length
 | n,[] , _=>by
  have:((Mn n).map fun j=>([]:List Nat).count j)=(Mn n).map fun _=>0:=by simp
  rw [this]
  have go:∀ m,((Mn m).map fun _=>0).sum=0:=by
   intro m
   induction m with
   | zero=>rfl
   | succ m ih=>rw [OM,Ml,NH,ih]; rfl
  exact go n
 | n,a :: w,h=>by
  have ih:=vz n w fun j hj=>h j (Mh _ hj)
  have ha:a < n:=h a Mc
  rw [My,<-ih]
  clear ih h
  have go:∀ m,((Mn m).map fun j=>(a :: w).count j).sum=((Mn m).map fun j=>w.count j).sum + (if a < m then 1 else 0):=by
   intro m
   induction m with
   | zero=>simp
   | succ m ih=>
    rw [OM,Ml,NH,Ml,NH,ih]
    simp only [Mo,Pu,Mv,Px,UX]
    by_cases e:a=m
    ·subst e
     rw [if_neg (Nd a),if_pos (Nv a),if_pos (beq_self_eq_true a)]
     omega
    ·rw [if_neg (show ¬ (a == m)=true by simpa using e)]
     by_cases hl:a < m
     ·rw [if_pos hl,if_pos (show a < m + 1 by omega)]
      omega
     ·rw [if_neg hl,if_neg (show ¬ a < m + 1 by omega)]
      omega
  rw [go,if_pos ha]
theorem pG (room:List Nat):(Mn room.length).map (fun j=>room.getD j 0)=room:=by
 apply Oi
 intro k
 rw [LX]
 by_cases hk:k < room.length
 ·rw [MS hk,LS hk]
  show some (room.getD k 0)=some room[k]
  rw [Md,LS hk]
  rfl
 ·rw [Mw (by simpa using hk),Mw (by simpa using hk)]
  rfl
end KM
end
section
namespace KM
theorem Fi (n k:Nat):choose n k<=2 ^ n:=by
 induction n generalizing k with
 | zero=>cases k <;> simp [choose]
 | succ n ih=>
  cases k with
  | zero=>rw [jY]; exact Nat.one_le_two_pow
  | succ k=>
   rw [choose,Nat.pow_succ]
   have:=ih k
   have:=ih (k + 1)
   omega
theorem Af {n i:Nat} (h:i + 1<=n):((choose n i:Nat):Int) * ((n:Int) - (0 + (i:Int))) / (0 + (i:Int) + 1)=((choose n (i + 1):Nat):Int):=by
 have e1:(n:Int) - (0 + (i:Int))=((n - i:Nat):Int):=by omega
 have e2:(0 + (i:Int) + 1)=((i + 1:Nat):Int):=by omega
 rw [e1,e2,<-Si,<-Ux,Bx n i h]
theorem nJ (n:Nat) (ss:List Nat) (h:ss.sum<=n):cr n ss * cX (ss++[n - ss.sum])=aS n:=by
 have e:cX (ss++[n - ss.sum])=(ss.map aS).foldr (· * ·) 1 * aS (n - ss.sum):=by
  generalize n - ss.sum=k
  induction ss with
  | nil=>simp [cX]
  | cons a r ih=>
   have hr:r.sum<=n:=by rw [Mv] at h; omega
   show aS a * cX (r++[k])=aS a * (r.map aS).foldr (· * ·) 1 * aS k
   rw [ih hr,NV]
 rw [e]
 exact vy ss n h
theorem Fj {n:Nat} {ss:List Nat} (h:ss.sum<=n):0 < cr n ss:=by
 have e:=nJ n ss h
 have f:=gF n
 rcases Pd (cr n ss) with z | z
 ·rw [z,Nat.zero_mul] at e
  omega
 ·exact z
theorem jZ {n:Nat} {ss:List Nat} (h:ss.sum<=n):(cE (ss++[n - ss.sum]) n).length=cr n ss:=by
 have e1:=nJ n ss h
 have hs:(ss++[n - ss.sum]).sum=n:=by
  rw [NH,Mv,Px]
  omega
 have e2:=Fh (ss++[n - ss.sum])
 rw [hs] at e2
 exact Ro (yl _) (e2.trans e1.symm)
theorem words_pos (n:Nat) (r:List Nat) (h:r.sum=n):0 < words n r:=by
 have e:=pF n r h
 have f:=gF n
 rcases Pd (words n r) with z | z
 ·rw [z,Nat.zero_mul] at e
  omega
 ·exact z
theorem GR {room w:List Nat} {i:Nat} (h:Iy room i w):(left room w).sum + i=room.sum:=by
 have go:∀ m,m<=room.length->((Mn m).map fun j=>room.getD j 0 - w.count j).sum + ((Mn m).map fun j=>w.count j).sum=((Mn m).map fun j=>room.getD j 0).sum:=by
  intro m
  induction m with
  | zero=>intro _; rfl
  | succ m ih=>
   intro hm
   have:=ih (by omega)
   have:=h.cnt m (by omega)
   simp only [OM,Ml,NH,Mo,Pu,Mv,Px] at *
   omega
 have e:=go room.length (LV _)
 rw [vz room.length w h.all,pG,h.len] at e
 exact e
theorem GS {room:List Nat} {i:Nat} (h:i<=room.sum):(cE room i).length<=(cE room room.sum).length:=by
 have e:=nI room (room.sum - i) i
 rw [show i + (room.sum - i)=room.sum by omega] at e
 rw [<-e,rf]
 have hb:=ik room i
 generalize cE room i=ws at hb
 induction ws with
 | nil=>exact M7 _
 | cons w r ih=>
  rw [Mo,Mv,My]
  have:=ih fun v hv=>hb v (Mh _ hv)
  have:=words_pos (room.sum - i) (left room w) (by have:=GR (hb w Mc); omega)
  omega
theorem KC:∀ (rs:List Nat) (m:Nat),rs.foldl (fun f s=>f / aS s) (m * cX rs)=m
 | [],m=>by simp [cX]
 | a :: r,m=>by
  rw [UN,gS]
  have e:m * (aS a * cX r) / aS a=m * cX r:=by
   rw [<-NV,N8 m,NV,Nat.mul_div_cancel_left _ (gF a)]
  rw [e]
  exact KC r m
noncomputable def fD (room w:List Nat) (k:Nat):List Nat:=(Mn k).filter fun j=>decide (w.count j < room.getD j 0)
theorem tW (room w:List Nat):fD room w room.length=so room w:=rfl
theorem Ag (room w:List Nat) (k:Nat):fD room w (k + 1)=fD room w k++(if w.count k < room.getD k 0 then [k] else []):=by
 unfold fD
 rw [OM,OI]
 by_cases h:w.count k < room.getD k 0
 ·rw [if_pos h,OC (by simpa using h)]
  rfl
 ·rw [if_neg h,OD (by simpa using h)]
  rfl
theorem Fk (room:List Nat) (ws:List (List Nat)) (i:Nat) (w:List Nat) (h:ws[i]?=some w):grow room (ws.take (i + 1))=grow room (ws.take i)++(so room w).map fun j=>w++[j]:=by
 unfold grow
 rw [NP,h,QQ]
 simp
theorem Ah (room:List Nat) (ws:List (List Nat)) (i:Nat):(grow room (ws.take i)).length<=(grow room ws).length:=by
 have:grow room ws=grow room (ws.take i)++grow room (ws.drop i):=by
  unfold grow
  rw [<-QQ,Pw]
 rw [this,Mj]
 omega
end KM
end
namespace L2
open PySem PyProof.Rows
section
variable {K:Fg} {vs:List V} {H:Hp} {Q:VK} {E:XK}
noncomputable def Fl:V->Bool
 | .int _=>true
 | _=>false
noncomputable def cM:V->Int->Int->Bool
 | .int i,lo,hi=>decide (lo<=i) && decide (i<=hi)
 | _,_,_=>false
noncomputable def fv (K:Fg) (H:Hp) (x:V):Prop:=∃ t b1 b2,eN K H x t/\M1 K t (.type "int")=some b1/\M1 K t (.type "bool")=some b2/\(b1 && !b2)=Fl x
theorem fv.int {K:Fg} {H:Hp} (i:Int):fv K H (.int i):=⟨_,_,_,.int i,tR K,qV K,rfl⟩
theorem Fm {K:Fg} {H H':Hp} {x:V} {t:Value} (h:eN K H x t) (s:am H H'):eN K H' x t:=by
 cases h with
 | non=>exact .non
 | bl b=>exact .bl b
 | int i=>exact .int i
 | str x=>exact .str x
 | flt x=>exact .flt x
 | lst e=>exact .lst (s _ _ e)
 | frz e=>exact .frz (s _ _ e)
 | tup e=>exact .tup (s _ _ e)
 | dK e=>exact .dK (s _ _ e)
 | dT e=>exact .dT (s _ _ e)
 | ins e cl ha hn htk hm=>exact .ins (s _ _ e) cl ha hn htk hm
theorem fv.same {K:Fg} {H H':Hp} {x:V} (h:fv K H x) (s:am H H'):fv K H' x:=by
 obtain ⟨t,b1,b2,ty,r⟩:=h
 exact ⟨t,b1,b2,Fm ty s,r⟩
noncomputable def Jh (K:Fg):Sp:=fun vs H Q _=>∃ x,vs=[x]/\fv K H x/\Q (.bl (Fl x)) H
noncomputable abbrev im (K:Fg):Sp:=Jh K
noncomputable def vA (K:Fg):TS:=(aJ (oU (tCB (fP K) (aa (ac 0) (aa (tC (.ty "int")) ag))) (zm (tCB (fP K) (aa (ac 0) (aa (tC (.ty "bool")) ag))))))
theorem By (h:im K vs H Q E):vA K { nx:=fun _ H'=>Q .non H',rt:=Q } (start ["thing"] vs) H:=by
 obtain ⟨x,rfl,⟨t,b1,b2,ty,k1,k2,e⟩,q⟩:=h
 refine ⟨_,rfl,_,_,_,_,rfl,ty,k1,_,rfl,i4 (fun c=>?_) (fun c=>?_)⟩
 ·subst c
  refine ⟨_,rfl,_,_,_,_,rfl,ty,k2,_,rfl,?_⟩
  rw [<-e,Qn] at q
  exact q
 ·subst c
  rw [<-e,QR] at q
  exact q
noncomputable def GT (K:Fg):Sp:=fun vs H Q _=>∃ x lo hi,vs=[x,.int lo,.int hi]/\fv K H x/\Q (.bl (cM x lo hi)) H
noncomputable abbrev ee (K:Fg):Sp:=GT K
noncomputable def tX (K:Fg):TS:=(aJ (oU (au (im K) [] E0 (aa (ac 0) ag)) (EI (rI0 fun i j=>.bl (decide (i<=j))) (rI0 fun i j=>.bl (decide (i<=j))) (ac 1) (ac 0) (ac 2))))
theorem Ai (h:ee K vs H Q E):tX K { nx:=fun _ H'=>Q .non H',rt:=Q } (start ["thing","least","most"] vs) H:=by
 obtain ⟨x,lo,hi,rfl,pl,q⟩:=h
 refine ⟨_,rfl,x,rfl,pl,_,rfl,i4 (fun c=>?_) (fun c=>?_)⟩
 ·cases x with
  | int i=>
   refine ⟨_,rfl,_,rfl,_,_,rfl,rfl,_,rfl,i4 (fun d=>?_) (fun d=>?_)⟩
   ·refine ⟨_,rfl,_,_,rfl,rfl,?_⟩
    have q':Q (.bl (decide (lo<=i) && decide (i<=hi))) H:=q
    rw [d,Qn] at q'
    exact q'
   ·have q':Q (.bl (decide (lo<=i) && decide (i<=hi))) H:=q
    rw [d,QR] at q'
    exact q'
  | _=>cases c
 ·cases x with
  | int i=>cases c
  | _=>exact q
noncomputable def nK (zs:List V):Int:=(zs.map fun z=>match z with | .int i=>i | _=>0).sum
noncomputable def Iz (x:V) (zs:List V):Bool:=match x with
 | .int c=>(decide (0<=c) && decide (c<=12)) && (decide (1<=zs.length) && decide (zs.length<=5)) && zs.all (fun z=>cM z 0 c) && decide (nK zs<=c)
 | _=>false
theorem xh {zs:List V} {lo hi:Int} (h:zs.all (fun z=>cM z lo hi)=true):∃ ns:List Int,zs=ns.map V.int/\nK zs=ns.sum:=by
 induction zs with
 | nil=>exact ⟨[],rfl,rfl⟩
 | cons z r ih=>
  rw [O9,NM] at h
  obtain ⟨ns,e,es⟩:=ih h.2
  cases z with
  | int i=>
   refine ⟨i :: ns,by rw [e]; rfl,?_⟩
   show i + nK r=(i :: ns).sum
   rw [es,Mv]
  | _=>exact absurd h.1 Ma
noncomputable def IB (K:Fg) (H:Hp) (y:V) (zs:Option (List V)):Prop:=match zs with
 | some zs=>∃ a,y=.ref a/\(H a=some (.lst zs)\/∃ o,H a=some (.frz o (.lst zs)))/\zs.length<=1000/\∀ z∈zs,fv K H z
 | none=>∃ t,eN K H y t/\M1 K t (.type "list")=some false
noncomputable def vB (x:V):Option (List V)->Bool
 | some zs=>Iz x zs
 | none=>false
noncomputable def KD (K:Fg):Sp:=fun vs H Q _=>∃ x y zs,vs=[x,y]/\fv K H x/\IB K H y zs/\∀ H',am H H'->Q (.bl (vB x zs)) H'
noncomputable abbrev pH (K:Fg):Sp:=KD K
noncomputable def yn (K:Fg):TS:=(ar (bp (d5 (tB (au (ee K) [] E0 (aa (ac 0) (aa (tC (.int 0)) (aa (tC (.int 12)) ag)))))) (aJ (tC (.bl false))) ba)
 (ar (bp (tOr (d5 (tB (tCB (fP K) (aa (ac 1) (aa (tC (.ty "list")) ag))))) (d5 (tB (au (ee K) [] E0 (aa (tCB (d7 K) (aa (ac 1) ag)) (aa (tC (.int 1)) (aa (tC (.int 5)) ag))))))) (aJ (tC (.bl false))) ba)
 (aJ (oU (tCB (CZ K) (aa (bO (cp K (ac 1)) (fun _ _ _ _=>(ao 0)) (fun _ _ _ _=>bL) (fun _ _ _ _=>(au (ee K) [] E0 (aa (ac 0) (aa (tC (.int 0)) (aa (ac 1) ag))))) [none,some 0]) ag)) (tOp (rI0 fun i j=>.bl (decide (i<=j))) (tCB (uu K) (aa (ac 1) ag)) (ac 0))))))
theorem C9 (h:pH K vs H Q E):yn K { nx:=fun _ H'=>Q .non H',rt:=Q } (start ["cards","sizes"] vs) H:=by
 obtain ⟨x,y,zs,rfl,px,hz,q⟩:=h
 refine ⟨_,rfl,x,0,12,rfl,px,_,rfl,i4 (fun c=>?_) (fun c=>?_)⟩
 ·
  have e:vB x zs=false:=by
   have c':cM x 0 12=false:=by simpa using c
   cases zs with
   | none=>rfl
   | some zs=>
    cases x with
    | int i=>
     show ((decide (0<=i) && decide (i<=12)) && (decide (1<=zs.length) && decide (zs.length<=5)) && zs.all (fun z=>cM z 0 i) && decide (nK zs<=i))=false
     rw [show (decide (0<=i) && decide (i<=12))=false from c']
     rfl
    | _=>rfl
  have:=q H (am.refl H)
  rw [e] at this
  exact this
 ·have c':cM x 0 12=true:=by simpa using c
  cases x with
  | int i=>
   cases zs with
   | none=>
    obtain ⟨t,ty,k⟩:=hz
    refine ⟨_,rfl,_,_,_,_,rfl,ty,k,_,rfl,oZ (oZ ?_)⟩
    exact q H (am.refl H)
   | some zs=>
    obtain ⟨a,rfl,ha,hlen,hp⟩:=hz
    have hS:SqL K H a zs:=ha.elim (fun h=>.inl (.inl h)) (fun h=>.inl (.inr h))
    have ty:eN K H (.ref a) (.type "list"):=ha.elim (fun h=>.lst h) (fun ⟨o,h⟩=>.frz h)
    refine ⟨_,rfl,_,_,_,_,rfl,ty,jW K,_,rfl,nE ?_⟩
    refine ⟨_,rfl,a,_,rfl,.inl hS,_,1,5,rfl,fv.int _,_,rfl,i4 (fun d=>?_) (fun d=>?_)⟩
    ·have e:vB (.int i) (some zs)=false:=by
      have d0:cM (.int (zs.length:Int)) 1 5=false:=by simpa using d
      have d':(decide ((1:Int)<=(zs.length:Int)) && decide ((zs.length:Int)<=5))=false:=d0
      show ((decide (0<=i) && decide (i<=12)) && (decide (1<=zs.length) && decide (zs.length<=5)) && zs.all (fun z=>cM z 0 i) && decide (nK zs<=i))=false
      have e1:decide (1<=zs.length)=decide ((1:Int)<=(zs.length:Int)):=decide_eq_decide.mpr (by omega)
      have e2:decide (zs.length<=5)=decide ((zs.length:Int)<=5):=decide_eq_decide.mpr (by omega)
      rw [e1,e2,d',QT]
      rfl
     have:=q H (am.refl H)
     rw [e] at this
     exact this
    ·have d0:cM (.int (zs.length:Int)) 1 5=true:=by simpa using d
     have d':(decide ((1:Int)<=(zs.length:Int)) && decide ((zs.length:Int)<=5))=true:=d0
     have e0:vB (.int i) (some zs)=(zs.all (fun z=>cM z 0 i) && decide (nK zs<=i)):=by
      show ((decide (0<=i) && decide (i<=12)) && (decide (1<=zs.length) && decide (zs.length<=5)) && zs.all (fun z=>cM z 0 i) && decide (nK zs<=i))=_
      have e1:decide (1<=zs.length)=decide ((1:Int)<=(zs.length:Int)):=decide_eq_decide.mpr (by omega)
      have e2:decide (zs.length<=5)=decide ((zs.length:Int)<=5):=decide_eq_decide.mpr (by omega)
      rw [e1,e2,d',show (decide (0<=i) && decide (i<=12))=true from c',Qn,Qn]
     rw [e0] at q
     refine ⟨_,rfl,a,rfl,⟨_,hS⟩,fun p hp'=>qU (K:=K) (a:=a) (xs:=zs) (fun k acc H2=>acc=((zs.take k).map fun z=>cM z 0 i).map V.bl/\am H H2/\H2 p=some (.lst acc)) ⟨rfl,aR hp' _,az⟩ ?_ ?_ (small hlen) ?_ ?_⟩
     ·rintro k acc H2 hk ⟨rfl,s2,e2⟩
      exact ⟨e2,by rw [LR,LR,NL]; omega⟩
     ·rintro k acc H2 hk ⟨rfl,s2,e2⟩
      exact s2.seq hS
     ·rintro _ _ _ _ k z acc H2 hzk ⟨rfl,s2,e2⟩
      refine ⟨_,rfl,_,rfl,z,0,i,rfl,(hp z (LZ hzk)).same s2,e2,?_,s2.upd hp' _,az⟩
      rw [NP,hzk,Ml,Ml]
      rfl
     ·rintro acc H2 ⟨rfl,s2,e2⟩
      rw [MF] at e2
      refine ⟨p,_,rfl,SqL.of e2,_,rfl,?_⟩
      have ea:(zs.map fun z=>cM z 0 i).all id=zs.all fun z=>cM z 0 i:=by
       rw [QE]
       rfl
      rw [ea]
      refine i4 (fun g=>?_) (fun g=>?_)
      ·obtain ⟨ns,en,es⟩:=xh g
       rw [g,Qn,es] at q
       refine ⟨_,rfl,a,ns,rfl,by rw [<-en]; exact s2.seq hS,_,rfl,_,_,rfl,rfl,?_⟩
       exact q H2 s2
      ·rw [g,QR] at q
       exact q H2 s2
  | _=>exact absurd c' Ma
noncomputable def Fn:Sp:=fun vs H Q _=>∃ n k:Nat,vs=[.int n,.int k]/\k<=n/\n<=50/\Q (.int (KM.choose n k:Nat)) H
noncomputable abbrev pI (K:Fg):Sp:=Fn
noncomputable def yo (K:Fg):TS:=(ar (aK (tC (.int 1)) (ao 2))
 (ar (cR (fq (aa (ac 1) ag)) (ao 3) (aK (tOp (rI fO fun i j=>.int (i / j)) (tOp (rI OP fun i j=>.int (i * j)) (ac 2) (tOp (rI0 fun i j=>.int (i - j)) (ac 0) (ac 3))) (tOp (rI0 fun i j=>.int (i + j)) (ac 3) (tC (.int 1)))) (ao 2)))
 (aJ (ac 2))))
theorem Da (h:pI K vs H Q E):yo K { nx:=fun _ H'=>Q .non H',rt:=Q } (start ["many","taken","ways","step"] vs) H:=by
 obtain ⟨n,k,rfl,hk,hn,q⟩:=h
 refine ⟨_,rfl,_,rfl,by omega,by omega,qN (lo:=0) (n:=((k:Nat):Int).toNat) (fun i σ H2=>∃ st,σ=[some (.int n),some (.int k),some (.int (KM.choose n i:Nat)),st]/\H2=H) ⟨none,by rw [KM.jY]; rfl,rfl⟩ ?_ ?_⟩
 ·rintro i σ H2 hi ⟨st,rfl,rfl⟩
  have hi':i + 1<=n:=by omega
  refine ⟨_,rfl,_,rfl,_,rfl,_,_,rfl,rfl,_,_,rfl,rfl,.of_right (Ri (by omega) (by omega)),_,rfl,_,_,rfl,rfl,_,_,rfl,rfl,⟨by omega,by omega⟩,?_⟩
  dsimp only
  rw [KM.Af hi']
  exact ⟨_,rfl,rfl⟩
 ·rintro σ H2 ⟨st,rfl,rfl⟩
  refine ⟨_,rfl,?_⟩
  rw [show ((k:Nat):Int).toNat=k by omega]
  exact q
structure rg (c:Nat) (ss:List Nat):Prop where
 c12:c<=12
 l1:1<=ss.length
 l5:ss.length<=5
 sum:ss.sum<=c
noncomputable def aw (ss:List Nat):List V:=ss.map fun (s:Nat)=>V.int ((s:Nat):Int)
theorem dC (ss:List Nat):aw ss=(ss.map fun (s:Nat)=>((s:Nat):Int)).map V.int:=by unfold aw; rw [NQ]; rfl
theorem bg (ss:List Nat):(aw ss).length=ss.length:=LR _
theorem iN:∀ ss:List Nat,(ss.map fun (s:Nat)=>((s:Nat):Int)).sum=((ss.sum:Nat):Int)
 | []=>rfl
 | a :: r=>by rw [Mo,Mv,Mv,iN r]; omega
theorem i6:∀ {ss:List Nat} {s:Nat},s∈ss->s<=ss.sum
 | a :: r,s,h=>by
  rw [Mv]
  rcases L7.mp h with rfl | h
  ·omega
  ·have:=i6 h
   omega
theorem GU {c:Nat} {ss:List Nat} (p:rg c ss):Iz (.int c) (aw ss)=true:=by
 have h1:=p.c12
 have h2:=p.l1
 have h3:=p.l5
 have h4:=p.sum
 show ((decide ((0:Int)<=(c:Int)) && decide ((c:Int)<=12)) && (decide (1<=(aw ss).length) && decide ((aw ss).length<=5)) && (aw ss).all (fun z=>cM z 0 c) && decide (nK (aw ss)<=c))=true
 have e1:(aw ss).all (fun z=>cM z 0 c)=true:=by
  unfold aw
  rw [QE,RP]
  intro s hs
  have:=i6 hs
  show (decide ((0:Int)<=(s:Int)) && decide ((s:Int)<=(c:Int)))=true
  rw [decide_eq_true (by omega),decide_eq_true (by omega)]
  rfl
 have e2:nK (aw ss)=((ss.sum:Nat):Int):=by
  rw [<-iN]
  unfold nK aw
  rw [NQ]
  rfl
 rw [e1,e2,bg,decide_eq_true (by omega),decide_eq_true (by omega),decide_eq_true h2,decide_eq_true h3,decide_eq_true (by omega)]
 rfl
theorem GV {K:Fg} {H:Hp} {a:Addr} {ss:List Nat} (h:H a=some (.lst (aw ss))) (hl:ss.length<=1000):IB K H (.ref a) (some (aw ss)):=
 ⟨a,rfl,.inl h,by rw [bg]; exact hl,fun z hz=>by
  obtain ⟨s,_,rfl⟩:=Na.mp hz
  exact fv.int _⟩
noncomputable def Lp (K:Fg):Sp:=fun vs H Q _=>∃ (c:Nat) (a:Addr) (ss:List Nat),vs=[.int c,.ref a]/\H a=some (.lst (aw ss))/\rg c ss/\∀ H',am H H'->Q (.int (KM.cr c ss:Nat)) H'
noncomputable abbrev nL (K:Fg):Sp:=Lp K
noncomputable def vC (K:Fg):TS:=(ar (bp (d5 (tB (au (pH K) [] E0 (aa (ac 0) (aa (ac 1) ag))))) qK ba)
 (ar (aK (tC (.int 1)) (ao 2))
 (ar (aK (ac 0) (ao 3))
 (ar (cR (cp K (ac 1)) (ao 4) (ar (aK (tOp (rI OP fun i j=>.int (i * j)) (ac 2) (au (pI K) [] E0 (aa (ac 3) (aa (ac 4) ag)))) (ao 2))
 (aK (tOp (rI0 fun i j=>.int (i - j)) (ac 3) (ac 4)) (ao 3))))
 (aJ (ac 2))))))
theorem Bz (h:nL K vs H Q E):vC K { nx:=fun _ H'=>Q .non H',rt:=Q } (start ["cards","sizes","many","left","size"] vs) H:=by
 obtain ⟨c,a,ss,rfl,ha,p,q⟩:=h
 have h12:=p.c12
 have h5:=p.l5
 refine ⟨_,rfl,_,rfl,_,_,some (aw ss),rfl,fv.int _,GV ha (by omega),fun H1 s1=>⟨_,rfl,?_⟩⟩
 rw [show vB (.int c) (some (aw ss))=true from GU p]
 refine nE ?_
 refine ⟨_,rfl,?_⟩
 refine ⟨_,rfl,a,rfl,⟨_,SqL.of (s1 _ _ ha)⟩,ul (K:=K) (a:=a) (xs:=aw ss) (fun i σ H2=>∃ (m l:Nat) (st:Option V),σ=[some (.int c),some (.ref a),some (.int m),some (.int l),st]/\H2=H1/\m * KM.cr l (ss.drop i)=KM.cr c ss/\(ss.drop i).sum<=l/\l<=12)
  ⟨1,c,none,rfl,rfl,by rw [Ui]; rfl,p.sum,h12⟩ (fun i σ H2 _ ⟨_,_,_,_,e,_⟩=>by subst e; exact SqL.of (s1 _ _ ha)) ?_ ?_⟩
 ·rintro i x σ H2 hx ⟨m,l,st,rfl,rfl,hm,hs,hl⟩
  obtain ⟨z,hz,rfl⟩:∃ z:Nat,ss[i]?=some z/\x=.int (z:Int):=by
   unfold aw at hx
   rw [LX] at hx
   cases e:ss[i]? with
   | none=>rw [e] at hx; cases hx
   | some z=>rw [e] at hx; exact ⟨z,rfl,(L9 hx).symm⟩
  have hd:ss.drop i=z :: ss.drop (i + 1):=by
   obtain ⟨h1,h2⟩:=LU.mp hz
   rw [RD h1,h2]
  rw [hd,Mv] at hs
  rw [hd,KM.cr] at hm
  have hle:=KM.Fi l z
  have h2:(2:Nat) ^ l<=2 ^ 12:=Nat.pow_le_pow_right (by decide) hl
  refine ⟨_,rfl,_,rfl,_,rfl,l,z,rfl,by omega,by omega,_,_,rfl,rfl,.of_right (Ri (by omega) (by omega)),?_⟩
  refine ⟨_,rfl,_,rfl,_,_,rfl,rfl,m * KM.choose l z,l - z,some (.int (z:Int)),?_,rfl,by rw [NV]; exact hm,by omega,by omega⟩
  have e1:((m:Nat):Int) * ((KM.choose l z:Nat):Int)=((m * KM.choose l z:Nat):Int):=(Si _ _).symm
  have e2:((l:Nat):Int) - ((z:Nat):Int)=((l - z:Nat):Int):=by omega
  dsimp only
  rw [e1,e2]
  rfl
 ·rintro σ H2 ⟨m,l,st,rfl,rfl,hm,hs,hl⟩
  refine ⟨_,rfl,?_⟩
  rw [bg,List.drop_length,KM.cr,Nat.mul_one] at hm
  rw [hm]
  exact q _ s1
noncomputable def bF (H:Hp) (p:Addr) (ws:List (List Nat)):Prop:=∃ rs:List Addr,H p=some (.lst (rs.map V.ref))/\Paired (fun (a:Addr) (w:List Nat)=>H a=some (.tup (aw w))) rs ws
theorem j0 {H H':Hp} {rs:List Addr} {ws:List (List Nat)} (h:Paired (fun (a:Addr) (w:List Nat)=>H a=some (.tup (aw w))) rs ws) (s:∀ a xs,H a=some (.tup xs)->H' a=some (.tup xs)):Paired (fun (a:Addr) (w:List Nat)=>H' a=some (.tup (aw w))) rs ws:=
 Paired.mapP h fun a w e=>s _ _ e
theorem lp {α β:Type} {F:α->β->Prop}:∀ {l:List α} {m:List β} {i:Nat} {a:α},Paired F l m->l[i]?=some a->∃ b,m[i]?=some b/\F a b
 | _,_,_,_,.nil,h=>by simp at h
 | _,_,0,_,.cons r _,h=>by simp at h; subst h; exact ⟨_,rfl,r⟩
 | _,_,i + 1,a,.cons _ t,h=>by
  obtain ⟨b,h1,h2⟩:=lp (i:=i) (a:=a) t (by simpa using h)
  exact ⟨b,by simpa using h1,h2⟩
theorem pJ {α β:Type} {F:α->β->Prop}:∀ {l:List α} {m:List β} {l':List α} {m':List β},Paired F l m->Paired F l' m'->Paired F (l++l') (m++m')
 | _,_,_,_,.nil,h=>h
 | _,_,_,_,.cons r t,h=>.cons r (pJ t h)
theorem Db (w:List Nat) (j:Nat):(aw w).countP (fun z=>eqV z (.int (j:Int)))=w.count j:=by
 unfold aw
 rw [List.countP_map,List.count_eq_countP]
 congr 1
 funext k
 show ((k:Int) == (j:Int))=(k == j)
 by_cases h:k=j
 ·subst h; simp
 ·rw [beq_eq_false_iff_ne.mpr h,beq_eq_false_iff_ne.mpr (by omega)]
theorem Fo (w:List Nat):(aw w).all dQ=true:=by unfold aw; rw [QE]; simp [dQ]
noncomputable def KG (K:Fg):Sp:=fun vs H Q _=>∃ (b r:Addr) (ws:List (List Nat)) (room:List Nat),vs=[.ref b,.ref r]/\bF H b ws/\H r=some (.lst (aw room))/\room.length<=6/\(KM.grow room ws).length<=2000/\(∀ w∈ws,w.length<=12)/\
 ∀ (p:Addr) (H':Hp),am H H'->H p=none->bF H' p (KM.grow room ws)->Q (.ref p) H'
noncomputable abbrev iO (K:Fg):Sp:=KG K
noncomputable def mY (K:Fg):TS:=(ar (aK (CO ag) (ao 2))
 (ar (cR (cp K (ac 0)) (ao 3) (cR (mR bw K (aa (ac 1) ag)) (gC K 2 (bI (ao 4) (bI (ao 5) gB))) (bp (bf (tOp (rI0 fun i j=>.bl (decide (i < j))) (tBT Cb (ac 3) (aa (ac 4) ag)) (ac 5))) (cV (tBM K "list" eO (ac 2) (aa (tOp (Iq K) (ac 3) (Gp (aa (ac 4) ag))) ag))) ba)))
 (aJ (ac 2))))
theorem ux (h:iO K vs H Q E):mY K { nx:=fun _ H'=>Q .non H',rt:=Q } (start ["begun","room","longer","deal","who","most"] vs) H:=by
 obtain ⟨b,r,ws,room,rfl,⟨rs,hb,hp⟩,hrm,h6,h2000,h12,q⟩:=h
 refine ⟨(by show 0<=Mb; decide),fun l hl=>?_⟩
 have sl:am H (upd H l (.lst [])):=aR hl _
 have hrl:ws.length=rs.length:=hp.length.symm
 refine ⟨_,rfl,b,rfl,⟨_,SqL.of (sl _ _ hb)⟩,ul (K:=K) (a:=b) (xs:=rs.map V.ref)
  (fun i σ H2=>∃ d wh mo:Option V,σ=[some (.ref b),some (.ref r),some (.ref l),d,wh,mo]/\am H H2/\bF H2 l (KM.grow room (ws.take i)))
  ⟨none,none,none,rfl,sl,[],by rw [az]; rfl,.nil⟩ (fun i σ H2 _ ⟨_,_,_,_,s2,_⟩=>SqL.of (s2 _ _ hb)) ?_ ?_⟩
 ·rintro i x σ H2 hx ⟨d,wh,mo,rfl,s2,D2⟩
  obtain ⟨a,ea,rfl⟩:∃ a,rs[i]?=some a/\x=.ref a:=by
   rw [LX] at hx
   cases e:rs[i]? with
   | none=>rw [e] at hx; cases hx
   | some a=>rw [e] at hx; exact ⟨a,rfl,(L9 hx).symm⟩
  obtain ⟨u,hu,ha⟩:=lp hp ea
  have hu12:=h12 u (LZ hu)
  have gt:=KM.Fk room ws i u hu
  have gle:=KM.Ah room ws (i + 1)
  refine ⟨_,rfl,r,_,rfl,SqL.of (s2 _ _ hrm),zP (S:=bw) (K:=K) (a:=r) (xs:=aw room)
   (fun j σ H3=>∃ wh mo:Option V,σ=[some (.ref b),some (.ref r),some (.ref l),some (.ref a),wh,mo]/\am H H3/\bF H3 l (KM.grow room (ws.take i)++(KM.fD room u j).map fun k=>u++[k]))
   ⟨wh,mo,rfl,s2,by simpa [KM.fD] using D2⟩ (fun j σ H3 _ ⟨_,_,_,s3,_⟩=>SqL.of (s3 _ _ hrm)) ?_ ?_⟩
  ·rintro j x T σ H3 hxj ⟨wh',mo',rfl,s3,qs,hq,pq⟩ hT
   obtain ⟨m,hm,rfl⟩:∃ m:Nat,room[j]?=some m/\x=.int (m:Int):=by
    unfold aw at hxj
    rw [LX] at hxj
    cases e:room[j]? with
    | none=>rw [e] at hxj; cases hxj
    | some z=>rw [e] at hxj; exact ⟨z,rfl,(L9 hxj).symm⟩
   have hmD:room.getD j 0=m:=by rw [Md,hm]; rfl
   have hjl:j < room.length:=(LU.mp hm).1
   have nT:H T=none:=s3.free hT
   have s4:am H (upd H3 T (.tup [.int (j:Int),.int (m:Int)])):=s3.upd nT _
   have a4:(upd H3 T (.tup [.int (j:Int),.int (m:Int)])) a=some (.tup (aw u)):=s4 _ _ ha
   have nlT:l≠T:=be hq hT
   have q4:(upd H3 T (.tup [.int (j:Int),.int (m:Int)])) l=some (.lst (qs.map V.ref)):=by rw [aM nlT]; exact hq
   have p4:Paired (fun (a:Addr) (w:List Nat)=>(upd H3 T (.tup [.int (j:Int),.int (m:Int)])) a=some (.tup (aw w))) qs (KM.grow room (ws.take i)++(KM.fD room u j).map fun k=>u++[k]):=
    j0 pq fun a xs e=>by rw [aM (be e hT)]; exact e
   have hqlen:qs.length<=2000:=by
    have e1:=pq.length
    rw [Mj,LR] at e1
    rw [gt,Mj,LR,<-KM.tW] at gle
    have e3:(KM.fD room u j).length<=(KM.fD room u room.length).length:=by
     unfold KM.fD
     have:(Mn j).Sublist (Mn room.length):=List.range_sublist.mpr (by omega)
     exact (this.filter _).length_le
    omega
   have t4:(upd H3 T (.tup [.int (j:Int),.int (m:Int)])) T=some (.tup [.int (j:Int),.int (m:Int)]):=az
   generalize upd H3 T (.tup [.int (j:Int),.int (m:Int)])=H4 at s4 a4 q4 p4 t4
   have ns:=KM.Ag room u j
   rw [hmD] at ns
   refine ⟨T,_,rfl,SqT.of t4,rfl,_,_,rfl,_,_,rfl,rfl,?_⟩
   refine ⟨_,rfl,⟨a,_,rfl,a4⟩,_,rfl,a,_,_,rfl,rfl,a4,rfl,Fo u,_,rfl,_,_,rfl,rfl,_,rfl,?_⟩
   rw [Db]
   refine i4 (fun c=>?_) (fun c=>?_)
   ·have c':u.count j < m:=by have:=of_decide_eq_true c; omega
    rw [if_pos c'] at ns
    have fin:∀ (d:Addr) (H5:Hp),am H4 H5->H5 d=some (.tup (aw (u++[j])))->∃ (l':Addr) (xs:List V) (y:V),V.ref l=.ref l'/\[V.ref d]=[y]/\H5 l'=some (.lst xs)/\xs.length < Mb/\
      ∃ wh mo:Option V,([some (.ref b),some (.ref r),some (.ref l),some (.ref a),some (.int (j:Int)),some (.int (m:Int))]:L2.St)=[some (.ref b),some (.ref r),some (.ref l),some (.ref a),wh,mo]/\am H (upd H5 l' (.lst (xs++[y])))/\
       bF (upd H5 l' (.lst (xs++[y]))) l (KM.grow room (ws.take i)++(KM.fD room u (j + 1)).map fun k=>u++[k]):=by
     intro d H5 s5 e5
     refine ⟨l,_,_,rfl,rfl,s5 _ _ q4,Pa (by rw [LR]; exact hqlen) (by decide),_,_,rfl,(s4.trans s5).upd hl _,qs++[d],by rw [az,Ml]; rfl,?_⟩
     have keep:∀ (c:Addr) (xs:List V),H5 c=some (.tup xs)->upd H5 l (.lst (qs.map V.ref++[V.ref d])) c=some (.tup xs):=fun c xs e=>by
      rw [aM (zl e (s5 _ _ q4) (by intro z; cases z))]
      exact e
     rw [ns,Ml,<-Rv]
     exact pJ (j0 (j0 p4 fun c xs e=>s5 _ _ e) keep) (.cons (keep _ _ e5) .nil)
    refine ⟨_,rfl,.inl ⟨rfl,_,SqL.of q4⟩,_,rfl,_,rfl,(by show 1<=Mb; decide),fun t ht=>?_⟩
    have st:am H4 (upd H4 t (.tup [.int (j:Int)])):=aR ht _
    have ej:aw (u++[j])=aw u++[.int (j:Int)]:=by unfold aw; rw [Ml]; rfl
    refine ⟨a,t,aw u,[.int (j:Int)],rfl,rfl,SqT.of (st _ _ a4),SqT.of az,small (by rw [bg]; show u.length + 1<=1000; omega),fun e0=>?_,fun _ e0=>(nomatch e0),fun _ _ p hp'=>?_⟩
    ·exact fin t _ st (by rw [az,ej,e0]; rfl)
    ·exact fin p _ (st.trans (aR hp' _)) (by rw [az,ej])
   ·have c':¬ u.count j < m:=by have:=of_decide_eq_false c; omega
    rw [if_neg c',Nm] at ns
    exact ⟨_,_,rfl,s4,qs,q4,by rw [ns]; exact p4⟩
  ·rintro σ H3 ⟨wh',mo',rfl,s3,D3⟩
   rw [bg,KM.tW,<-gt] at D3
   exact ⟨_,_,_,rfl,s3,D3⟩
 ·rintro σ H2 ⟨d,wh,mo,rfl,s2,D2⟩
  refine ⟨_,rfl,?_⟩
  rw [LR,<-hrl,MF] at D2
  exact q l H2 s2 hl D2
noncomputable def Ji (K:Fg):Sp:=fun vs H Q _=>∃ (c:Nat) (a:Addr) (ss:List Nat),vs=[.int c,.ref a]/\H a=some (.lst (aw ss))/\rg c ss/\KM.cr c ss<=2000/\
 ∀ (p:Addr) (H':Hp),am H H'->H p=none->bF H' p (KM.cE (ss++[c - ss.sum]) c)->Q (.ref p) H'
theorem gG (ss:List Nat) (c:Nat):aw ss++[.int (c:Int)]=aw (ss++[c]):=by unfold aw; rw [Ml]; rfl
noncomputable abbrev j3 (K:Fg):Sp:=Ji K
noncomputable def vD (K:Fg):TS:=(ar (bp (bf (tOp (rI0 fun i j=>.bl (decide (j < i))) (au (nL K) [] E0 (aa (ac 0) (aa (ac 1) ag))) (tC (.int 2000)))) qK ba)
 (ar (aK (tOp Kd (ac 1) (CO (aa (tOp (rI0 fun i j=>.int (i - j)) (ac 0) (tCB (uu K) (aa (ac 1) ag))) ag))) (ao 2))
 (ar (aK (CO (aa (Gp ag) ag)) (ao 3))
 (ar (cR (fq (aa (ac 0) ag)) (ao 4) (aK (au (iO K) [] E0 (aa (ac 3) (aa (ac 2) ag))) (ao 3)))
 (aJ (ac 3))))))
theorem BA (h:j3 K vs H Q E):vD K { nx:=fun _ H'=>Q .non H',rt:=Q } (start ["cards","sizes","room","begun","card"] vs) H:=by
 obtain ⟨c,a,ss,rfl,ha,p,hm,q⟩:=h
 have h12:=p.c12
 have h5:=p.l5
 have hsum:=p.sum
 refine ⟨_,rfl,_,rfl,c,a,ss,rfl,ha,p,fun H1 s1=>?_⟩
 refine ⟨_,_,rfl,rfl,_,rfl,i4 (fun k=>?_) (fun _=>?_)⟩
 ·have k':(2000:Int) < ((KM.cr c ss:Nat):Int):=of_decide_eq_true k
  omega
 have a1:=s1 _ _ ha
 refine ⟨_,rfl,_,rfl,_,rfl,a,_,rfl,by rw [<-dC]; exact SqL.of a1,_,_,rfl,rfl,(by show 1<=Mb; decide),fun l hl=>?_⟩
 have s2:am H (upd H1 l (.lst [.int ((c:Int) - (ss.map fun (s:Nat)=>((s:Nat):Int)).sum)])):=s1.trans (aR hl _)
 have e2:(upd H1 l (.lst [.int ((c:Int) - (ss.map fun (s:Nat)=>((s:Nat):Int)).sum)])) l=some (.lst [.int ((c:Int) - (ss.map fun (s:Nat)=>((s:Nat):Int)).sum)]):=az
 rw [show (c:Int) - (ss.map fun (s:Nat)=>((s:Nat):Int)).sum=((c - ss.sum:Nat):Int) by rw [iN]; omega] at s2 e2
 dsimp only
 rw [show (c:Int) - (ss.map fun (s:Nat)=>((s:Nat):Int)).sum=((c - ss.sum:Nat):Int) by rw [iN]; omega]
 generalize upd H1 l (.lst [.int ((c - ss.sum:Nat):Int)])=H2 at s2 e2
 refine ⟨a,l,_,_,rfl,rfl,s2 _ _ ha,e2,small (by rw [bg]; show ss.length + 1<=1000; omega),fun rm hrm=>?_⟩
 rw [gG]
 have hRs:(ss++[c - ss.sum]).sum=c:=by rw [NH,Mv,Px]; omega
 have hRl:(ss++[c - ss.sum]).length<=6:=by rw [Mj]; show ss.length + 1<=6; omega
 have hlev:=KM.jZ hsum
 have s3:am H (upd H2 rm (.lst (aw (ss++[c - ss.sum])))):=s2.trans (aR hrm _)
 have e3:(upd H2 rm (.lst (aw (ss++[c - ss.sum])))) rm=some (.lst (aw (ss++[c - ss.sum]))):=az
 generalize ss++[c - ss.sum]=R at *
 generalize upd H2 rm (.lst (aw R))=H3 at s3 e3
 refine ⟨(by show 0<=Mb; decide),fun t ht=>⟨(by show 1<=Mb; decide),fun b hb=>?_⟩⟩
 have s4:am H3 (upd (upd H3 t (.tup [])) b (.lst [.ref t])):=(aR ht _).trans (aR hb _)
 have D4:bF (upd (upd H3 t (.tup [])) b (.lst [.ref t])) b (KM.cE R 0):=⟨[t],az,.cons (by rw [aM (be (az (o:=HO.tup [])) hb)]; exact az) .nil⟩
 have f4:H b=none:=by
  have:H3 b=none:=(aR ht _).free hb
  exact s3.free this
 generalize upd (upd H3 t (.tup [])) b (.lst [.ref t])=H4 at s4 D4
 refine ⟨_,rfl,_,rfl,by omega,by omega,qN (lo:=0) (n:=((c:Nat):Int).toNat) (fun i σ H5=>∃ (b:Addr) (st:Option V),σ=[some (.int c),some (.ref a),some (.ref rm),some (.ref b),st]/\am H3 H5/\H b=none/\bF H5 b (KM.cE R i)) ⟨b,none,rfl,s4,f4,D4⟩ ?_ ?_⟩
 ·rintro i σ H5 hi ⟨b',st,rfl,s5,f5,D5⟩
  have hi':i + 1<=c:=by omega
  refine ⟨_,rfl,_,rfl,b',rm,_,R,rfl,D5,s5 _ _ e3,hRl,?_,fun u hu=>?_,fun p' H6 s6 f6 D6=>?_⟩
  ·have h1:=KM.GS (room:=R) (i:=i + 1) (by omega)
   rw [hRs,hlev] at h1
   exact MD h1 hm
  ·have:=(KM.ik R i u hu).len
   omega
  ·exact ⟨p',_,rfl,s5.trans s6,(s3.trans s5).free f6,D6⟩
 ·rintro σ H5 ⟨b',st,rfl,s5,f5,D5⟩
  refine ⟨_,rfl,?_⟩
  rw [show ((c:Nat):Int).toNat=c by omega] at D5
  exact q b' H5 (s3.trans s5) f5 D5
noncomputable def pK (xs:List Int) (w:Int) (i:Nat):List Int:=((Mn i).filter fun j=>decide (xs[j]?=some w)).map fun (j:Nat)=>((j:Nat):Int)
theorem yp (xs:List Int) (w:Int) (i:Nat):pK xs w (i + 1)=pK xs w i++(if xs[i]?=some w then [(i:Int)] else []):=by
 unfold pK
 rw [OM,OI,Ml]
 by_cases h:xs[i]?=some w
 ·rw [if_pos h,OC (by simpa using h)]
  rfl
 ·rw [if_neg h,OD (by simpa using h)]
  rfl
theorem GW (xs:List Int) (w:Int) (i:Nat):(pK xs w i).length<=i:=by
 unfold pK
 rw [LR]
 have h:=Qx (fun j=>decide (xs[j]?=some w)) (Mn i)
 rw [MU] at h
 exact h
noncomputable def Jj (K:Fg):Sp:=fun vs H Q _=>∃ (d:Addr) (xs:List Int) (v:Int),vs=[.ref d,.int v]/\SqT K H d (xs.map V.int)/\xs.length<=1000/\
 ∀ (r:Addr) (H':Hp),am H H'->H' r=some (.tup ((pK xs v xs.length).map V.int))->Q (.ref r) H'
theorem vE {xs:List Int} {i:Nat} {x:V} (h:(xs.map V.int)[i]?=some x):∃ z,xs[i]?=some z/\x=.int z:=by
 rw [LX] at h
 cases e:xs[i]? with
 | none=>rw [e] at h; cases h
 | some z=>rw [e] at h; exact ⟨z,rfl,(L9 h).symm⟩
noncomputable abbrev ip (K:Fg):Sp:=Jj K
noncomputable def vF (K:Fg):TS:=(aJ (tCB (Kw K) (aa (bO (mR gp K (aa (ac 0) ag)) (fun _ _ _ _=>(gC K 2 (bI (ao 0) (bI (ao 1) gB)))) (fun _ _ _ _=>(bf (tOp rEq (ac 1) (ac 2)))) (fun _ _ _ _=>(ac 0)) [none,none,some 1]) ag)))
theorem BB (h:ip K vs H Q E):vF K { nx:=fun _ H'=>Q .non H',rt:=Q } (start ["deal","who"] vs) H:=by
 obtain ⟨d,xs,v,rfl,hd,hlen,q⟩:=h
 have hl:(xs.map V.int).length=xs.length:=LR _
 refine ⟨_,rfl,d,_,rfl,hd,fun p hp=>yg (S:=gp) (K:=K) (a:=d) (xs:=xs.map V.int) (fun i acc H2=>acc=(pK xs v i).map V.int/\am H H2/\H2 p=some (.lst acc)) ⟨rfl,aR hp _,az⟩ ?_ ?_ ?_ ?_ ?_⟩
 ·rintro i acc H2 hi ⟨rfl,s2,e2⟩
  exact ⟨e2,by rw [LR]; exact GW _ _ _⟩
 ·rintro i acc H2 hi ⟨rfl,s2,e2⟩
  exact s2.tup hd
 ·rw [hl]
  exact small hlen
 ·rintro _ _ _ _ i x T acc H2 hx ⟨rfl,s2,e2⟩ hT
  obtain ⟨z,hz,rfl⟩:=vE hx
  have nTp:p≠T:=be e2 hT
  have nT:H T=none:=s2.free hT
  refine ⟨T,_,rfl,SqT.of az,rfl,_,_,rfl,_,_,rfl,rfl,_,rfl,_,rfl,rfl,_,rfl,?_⟩
  have eu:=yp xs v i
  refine i4 (fun c=>?_) (fun c=>?_)
  ·have c':z=v:=by
    have:=of_decide_eq_true c
    injection this
   subst c'
   rw [if_pos hz] at eu
   refine ⟨_,rfl,by rw [aM nTp]; exact e2,?_,(s2.upd nT _).upd hp _,az⟩
   rw [eu,Ml]
   rfl
  ·have c':¬ xs[i]?=some v:=by
    rw [hz]
    intro e
    have:=of_decide_eq_false c
    exact this (by rw [L9 e])
   rw [if_neg c',Nm] at eu
   exact ⟨by rw [eu],s2.upd nT _,by rw [aM nTp]; exact e2⟩
 ·rintro acc H2 ⟨rfl,s2,e2⟩
  rw [hl] at e2
  exact ⟨p,_,rfl,.inl ⟨SqL.of e2,fun t ht=>q t _ (s2.trans (aR ht _)) az⟩⟩
theorem fE {ss:List Nat} {i:Nat} {x:V} (hx:(aw ss)[i]?=some x):∃ z:Nat,ss[i]?=some z/\x=.int (z:Int):=by
 unfold aw at hx
 rw [LX] at hx
 cases e:ss[i]? with
 | none=>rw [e] at hx; cases hx
 | some z=>rw [e] at hx; exact ⟨z,rfl,(L9 hx).symm⟩
end
section
variable {K:Fg} {vs:List V} {H:Hp} {Q:VK} {E:XK}
noncomputable abbrev bi (K:Fg):Sp:=Kk K
noncomputable def j4 (K:Fg):TS:=(ar (bp (bf (tOp (rI0 fun i j=>.bl (decide (i < j))) (ac 1) (tCB (d7 K) (aa (ac 0) ag)))) (aJ (tOp (cS K) (ac 0) (ac 1))) ba)
 (ar (aK (tOp (rI0 fun i j=>.int (i + j)) (tOp (rI OP fun i j=>.int (i * j)) (ac 1) (tC (.int 7919))) (tC (.int 5))) (ao 2))
 (ar (bp (bf (tOp (rI0 fun i j=>.bl (decide (j < i))) (tCB (d7 K) (aa (ac 0) ag)) (tC (.int 0)))) (aK (tOp (rI0 fun i j=>.int (i + j)) (tOp (rI OP fun i j=>.int (i * j)) (tOp (cS K) (ac 0) (tOp (rI (fun _ j=>0 < j) fun i j=>.int (i % j)) (tOp (rI OP fun i j=>.int (i * j)) (ac 1) (tC (.int 7))) (tCB (d7 K) (aa (ac 0) ag)))) (tC (.int 48271))) (tOp (rI OP fun i j=>.int (i * j)) (ac 1) (tC (.int 7919)))) (ao 2)) ba)
 (ar (aK (tOp (rI (fun _ j=>0 < j) fun i j=>.int (i % j)) (tOp (rI OP fun i j=>.int (i * j)) (ac 2) (ac 2)) (tC (.int 2147483629))) (ao 2))
 (aJ (tOp (rI (fun _ j=>0 < j) fun i j=>.int (i % j)) (tOp (rI OP fun i j=>.int (i * j)) (tOp (rI0 fun i j=>.int (i + j)) (ac 2) (ac 1)) (tOp (rI0 fun i j=>.int (i + j)) (ac 2) (tC (.int 69621)))) (tC (.int 2147483587))))))))
theorem Aj (h:bi K vs H Q E):j4 K { nx:=fun _ H'=>Q .non H',rt:=Q } (start ["_law_script","_law_k","_law_number"] vs) H:=by
 obtain ⟨a,ns,k,rfl,⟨hS,h63,hbits⟩,h0,h1,q⟩:=h
 show j4 K _ [some _,some _,none] _
 unfold j4
 have hl:(ns.map V.int).length=ns.length:=LR _
 walk_at "rd"
 rw [hl]
 refine dq (fun c=>?_) (fun c=>?_)
 ·walk_at "rd"
  refine bZ hS (zQ h0 c) ?_
  have e:bC ns k=ns.getD k.toNat 0:=by unfold bC; rw [if_pos c]
  rw [e] at q
  exact q
 ·refine E6 ?_
  dsimp only
  refine bu ?_
  walk_at "rs"
  refine fB fun NX hNX=>?_
  have last:∀ n0:Int,MW n0<=1048600->bC ns k=((n0 * n0 % 2147483629) + k) * ((n0 * n0 % 2147483629) + 69621) % 2147483587->NX [some (.ref a),some (.int k),some (.int n0)] H:=by
   intro n0 hb e
   refine hNX _ _ ?_
   have z1:0<=n0 * n0 % 2147483629:=OL _ (by decide)
   have z2:n0 * n0 % 2147483629 < 2147483629:=Os _ (by decide)
   refine bu ?_
   refine mT ?_
   refine ut ?_
   refine ut ?_
   refine pB rfl ?_
   refine pB rfl ?_
   refine r_I (.of_le hb hb (by decide)) ?_
   walk_at "rd"
   rw [e] at q
   exact q
  walk_at "rs"
  rw [hl]
  refine dq (fun d=>?_) (fun d=>?_)
  ·have m1:0<=k * 7 % (ns.length:Int):=OL _ (by omega)
   have m2:k * 7 % (ns.length:Int) < (ns.length:Int):=Os _ d
   walk_at "rs"
   rw [hl]
   refine bZ hS (zQ m1 m2) ?_
   walk_at "rs"
   refine last _ ?_ ?_
   ·have b1:=E4 hbits (k * 7 % (ns.length:Int)).toNat
    have b2:MW (48271:Int)<=16:=by decide
    have b3:MW k<=20:=intBits_le_iff.mpr (by have:(2:Nat) ^ 20=1048576:=(by decide); omega)
    have b4:MW (7919:Int)<=13:=by decide
    exact MD (intBits_add_le (SF b1 b2) (SF b3 b4)) (by decide)
   ·unfold bC
    rw [if_neg c,if_pos d]
  ·walk_at "rs"
   refine last _ ?_ ?_
   ·have b3:MW k<=20:=intBits_le_iff.mpr (by have:(2:Nat) ^ 20=1048576:=(by decide); omega)
    have b4:MW (7919:Int)<=13:=by decide
    have b5:MW (5:Int)<=3:=by decide
    exact MD (intBits_add_le (SF b3 b4) b5) (by decide)
   ·unfold bC
    rw [if_neg c,if_neg d]
noncomputable def gu (_:Fg):Sp:=fun vs H Q _=>∃ n:Nat,vs=[.int n]/\n<=12/\Q (.int (KM.aS n:Nat)) H
noncomputable def gT (K:Fg):TS:=(ar (aK (tC (.int 1)) (ao 1))
 (ar (cR (fq (aa (ac 0) ag)) (ao 2) (aK (tOp (rI OP fun i j=>.int (i * j)) (ac 1) (tOp (rI0 fun i j=>.int (i + j)) (ac 2) (tC (.int 1)))) (ao 1)))
 (aJ (ac 1))))
theorem KM.fact_le {n m : Nat} (h : n ≤ m) : KM.aS n ≤ KM.aS m := by
  induction m with
  | zero => have : n = 0 := by omega
            subst this; exact LV _
  | succ m ih =>
    by_cases e : n = m + 1
    · subst e; exact LV _
    · have := ih (by omega)
      rw [KM.aS]
      exact MD this (Nat.le_mul_of_pos_right _ (TF m))
theorem Fp {n:Nat} (h:n<=12):KM.aS n<=479001600:=MD (KM.fact_le h) (by decide)
theorem vG (h:gu K vs H Q E):gT K { nx:=fun _ H'=>Q .non H',rt:=Q } (start ["_law_many","_law_found","_law_k"] vs) H:=by
 obtain ⟨n,rfl,hn,q⟩:=h
 show gT K _ [some _,none,none] _
 unfold gT
 walk_at "rd"
 refine gE n (by omega) (by omega) (by omega) (fun i σ H2=>∃ st,σ=[some (.int n),some (.int (KM.aS i:Nat)),st]/\H2=H) ⟨none,rfl,rfl⟩ ?_ ?_
 ·rintro i σ H2 hi ⟨st,rfl,rfl⟩
  have:=Fp (n:=i) (by omega)
  walk_at "rd"
  refine ⟨some (.int i),?_,rfl⟩
  rw [KM.aS,Si,show ((i:Int) + 1)=((i + 1:Nat):Int) by omega]
 ·rintro σ H2 ⟨st,rfl,rfl⟩
  walk_at "rd"
  exact q
noncomputable def iw (_:Fg):Sp:=fun vs H Q _=>∃ (c:Nat) (a:Addr) (ss:List Nat),vs=[.int c,.ref a]/\H a=some (.lst (aw ss))/\ss.sum<=c/\c<=12/\ss.length<=100/\∀ H',am H H'->Q (.int (KM.cr c ss:Nat)) H'
noncomputable def i7 (K:Fg):TS:=(ar (aK (au (gu K) [] E0 (aa (ac 0) ag)) (ao 2))
 (ar (cR (cp K (tOp qY (ac 1) (d8 (aa (tOp (rI0 fun i j=>.int (i - j)) (ac 0) (tCB (uu K) (aa (ac 1) ag))) ag)))) (ao 3) (aK (tOp (rI fO fun i j=>.int (i / j)) (ac 2) (au (gu K) [] E0 (aa (ac 3) ag))) (ao 2)))
 (aJ (ac 2))))
theorem yA (h:iw K vs H Q E):i7 K { nx:=fun _ H'=>Q .non H',rt:=Q } (start ["_law_cards","_law_sizes","_law_found","_law_many"] vs) H:=by
 obtain ⟨c,a,ss,rfl,ha,hs,hc,hl,q⟩:=h
 show i7 K _ [some _,some _,none,none] _
 unfold i7
 walk_at "rd"
 refine ⟨c,rfl,hc,?_⟩
 walk_at "rd"
 refine C1 (ns:=ss.map fun (s:Nat)=>((s:Nat):Int)) (SqL.of (by rw [<-dC]; exact ha)) ?_
 walk_at "rd"
 rw [iN,show (c:Int) - ((ss.sum:Nat):Int)=((c - ss.sum:Nat):Int) by omega]
 refine ⟨by simp [LY],fun b H1 hb s1 e1=>sk (s1 _ _ ha) e1 (by rw [bg,LY]; simp; omega) fun p H2 hp s2 e2=>?_⟩
 rw [gG] at e2
 generalize hR:ss++[c - ss.sum]=R at e2
 have hRs:R.sum=c:=by rw [<-hR,NH,Mv,Px]; omega
 have hpf:KM.cr c ss * KM.cX R=KM.aS c:=by rw [<-hR]; exact KM.nJ c ss hs
 have hdv:R.foldl (fun f s=>f / KM.aS s) (KM.aS c)=KM.cr c ss:=by rw [<-hpf]; exact KM.KC R _
 have s12:=s1.trans s2
 refine lK (aw R) (SqL.of e2) (fun i σ H3=>∃ st,σ=[some (.int c),some (.ref a),some (.int (((R.take i).foldl (fun f s=>f / KM.aS s) (KM.aS c):Nat):Int)),st]/\H3=H2) ⟨none,rfl,rfl⟩ (fun i σ H3 _ ⟨_,_,e⟩=>by subst e; exact SqL.of e2) ?_ ?_
 ·rintro i x σ H3 hx ⟨st,rfl,rfl⟩
  obtain ⟨z,hz,rfl⟩:=fE hx
  have hz12:z<=12:=by
   have:=i6 (LZ hz)
   omega
  walk_at "rd"
  refine ⟨z,rfl,hz12,?_⟩
  have h1:=KM.gF z
  have h2:=Fp hz12
  walk_at "rd"
  refine ⟨some (.int z),?_,rfl⟩
  rw [NP,hz,T2,<-Ux]
  rfl
 ·rintro σ H3 ⟨st,rfl,rfl⟩
  walk_at "rd"
  rw [bg,MF,hdv]
  exact q _ s12
noncomputable def lY (K:Fg):Sp:=fun vs H Q _=>∃ (a:Addr) (ns:List Int) (at_ most:Int),vs=[.ref a,.int at_,.int most]/\fQ K H a ns/\0<=at_/\at_<=1000/\1<=most/\
 ∀ (c:Nat) (ss:List Nat) (p q:Addr) (H':Hp),am H H'->H p=none->H q=none->H' p=some (.tup [.int c,.ref q])->H' q=some (.lst (aw ss))->rg c ss->((KM.cr c ss:Nat):Int)<=most->Q (.ref p) H'
theorem vH:∀ ss:List Nat,ss.sum<=0->KM.cr 0 ss=1
 | [],_=>rfl
 | a :: r,h=>by
  rw [Mv] at h
  have ha:a=0:=by omega
  subst ha
  rw [KM.cr,KM.jY,vH r (by omega)]
theorem uy (ss:List Nat) (j m:Nat):(aw ss).set j (.int (m:Int))=aw (ss.set j m):=by
 unfold aw
 rw [List.map_set]
theorem GX {ss:List Nat} {M:Int} (h:M∈ss.map fun (s:Nat)=>((s:Nat):Int)):∃ m:Nat,m∈ss/\M=(m:Int):=by
 obtain ⟨m,hm,e⟩:=Na.mp h
 exact ⟨m,hm,e.symm⟩
theorem GY {ss:List Nat} {j m:Nat} (h:ss[j]?=some m) (hm:0 < m):(ss.set j (m - 1)).sum + 1=ss.sum:=by
 obtain ⟨h1,h2⟩:=LU.mp h
 have e:ss.getD j 0=m:=by rw [Md,h]; rfl
 have:=KM.xf ss j h1 (by rw [e]; exact hm)
 rw [e] at this
 exact this
noncomputable def Cg (K:Fg):TS:=(ar (nW (bf (tOp (rI0 fun i j=>.bl (decide (j < i))) (au (iw K) [] E0 (aa (ac 3) (aa (ac 4) ag))) (ac 2))) (ar (bp (bf (tOp (rI0 fun i j=>.bl (decide (j < i))) (tCB (w9 K) (aa (ac 4) ag)) (tOp (rI0 fun i j=>.int (i - j)) (ac 3) (tCB (uu K) (aa (ac 4) ag))))) (aK (tOp (rI0 fun i j=>.int (i - j)) (tCB (w9 K) (aa (ac 4) ag)) (tC (.int 1))) (oW (ac 4) (tBM K "list" zT (ac 4) (aa (tCB (w9 K) (aa (ac 4) ag)) ag)) mP)) ba)
 (aK (tOp (rI0 fun i j=>.int (i - j)) (ac 3) (tC (.int 1))) (ao 3))))
 (aJ (dg (aa (ac 3) (aa (ac 4) ag)))))
theorem Fq {K:Fg} {H0 H:Hp} {Q:VK} {NX:St->Hp->Prop} {x y:V} {most:Int} {c:Nat} {q:Addr} {ss:List Nat} {dj:St} (s0:am H0 H) (hq0:H0 q=none) (hq:H q=some (.lst (aw ss))) (h1:1<=ss.length) (h5:ss.length<=5) (hs:ss.sum<=c) (hc:c<=12) (hm:1<=most)
  (g:∀ (c:Nat) (ss:List Nat) (p q:Addr) (H':Hp),am H0 H'->H0 p=none->H0 q=none->H' p=some (.tup [.int c,.ref q])->H' q=some (.lst (aw ss))->rg c ss->((KM.cr c ss:Nat):Int)<=most->Q (.ref p) H'):
  Cg K { nx:=NX,rt:=Q } (some x :: some y :: some (.int most) :: some (.int c) :: some (.ref q) :: dj) H:=by
 unfold Cg
 refine bu ?_
 refine CY (fun m σ H2=>∃ (c:Nat) (ss:List Nat),σ=(some x :: some y :: some (.int most) :: some (.int c) :: some (.ref q) :: dj)/\am H0 H2/\H2 q=some (.lst (aw ss))/\1<=ss.length/\ss.length<=5/\ss.sum<=c/\c<=12/\m=c) c ⟨c,ss,rfl,s0,hq,h1,h5,hs,hc,rfl⟩ ?_
 clear s0 hq h1 h5 hs hc
 rintro m σ H2 ⟨c,ss,rfl,s0,hq,h1,h5,hs,hc,hmc⟩
 have hmc':=hmc.symm
 subst hmc'
 walk_at "rd"
 refine ⟨c,q,ss,rfl,hq,hs,hc,by omega,fun H3 s3=>?_⟩
 have s3':=s0.trans s3
 have hq3:=s3 _ _ hq
 have hS:SqL K H3 q ((ss.map fun (s:Nat)=>((s:Nat):Int)).map V.int):=by rw [<-dC]; exact SqL.of hq3
 walk_at "rd"
 refine dq (fun hgt=>?_) (fun hle=>?_)
 ·have hc1:1<=c:=by
   rcases Pd c with z | z
   ·subst z
    rw [vH ss hs] at hgt
    omega
   ·exact z
  refine CW ?_
  walk_at "rd"
  have hne:(ss.map fun (s:Nat)=>((s:Nat):Int))≠[]:=by
   intro z
   have:=congrArg Ub z
   rw [LR] at this
   simp at this
   subst this
   simp at h1
  refine ⟨q,_,rfl,hS,hne,fun M hM hmax=>?_⟩
  obtain ⟨mx,hmx,rfl⟩:=GX hM
  have hle:=i6 hmx
  walk_at "rd"
  refine C1 hS ?_
  walk_at "rd"
  rw [iN]
  refine dq (fun hbig=>?_) (fun hsm=>?_)
  ·walk_at "rd"
   refine ⟨q,_,rfl,hS,hne,fun M2 hM2 hmax2=>?_⟩
   obtain rfl:M2=((mx:Nat):Int):=UY (hmax M2 hM2) (hmax2 _ hM)
   walk_at "rd"
   refine ⟨vi hq3,?_⟩
   walk_at "rd"
   refine ⟨q,_,rfl,hS,hne,fun M3 hM3 hmax3=>?_⟩
   obtain rfl:M3=((mx:Nat):Int):=UY (hmax M3 hM3) (hmax3 _ hM)
   obtain ⟨j,hj,hfirst⟩:=zV hM
   have hj':ss[j]?=some mx:=by
    rw [LX] at hj
    cases e:ss[j]? with
    | none=>rw [e] at hj; cases hj
    | some z=>rw [e] at hj; have hzz:((z:Nat):Int)=(mx:Int):=L9 hj; rw [show z=mx by omega]
   have hjl:j < ss.length:=(LU.mp hj').1
   walk_at "rd"
   refine ⟨q,_,_,j,rfl,rfl,by rw [<-dC]; exact hq3,hj,hfirst,by omega,?_⟩
   walk_at "rd"
   refine qX hq3 (j:=j) (by unfold ixN; rw [bg,if_pos (by omega),if_pos (by omega)]; simp) ?_
   walk_at "rd"
   have hss:=GY hj' (by omega)
   refine ⟨c - 1,by omega,c - 1,ss.set j (mx - 1),?_,s3'.upd hq0 _,?_,by rw [N4]; exact h1,by rw [N4]; exact h5,by omega,by omega,rfl⟩
   ·rw [show (c:Int) - 1=((c - 1:Nat):Int) by omega]
   ·rw [az,show ((mx:Nat):Int) - 1=((mx - 1:Nat):Int) by omega,uy]
  ·walk_at "rd"
   refine ⟨c - 1,by omega,c - 1,ss,?_,s3',hq3,h1,h5,?_,by omega,rfl⟩
   ·rw [show (c:Int) - 1=((c - 1:Nat):Int) by omega]
   ·by_cases e:ss.sum=c
    ·have z:mx=0:=by omega
     have all0:∀ s∈ss,s=0:=fun s hs'=>by
      have:=hmax _ (Tf (f:=fun (s:Nat)=>((s:Nat):Int)) hs')
      have:(s:Int)<=(mx:Int):=this
      omega
     have:ss.sum=0:=by
      clear hmax hM hq hq3 hS hne hgt hsm hmx hle h1 h5 hs e
      induction ss with
      | nil=>rfl
      | cons b r ih=>rw [Mv,all0 b Mc,ih fun s hs=>all0 s (Mh _ hs)]
     omega
    ·omega
 ·walk_at "rd"
  exact ⟨by simp [LY],fun p H4 hp s4 e4=>g c ss p q H4 (s3'.trans s4) (s3'.free hp) hq0 e4 (s4 _ _ hq3) ⟨hc,h1,h5,hs⟩ (by omega)⟩
end
section
variable {K:Fg} {vs:List V} {H:Hp} {Q:VK} {E:XK}
noncomputable def jI (_:Fg):Sp:=fun vs H Q _=>∃ (a:Addr) (ns:List Int),vs=[.ref a]/\H a=some (.lst (ns.map V.int))/\ns.length<=100000/\∀ H',am H H'->Q (.bl true) H'
noncomputable def iz (K:Fg):TS:=(ar (bp (d5 (tB (tCB (fP K) (aa (ac 0) (aa (tC (.ty "list")) ag))))) (aJ (tC (.bl false))) ba)
 (aJ (tOp (pj (SqL K) false) (bO (cp K (ac 0)) (fun _ _ _ _=>(ao 0)) (fun _ _ _ _=>(tOr (d5 (tB (tCB (fP K) (aa (ac 0) (aa (tC (.ty "int")) ag))))) (tB (tCB (fP K) (aa (ac 0) (aa (tC (.ty "bool")) ag)))))) (fun _ _ _ _=>(ac 0)) [none]) (d8 ag))))
theorem xi (h:jI K vs H Q E):iz K { nx:=fun _ H'=>Q .non H',rt:=Q } (start ["_law_found"] vs) H:=by
 obtain ⟨a,ns,rfl,e,hl,q⟩:=h
 show iz K _ [some _] _
 unfold iz
 walk_at "rd"
 refine eV (.lst e) (jW K) ?_
 walk_at "rd"
 refine dJ (ns.map V.int) (SqL.of e) (by rw [LR]; omega) (fun i acc _=>acc=[]) (fun _ _=>rfl) ?_ ?_
 ·intro p hp C s' H' fp i x acc H2 hx ⟨s2,e2,l2,r2⟩
  obtain ⟨z,hz,rfl⟩:=vE hx
  subst r2
  walk_at "rd"
  refine eV (.int _) (tR K) ?_
  walk_at "rd"
  refine eV (.int _) (qV K) ?_
  walk_at "rd"
  exact aX.skip s2 e2 l2 rfl
 ·intro p acc H2 hp s2 e2 r2
  subst r2
  walk_at "rd"
  refine ⟨by simp [LY],fun p3 H3 hp3 s3 e3=>?_⟩
  refine Ll (ns:=[]) (ms:=[]) (SqL.of (s3 _ _ e2)) (SqL.of e3) ?_
  exact q _ (s2.trans s3)
end
section
variable {K:Fg} {vs:List V} {H:Hp} {Q:VK} {E:XK}
noncomputable def kM (K:Fg):Sp:=fun vs H Q _=>∃ (a:Addr) (xs:List V) (ks:List MK) (s:Bool),vs=[.ref a]/\H a=some (.lst xs)/\Paired (b9 H) xs ks/\(∀ k∈ks,fS k=s)/\ks.length<=100000/\
 ∀ p H',H p=none->am H H'->H' p=some (.lst (aw (bc ks)))->Q (.ref p) H'
noncomputable def i8 (K:Fg):TS:=(ar (aK vt (ao 1))
 (ar (aK (d8 ag) (ao 2))
 (ar (cR (mR bw K (aa (ac 0) ag)) (gC K 2 (bI (ao 3) (bI (ao 4) gB))) (ar (bp (bf (tOp (GO true) (ac 4) (ac 1))) (aK (ac 3) (oW (ac 1) (ac 4) C7)) ba)
 (cV (tBM K "list" eO (ac 2) (aa (tOp zr (ac 1) (ac 4)) ag)))))
 (aJ (ac 2)))))
theorem yB (h:kM K vs H Q E):i8 K { nx:=fun _ H'=>Q .non H',rt:=Q } (start ["_law_signs","_law_first","_law_found","_law_place","_law_sign"] vs) H:=by
 obtain ⟨a,xs,ks,s,rfl,e,hk,hs,hl,q⟩:=h
 show i8 K _ [some _,none,none,none,none] _
 unfold i8
 have hlen:xs.length=ks.length:=M5 hk
 walk_at "rd"
 refine Cf s fun d H1 hd s1 dx1=>?_
 walk_at "rd"
 refine ⟨by simp [LY],fun f H2 hf s2 e2=>?_⟩
 walk_at "rd"
 refine xc (S:=bw) xs (SqL.of (s2 _ _ (s1 _ _ e))) (fun i σ H3=>∃ (u v:Option V),σ=[some (.ref a),some (.ref d),some (.ref f),u,v]/\am H H3/\Dx H3 d s (fX ks i) i/\H3 f=some (.lst (aw ((bc ks).take i)))) ?_ ?_ ?_ ?_
 ·exact ⟨none,none,rfl,s1.trans s2,(dx1.congr tU).same s2,e2⟩
 ·rintro i σ H3 hi ⟨u,v,rfl,s3,dx3,e3⟩
  exact SqL.of (s3 _ _ e)
 ·rintro i x T σ H3 H4 hx ⟨u,v,rfl,s3,dx3,e3⟩ hT s4 eT
  obtain ⟨k,hki,hkv⟩:=bS hk hx
  have hks:=hs k (LZ hki)
  have hi:i < ks.length:=(LU.mp hki).1
  refine fC (SqT.of eT) ?_
  have hkv4:=hkv.keep (s3.trans s4).keep
  have dx4:=dx3.same s4
  have e4:=s4 _ _ e3
  have s34:=s3.trans s4
  have hfd:=dx4.ne_lst e4
  have hdH:H d=none:=hd
  have hfH:H f=none:=s1.free hf
  refine fB fun NX hNX=>?_
  have key:∀ H5,am H H5->Dx H5 d s (fX ks (i + 1)) (i + 1)->H5 f=some (.lst (aw ((bc ks).take i)))->b9 H5 x k->NX [some (.ref a),some (.ref d),some (.ref f),some (.int (i:Nat)),some x] H5:=by
   intro H5 s5 dx5 e5 hk5
   refine hNX _ _ ?_
   walk_at "rd"
   refine ⟨vi e5,?_⟩
   walk_at "rd"
   refine Fe dx5 hk5 hks (mV (Bw hki)) ?_
   walk_at "rd"
   refine fR e5 (by rw [bg,NL,bX,LY]; omega) fun H6 o6 e6=>?_
   refine ⟨_,_,rfl,s5.off hfH o6,dx5.off e5 o6,?_⟩
   rw [e6,re hki,gG]
  walk_at "rd"
  refine GP dx4 hkv4 hks ?_
  walk_at "rd"
  by_cases hm:k∈ks.take i
  ·rw [mV hm]
   refine nE ?_
   exact key H4 s34 ((dx4.congr (vv hki hm)).le (OG i)) e4 hkv4
  ·rw [tT hm]
   refine oZ ?_
   walk_at "rd"
   refine KB dx4 hkv4 hks (by rw [LY]; omega) fun H5 o5 dx5=>?_
   have kp:=dx4.offK o5
   exact key H5 (s34.off hdH o5) (dx5.congr (vx hki hm)) (by rw [o5 _ hfd]; exact e4) (hkv4.keep kp)
 ·rintro σ H3 ⟨u,v,rfl,s3,dx3,e3⟩
  walk_at "rd"
  refine q _ _ (s1.free hf) s3 ?_
  rw [e3,Pk (by rw [bX,hlen]; exact LV _)]
end
section
variable {K:Fg} {vs:List V} {H:Hp} {Q:VK} {E:XK}
theorem lZ {ss:List Nat} {j z:Nat} (h:ss[j]?=some z):atI (aw ss) (j:Int)=some (.int (z:Int)):=cx (by unfold aw; rw [LX,h]; rfl)
end
noncomputable def j5:V->Bool
 | .non=>true
 | .bl _=>true
 | .int _=>true
 | _=>false
inductive iA (K:Fg) (H:Hp):Nat->V->V->Prop where
 | flat {n:Nat} {x:V} (h:j5 x=true):iA K H n x x
 | lst {n:Nat} {a b:Addr} {xs ys:List V} (e1:SqL K H a xs) (e2:SqL K H b ys) (hl:xs.length=ys.length) (h:∀ (i:Nat) (x y:V),xs[i]?=some x->ys[i]?=some y->iA K H n x y):iA K H (n + 1) (.ref a) (.ref b)
 | tup {n:Nat} {a b:Addr} {xs ys:List V} (e1:SqT K H a xs) (e2:SqT K H b ys) (hl:xs.length=ys.length) (h:∀ (i:Nat) (x y:V),xs[i]?=some x->ys[i]?=some y->iA K H n x y):iA K H (n + 1) (.ref a) (.ref b)
noncomputable def rh (K:Fg) (neg:Bool):R2:=fun x y H Q=>∃ n,n<=30/\iA K H n x y/\Q (.bl (!neg)) H
section
variable {K:Fg} {H:Hp} {Q:VK}
theorem xj {x y:V} (n:Nat) (hn:n<=30) (h:iA K H n x y) (q:Q (.bl false) H):rh K true x y H Q:=⟨n,hn,h,q⟩
theorem vI {a b:Addr} {xs:List V} (e1:SqL K H a xs) (e2:SqL K H b xs) (hf:∀ x∈xs,j5 x=true):iA K H 1 (.ref a) (.ref b):=
 .lst e1 e2 rfl fun i x y hx hy=>by
  rw [hx] at hy
  cases hy
  exact .flat (hf x (LZ hx))
theorem Dc {a b:Addr} {xs:List V} (e1:SqT K H a xs) (e2:SqT K H b xs) (hf:∀ x∈xs,j5 x=true):iA K H 1 (.ref a) (.ref b):=
 .tup e1 e2 rfl fun i x y hx hy=>by
  rw [hx] at hy
  cases hy
  exact .flat (hf x (LZ hx))
theorem yq (ns:List Int):∀ x∈ns.map V.int,j5 x=true:=fun x hx=>by obtain ⟨n,_,rfl⟩:=Na.mp hx; rfl
end
section
variable {g:CF TG} {tt:CF TT} {te:CF TE} {σ₀:St} {Q:VK} {H:Hp} {K:Fg}
theorem Jk {S:Src} {a:Addr} (xs:List V) (hx:S.Sq K H a xs) (kx:∀ H',am H H'->S.Sq K H' a xs) (hz:xs.length<=1000000) (R:Nat->List V->Hp->Prop) (h0:∀ H',am H H'->R 0 [] H')
  (hs:∀ p,H p=none->∀ C s' H' fp,∀ i x T acc H2 H3,xs[i]?=some x->aX H p R i acc H2->H2 T=none->am H2 H3->H3 T=some (.tup [.int i,x])->H3 p=some (.lst acc)->g C s' H' fp (.ref T) σ₀ H3 fun σ2 H4=>tt C s' H' fp σ2 H4 fun b H5=>if b=true then te C s' H' fp σ2 H5 fun y H6=>H6 p=some (.lst acc)/\aX H p R (i + 1) (acc++[y]) (upd H6 p (.lst (acc++[y]))) else aX H p R (i + 1) acc H5)
  (hd:∀ p acc H2,H p=none->am H H2->H2 p=some (.lst acc)->R xs.length acc H2->Q (.ref p) H2):
  ∃ a' xs',[V.ref a]=[.ref a']/\S.Sq K H a' xs'/\∀ p,H p=none->∃ W:Nat->Nat->List V->Hp->Prop,(∃ m,W 0 m [] (upd H p (.lst [])))/\∀ C s' H' fp,ca (Ite S K a') (g C s' H' fp) (tt C s' H' fp) (te C s' H' fp) σ₀ p Q W:=
 ⟨a,xs,rfl,hx,fun p hp=>yg (aX H p R) ⟨aR hp _,az,LV _,h0 _ (aR hp _)⟩ (fun i acc H2 _ c=>⟨c.2.1,c.2.2.1⟩) (fun i acc H2 _ c=>kx _ c.1) (by rw [LY]; omega)
  (fun C s' H' fp i x T acc H2 hi c hT=>hs p hp C s' H' fp i x T acc H2 _ hi c hT (aR hT _) az (by rw [aM (be c.2.1 hT)]; exact c.2.1)) fun acc H2 c=>hd p acc H2 hp c.1 c.2.1 c.2.2.2⟩
end
section
variable {K:Fg} {vs:List V} {H:Hp} {Q:VK} {E:XK}
noncomputable def eW (K:Fg):Sp:=fun vs H Q _=>∃ (a:Addr) (xs:List V) (ks:List MK) (s:Bool),vs=[.ref a]/\H a=some (.lst xs)/\Paired (b9 H) xs ks/\(∀ k∈ks,fS k=s)/\ks.length<=100000/\
 ∀ p H',H p=none->am H H'->H' p=some (.lst (aw (bc ks)))->Q (.ref p) H'
noncomputable def fw (K:Fg):TS:=(ar (aK vt (ao 1))
 (ar (cR (mR bw K (aa (ac 0) ag)) (gC K 2 (bI (ao 2) (bI (ao 3) gB))) (cV (tXM Ac (ac 1) (aa (ac 3) (aa (ac 2) ag)))))
 (aJ (bO (cp K (ac 0)) (fun _ _ _ _=>(ao 0)) (fun _ _ _ _=>bL) (fun _ _ _ _=>(tOp zr (ac 1) (ac 0))) [none,some 1]))))
theorem rj (h:eW K vs H Q E):fw K { nx:=fun _ H'=>Q .non H',rt:=Q } (start ["marks","firsts","thing","mark"] vs) H:=by
 obtain ⟨a,xs,ks,s,rfl,e,hk,hs,hl,q⟩:=h
 show fw K _ [some _,none,none,none] _
 unfold fw
 have hlen:xs.length=ks.length:=M5 hk
 walk_at "rd"
 refine Cf s fun d H1 hd s1 dx1=>?_
 walk_at "rd"
 refine xc (S:=bw) xs (SqL.of (s1 _ _ e)) (fun i σ H3=>∃ (u v:Option V),σ=[some (.ref a),some (.ref d),u,v]/\am H H3/\Dx H3 d s (fX ks i) i) ?_ ?_ ?_ ?_
 ·exact ⟨none,none,rfl,s1,dx1.congr tU⟩
 ·rintro i σ H3 hi ⟨u,v,rfl,s3,dx3⟩
  exact SqL.of (s3 _ _ e)
 ·rintro i x T σ H3 H4 hx ⟨u,v,rfl,s3,dx3⟩ hT s4 eT
  obtain ⟨k,hki,hkv⟩:=bS hk hx
  have hks:=hs k (LZ hki)
  have hi:i < ks.length:=(LU.mp hki).1
  refine fC (SqT.of eT) ?_
  have s34:=s3.trans s4
  have hkv4:=hkv.keep s34.keep
  have dx4:=dx3.same s4
  walk_at "rd"
  refine LN ?_
  walk_at "rd"
  refine ⟨⟨d,s,_,_,rfl,dx4⟩,?_⟩
  walk_at "rd"
  refine Jg dx4 hkv4 hks (by rw [LY]; omega) (fun w hw=>?_) (fun hn H5 o5 dx5=>?_)
  ·have hm:k∈ks.take i:=by
    by_cases q:k∈ks.take i
    ·exact q
    ·rw [tT q] at hw; cases hw
   exact ⟨_,_,rfl,s34,(dx4.congr (vv hki hm)).le (OG i)⟩
  ·have hm:k∉ks.take i:=fun q=>by rw [mV q] at hn; cases hn
   exact ⟨_,_,rfl,s34.off hd o5,dx5.congr (vx hki hm)⟩
 ·rintro σ H3 ⟨u,v,rfl,s3,dx3⟩
  walk_at "rd"
  refine dJ xs (SqL.of (s3 _ _ e)) (by omega) (fun i acc _=>acc=aw ((bc ks).take i)) (fun H' _=>rfl) ?_ ?_
  ·rintro p hp C s' H' fp i x acc H4 hx ⟨s4,e4,l4,rfl⟩
   obtain ⟨k,hki,hkv⟩:=bS hk hx
   have hks:=hs k (LZ hki)
   have hi:i < ks.length:=(LU.mp hki).1
   walk_at "rd"
   refine Fe (dx3.same s4) (hkv.keep (s3.trans s4).keep) hks (mV (by rw [hlen,MF]; exact LZ hki)) ?_
   refine aX.put hp (fun _ _ _ _ r _=>r) s4 e4 l4 ?_
   rw [re hki,gG]
  ·rintro p acc H4 hp s4 e4 rfl
   refine q _ _ (s3.free hp) (s3.trans s4) ?_
   rw [e4,Pk (by rw [bX,hlen]; exact LV _)]
noncomputable def i9 (w:List Nat) (h:Int):List Int:=pK (w.map fun (s:Nat)=>((s:Nat):Int)) h w.length
noncomputable def Ak (ns:List Int):MK:=.inr (ns.map fun n=>(Od (some n):IK))
theorem GZ (a b:List Int) (e:Ak a=Ak b):a=b:=by
 have h:a.map (fun n=>(Od (some n):IK))=b.map (fun n=>(Od (some n):IK)):=Ow e
 clear e
 induction a generalizing b with
 | nil=>cases b with
  | nil=>rfl
  | cons _ _=>simp at h
 | cons x r ih=>cases b with
  | nil=>simp at h
  | cons y t=>
   rw [Mo,Mo] at h
   injection h with h1 h2
   injection h1 with h1
   injection h1 with h1
   rw [h1,ih t h2]
noncomputable def ja (ws:List (List Nat)) (h:Int):List Nat:=bc (ws.map fun w=>i9 w h)
theorem BC (ws:List (List Nat)) (h:Int):bc (ws.map fun w=>Ak (i9 w h))=ja ws h:=by
 unfold ja
 rw [<-tS (f:=Ak) GZ,NQ]
 rfl
theorem bF.to' {H H':Hp} {p:Addr} {ws:List (List Nat)} (d:bF H p ws) (k:dR H H') (e:∀ rs:List Addr,H p=some (.lst (rs.map V.ref))->H' p=some (.lst (rs.map V.ref))):bF H' p ws:=by
 obtain ⟨rs,h1,h2⟩:=d
 exact ⟨rs,e rs h1,j0 h2 fun a xs e=>k _ _ e⟩
theorem bF.same' {H H':Hp} {p:Addr} {ws:List (List Nat)} (d:bF H p ws) (s:am H H'):bF H' p ws:=d.to' s.keep fun rs e=>s _ _ e
theorem rk {rs:List Addr} {i:Nat} {x:V} (hx:(rs.map V.ref)[i]?=some x):∃ a,rs[i]?=some a/\x=.ref a:=by
 rw [LX] at hx
 cases e:rs[i]? with
 | none=>rw [e] at hx; cases hx
 | some z=>rw [e] at hx; exact ⟨z,rfl,(L9 hx).symm⟩
noncomputable def kN (K:Fg):Sp:=fun vs H Q _=>∃ (a:Addr) (ws:List (List Nat)) (h:Int),vs=[.ref a,.int h]/\bF H a ws/\(∀ w∈ws,w.length<=1000)/\ws.length<=100000/\
 ∀ p H',H p=none->am H H'->H' p=some (.lst (aw (ja ws h)))->Q (.ref p) H'
theorem Fr {H:Hp} {xs:List V} {ks:List MK} {x:V} {k:MK} (h:Paired (b9 H) xs ks) (q:b9 H x k):Paired (b9 H) (xs++[x]) (ks++[k]):=by
 induction h with
 | nil=>exact .cons q .nil
 | cons r _ ih=>exact .cons r ih
noncomputable def jb (K:Fg):TS:=(aJ (au (eW K) [] E0 (aa (bO (cp K (ac 0)) (fun _ _ _ _=>(ao 0)) (fun _ _ _ _=>bL) (fun _ _ _ _=>(au (ip K) [] E0 (aa (ac 0) (aa (ac 1) ag)))) [none,some 1]) ag)))
theorem yC (h:kN K vs H Q E):jb K { nx:=fun _ H'=>Q .non H',rt:=Q } (start ["deals","hand"] vs) H:=by
 obtain ⟨a,ws,h,rfl,hD,hw,hl,q⟩:=h
 show jb K _ [some _,some _] _
 unfold jb
 obtain ⟨rs,e,hr⟩:=id hD
 have hlr:rs.length=ws.length:=M5 hr
 walk_at "rd"
 refine dJ (rs.map V.ref) (SqL.of e) (by rw [LR]; omega) (fun i acc H'=>Paired (b9 H') acc ((ws.take i).map fun w=>Ak (i9 w h))) (fun H' _=>.nil) ?_ ?_
 ·rintro p hp C s' H' fp i x acc H2 hx ⟨s2,e2,l2,r2⟩
  obtain ⟨b,hb,rfl⟩:=rk hx
  obtain ⟨w,hwi,ew⟩:=bS hr hb
  walk_at "rd"
  refine ⟨b,w.map fun (s:Nat)=>((s:Nat):Int),h,rfl,by rw [<-dC]; exact SqT.of (s2 _ _ ew),by rw [LR]; exact hw w (LZ hwi),fun r H3 s3 e3=>?_⟩
  rw [LR] at e3
  refine aX.put hp (fun _ _ _ _ r k=>mU r k) (s2.trans s3) (s3 _ _ e2) l2 ?_
  rw [bH hwi,Ml]
  exact Fr (mU r2 s3.keep) (Je (ns:=i9 w h) e3)
 ·rintro p acc H2 hp s2 e2 r2
  rw [LR,hlr,MF] at r2
  walk_at "rd"
  refine ⟨p,acc,_,true,rfl,e2,r2,?_,by rw [LR]; omega,fun p3 H3 hp3 s3 e3=>?_⟩
  ·intro k hk
   obtain ⟨w,_,rfl⟩:=Na.mp hk
   rfl
  ·rw [BC] at e3
   exact q _ _ (s2.free hp3) (s2.trans s3) e3
end
noncomputable def IC:List V->Hp->VK->Prop:=fun xs H Q=>∃ n:Nat,xs=[.int (n:Int)]/\n<=1000000/\New H (.rng 0 (n:Int)) fun p H2=>Q (.ref p) H2
noncomputable def zt:List V->Hp->VK->Prop:=fun xs H Q=>∃ (p:Addr) (n:Nat),xs=[.ref p]/\H p=some (.rng 0 (n:Int))/\n<=1000000/\New H (.lst ((Mn n).map fun (i:Nat)=>V.int ((i:Nat):Int))) fun p H2=>Q (.ref p) H2
noncomputable def ID (ta:TA):TE:=tCB zt (aa (tCB IC ta) ag)
theorem Lq {H:Hp} {Q:VK} {n:Nat} (hn:n<=1000000) (h:New H (.lst ((Mn n).map fun (i:Nat)=>V.int ((i:Nat):Int))) fun p H2=>Q (.ref p) H2):New H (.rng 0 (n:Int)) fun p H2=>zt [.ref p] H2 Q:=
 fun p H' _ s e=>⟨p,n,rfl,e,hn,fun l H2 hl s2 e2=>h l H2 (s.free hl) (s.trans s2) e2⟩
noncomputable def su (H:Hp) (ts:List Addr) (ps:List (V×V)):Prop:=Paired (fun (t:Addr) (p:V×V)=>H t=some (.tup [p.1,p.2])) ts ps
noncomputable def De (S1 S2:Src) (K:Fg) (ta:TA):TE:=fun σ H Q=>ta σ H fun vs H1=>∃ a b xs ys,vs=[.ref a,.ref b]/\S1.Sq K H1 a xs/\S2.Sq K H1 b ys/\xs.length<=1000000/\
 ∀ p H',H1 p=none->am H1 H'->(∃ ts:List Addr,H' p=some (.lst (ts.map V.ref))/\su H' ts (xs.zip ys))->Q (.ref p) H'
section
variable {σ:St} {H:Hp} {Q:VK} {K:Fg}
theorem KH {ta:TA} (h:ta σ H fun vs H1=>∃ n:Nat,vs=[.int (n:Int)]/\n<=1000000/\New H1 (.rng 0 (n:Int)) fun p H2=>zt [.ref p] H2 Q):ID ta σ H Q:=h
theorem KI {S1 S2:Src} {ta:TA} (h:ta σ H fun vs H1=>∃ a b xs ys,vs=[.ref a,.ref b]/\S1.Sq K H1 a xs/\S2.Sq K H1 b ys/\xs.length<=1000000/\
 ∀ p H',H1 p=none->am H1 H'->(∃ ts:List Addr,H' p=some (.lst (ts.map V.ref))/\su H' ts (xs.zip ys))->Q (.ref p) H'):De S1 S2 K ta σ H Q:=h
end
end L2
section
namespace KF
noncomputable def eX (ps:List Nat):Prop:=∀ x y:Nat,ps[x]?=some y->y<=x
inductive br (ps:List Nat):Nat->Nat->Prop where
 | stop {x:Nat} (h:ps[x]?=some x):br ps x x
 | step {x y r:Nat} (h:ps[x]?=some y) (hl:y < x) (t:br ps y r):br ps x r
theorem br.inj {ps:List Nat} {x r r':Nat} (a:br ps x r) (b:br ps x r'):r=r':=by
 induction a with
 | stop h=>cases b with
  | stop _=>rfl
  | step h' hl _=>rw [h] at h'; cases h'; omega
 | step h hl _ ih=>cases b with
  | stop h'=>rw [h] at h'; cases h'; omega
  | step h' _ t=>rw [h] at h'; cases h'; exact ih t
theorem eX.root {ps:List Nat} (f:eX ps):∀ x,x < ps.length->∃ r,br ps x r:=by
 intro x
 induction x using Nat.strongRecOn with
 | ind x ih=>
  intro hx
  have e:=LS hx
  have hy:=f x _ e
  rcases P0 hy with h | h
  ·obtain ⟨r,hr⟩:=ih _ h (by omega)
   exact ⟨r,.step e h hr⟩
  ·rw [h] at e
   exact ⟨x,.stop e⟩
theorem br.le {ps:List Nat} {x r:Nat} (a:br ps x r):r<=x:=by
 induction a with
 | stop _=>exact LV _
 | step _ hl _ ih=>omega
theorem br.self {ps:List Nat} {x r:Nat} (a:br ps x r):ps[r]?=some r:=by
 induction a with
 | stop h=>exact h
 | step _ _ _ ih=>exact ih
theorem br.lt {ps:List Nat} {x r:Nat} (a:br ps x r):x < ps.length:=by
 cases a with
 | stop h=>exact (LU.mp h).1
 | step h _ _=>exact (LU.mp h).1
theorem eX.range (n:Nat):eX (Mn n):=fun x y h=>by
 obtain ⟨h1,h2⟩:=LU.mp h
 rw [Rb] at h2
 omega
theorem br.range {n x:Nat} (h:x < n):br (Mn n) x x:=.stop (by rw [MS h])
theorem KJ {ps:List Nat} {e g y z:Nat} (h:(ps.set e g)[y]?=some z):(y=e/\z=g)\/(y≠e/\ps[y]?=some z):=by
 rw [OT] at h
 by_cases q:e=y
 ·rw [if_pos q] at h
  split at h
  ·cases h; exact .inl ⟨q.symm,rfl⟩
  ·cases h
 ·rw [if_neg q] at h
  exact .inr ⟨fun z=>q z.symm,h⟩
theorem ol {ps:List Nat} {e g y:Nat} (h:y≠e):(ps.set e g)[y]?=ps[y]?:=by
 rw [OT,if_neg (fun z=>h z.symm)]
theorem kt {ps:List Nat} {e g:Nat} (h:e < ps.length):(ps.set e g)[e]?=some g:=by
 rw [OT,if_pos rfl,if_pos h]
theorem eX.set {ps:List Nat} (f:eX ps) {e g:Nat} (h:g<=e):eX (ps.set e g):=fun x y q=>by
 rcases KJ q with ⟨rfl,rfl⟩ | ⟨_,q⟩
 ·exact h
 ·exact f x y q
theorem br.halve {ps:List Nat} (f:eX ps) {e p g:Nat} (h1:ps[e]?=some p) (h2:ps[p]?=some g) {y r:Nat} (a:br ps y r):br (ps.set e g) y r:=by
 have he:e < ps.length:=(LU.mp h1).1
 induction a with
 | @stop x h=>
  by_cases q:x=e
  ·subst q
   rw [h] at h1
   cases h1
   rw [h] at h2
   cases h2
   exact .stop (kt he)
  ·exact .stop (by rw [ol q]; exact h)
 | @step x y r h hl t ih=>
  by_cases q:x=e
  ·subst q
   rw [h] at h1
   cases h1
   have e1:(ps.set x g)[p]?=some g:=by rw [ol (by omega)]; exact h2
   cases ih with
   | stop h'=>
    rw [e1] at h'
    cases h'
    exact .step (kt he) hl (.stop e1)
   | step h' hl' t'=>
    rw [e1] at h'
    cases h'
    exact .step (kt he) (by omega) t'
  ·exact .step (by rw [ol q]; exact h) hl ih
theorem br.link {ps:List Nat} {M m:Nat} (hM:ps[M]?=some M) (hm:ps[m]?=some m) (hle:m<=M) {y r:Nat} (a:br ps y r):br (ps.set M m) y (if r=M then m else r):=by
 have hMl:M < ps.length:=(LU.mp hM).1
 induction a with
 | @stop x h=>
  by_cases q:x=M
  ·subst q
   rw [if_pos rfl]
   rcases P0 hle with l | l
   ·exact .step (kt hMl) l (.stop (by rw [ol (by omega)]; exact hm))
   ·subst l
    exact .stop (kt hMl)
  ·rw [if_neg q]
   exact .stop (by rw [ol q]; exact h)
 | @step x y r h hl t ih=>
  have q:x≠M:=by
   intro q
   subst q
   rw [h] at hM
   cases hM
   omega
  exact .step (by rw [ol q]; exact h) hl ih
inductive eh (P:Nat->Nat->Prop):Nat->Nat->Prop where
 | refl (x:Nat):eh P x x
 | one {x y:Nat} (h:P x y):eh P x y
 | symm {x y:Nat} (h:eh P x y):eh P y x
 | trans {x y z:Nat} (h:eh P x y) (t:eh P y z):eh P x z
theorem eh.mono {P P':Nat->Nat->Prop} (h:∀ x y,P x y->P' x y) {x y:Nat} (c:eh P x y):eh P' x y:=by
 induction c with
 | refl x=>exact .refl x
 | one q=>exact .one (h _ _ q)
 | symm _ ih=>exact .symm ih
 | trans _ _ a b=>exact .trans a b
theorem eh.keeps {P:Nat->Nat->Prop} {α:Type} {f:Nat->α} (h:∀ x y,P x y->f x=f y) {x y:Nat} (c:eh P x y):f x=f y:=by
 induction c with
 | refl x=>rfl
 | one q=>exact h _ _ q
 | symm _ ih=>exact ih.symm
 | trans _ _ a b=>exact a.trans b
noncomputable def lw (n:Nat) (vs:List (List Nat)) (x y:Nat):Prop:=∃ v∈vs,x < n/\v[x]?=some y
structure rl (n:Nat) (P:Nat->Nat->Prop) (r:List Nat):Prop where
 len:r.length=n
 le:∀ i x:Nat,r[i]?=some x->x<=i
 conn:∀ i x:Nat,r[i]?=some x->eh P i x
 same:∀ i j:Nat,i < n->j < n->eh P i j->r[i]?=r[j]?
structure dD (n:Nat) (P:Nat->Nat->Prop) (ps:List Nat):Prop where
 len:ps.length=n
 forest:eX ps
 conn:∀ x r,br ps x r->eh P x r
 same:∀ x y,P x y->∃ r,br ps x r/\br ps y r
theorem dD.join {n:Nat} {P:Nat->Nat->Prop} {ps r:List Nat} (t:dD n P ps) (hl:r.length=n) (hr:∀ i x:Nat,r[i]?=some x->br ps i x):rl n P r where
 len:=hl
 le:=fun i x h=>(hr i x h).le
 conn:=fun i x h=>t.conn _ _ (hr i x h)
 same:=by
  have key:∀ i j,eh P i j->∀ x,(br ps i x↔br ps j x):=by
   intro i j c
   induction c with
   | refl x=>intro x; exact Iff.rfl
   | one q=>
    intro x
    obtain ⟨r,h1,h2⟩:=t.same _ _ q
    exact ⟨fun a=>by rw [a.inj h1]; exact h2,fun a=>by rw [a.inj h2]; exact h1⟩
   | symm _ ih=>intro x; exact (ih x).symm
   | trans _ _ a b=>intro x; exact (a x).trans (b x)
  intro i j hi hj c
  have e1:=LS (l:=r) (i:=i) (by rw [hl]; exact hi)
  have e2:=LS (l:=r) (i:=j) (by rw [hl]; exact hj)
  have q1:=(key i j c _).mp (hr _ _ e1)
  rw [e1,e2,q1.inj (hr _ _ e2)]
theorem dD.start (n:Nat):dD n (fun _ _=>False) (Mn n) where
 len:=MU
 forest:=eX.range n
 conn:=fun x r h=>by
  have hx:x < n:=by have:=h.lt; rw [MU] at this; exact this
  rw [h.inj (br.range hx)]
  exact .refl x
 same:=fun _ _ h=>h.elim
theorem dD.moved {n:Nat} {P:Nat->Nat->Prop} {ps ps':List Nat} (t:dD n P ps) (f:eX ps') (hl:ps'.length=n) (h:∀ y r,br ps y r->br ps' y r):dD n P ps' where
 len:=hl
 forest:=f
 conn:=fun x r a=>by
  obtain ⟨r',b⟩:=t.forest.root x (by rw [t.len,<-hl]; exact a.lt)
  rw [a.inj (h _ _ b)]
  exact t.conn _ _ b
 same:=fun x y q=>by
  obtain ⟨r,h1,h2⟩:=t.same x y q
  exact ⟨r,h _ _ h1,h _ _ h2⟩
theorem dD.link {n:Nat} {P P':Nat->Nat->Prop} {ps:List Nat} {a b ra rb M m:Nat} (t:dD n P ps) (ha:br ps a ra) (hb:br ps b rb) (hM:(M=ra/\m=rb)\/(M=rb/\m=ra)) (hle:m<=M)
  (h1:∀ x y,P x y->P' x y) (h2:∀ x y,P' x y->P x y\/(x=a/\y=b)) (h3:P' a b):dD n P' (ps.set M m):=by
 have sM:ps[M]?=some M:=by
  rcases hM with ⟨rfl,_⟩ | ⟨rfl,_⟩
  ·exact ha.self
  ·exact hb.self
 have sm:ps[m]?=some m:=by
  rcases hM with ⟨_,rfl⟩ | ⟨_,rfl⟩
  ·exact hb.self
  ·exact ha.self
 have cMm:eh P' M m:=by
  have c1:eh P' a ra:=(t.conn _ _ ha).mono h1
  have c2:eh P' b rb:=(t.conn _ _ hb).mono h1
  rcases hM with ⟨rfl,rfl⟩ | ⟨rfl,rfl⟩
  ·exact .trans (.symm c1) (.trans (.one h3) c2)
  ·exact .trans (.symm c2) (.trans (.symm (.one h3)) c1)
 have rt:∀ {y r:Nat},br ps y r->br (ps.set M m) y (if r=M then m else r):=fun q=>br.link sM sm hle q
 refine ⟨by rw [N4]; exact t.len,t.forest.set hle,fun x r q=>?_,fun x y q=>?_⟩
 ·obtain ⟨r',h⟩:=t.forest.root x (by have:=q.lt; rw [N4] at this; exact this)
  rw [q.inj (rt h)]
  have c:eh P' x r':=(t.conn _ _ h).mono h1
  split
  ·rename_i e
   rw [e] at c
   exact .trans c cMm
  ·exact c
 ·rcases h2 x y q with q | ⟨rfl,rfl⟩
  ·obtain ⟨r,q1,q2⟩:=t.same x y q
   exact ⟨_,rt q1,rt q2⟩
  ·refine ⟨m,?_,?_⟩
   ·have:=rt ha
    rcases hM with ⟨e1,e2⟩ | ⟨e1,e2⟩
    ·rw [if_pos e1.symm] at this; exact this
    ·by_cases z:ra=M
     ·rw [if_pos z] at this; exact this
     ·rw [if_neg z,<-e2] at this; exact this
   ·have:=rt hb
    rcases hM with ⟨e1,e2⟩ | ⟨e1,e2⟩
    ·by_cases z:rb=M
     ·rw [if_pos z] at this; exact this
     ·rw [if_neg z,<-e2] at this; exact this
    ·rw [if_pos e1.symm] at this; exact this
end KF
end
namespace L2
open PySem PyProof.Rows
section
variable {K:Fg} {vs:List V} {H:Hp} {Q:VK} {E:XK}
open KF
section
variable {g:CF TG} {tt:CF TT} {te:CF TE} {σ₀:St} {Q:VK} {H:Hp} {K:Fg}
theorem Fs {j:Int} (n:Nat) (hn:j.toNat=n) (hj:j<=1000000) (hj0:-1000000<=j) (R:Addr->Nat->List V->Hp->Prop) (h0:∀ p H',H p=none->am H H'->H' p=some (.lst [])->R p 0 [] H')
  (hp:∀ p i acc H',R p i acc H'->H' p=some (.lst acc)/\acc.length<=i)
  (hs:∀ p,H p=none->∀ C s' H' fp,∀ i acc H2,i < n->R p i acc H2->g C s' H' fp (.int i) σ₀ H2 fun σ2 H3=>tt C s' H' fp σ2 H3 fun b H4=>if b=true then te C s' H' fp σ2 H4 fun y H5=>H5 p=some (.lst acc)/\R p (i + 1) (acc++[y]) (upd H5 p (.lst (acc++[y]))) else R p (i + 1) acc H4)
  (hd:∀ p acc H2,H p=none->R p n acc H2->Q (.ref p) H2):
  ∃ j':Int,[V.int j]=[.int j']/\-(2 ^ 62)<=j'/\j' < 2 ^ 62/\∀ p,H p=none->∃ W:Nat->Nat->List V->Hp->Prop,(∃ m,W 0 m [] (upd H p (.lst [])))/\∀ C s' H' fp,ca (Itr 0 j'.toNat) (g C s' H' fp) (tt C s' H' fp) (te C s' H' fp) σ₀ p Q W:=by
 refine ⟨j,rfl,by omega,by omega,fun p hpn=>?_⟩
 subst hn
 exact pi (lo:=0) (R p) (h0 p _ hpn (aR hpn _) az) (fun i acc H2 _ c=>hp p i acc H2 c) (by rw [LY]; omega) (fun C s' H' fp i acc H2 hi c=>by rw [RV]; exact hs p hpn C s' H' fp i acc H2 hi c) fun acc H2 c=>hd p acc H2 hpn c
end
theorem xk {n j:Nat} (h:j < n):ixN n (j:Int)=some j:=by unfold ixN; rw [if_pos (by omega),if_pos (by omega)]; simp
theorem Df (n:Nat):(Mn n).map (fun (i:Nat)=>V.int ((i:Nat):Int))=aw (Mn n):=rfl
noncomputable def ku (_:Fg):Sp:=fun vs H Q _=>∃ (p:Addr) (ps:List Nat) (x r:Nat),vs=[.ref p,.int (x:Int)]/\H p=some (.lst (aw ps))/\eX ps/\br ps x r/\
 ∀ H' ps',Off p H H'->H' p=some (.lst (aw ps'))->ps'.length=ps.length->eX ps'->(∀ y s,br ps y s->br ps' y s)->Q (.int (r:Int)) H'
noncomputable def pL (K:Fg):TS:=(ar (aK (ac 1) (ao 2))
 (ar (nW (bf (tOp rNe (tOp (cS K) (ac 0) (ac 2)) (ac 2))) (ar (aK (tOp (cS K) (ac 0) (tOp (cS K) (ac 0) (ac 2))) (oW (ac 0) (ac 2) mP))
 (aK (tOp (cS K) (ac 0) (ac 2)) (ao 2))))
 (aJ (ac 2))))
theorem G0 {p:Addr} {H:Hp}:Off p H H:=fun _ _=>rfl
theorem rn {p:Addr} {H H1 H2:Hp} (a:Off p H H1) (b:Off p H1 H2):Off p H H2:=fun c hc=>(b c hc).trans (a c hc)
theorem Ft (h:ku K vs H Q E):pL K { nx:=fun _ H'=>Q .non H',rt:=Q } (start ["points","thing","end"] vs) H:=by
 obtain ⟨p,ps,x,r,rfl,e,hf,hr,q⟩:=h
 show pL K _ [some _,some _,none] _
 unfold pL
 walk_at "rd"
 refine CY (fun m σ H1=>∃ (ps':List Nat),σ=[some (.ref p),some (.int (x:Int)),some (.int (m:Int))]/\Off p H H1/\H1 p=some (.lst (aw ps'))/\ps'.length=ps.length/\eX ps'/\(∀ y s,br ps y s->br ps' y s)/\br ps' m r) x ⟨ps,rfl,G0,e,rfl,hf,fun _ _ h=>h,hr⟩ ?_
 rintro m σ H1 ⟨ps',rfl,o1,e1,hl,hf1,hk,hr1⟩
 have hm:=hr1.lt
 obtain ⟨y,hy⟩:∃ y,ps'[m]?=some y:=⟨_,LS hm⟩
 walk_at "rd"
 refine bZ (SqL.of e1) (lZ hy) ?_
 walk_at "rd"
 refine zU (fun c=>?_) (fun c=>?_)
 ·have hym:y < m:=by have:=hf1 m y hy; omega
  obtain ⟨g,hg⟩:∃ g,ps'[y]?=some g:=⟨_,LS (by omega)⟩
  have hgy:=hf1 y g hg
  refine CW ?_
  walk_at "rd"
  refine bZ (SqL.of e1) (lZ hy) ?_
  walk_at "rd"
  refine bZ (SqL.of e1) (lZ hg) ?_
  walk_at "rd"
  refine qX e1 (xk (by rw [bg]; exact hm)) ?_
  rw [uy]
  walk_at "rd"
  refine bZ (SqL.of az) (lZ (z:=g) (kt hm)) ?_
  walk_at "rd"
  refine ⟨g,by omega,ps'.set m g,rfl,rn o1 iV,az,by rw [N4]; exact hl,hf1.set (by omega),fun a s h=>br.halve hf1 hy hg (hk a s h),?_⟩
  have:=br.halve hf1 hy hg hr1
  cases this with
  | stop h=>
   rw [kt hm] at h
   cases h
   omega
  | step h _ t=>
   rw [kt hm] at h
   cases h
   exact t
 ·have:y=m:=by omega
  subst this
  walk_at "rd"
  have er:y=r:=(br.stop hy).inj hr1
  rw [er]
  exact q H1 ps' o1 e1 hl hf1 hk
noncomputable def xl (_:Fg):Sp:=fun vs H Q _=>∃ (p:Addr) (ps:List Nat) (n:Nat) (P P':Nat->Nat->Prop) (a b:Nat),vs=[.ref p,.int (a:Int),.int (b:Int)]/\H p=some (.lst (aw ps))/\dD n P ps/\a < n/\b < n/\
 (∀ x y,P x y->P' x y)/\(∀ x y,P' x y->P x y\/(x=a/\y=b))/\P' a b/\∀ H' ps',Off p H H'->H' p=some (.lst (aw ps'))->dD n P' ps'->Q .non H'
noncomputable def vJ (K:Fg):TS:=(ar (aK (au (ku K) [] E0 (aa (ac 0) (aa (ac 1) ag))) (ao 3))
 (ar (aK (au (ku K) [] E0 (aa (ac 0) (aa (ac 2) ag))) (ao 4))
 (aK (tCB C0 (aa (ac 3) (aa (ac 4) ag))) (oW (ac 0) (tCB Iv (aa (ac 3) (aa (ac 4) ag))) mP))))
theorem Jl (h:xl K vs H Q E):vJ K { nx:=fun _ H'=>Q .non H',rt:=Q } (start ["points","one","other","first","second"] vs) H:=by
 obtain ⟨p,ps,n,P,P',a,b,rfl,e,ht,ha,hb,h1,h2,h3,q⟩:=h
 show vJ K _ [some _,some _,some _,none,none] _
 unfold vJ
 obtain ⟨ra,hra⟩:=ht.forest.root a (by rw [ht.len]; exact ha)
 walk_at "rd"
 refine ⟨p,ps,a,ra,rfl,e,ht.forest,hra,fun H1 ps1 o1 e1 l1 f1 k1=>?_⟩
 have ht1:=ht.moved f1 (by rw [l1]; exact ht.len) k1
 obtain ⟨rb,hrb⟩:=ht1.forest.root b (by rw [ht1.len]; exact hb)
 walk_at "rd"
 refine ⟨p,ps1,b,rb,rfl,e1,f1,hrb,fun H2 ps2 o2 e2 l2 f2 k2=>?_⟩
 have ht2:=ht1.moved f2 (by rw [l2]; exact ht1.len) k2
 have hra2:=k2 _ _ (k1 _ _ hra)
 have hrb2:=k2 _ _ hrb
 walk_at "rd"
 have la:=hra2.le
 have lb:=hrb2.le
 obtain ⟨M,m,hM,hm,hd,hle⟩:∃ M m:Nat,(if (rb:Int) > (ra:Int) then (rb:Int) else (ra:Int))=(M:Int)/\(if (rb:Int) < (ra:Int) then (rb:Int) else (ra:Int))=(m:Int)/\((M=ra/\m=rb)\/(M=rb/\m=ra))/\m<=M:=by
  by_cases c:rb < ra
  ·exact ⟨ra,rb,by rw [if_neg (by omega)],by rw [if_pos (by omega)],.inl ⟨rfl,rfl⟩,by omega⟩
  ·by_cases d:ra < rb
   ·exact ⟨rb,ra,by rw [if_pos (by omega)],by rw [if_neg (by omega)],.inr ⟨rfl,rfl⟩,by omega⟩
   ·exact ⟨ra,ra,by rw [if_neg (by omega)],by rw [if_neg (by omega)],.inr ⟨by omega,rfl⟩,LV _⟩
 rw [hm,hM]
 have hMl:M < ps2.length:=by
  rw [ht2.len]
  rcases hd with ⟨rfl,_⟩ | ⟨rfl,_⟩ <;> omega
 refine qX e2 (xk (by rw [bg]; exact hMl)) ?_
 rw [uy]
 exact q _ _ (rn (rn o1 o2) iV) az (ht2.link hra2 hrb2 hd hle h1 h2 h3)
noncomputable def gi (H:Hp) (a:Addr) (vs:List (List Nat)):Prop:=∃ rs:List Addr,H a=some (.lst (rs.map V.ref))/\Paired (fun (r:Addr) (v:List Nat)=>H r=some (.lst (aw v))) rs vs
theorem gi.same {H H':Hp} {a:Addr} {vs:List (List Nat)} (h:gi H a vs) (s:am H H'):gi H' a vs:=by
 obtain ⟨rs,e,r⟩:=h
 exact ⟨rs,s _ _ e,Paired.mapP r fun _ _ q=>s _ _ q⟩
noncomputable def Within (n:Nat) (v:List Nat):Prop:=v.length=n/\∀ x∈v,x < n
theorem om {rs:List Addr} {i:Nat} {x:V} (hx:(rs.map V.ref)[i]?=some x):∃ a,rs[i]?=some a/\x=.ref a:=by
 rw [LX] at hx
 cases e:rs[i]? with
 | none=>rw [e] at hx; cases hx
 | some z=>rw [e] at hx; exact ⟨z,rfl,(L9 hx).symm⟩
noncomputable def rq (_:Fg):Sp:=fun vs H Q _=>∃ (n:Nat) (a:Addr) (ws:List (List Nat)),vs=[.int (n:Int),.ref a]/\gi H a ws/\(∀ v∈ws,Within n v)/\n<=100000/\
 ∀ r p H',rl n (lw n ws) r->H p=none->am H H'->H' p=some (.lst (aw r))->Q (.ref p) H'
noncomputable def pM (K:Fg):TS:=(ar (aK (ID (aa (ac 0) ag)) (ao 2))
 (ar (cR (cp K (ac 1)) (ao 3) (cR (mR bw K (aa (ac 3) ag)) (gC K 2 (bI (ao 4) (bI (ao 5) gB))) (cV (au (xl K) [] E0 (aa (ac 2) (aa (ac 4) (aa (ac 5) ag)))))))
 (aJ (bO (fq (aa (ac 0) ag)) (fun _ _ _ _=>(ao 0)) (fun _ _ _ _=>bL) (fun _ _ _ _=>(au (ku K) [] E0 (aa (ac 1) (aa (ac 0) ag)))) [none,some 2]))))
theorem Dg {n:Nat} {ws:List (List Nat)} {i:Nat} {v:List Nat} (hv:ws[i]?=some v) {x y:Nat}:lw n (ws.take (i + 1)) x y↔lw n (ws.take i) x y\/(x < n/\v[x]?=some y):=by
 unfold lw
 rw [bH hv]
 constructor
 ·rintro ⟨w,hw,h1,h2⟩
  rcases Mt.mp hw with hw | hw
  ·exact .inl ⟨w,hw,h1,h2⟩
  ·rw [LW.mp hw] at h2; exact .inr ⟨h1,h2⟩
 ·rintro (⟨w,hw,h1,h2⟩ | ⟨h1,h2⟩)
  ·exact ⟨w,NG _ hw,h1,h2⟩
  ·exact ⟨v,MB _ (LW.mpr rfl),h1,h2⟩
theorem _root_.KF.dD.congr {n:Nat} {P P':Nat->Nat->Prop} {ps:List Nat} (t:dD n P ps) (h:∀ x y,P x y↔P' x y):dD n P' ps:=by
 have e:P=P':=by funext x y; exact propext (h x y)
 rw [<-e]; exact t
theorem Fu (h:rq K vs H Q E):pM K { nx:=fun _ H'=>Q .non H',rt:=Q } (start ["many","views","points","view","thing","least"] vs) H:=by
 obtain ⟨n,a,ws,rfl,hV,hw,hn,q⟩:=h
 show pM K _ [some _,some _,none,none,none,none] _
 unfold pM
 obtain ⟨rs,ea,hr⟩:=id hV
 have hlr:rs.length=ws.length:=M5 hr
 walk_at "rd"
 refine KH ?_
 walk_at "rd"
 refine ⟨n,rfl,by omega,Lq (by omega) fun p H1 hp s1 e1=>?_⟩
 rw [Df] at e1
 walk_at "rd"
 refine lK (rs.map V.ref) (SqL.of (s1 _ _ ea)) (fun i σ H2=>∃ (u1 u2 u3:Option V) (ps:List Nat),σ=[some (.int (n:Int)),some (.ref a),some (.ref p),u1,u2,u3]/\am H H2/\H2 p=some (.lst (aw ps))/\dD n (lw n (ws.take i)) ps) ?_ ?_ ?_ ?_
 ·refine ⟨_,_,_,_,rfl,s1,e1,(dD.start n).congr fun x y=>⟨fun h=>h.elim,fun ⟨w,hw,_⟩=>by simp at hw⟩⟩
 ·rintro i σ H2 hi ⟨u1,u2,u3,ps,rfl,s2,e2,t2⟩
  exact SqL.of (s2 _ _ ea)
 ·rintro i x σ H2 hx ⟨u1,u2,u3,ps,rfl,s2,e2,t2⟩
  obtain ⟨b,hb,rfl⟩:=om hx
  obtain ⟨v,hv,ev⟩:=bS hr hb
  obtain ⟨hvl,hvx⟩:=hw v (LZ hv)
  walk_at "rd"
  refine xc (S:=bw) (aw v) (SqL.of (s2 _ _ ev)) (fun j σ H3=>∃ (u2 u3:Option V) (ps:List Nat),σ=[some (.int (n:Int)),some (.ref a),some (.ref p),some (.ref b),u2,u3]/\am H H3/\H3 p=some (.lst (aw ps))/\dD n (fun x y=>lw n (ws.take i) x y\/(x < j/\v[x]?=some y)) ps) ?_ ?_ ?_ ?_
  ·exact ⟨_,_,ps,rfl,s2,e2,t2.congr fun x y=>⟨.inl,fun h=>h.elim (fun h=>h) fun h=>absurd h.1 (by omega)⟩⟩
  ·rintro j σ H3 hj ⟨u2,u3,ps,rfl,s3,e3,t3⟩
   exact SqL.of (s3 _ _ ev)
  ·rintro j x T σ H3 H4 hx ⟨u2,u3,ps,rfl,s3,e3,t3⟩ hT s4 eT
   obtain ⟨z,hz,rfl⟩:=fE hx
   have hjl:j < v.length:=(LU.mp hz).1
   refine fC (SqT.of eT) ?_
   walk_at "rd"
   refine ⟨p,ps,n,_,(fun x y=>lw n (ws.take i) x y\/(x < j + 1/\v[x]?=some y)),j,z,rfl,s4 _ _ e3,t3,by omega,hvx z (LZ hz),?_,?_,.inr ⟨by omega,hz⟩,fun H5 ps5 o5 e5 t5=>?_⟩
   ·rintro x y (h | h)
    ·exact .inl h
    ·exact .inr ⟨by omega,h.2⟩
   ·rintro x y (h | ⟨h1,h2⟩)
    ·exact .inl (.inl h)
    ·by_cases c:x=j
     ·subst c
      rw [hz] at h2
      cases h2
      exact .inr ⟨rfl,rfl⟩
     ·exact .inl (.inr ⟨by omega,h2⟩)
   ·exact ⟨_,_,ps5,rfl,(s3.trans s4).off hp o5,e5,t5⟩
  ·rintro σ H3 ⟨u2,u3,ps,rfl,s3,e3,t3⟩
   rw [bg] at t3
   exact ⟨_,_,_,ps,rfl,s3,e3,t3.congr fun x y=>by rw [Dg hv,hvl]⟩
 ·rintro σ H2 ⟨u1,u2,u3,ps,rfl,s2,e2,t2⟩
  rw [LR,hlr,MF] at t2
  walk_at "rd"
  refine Fs n (by omega) (by omega) (by omega) (fun l i acc H3=>∃ (ps' rr:List Nat),acc=aw rr/\rr.length=i/\H3 l=some (.lst acc)/\l≠p/\H l=none/\am H H3/\H3 p=some (.lst (aw ps'))/\dD n (lw n ws) ps'/\(∀ y s,br ps y s->br ps' y s)/\∀ k x:Nat,rr[k]?=some x->br ps k x) ?_ ?_ ?_ ?_
  ·intro l H3 hl s3 e3
   exact ⟨ps,[],rfl,rfl,e3,(be e2 hl).symm,s2.free hl,s2.trans s3,s3 _ _ e2,t2,fun _ _ h=>h,fun k x h=>by simp at h⟩
  ·rintro l i acc H3 ⟨ps',rr,rfl,hl,e3,_⟩
   exact ⟨e3,by rw [bg]; omega⟩
  ·rintro l hl C s' H' fp i acc H3 hi ⟨ps',rr,rfl,hlr',e3,nl,hlH,s3,ep3,t3,k3,g3⟩
   obtain ⟨r,hr⟩:=t2.forest.root i (by rw [t2.len]; exact hi)
   walk_at "rd"
   refine ⟨p,ps',i,r,rfl,ep3,t3.forest,k3 _ _ hr,fun H4 ps4 o4 e4 l4 f4 k4=>?_⟩
   refine ⟨by rw [o4 l nl]; exact e3,ps4,rr++[r],gG rr r,by simp [hlr'],az,nl,hlH,(s3.off hp o4).off hlH iV,by rw [aM nl.symm]; exact e4,t3.moved f4 (by rw [l4]; exact t3.len) k4,fun y s h=>k4 _ _ (k3 _ _ h),fun k x h=>?_⟩
   rw [List.getElem?_append] at h
   by_cases c:k < rr.length
   ·rw [if_pos c] at h
    exact g3 k x h
   ·rw [if_neg c] at h
    have hk:k=i:=by
     by_cases d:k - rr.length=0
     ·omega
     ·rw [Mw (by simp; omega)] at h; cases h
    subst hk
    rw [<-hlr',RX] at h
    cases h
    exact hr
  ·rintro l acc H3 hl ⟨ps',rr,rfl,hlr',e3,nl,hlH,s3,ep3,t3,k3,g3⟩
   exact q rr l H3 (t2.join hlr' g3) hlH s3 e3
end
section
variable {g:CF TG} {tt:CF TT} {te:CF TE} {σ₀:St} {Q:VK} {H:Hp} {K:Fg}
end
theorem pN {H:Hp} {a:Addr} {fs:List (List Nat)} (h:gi H a fs):∃ rs:List Addr,H a=some (.lst (rs.map V.ref))/\rs.length=fs.length/\∀ (i:Nat) (r:Addr),rs[i]?=some r->∃ v,fs[i]?=some v/\H r=some (.lst (aw v)):=by
 obtain ⟨rs,e,p⟩:=h
 exact ⟨rs,e,M5 p,fun i r hr=>bS p hr⟩
end L2
section
namespace L2
open PySem PyProof.Rows
set_option genInjectivity false in
inductive Sy where
 | holds (w c:Nat) | sees (h:Nat) | not (s:Sy) | and (s t:Sy) | or (s t:Sy) | knows (h:Nat) (s:Sy) | all (g:List Nat) (s:Sy) | common (g:List Nat) (s:Sy)
namespace Sy
noncomputable def words:Sy->Nat
 | .holds _ _=>1 | .sees _=>1 | .not s=>s.words + 1 | .and s t=>s.words + t.words + 1 | .or s t=>s.words + t.words + 1 | .knows _ s=>s.words + 1 | .all _ s=>s.words + 1 | .common _ s=>s.words + 1
noncomputable def subs:Sy->List Sy
 | .holds _ _=>[] | .sees _=>[] | .not s=>[s] | .and s t=>[s,t] | .or s t=>[s,t] | .knows _ s=>[s] | .all _ s=>[s] | .common _ s=>[s]
noncomputable def word:Sy->Str
 | .holds _ _=>"holds" | .sees _=>"sees" | .not _=>"not" | .and _ _=>"and" | .or _ _=>"or" | .knows _ _=>"knows" | .all _ _=>"all" | .common _ _=>"common"
noncomputable def form:Sy->List Str
 | .holds _ _=>["holder","card"] | .sees _=>["hand"] | .not _=>["saying"] | .and _ _=>["saying","saying"] | .or _ _=>["saying","saying"] | .knows _ _=>["hand","saying"] | .all _ _=>["hands","saying"] | .common _ _=>["hands","saying"]
noncomputable def plain:Sy->Bool
 | .holds _ _=>true | .not _=>true | .and _ _=>true | .or _ _=>true | _=>false
noncomputable def Ok (cards hands:Nat):Sy->Prop
 | .holds w c=>w<=hands/\c < cards | .sees h=>h < hands | .not s=>s.Ok cards hands | .and s t=>s.Ok cards hands/\t.Ok cards hands | .or s t=>s.Ok cards hands/\t.Ok cards hands
 | .knows h s=>h < hands/\s.Ok cards hands | .all g s=>(g.Pairwise (· < ·)/\∀ k∈g,k < hands)/\s.Ok cards hands | .common g s=>(g.Pairwise (· < ·)/\∀ k∈g,k < hands)/\s.Ok cards hands
theorem words_pos (s:Sy):1<=s.words:=by cases s <;> simp [words]
theorem words_subs (s:Sy):s.words=1 + (s.subs.map words).sum:=by cases s <;> simp [words,subs] <;> omega
theorem sub_words {s t:Sy} (h:t∈s.subs):t.words + 1<=s.words:=by
 rw [words_subs s]
 have:=i6 (Tf (f:=words) h)
 omega
end Sy
noncomputable def aP (H:Hp):V->Sy->Prop
 | v,.holds w c=>∃ a,v=.ref a/\H a=some (.tup [.str "holds",.int w,.int c])
 | v,.sees h=>∃ a,v=.ref a/\H a=some (.tup [.str "sees",.int h])
 | v,.not s=>∃ a x,v=.ref a/\H a=some (.tup [.str "not",x])/\aP H x s
 | v,.and s t=>∃ a x y,v=.ref a/\H a=some (.tup [.str "and",x,y])/\aP H x s/\aP H y t
 | v,.or s t=>∃ a x y,v=.ref a/\H a=some (.tup [.str "or",x,y])/\aP H x s/\aP H y t
 | v,.knows h s=>∃ a x,v=.ref a/\H a=some (.tup [.str "knows",.int h,x])/\aP H x s
 | v,.all g s=>∃ a b x,v=.ref a/\H a=some (.tup [.str "all",.ref b,x])/\H b=some (.tup (aw g))/\aP H x s
 | v,.common g s=>∃ a b x,v=.ref a/\H a=some (.tup [.str "common",.ref b,x])/\H b=some (.tup (aw g))/\aP H x s
theorem aP.keep {H H':Hp} (k:dR H H'):∀ {s:Sy} {v:V},aP H v s->aP H' v s
 | .holds _ _,_,⟨a,e,h⟩=>⟨a,e,k _ _ h⟩
 | .sees _,_,⟨a,e,h⟩=>⟨a,e,k _ _ h⟩
 | .not _,_,⟨a,x,e,h,r⟩=>⟨a,x,e,k _ _ h,aP.keep k r⟩
 | .and _ _,_,⟨a,x,y,e,h,r,q⟩=>⟨a,x,y,e,k _ _ h,aP.keep k r,aP.keep k q⟩
 | .or _ _,_,⟨a,x,y,e,h,r,q⟩=>⟨a,x,y,e,k _ _ h,aP.keep k r,aP.keep k q⟩
 | .knows _ _,_,⟨a,x,e,h,r⟩=>⟨a,x,e,k _ _ h,aP.keep k r⟩
 | .all _ _,_,⟨a,b,x,e,h,i,r⟩=>⟨a,b,x,e,k _ _ h,k _ _ i,aP.keep k r⟩
 | .common _ _,_,⟨a,b,x,e,h,i,r⟩=>⟨a,b,x,e,k _ _ h,k _ _ i,aP.keep k r⟩
noncomputable def iP (form:List Str) (items:List V):List V:=((form.zip items).filter fun p=>decide (p.1=("saying":Str))).map (·.2)
noncomputable def gU (H:Hp) (xs:List V) (ss:List Sy):Prop:=Paired (aP H) xs ss
theorem gU.keep {H H':Hp} (k:dR H H') {xs:List V} {ss:List Sy} (h:gU H xs ss):gU H' xs ss:=Paired.mapP h fun _ _ r=>r.keep k
theorem ns1:decide (("holder":Str)="saying")=false:=by decide +kernel
theorem ns2:decide (("card":Str)="saying")=false:=by decide +kernel
theorem ns3:decide (("hand":Str)="saying")=false:=by decide +kernel
theorem ns4:decide (("hands":Str)="saying")=false:=by decide +kernel
theorem Jm {H:Hp} {v:V} {s:Sy} (h:aP H v s):∃ a items,v=.ref a/\H a=some (.tup (.str s.word :: items))/\items.length=s.form.length/\gU H (iP s.form items) s.subs:=by
 cases s with
 | holds w c=>obtain ⟨a,e,h⟩:=h; exact ⟨a,_,e,h,rfl,by simp only [iP,Sy.form,NJ,Oj,Oc,ns1,ns2]; exact .nil⟩
 | sees w=>obtain ⟨a,e,h⟩:=h; exact ⟨a,_,e,h,rfl,by simp only [iP,Sy.form,NJ,Oj,Oc,ns3]; exact .nil⟩
 | not s=>obtain ⟨a,x,e,h,r⟩:=h; exact ⟨a,_,e,h,rfl,by simp only [iP,Sy.form,NJ,Oj,Oc,decide_true]; exact .cons r .nil⟩
 | and s t=>obtain ⟨a,x,y,e,h,r,q⟩:=h; exact ⟨a,_,e,h,rfl,by simp only [iP,Sy.form,NJ,Oj,Oc,decide_true]; exact .cons r (.cons q .nil)⟩
 | or s t=>obtain ⟨a,x,y,e,h,r,q⟩:=h; exact ⟨a,_,e,h,rfl,by simp only [iP,Sy.form,NJ,Oj,Oc,decide_true]; exact .cons r (.cons q .nil)⟩
 | knows w s=>obtain ⟨a,x,e,h,r⟩:=h; exact ⟨a,_,e,h,rfl,by simp only [iP,Sy.form,NJ,Oj,Oc,decide_true,ns3]; exact .cons r .nil⟩
 | all g s=>obtain ⟨a,b,x,e,h,i,r⟩:=h; exact ⟨a,_,e,h,rfl,by simp only [iP,Sy.form,NJ,Oj,Oc,decide_true,ns4]; exact .cons r .nil⟩
 | common g s=>obtain ⟨a,b,x,e,h,i,r⟩:=h; exact ⟨a,_,e,h,rfl,by simp only [iP,Sy.form,NJ,Oj,Oc,decide_true,ns4]; exact .cons r .nil⟩
set_option genInjectivity false in
structure Glo where
 forms:Addr
 cw:Addr
 f1:Addr
 f2:Addr
 f3:Addr
 f4:Addr
 f5:Addr
 f6:Addr
 f7:Addr
 f8:Addr
noncomputable def Glo.kvs (G:Glo):List (Str×V):=[("holds",.ref G.f1),("not",.ref G.f2),("and",.ref G.f3),("or",.ref G.f4),("knows",.ref G.f5),("all",.ref G.f6),("common",.ref G.f7),("sees",.ref G.f8)]
structure vK (K:Fg) (G:Glo):Prop where
 t1:kL K G.f1 [.str "holder",.str "card"]
 t2:kL K G.f2 [.str "saying"]
 t3:kL K G.f3 [.str "saying",.str "saying"]
 t4:kL K G.f4 [.str "saying",.str "saying"]
 t5:kL K G.f5 [.str "hand",.str "saying"]
 t6:kL K G.f6 [.str "hands",.str "saying"]
 t7:kL K G.f7 [.str "hands",.str "saying"]
 t8:kL K G.f8 [.str "hand"]
theorem vK.form {K:Fg} {G:Glo} (g:vK K G) (s:Sy):∃ f,G.kvs.lookup s.word=some (.ref f)/\kL K f (s.form.map V.str):=by
 cases s with
 | holds w c=>exact ⟨G.f1,rfl,g.t1⟩
 | sees w=>exact ⟨G.f8,rfl,g.t8⟩
 | not s=>exact ⟨G.f2,rfl,g.t2⟩
 | and s t=>exact ⟨G.f3,rfl,g.t3⟩
 | or s t=>exact ⟨G.f4,rfl,g.t4⟩
 | knows w s=>exact ⟨G.f5,rfl,g.t5⟩
 | all g' s=>exact ⟨G.f6,rfl,g.t6⟩
 | common g' s=>exact ⟨G.f7,rfl,g.t7⟩
theorem lL (x:V) (xs:List V):atI (x :: xs) 0=some x:=by
 have:atI (x :: xs) ((0:Nat):Int)=some x:=cx rfl
 exact this
theorem Fv (form:List Str) (items:List V) (i:Nat) (f:Str) (x:V) (hf:form[i]?=some f) (hx:items[i]?=some x):iP (form.take (i + 1)) (items.take (i + 1))=iP (form.take i) (items.take i)++(if f="saying" then [x] else []):=by
 unfold iP
 have e:(form.take (i + 1)).zip (items.take (i + 1))=(form.take i).zip (items.take i)++[(f,x)]:=by
  rw [NP,NP,hf,hx]
  rw [List.zip_append (by
   have h1:=(LU.mp hf).1
   have h2:=(LU.mp hx).1
   rw [NL,NL]
   omega)]
  rfl
 rw [e,OI,Ml]
 congr 1
 by_cases h:f="saying"
 ·rw [if_pos h,OC (by simpa using h)]
  rfl
 ·rw [if_neg h,OD (by simpa using h)]
  rfl
theorem G3 (form:List Str) (items:List V):(iP form items).length<=form.length:=by
 unfold iP
 rw [LR]
 refine MD (Qx _ _) ?_
 rw [Pe]
 omega
theorem Sy.form_len (s:Sy):s.form.length<=2:=by cases s <;> simp [Sy.form]
theorem mZ {H:Hp} {xs:List V} {ss:List Sy} {i:Nat} {x:V} (h:gU H xs ss) (e:xs[i]?=some x):∃ s,ss[i]?=some s/\aP H x s:=lp h e
theorem gH {H:Hp} {xs:List V} {ss:List Sy} (h:gU H xs ss):xs.length=ss.length:=by
 induction h with
 | nil=>rfl
 | cons _ _ ih=>rw [My,My,ih]
end L2
end
section
namespace L2
open PySem
noncomputable def KK (t1 t2:String):Bool:=t1 == t2 || (t1 == "bool" && t2 == "int")
noncomputable def vL:List String:=["NoneType","bool","int","str","tuple","list","dict"]
noncomputable def Ch:List String:=["bool","int","str","tuple","list"]
theorem Al (K:Fg) (t:String):M1 K (.type t) (.type t)=some true:=by unfold M1; rw [if_pos (beq_self_eq_true _)]
theorem KL {K:Fg} {t1 t2:String} {b:Bool} (h:(if (Nr t1 == Nr t2)=true then some true else if Sg t2=true then (SC t1).map (·.contains (.type t2)) else none)=some b):M1 K (.type t1) (.type t2)=some b:=h
theorem lM (K:Fg):∀ t1∈vL,∀ t2∈Ch,M1 K (.type t1) (.type t2)=some (KK t1 t2):=by
 have go:∀ t1∈vL,∀ t2∈Ch,(if (Nr t1 == Nr t2)=true then some true else if Sg t2=true then (SC t1).map (·.contains (.type t2)) else none)=some (KK t1 t2):=by decide +kernel
 exact fun t1 h1 t2 h2=>KL (go t1 h1 t2 h2)
end L2
end
namespace L2
open PySem PyProof.Rows
section
variable {K:Fg} {vs:List V} {H:Hp} {Q:VK} {E:XK}
open KF
open Classical in
noncomputable def blV (n:Nat) (P:Nat->Prop):List V:=(Mn n).map fun i=>V.bl (decide (P i))
theorem cdf {p:Prop} (h:¬ p):false=@decide p (Og p):=(@decide_eq_false p (Og p) h).symm
theorem cdt {p:Prop} (h:p):true=@decide p (Og p):=(@decide_eq_true p (Og p) h).symm
theorem cde {p q:Prop} [i:Decidable p] (h:p↔q):decide p=@decide q (Og q):=@decide_eq_decide p q i (Og q) |>.mpr h
section
open Classical
variable {n i:Nat} {P P':Nat->Prop}
theorem cN (n:Nat) (P:Nat->Prop):(blV n P).length=n:=by unfold blV; simp
theorem on (h:i < n):(blV n P)[i]?=some (.bl (decide (P i))):=by unfold blV; rw [LX,MS h]; rfl
theorem KO (h:i < n):atI (blV n P) (i:Int)=some (.bl (decide (P i))):=cx (on h)
theorem oo {x:V} (h:(blV n P)[i]?=some x):i < n/\x=.bl (decide (P i)):=by
 have hi:i < n:=by have:=(LU.mp h).1; rw [cN] at this; exact this
 rw [on hi] at h
 exact ⟨hi,(L9 h).symm⟩
theorem rA (h:∀ i,i < n->(P i↔P' i)):blV n P=blV n P':=by
 unfold blV
 refine Nx fun i hi=>?_
 rw [show P i=P' i from propext (h i (ND.mp hi))]
theorem fT (n:Nat) (P:Nat->Prop):blV (n + 1) P=blV n P++[.bl (decide (P n))]:=by unfold blV; rw [OM,Ml]; rfl
theorem Jn (h:i < n) {b:Bool} (hb:∀ j,j < n->j≠i->(P j↔P' j)) (hi:b=decide (P' i)):(blV n P).set i (.bl b)=blV n P':=by
 refine Oi fun k=>?_
 rw [OT,cN]
 by_cases e:i=k
 ·subst e
  rw [if_pos rfl,if_pos h,on h,hi]
 ·rw [if_neg e]
  by_cases hk:k < n
  ·rw [on hk,on hk,show P k=P' k from propext (hb k hk (fun z=>e z.symm))]
  ·rw [Mw (by rw [cN]; omega),Mw (by rw [cN]; omega)]
theorem Am (n:Nat) (h:∀ i,P i):(MI n [V.bl true]).flatten=blV n P:=by
 induction n with
 | zero=>rfl
 | succ n ih=>
  rw [fT,<-ih,PC,List.flatten_append,decide_eq_true (h n)]
  simp
theorem An (n:Nat) (P:Nat->Prop):∀ x∈blV n P,j5 x=true:=fun x hx=>by
 unfold blV at hx
 obtain ⟨i,_,rfl⟩:=Na.mp hx
 rfl
end
noncomputable def sw (_:Fg):Sp:=fun vs H Q _=>∃ (a b:Addr) (n:Nat) (P P':Nat->Prop),vs=[.ref a,.ref b]/\H a=some (.lst (blV n P))/\H b=some (.lst (blV n P'))/\n<=100000/\
 ∀ p H',H p=none->am H H'->H' p=some (.lst (blV n fun i=>P i/\P' i))->Q (.ref p) H'
noncomputable def vM (K:Fg):TS:=(aJ (bO (pA bw bw K (aa (ac 0) (aa (ac 1) ag))) (fun _ _ _ _=>(gC K 2 (bI (ao 0) (bI (ao 1) gB)))) (fun _ _ _ _=>bL) (fun _ _ _ _=>(oU (ac 0) (ac 1))) [none,none]))
section
open Classical
theorem Jo (h:sw K vs H Q E):vM K { nx:=fun _ H'=>Q .non H',rt:=Q } (start ["ones","others"] vs) H:=by
 obtain ⟨a,b,n,P,P',rfl,ea,eb,hn,q⟩:=h
 show vM K _ [some _,some _] _
 unfold vM
 walk_at "rd"
 refine rc (S1:=bw) (S2:=bw) _ _ (SqL.of ea) (SqL.of eb) (fun H' s=>s.seq (SqL.of ea)) (fun H' s=>s.seq (SqL.of eb)) (by rw [cN]; omega) (fun i acc _=>acc=blV i fun i=>P i/\P' i) (fun _ _=>rfl) ?_ ?_
 ·rintro p hp C s' H' fp i x y T acc H2 H3 hx hy ⟨s2,e2,l2,rfl⟩ hT s3 e3 e4
  obtain ⟨hi,rfl⟩:=oo hx
  obtain ⟨_,rfl⟩:=oo hy
  walk_at "rd"
  refine fC (SqT.of e3) ?_
  walk_at "rd"
  by_cases h:P i
  ·rw [decide_eq_true h]
   refine oZ ?_
   walk_at "rd"
   refine aX.put hp (fun _ _ _ _ r _=>r) (s2.trans s3) e4 l2 ?_
   rw [fT]
   congr 3
   exact decide_eq_decide.mpr ⟨fun q=>⟨h,q⟩,fun q=>q.2⟩
  ·rw [decide_eq_false h]
   refine nE ?_
   refine aX.put hp (fun _ _ _ _ r _=>r) (s2.trans s3) e4 l2 ?_
   rw [fT]
   congr 3
   exact cdf fun q=>h q.1
 ·rintro p acc H2 hp s2 e2 rfl
  rw [cN,cN,O2] at e2
  exact q _ _ hp s2 e2
end
noncomputable def rB (_:Fg):Sp:=fun vs H Q _=>∃ (a b:Addr) (n:Nat) (P P':Nat->Prop),vs=[.ref a,.ref b]/\H a=some (.lst (blV n P))/\H b=some (.lst (blV n P'))/\n<=100000/\
 ∀ p H',H p=none->am H H'->H' p=some (.lst (blV n fun i=>P i\/P' i))->Q (.ref p) H'
noncomputable def pO (K:Fg):TS:=(aJ (bO (pA bw bw K (aa (ac 0) (aa (ac 1) ag))) (fun _ _ _ _=>(gC K 2 (bI (ao 0) (bI (ao 1) gB)))) (fun _ _ _ _=>bL) (fun _ _ _ _=>(Gh (ac 0) (ac 1))) [none,none]))
section
open Classical
theorem Fw (h:rB K vs H Q E):pO K { nx:=fun _ H'=>Q .non H',rt:=Q } (start ["ones","others"] vs) H:=by
 obtain ⟨a,b,n,P,P',rfl,ea,eb,hn,q⟩:=h
 show pO K _ [some _,some _] _
 unfold pO
 walk_at "rd"
 refine rc (S1:=bw) (S2:=bw) _ _ (SqL.of ea) (SqL.of eb) (fun H' s=>s.seq (SqL.of ea)) (fun H' s=>s.seq (SqL.of eb)) (by rw [cN]; omega) (fun i acc _=>acc=blV i fun i=>P i\/P' i) (fun _ _=>rfl) ?_ ?_
 ·rintro p hp C s' H' fp i x y T acc H2 H3 hx hy ⟨s2,e2,l2,rfl⟩ hT s3 e3 e4
  obtain ⟨hi,rfl⟩:=oo hx
  obtain ⟨_,rfl⟩:=oo hy
  walk_at "rd"
  refine fC (SqT.of e3) ?_
  walk_at "rd"
  by_cases h:P i
  ·rw [decide_eq_true h]
   refine oZ ?_
   refine aX.put hp (fun _ _ _ _ r _=>r) (s2.trans s3) e4 l2 ?_
   rw [fT]
   congr 3
   exact cdt (.inl h)
  ·rw [decide_eq_false h]
   refine nE ?_
   walk_at "rd"
   refine aX.put hp (fun _ _ _ _ r _=>r) (s2.trans s3) e4 l2 ?_
   rw [fT]
   congr 3
   exact decide_eq_decide.mpr ⟨.inr,fun q=>q.resolve_left h⟩
 ·rintro p acc H2 hp s2 e2 rfl
  rw [cN,cN,O2] at e2
  exact q _ _ hp s2 e2
end
noncomputable def KN (n:Nat) (v:List Nat) (P:Nat->Prop) (i:Nat):Prop:=∀ j,j < n->v.getD j 0=v.getD i 0->P j
theorem pP {n:Nat} {v:List Nat} (h:Within n v) {i:Nat} (hi:i < n):v[i]?=some (v.getD i 0)/\v.getD i 0 < n:=by
 have hl:i < v.length:=by rw [h.1]; exact hi
 have e:v[i]?=some (v.getD i 0):=by rw [Md,LS hl]; rfl
 exact ⟨e,h.2 _ (LZ e)⟩
noncomputable def jJ (_:Fg):Sp:=fun vs H Q _=>∃ (a b:Addr) (n:Nat) (v:List Nat) (P:Nat->Prop),vs=[.ref a,.ref b]/\H a=some (.lst (aw v))/\H b=some (.lst (blV n P))/\Within n v/\n<=100000/\
 ∀ p H',H p=none->am H H'->H' p=some (.lst (blV n (KN n v P)))->Q (.ref p) H'
noncomputable def sF (K:Fg):TS:=(ar (aK (tOp GH (d8 (aa (tC (.bl true)) ag)) (tCB (d7 K) (aa (ac 0) ag))) (ao 2))
 (ar (cR (pA bw bw K (aa (ac 0) (aa (ac 1) ag))) (gC K 2 (bI (ao 3) (bI (ao 4) gB))) (bp (d5 (tB (ac 4))) (aK (tC (.bl false)) (oW (ac 2) (ac 3) mP)) ba))
 (aJ (bO (cp K (ac 0)) (fun _ _ _ _=>(ao 0)) (fun _ _ _ _=>bL) (fun _ _ _ _=>(tOp (cS K) (ac 1) (ac 0))) [none,some 2]))))
section
open Classical
theorem G4 (h:jJ K vs H Q E):sF K { nx:=fun _ H'=>Q .non H',rt:=Q } (start ["view","truths","sure","least","truth"] vs) H:=by
 obtain ⟨a,b,n,v,P,rfl,ea,eb,hv,hn,q⟩:=h
 show sF K _ [some _,some _,none,none,none] _
 unfold sF
 have hvl:=hv.1
 walk_at "rd"
 refine ⟨by simp [LY],fun l H1 hl s1 e1=>?_⟩
 walk_at "rd"
 refine vj (SqL.of (s1 _ _ ea)) ?_
 walk_at "rd"
 rw [bg,hvl]
 refine ⟨l,(n:Int),[.bl true],rfl,rfl,e1,by omega,by omega,by rw [LY]; simp; omega,fun p H2 hp s2 e2=>?_⟩
 rw [Pp,Am (P:=fun x=>∀ j,j < 0->v.getD j 0=x->P j) n (fun _ j h=>absurd h (by omega))] at e2
 have s02:=s1.trans s2
 have hpH:H p=none:=s1.free hp
 walk_at "rd"
 refine E8 (S1:=bw) (S2:=bw) (aw v) (blV n P) (SqL.of (s02 _ _ ea)) (SqL.of (s02 _ _ eb)) (fun i σ H3=>∃ (u1 u2:Option V),σ=[some (.ref a),some (.ref b),some (.ref p),u1,u2]/\am H H3/\H3 p=some (.lst (blV n fun x=>∀ j,j < i->v.getD j 0=x->P j))) ?_ ?_ ?_ ?_
 ·exact ⟨_,_,rfl,s02,e2⟩
 ·rintro i σ H3 ⟨u1,u2,rfl,s3,e3⟩
  exact ⟨SqL.of (s3 _ _ ea),SqL.of (s3 _ _ eb)⟩
 ·rintro i x y T σ H3 H4 hx hy ⟨u1,u2,rfl,s3,e3⟩ hT s4 eT
  obtain ⟨hi,rfl⟩:=oo hy
  obtain ⟨z,hz,rfl⟩:=fE hx
  obtain ⟨hz',hzn⟩:=pP hv hi
  rw [hz] at hz'
  have ez:z=v.getD i 0:=L9 hz'
  refine fC (SqT.of eT) ?_
  walk_at "rd"
  by_cases h:P i
  ·rw [decide_eq_true h]
   walk_at "rd"
   refine ⟨_,_,rfl,s3.trans s4,?_⟩
   rw [s4 _ _ e3]
   congr 2
   refine rA fun x _=>⟨fun f j hj e=>?_,fun f j hj e=>f j (by omega) e⟩
   by_cases c:j=i
   ·rw [c]; exact h
   ·exact f j (by omega) e
  ·rw [decide_eq_false h]
   walk_at "rd"
   refine qX (s4 _ _ e3) (xk (by rw [cN,ez]; exact hzn)) ?_
   refine ⟨_,_,rfl,(s3.trans s4).off hpH iV,?_⟩
   rw [az]
   congr 2
   refine Jn (by rw [ez]; exact hzn) (fun x _ hxz=>⟨fun f j hj e=>?_,fun f j hj e=>f j (by omega) e⟩) ?_
   ·by_cases c:j=i
    ·subst c
     exact absurd (e.symm.trans ez.symm) hxz
    ·exact f j (by omega) e
   ·exact cdf fun f=>h (f i (by omega) ez.symm)
 ·rintro σ H3 ⟨u1,u2,rfl,s3,e3⟩
  rw [bg,cN,hvl,O2] at e3
  walk_at "rd"
  refine dJ (aw v) (SqL.of (s3 _ _ ea)) (by rw [bg]; omega) (fun i acc _=>acc=blV i (KN n v P)) (fun _ _=>rfl) ?_ ?_
  ·rintro r hr C s' H' fp i x acc H4 hx ⟨s4,e4,l4,rfl⟩
   obtain ⟨z,hz,rfl⟩:=fE hx
   have hi:i < n:=by have:=(LU.mp hz).1; omega
   obtain ⟨hz',hzn⟩:=pP hv hi
   rw [hz] at hz'
   have ez:z=v.getD i 0:=L9 hz'
   walk_at "rd"
   refine bZ (SqL.of (s4 _ _ e3)) (KO (by rw [ez]; exact hzn)) ?_
   refine aX.put hr (fun _ _ _ _ r _=>r) s4 e4 l4 ?_
   rw [fT]
   congr 3
   rw [ez]
   rfl
  ·rintro r acc H4 hr s4 e4 rfl
   rw [bg,hvl] at e4
   exact q _ _ (s3.free hr) (s3.trans s4) e4
end
noncomputable def jc (_:Fg):Sp:=fun vs H Q _=>∃ (a b:Addr) (n:Nat) (ws:List (List Nat)) (P:Nat->Prop),vs=[.ref a,.ref b]/\gi H a ws/\H b=some (.lst (blV n P))/\(∀ v∈ws,Within n v)/\n<=100000/\
 ∀ p H',H p=none->am H H'->H' p=some (.lst (blV n fun i=>∀ v∈ws,KN n v P i))->Q (.ref p) H'
noncomputable def gW (K:Fg):TS:=(ar (aK (tOp GH (d8 (aa (tC (.bl true)) ag)) (tCB (d7 K) (aa (ac 1) ag))) (ao 2))
 (ar (cR (cp K (ac 0)) (ao 3) (aK (au (sw K) [] E0 (aa (ac 2) (aa (au (jJ K) [] E0 (aa (ac 3) (aa (ac 1) ag))) ag))) (ao 2)))
 (aJ (ac 2))))
theorem vN (h:jc K vs H Q E):gW K { nx:=fun _ H'=>Q .non H',rt:=Q } (start ["views","truths","answers","view"] vs) H:=by
 obtain ⟨a,b,n,ws,P,rfl,hV,eb,hw,hn,q⟩:=h
 show gW K _ [some _,some _,none,none] _
 unfold gW
 obtain ⟨rs,ea,hlr,hr⟩:=pN hV
 walk_at "rd"
 refine ⟨by simp [LY],fun l H1 hl s1 e1=>?_⟩
 walk_at "rd"
 refine vj (SqL.of (s1 _ _ eb)) ?_
 walk_at "rd"
 rw [cN]
 refine ⟨l,(n:Int),[.bl true],rfl,rfl,e1,by omega,by omega,by rw [LY]; simp; omega,fun p H2 hp s2 e2=>?_⟩
 rw [Pp,Am (P:=fun i=>∀ v∈ws.take 0,KN n v P i) n (fun _ v h=>by simp at h)] at e2
 have s02:=s1.trans s2
 have hpH:H p=none:=s1.free hp
 walk_at "rd"
 refine lK (rs.map V.ref) (SqL.of (s02 _ _ ea)) (fun i σ H3=>∃ (u1:Option V) (p:Addr),σ=[some (.ref a),some (.ref b),some (.ref p),u1]/\H p=none/\am H H3/\H3 p=some (.lst (blV n fun k=>∀ v∈ws.take i,KN n v P k))) ?_ ?_ ?_ ?_
 ·exact ⟨_,p,rfl,hpH,s02,e2⟩
 ·rintro i σ H3 _ ⟨u1,p,rfl,hp,s3,e3⟩
  exact SqL.of (s3 _ _ ea)
 ·rintro i x σ H3 hx ⟨u1,p,rfl,hp,s3,e3⟩
  obtain ⟨c,hc,rfl⟩:=om hx
  obtain ⟨v,hv,ev⟩:=hr i c hc
  walk_at "rd"
  refine ⟨c,b,n,v,P,rfl,s3 _ _ ev,s3 _ _ eb,hw v (LZ hv),hn,fun k H4 hk s4 e4=>?_⟩
  walk_at "rd"
  refine ⟨p,k,n,_,_,rfl,s4 _ _ e3,e4,hn,fun k2 H5 hk2 s5 e5=>?_⟩
  have s35:=s4.trans s5
  refine ⟨_,k2,rfl,s3.free (s4.free hk2),s3.trans s35,?_⟩
  rw [e5]
  congr 2
  refine rA fun i _=>?_
  rw [bH hv]
  exact ⟨fun h w hw=>(Mt.mp hw).elim (h.1 w) fun z=>by rw [LW.mp z]; exact h.2,fun h=>⟨fun w hw=>h w (NG _ hw),h v (by simp)⟩⟩
 ·rintro σ H3 ⟨u1,p,rfl,hp,s3,e3⟩
  rw [LR,hlr,MF] at e3
  walk_at "rd"
  exact q _ _ hp s3 e3
noncomputable def Jp (H:Hp) (a:Addr) (ps:List (List Int)):Prop:=∃ rs:List Addr,H a=some (.lst (rs.map V.ref))/\Paired (fun (r:Addr) (xs:List Int)=>H r=some (.tup (xs.map V.int))) rs ps
noncomputable def Dh (n:Nat) (ps:List (List Int)) (v:List Nat) (j:Nat):Prop:=ps.getD j []=ps.getD (v.getD j 0) []
noncomputable def xm (_:Fg):Sp:=fun vs H Q _=>∃ (a b:Addr) (n:Nat) (v:List Nat) (ps:List (List Int)),vs=[.ref a,.ref b]/\Jp H a ps/\ps.length=n/\H b=some (.lst (aw v))/\Within n v/\n<=100000/\
 ∀ p H',H p=none->am H H'->H' p=some (.lst (blV n (KN n v (Dh n ps v))))->Q (.ref p) H'
theorem yr {H:Hp} {rs:List Addr} {ps:List (List Int)} (h:Paired (fun (r:Addr) (xs:List Int)=>H r=some (.tup (xs.map V.int))) rs ps) {i:Nat} (hi:i < ps.length):∃ r,rs[i]?=some r/\H r=some (.tup ((ps.getD i []).map V.int)):=by
 have hl:=M5 h
 obtain ⟨r,hr⟩:∃ r,rs[i]?=some r:=⟨_,LS (by omega)⟩
 obtain ⟨xs,hx,e⟩:=bS h hr
 refine ⟨r,hr,?_⟩
 rw [Md,hx]
 exact e
noncomputable def vO (K:Fg):TS:=(aJ (au (jJ K) [] E0 (aa (ac 1) (aa (bO (pA bw bw K (aa (ac 0) (aa (ac 1) ag))) (fun _ _ _ _=>(gC K 2 (bI (ao 0) (bI (ao 1) gB)))) (fun _ _ _ _=>bL) (fun _ _ _ _=>(tOp (pj (SqT K) false) (ac 0) (tOp (cS K) (ac 2) (ac 1)))) [none,none,some 0]) ag))))
section
open Classical
theorem Jq (h:xm K vs H Q E):vO K { nx:=fun _ H'=>Q .non H',rt:=Q } (start ["piles","view"] vs) H:=by
 obtain ⟨a,b,n,v,ps,rfl,⟨rs,ea,hr⟩,hpl,eb,hv,hn,q⟩:=h
 show vO K _ [some _,some _] _
 unfold vO
 have hlr:rs.length=ps.length:=M5 hr
 have hvl:=hv.1
 walk_at "rd"
 refine rc (S1:=bw) (S2:=bw) (rs.map V.ref) (aw v) (SqL.of ea) (SqL.of eb) (fun H' s=>s.seq (SqL.of ea)) (fun H' s=>s.seq (SqL.of eb)) (by rw [LR]; omega) (fun i acc _=>acc=blV i (Dh n ps v)) (fun _ _=>rfl) ?_ ?_
 ·rintro p hp C s' H' fp i x y T acc H2 H3 hx hy ⟨s2,e2,l2,rfl⟩ hT s3 e3 e4
  obtain ⟨c,hc,rfl⟩:=om hx
  obtain ⟨z,hz,rfl⟩:=fE hy
  have hi:i < n:=by have:=(LU.mp hz).1; omega
  obtain ⟨hz',hzn⟩:=pP hv hi
  rw [hz] at hz'
  have ez:z=v.getD i 0:=L9 hz'
  obtain ⟨c',hc',ec⟩:=yr hr (i:=i) (by omega)
  rw [hc] at hc'
  cases hc'
  obtain ⟨d,hd,ed⟩:=yr hr (i:=z) (by omega)
  have s23:=s2.trans s3
  walk_at "rd"
  refine fC (SqT.of e3) ?_
  walk_at "rd"
  refine bZ (SqL.of (s23 _ _ ea)) (v:=.ref d) (cx (by rw [LX,hd]; rfl)) ?_
  walk_at "rd"
  refine Lm (SqT.of (s23 _ _ ec)) (SqT.of (s23 _ _ ed)) ?_
  refine aX.put hp (fun _ _ _ _ r _=>r) s23 e4 l2 ?_
  rw [fT]
  congr 3
  rw [ez]
  exact cde Iff.rfl
 ·rintro p acc H2 hp s2 e2 rfl
  rw [LR,bg,hlr,hpl,hvl,O2] at e2
  walk_at "rd"
  exact ⟨b,p,n,v,_,rfl,s2 _ _ eb,e2,hv,hn,fun r H3 hr s3 e3=>q r H3 (s2.free hr) (s2.trans s3) e3⟩
end
end
section
open KF
noncomputable def TR (n:Nat) (ws vs:List (List Nat)):Sy->Nat->Prop
 | .holds w c,i=>(ws.getD i []).getD c 0=w
 | .sees h,i=>KN n (vs.getD h []) (Dh n (ws.map fun w=>i9 w (vs.length:Nat)) (vs.getD h [])) i
 | .not s,i=>¬ TR n ws vs s i
 | .and s t,i=>TR n ws vs s i/\TR n ws vs t i
 | .or s t,i=>TR n ws vs s i\/TR n ws vs t i
 | .knows h s,i=>KN n (vs.getD h []) (TR n ws vs s) i
 | .all g s,i=>∀ v∈g.map (fun h=>vs.getD h []),KN n v (TR n ws vs s) i
 | .common g s,i=>∀ j,j < n->eh (lw n (g.map fun h=>vs.getD h [])) i j->TR n ws vs s j
theorem vP {n:Nat} {P:Nat->Nat->Prop} {r:List Nat} (h:rl n P r) {i j:Nat} (hi:i < n) (hj:j < n):r.getD j 0=r.getD i 0↔eh P i j:=by
 have ei:r[i]?=some (r.getD i 0):=by rw [Md,LS (by rw [h.len]; exact hi)]; rfl
 have ej:r[j]?=some (r.getD j 0):=by rw [Md,LS (by rw [h.len]; exact hj)]; rfl
 constructor
 ·intro e
  have c1:=h.conn _ _ ei
  have c2:=h.conn _ _ ej
  rw [e] at c2
  exact .trans c1 (.symm c2)
 ·intro c
  have:=h.same i j hi hj c
  rw [ei,ej] at this
  exact (L9 this).symm
theorem BD {n:Nat} {P:Nat->Nat->Prop} {r:List Nat} (h:rl n P r):Within n r:=⟨h.len,fun x hx=>by
 obtain ⟨i,hi⟩:=Py.mp hx
 have:=h.le i x hi
 have:=(LU.mp hi).1
 rw [h.len] at this
 omega⟩
theorem Jr {n:Nat} {P:Nat->Nat->Prop} {r:List Nat} (h:rl n P r) {F:Nat->Prop} {i:Nat} (hi:i < n):KN n r F i↔∀ j,j < n->eh P i j->F j:=
 ⟨fun k j hj c=>k j hj ((vP h hi hj).mpr c),fun k j hj e=>k j hj ((vP h hi hj).mp e)⟩
theorem vQ:∀ {g:List Nat} {m:Nat},g.Pairwise (· < ·)->(∀ k∈g,k < m)->g.length<=m:=by
 intro g m hp hk
 have go:∀ (l:List Nat) (lo:Nat),l.Pairwise (· < ·)->(∀ k∈l,lo<=k/\k < m)->l.length + lo<=m\/l=[]:=by
  intro l
  induction l with
  | nil=>intro _ _ _; exact .inr rfl
  | cons x r ih=>
   intro lo hp hk
   obtain ⟨h1,h2⟩:=Rc.mp hp
   have hx:=hk x (Mc ..)
   rcases ih (x + 1) h2 (fun k hkr=>⟨h1 k hkr,(hk k (Mh _ hkr)).2⟩) with h | h
   ·left; rw [My]; omega
   ·left; rw [h]; simp; omega
 rcases go g 0 hp (fun k h=>⟨M7 _,hk k h⟩) with h | h
 ·omega
 ·rw [h]; simp
structure Table (H:Hp) (a b:Addr) (c n:Nat) (ws vs:List (List Nat)):Prop where
 deals:bF H a ws
 len:ws.length=n
 cards:∀ w∈ws,w.length=c
 small:n<=100000
 few:c<=1000
 views:gi H b vs
 win:∀ v∈vs,Within n v
 hands:vs.length<=1000
theorem Table.same {H H':Hp} {a b:Addr} {c n:Nat} {ws vs:List (List Nat)} (t:Table H a b c n ws vs) (s:am H H'):Table H' a b c n ws vs:=⟨t.deals.same' s,t.len,t.cards,t.small,t.few,t.views.same s,t.win,t.hands⟩
theorem iW {ws:List (List Nat)} {i:Nat} {w:List Nat} (h:ws[i]?=some w):ws.getD i []=w:=by rw [Md,h]; rfl
theorem sH {H:Hp} {b:Addr} {vs:List (List Nat)} (h:gi H b vs) {k:Nat} (hk:k < vs.length):∃ (rs:List Addr) (r:Addr),H b=some (.lst (rs.map V.ref))/\atI (rs.map V.ref) (k:Int)=some (.ref r)/\H r=some (.lst (aw (vs.getD k [])))/\vs.getD k []∈vs:=by
 obtain ⟨rs,e,hl,hr⟩:=pN h
 obtain ⟨r,hrk⟩:∃ r,rs[k]?=some r:=⟨_,LS (by omega)⟩
 obtain ⟨v,hv,ev⟩:=hr k r hrk
 refine ⟨rs,r,e,cx (by rw [LX,hrk]; rfl),?_,?_⟩
 ·rw [iW hv]; exact ev
 ·rw [iW hv]; exact LZ hv
noncomputable def ce (_:Fg) (m:Nat):Sp:=fun vals H Q _=>∃ (a b:Addr) (x:V) (c n:Nat) (ws vs:List (List Nat)) (s:Sy),vals=[.ref a,.ref b,x]/\Table H a b c n ws vs/\aP H x s/\s.Ok c vs.length/\s.words<=m/\
 ∀ p H',H p=none->am H H'->H' p=some (.lst (blV n (TR n ws vs s)))->Q (.ref p) H'
noncomputable def j6 (K:Fg) (n:Nat):TS:=(ar (aK (tOp (ck K) (ac 2) (tC (.int 0))) (ao 3))
 (ar (bp (bf (tOp rEq (ac 3) (tC (.str "holds")))) (aJ (bO (cp K (ac 0)) (fun _ _ _ _=>(ao 0)) (fun _ _ _ _=>bL) (fun _ _ _ _=>(tOp rEq (tOp (ck K) (ac 0) (tOp (ck K) (ac 1) (tC (.int 2)))) (tOp (ck K) (ac 1) (tC (.int 1))))) [none,some 2])) ba)
 (ar (bp (bf (tOp rEq (ac 3) (tC (.str "sees")))) (aJ (au (xm K) [] E0 (aa (bO (cp K (ac 0)) (fun _ _ _ _=>(ao 0)) (fun _ _ _ _=>bL) (fun _ _ _ _=>(au (ip K) [] E0 (aa (ac 0) (aa (tCB (d7 K) (aa (ac 1) ag)) ag)))) [none,some 1]) (aa (tOp (cS K) (ac 1) (tOp (ck K) (ac 2) (tC (.int 1)))) ag)))) ba)
 (ar (bp (bf (tOp rEq (ac 3) (tC (.str "not")))) (aJ (bO (cp K (au (ce K n) [] E0 (aa (ac 0) (aa (ac 1) (aa (tOp (ck K) (ac 2) (tC (.int 1))) ag))))) (fun _ _ _ _=>(ao 0)) (fun _ _ _ _=>bL) (fun _ _ _ _=>(zm (ac 0))) [none])) ba)
 (ar (bp (bf (tOp rEq (ac 3) (tC (.str "and")))) (aJ (au (sw K) [] E0 (aa (au (ce K n) [] E0 (aa (ac 0) (aa (ac 1) (aa (tOp (ck K) (ac 2) (tC (.int 1))) ag)))) (aa (au (ce K n) [] E0 (aa (ac 0) (aa (ac 1) (aa (tOp (ck K) (ac 2) (tC (.int 2))) ag)))) ag)))) ba)
 (ar (bp (bf (tOp rEq (ac 3) (tC (.str "or")))) (aJ (au (rB K) [] E0 (aa (au (ce K n) [] E0 (aa (ac 0) (aa (ac 1) (aa (tOp (ck K) (ac 2) (tC (.int 1))) ag)))) (aa (au (ce K n) [] E0 (aa (ac 0) (aa (ac 1) (aa (tOp (ck K) (ac 2) (tC (.int 2))) ag)))) ag)))) ba)
 (ar (aK (au (ce K n) [] E0 (aa (ac 0) (aa (ac 1) (aa (tOp (ck K) (ac 2) (tC (.int 2))) ag)))) (ao 4))
 (ar (bp (bf (tOp rEq (ac 3) (tC (.str "knows")))) (aJ (au (jJ K) [] E0 (aa (tOp (cS K) (ac 1) (tOp (ck K) (ac 2) (tC (.int 1)))) (aa (ac 4) ag)))) ba)
 (ar (aK (bO (uk K (tOp (ck K) (ac 2) (tC (.int 1)))) (fun _ _ _ _=>(ao 0)) (fun _ _ _ _=>bL) (fun _ _ _ _=>(tOp (cS K) (ac 1) (ac 0))) [none,some 1]) (ao 5))
 (ar (bp (bf (tOp rEq (ac 3) (tC (.str "all")))) (aJ (au (jc K) [] E0 (aa (ac 5) (aa (ac 4) ag)))) ba)
 (aJ (au (jJ K) [] E0 (aa (au (rq K) [] E0 (aa (tCB (d7 K) (aa (ac 0) ag)) (aa (ac 5) ag))) (aa (ac 4) ag))))))))))))))
noncomputable abbrev BE:List Str:=["deals","views","S","word","inner","some"]
theorem rC {K:Fg} {vs:List V} {H:Hp} {Q:VK} {E:XK} (h:ce K 0 vs H Q E):False:=by
 obtain ⟨a,b,x,c,n,ws,vs,s,rfl,_,_,_,h,_⟩:=h
 have:=s.words_pos
 omega
theorem Di {H:Hp} {rs:List Addr} {ps:List (List Int)} {r:Addr} {xs:List Int} (h:Paired (fun (r:Addr) (xs:List Int)=>H r=some (.tup (xs.map V.int))) rs ps) (e:H r=some (.tup (xs.map V.int))):Paired (fun (r:Addr) (xs:List Int)=>H r=some (.tup (xs.map V.int))) (rs++[r]) (ps++[xs]):=by
 induction h with
 | nil=>exact .cons e .nil
 | cons a _ ih=>exact .cons a ih
theorem Dj {H:Hp} {rs:List Addr} {vs:List (List Nat)} {r:Addr} {v:List Nat} (h:Paired (fun (r:Addr) (v:List Nat)=>H r=some (.lst (aw v))) rs vs) (e:H r=some (.lst (aw v))):Paired (fun (r:Addr) (v:List Nat)=>H r=some (.lst (aw v))) (rs++[r]) (vs++[v]):=by
 induction h with
 | nil=>exact .cons e .nil
 | cons a _ ih=>exact .cons a ih
theorem Fx {K:Fg} {H:Hp} {b e:Addr} {g:List Nat} {vs:List (List Nat)} {Q:VK} {σ₀:St} {gg:CF TG} {tt:CF TT} {te:CF TE} (hV:gi H b vs) (hg:∀ k∈g,k < vs.length) (hgl:g.length<=1000) (eg:H e=some (.tup (aw g)))
  (hs:∀ C s' H' fp (k:Nat) (rs:List Addr) (r:Addr) H2 (R:V->Hp->Prop) (N:Hp->Prop),H2 b=some (.lst (rs.map V.ref))->atI (rs.map V.ref) (k:Int)=some (.ref r)->R (.ref r) H2->gg C s' H' fp (.int (k:Int)) σ₀ H2 fun σ2 H3=>tt C s' H' fp σ2 H3 fun c H4=>if c=true then te C s' H' fp σ2 H4 fun y H5=>R y H5 else N H4)
  (q:∀ p H',H p=none->am H H'->gi H' p (g.map fun h=>vs.getD h [])->Q (.ref p) H'):
  ∃ a',V.ref e=.ref a'/\(∃ xs,SqT K H a' xs)/\∀ p,H p=none->∃ W:Nat->Nat->List V->Hp->Prop,(∃ m,W 0 m [] (upd H p (.lst [])))/\∀ C s' H' fp,ca (Itt K a') (gg C s' H' fp) (tt C s' H' fp) (te C s' H' fp) σ₀ p Q W:=by
 obtain ⟨rs,eb,hl,hr⟩:=pN hV
 refine ⟨e,rfl,⟨_,SqT.of eg⟩,fun p hp=>Gv (xs:=aw g) (fun i acc H2=>am H H2/\H2 p=some (.lst acc)/\acc.length<=i/\∃ ts:List Addr,acc=ts.map V.ref/\Paired (fun (r:Addr) (v:List Nat)=>H r=some (.lst (aw v))) ts ((g.take i).map fun h=>vs.getD h [])) ⟨aR hp _,az,LV _,[],rfl,.nil⟩ (fun i acc H2 _ c=>⟨c.2.1,c.2.2.1⟩) (fun i acc H2 _ c=>c.1.tup (SqT.of eg)) (by rw [bg,LY]; omega) (fun C s' H' fp i x acc H2 hx c=>?_) fun acc H2 c=>?_⟩
 ·obtain ⟨k,hk,rfl⟩:=fE hx
  have hkm:=hg k (LZ hk)
  obtain ⟨r,hrk⟩:∃ r,rs[k]?=some r:=⟨_,LS (by omega)⟩
  obtain ⟨v,hv,ev⟩:=hr k r hrk
  obtain ⟨s2,e2,l2,ts,rfl,ht⟩:=c
  refine hs C s' H' fp k rs r H2 _ _ (s2 _ _ eb) (cx (by rw [LX,hrk]; rfl)) ⟨e2,s2.upd hp _,az,by simp at l2 ⊢; omega,ts++[r],by simp,?_⟩
  rw [bH hk,Ml]
  exact Dj ht (by show H r=some (.lst (aw (vs.getD k []))); rw [iW hv]; exact ev)
 ·obtain ⟨s2,e2,l2,ts,rfl,ht⟩:=c
  rw [bg,MF] at ht
  exact q p H2 hp s2 ⟨ts,e2,Paired.mapP ht fun r v h=>s2 _ _ h⟩
section
open Classical
theorem Ao {K:Fg} {m:Nat} {vals:List V} {H:Hp} {Q:VK} {E:XK} (h:ce K (m + 1) vals H Q E):j6 K m { nx:=fun _ H'=>Q .non H',rt:=Q } (start BE vals) H:=by
 obtain ⟨a,b,x,c,n,ws,vs,s,rfl,T,hS,hok,hw,q⟩:=h
 show j6 K m _ [some _,some _,some _,none,none,none] _
 unfold j6
 obtain ⟨rs,ea,hr⟩:=id T.deals
 have hlr:rs.length=ws.length:=M5 hr
 have hn:=T.small
 have hlen:=T.len
 cases s with
 | holds w k=>
  obtain ⟨t,rfl,et⟩:=hS
  obtain ⟨hwh,hkc⟩:=hok
  walk_at "rd"
  refine bj (SqT.of et) (i:=0) rfl ?_
  walk_at "rd"
  refine d3 rfl ?_
  walk_at "rd"
  refine dJ (rs.map V.ref) (SqL.of ea) (by rw [LR]; omega) (fun i acc _=>acc=blV i (TR n ws vs (.holds w k))) (fun _ _=>rfl) ?_ ?_
  ·rintro p hp C s' H' fp i x acc H2 hx ⟨s2,e2,l2,rfl⟩
   obtain ⟨d,hd,rfl⟩:=om hx
   obtain ⟨u,hu,eu⟩:=bS hr hd
   have huc:=T.cards u (LZ hu)
   have e1:u[k]?=some (u.getD k 0):=by rw [Md,LS (by omega)]; rfl
   walk_at "rd"
   refine bj (SqT.of (s2 _ _ et)) (i:=2) rfl ?_
   walk_at "rd"
   refine bj (SqT.of (s2 _ _ eu)) (lZ e1) ?_
   walk_at "rd"
   refine bj (SqT.of (s2 _ _ et)) (i:=1) rfl ?_
   walk_at "rd"
   refine aX.put hp (fun _ _ _ _ r _=>r) s2 e2 l2 ?_
   rw [fT]
   congr 3
   refine cde ?_
   show _↔(ws.getD i []).getD k 0=w
   rw [iW hu]
   omega
  ·rintro p acc H2 hp s2 e2 rfl
   rw [LR,hlr,hlen] at e2
   exact q _ _ hp s2 e2
 | sees k=>
  obtain ⟨t,rfl,et⟩:=hS
  have hk:k < vs.length:=hok
  walk_at "rd"
  refine bj (SqT.of et) (i:=0) rfl ?_
  walk_at "rd"
  refine aW (by decide) ?_
  walk_at "rd"
  refine d3 rfl ?_
  walk_at "rd"
  obtain ⟨vrs,evb,hvl,_⟩:=pN T.views
  refine dJ (rs.map V.ref) (SqL.of ea) (by rw [LR]; omega) (fun i acc H2=>∃ ts:List Addr,acc=ts.map V.ref/\Paired (fun (r:Addr) (xs:List Int)=>H2 r=some (.tup (xs.map V.int))) ts ((ws.take i).map fun w=>i9 w (vs.length:Nat))) (fun _ _=>⟨[],rfl,.nil⟩) ?_ ?_
  ·rintro p hp C s' H' fp i x acc H2 hx ⟨s2,e2,l2,ts,rfl,ht⟩
   obtain ⟨d,hd,rfl⟩:=om hx
   obtain ⟨u,hu,eu⟩:=bS hr hd
   have huc:=T.cards u (LZ hu)
   have:=T.few
   walk_at "rd"
   refine vj (SqL.of (s2 _ _ evb)) ?_
   walk_at "rd"
   rw [LR,hvl]
   refine ⟨d,u.map fun (s:Nat)=>((s:Nat):Int),(vs.length:Nat),rfl,by rw [<-dC]; exact SqT.of (s2 _ _ eu),by rw [LR]; omega,fun r H3 s3 e3=>?_⟩
   rw [LR] at e3
   refine aX.put hp (fun _ _ _ _ ⟨ts,e,r⟩ k=>⟨ts,e,Paired.mapP r fun _ _ z=>k _ _ z⟩) (s2.trans s3) (s3 _ _ e2) l2 ⟨ts++[r],by simp,?_⟩
   rw [bH hu,Ml]
   exact Di (Paired.mapP ht fun _ _ z=>s3 _ _ z) e3
  ·rintro p acc H2 hp s2 e2 ⟨ts,rfl,ht⟩
   rw [LR,hlr,MF] at ht
   walk_at "rd"
   refine bj (SqT.of (s2 _ _ et)) (i:=1) rfl ?_
   walk_at "rd"
   obtain ⟨vr,r,e1,e3,e4,e5⟩:=sH (T.views.same s2) hk
   refine bZ (SqL.of e1) e3 ?_
   walk_at "rd"
   exact ⟨p,r,n,vs.getD k [],_,rfl,⟨ts,e2,ht⟩,by rw [LR]; exact hlen,e4,T.win _ e5,hn,fun p2 H3 hp2 s3 e6=>q p2 H3 (s2.free hp2) (s2.trans s3) e6⟩
 | not s=>
  obtain ⟨t,y,rfl,et,hy⟩:=hS
  have hw':s.words<=m:=by simp only [Sy.words] at hw; omega
  walk_at "rd"
  refine bj (SqT.of et) (i:=0) rfl ?_
  walk_at "rd"
  refine aW (by decide) ?_
  walk_at "rd"
  refine aW (by decide) ?_
  walk_at "rd"
  refine d3 rfl ?_
  walk_at "rd"
  refine bj (SqT.of et) (i:=1) rfl ?_
  walk_at "rd"
  refine ⟨a,b,y,c,n,ws,vs,s,rfl,T,hy,hok,hw',fun l H1 hl s1 e1=>?_⟩
  walk_at "rd"
  refine dJ _ (SqL.of e1) (by rw [cN]; omega) (fun i acc _=>acc=blV i (TR n ws vs (.not s))) (fun _ _=>rfl) ?_ ?_
  ·rintro p hp C s' H' fp i x acc H2 hx ⟨s2,e2,l2,rfl⟩
   obtain ⟨hi,rfl⟩:=oo hx
   walk_at "rd"
   refine aX.put hp (fun _ _ _ _ r _=>r) s2 e2 l2 ?_
   rw [fT]
   congr 3
   by_cases z:TR n ws vs s i
   ·rw [decide_eq_true z]; exact cdf fun h=>h z
   ·rw [decide_eq_false z]; exact cdt z
  ·rintro p acc H2 hp s2 e2 rfl
   rw [cN] at e2
   exact q _ _ (s1.free hp) (s1.trans s2) e2
 | and s t=>
  obtain ⟨u,y,z,rfl,et,hy,hz⟩:=hS
  have hw1:s.words<=m:=by simp only [Sy.words] at hw; omega
  have hw2:t.words<=m:=by simp only [Sy.words] at hw; omega
  walk_at "rd"
  refine bj (SqT.of et) (i:=0) rfl ?_
  walk_at "rd"
  refine aW (by decide) ?_
  walk_at "rd"
  refine aW (by decide) ?_
  walk_at "rd"
  refine aW (by decide) ?_
  walk_at "rd"
  refine d3 rfl ?_
  walk_at "rd"
  refine bj (SqT.of et) (i:=1) rfl ?_
  walk_at "rd"
  refine ⟨a,b,y,c,n,ws,vs,s,rfl,T,hy,hok.1,hw1,fun l H1 hl s1 e1=>?_⟩
  walk_at "rd"
  refine bj (SqT.of (s1 _ _ et)) (i:=2) rfl ?_
  walk_at "rd"
  refine ⟨a,b,z,c,n,ws,vs,t,rfl,T.same s1,hz.keep s1.keep,hok.2,hw2,fun l2 H2 hl2 s2 e2=>?_⟩
  walk_at "rd"
  exact ⟨l,l2,n,_,_,rfl,s2 _ _ e1,e2,hn,fun p H3 hp s3 e3=>q p H3 (s1.free (s2.free hp)) ((s1.trans s2).trans s3) e3⟩
 | or s t=>
  obtain ⟨u,y,z,rfl,et,hy,hz⟩:=hS
  have hw1:s.words<=m:=by simp only [Sy.words] at hw; omega
  have hw2:t.words<=m:=by simp only [Sy.words] at hw; omega
  walk_at "rd"
  refine bj (SqT.of et) (i:=0) rfl ?_
  walk_at "rd"
  refine aW (by decide) ?_
  walk_at "rd"
  refine aW (by decide) ?_
  walk_at "rd"
  refine aW (by decide) ?_
  walk_at "rd"
  refine aW (by decide) ?_
  walk_at "rd"
  refine d3 rfl ?_
  walk_at "rd"
  refine bj (SqT.of et) (i:=1) rfl ?_
  walk_at "rd"
  refine ⟨a,b,y,c,n,ws,vs,s,rfl,T,hy,hok.1,hw1,fun l H1 hl s1 e1=>?_⟩
  walk_at "rd"
  refine bj (SqT.of (s1 _ _ et)) (i:=2) rfl ?_
  walk_at "rd"
  refine ⟨a,b,z,c,n,ws,vs,t,rfl,T.same s1,hz.keep s1.keep,hok.2,hw2,fun l2 H2 hl2 s2 e2=>?_⟩
  walk_at "rd"
  exact ⟨l,l2,n,_,_,rfl,s2 _ _ e1,e2,hn,fun p H3 hp s3 e3=>q p H3 (s1.free (s2.free hp)) ((s1.trans s2).trans s3) e3⟩
 | knows k s=>
  obtain ⟨t,y,rfl,et,hy⟩:=hS
  have hw':s.words<=m:=by simp only [Sy.words] at hw; omega
  walk_at "rd"
  refine bj (SqT.of et) (i:=0) rfl ?_
  walk_at "rd"
  refine aW (by decide) ?_
  walk_at "rd"
  refine aW (by decide) ?_
  walk_at "rd"
  refine aW (by decide) ?_
  walk_at "rd"
  refine aW (by decide) ?_
  walk_at "rd"
  refine aW (by decide) ?_
  walk_at "rd"
  refine bj (SqT.of et) (i:=2) rfl ?_
  walk_at "rd"
  refine ⟨a,b,y,c,n,ws,vs,s,rfl,T,hy,hok.2,hw',fun l H1 hl s1 e1=>?_⟩
  walk_at "rd"
  refine d3 rfl ?_
  walk_at "rd"
  refine bj (SqT.of (s1 _ _ et)) (i:=1) rfl ?_
  walk_at "rd"
  obtain ⟨vr,r,e2,e3,e4,e5⟩:=sH (T.views.same s1) hok.1
  refine bZ (SqL.of e2) e3 ?_
  walk_at "rd"
  exact ⟨r,l,n,vs.getD k [],_,rfl,e4,e1,T.win _ e5,hn,fun p2 H3 hp2 s3 e6=>q p2 H3 (s1.free hp2) (s1.trans s3) e6⟩
 | all g s=>
  obtain ⟨t,u,y,rfl,et,eu,hy⟩:=hS
  have hw':s.words<=m:=by simp only [Sy.words] at hw; omega
  obtain ⟨⟨hpw,hg⟩,hok'⟩:=hok
  walk_at "rd"
  refine bj (SqT.of et) (i:=0) rfl ?_
  walk_at "rd"
  refine aW (by decide) ?_
  walk_at "rd"
  refine aW (by decide) ?_
  walk_at "rd"
  refine aW (by decide) ?_
  walk_at "rd"
  refine aW (by decide) ?_
  walk_at "rd"
  refine aW (by decide) ?_
  walk_at "rd"
  refine bj (SqT.of et) (i:=2) rfl ?_
  walk_at "rd"
  refine ⟨a,b,y,c,n,ws,vs,s,rfl,T,hy,hok',hw',fun l H1 hl s1 e1=>?_⟩
  walk_at "rd"
  refine aW (by decide) ?_
  walk_at "rd"
  refine bj (SqT.of (s1 _ _ et)) (i:=1) rfl ?_
  refine Fx (T.views.same s1) hg (MD (vQ hpw hg) T.hands) (s1 _ _ eu) ?_ ?_
  ·intro C s' H' fp k rs r H2 R N e2 e3 hR
   walk_at "rd"
   exact bZ (SqL.of e2) e3 hR
  ·intro p H2 hp s2 V2
   walk_at "rd"
   refine d3 rfl ?_
   walk_at "rd"
   refine ⟨p,l,n,_,_,rfl,V2,s2 _ _ e1,?_,hn,fun p2 H3 hp2 s3 e6=>q p2 H3 (s1.free (s2.free hp2)) ((s1.trans s2).trans s3) e6⟩
   intro v hv
   obtain ⟨k,hk,rfl⟩:=Na.mp hv
   obtain ⟨_,_,_,_,_,e5⟩:=sH T.views (hg k hk)
   exact T.win _ e5
 | common g s=>
  obtain ⟨t,u,y,rfl,et,eu,hy⟩:=hS
  have hw':s.words<=m:=by simp only [Sy.words] at hw; omega
  obtain ⟨⟨hpw,hg⟩,hok'⟩:=hok
  walk_at "rd"
  refine bj (SqT.of et) (i:=0) rfl ?_
  walk_at "rd"
  refine aW (by decide) ?_
  walk_at "rd"
  refine aW (by decide) ?_
  walk_at "rd"
  refine aW (by decide) ?_
  walk_at "rd"
  refine aW (by decide) ?_
  walk_at "rd"
  refine aW (by decide) ?_
  walk_at "rd"
  refine bj (SqT.of et) (i:=2) rfl ?_
  walk_at "rd"
  refine ⟨a,b,y,c,n,ws,vs,s,rfl,T,hy,hok',hw',fun l H1 hl s1 e1=>?_⟩
  walk_at "rd"
  refine aW (by decide) ?_
  walk_at "rd"
  refine bj (SqT.of (s1 _ _ et)) (i:=1) rfl ?_
  refine Fx (T.views.same s1) hg (MD (vQ hpw hg) T.hands) (s1 _ _ eu) ?_ ?_
  ·intro C s' H' fp k rs r H2 R N e2 e3 hR
   walk_at "rd"
   exact bZ (SqL.of e2) e3 hR
  ·intro p H2 hp s2 V2
   have s12:=s1.trans s2
   have hwin:∀ v∈g.map (fun h=>vs.getD h []),Within n v:=by
    intro v hv
    obtain ⟨k,hk,rfl⟩:=Na.mp hv
    obtain ⟨_,_,_,_,_,e5⟩:=sH T.views (hg k hk)
    exact T.win _ e5
   walk_at "rd"
   refine aW (by decide) ?_
   walk_at "rd"
   refine vj (SqL.of (s12 _ _ ea)) ?_
   walk_at "rd"
   rw [LR,hlr,hlen]
   refine ⟨n,p,_,rfl,V2,hwin,hn,fun r j H3 hj hjn s3 e3=>?_⟩
   walk_at "rd"
   refine ⟨j,l,n,r,_,rfl,e3,s3 _ _ (s2 _ _ e1),BD hj,hn,fun p2 H4 hp2 s4 e4=>q p2 H4 (s1.free (s2.free (s3.free hp2))) ((s12.trans s3).trans s4) ?_⟩
   rw [e4]
   congr 2
   exact rA fun i hi=>Jr hj hi
end
end
section
variable {K:Fg} {vs:List V} {H:Hp} {Q:VK} {E:XK}
noncomputable def gI (v:List Nat) (as:List IA):List Nat:=bc (v.zip as)
noncomputable def Ap (p:Nat×IA):MK:=.inr [.inl (some ((p.1:Nat):Int)),.inl p.2]
theorem G5 (a b:Nat×IA) (e:Ap a=Ap b):a=b:=by
 have h:=Ow e
 injection h with h1 h2
 injection h1 with h1
 injection h1 with h1
 injection h2 with h2 _
 injection h2 with h2
 obtain ⟨a1,a2⟩:=a
 obtain ⟨b1,b2⟩:=b
 simp only at h1 h2
 rw [show a1=b1 by omega,h2]
theorem BF (v:List Nat) (as:List IA):bc ((v.zip as).map Ap)=gI v as:=tS (f:=Ap) G5 _
noncomputable def uz (_:Fg):Sp:=fun vs H Q _=>∃ (a b:Addr) (v:List Nat) (ys:List V) (as:List IA),vs=[.ref a,.ref b]/\H a=some (.lst (aw v))/\H b=some (.lst ys)/\ys.map iaV=as.map some/\v.length=as.length/\v.length<=100000/\
 ∀ p H',H p=none->am H H'->H' p=some (.lst (aw (gI v as)))->Q (.ref p) H'
theorem Aq {H:Hp}:∀ {ts:List Addr} {v:List Nat} {ys:List V} {as:List IA},su H ts ((aw v).zip ys)->ys.map iaV=as.map some->Paired (b9 H) (ts.map V.ref) ((v.zip as).map Ap)
 | ts,[],ys,as,h,_=>by
  have e:(aw []).zip ys=[]:=rfl
  rw [e] at h
  cases h
  rw [show ([]:List Nat).zip as=[] from rfl]
  exact .nil
 | ts,x :: v,[],as,h,e=>by
  have z:(aw (x :: v)).zip ([]:List V)=[]:=by simp
  rw [z] at h
  cases h
  have:as=[]:=by
   cases as with
   | nil=>rfl
   | cons _ _=>simp at e
  rw [this]
  simp only [List.zip_nil_right]
  exact .nil
 | ts,x :: v,y :: ys,as,h,e=>by
  cases as with
  | nil=>simp at e
  | cons a as=>
   rw [Mo,Mo] at e
   injection e with e1 e2
   have z:(aw (x :: v)).zip (y :: ys)=(.int (x:Int),y) :: (aw v).zip ys:=rfl
   rw [z] at h
   cases h with
   | cons h t=>
    rw [NJ,Mo,Mo]
    exact .cons ⟨_,_,rfl,h,.cons rfl (.cons e1 .nil)⟩ (Aq t e2)
noncomputable def sI (K:Fg):TS:=(aJ (au (eW K) [] E0 (aa (De bw bw K (aa (ac 0) (aa (ac 1) ag))) ag)))
theorem G6 (h:uz K vs H Q E):sI K { nx:=fun _ H'=>Q .non H',rt:=Q } (start ["view","values"] vs) H:=by
 obtain ⟨a,b,v,ys,as,rfl,ea,eb,hi,hl,hn,q⟩:=h
 show sI K _ [some _,some _] _
 unfold sI
 walk_at "rd"
 refine KI ?_
 walk_at "rd"
 refine ⟨a,b,aw v,ys,rfl,SqL.of ea,SqL.of eb,by rw [bg]; omega,fun p H1 hp s1 ⟨ts,e1,pt⟩=>?_⟩
 walk_at "rd"
 refine ⟨p,_,_,true,rfl,e1,Aq pt hi,?_,by rw [LR,Pe]; omega,fun p2 H2 hp2 s2 e2=>?_⟩
 ·intro k hk
  obtain ⟨w,_,rfl⟩:=Na.mp hk
  rfl
 ·rw [BF] at e2
  exact q _ _ (s1.free hp2) (s1.trans s2) e2
end
end L2
section
namespace L2
open KF
section
variable {α β γ:Type} [DecidableEq α] [DecidableEq β] [DecidableEq γ]
theorem rD {ks:List α} {i:Nat} {k:α} (h:ks[i]?=some k):ks[ks.idxOf k]?=some k:=by
 rw [LS (Q9 (LZ h)),List.getElem_idxOf]
theorem kC {ks:List α} {i:Nat} {k:α} (h:ks[i]?=some k):(bc ks)[i]?=some (ks.idxOf k):=by unfold bc; rw [LX,h]; rfl
theorem vR {ks:List α} {j:Nat} {k:α} (h:ks[j]?=some k):ks.idxOf k<=j:=by obtain ⟨_,_,_,hle⟩:=vo (kC h); exact hle
theorem kD {l:List α} {i:Nat} (h:i < l.length):∃ x,l[i]?=some x:=⟨_,LS h⟩
theorem nM {ks:List α} {ls:List β} (hl:ks.length=ls.length) (h:∀ i j,i < ks.length->j < ks.length->(ks[i]?=ks[j]?↔ls[i]?=ls[j]?)):bc ks=bc ls:=by
 refine Oi fun i=>?_
 by_cases hi:i < ks.length
 ·obtain ⟨k,hk⟩:=kD hi
  obtain ⟨l,hL⟩:=kD (l:=ls) (i:=i) (by omega)
  rw [kC hk,kC hL]
  have a1:=rD hk
  have b1:=rD hL
  have la:=vR hk
  have lb:=vR hL
  have e1:ls[ks.idxOf k]?=some l:=by rw [<-hL]; exact ((h _ _ (by omega) hi).mp (a1.trans hk.symm))
  have e2:ks[ls.idxOf l]?=some k:=by rw [<-hk]; exact ((h _ _ (by omega) hi).mpr (b1.trans hL.symm))
  have q1:=vR e1
  have q2:=vR e2
  congr 1
  omega
 ·rw [Mw (by rw [bX]; omega),Mw (by rw [bX]; omega)]
theorem yt {ks:List α} {i j:Nat} (hi:i < ks.length) (hj:j < ks.length):(bc ks)[i]?=(bc ks)[j]?↔ks[i]?=ks[j]?:=by
 obtain ⟨k,hk⟩:=kD hi
 obtain ⟨l,hL⟩:=kD hj
 rw [kC hk,kC hL,hk,hL]
 constructor
 ·intro e
  rw [<-rD hk,<-rD hL,L9 e]
 ·intro e
  rw [L9 e]
theorem tY (ks:List α):bc (bc ks)=bc ks:=nM (bX ks) fun i j hi hj=>by rw [bX] at hi hj; exact yt hi hj
theorem Fy {ks:List α} {i m:Nat} (h:(bc ks)[i]?=some m):ks[m]?=ks[i]?/\m<=i/\i < ks.length:=by
 obtain ⟨k,hk,rfl,hle⟩:=vo h
 exact ⟨(rD hk).trans hk.symm,hle,(LU.mp hk).1⟩
theorem Js {v:List α} {as:List β} (hl:v.length=as.length) {i j:Nat} (hi:i < v.length) (hj:j < v.length):(v.zip as)[i]?=(v.zip as)[j]?↔v[i]?=v[j]?/\as[i]?=as[j]?:=by
 obtain ⟨x,hx⟩:=kD hi
 obtain ⟨y,hy⟩:=kD hj
 obtain ⟨a,ha⟩:=kD (l:=as) (i:=i) (by omega)
 obtain ⟨b,hb⟩:=kD (l:=as) (i:=j) (by omega)
 have e1:(v.zip as)[i]?=some (x,a):=by rw [Ou]; exact ⟨hx,ha⟩
 have e2:(v.zip as)[j]?=some (y,b):=by rw [Ou]; exact ⟨hy,hb⟩
 rw [e1,e2,hx,hy,ha,hb]
 simp only [Mf.injEq,Prod.mk.injEq]
end
end L2
end
namespace L2
open PySem PyProof.Rows
section
open KF
open Classical in
noncomputable def blA (n:Nat) (P:Nat->Prop):List IA:=(Mn n).map fun i=>some (if decide (P i) then 1 else 0)
theorem Ci (n:Nat) (P:Nat->Prop):(blA n P).length=n:=by unfold blA; simp
theorem Fz (n:Nat) (P:Nat->Prop):(blV n P).map iaV=(blA n P).map some:=by
 unfold blV blA
 rw [NQ,NQ]
 exact Nx fun i _=>rfl
open Classical in
theorem rE {α:Type} [DecidableEq α] {ks:List α} {n:Nat} (h:ks.length=n):Within n (bc ks):=⟨by rw [bX,h],fun x hx=>by
 obtain ⟨i,hi⟩:=Py.mp hx
 obtain ⟨_,h1,h2⟩:=Fy hi
 omega⟩
theorem rH {n:Nat} {v:List Nat} {as:List IA} (hv:Within n v) (hl:as.length=n):Within n (gI v as):=rE (by rw [Pe,hv.1,hl,O2])
theorem FA (v:List Nat) (as:List IA):bc (gI v as)=gI v as:=tY _
noncomputable def lrn (vw:List (List Nat)) (g:List Nat) (as:List IA):List (List Nat):=g.foldl (fun w h=>w.set h (gI (w.getD h []) as)) vw
theorem xn (as:List IA):∀ (g:List Nat) (vw:List (List Nat)),(lrn vw g as).length=vw.length
 | [],_=>rfl
 | h :: g,vw=>by
  show (lrn (vw.set h _) g as).length=_
  rw [xn as g,N4]
theorem G7 (vw:List (List Nat)) (g:List Nat) (h:Nat) (as:List IA):lrn vw (g++[h]) as=(lrn vw g as).set h (gI ((lrn vw g as).getD h []) as):=by
 unfold lrn
 rw [T2]
 rfl
theorem FB {ws:List (List Nat)} {i j:Nat} {v:List Nat}:(ws.set i v).getD j []=if i=j/\i < ws.length then v else ws.getD j []:=by
 rw [Md,Md,OT]
 by_cases e:i=j
 ·subst e
  by_cases h:i < ws.length
  ·simp [h]
  ·simp [h,Mw (RO h)]
 ·simp [e]
theorem Cj (as:List IA):∀ (g:List Nat) (vw:List (List Nat)) (i:Nat),g.Nodup->i < vw.length->(lrn vw g as).getD i []=if i∈g then gI (vw.getD i []) as else vw.getD i []
 | [],vw,i,_,_=>by simp [lrn]
 | h :: g,vw,i,nd,hi=>by
  obtain ⟨n1,n2⟩:=N3.mp nd
  show (lrn (vw.set h _) g as).getD i []=_
  rw [Cj as g _ i n2 (by rw [N4]; exact hi),FB]
  by_cases e:i=h
  ·subst e
   rw [if_neg n1,if_pos ⟨rfl,hi⟩,if_pos Mc]
  ·have e':¬ h=i:=fun z=>e z.symm
   have e1:(if h=i/\h < vw.length then gI (vw.getD h []) as else vw.getD i [])=vw.getD i []:=if_neg fun z=>e' z.1
   rw [e1]
   by_cases m:i∈g
   ·rw [if_pos m,if_pos (Mh _ m)]
   ·rw [if_neg m,if_neg fun z=>(L7.mp z).elim e m]
theorem sK {as:List IA} {P:List Nat->Prop} (hs:∀ v,P v->P (gI v as)):∀ (g:List Nat) (vw:List (List Nat)),(∀ h∈g,h < vw.length)->(∀ v∈vw,P v)->∀ v∈lrn vw g as,P v
 | [],_,_,h=>h
 | k :: g,vw,hk,h=>by
  show ∀ v∈lrn (vw.set k _) g as,P v
  refine sK hs g _ (fun x hx=>by rw [N4]; exact hk x (Mh _ hx)) fun v hv=>?_
  rcases List.mem_or_eq_of_mem_set hv with z | z
  ·exact h v z
  ·rw [z]
   have hl:=hk k Mc
   refine hs _ (h _ ?_)
   rw [Md,LS hl]
   exact O3 hl
set_option genInjectivity false in
structure TM where
 c:Nat
 ss:List Nat
 vw:List (List Nat)
 ds:List (List Nat×List V)
noncomputable def TM.ws (T:TM):List (List Nat):=KM.cE (T.ss++[T.c - T.ss.sum]) T.c
noncomputable def TM.n (T:TM):Nat:=T.ws.length
noncomputable def TM.k (T:TM):Nat:=T.ss.length
noncomputable def TM.tr (T:TM) (s:Sy):Nat->Prop:=TR T.n T.ws T.vw s
noncomputable def TM.learn (T:TM) (g:List Nat) (as:List IA) (ys:List V):TM:={ T with vw:=lrn T.vw g as,ds:=T.ds++[(g,ys)] }
noncomputable def TM.word (T:TM) (g:List Nat) (s:Sy):TM:=T.learn g (blA T.n (T.tr s)) (blV T.n (T.tr s))
noncomputable def TM.begun (c:Nat) (ss:List Nat):TM:=⟨c,ss,(Mn ss.length).map fun i=>ja (KM.cE (ss++[c - ss.sum]) c) ((i:Nat):Int),[]⟩
structure TM.Ok (T:TM):Prop where
 pk:rg T.c T.ss
 few:KM.cr T.c T.ss<=2000
 len:T.vw.length=T.k
 win:∀ v∈T.vw,Within T.n v
 can:∀ v∈T.vw,bc v=v
theorem TM.Ok.n2 {T:TM} (h:T.Ok):T.n<=2000:=by
 show (KM.cE _ _).length<=_
 rw [KM.jZ h.pk.sum]
 exact h.few
theorem TM.Ok.cards {T:TM} (h:T.Ok):∀ w∈T.ws,w.length=T.c:=fun w hw=>(KM.ik _ T.c w hw).len
theorem TM.Ok.begun {c:Nat} {ss:List Nat} (pk:rg c ss) (few:KM.cr c ss<=2000):(TM.begun c ss).Ok:=⟨pk,few,by show (Uw _ _).length=ss.length; rw [LR,MU],fun v hv=>by
 obtain ⟨i,_,rfl⟩:=Na.mp hv
 exact rE (by rw [LR]; rfl),fun v hv=>by
 obtain ⟨i,_,rfl⟩:=Na.mp hv
 exact tY _⟩
theorem TM.Ok.learn {T:TM} (h:T.Ok) {g:List Nat} {as:List IA} {ys:List V} (hg:∀ x∈g,x < T.k) (hl:as.length=T.n):(T.learn g as ys).Ok:=
 ⟨h.pk,h.few,by show (lrn T.vw g as).length=_; rw [xn]; exact h.len,sK (fun v hv=>rH hv hl) g T.vw (by rw [h.len]; exact hg) h.win,sK (fun v _=>FA v as) g T.vw (by rw [h.len]; exact hg) h.can⟩
end
section
variable {K:Fg} {vs:List V} {H:Hp} {Q:VK} {E:XK}
theorem Jt {i lo hi:Int} (h1:lo<=i) (h2:i<=hi):cM (.int i) lo hi=true:=by
 show (decide (lo<=i) && decide (i<=hi))=true
 rw [decide_eq_true h1,decide_eq_true h2]
 rfl
noncomputable def cA (_:Fg):Sp:=fun vs H Q _=>∃ (i b:Int),vs=[.int i,.int b]/\Q (.bl (decide (0<=i) && decide (i<=b - 1))) H
noncomputable def lx (K:Fg):TS:=(aJ (au (ee K) [] E0 (aa (ac 0) (aa (tC (.int 0)) (aa (tOp (rI0 fun i j=>.int (i - j)) (ac 1) (tC (.int 1))) ag)))))
theorem BG (h:cA K vs H Q E):lx K { nx:=fun _ H'=>Q .non H',rt:=Q } (start ["thing","bound"] vs) H:=by
 obtain ⟨i,b,rfl,q⟩:=h
 show lx K _ [some _,some _] _
 unfold lx
 walk_at "rd"
 exact ⟨.int i,0,b - 1,rfl,fv.int _,q⟩
theorem eY {i b:Int} (h1:0<=i) (h2:i<=b):(decide (0<=i) && decide (i<=b))=true:=by rw [decide_eq_true h1,decide_eq_true h2]; rfl
noncomputable def jd (_:Fg):Sp:=fun vs H Q _=>∃ (a:Addr) (g:List Nat) (h:Nat),vs=[.ref a,.int h]/\H a=some (.tup (aw g))/\g.Pairwise (· < ·)/\(∀ k∈g,k < h)/\Q (.bl true) H
noncomputable def j7 (K:Fg):TS:=(ar (bp (d5 (tB (tCB (fP K) (aa (ac 0) (aa (tC (.ty "tuple")) ag))))) (aJ (tC (.bl false))) ba)
 (ar (aK (tC (.int 0)) (ao 2))
 (ar (cR (uk K (ac 0)) (ao 3) (ar (bp (d5 (tB (au (ee K) [] E0 (aa (ac 3) (aa (ac 2) (aa (tOp (rI0 fun i j=>.int (i - j)) (ac 1) (tC (.int 1))) ag)))))) (aJ (tC (.bl false))) ba)
 (aK (tOp (rI0 fun i j=>.int (i + j)) (ac 3) (tC (.int 1))) (ao 2))))
 (aJ (tC (.bl true))))))
theorem Ar (h:jd K vs H Q E):j7 K { nx:=fun _ H'=>Q .non H',rt:=Q } (start ["thing","hands","least","hand"] vs) H:=by
 obtain ⟨a,g,h,rfl,e,pw,hg,q⟩:=h
 show j7 K _ [some _,some _,none,none] _
 unfold j7
 walk_at "rd"
 refine eV (.tup e) (jV K) ?_
 walk_at "rd"
 refine vm (aw g) (SqT.of e) (fun i σ H2=>∃ (lo:Int) (st:Option V),σ=[some (.ref a),some (.int h),some (.int lo),st]/\H2=H/\∀ k∈g.drop i,lo<=(k:Int)) ⟨0,none,rfl,rfl,fun k _=>by omega⟩ (fun i σ H2 _ ⟨_,_,_,eH,_⟩=>by subst eH; exact SqT.of e) ?_ ?_
 ·rintro i y σ H2 hy ⟨lo,st,rfl,rfl,hlo⟩
  obtain ⟨k,hk,rfl⟩:=fE hy
  obtain ⟨h1,h2⟩:=LU.mp hk
  have hd:g.drop i=k :: g.drop (i + 1):=by rw [RD h1,h2]
  have hkh:=hg k (LZ hk)
  have pd:(g.drop i).Pairwise (· < ·):=pw.sublist (List.drop_sublist i g)
  rw [hd] at hlo pd
  have l1:=hlo k Mc
  walk_at "rd"
  refine ⟨.int (k:Int),lo,(h:Int) - 1,rfl,fv.int _,?_⟩
  rw [Jt l1 (show (k:Int)<=(h:Int) - 1 by omega)]
  walk_at "rd"
  refine ⟨_,_,rfl,rfl,fun j hj=>?_⟩
  have:=(Rc.mp pd).1 j hj
  omega
 ·rintro σ H2 ⟨lo,st,rfl,rfl,_⟩
  walk_at "rd"
  exact q
noncomputable def nN (_:Fg):Sp:=fun vs H Q _=>∃ (v:V) (s:Sy),vs=[v]/\aP H v s/\∀ (p:Addr) (xs:List V) (H':Hp),am H H'->H p=none->H' p=some (.lst xs)->gU H' xs s.subs->xs.length<=2->Q (.ref p) H'
noncomputable def lz (K:Fg) (G:Glo):TS:=(ar (aK (tOp (C4 G.kvs G.forms) (tC (.ref G.forms)) (tOp (ck K) (ac 0) (tC (.int 0)))) (ao 1))
 (aJ (bO (pA gp gp K (aa (ac 1) (aa (tSl (zX K) (ac 0) (uZ (tC (.int 1))) n9) ag))) (fun _ _ _ _=>(gC K 2 (bI (ao 0) (bI (ao 1) gB)))) (fun _ _ _ _=>(bf (tOp rEq (ac 0) (tC (.str "saying"))))) (fun _ _ _ _=>(ac 1)) [none,none])))
theorem BH {K:Fg} {G:Glo} (g:vK K G) {vs:List V} {H:Hp} {Q:VK} {E:XK} (h:nN K vs H Q E):lz K G { nx:=fun _ H'=>Q .non H',rt:=Q } (start ["saying","form"] vs) H:=by
 obtain ⟨v,s,rfl,hs,q⟩:=h
 obtain ⟨a,items,rfl,ha,hl,hp⟩:=Jm hs
 obtain ⟨f,hf,tf⟩:=g.form s
 show lz K G _ [some _,none] _
 unfold lz
 walk_at "rd"
 refine bj (SqT.of ha) (lL _ _) ?_
 refine Iw hf ?_
 walk_at "rd"
 refine C3 (SqT.of ha) (nG _ _) fun b H1 hb s1 e1=>?_
 rw [uv] at e1
 walk_at "rd"
 have hml:min (s.form.map V.str).length items.length=s.form.length:=by rw [LR,hl]; omega
 refine rc (S1:=gp) (S2:=gp) (s.form.map V.str) items (tf.sq _) (SqT.of e1) (fun H' _=>tf.sq _) (fun H' s'=>SqT.of (s' _ _ e1)) (by rw [LR]; have:=s.form_len; omega) (fun i acc _=>acc=iP (s.form.take i) (items.take i)) (fun _ _=>rfl) ?_ ?_
 ·intro p hp' C s' H' fp i x y T acc H2 H3 hx hy ⟨s2,e2,l2,r2⟩ hT s3 e3 e4
  obtain ⟨z,hz,rfl⟩:∃ z,s.form[i]?=some z/\x=.str z:=by
   rw [LX] at hx
   cases e:s.form[i]? with
   | none=>rw [e] at hx; cases hx
   | some z=>rw [e] at hx; exact ⟨z,rfl,(L9 hx).symm⟩
  have pt:=Fv s.form items i z y hz hy
  subst r2
  refine fC (SqT.of e3) ?_
  walk_at "rd"
  refine dq (fun c=>?_) (fun c=>?_)
  ·walk_at "rd"
   rw [if_pos c] at pt
   exact aX.put hp' (fun _ _ _ _ r _=>r) (s2.trans s3) e4 l2 pt.symm
  ·rw [if_neg c,Nm] at pt
   exact aX.skip (s2.trans s3) e4 l2 pt.symm
 ·intro p acc H2 hp' s2 e2 r2
  rw [hml,<-hl,MF,hl,MF] at r2
  subst r2
  refine q p _ H2 (s1.trans s2) (s1.free hp') e2 (hp.keep (s1.trans s2).keep) (MD (G3 _ _) s.form_len)
noncomputable def je (H:Hp) (c h:Nat) (p:Str) (x:V):Prop:=(p="holder"/\∃ k:Nat,x=.int k/\k<=h)\/(p="card"/\∃ k:Nat,x=.int k/\k < c)\/(p="hand"/\∃ k:Nat,x=.int k/\k < h)\/(p="hands"/\∃ a g,x=.ref a/\H a=some (.tup (aw g))/\g.Pairwise (· < ·)/\∀ k∈g,k < h)\/p="saying"
noncomputable def xo (_:Fg):Sp:=fun vs H Q _=>∃ (c h:Nat) (p:Str) (x:V),vs=[.int c,.int h,.str p,x]/\je H c h p x/\Q (.bl true) H
noncomputable def vS (K:Fg):TS:=(ar (bp (bf (tOp rEq (ac 2) (tC (.str "holder")))) (aJ (au (cA K) [] E0 (aa (ac 3) (aa (tOp (rI0 fun i j=>.int (i + j)) (ac 1) (tC (.int 1))) ag)))) ba)
 (ar (bp (bf (tOp rEq (ac 2) (tC (.str "card")))) (aJ (au (cA K) [] E0 (aa (ac 3) (aa (ac 0) ag)))) ba)
 (ar (bp (bf (tOp rEq (ac 2) (tC (.str "hand")))) (aJ (au (cA K) [] E0 (aa (ac 3) (aa (ac 1) ag)))) ba)
 (ar (bp (bf (tOp rEq (ac 2) (tC (.str "hands")))) (aJ (au (jd K) [] E0 (aa (ac 3) (aa (ac 1) ag)))) ba)
 (aJ (tC (.bl true)))))))
theorem Ju (h:xo K vs H Q E):vS K { nx:=fun _ H'=>Q .non H',rt:=Q } (start ["cards","hands","place","part"] vs) H:=by
 obtain ⟨c,h,p,x,rfl,k,q⟩:=h
 show vS K _ [some _,some _,some _,some _] _
 unfold vS
 rcases k with ⟨rfl,k,rfl,hk⟩ | ⟨rfl,k,rfl,hk⟩ | ⟨rfl,k,rfl,hk⟩ | ⟨rfl,a,g,rfl,e,pw,hg⟩ | rfl
 ·walk_at "rd"
  refine d3 rfl ?_
  walk_at "rd"
  refine ⟨_,_,rfl,?_⟩
  rw [eY (by omega) (by omega)]
  exact q
 ·walk_at "rd"
  refine aW (by decide +kernel) ?_
  walk_at "rd"
  refine d3 rfl ?_
  walk_at "rd"
  refine ⟨_,_,rfl,?_⟩
  rw [eY (by omega) (by omega)]
  exact q
 ·walk_at "rd"
  refine aW (by decide +kernel) ?_
  walk_at "rd"
  refine aW (by decide +kernel) ?_
  walk_at "rd"
  refine d3 rfl ?_
  walk_at "rd"
  refine ⟨_,_,rfl,?_⟩
  rw [eY (by omega) (by omega)]
  exact q
 ·walk_at "rd"
  refine aW (by decide +kernel) ?_
  walk_at "rd"
  refine aW (by decide +kernel) ?_
  walk_at "rd"
  refine aW (by decide +kernel) ?_
  walk_at "rd"
  refine d3 rfl ?_
  walk_at "rd"
  exact ⟨a,g,h,rfl,e,pw,hg,q⟩
 ·walk_at "rd"
  refine aW (by decide +kernel) ?_
  walk_at "rd"
  refine aW (by decide +kernel) ?_
  walk_at "rd"
  refine aW (by decide +kernel) ?_
  walk_at "rd"
  refine aW (by decide +kernel) ?_
  walk_at "rd"
  exact q
theorem G8 {H:Hp} {c h:Nat} {v:V} {s:Sy} (hs:aP H v s) (ok:s.Ok c h):∃ a items,v=.ref a/\H a=some (.tup (.str s.word :: items))/\items.length=s.form.length/\∀ (i:Nat) (p:Str) (x:V),s.form[i]?=some p->items[i]?=some x->je H c h p x:=by
 have one:∀ {p:Str} {x:V},je H c h p x->∀ (i:Nat) (p':Str) (x':V),[p][i]?=some p'->[x][i]?=some x'->je H c h p' x':=fun f i p' x' hp hx=>by
  match i,hp,hx with
  | 0,hp,hx=>cases hp; cases hx; exact f
 have two:∀ {p q:Str} {x y:V},je H c h p x->je H c h q y->∀ (i:Nat) (p':Str) (x':V),[p,q][i]?=some p'->[x,y][i]?=some x'->je H c h p' x':=fun f g i p' x' hp hx=>by
  match i,hp,hx with
  | 0,hp,hx=>cases hp; cases hx; exact f
  | 1,hp,hx=>cases hp; cases hx; exact g
 have sy:∀ {x:V},je H c h "saying" x:=.inr (.inr (.inr (.inr rfl)))
 cases s with
 | holds w k=>obtain ⟨a,e,q⟩:=hs; exact ⟨a,_,e,q,rfl,two (.inl ⟨rfl,w,rfl,ok.1⟩) (.inr (.inl ⟨rfl,k,rfl,ok.2⟩))⟩
 | sees k=>obtain ⟨a,e,q⟩:=hs; exact ⟨a,_,e,q,rfl,one (.inr (.inr (.inl ⟨rfl,k,rfl,ok⟩)))⟩
 | not s=>obtain ⟨a,x,e,q,r⟩:=hs; exact ⟨a,_,e,q,rfl,one sy⟩
 | and s t=>obtain ⟨a,x,y,e,q,r,r'⟩:=hs; exact ⟨a,_,e,q,rfl,two sy sy⟩
 | or s t=>obtain ⟨a,x,y,e,q,r,r'⟩:=hs; exact ⟨a,_,e,q,rfl,two sy sy⟩
 | knows k s=>obtain ⟨a,x,e,q,r⟩:=hs; exact ⟨a,_,e,q,rfl,two (.inr (.inr (.inl ⟨rfl,k,rfl,ok.1⟩))) sy⟩
 | all g s=>obtain ⟨a,b,x,e,q,j,r⟩:=hs; exact ⟨a,_,e,q,rfl,two (.inr (.inr (.inr (.inl ⟨rfl,b,g,rfl,j,ok.1.1,ok.1.2⟩)))) sy⟩
 | common g s=>obtain ⟨a,b,x,e,q,j,r⟩:=hs; exact ⟨a,_,e,q,rfl,two (.inr (.inr (.inr (.inl ⟨rfl,b,g,rfl,j,ok.1.1,ok.1.2⟩)))) sy⟩
theorem je.same {H H':Hp} (s:am H H') {c h:Nat} {p:Str} {x:V} (f:je H c h p x):je H' c h p x:=by
 rcases f with f | f | f | ⟨e,a,g,e2,q,r⟩ | f
 ·exact .inl f
 ·exact .inr (.inl f)
 ·exact .inr (.inr (.inl f))
 ·exact .inr (.inr (.inr (.inl ⟨e,a,g,e2,s _ _ q,r⟩)))
 ·exact .inr (.inr (.inr (.inr f)))
noncomputable def pQ (_:Fg):Sp:=fun vs H Q _=>∃ (c h:Nat) (v:V) (s:Sy),vs=[.int c,.int h,v]/\aP H v s/\s.Ok c h/\∀ H',am H H'->Q (.bl true) H'
noncomputable def m5 (K:Fg) (G:Glo):TS:=(ar (bp (tOr (d5 (tB (tCB (fP K) (aa (ac 2) (aa (tC (.ty "tuple")) ag))))) (bf (tOp rEq (tCB (d7 K) (aa (ac 2) ag)) (tC (.int 0))))) (aJ (tC (.bl false))) ba)
 (ar (bp (tOr (d5 (tB (tCB (fP K) (aa (tOp (ck K) (ac 2) (tC (.int 0))) (aa (tC (.ty "str")) ag))))) (bf (tOp (zY G.kvs G.forms true) (tOp (ck K) (ac 2) (tC (.int 0))) (tC (.ref G.forms))))) (aJ (tC (.bl false))) ba)
 (ar (aK (tOp (C4 G.kvs G.forms) (tC (.ref G.forms)) (tOp (ck K) (ac 2) (tC (.int 0)))) (ao 3))
 (ar (bp (bf (tOp rNe (tCB (d7 K) (aa (ac 2) ag)) (tOp (rI0 fun i j=>.int (i + j)) (tC (.int 1)) (tCB (d7 K) (aa (ac 3) ag))))) (aJ (tC (.bl false))) ba)
 (aJ (tCB (CZ K) (aa (bO (pA gp gp K (aa (ac 3) (aa (tSl (zX K) (ac 2) (uZ (tC (.int 1))) n9) ag))) (fun _ _ _ _=>(gC K 2 (bI (ao 0) (bI (ao 1) gB)))) (fun _ _ _ _=>bL) (fun _ _ _ _=>(au (xo K) [] E0 (aa (ac 2) (aa (ac 3) (aa (ac 0) (aa (ac 1) ag)))))) [none,none,some 0,some 1]) ag)))))))
theorem KP {H:Hp} {Q:VK} {kvs:List (Str×V)} {a:Addr} {k:Str} {v:V} (e:kvs.lookup k=some v) (h:Q (.bl false) H):zY kvs a true (.str k) (.ref a) H Q:=⟨rfl,k,rfl,by rw [e]; exact h⟩
theorem G9 (K:Fg):M1 K (.type "str") (.type "str")=some true:=Al K "str"
theorem Dl {K:Fg} {G:Glo} (g:vK K G) {vs:List V} {H:Hp} {Q:VK} {E:XK} (h:pQ K vs H Q E):m5 K G { nx:=fun _ H'=>Q .non H',rt:=Q } (start ["cards","hands","thing","form"] vs) H:=by
 obtain ⟨c,h,v,s,rfl,hs,ok,q⟩:=h
 obtain ⟨a,items,rfl,ha,hl,hf⟩:=G8 hs ok
 obtain ⟨f,hk,tf⟩:=g.form s
 have hfl:=s.form_len
 show m5 K G _ [some _,some _,some _,none] _
 unfold m5
 walk_at "rd"
 refine eV (.tup ha) (jV K) ?_
 walk_at "rd"
 refine aW (by show ¬ (((items.length + 1:Nat):Int)=0); omega) ?_
 walk_at "rd"
 refine bj (SqT.of ha) (lL _ _) ?_
 walk_at "rd"
 refine eV (.str _) (G9 K) ?_
 walk_at "rd"
 refine bj (SqT.of ha) (lL _ _) ?_
 walk_at "rd"
 refine KP hk ?_
 walk_at "rd"
 refine bj (SqT.of ha) (lL _ _) ?_
 refine Iw hk ?_
 walk_at "rd"
 refine Cc (tf.sq _) ?_
 walk_at "rd"
 rw [LR]
 refine zU (fun n=>absurd (show ((items.length + 1:Nat):Int)=1 + ((s.form.length:Nat):Int) by omega) n) (fun _=>?_)
 walk_at "rd"
 refine C3 (SqT.of ha) (nG _ _) fun b H1 hb s1 e1=>?_
 rw [uv] at e1
 walk_at "rd"
 refine rc (S1:=gp) (S2:=gp) (s.form.map V.str) items (tf.sq _) (SqT.of e1) (fun H' _=>tf.sq _) (fun H' s'=>SqT.of (s' _ _ e1)) (by rw [LR]; omega) (fun i acc _=>acc=(MI i true).map V.bl) (fun _ _=>rfl) ?_ ?_
 ·rintro p hp C s' H' fp i x y T acc H2 H3 hx hy ⟨s2,e2,l2,rfl⟩ hT s3 e3 e4
  obtain ⟨z,hz,rfl⟩:∃ z,s.form[i]?=some z/\x=.str z:=by
   rw [LX] at hx
   cases e:s.form[i]? with
   | none=>rw [e] at hx; cases hx
   | some z=>rw [e] at hx; exact ⟨z,rfl,(L9 hx).symm⟩
  refine fC (SqT.of e3) ?_
  walk_at "rd"
  refine ⟨c,h,z,y,rfl,(hf i z y hz hy).same ((s1.trans s2).trans s3),?_⟩
  exact aX.put hp (fun _ _ _ _ r _=>r) (s2.trans s3) e4 l2 (by rw [PC,Ml]; rfl)
 ·rintro p acc H2 hp s2 e2 rfl
  walk_at "rd"
  refine ⟨p,_,rfl,SqL.of e2,?_⟩
  rw [show ∀ n:Nat,(MI n true).all id=true from fun n=>by simp]
  exact q _ (s1.trans s2)
noncomputable def jf (_:Fg):Sp:=fun vs H Q _=>∃ (l:Addr) (xs:List V) (ss:List Sy),vs=[.ref l]/\H l=some (.lst xs)/\gU H xs ss/\xs.length<=100/\∀ (p:Addr) (ys:List V) (H':Hp),am H H'->H p=none->H' p=some (.lst ys)->gU H' ys (ss.flatMap Sy.subs)->Q (.ref p) H'
noncomputable def gX (K:Fg):TS:=(ar (aK (d8 ag) (ao 1))
 (ar (cR (cp K (ac 0)) (ao 2) (cV (tBM K "list" wZ (ac 1) (aa (au (nN K) [] E0 (aa (ac 2) ag)) ag))))
 (aJ (ac 1))))
theorem KQ {α β:Type} {F:α->β->Prop} {l l':List α} {m m':List β} (h:Paired F l m) (q:Paired F l' m'):Paired F (l++l') (m++m'):=by
 induction h with
 | nil=>exact q
 | cons x _ ih=>exact .cons x ih
theorem Ck:∀ ss:List Sy,(ss.flatMap Sy.subs).length<=2 * ss.length
 | []=>LV _
 | s :: r=>by
  have:=Ck r
  have:s.subs.length<=2:=by cases s <;> simp [Sy.subs]
  rw [Ry,Mj,My]
  omega
theorem vT (h:jf K vs H Q E):gX K { nx:=fun _ H'=>Q .non H',rt:=Q } (start ["sayings","parts","saying"] vs) H:=by
 obtain ⟨l,xs,ss,rfl,el,hx,h100,q⟩:=h
 show gX K _ [some _,none,none] _
 unfold gX
 have lxs:=gH hx
 walk_at "rd"
 refine ⟨by simp [LY],fun p H1 hp s1 e1=>?_⟩
 walk_at "rd"
 refine lK xs (SqL.of (s1 _ _ el)) (fun i σ H2=>∃ (u:Option V) (ys:List V),σ=[some (.ref l),some (.ref p),u]/\am H H2/\H2 p=some (.lst ys)/\gU H2 ys ((ss.take i).flatMap Sy.subs)) ⟨none,[],rfl,s1,e1,.nil⟩ ?_ ?_ ?_
 ·rintro i σ H2 hi ⟨u,ys,rfl,s2,_⟩
  exact SqL.of (s2 _ _ el)
 ·rintro i x σ H2 hxi ⟨u,ys,rfl,s2,e2,p2⟩
  obtain ⟨s,hs,is⟩:=mZ hx hxi
  have lys:=gH p2
  have:=Ck (ss.take i)
  rw [NL] at this
  walk_at "rd"
  refine ⟨.inl ⟨rfl,_,SqL.of e2⟩,?_⟩
  walk_at "rd"
  refine ⟨x,s,rfl,is.keep s2.keep,fun p3 zs H3 s3 hp3 e3 y3 l3=>?_⟩
  walk_at "rd"
  refine GI (s3 _ _ e2) e3 (by rw [LY]; omega) fun H4 o4 e4=>?_
  have k4:dR H3 H4:=fun b ws e=>(o4 b fun z=>by rw [z,s3 _ _ e2] at e; cases e).trans e
  refine ⟨_,ys++zs,rfl,(s2.trans s3).off hp o4,e4,?_⟩
  rw [NP,hs,QQ]
  refine KQ ((p2.keep s3.keep).keep k4) ?_
  show Paired _ zs (s.subs++[])
  rw [Nm]
  exact y3.keep k4
 ·rintro σ H2 ⟨u,ys,rfl,s2,e2,p2⟩
  rw [lxs,MF] at p2
  walk_at "rd"
  exact q p ys H2 s2 hp e2 p2
theorem As:∀ ss:List Sy,(ss.map Sy.words).sum=ss.length + ((ss.flatMap Sy.subs).map Sy.words).sum
 | []=>rfl
 | s :: r=>by
  rw [Mo,Mv,As r,s.words_subs,Ry,Ml,NH,My]
  omega
theorem Jv {c h:Nat} {s:Sy} (ok:s.Ok c h):∀ t∈s.subs,t.Ok c h:=by
 cases s with
 | holds w k=>exact fun t ht=>nomatch ht
 | sees k=>exact fun t ht=>nomatch ht
 | not s=>exact fun t ht=>by rw [LW.mp ht]; exact ok
 | and s t=>exact fun u hu=>(L7.mp hu).elim (fun z=>z ▸ ok.1) fun z=>LW.mp z ▸ ok.2
 | or s t=>exact fun u hu=>(L7.mp hu).elim (fun z=>z ▸ ok.1) fun z=>LW.mp z ▸ ok.2
 | knows k s=>exact fun t ht=>by rw [LW.mp ht]; exact ok.2
 | all g s=>exact fun t ht=>by rw [LW.mp ht]; exact ok.2
 | common g s=>exact fun t ht=>by rw [LW.mp ht]; exact ok.2
noncomputable def l9 (_:Fg):Sp:=fun vs H Q _=>∃ (c h:Nat) (v:V) (s:Sy),vs=[.int c,.int h,v]/\aP H v s/\s.Ok c h/\s.words<=30/\∀ H',am H H'->Q (.bl true) H'
noncomputable def j8 (K:Fg):TS:=(ar (bp (tOr (d5 (tB (au (im K) [] E0 (aa (ac 0) ag)))) (d5 (tB (au (im K) [] E0 (aa (ac 1) ag))))) (aJ (tC (.bl false))) ba)
 (ar (aK (tC (.int 0)) (ao 3))
 (ar (aK (d8 (aa (ac 2) ag)) (ao 4))
 (ar (nW (bf (tOp (rI0 fun i j=>.bl (decide (j < i))) (tCB (d7 K) (aa (ac 4) ag)) (tC (.int 0)))) (ar (aK (tOp (rI0 fun i j=>.int (i + j)) (ac 3) (tCB (d7 K) (aa (ac 4) ag))) (ao 3))
 (ar (bp (tOr (bf (tOp (rI0 fun i j=>.bl (decide (j < i))) (ac 3) (tC (.int 30)))) (d5 (tB (tCB (CZ K) (aa (bO (cp K (ac 4)) (fun _ _ _ _=>(ao 0)) (fun _ _ _ _=>bL) (fun _ _ _ _=>(au (pQ K) [] E0 (aa (ac 1) (aa (ac 2) (aa (ac 0) ag))))) [none,some 0,some 1]) ag))))) (aJ (tC (.bl false))) ba)
 (aK (au (jf K) [] E0 (aa (ac 4) ag)) (ao 4)))))
 (aJ (tC (.bl true)))))))
theorem At (h:l9 K vs H Q E):j8 K { nx:=fun _ H'=>Q .non H',rt:=Q } (start ["cards","hands","thing","words","level"] vs) H:=by
 obtain ⟨c,h,v,s,rfl,hs,ok,hw,q⟩:=h
 show j8 K _ [some _,some _,some _,none,none] _
 unfold j8
 walk_at "rd"
 refine ⟨_,rfl,fv.int _,?_⟩
 walk_at "rd"
 refine CV ?_
 walk_at "rd"
 refine ⟨_,rfl,fv.int _,?_⟩
 walk_at "rd"
 refine CV ?_
 walk_at "rd"
 refine ⟨by simp [LY],fun p H1 hp s1 e1=>?_⟩
 refine kr ?_
 dsimp only [Oa,Ob]
 refine bu ?_
 refine CY (fun m σ H2=>∃ (W:Nat) (l:Addr) (xs:List V) (ss:List Sy),σ=[some (.int c),some (.int h),some v,some (.int W),some (.ref l)]/\am H H2/\H2 l=some (.lst xs)/\gU H2 xs ss/\(∀ t∈ss,t.Ok c h)/\m=(ss.map Sy.words).sum/\W + m<=30) s.words
  ⟨0,p,[v],[s],rfl,s1,e1,.cons (hs.keep s1.keep) .nil,fun t ht=>by rw [LW.mp ht]; exact ok,by simp,by omega⟩ ?_
 rintro m σ H2 ⟨W,l,xs,ss,rfl,s2,e2,hx,hok,rfl,hW⟩
 have lxs:=gH hx
 have e:=As ss
 walk_at "rd"
 refine dq (fun c0=>?_) (fun c0=>?_)
 ·refine CW ?_
  walk_at "rd"
  refine aW (by omega) ?_
  walk_at "rd"
  refine dJ xs (SqL.of e2) (by omega) (fun i acc _=>acc=(MI i true).map V.bl) (fun _ _=>rfl) ?_ ?_
  ·rintro p' hp' C s' H' fp i x acc H3 hxi ⟨s3,e3,l3,rfl⟩
   obtain ⟨t,ht,it⟩:=mZ hx hxi
   walk_at "rd"
   refine ⟨c,h,x,t,rfl,it.keep s3.keep,hok t (LZ ht),fun H4 s4=>?_⟩
   exact aX.put hp' (fun _ _ _ _ r _=>r) (s3.trans s4) (s4 _ _ e3) l3 (by rw [PC,Ml]; rfl)
  ·rintro p' acc H3 hp' s3 e3 rfl
   walk_at "rd"
   refine ⟨p',_,rfl,SqL.of e3,?_⟩
   rw [show ∀ n:Nat,(MI n true).all id=true from fun n=>by simp]
   walk_at "rd"
   refine ⟨l,xs,ss,rfl,s3 _ _ e2,hx.keep s3.keep,by omega,fun p4 ys H4 s4 hp4 e4 y4=>?_⟩
   walk_at "rd"
   refine ⟨_,by omega,W + xs.length,p4,ys,_,rfl,(s2.trans s3).trans s4,e4,y4,fun t ht=>?_,rfl,by omega⟩
   obtain ⟨u,hu,ht⟩:=RY.mp ht
   exact Jv (hok u hu) t ht
 ·walk_at "rd"
  exact q _ s2
end
section
variable {K:Fg} {vs:List V} {H:Hp} {Q:VK} {E:XK}
noncomputable def j9 (K:Fg):TS:=(ar (aK (tOp (rI (fun _ j=>0 < j) fun i j=>.int (i % j)) (au (bi K) [] E0 (aa (ac 0) (aa (ac 1) ag))) (tC (.int 8))) (ao 3))
 (ar (bp (bf (tOp rEq (tOp (rI (fun _ j=>0 < j) fun i j=>.int (i % j)) (tOp (rI fO fun i j=>.int (i / j)) (au (bi K) [] E0 (aa (ac 0) (aa (ac 1) ag))) (tC (.int 8))) (tC (.int 16))) (tC (.int 5)))) (aK (tOp (rI0 fun i j=>.int (i + j)) (tC (.int 8)) (tOp (rI (fun _ j=>0 < j) fun i j=>.int (i % j)) (tOp (rI fO fun i j=>.int (i / j)) (au (bi K) [] E0 (aa (ac 0) (aa (ac 1) ag))) (tC (.int 128))) (tC (.int 5)))) (ao 3)) ba)
 (ar (aK (d8 ag) (ao 4))
 (ar (cR (fq (aa (tOp (rI0 fun i j=>.int (i + j)) (tC (.int 1)) (tOp (rI (fun _ j=>0 < j) fun i j=>.int (i % j)) (au (bi K) [] E0 (aa (ac 0) (aa (tOp (rI0 fun i j=>.int (i + j)) (ac 1) (tC (.int 1))) ag))) (tC (.int 5)))) ag)) (ao 5) (cV (tBM K "list" eO (ac 4) (aa (tOp (rI (fun _ j=>0 < j) fun i j=>.int (i % j)) (au (bi K) [] E0 (aa (ac 0) (aa (tOp (rI0 fun i j=>.int (i + j)) (tOp (rI0 fun i j=>.int (i + j)) (ac 1) (tC (.int 2))) (ac 5)) ag))) (tOp (rI0 fun i j=>.int (i + j)) (tCB C0 (aa (tC (.int 4)) (aa (tOp (rI0 fun i j=>.int (i - j)) (ac 3) (tCB (uu K) (aa (ac 4) ag))) ag))) (tC (.int 1)))) ag))))
 (ar (nW (bf (tOp (rI0 fun i j=>.bl (decide (j < i))) (au (iw K) [] E0 (aa (ac 3) (aa (ac 4) ag))) (ac 2))) (ar (bp (bf (tOp (rI0 fun i j=>.bl (decide (j < i))) (tCB (w9 K) (aa (ac 4) ag)) (tOp (rI0 fun i j=>.int (i - j)) (ac 3) (tCB (uu K) (aa (ac 4) ag))))) (aK (tOp (rI0 fun i j=>.int (i - j)) (tCB (w9 K) (aa (ac 4) ag)) (tC (.int 1))) (oW (ac 4) (tBM K "list" zT (ac 4) (aa (tCB (w9 K) (aa (ac 4) ag)) ag)) mP)) ba)
 (aK (tOp (rI0 fun i j=>.int (i - j)) (ac 3) (tC (.int 1))) (ao 3))))
 (aJ (dg (aa (ac 3) (aa (ac 4) ag)))))))))
theorem Au (h:lY K vs H Q E):j9 K { nx:=fun _ H'=>Q .non H',rt:=Q } (start ["_law_script","_law_at","_law_most","_law_cards","_law_sizes","_law_k"] vs) H:=by
 obtain ⟨a,ns,at_,most,rfl,hSc,ha0,ha1,hm,g⟩:=h
 show j9 K _ [some _,some _,some _,none,none,none] _
 unfold j9
 refine bu ?_
 walk_at "rs"
 refine ⟨a,ns,at_,rfl,hSc,ha0,by omega,?_⟩
 walk_at "rs"
 refine fB fun NX hNX=>?_
 have key:∀ c:Nat,c<=12->NX [some (.ref a),some (.int at_),some (.int most),some (.int c),none,none] H:=by
  intro c hc
  refine hNX _ _ ?_
  refine bu ?_
  walk_at "rs"
  refine ⟨by simp [LY],fun q H1 hq s1 e1=>?_⟩
  walk_at "rs"
  refine fB fun NX hNX=>?_
  have hSc1:=hSc.same s1
  walk_at "rs"
  refine ⟨a,ns,at_ + 1,rfl,hSc1,by omega,by omega,?_⟩
  walk_at "rs"
  refine gE (1 + bC ns (at_ + 1) % 5).toNat rfl (by omega) (by omega) (fun i σ H2=>∃ (ss:List Nat) (st:Option V),σ=[some (.ref a),some (.int at_),some (.int most),some (.int c),some (.ref q),st]/\am H H2/\H2 q=some (.lst (aw ss))/\ss.length=i/\ss.sum<=c) ⟨[],none,rfl,s1,e1,rfl,M7 _⟩ ?_ ?_
  ·rintro i σ H2 hi ⟨ss,st,rfl,s2,e2,hl,hs⟩
   have hSc2:=hSc.same s2
   walk_at "rd"
   refine ⟨vi e2,?_⟩
   walk_at "rd"
   refine ⟨a,ns,at_ + 2 + (i:Int),rfl,hSc2,by omega,by omega,?_⟩
   walk_at "rd"
   refine C1 (ns:=ss.map fun (s:Nat)=>((s:Nat):Int)) (by rw [<-dC]; exact SqL.of e2) ?_
   walk_at "rd"
   rw [iN]
   obtain ⟨lst,hlst,hlst2⟩:∃ l:Nat,(if (c:Int) - ((ss.sum:Nat):Int) < 4 then (c:Int) - ((ss.sum:Nat):Int) else 4)=(l:Int)/\l<=c - ss.sum:=by
    by_cases h:(c:Int) - ((ss.sum:Nat):Int) < 4
    ·exact ⟨c - ss.sum,by rw [if_pos h]; omega,LV _⟩
    ·exact ⟨4,by rw [if_neg h]; rfl,by omega⟩
   rw [hlst]
   walk_at "rd"
   obtain ⟨z,hz,hz2⟩:∃ z:Nat,bC ns (at_ + 2 + (i:Int)) % ((lst:Int) + 1)=(z:Int)/\z<=lst:=by
    have m1:=OL (bC ns (at_ + 2 + (i:Int))) (b:=(lst:Int) + 1) (by omega)
    have m2:=Os (bC ns (at_ + 2 + (i:Int))) (b:=(lst:Int) + 1) (by omega)
    exact ⟨(bC ns (at_ + 2 + (i:Int)) % ((lst:Int) + 1)).toNat,by omega,by omega⟩
   rw [hz]
   refine fR e2 (by rw [bg,LY]; omega) fun H4 o4 e4=>?_
   rw [gG] at e4
   refine ⟨ss++[z],_,rfl,s2.off hq o4,e4,by rw [Mj,hl]; rfl,?_⟩
   rw [NH,Mv,Px]
   omega
  ·rintro σ H2 ⟨ss,st,rfl,s2,e2,hl,hs⟩
   exact hNX _ _ (Fq s2 hq e2 (by omega) (by omega) hs hc hm g)
 walk_at "rs"
 refine ⟨a,ns,at_,rfl,hSc,ha0,by omega,?_⟩
 walk_at "rs"
 refine dq (fun hb=>?_) (fun hb=>?_)
 ·walk_at "rs"
  refine ⟨a,ns,at_,rfl,hSc,ha0,by omega,?_⟩
  walk_at "rs"
  have:=key (8 + bC ns at_ / 128 % 5).toNat (by omega)
  rw [show (((8 + bC ns at_ / 128 % 5).toNat:Nat):Int)=8 + bC ns at_ / 128 % 5 by omega] at this
  exact this
 ·walk_at "rs"
  have:=key (bC ns at_ % 8).toNat (by omega)
  rw [show (((bC ns at_ % 8).toNat:Nat):Int)=bC ns at_ % 8 by omega] at this
  exact this
end
theorem aX.putW {H H4:Hp} {p:Addr} {R:Nat->List V->Hp->Prop} {i:Nat} {acc:List V} {y:V} (hp:H p=none) (s:am H H4) (e:H4 p=some (.lst acc)) (l:acc.length<=i) (r:∀ H6,Off p H4 H6->R (i + 1) (acc++[y]) H6):
  H4 p=some (.lst acc)/\aX H p R (i + 1) (acc++[y]) (upd H4 p (.lst (acc++[y]))):=
 ⟨e,s.upd hp _,az,by rw [Mj]; exact SW l 1,r _ iV⟩
section
variable {g:CF TG} {tt:CF TT} {te:CF TE} {σ₀:St} {Q:VK} {H:Hp} {K:Fg}
theorem Ha {a:Addr} (xs:List V) (hx:SqL K H a xs) (hz:xs.length<=1000000) (R:Addr->Nat->List V->Hp->Prop) (h0:∀ p H',am H H'->R p 0 [] H')
  (hs:∀ p,H p=none->∀ C s' H' fp,∀ i x acc H2,xs[i]?=some x->aX H p (R p) i acc H2->g C s' H' fp x σ₀ H2 fun σ2 H3=>tt C s' H' fp σ2 H3 fun b H4=>if b=true then te C s' H' fp σ2 H4 fun y H5=>H5 p=some (.lst acc)/\aX H p (R p) (i + 1) (acc++[y]) (upd H5 p (.lst (acc++[y]))) else aX H p (R p) (i + 1) acc H4)
  (hd:∀ p acc H2,H p=none->am H H2->H2 p=some (.lst acc)->R p xs.length acc H2->Q (.ref p) H2):
  ∃ a',V.ref a=.ref a'/\(∃ xs,SqL K H a' xs)/\∀ p,H p=none->∃ W:Nat->Nat->List V->Hp->Prop,(∃ m,W 0 m [] (upd H p (.lst [])))/\∀ C s' H' fp,ca (Itl K a') (g C s' H' fp) (tt C s' H' fp) (te C s' H' fp) σ₀ p Q W:=
 ⟨a,rfl,⟨xs,hx⟩,fun p hp=>qU (aX H p (R p)) ⟨aR hp _,az,LV _,h0 _ _ (aR hp _)⟩ (fun i acc H2 _ c=>⟨c.2.1,c.2.2.1⟩) (fun i acc H2 _ c=>c.1.seq hx) (by rw [LY]; omega) (fun C s' H' fp i x acc H2 hi c=>hs p hp C s' H' fp i x acc H2 hi c) fun acc H2 c=>hd p acc H2 hp c.1 c.2.1 c.2.2.2⟩
theorem FC {j:Int} (n:Nat) (hn:j.toNat=n) (hj:j<=1000000) (hj0:-1000000<=j) (R:Addr->Nat->List V->Hp->Prop) (h0:∀ p H',am H H'->R p 0 [] H')
  (hs:∀ p,H p=none->∀ C s' H' fp,∀ i acc H2,i < n->aX H p (R p) i acc H2->g C s' H' fp (.int i) σ₀ H2 fun σ2 H3=>tt C s' H' fp σ2 H3 fun b H4=>if b=true then te C s' H' fp σ2 H4 fun y H5=>H5 p=some (.lst acc)/\aX H p (R p) (i + 1) (acc++[y]) (upd H5 p (.lst (acc++[y]))) else aX H p (R p) (i + 1) acc H4)
  (hd:∀ p acc H2,H p=none->am H H2->H2 p=some (.lst acc)->R p n acc H2->Q (.ref p) H2):
  ∃ j':Int,[V.int j]=[.int j']/\-(2 ^ 62)<=j'/\j' < 2 ^ 62/\∀ p,H p=none->∃ W:Nat->Nat->List V->Hp->Prop,(∃ m,W 0 m [] (upd H p (.lst [])))/\∀ C s' H' fp,ca (Itr 0 j'.toNat) (g C s' H' fp) (tt C s' H' fp) (te C s' H' fp) σ₀ p Q W:=by
 refine ⟨j,rfl,by omega,by omega,fun p hp=>?_⟩
 subst hn
 exact pi (lo:=0) (aX H p (R p)) ⟨aR hp _,az,LV _,h0 _ _ (aR hp _)⟩ (fun i acc H2 _ c=>⟨c.2.1,c.2.2.1⟩) (by rw [LY]; omega) (fun C s' H' fp i acc H2 hi c=>by rw [RV]; exact hs p hp C s' H' fp i acc H2 hi c) fun acc H2 c=>hd p acc H2 hp c.1 c.2.1 c.2.2.2
end
section
open PySem.Spec
theorem cj.units64 {k:Nat} {A:Around} (r:cj k A):A.units + 64 < cLine:=by have:=r.un; omega
section
variable {X:Cx}
theorem OpR.weak {f:Value->Value->Sem Value} {r r':R2} (h:OpR X f r) (w:∀ x y H Q,r' x y H Q->r x y H Q):OpR X f r':=fun pins s σ H x y v u Q I rx ry q=>h pins s σ H x y v u Q I rx ry (w x y H Q q)
theorem dI.weak {f:Value} {r r':List V->Hp->VK->Prop} (h:dI X f r) (w:∀ xs H Q,r' xs H Q->r xs H Q):dI X f r':=fun pins s σ H xs us Q I rx q=>h pins s σ H xs us Q I rx (w xs H Q q)
theorem oq:OpR X (OO .Add) qY:=EV.weak fun _ _ _ _ ⟨l,b,xs,zs,e1,e2,h1,h2,hz,q⟩=>⟨l,b,xs,zs,e1,e2,h1,h2,hz,q.upd⟩
theorem FD:OpR X (OO .Mult) GH:=Ke.weak fun _ _ _ _ ⟨l,k,xs,e1,e2,h1,h2,h3,hz,q⟩=>⟨l,k,xs,e1,e2,h1,h2,h3,hz,q.upd⟩
theorem ou:dI X (.type "list") (lU X.K):=zM.weak fun _ _ _ ⟨p,ys,e,h,q⟩=>⟨p,ys,e,h,q.upd⟩
theorem uA:dI X (.type "tuple") (oh X.K):=qd.weak fun _ _ _ ⟨p,ys,e,h,q⟩=>⟨p,ys,e,.inl ⟨h,q.upd⟩⟩
end
section
variable {X:Cx} {es:List Expr} {t:TA} {pos:Pos}
theorem b7 {x1} (h:PA X es t):PE X (.Tuple es x1 pos) (dg t):=by
 intro pins s σ H Q I hq
 refine S7 (thn (h pos pins s σ H _ I hq) fun us s1 ⟨xs,H1,I1,r,z,q⟩=>⟨by rw [<-r.length]; exact z,?_⟩)
 have hf:H1 s1.heap.objs.size=none:=I1.hok.fresh (LV _)
 refine ⟨.ref s1.heap.objs.size,upd H1 s1.heap.objs.size (.tup xs),I1.laid (t':=s1.toks) (fun b u e=>LP _ e) (LV _) ?_,rfl,q.upd _ hf⟩
 exact ⟨z,us,r,fW.new _ _⟩
theorem cB (h:PA X es t):PE X (.List es pos) (d8 t):=by
 intro pins s σ H Q I hq
 refine Tu (thn (h pos pins s σ H _ I hq) fun us s1 ⟨xs,H1,I1,r,z,q⟩=>⟨by rw [<-r.length]; exact z,?_⟩)
 have hf:H1 s1.heap.objs.size=none:=I1.hok.fresh (LV _)
 refine ⟨.ref s1.heap.objs.size,upd H1 s1.heap.objs.size (.lst xs),I1.laid (t':=s1.toks) (fun b u e=>LP _ e) (LV _) ?_,rfl,q.upd _ hf⟩
 exact ⟨z,us,0,r,L6 _ rfl⟩
end
section
variable {X:Cx} {es:List Expr} {te:TE} {t:TA}
theorem aq {v:Const} {j:Nat} {p:Pos} (ha:PE X (.Constant v j p) te) (hr:PA X es t):PA X (.Constant v j p :: es) (aa te t):=gR ha hr rfl
theorem ae {x:Str} {p:Pos} (ha:PE X (.Name x p) te) (hr:PA X es t):PA X (.Name x p :: es) (aa te t):=gR ha hr rfl
theorem aI {a b:Expr} {o:Operator} {p:Pos} (ha:PE X (.BinOp a o b p) te) (hr:PA X es t):PA X (.BinOp a o b p :: es) (aa te t):=gR ha hr rfl
theorem aV {f:Expr} {as:List Expr} {ks:List Keyword} {p:Pos} (ha:PE X (.Call f as ks p) te) (hr:PA X es t):PA X (.Call f as ks p :: es) (aa te t):=gR ha hr rfl
theorem bv {as:List Expr} {k:Nat} {p:Pos} (ha:PE X (.Tuple as k p) te) (hr:PA X es t):PA X (.Tuple as k p :: es) (aa te t):=gR ha hr rfl
theorem aE {a b:Expr} {p:Pos} (ha:PE X (.Subscript a b p) te) (hr:PA X es t):PA X (.Subscript a b p :: es) (aa te t):=gR ha hr rfl
theorem tZ {a:Expr} {os:List CmpOp} {bs:List Expr} {p:Pos} (ha:PE X (.Compare a os bs p) te) (hr:PA X es t):PA X (.Compare a os bs p :: es) (aa te t):=gR ha hr rfl
theorem bD {e:Expr} (ha:PE X e te) (hr:PA X es t) (hs:Mp (e :: es) X.env=(false,eval e X.env) :: Mp es X.env:=by rfl):PA X (e :: es) (aa te t):=gR ha hr hs
structure ai (N:List Str) (sc:Scope) (i:Nat) (x:Str):Prop where
 n:N[i]?=some x
 v:Vis sc x
 d:(x == ("__debug__":Str))=false
 c:(x == ("__classdict__":Str))=false
theorem pvQ {N:List Str} {sc:Scope} {i:Nat} {x:Str} {pos:Pos} (h:ai N sc i x) (hN:X.N=N) (hS:X.env.scope=sc):PE X (.Name x pos) (ac i):=by
 subst hN hS
 exact EB h.n h.v h.d h.c
end
end
section
open PySem.Spec
theorem Av {X:Cx}:SlR X (zX X.K):=fun pins s σ H x v vl vu lo hi sl Q I rx hs pl pu ⟨a,xs,e,h,n,q⟩=>Kb pins s σ H x v vl vu lo hi sl Q I rx hs pl pu ⟨a,xs,e,h,n,q.upd⟩
noncomputable def vU (P:Program) (w:World) (K:Fg) (a:Addr) (kvs:List (Str×V)):Prop:=
 (a == N1)=false/\∃ (o:Obj) (es:Array To) (ep:Nat) (vs:List (Key×Value)),K.lookup a=some o/\o.ExactDict/\o.data=.dict es ep/\KeysOf (iU P w) es/\Pairs (iU P w) es.toList vs/\(vs.map (·.1)).Nodup/\
  Paired (fun (p:Str×V) (q:Key×Value)=>q.1=.inr p.1/\aH p.2 q.2) kvs vs
theorem kO {k:Str} {v:V}:∀ {kvs:List (Str×V)} {vs:List (Key×Value)},Paired (fun (p:Str×V) (q:Key×Value)=>q.1=.inr p.1/\aH p.2 q.2) kvs vs->kvs.lookup k=some v->∃ u,valueAt vs (.inr k)=some u/\aH v u
 | _,_,.nil,h=>by cases h
 | _,_,.cons (a:=p) (b:=q) r t,h=>by
  obtain ⟨x,y⟩:=p
  obtain ⟨kq,u⟩:=q
  obtain ⟨r1,r2⟩:=r
  simp only at r1 r2
  subst r1
  rw [MX] at h
  unfold valueAt
  rw [MH]
  by_cases e:k=x
  ·subst e
   rw [beq_self_eq_true] at h
   cases h
   rw [show decide ((Ni k:Key)=Ni k)=true from decide_eq_true rfl]
   exact ⟨u,rfl,r2⟩
  ·rw [show (k == x)=false from beq_eq_false_iff_ne.mpr e] at h
   rw [show decide ((Ni x:Key)=Ni k)=false from decide_eq_false fun z=>e (Ow z).symm]
   exact kO t h
section
variable {X:Cx} {o i:Expr} {pos:Pos} {td ty:TE} {a:Addr} {kvs:List (Str×V)}
theorem vU.of {pins:List (Addr×Obj)} {σ:St} {H:Hp} {s:Shared} (D:vU X.prog X.w X.K a kvs) (I:Inv X pins σ H s):∃ vs,s.heap.DictOf (iU X.prog X.w) a vs/\Paired (fun (p:Str×V) (q:Key×Value)=>q.1=.inr p.1/\aH p.2 q.2) kvs vs:=by
 obtain ⟨_,o,es,ep,vs,lk,ex,hd,hk,hp,nd,rel⟩:=D
 exact ⟨vs,⟨o,es,ep,I.kIn a o lk,ex,hd,hk,hp,nd⟩,rel⟩
theorem FE (D:vU X.prog X.w X.K a kvs) (ho:PE X o td) (hi:PE X i ty) (hs:GK i):PE X (.Subscript o i pos) (tOp (C4 kvs a) td ty):=by
 intro pins s σ H Q I h
 refine Ce RE.lookup hs (thn (ho pins s σ H _ I h) fun u s1 ⟨x,H1,I1,rx,q1⟩=>thn (hi pins s1 σ H1 _ I1 q1) fun iv s2 ⟨y,H2,I2,ry,ex,k,v,ey,el,q2⟩=>?_)
 subst ex ey
 obtain rfl:u=MA a:=rx
 obtain ⟨vs,dd,rel⟩:=D.of I2
 obtain ⟨w',hw,rw'⟩:=kO rel el
 exact ⟨dd.typeIs,Uy (Ix (k:=.inr k) ry) dd.mapOf hw ⟨v,H2,I2.tok _,rw',q2⟩⟩
theorem t0 {k:Str}:∀ {kvs:List (Str×V)} {vs:List (Key×Value)},Paired (fun (p:Str×V) (q:Key×Value)=>q.1=.inr p.1/\aH p.2 q.2) kvs vs->kvs.lookup k=none->valueAt vs (.inr k)=none
 | _,_,.nil,_=>rfl
 | _,_,.cons (a:=p) (b:=q) r t,h=>by
  obtain ⟨x,y⟩:=p
  obtain ⟨kq,u⟩:=q
  obtain ⟨r1,r2⟩:=r
  simp only at r1 r2
  subst r1
  rw [MX] at h
  unfold valueAt
  rw [MH]
  by_cases e:k=x
  ·subst e
   rw [beq_self_eq_true] at h
   cases h
  ·rw [show (k == x)=false from beq_eq_false_iff_ne.mpr e] at h
   rw [show decide ((Ni x:Key)=Ni k)=false from decide_eq_false fun z=>e (Ow z).symm]
   exact t0 t h
theorem Aw (D:vU X.prog X.w X.K a kvs):OpR X (NZ .NotIn) (zY kvs a true):=by
 intro pins s σ H x y v u Q I rx ry h
 obtain ⟨rfl,k,rfl,q⟩:=h
 obtain rfl:u=MA a:=ry
 obtain ⟨vs,dd,rel⟩:=D.of I
 refine wpAny_notIn_of (Ix (k:=.inr k) rx) D.1 dd.mapOf ?_
 refine ⟨.bl (!(kvs.lookup k).isSome),H,I.tok _,?_,q⟩
 cases e:kvs.lookup k with
 | none=>rw [t0 rel e]; rfl
 | some v'=>
  obtain ⟨w',hw,_⟩:=kO rel e
  rw [hw]
  rfl
end
end
section
open PySem.Spec
structure Hb (P:Program) (w:World) (K:Fg) (mg:Str->Option Value) (G:Glo):Prop where
 ok:vK K G
 mf:mg "FORMS"=some (.ref G.forms)
 df:vU P w K G.forms G.kvs
theorem iX {K:Fg} {a:Addr} {od:Option Addr} {its:Array Value} {n:Nat} {sl:Array (Option Value)} (l:K.lookup a=some ⟨.type "tuple",od,.seq its n,sl⟩) (xs:List V) (hz:its.size<=Mb) (r:aG xs its.toList):kL K a xs:=⟨_,its,n,l,rfl,rfl,hz,r⟩
theorem Jw {P:Program} {w:World} {K:Fg} {mg:Str->Option Value} {aF aC f1 f2 f3 f4 f5 f6 f7 f8:Addr} {k1 k2 k3 k4 k5 k6 k7 k8 u1 u2 u3 u4 u5 u6 u7 u8 u9 ua ub uc ud ue:Tok} {ep n1 n2 n3 n4 n5 n6 n7 n8:Nat} {o1 o2 o3 o4 o5 o6 o7 o8:Option Addr} {s1 s2 s3 s4 s5 s6 s7 s8:Array (Option Value)}
  (nF:(aF == N1)=false) (mf:mg "FORMS"=some (.ref aF))
  (lF:K.lookup aF=some ⟨.type "dict",none,.dict #[⟨Nj w.params "holds",.str "holds" k1,.ref f1⟩,⟨Nj w.params "not",.str "not" k2,.ref f2⟩,⟨Nj w.params "and",.str "and" k3,.ref f3⟩,⟨Nj w.params "or",.str "or" k4,.ref f4⟩,
   ⟨Nj w.params "knows",.str "knows" k5,.ref f5⟩,⟨Nj w.params "all",.str "all" k6,.ref f6⟩,⟨Nj w.params "common",.str "common" k7,.ref f7⟩,⟨Nj w.params "sees",.str "sees" k8,.ref f8⟩] ep,#[]⟩)
  (l1:K.lookup f1=some ⟨.type "tuple",o1,.seq #[.str "holder" u1,.str "card" u2] n1,s1⟩) (l2:K.lookup f2=some ⟨.type "tuple",o2,.seq #[.str "saying" u3] n2,s2⟩) (l3:K.lookup f3=some ⟨.type "tuple",o3,.seq #[.str "saying" u4,.str "saying" u5] n3,s3⟩) (l4:K.lookup f4=some ⟨.type "tuple",o4,.seq #[.str "saying" u6,.str "saying" u7] n4,s4⟩)
  (l5:K.lookup f5=some ⟨.type "tuple",o5,.seq #[.str "hand" u8,.str "saying" u9] n5,s5⟩) (l6:K.lookup f6=some ⟨.type "tuple",o6,.seq #[.str "hands" ua,.str "saying" ub] n6,s6⟩) (l7:K.lookup f7=some ⟨.type "tuple",o7,.seq #[.str "hands" uc,.str "saying" ud] n7,s7⟩) (l8:K.lookup f8=some ⟨.type "tuple",o8,.seq #[.str "hand" ue] n8,s8⟩)
  : Hb P w K mg ⟨aF,aC,f1,f2,f3,f4,f5,f6,f7,f8⟩ where
 mf:=mf
 ok:=⟨iX l1 _ (by show 2<=Mb; decide) (.cons ⟨_,rfl⟩ (.cons ⟨_,rfl⟩ .nil)),iX l2 _ (by show 1<=Mb; decide) (.cons ⟨_,rfl⟩ .nil),iX l3 _ (by show 2<=Mb; decide) (.cons ⟨_,rfl⟩ (.cons ⟨_,rfl⟩ .nil)),iX l4 _ (by show 2<=Mb; decide) (.cons ⟨_,rfl⟩ (.cons ⟨_,rfl⟩ .nil)),
  iX l5 _ (by show 2<=Mb; decide) (.cons ⟨_,rfl⟩ (.cons ⟨_,rfl⟩ .nil)),iX l6 _ (by show 2<=Mb; decide) (.cons ⟨_,rfl⟩ (.cons ⟨_,rfl⟩ .nil)),iX l7 _ (by show 2<=Mb; decide) (.cons ⟨_,rfl⟩ (.cons ⟨_,rfl⟩ .nil)),iX l8 _ (by show 1<=Mb; decide) (.cons ⟨_,rfl⟩ .nil)⟩
 df:=by
  refine ⟨nF,_,_,_,[(.inr "holds",.ref f1),(.inr "not",.ref f2),(.inr "and",.ref f3),(.inr "or",.ref f4),(.inr "knows",.ref f5),(.inr "all",.ref f6),(.inr "common",.ref f7),(.inr "sees",.ref f8)],lF,⟨rfl,rfl,rfl⟩,rfl,?_,?_,?_,?_⟩
  ·intro e he
   simp only [List.mem_toArray,Array.mem_def,L7,M9,or_false] at he
   rcases he with rfl | rfl | rfl | rfl | rfl | rfl | rfl | rfl
   ·exact ⟨.inr "holds",bo P w _ _,rfl⟩
   ·exact ⟨.inr "not",bo P w _ _,rfl⟩
   ·exact ⟨.inr "and",bo P w _ _,rfl⟩
   ·exact ⟨.inr "or",bo P w _ _,rfl⟩
   ·exact ⟨.inr "knows",bo P w _ _,rfl⟩
   ·exact ⟨.inr "all",bo P w _ _,rfl⟩
   ·exact ⟨.inr "common",bo P w _ _,rfl⟩
   ·exact ⟨.inr "sees",bo P w _ _,rfl⟩
  ·exact .cons (bo P w _ _) rfl (.cons (bo P w _ _) rfl (.cons (bo P w _ _) rfl (.cons (bo P w _ _) rfl (.cons (bo P w _ _) rfl (.cons (bo P w _ _) rfl (.cons (bo P w _ _) rfl (.cons (bo P w _ _) rfl .nil)))))))
  ·show ([.inr "holds",.inr "not",.inr "and",.inr "or",.inr "knows",.inr "all",.inr "common",.inr "sees"]:List Key).Nodup
   decide +kernel
  ·exact .cons ⟨rfl,rfl⟩ (.cons ⟨rfl,rfl⟩ (.cons ⟨rfl,rfl⟩ (.cons ⟨rfl,rfl⟩ (.cons ⟨rfl,rfl⟩ (.cons ⟨rfl,rfl⟩ (.cons ⟨rfl,rfl⟩ (.cons ⟨rfl,rfl⟩ .nil)))))))
end
section
open PySem.Spec
theorem bN.there {P:Program} {w:World} {H:Hp} {h:Heap} {a:Addr} {o:HO} (x:bN P w H h a o):∃ ob,h.get? a=some ob:=by
 cases o with
 | lst xs=>obtain ⟨_,_,_,_,e⟩:=x; exact ⟨_,e⟩
 | tup xs=>obtain ⟨_,_,_,_,e,_⟩:=x; exact ⟨_,e⟩
 | dK kvs=>obtain ⟨_,_,_,_,o,_,_,e,_⟩:=x; exact ⟨_,e⟩
 | dT kvs=>obtain ⟨_,_,_,_,o,_,_,e,_⟩:=x; exact ⟨_,e⟩
 | set S n=>obtain ⟨o,_,_,_,e,_⟩:=x; exact ⟨_,e⟩
 | ins C dx fs=>obtain ⟨_,_,_,e,_⟩:=x; exact ⟨_,e⟩
 | own y=>exact x
 | xd fs=>obtain ⟨_,⟨_,_,_,e,_⟩,_⟩:=x; exact ⟨_,e⟩
 | rng lo hi=>obtain ⟨_,_,_,e⟩:=x; exact ⟨_,e⟩
 | frz ob u=>obtain ⟨e,_⟩:=x; exact ⟨_,e⟩
 | tbl ps=>exact ⟨_,x⟩
 | met f y=>exact ⟨_,x⟩
 | ext φ=>obtain ⟨_,e,_⟩:=x; exact e
section
variable {P:Program} {w:World} {K:Fg} {mg:Str->Option Value} {base:Heap} {N:List Str} {qual:Str} {scope:Scope} {f:Addr} {cd:Value} {A:Around} {outer:List Env} {s:Shared} {H:Hp} {E:XK}
end
end
section
open PySem.Spec
section
variable {X:Cx} {pins:List (Addr×Obj)} {σ:St} {H:Hp} {s:Shared} {B h':Heap}
end
section
variable {X:Cx} {pins pn pins':List (Addr×Obj)} {σ:St} {H:Hp} {s:Shared} {B:Heap} {E:Value->Shared->Prop} {a:Addr}
end
end
section
open PySem.Spec PySem.W
section
variable {prog:Program} {w:World} {A:Around} {E:Value->Shared->Prop} {h:Heap} {g:Array SM} {d:Drawn} {t:Nat} {os:OsState} {a:Addr} {o:Obj} {C:Addr} {K:Frag}
end
end
section
open PySem.Spec PySem.W
end
section
open PySem.Spec PySem.W
section
variable {P:Program} {w:World} {K:Frag} {mg:Str->Option Value} {base:Heap} {k:Nat} {f:Addr} {fd:Mi} {ps:List Str}
end
end
section
open PySem.Spec PySem.W
section
variable {P:Program} {w:World} {K:Frag} {mg:Str->Option Value} {base:Heap}
noncomputable def FnM (P:Program) (w:World) (K:Frag) (mg:Str->Option Value) (base:Heap) (k:Nat) (C:Addr) (m:Str) (ps:List Str) (sp:Sp):Prop:=
 ∃ f fd,iM P w K mg base CX0 k f fd ps sp/\CI K C m f/\gr K fd ps []
structure iQ (K:Frag) (C:Addr) (m qual:Str) (st:Stmt) (ps:List Str) (f:Addr) (fd:Mi):Prop where
 fn:Fun K m qual st f fd
 mt:CI K C m f
 b:gr K fd ps []
theorem iQ.ok {C:Addr} {m qual:Str} {st:Stmt} {N ps:List Str} {f:Addr} {fd:Mi} {k:Nat} {sp:Sp} (D:iQ K C m qual st ps f fd) (S:aD N ps (ab st)) (len:∀ vs H Q E,sp vs H Q E->vs.length=ps.length)
  (hbody:∀ (cdv:Value) (A:Around) (outer:List Env) (s:Shared) (H:Hp) (vs:List V) (Q:VK) (E:XK),cj k (A.deeper (envOfC qual (ab st) s.heap.objs.size f cdv))->sp vs H Q E->
   ∃ t,PSs (oY CX0 P w K mg base N qual (ab st) f cdv A outer s H E).nox (fz st) t/\t { nx:=fun _ H'=>Q .non H',rt:=Q } (start N vs) H):FnM P w K mg base (k + 1) C m ps sp:=
 ⟨f,fd,D.fn.ok S len hbody,D.mt,D.b⟩
noncomputable def FnI (P:Program) (w:World) (K:Frag) (mg:Str->Option Value) (base:Heap) (k:Nat) (C:Addr) (ps:List Str) (sp:Sp):Prop:=
 ∃ f fd,iM P w K mg base CX0 k f fd ps sp/\Mk K C f/\gr K fd ps []
structure Ax (K:Frag) (C:Addr) (qual:Str) (st:Stmt) (ps:List Str) (f:Addr) (fd:Mi):Prop where
 fn:Fun K "__init__" qual st f fd
 made:Mk K C f
 b:gr K fd ps []
theorem Ax.ok {C:Addr} {qual:Str} {st:Stmt} {N ps:List Str} {f:Addr} {fd:Mi} {k:Nat} {sp:Sp} (D:Ax K C qual st ps f fd) (S:aD N ps (ab st)) (len:∀ vs H Q E,sp vs H Q E->vs.length=ps.length)
  (hbody:∀ (cdv:Value) (A:Around) (outer:List Env) (s:Shared) (H:Hp) (vs:List V) (Q:VK) (E:XK),cj k (A.deeper (envOfC qual (ab st) s.heap.objs.size f cdv))->sp vs H Q E->
   ∃ t,PSs (oY CX0 P w K mg base N qual (ab st) f cdv A outer s H E).nox (fz st) t/\t { nx:=fun _ H'=>Q .non H',rt:=Q } (start N vs) H):FnI P w K mg base (k + 1) C ps sp:=
 ⟨f,fd,D.fn.ok S len hbody,D.made,D.b⟩
end
section
variable {X:Cx} {k:Nat} {C:Addr} {m:Str} {ps:List Str} {sp:Sp} {p pos apos:Pos} {o e:Expr} {es:List Expr} {ta:TE} {t:TA}
theorem bK {a:Expr} {f:Str} {p:Pos} {te:TE} (ha:PE X (.Attribute a f p) te) (hr:PA X es t):PA X (.Attribute a f p :: es) (aa te t):=gR ha hr rfl
theorem iR {pl:Sem Bool} (F:FnM X.prog X.w X.K X.mg X.base k C m ps sp) (hr:cj k X.A) (c:Cls X.K C) (he:PE X o ta) (ha:PA X (e :: es) t)
  (hst:Mp (e :: es) X.env=(false,eval e X.env) :: Mp es X.env:=by rfl) (hpl:(backTo pos (Mp es X.env)).any (·.1)=false:=by rfl)
  (ht:eval (.Call (.Attribute o m apos) (e :: es) [] pos) X.env=(do
   let ov <-eval o X.env
   standAt apos.atName
   let (f,first) <-holding [ov] (Tq ov m pl)
   callWith pos f first (backTo pos (Mp (e :: es) X.env)) (Qp pos (Ph [] X.env))):=by rfl):
  PE X (.Call (.Attribute o m apos) (e :: es) [] pos) (jU C m sp [] E0 ta t):=by
 obtain ⟨f,fd,ok,mt,b⟩:=F
 exact IS he c mt ok hr b .nil CU ha hst hpl ht
theorem Hc {x:Str} (F:FnI X.prog X.w X.K X.mg X.base k C ps sp) (hr:cj (k + 1) X.A) (hm:X.mg x=some (.ref C)) (ha:PA X (e :: es) t) (hg:Gl X x:=by rfl)
  (hdb:(x == ("__debug__":Str))=false:=by decide) (he:Mp (e :: es) X.env=(false,eval e X.env) :: Mp es X.env:=by rfl) (hpl:(backTo pos (Mp es X.env)).any (·.1)=false:=by rfl):
  PE X (.Call (.Name x p) (e :: es) [] pos) (zp C sp [] E0 t):=by
 obtain ⟨f,fd,ok,mk,b⟩:=F
 exact IT mk ok hr hg hm b .nil CU ha hdb he hpl
end
end
section
open PySem.Spec PySem.W
structure rJ (K:Frag) (C:Addr):Prop where
 cl:Cls K C
 n1:eU K C "dealt"
 n2:eU K C "cards"
 n3:eU K C "sizes"
 n4:eU K C "hands"
 n5:eU K C "views"
 n6:eU K C "deeds"
set_option genInjectivity false in
structure GF extends Glo where
 Table:Addr
structure fb (P:Program) (w:World) (K:Frag) (mg:Str->Option Value) (G:GF):Prop where
 tb:Hb P w K mg G.toGlo
 m_Table:mg "Table"=some (.ref G.Table)
 ct:rJ K G.Table
theorem fb.cl_Table {P:Program} {w:World} {K:Frag} {mg:Str->Option Value} {G:GF} (T:fb P w K mg G):Cls K G.Table:=T.ct.cl
theorem He {P:Program} {w:World} {K:Frag} {mg:Str->Option Value} {G:Glo} {aT:Addr} (t:Hb P w K mg G) (m:mg "Table"=some (.ref aT)) (pg:plainGet K aT Vb=true) (hd:hasDictIn K aT=true) (po:plainOver K aT=true) (sa:findIn K (.ref aT) "__setattr__"=some (some (.builtin "object.__setattr__")))
  (n1:findIn K (.ref aT) "dealt"=some none) (n2:findIn K (.ref aT) "cards"=some none) (n3:findIn K (.ref aT) "sizes"=some none) (n4:findIn K (.ref aT) "hands"=some none) (n5:findIn K (.ref aT) "views"=some none) (n6:findIn K (.ref aT) "deeds"=some none):fb P w K mg ⟨G,aT⟩:=
 ⟨t,m,⟨⟨pg,hd,po,sa⟩,n1,n2,n3,n4,n5,n6⟩⟩
end
end L2
section
namespace L2
open PySem
end L2
end
section
namespace L2
open PySem
noncomputable def uB (K:Fg) (t:TA):TE:=fun σ H Q=>t σ H fun xs H1=>∃ (p:Addr) (ns:List Int),xs=[.ref p]/\SqL K H1 p (ns.map V.int)/\ns.length < 64/\
 ∀ (q:Addr) (H':Hp) (ms:List Int),H1 q=none->am H1 H'->H' q=some (.lst (ms.map V.int))->ms.Pairwise (· < ·)->(∀ y,y∈ms↔y∈ns)->Q (.ref q) H'
theorem FF {K:Fg} {t:TA} {σ:St} {H:Hp} {Q:VK} (h:t σ H fun xs H1=>∃ (p:Addr) (ns:List Int),xs=[.ref p]/\SqL K H1 p (ns.map V.int)/\ns.length < 64/\
 ∀ (q:Addr) (H':Hp) (ms:List Int),H1 q=none->am H1 H'->H' q=some (.lst (ms.map V.int))->ms.Pairwise (· < ·)->(∀ y,y∈ms↔y∈ns)->Q (.ref q) H'):uB K t σ H Q:=h
theorem Ay {α:Type} [DecidableEq α]:∀ {l m:List α},l.Nodup->(∀ x∈l,x∈m)->l.length<=m.length
 | [],m,_,_=>M7 _
 | x :: l,m,nd,h=>by
  have hx:x∈m:=h x Mc
  obtain ⟨n1,n2⟩:=N3.mp nd
  have:=Ay (m:=m.erase x) n2 fun y hy=>(List.mem_erase_of_ne (fun e:y=x=>n1 (e ▸ hy))).mpr (h y (Mh _ hy))
  rw [List.length_erase_of_mem hx] at this
  have:=List.length_pos_of_mem hx
  rw [My]
  omega
end L2
end
namespace L2
open PySem PyProof.Rows
noncomputable def Dm (K:Fg) (ta:TA):TE:=fun σ H Q=>ta σ H fun vs H1=>∃ (p:Addr) (ns:List Int),vs=[.ref p]/\SqL K H1 p (ns.map V.int)/\(ns=[]->Q .non H1)/\∀ M,M∈ns->(∀ a∈ns,M<=a)->Q (.int M) H1
theorem KR {K:Fg} {ta:TA} {σ:St} {H:Hp} {Q:VK} (h:ta σ H fun vs H1=>∃ (p:Addr) (ns:List Int),vs=[.ref p]/\SqL K H1 p (ns.map V.int)/\(ns=[]->Q .non H1)/\∀ M,M∈ns->(∀ a∈ns,M<=a)->Q (.int M) H1):Dm K ta σ H Q:=h
noncomputable def GE (P:Hp->V->Prop) (σ:St) (H0:Hp) (te:TE):Prop:=∀ H,am H0 H->∀ Q:VK,(∀ x H',am H H'->P H' x->Q x H')->te σ H Q
noncomputable def GA (P:Hp->V->Prop) (σ:St) (H0:Hp) (n:Nat) (ta:TA):Prop:=∀ H,am H0 H->∀ R:List V->Hp->Prop,(∀ xs H',am H H'->xs.length=n->(∀ x∈xs,P H' x)->R xs H')->ta σ H R
theorem GA.nil {P:Hp->V->Prop} {σ:St} {H0:Hp}:GA P σ H0 0 ag:=fun H s R q=>Iu (q [] H (am.refl _) rfl fun _ h=>(nomatch h))
theorem GA.cons {P:Hp->V->Prop} (st:∀ H H' x,am H H'->P H x->P H' x) {σ:St} {H0:Hp} {n:Nat} {te:TE} {tr:TA} (b:GE P σ H0 te) (t:GA P σ H0 n tr):GA P σ H0 (n + 1) (aa te tr):=fun H s R q=>
 E7 (b H s _ fun x H1 s1 px=>t H1 (s.trans s1) _ fun xs H2 s2 hl hb=>q (x :: xs) H2 (s1.trans s2) (by rw [My,hl]) fun y hy=>by
  rcases L7.mp hy with rfl | hy
  ·exact st _ _ _ s2 px
  ·exact hb y hy)
theorem rK {P:Hp->V->Prop} (st:∀ H H' x,am H H'->P H x->P H' x) {σ:St} {H0 H:Hp} {n:Nat} {ta:TA} {R:List V->Hp->Prop} (s:am H0 H) (b:GA P σ H0 n ta) (q:∀ xs H',am H H'->xs.length=n->(∀ x∈xs,P H' x)->R xs H'):ta σ H R:=b H s R q
theorem ka (z:Int) {m:Int} (h:0 < m):∃ k:Nat,z % m=(k:Int)/\(k:Int) < m:=by
 have m1:=OL z (b:=m) (by omega)
 have m2:=Os z h
 exact ⟨(z % m).toNat,by omega,by omega⟩
section
variable {K:Fg} {vs:List V} {H:Hp} {Q:VK} {E:XK}
noncomputable def dN (_:Fg):Sp:=fun vs H Q _=>∃ (z:Int) (h:Nat),vs=[.int z,.int h]/\h<=5/\∀ (p:Addr) (g:List Nat) (H':Hp),am H H'->H' p=some (.tup (aw g))->g.Pairwise (· < ·)->(∀ k∈g,k < h)->Q (.ref p) H'
noncomputable def jg (K:Fg):TS:=(aJ (tCB (oh K) (aa (bO (fq (aa (ac 1) ag)) (fun _ _ _ _=>(ao 0)) (fun _ _ _ _=>(bf (tOp rEq (tOp (rI (fun _ j=>0 < j) fun i j=>.int (i % j)) (tOp (rI fO fun i j=>.int (i / j)) (ac 1) (tOp (cS K) (d8 (aa (tC (.int 1)) (aa (tC (.int 2)) (aa (tC (.int 4)) (aa (tC (.int 8)) (aa (tC (.int 16)) ag)))))) (ac 0))) (tC (.int 2))) (tC (.int 1))))) (fun _ _ _ _=>(ac 0)) [none,some 0]) ag)))
theorem at5 {i:Nat} (h:i < 5):∃ v:Int,atI [V.int 1,V.int 2,V.int 4,V.int 8,V.int 16] (i:Int)=some (.int v)/\0 < v/\v<=16:=by
 match i,h with
 | 0,_=>exact ⟨1,rfl,by decide,by decide⟩
 | 1,_=>exact ⟨2,rfl,by decide,by decide⟩
 | 2,_=>exact ⟨4,rfl,by decide,by decide⟩
 | 3,_=>exact ⟨8,rfl,by decide,by decide⟩
 | 4,_=>exact ⟨16,rfl,by decide,by decide⟩
theorem yD (h:dN K vs H Q E):jg K { nx:=fun _ H'=>Q .non H',rt:=Q } (start ["_law_number","_law_hands"] vs) H:=by
 obtain ⟨z,h,rfl,h5,q⟩:=h
 show jg K _ [some _,some _] _
 unfold jg
 walk_at "rd"
 refine zW h (by omega) (by omega) (by omega) (fun i acc _=>∃ g:List Nat,acc=aw g/\g.Pairwise (· < ·)/\∀ k∈g,k < i) (fun _ _=>⟨[],rfl,.nil,fun _ h=>(nomatch h)⟩) ?_ ?_
 ·rintro p hp C s' H' fp i acc H2 hi ⟨s2,e2,l2,g,rfl,pw,hb⟩
  walk_at "rd"
  refine ⟨by simp [LY],fun b H3 hb3 s3 e3=>?_⟩
  walk_at "rd"
  obtain ⟨v,hv,v0,v16⟩:=at5 (i:=i) (by omega)
  refine bZ (SqL.of e3) hv ?_
  walk_at "rd"
  have e23:=s3 _ _ e2
  refine dq (fun c=>?_) (fun c=>?_)
  ·walk_at "rd"
   refine aX.put hp (fun _ _ _ _ r _=>r) (s2.trans s3) e23 l2 ⟨g++[i],by rw [<-gG],?_,fun k hk=>?_⟩
   ·rw [QJ]
    exact ⟨pw,Qb _ _,fun x hx y hy=>by rw [LW] at hy; have:=hb x hx; omega⟩
   ·rcases Mt.mp hk with hk | hk
    ·have:=hb k hk; omega
    ·rw [LW] at hk; omega
  ·exact aX.skip (s2.trans s3) e23 l2 ⟨g,rfl,pw,fun k hk=>by have:=hb k hk; omega⟩
 ·intro p acc H2 hp s2 e2 ⟨g,hg,pw,hb⟩
  subst hg
  walk_at "rd"
  exact xa (SqL.of e2) fun t H3 ht s3 e3=>q t g H3 (s2.trans s3) e3 pw hb
noncomputable def vV (H:Hp) (x:V):Option Sy->Prop
 | some t=>aP H x t
 | none=>(∃ i,x=.int i)\/∃ b g,x=.ref b/\H b=some (.tup (aw g))
theorem vV.keep {H H':Hp} (k:dR H H') {x:V} {o:Option Sy} (h:vV H x o):vV H' x o:=by
 cases o with
 | some t=>exact aP.keep k h
 | none=>
  rcases h with h | ⟨b,g,e,h⟩
  ·exact .inl h
  ·exact .inr ⟨b,g,e,k _ _ h⟩
theorem Cl {H:Hp} {v:V} {s:Sy} (h:aP H v s):∃ a items os,v=.ref a/\H a=some (.tup (.str s.word :: items))/\Paired (vV H) items os/\os.filterMap id=s.subs/\items.length<=2:=by
 cases s with
 | holds w c=>obtain ⟨a,e,h⟩:=h; exact ⟨a,_,[none,none],e,h,.cons (.inl ⟨_,rfl⟩) (.cons (.inl ⟨_,rfl⟩) .nil),rfl,by simp⟩
 | sees w=>obtain ⟨a,e,h⟩:=h; exact ⟨a,_,[none],e,h,.cons (.inl ⟨_,rfl⟩) .nil,rfl,by simp⟩
 | not s=>obtain ⟨a,x,e,h,r⟩:=h; exact ⟨a,_,[some s],e,h,.cons r .nil,rfl,by simp⟩
 | and s t=>obtain ⟨a,x,y,e,h,r,q⟩:=h; exact ⟨a,_,[some s,some t],e,h,.cons r (.cons q .nil),rfl,by simp⟩
 | or s t=>obtain ⟨a,x,y,e,h,r,q⟩:=h; exact ⟨a,_,[some s,some t],e,h,.cons r (.cons q .nil),rfl,by simp⟩
 | knows w s=>obtain ⟨a,x,e,h,r⟩:=h; exact ⟨a,_,[none,some s],e,h,.cons (.inl ⟨_,rfl⟩) (.cons r .nil),rfl,by simp⟩
 | all g s=>obtain ⟨a,b,x,e,h,i,r⟩:=h; exact ⟨a,_,[none,some s],e,h,.cons (.inr ⟨b,g,rfl,i⟩) (.cons r .nil),rfl,by simp⟩
 | common g s=>obtain ⟨a,b,x,e,h,i,r⟩:=h; exact ⟨a,_,[none,some s],e,h,.cons (.inr ⟨b,g,rfl,i⟩) (.cons r .nil),rfl,by simp⟩
noncomputable def eP (_:Fg) (n:Nat):Sp:=fun vs H Q _=>∃ (v:V) (s:Sy),vs=[v]/\aP H v s/\s.words<=n/\∀ H',am H H'->Q (.int (s.words:Nat)) H'
noncomputable def jh (K:Fg) (n:Nat):TS:=(ar (aK (tC (.int 1)) (ao 1))
 (ar (cR (uk K (tSl (zX K) (ac 0) (uZ (tC (.int 1))) n9)) (ao 2) (bp (CB (tB (tCB (fP K) (aa (ac 2) (aa (tC (.ty "tuple")) ag)))) (CB (bf (tOp (pj (SqT K) true) (ac 2) (dg ag))) (tB (tCB (fP K) (aa (tOp (ck K) (ac 2) (tC (.int 0))) (aa (tC (.ty "str")) ag)))))) (aK (tOp (rI0 fun i j=>.int (i + j)) (ac 1) (au (eP K n) [] E0 (aa (ac 2) ag))) (ao 1)) ba))
 (aJ (ac 1))))
theorem qf (h:eP K 0 vs H Q E):False:=by
 obtain ⟨v,s,rfl,_,h,_⟩:=h
 have:=s.words_pos
 omega
theorem FG {K:Fg} {H:Hp} {Q:VK} {a b:Addr} {xs:List V} (h1:SqT K H a xs) (h2:SqT K H b []) (q:Q (.bl (!xs.isEmpty)) H):pj (SqT K) true (.ref a) (.ref b) H Q:=by
 refine ⟨a,b,xs,[],fun _=>true,rfl,rfl,h1,h2,fun j x y _ hy=>by simp at hy,?_⟩
 cases xs with
 | nil=>exact q
 | cons x r=>exact q
noncomputable def kP (os:List (Option Sy)):Nat:=((os.filterMap id).map Sy.words).sum
noncomputable def Az:Option Sy->Nat
 | some t=>t.words
 | none=>0
theorem FH (os:List (Option Sy)) (i:Nat) (o:Option Sy) (h:os[i]?=some o):kP (os.take (i + 1))=kP (os.take i) + Az o:=by
 unfold kP
 rw [NP,h,List.filterMap_append,Ml,NH]
 cases o with
 | none=>simp [Az]
 | some t=>simp [Az]
theorem yE {K:Fg} {n:Nat} {vs:List V} {H:Hp} {Q:VK} {E:XK} (h:eP K (n + 1) vs H Q E):jh K n { nx:=fun _ H'=>Q .non H',rt:=Q } (start ["_law_saying_here","_law_found","_law_part"] vs) H:=by
 obtain ⟨v,s,rfl,hs,hw,q⟩:=h
 obtain ⟨a,items,os,rfl,e,hp,hos,h2⟩:=Cl hs
 show jh K n _ [some _,none,none] _
 unfold jh
 walk_at "rd"
 refine C3 (SqT.of e) (nG _ _) fun b H1 hb s1 e1=>?_
 rw [uv] at e1
 have hw':=s.words_subs
 have hol:items.length=os.length:=by
  clear hos h2 e e1
  induction hp with
  | nil=>rfl
  | cons _ _ ih=>rw [My,My,ih]
 refine vm items (SqT.of e1) (fun i σ H2=>∃ st,σ=[some (.ref a),some (.int (1 + kP (os.take i):Nat)),st]/\am H1 H2) ⟨none,rfl,am.refl _⟩ (fun i σ H2 _ ⟨_,_,s2⟩=>SqT.of (s2 _ _ e1)) ?_ ?_
 ·rintro i x σ H2 hx ⟨st,rfl,s2⟩
  obtain ⟨o,ho,io⟩:=lp hp hx
  have ot:=FH os i o ho
  have io2:=io.keep (s1.trans s2).keep
  cases o with
  | none=>
   have ot':kP (os.take (i + 1))=kP (os.take i):=ot
   rcases io2 with ⟨j,rfl⟩ | ⟨g,gs,rfl,eg⟩
   ·walk_at "rd"
    refine eV (.int _) (lM K "int" (by decide) "tuple" (by decide)) ?_
    walk_at "rd"
    refine nE ?_
    walk_at "rd"
    exact ⟨_,by rw [ot'],s2⟩
   ·walk_at "rd"
    refine eV (.tup eg) (jV K) ?_
    walk_at "rd"
    refine ⟨by simp [LY],fun u H3 hu s3 e3=>?_⟩
    refine FG (SqT.of (s3 _ _ eg)) (SqT.of e3) ?_
    walk_at "rd"
    cases gs with
    | nil=>
     refine nE ?_
     walk_at "rd"
     exact ⟨_,by rw [ot'],s2.trans s3⟩
    | cons k r=>
     refine oZ ?_
     walk_at "rd"
     refine bj (SqT.of (s3 _ _ eg)) (lL _ _) ?_
     walk_at "rd"
     refine eV (.int _) (lM K "int" (by decide) "str" (by decide)) ?_
     walk_at "rd"
     refine nE ?_
     walk_at "rd"
     exact ⟨_,by rw [ot'],s2.trans s3⟩
  | some t=>
   have ot':kP (os.take (i + 1))=kP (os.take i) + t.words:=ot
   have ts:t∈s.subs:=by rw [<-hos]; exact Q3.mpr ⟨some t,LZ ho,rfl⟩
   have hb':=Sy.sub_words ts
   obtain ⟨a2,items2,_,rfl,et,_⟩:=Cl io2
   walk_at "rd"
   refine eV (.tup et) (jV K) ?_
   walk_at "rd"
   refine ⟨by simp [LY],fun u H3 hu s3 e3=>?_⟩
   refine FG (SqT.of (s3 _ _ et)) (SqT.of e3) ?_
   walk_at "rd"
   refine oZ ?_
   walk_at "rd"
   refine bj (SqT.of (s3 _ _ et)) (lL _ _) ?_
   walk_at "rd"
   refine eV (.str _) (Al K "str") ?_
   walk_at "rd"
   refine ⟨_,t,rfl,aP.keep s3.keep io2,by omega,fun H4 s4=>?_⟩
   walk_at "rd"
   refine ⟨some (.ref a2),?_,(s2.trans s3).trans s4⟩
   rw [ot',show ((1 + kP (os.take i):Nat):Int) + ((t.words:Nat):Int)=((1 + (kP (os.take i) + t.words):Nat):Int) by omega]
 ·rintro σ H2 ⟨st,rfl,s2⟩
  walk_at "rd"
  have e:kP (os.take items.length)=(s.subs.map Sy.words).sum:=by rw [hol,MF]; unfold kP; rw [hos]
  rw [e,<-hw']
  exact q _ (s1.trans s2)
structure gJ (H H2:Hp) (r:Addr) (c h most:Nat) (ss:List Sy):Prop where
 same:am H H2
 new:H r=none
 at_:∃ xs,H2 r=some (.lst xs)/\gU H2 xs ss
 ne:ss≠[]
 ok:∀ s∈ss,s.Ok c h/\s.words<=most
theorem gJ.push {H H2 H3:Hp} {r:Addr} {c h most:Nat} {ss:List Sy} {s:Sy} {v:V} {xs:List V} (R:gJ H H2 r c h most ss) (e:H2 r=some (.lst xs)) (o:Off r H2 H3) (e3:H3 r=some (.lst (xs++[v]))) (hv:aP H2 v s) (ok:s.Ok c h) (w:s.words<=most):gJ H H3 r c h most (ss++[s]) where
 same:=R.same.off R.new o
 new:=R.new
 at_:=by
  obtain ⟨ys,ey,p⟩:=R.at_
  rw [e] at ey
  cases ey
  exact ⟨_,e3,pJ (p.keep (o.keep e)) (.cons (hv.keep (o.keep e)) .nil)⟩
 ne:=by simp
 ok:=fun t ht=>by
  rcases Mt.mp ht with ht | ht
  ·exact R.ok t ht
  ·rw [LW] at ht; subst ht; exact ⟨ok,w⟩
theorem gJ.to {H H2 H3:Hp} {r:Addr} {c h most:Nat} {ss:List Sy} (R:gJ H H2 r c h most ss) (s:am H2 H3):gJ H H3 r c h most ss where
 same:=R.same.trans s
 new:=R.new
 at_:=by obtain ⟨xs,e,p⟩:=R.at_; exact ⟨xs,s _ _ e,p.keep s.keep⟩
 ne:=R.ne
 ok:=R.ok
noncomputable def ma (K:Fg):Sp:=fun vs H Q _=>∃ (a:Addr) (ns:List Int) (at_:Int) (c h:Nat),vs=[.ref a,.int at_,.int c,.int h]/\fQ K H a ns/\0<=at_/\at_<=1000/\1<=h/\∀ (r:Addr) (ss:List Sy) (H':Hp),gJ H H' r c h 1 ss->ss.length<=4->Q (.ref r) H'
noncomputable def kb (K:Fg):TS:=(ar (aK (d8 (aa (dg (aa (tC (.str "sees")) (aa (tOp (rI (fun _ j=>0 < j) fun i j=>.int (i % j)) (au (bi K) [] E0 (aa (ac 0) (aa (ac 1) ag))) (ac 3)) ag))) ag)) (ao 4))
 (ar (cR (fq (aa (tOp (rI OP fun i j=>.int (i * j)) (tC (.int 3)) (tCB GG (aa (tOp (rI0 fun i j=>.bl (decide (j < i))) (ac 2) (tC (.int 0))) ag))) ag)) (ao 5) (ar (aK (au (bi K) [] E0 (aa (ac 0) (aa (tOp (rI0 fun i j=>.int (i + j)) (tOp (rI0 fun i j=>.int (i + j)) (ac 1) (tC (.int 1))) (ac 5)) ag))) (ao 6))
 (cV (tBM K "list" eO (ac 4) (aa (dg (aa (tC (.str "holds")) (aa (tOp (rI (fun _ j=>0 < j) fun i j=>.int (i % j)) (ac 6) (tOp (rI0 fun i j=>.int (i + j)) (ac 3) (tC (.int 1)))) (aa (tOp (rI (fun _ j=>0 < j) fun i j=>.int (i % j)) (tOp (rI fO fun i j=>.int (i / j)) (ac 6) (tC (.int 7))) (ac 2)) ag)))) ag)))))
 (aJ (ac 4))))
theorem AA (h:ma K vs H Q E):kb K { nx:=fun _ H'=>Q .non H',rt:=Q } (start ["_law_script","_law_at","_law_cards","_law_hands","_law_pool_here","_law_k","_law_cell_here"] vs) H:=by
 obtain ⟨a,ns,at_,c,h,rfl,hSc,ha0,ha1,h1,q⟩:=h
 show kb K _ [some _,some _,some _,some _,none,none,none] _
 unfold kb
 walk_at "rd"
 refine ⟨a,ns,at_,rfl,hSc,ha0,by omega,?_⟩
 walk_at "rd"
 obtain ⟨k,hk,hk2⟩:=ka (bC ns at_) (m:=(h:Int)) (by omega)
 rw [hk]
 refine ⟨by simp [LY],fun p1 H1 hp1 s1 e1=>?_⟩
 walk_at "rd"
 refine ⟨by simp [LY],fun r H2 hr s2 e2=>?_⟩
 have R0:gJ H H2 r c h 1 [.sees k]:=⟨s1.trans s2,s1.free hr,⟨_,e2,.cons ⟨p1,rfl,s2 _ _ e1⟩ .nil⟩,by simp,fun s hs=>by rw [LW] at hs; subst hs; exact ⟨show k < h by omega,LV _⟩⟩
 walk_at "rd"
 obtain ⟨n,hn,hn3,hnc⟩:∃ n:Nat,((3:Int) * (if decide ((0:Int) < (c:Int))=true then 1 else 0))=(n:Int)/\n<=3/\(c=0->n=0):=by
  by_cases hc:(0:Int) < (c:Int)
  ·exact ⟨3,by rw [if_pos (decide_eq_true hc)]; rfl,LV _,fun z=>by omega⟩
  ·exact ⟨0,by rw [if_neg (by rw [decide_eq_false hc]; exact Ma)]; rfl,by decide,fun _=>rfl⟩
 rw [hn]
 refine gE n (by omega) (by omega) (by omega) (fun i σ H3=>∃ (ss:List Sy) (v5 v6:Option V),σ=[some (.ref a),some (.int at_),some (.int c),some (.int h),some (.ref r),v5,v6]/\gJ H H3 r c h 1 ss/\ss.length=i + 1) ⟨_,none,none,rfl,R0,rfl⟩ ?_ ?_
 ·rintro i σ H3 hi ⟨ss,v5,v6,rfl,R,hl⟩
  have hc:0 < c:=by
   rcases Pd c with z | z
   ·have:=hnc z; omega
   ·exact z
  obtain ⟨xs,e3,px⟩:=R.at_
  have hxl:=gH px
  walk_at "rd"
  refine ⟨a,ns,at_ + 1 + (i:Int),rfl,hSc.same R.same,by omega,by omega,?_⟩
  walk_at "rd"
  refine ⟨vi e3,?_⟩
  walk_at "rd"
  obtain ⟨k1,hk1,hk12⟩:=ka (bC ns (at_ + 1 + (i:Int))) (m:=(h:Int) + 1) (by omega)
  obtain ⟨k2,hk2',hk22⟩:=ka (bC ns (at_ + 1 + (i:Int)) / 7) (m:=(c:Int)) (by omega)
  rw [hk1,hk2']
  refine ⟨by simp [LY],fun p4 H4 hp4 s4 e4=>?_⟩
  walk_at "rd"
  refine fR (s4 _ _ e3) (by rw [LY]; omega) fun H5 o5 e5=>?_
  exact ⟨_,_,_,rfl,(R.to s4).push (s4 _ _ e3) o5 e5 (s:=.holds k1 k2) ⟨p4,rfl,e4⟩ ⟨by omega,by omega⟩ (LV _),by rw [Mj,hl]; rfl⟩
 ·rintro σ H3 ⟨ss,v5,v6,rfl,R,hl⟩
  walk_at "rd"
  exact q r ss H3 R (by omega)
noncomputable def gY (c h:Nat) (H:Hp) (x:V):Prop:=∃ s:Sy,aP H x s/\s.Ok c h/\s.words<=63
theorem gY.same {c h:Nat} {H H':Hp} {x:V} (g:gY c h H x) (s:am H H'):gY c h H' x:=by
 obtain ⟨t,i,o,w⟩:=g
 exact ⟨t,i.keep s.keep,o,w⟩
theorem rL {H:Hp}:∀ {l:List V} {m:List Sy},gU H l m->l≠[]->∃ x y,atI l (-1)=some x/\y∈m/\aP H x y:=by
 intro l m p hne
 have hl:=gH p
 have hp:0 < l.length:=QP.mpr hne
 obtain ⟨x,hx⟩:∃ x,l[l.length - 1]?=some x:=⟨_,LS (by omega)⟩
 obtain ⟨y,hy,iy⟩:=mZ p hx
 refine ⟨x,y,?_,LZ hy,iy⟩
 unfold atI ixN
 rw [if_neg (by decide),if_pos (by omega),show (-1 + (l.length:Int)).toNat=l.length - 1 by omega]
 exact hx
noncomputable def gZ (K:Fg):Sp:=fun vs H Q _=>∃ (a:Addr) (ns:List Int) (at_:Int) (c h most:Nat),vs=[.ref a,.int at_,.int c,.int h,.int most]/\fQ K H a ns/\0<=at_/\at_<=1000/\1<=h/\h<=5/\1<=most/\most<=30/\∀ (v:V) (s:Sy) (H':Hp),am H H'->aP H' v s->s.Ok c h->s.words<=most->Q v H'
noncomputable def iB (K:Fg):TS:=(ar (aK (au (ma K) [] E0 (aa (ac 0) (aa (ac 1) (aa (ac 2) (aa (ac 3) ag))))) (ao 5))
 (ar (cR (fq (aa (tOp (rI (fun _ j=>0 < j) fun i j=>.int (i % j)) (au (bi K) [] E0 (aa (ac 0) (aa (tOp (rI0 fun i j=>.int (i + j)) (ac 1) (tC (.int 4))) ag))) (tC (.int 12))) ag)) (ao 6) (ar (aK (au (bi K) [] E0 (aa (ac 0) (aa (tOp (rI0 fun i j=>.int (i + j)) (tOp (rI0 fun i j=>.int (i + j)) (ac 1) (tC (.int 5))) (ac 6)) ag))) (ao 7))
 (ar (aK (tOp (cS K) (ac 5) (tUn (rU fun i=>.int (-i)) (tC (.int 1)))) (ao 8))
 (ar (aK (tOp (cS K) (ac 5) (tOp (rI (fun _ j=>0 < j) fun i j=>.int (i % j)) (tOp (rI fO fun i j=>.int (i / j)) (ac 7) (tC (.int 12))) (tCB (d7 K) (aa (ac 5) ag)))) (ao 9))
 (ar (aK (d8 (aa (dg (aa (tC (.str "not")) (aa (ac 8) ag))) (aa (dg (aa (tC (.str "and")) (aa (ac 8) (aa (ac 9) ag)))) (aa (dg (aa (tC (.str "or")) (aa (ac 9) (aa (ac 8) ag)))) (aa (dg (aa (tC (.str "not")) (aa (ac 9) ag))) ag))))) (ao 10))
 (ar (aK (tOp qY (ac 10) (d8 (aa (dg (aa (tC (.str "knows")) (aa (tOp (rI (fun _ j=>0 < j) fun i j=>.int (i % j)) (tOp (rI fO fun i j=>.int (i / j)) (ac 7) (tC (.int 7))) (ac 3)) (aa (ac 8) ag)))) (aa (dg (aa (tC (.str "knows")) (aa (tOp (rI (fun _ j=>0 < j) fun i j=>.int (i % j)) (tOp (rI fO fun i j=>.int (i / j)) (ac 7) (tC (.int 7))) (ac 3)) (aa (dg (aa (tC (.str "not")) (aa (ac 8) ag))) ag)))) ag)))) (ao 10))
 (ar (aK (tOp qY (ac 10) (d8 (aa (dg (aa (tC (.str "all")) (aa (au (dN K) [] E0 (aa (tOp (rI fO fun i j=>.int (i / j)) (ac 7) (tC (.int 36))) (aa (ac 3) ag))) (aa (ac 8) ag)))) (aa (dg (aa (tC (.str "common")) (aa (au (dN K) [] E0 (aa (tOp (rI fO fun i j=>.int (i / j)) (ac 7) (tC (.int 36))) (aa (ac 3) ag))) (aa (ac 9) ag)))) ag)))) (ao 10))
 (ar (aK (tOp qY (ac 10) (d8 (aa (dg (aa (tC (.str "common")) (aa (au (dN K) [] E0 (aa (tOp (rI fO fun i j=>.int (i / j)) (ac 7) (tC (.int 36))) (aa (ac 3) ag))) (aa (ac 8) ag)))) (aa (dg (aa (tC (.str "knows")) (aa (tOp (rI (fun _ j=>0 < j) fun i j=>.int (i % j)) (tOp (rI fO fun i j=>.int (i / j)) (ac 7) (tC (.int 7))) (ac 3)) (aa (ac 9) ag)))) ag)))) (ao 10))
 (ar (aK (tOp qY (ac 10) (d8 (aa (dg (aa (tC (.str "and")) (aa (ac 9) (aa (dg (aa (tC (.str "not")) (aa (ac 8) ag))) ag)))) (aa (dg (aa (tC (.str "or")) (aa (ac 8) (aa (dg (aa (tC (.str "knows")) (aa (tOp (rI (fun _ j=>0 < j) fun i j=>.int (i % j)) (tOp (rI fO fun i j=>.int (i / j)) (ac 7) (tC (.int 7))) (ac 3)) (aa (ac 9) ag)))) ag)))) ag)))) (ao 10))
 (bp (bf (tOp (rI0 fun i j=>.bl (decide (i<=j))) (au (eP K 70) [] E0 (aa (tOp (cS K) (ac 10) (tOp (rI (fun _ j=>0 < j) fun i j=>.int (i % j)) (ac 7) (tC (.int 12)))) ag)) (ac 4))) (cV (tBM K "list" eO (ac 5) (aa (tOp (cS K) (ac 10) (tOp (rI (fun _ j=>0 < j) fun i j=>.int (i % j)) (ac 7) (tC (.int 12)))) ag))) ba))))))))))
 (aJ (tOp (cS K) (ac 5) (tUn (rU fun i=>.int (-i)) (tC (.int 1)))))))
theorem xp (h:gZ K vs H Q E):iB K { nx:=fun _ H'=>Q .non H',rt:=Q } (start ["_law_script","_law_at","_law_cards","_law_hands","_law_most","_law_pool_here","_law_k","_law_cell_here","_law_one","_law_other","_law_some"] vs) H:=by
 obtain ⟨a,ns,at_,c,h,most,rfl,hSc,ha0,ha1,h1,h5,hm1,hm30,q⟩:=h
 show iB K _ [some _,some _,some _,some _,some _,none,none,none,none,none,none] _
 unfold iB
 walk_at "rd"
 refine ⟨a,ns,at_,c,h,rfl,hSc,ha0,ha1,h1,fun r ss0 H1 R0 hl4=>?_⟩
 walk_at "rd"
 refine ⟨a,ns,at_ + 4,rfl,hSc.same R0.same,by omega,by omega,?_⟩
 walk_at "rd"
 have R1:gJ H H1 r c h most ss0:=⟨R0.same,R0.new,R0.at_,R0.ne,fun s hs=>⟨(R0.ok s hs).1,by have:=(R0.ok s hs).2; omega⟩⟩
 refine gE (bC ns (at_ + 4) % 12).toNat rfl (by omega) (by omega) (fun i σ H2=>∃ (ss:List Sy) (v6 v7 v8 v9 v10:Option V),σ=[some (.ref a),some (.int at_),some (.int c),some (.int h),some (.int most),some (.ref r),v6,v7,v8,v9,v10]/\gJ H H2 r c h most ss/\ss.length<=4 + i) ⟨ss0,none,none,none,none,none,rfl,R1,by omega⟩ ?_ ?_
 ·rintro i σ H2 hi ⟨ss,v6,v7,v8,v9,v10,rfl,R,hl⟩
  obtain ⟨xs,e2,px⟩:=R.at_
  have hxl:=gH px
  have hne:xs≠[]:=fun z=>R.ne (O7.mp (by rw [<-hxl,z]; rfl))
  have hpos:0 < xs.length:=QP.mpr hne
  refine kr ?_
  dsimp only [Oa,Ob]
  refine bu ?_
  walk_at "rs"
  refine ⟨a,ns,at_ + 5 + (i:Int),rfl,hSc.same R.same,by omega,by omega,?_⟩
  generalize bC ns (at_ + 5 + (i:Int))=z
  walk_at "rs"
  refine bu ?_
  walk_at "rs"
  obtain ⟨x1,s1,hx1,hs1,is1⟩:=rL px hne
  obtain ⟨ok1,w1⟩:=R.ok s1 hs1
  refine bZ (SqL.of e2) hx1 ?_
  walk_at "rs"
  refine bu ?_
  walk_at "rs"
  obtain ⟨x2,hx2,hm2⟩:=E9 xs (z / 12) rfl hpos
  obtain ⟨j2,hj2⟩:=QK hm2
  obtain ⟨s2,hs2,is2⟩:=mZ px hj2
  obtain ⟨ok2,w2⟩:=R.ok s2 (LZ hs2)
  refine bZ (SqL.of e2) hx2 ?_
  walk_at "rs"
  refine bu ?_
  refine mT ?_
  refine sj ?_
  refine rK (P:=gY c h) (fun _ _ _ s g=>g.same s) (H0:=H2) (n:=4) (am.refl _) ?_ fun ys0 Hy0 sy0 ly0 by0=>?_
  ·skip
   refine GA.cons (fun _ _ _ s g=>g.same s) (n:=3) ?_ ?_
   ·intro H' s' Q q
    have i1:=is1.keep s'.keep
    have i2:=is2.keep s'.keep
    walk_at "rd"
    refine ⟨by simp [LY],fun p1 G1 hp1 t1 e1=>?_⟩
    have I1:aP G1 (.ref p1) (.not s1):=⟨p1,_,rfl,e1,(aP.keep (am.keep t1) i1)⟩
    exact q _ _ t1 ⟨_,I1,ok1,by simp only [Sy.words]; omega⟩
   refine GA.cons (fun _ _ _ s g=>g.same s) (n:=2) ?_ ?_
   ·intro H' s' Q q
    have i1:=is1.keep s'.keep
    have i2:=is2.keep s'.keep
    walk_at "rd"
    refine ⟨by simp [LY],fun p1 G1 hp1 t1 e1=>?_⟩
    have I1:aP G1 (.ref p1) (.and s1 s2):=⟨p1,_,_,rfl,e1,(aP.keep (am.keep t1) i1),(aP.keep (am.keep t1) i2)⟩
    exact q _ _ t1 ⟨_,I1,⟨ok1,ok2⟩,by simp only [Sy.words]; omega⟩
   refine GA.cons (fun _ _ _ s g=>g.same s) (n:=1) ?_ ?_
   ·intro H' s' Q q
    have i1:=is1.keep s'.keep
    have i2:=is2.keep s'.keep
    walk_at "rd"
    refine ⟨by simp [LY],fun p1 G1 hp1 t1 e1=>?_⟩
    have I1:aP G1 (.ref p1) (.or s2 s1):=⟨p1,_,_,rfl,e1,(aP.keep (am.keep t1) i2),(aP.keep (am.keep t1) i1)⟩
    exact q _ _ t1 ⟨_,I1,⟨ok2,ok1⟩,by simp only [Sy.words]; omega⟩
   refine GA.cons (fun _ _ _ s g=>g.same s) (n:=0) ?_ ?_
   ·intro H' s' Q q
    have i1:=is1.keep s'.keep
    have i2:=is2.keep s'.keep
    walk_at "rd"
    refine ⟨by simp [LY],fun p1 G1 hp1 t1 e1=>?_⟩
    have I1:aP G1 (.ref p1) (.not s2):=⟨p1,_,rfl,e1,(aP.keep (am.keep t1) i2)⟩
    exact q _ _ t1 ⟨_,I1,ok2,by simp only [Sy.words]; omega⟩
   exact GA.nil
  refine ⟨by rw [ly0,LY]; decide,fun l0 Hl0 hl0 sl0 el0=>?_⟩
  have sL0:am H2 Hl0:=sy0.trans sl0
  have L0:ys0.length=4:=ly0
  have B0:∀ x∈ys0,gY c h Hl0 x:=fun x hx=>(by0 x hx).same sl0
  have eL0:=el0
  refine kr ?_
  dsimp only [Oa,Ob]
  generalize hX0:ys0=X0 at *
  refine bu ?_
  refine mT ?_
  refine ut ?_
  refine pB rfl ?_
  refine sj ?_
  refine rK (P:=gY c h) (fun _ _ _ s g=>g.same s) (H0:=H2) (n:=2) sL0 ?_ fun ys1 Hy1 sy1 ly1 by1=>?_
  ·skip
   refine GA.cons (fun _ _ _ s g=>g.same s) (n:=1) ?_ ?_
   ·intro H' s' Q q
    have i1:=is1.keep s'.keep
    have i2:=is2.keep s'.keep
    walk_at "rd"
    obtain ⟨kk1,hk1,hk21⟩:=ka (z / 7) (m:=(h:Int)) (by omega)
    rw [hk1]
    refine ⟨by simp [LY],fun p1 G1 hp1 t1 e1=>?_⟩
    have I1:aP G1 (.ref p1) (.knows kk1 s1):=⟨p1,_,rfl,e1,(aP.keep (am.keep t1) i1)⟩
    exact q _ _ t1 ⟨_,I1,⟨by omega,ok1⟩,by simp only [Sy.words]; omega⟩
   refine GA.cons (fun _ _ _ s g=>g.same s) (n:=0) ?_ ?_
   ·intro H' s' Q q
    have i1:=is1.keep s'.keep
    have i2:=is2.keep s'.keep
    walk_at "rd"
    refine ⟨by simp [LY],fun p1 G1 hp1 t1 e1=>?_⟩
    have I1:aP G1 (.ref p1) (.not s1):=⟨p1,_,rfl,e1,(aP.keep (am.keep t1) i1)⟩
    walk_at "rd"
    obtain ⟨kk2,hk2,hk22⟩:=ka (z / 7) (m:=(h:Int)) (by omega)
    rw [hk2]
    refine ⟨by simp [LY],fun p2 G2 hp2 t2 e2=>?_⟩
    have I2:aP G2 (.ref p2) (.knows kk2 (.not s1)):=⟨p2,_,rfl,e2,(aP.keep (am.keep t2) I1)⟩
    exact q _ _ (t1.trans t2) ⟨_,I2,⟨by omega,ok1⟩,by simp only [Sy.words]; omega⟩
   exact GA.nil
  refine ⟨by rw [ly1,LY]; decide,fun l1 Hl1 hl1 sl1 el1=>?_⟩
  refine sk (sl1 _ _ (sy1 _ _ eL0)) el1 (by rw [L0,ly1,LY]; decide) fun m1 Hm1 hm1 sm1 em1=>?_
  have sA1:=(sy1.trans sl1).trans sm1
  have sL1:am H2 Hm1:=sL0.trans sA1
  have L1:(X0++ys1).length=6:=by rw [Mj,L0,ly1]
  have B1:∀ x∈X0++ys1,gY c h Hm1 x:=fun x hx=>by
   rcases Mt.mp hx with hx | hx
   ·exact (B0 x hx).same sA1
   ·exact (by1 x hx).same (sl1.trans sm1)
  have eL1:=em1
  refine kr ?_
  dsimp only [Oa,Ob]
  generalize X0++ys1=X1 at L1 B1 eL1
  clear B0 L0 eL0 by1 ly1 el1 em1
  refine bu ?_
  refine mT ?_
  refine ut ?_
  refine pB rfl ?_
  refine sj ?_
  refine rK (P:=gY c h) (fun _ _ _ s g=>g.same s) (H0:=H2) (n:=2) sL1 ?_ fun ys2 Hy2 sy2 ly2 by2=>?_
  ·skip
   refine GA.cons (fun _ _ _ s g=>g.same s) (n:=1) ?_ ?_
   ·intro H' s' Q q
    have i1:=is1.keep s'.keep
    have i2:=is2.keep s'.keep
    walk_at "rd"
    refine ⟨_,h,rfl,h5,fun g1 gs1 G1 t1 eg1 pw1 hb1=>?_⟩
    walk_at "rd"
    refine ⟨by simp [LY],fun p2 G2 hp2 t2 e2=>?_⟩
    have I2:aP G2 (.ref p2) (.all gs1 s1):=⟨p2,g1,_,rfl,e2,t2 _ _ eg1,(aP.keep (am.keep (t1.trans t2)) i1)⟩
    exact q _ _ (t1.trans t2) ⟨_,I2,⟨⟨pw1,hb1⟩,ok1⟩,by simp only [Sy.words]; omega⟩
   refine GA.cons (fun _ _ _ s g=>g.same s) (n:=0) ?_ ?_
   ·intro H' s' Q q
    have i1:=is1.keep s'.keep
    have i2:=is2.keep s'.keep
    walk_at "rd"
    refine ⟨_,h,rfl,h5,fun g1 gs1 G1 t1 eg1 pw1 hb1=>?_⟩
    walk_at "rd"
    refine ⟨by simp [LY],fun p2 G2 hp2 t2 e2=>?_⟩
    have I2:aP G2 (.ref p2) (.common gs1 s2):=⟨p2,g1,_,rfl,e2,t2 _ _ eg1,(aP.keep (am.keep (t1.trans t2)) i2)⟩
    exact q _ _ (t1.trans t2) ⟨_,I2,⟨⟨pw1,hb1⟩,ok2⟩,by simp only [Sy.words]; omega⟩
   exact GA.nil
  refine ⟨by rw [ly2,LY]; decide,fun l2 Hl2 hl2 sl2 el2=>?_⟩
  refine sk (sl2 _ _ (sy2 _ _ eL1)) el2 (by rw [L1,ly2,LY]; decide) fun m2 Hm2 hm2 sm2 em2=>?_
  have sA2:=(sy2.trans sl2).trans sm2
  have sL2:am H2 Hm2:=sL1.trans sA2
  have L2:(X1++ys2).length=8:=by rw [Mj,L1,ly2]
  have B2:∀ x∈X1++ys2,gY c h Hm2 x:=fun x hx=>by
   rcases Mt.mp hx with hx | hx
   ·exact (B1 x hx).same sA2
   ·exact (by2 x hx).same (sl2.trans sm2)
  have eL2:=em2
  refine kr ?_
  dsimp only [Oa,Ob]
  generalize X1++ys2=X2 at L2 B2 eL2
  clear B1 L1 eL1 by2 ly2 el2 em2
  refine bu ?_
  refine mT ?_
  refine ut ?_
  refine pB rfl ?_
  refine sj ?_
  refine rK (P:=gY c h) (fun _ _ _ s g=>g.same s) (H0:=H2) (n:=2) sL2 ?_ fun ys3 Hy3 sy3 ly3 by3=>?_
  ·skip
   refine GA.cons (fun _ _ _ s g=>g.same s) (n:=1) ?_ ?_
   ·intro H' s' Q q
    have i1:=is1.keep s'.keep
    have i2:=is2.keep s'.keep
    walk_at "rd"
    refine ⟨_,h,rfl,h5,fun g1 gs1 G1 t1 eg1 pw1 hb1=>?_⟩
    walk_at "rd"
    refine ⟨by simp [LY],fun p2 G2 hp2 t2 e2=>?_⟩
    have I2:aP G2 (.ref p2) (.common gs1 s1):=⟨p2,g1,_,rfl,e2,t2 _ _ eg1,(aP.keep (am.keep (t1.trans t2)) i1)⟩
    exact q _ _ (t1.trans t2) ⟨_,I2,⟨⟨pw1,hb1⟩,ok1⟩,by simp only [Sy.words]; omega⟩
   refine GA.cons (fun _ _ _ s g=>g.same s) (n:=0) ?_ ?_
   ·intro H' s' Q q
    have i1:=is1.keep s'.keep
    have i2:=is2.keep s'.keep
    walk_at "rd"
    obtain ⟨kk1,hk1,hk21⟩:=ka (z / 7) (m:=(h:Int)) (by omega)
    rw [hk1]
    refine ⟨by simp [LY],fun p1 G1 hp1 t1 e1=>?_⟩
    have I1:aP G1 (.ref p1) (.knows kk1 s2):=⟨p1,_,rfl,e1,(aP.keep (am.keep t1) i2)⟩
    exact q _ _ t1 ⟨_,I1,⟨by omega,ok2⟩,by simp only [Sy.words]; omega⟩
   exact GA.nil
  refine ⟨by rw [ly3,LY]; decide,fun l3 Hl3 hl3 sl3 el3=>?_⟩
  refine sk (sl3 _ _ (sy3 _ _ eL2)) el3 (by rw [L2,ly3,LY]; decide) fun m3 Hm3 hm3 sm3 em3=>?_
  have sA3:=(sy3.trans sl3).trans sm3
  have sL3:am H2 Hm3:=sL2.trans sA3
  have L3:(X2++ys3).length=10:=by rw [Mj,L2,ly3]
  have B3:∀ x∈X2++ys3,gY c h Hm3 x:=fun x hx=>by
   rcases Mt.mp hx with hx | hx
   ·exact (B2 x hx).same sA3
   ·exact (by3 x hx).same (sl3.trans sm3)
  have eL3:=em3
  refine kr ?_
  dsimp only [Oa,Ob]
  generalize X2++ys3=X3 at L3 B3 eL3
  clear B2 L2 eL2 by3 ly3 el3 em3
  refine bu ?_
  refine mT ?_
  refine ut ?_
  refine pB rfl ?_
  refine sj ?_
  refine rK (P:=gY c h) (fun _ _ _ s g=>g.same s) (H0:=H2) (n:=2) sL3 ?_ fun ys4 Hy4 sy4 ly4 by4=>?_
  ·skip
   refine GA.cons (fun _ _ _ s g=>g.same s) (n:=1) ?_ ?_
   ·intro H' s' Q q
    have i1:=is1.keep s'.keep
    have i2:=is2.keep s'.keep
    walk_at "rd"
    refine ⟨by simp [LY],fun p1 G1 hp1 t1 e1=>?_⟩
    have I1:aP G1 (.ref p1) (.not s1):=⟨p1,_,rfl,e1,(aP.keep (am.keep t1) i1)⟩
    walk_at "rd"
    refine ⟨by simp [LY],fun p2 G2 hp2 t2 e2=>?_⟩
    have I2:aP G2 (.ref p2) (.and s2 (.not s1)):=⟨p2,_,_,rfl,e2,(aP.keep (am.keep (t1.trans t2)) i2),(aP.keep (am.keep t2) I1)⟩
    exact q _ _ (t1.trans t2) ⟨_,I2,⟨ok2,ok1⟩,by simp only [Sy.words]; omega⟩
   refine GA.cons (fun _ _ _ s g=>g.same s) (n:=0) ?_ ?_
   ·intro H' s' Q q
    have i1:=is1.keep s'.keep
    have i2:=is2.keep s'.keep
    walk_at "rd"
    obtain ⟨kk1,hk1,hk21⟩:=ka (z / 7) (m:=(h:Int)) (by omega)
    rw [hk1]
    refine ⟨by simp [LY],fun p1 G1 hp1 t1 e1=>?_⟩
    have I1:aP G1 (.ref p1) (.knows kk1 s2):=⟨p1,_,rfl,e1,(aP.keep (am.keep t1) i2)⟩
    walk_at "rd"
    refine ⟨by simp [LY],fun p2 G2 hp2 t2 e2=>?_⟩
    have I2:aP G2 (.ref p2) (.or s1 (.knows kk1 s2)):=⟨p2,_,_,rfl,e2,(aP.keep (am.keep (t1.trans t2)) i1),(aP.keep (am.keep t2) I1)⟩
    exact q _ _ (t1.trans t2) ⟨_,I2,⟨ok1,⟨by omega,ok2⟩⟩,by simp only [Sy.words]; omega⟩
   exact GA.nil
  refine ⟨by rw [ly4,LY]; decide,fun l4 Hl4 hl4 sl4 el4=>?_⟩
  refine sk (sl4 _ _ (sy4 _ _ eL3)) el4 (by rw [L3,ly4,LY]; decide) fun m4 Hm4 hm4 sm4 em4=>?_
  have sA4:=(sy4.trans sl4).trans sm4
  have sL4:am H2 Hm4:=sL3.trans sA4
  have L4:(X3++ys4).length=12:=by rw [Mj,L3,ly4]
  have B4:∀ x∈X3++ys4,gY c h Hm4 x:=fun x hx=>by
   rcases Mt.mp hx with hx | hx
   ·exact (B3 x hx).same sA4
   ·exact (by4 x hx).same (sl4.trans sm4)
  have eL4:=em4
  refine kr ?_
  dsimp only [Oa,Ob]
  generalize X3++ys4=X4 at L4 B4 eL4
  clear B3 L3 eL3 by4 ly4 el4 em4
  obtain ⟨y,hy,my⟩:=E9 X4 z (m:=12) L4 (by decide)
  obtain ⟨sy,iy,oky,wy⟩:=B4 y my
  have R4:=R.to sL4
  have e24:=sL4 _ _ e2
  walk_at "rd"
  refine bZ (SqL.of eL4) hy ?_
  walk_at "rd"
  refine ⟨y,sy,rfl,iy,by omega,fun H5 s5=>?_⟩
  walk_at "rd"
  refine dq (fun cm=>?_) (fun cm=>?_)
  ·walk_at "rd"
   refine ⟨vi (s5 _ _ e24),?_⟩
   walk_at "rd"
   refine bZ (SqL.of (s5 _ _ eL4)) hy ?_
   walk_at "rd"
   refine fR (s5 _ _ e24) (by rw [LY]; omega) fun H6 o6 e6=>?_
   exact ⟨_,_,_,_,_,_,rfl,(R4.to s5).push (s5 _ _ e24) o6 e6 (iy.keep s5.keep) oky (by omega),by rw [Mj]; show ss.length + 1<=_; omega⟩
  ·walk_at "rd"
   exact ⟨_,_,_,_,_,_,rfl,R4.to s5,by omega⟩
 ·rintro σ H2 ⟨ss,v6,v7,v8,v9,v10,rfl,R,hl⟩
  obtain ⟨xs,e2,px⟩:=R.at_
  have hxl:=gH px
  have hne:xs≠[]:=fun z=>R.ne (O7.mp (by rw [<-hxl,z]; rfl))
  obtain ⟨x1,s1,hx1,hs1,is1⟩:=rL px hne
  walk_at "rd"
  exact bZ (SqL.of e2) hx1 (q x1 s1 H2 R.same is1 (R.ok s1 hs1).1 (R.ok s1 hs1).2)
end
section
variable {K:Fg} {vs:List V} {H:Hp} {Q:VK} {E:XK}
open KF
noncomputable def iaR:IA->V
 | none=>.non
 | some c=>.int c
theorem IE (a:IA):iaV (iaR a)=some a:=by cases a <;> rfl
noncomputable def wAt (w:List Nat) (c:Int):Int:=(w.getD c.toNat 0:Nat)
noncomputable def kE (w:List Nat) (h:Int) (cs:List Int) (a:IA):Prop:=
 (a=none/\∀ c∈cs,wAt w c≠h)\/∃ c,a=some c/\c∈cs/\wAt w c=h/\∀ d∈cs,wAt w d=h->c<=d
theorem kE.uniq {w:List Nat} {h:Int} {cs ds:List Int} (m:∀ y,y∈cs↔y∈ds) {a b:IA} (x:kE w h cs a) (y:kE w h ds b):a=b:=by
 rcases x with ⟨rfl,x⟩ | ⟨c,rfl,x1,x2,x3⟩
 ·rcases y with ⟨rfl,_⟩ | ⟨d,rfl,y1,y2,_⟩
  ·rfl
  ·exact absurd y2 (x d ((m d).mpr y1))
 ·rcases y with ⟨rfl,y⟩ | ⟨d,rfl,y1,y2,y3⟩
  ·exact absurd x2 (y c ((m c).mp x1))
  ·have h1:=x3 d ((m d).mpr y1) y2
   have h2:=y3 c ((m c).mp x1) x2
   rw [show c=d by omega]
theorem kE.stay {w:List Nat} {h c d:Int} {cs:List Int} (x:kE w h cs (some d)) (e:¬ c < d):kE w h (cs++[c]) (some d):=by
 rcases x with ⟨z,_⟩ | ⟨d',z,x1,x2,x3⟩
 ·cases z
 ·cases z
  refine .inr ⟨d,rfl,NG _ x1,x2,fun y hy hz=>?_⟩
  rcases Mt.mp hy with z | z
  ·exact x3 y z hz
  ·rw [LW.mp z]
   omega
theorem AB {w:List Nat} {c:Int} (h0:0<=c) (h1:c < w.length):atI (aw w) c=some (.int (wAt w c)):=by
 obtain ⟨n,rfl⟩:∃ n:Nat,c=(n:Int):=⟨c.toNat,by omega⟩
 have hn:n < w.length:=by omega
 refine cx ?_
 unfold wAt aw
 rw [LX,LS hn]
 simp [Md,LS hn]
noncomputable def kQ (_:Fg):Sp:=fun vs H Q _=>∃ (t p:Addr) (w:List Nat) (h:Int) (ms:List Int),vs=[.ref t,.int h,.ref p]/\H t=some (.tup (aw w))/\H p=some (.lst (ms.map V.int))/\ms.Pairwise (· < ·)/\(∀ c∈ms,0<=c/\c < w.length)/\
 ∀ a,kE w h ms a->Q (iaR a) H
noncomputable def ji (K:Fg):TS:=(ar (cR (cp K (ac 2)) (ao 3) (bp (bf (tOp rEq (tOp (ck K) (ac 0) (ac 3)) (ac 1))) (aJ (ac 3)) ba))
 (aJ (tC .non)))
theorem yF (h:kQ K vs H Q E):ji K { nx:=fun _ H'=>Q .non H',rt:=Q } (start ["deal","holder","rising","card"] vs) H:=by
 obtain ⟨t,p,w,h,ms,rfl,et,ep,pw,hb,q⟩:=h
 show ji K _ [some _,some _,some _,none] _
 unfold ji
 walk_at "rd"
 refine lK (ms.map V.int) (SqL.of ep) (fun i σ' H2=>∃ u:Option V,σ'=[some (.ref t),some (.int h),some (.ref p),u]/\H2=H/\∀ c∈ms.take i,wAt w c≠h) ⟨none,rfl,rfl,fun c hc=>by simp at hc⟩ ?_ ?_ ?_
 ·rintro i σ' H2 hi ⟨u,rfl,rfl,_⟩
  exact SqL.of ep
 ·rintro i x σ' H2 hx ⟨u,rfl,rfl,hn⟩
  rw [LX] at hx
  obtain ⟨c,hc,rfl⟩:=Sw.mp hx
  have hm:c∈ms:=LZ hc
  walk_at "rd"
  refine bj (SqT.of et) (AB (hb c hm).1 (hb c hm).2) ?_
  walk_at "rd"
  by_cases e:wAt w c=h
  ·rw [if_pos (decide_eq_true e)]
   walk_at "rd"
   refine q (some c) (.inr ⟨c,rfl,hm,e,fun d hd he=>?_⟩)
   obtain ⟨j,hj⟩:=QK hd
   obtain ⟨hi1,hi2⟩:=LU.mp hc
   obtain ⟨hj1,hj2⟩:=LU.mp hj
   rcases Rz j i with z | z | z
   ·exact absurd he (hn d (Py.mpr ⟨j,by rw [PU z]; exact hj⟩))
   ·subst z
    rw [<-hi2,<-hj2]
    exact Int.le_refl _
   ·have:=Ov.mp pw i j hi1 hj1 z
    rw [hi2,hj2] at this
    omega
  ·rw [if_neg (by rw [decide_eq_false e]; exact Ma)]
   walk_at "rd"
   refine ⟨_,rfl,rfl,fun d hd=>?_⟩
   rw [NP,hc] at hd
   rcases Mt.mp hd with z | z
   ·exact hn d z
   ·rw [LW.mp z]
    exact e
 ·rintro σ' H2 ⟨u,rfl,rfl,hn⟩
  walk_at "rd"
  rw [LR,MF] at hn
  exact q none (.inl ⟨rfl,hn⟩)
noncomputable def bT (_:Fg):Sp:=fun vs H Q _=>∃ z:Str,vs=[.bl true,.str z]/\Q .non H
noncomputable def gx (K:Fg):TS:=(bp (d5 (tB (ac 0))) qK ba)
theorem uC (h:bT K vs H Q E):gx K { nx:=fun _ H'=>Q .non H',rt:=Q } (start ["fit","reason"] vs) H:=by
 obtain ⟨z,rfl,q⟩:=h
 show gx K _ [some _,some _] _
 unfold gx
 walk_at "rd"
 exact q
noncomputable def md (_:Fg):Sp:=fun vs H Q _=>∃ (p:Addr) (ns:List Int) (c:Int),vs=[.ref p,.int c]/\H p=some (.lst (ns.map V.int))/\ns.length<=1000/\(∀ n∈ns,0<=n/\n < c)/\∀ H',am H H'->Q (.bl true) H'
noncomputable def kd (K:Fg):TS:=(aJ (oU (tCB (fP K) (aa (ac 0) (aa (tC (.ty "list")) ag))) (tCB (CZ K) (aa (bO (cp K (ac 0)) (fun _ _ _ _=>(ao 0)) (fun _ _ _ _=>bL) (fun _ _ _ _=>(au (cA K) [] E0 (aa (ac 0) (aa (ac 1) ag)))) [none,some 1]) ag))))
theorem AC (h:md K vs H Q E):kd K { nx:=fun _ H'=>Q .non H',rt:=Q } (start ["thing","cards"] vs) H:=by
 obtain ⟨p,ns,c,rfl,ep,hl,hb,q⟩:=h
 show kd K _ [some _,some _] _
 unfold kd
 walk_at "rd"
 refine eV (.lst ep) (jW K) ?_
 walk_at "rd"
 refine dJ (ns.map V.int) (SqL.of ep) (by rw [LR]; omega) (fun i acc _=>acc=(MI i true).map V.bl) (fun _ _=>rfl) ?_ ?_
 ·rintro p' hp' C s' H' fp i x acc H2 hx ⟨s2,e2,l2,rfl⟩
  obtain ⟨z,hz,rfl⟩:=vE hx
  have ⟨b1,b2⟩:=hb z (LZ hz)
  walk_at "rd"
  refine ⟨z,c,rfl,?_⟩
  rw [eY b1 (show z<=c - 1 by omega)]
  exact aX.put hp' (fun i acc H H' r k=>r) s2 e2 l2 (by rw [PC,Ml]; rfl)
 ·rintro p' acc H2 hp' s2 e2 rfl
  walk_at "rd"
  refine ⟨p',MI ns.length true,rfl,SqL.of (by rw [e2,LR]),?_⟩
  have ha:(MI ns.length true).all id=true:=by simp
  rw [ha]
  exact q H2 s2
theorem ow {K:Fg} {ta tv:TE} {f:Str} {D:jD} {σ:St} {H:Hp} (h:tv σ H fun y H1=>ta σ H1 fun x H2=>∃ a C dx fs,x=.ref a/\H2 a=some (.ins C dx fs)/\Cls K C/\eU K C f/\fs.length < 1000/\D.nx σ (upd H2 a (.ins C dx (gD f y fs)))):qP K ta tv f D σ H:=h
theorem dL {K:Fg} {ta:TE} {f:Str} {σ:St} {H:Hp} {Q:VK} (h:ta σ H fun x H1=>∃ a C dx fs v,x=.ref a/\H1 a=some (.ins C dx fs)/\Cls K C/\eU K C f/\fs.lookup f=some v/\Q v H1):eM K ta f σ H Q:=h
theorem KS {C:Addr} {sp:Sp} {dvs:List V} {E:XK} {t:TA} {σ:St} {H:Hp} {Q:VK} (h:t σ H fun vs H1=>∀ x dx,H1 x=none->H1 dx=none->dx≠x->sp (.ref x :: (vs++dvs)) (upd (upd H1 dx (.own x)) x (.ins C dx [])) (fun v H2=>v=.non/\Q (.ref x) H2) E):zp C sp dvs E t σ H Q:=h
theorem mh {C:Addr} {m:Str} {sp:Sp} {dvs:List V} {E:XK} {ta:TE} {t:TA} {σ:St} {H:Hp} {Q:VK} (h:ta σ H fun x H1=>∃ a dx fs,x=.ref a/\H1 a=some (.ins C dx fs)/\fs.lookup m=none/\t σ H1 fun vs H2=>sp (x :: (vs++dvs)) H2 Q E):jU C m sp dvs E ta t σ H Q:=h
noncomputable def Kx (x:Addr) (H H':Hp):Prop:=∀ b o,b≠x->H b=some o->H' b=some o
theorem Kx.refl (x:Addr) (H:Hp):Kx x H H:=fun _ _ _ e=>e
theorem Kx.same {x:Addr} {H H1 H2:Hp} (k:Kx x H H1) (s:am H1 H2):Kx x H H2:=fun b o n e=>s _ _ (k b o n e)
theorem Kx.upd {x:Addr} {H H1:Hp} {u:HO} (k:Kx x H H1):Kx x H (L2.upd H1 x u):=fun b o n e=>by rw [aM n]; exact k b o n e
theorem jK {H H':Hp} {x p:Addr} {ws:List (List Nat)} {C dx:Addr} {fs:List (Str×V)} (D:bF H p ws) (hx:H x=some (.ins C dx fs)) (k:Kx x H H'):bF H' p ws:=by
 obtain ⟨rs,e,hr⟩:=D
 refine ⟨rs,k _ _ (fun z=>by rw [z,hx] at e; cases e) e,Paired.mapP hr fun a w e=>k _ _ (fun z=>by rw [z,hx] at e; cases e) e⟩
theorem rM {H:Hp} {x b:Addr} {C dx:Addr} {fs:List (Str×V)} {xs:List V} (hx:H x=some (.ins C dx fs)) (e:H b=some (.lst xs)):b≠x:=fun z=>by rw [z,hx] at e; cases e
theorem sO {R:Hp->Prop} {H:Hp} {a C dx:Addr} {fs:List (Str×V)} (h:∀ H3,Kx a H H3->H3 a=some (.ins C dx fs)->R H3):R (upd H a (.ins C dx fs)):=h _ (Kx.upd (Kx.refl _ _)) az
structure Kp (M:List Addr) (H H':Hp):Prop where
 k:∀ b o,H b=some o->(b∉M\/∀ xs,o≠.lst xs)->H' b=some o
 f:∀ b,H' b=none->H b=none
theorem Kp.of {M:List Addr} {H H':Hp} (s:am H H'):Kp M H H':=⟨fun b o e _=>s b o e,fun b h=>s.free h⟩
theorem Kp.trans {M:List Addr} {H H1 H2:Hp} (a:Kp M H H1) (b:Kp M H1 H2):Kp M H H2:=⟨fun x o e h=>b.k x o (a.k x o e h) h,fun x h=>a.f x (b.f x h)⟩
theorem Kp.mono {M N:List Addr} {H H':Hp} (a:Kp M H H') (h:∀ b∈M,b∈N):Kp N H H':=⟨fun x o e q=>a.k x o e (q.imp (fun n m=>n (h x m)) id),a.f⟩
theorem Kp.keep {M:List Addr} {H H':Hp} (a:Kp M H H'):dR H H':=fun b xs e=>a.k b _ e (.inr fun _ z=>nomatch z)
theorem Kp.tup {M:List Addr} {H H':Hp} (a:Kp M H H') {b:Addr} {xs:List V} (e:H b=some (.tup xs)):H' b=some (.tup xs):=a.keep _ _ e
theorem Kp.ins {M:List Addr} {H H':Hp} (a:Kp M H H') {b C dx:Addr} {fs:List (Str×V)} (e:H b=some (.ins C dx fs)):H' b=some (.ins C dx fs):=a.k b _ e (.inr fun _ z=>nomatch z)
theorem Kp.lst {M:List Addr} {H H':Hp} (a:Kp M H H') {b:Addr} {o:HO} (n:b∉M) (e:H b=some o):H' b=some o:=a.k b _ e (.inl n)
theorem Kp.new {M:List Addr} {H0 H H':Hp} (s:am H0 H) (a:Kp M H H') (h:∀ b∈M,H0 b=none):am H0 H':=fun b o e=>a.lst (fun m=>by rw [h b m] at e; cases e) (s b o e)
theorem Kp.upd {M:List Addr} {H H':Hp} {l:Addr} {xs ys:List V} (a:Kp M H H') (e:H' l=some (.lst xs)) (hl:l∈M):Kp M H (L2.upd H' l (.lst ys)):=⟨fun b o q n=>by
 by_cases z:b=l
 ·subst z
  have:=a.k _ _ q n
  rw [e] at this
  cases this
  rcases n with n | n
  ·exact absurd hl n
  ·exact absurd rfl (n _)
 ·rw [aM z]
  exact a.k b o q n,fun b h=>by
 by_cases z:b=l
 ·subst z
  rw [az] at h
  cases h
 ·rw [aM z] at h
  exact a.f b h⟩
theorem Kp.off {M:List Addr} {H H1 H2:Hp} {l:Addr} {xs ys:List V} (a:Kp M H H1) (e:H1 l=some (.lst xs)) (hl:l∈M) (o:Off l H1 H2) (e2:H2 l=some (.lst ys)):Kp M H H2:=by
 have:H2=L2.upd H1 l (.lst ys):=by
  funext b
  by_cases z:b=l
  ·subst z; rw [az]; exact e2
  ·rw [aM z]; exact o b z
 rw [this]
 exact a.upd e hl
noncomputable def vW (M:List Addr) (H:Hp) (d:V) (m:List Nat×List V):Prop:=∃ t h v,d=.ref t/\H t=some (.tup [.ref h,.ref v])/\H h=some (.tup (aw m.1))/\H v=some (.lst m.2)/\v∉M
theorem vW.kp {M N:List Addr} {H H':Hp} {d:V} {m:List Nat×List V} (h:vW M H d m) (a:Kp N H H') (hn:∀ b∈N,b∈M):vW M H' d m:=by
 obtain ⟨t,x,v,e,h1,h2,h3,h4⟩:=h
 exact ⟨t,x,v,e,a.tup h1,a.tup h2,a.lst (fun z=>h4 (hn _ z)) h3,h4⟩
noncomputable def AD (pd ps pv pe:Addr) (T:TM):List (Str×V):=[("dealt",.ref pd),("cards",.int T.c),("sizes",.ref ps),("hands",.int T.k),("views",.ref pv),("deeds",.ref pe)]
structure TbX (G:GF) (M:List Addr) (H:Hp) (x pv pe:Addr) (T:TM) (dx pd ps:Addr) (qs:List Addr) (es:List V):Prop where
 hx:H x=some (.ins G.Table dx (AD pd ps pv pe T))
 dl:bF H pd T.ws
 nd:pd∉M
 sz:H ps=some (.lst (aw T.ss))
 ns:ps∉M
 vs:H pv=some (.lst (qs.map V.ref))
 qv:Paired (fun (q:Addr) (v:List Nat)=>H q=some (.lst (aw v))/\q∉M) qs T.vw
 pes:H pe=some (.lst es)
 ed:Paired (vW M H) es T.ds
structure Tb (G:GF) (M:List Addr) (H:Hp) (x pv pe:Addr) (T:TM):Prop where
 ok:T.Ok
 ex:∃ dx pd ps qs es,TbX G M H x pv pe T dx pd ps qs es
 ne:pv≠pe
 mv:pv∈M
 me:pe∈M
 al:∀ b∈M,H b≠none
theorem bF.kp {M:List Addr} {H H':Hp} {p:Addr} {ws:List (List Nat)} (d:bF H p ws) (a:Kp M H H') (n:p∉M):bF H' p ws:=d.to' a.keep fun rs e=>a.lst n e
theorem Tb.kp {G:GF} {M N:List Addr} {H H':Hp} {x pv pe:Addr} {T:TM} (t:Tb G M H x pv pe T) (a:Kp N H H') (hn:∀ b∈N,b∈M) (n1:pv∉N) (n2:pe∉N):Tb G M H' x pv pe T:=by
 obtain ⟨dx,pd,ps,qs,es,X⟩:=t.ex
 exact ⟨t.ok,⟨dx,pd,ps,qs,es,a.ins X.hx,X.dl.kp a fun z=>X.nd (hn _ z),X.nd,a.lst (fun z=>X.ns (hn _ z)) X.sz,X.ns,a.lst n1 X.vs,Paired.mapP X.qv fun _ _ ⟨e,n⟩=>⟨a.lst (fun z=>n (hn _ z)) e,n⟩,a.lst n2 X.pes,Paired.mapP X.ed fun _ _ h=>h.kp a hn⟩,t.ne,t.mv,t.me,fun b hb z=>t.al b hb (a.f b z)⟩
theorem Tb.same {G:GF} {M:List Addr} {H H':Hp} {x pv pe:Addr} {T:TM} (t:Tb G M H x pv pe T) (s:am H H'):Tb G M H' x pv pe T:=t.kp (N:=[]) (Kp.of s) (fun _ z=>nomatch z) (fun z=>nomatch z) (fun z=>nomatch z)
theorem Tb.grow {G:GF} {M N:List Addr} {H:Hp} {x pv pe:Addr} {T:TM} (t:Tb G M H x pv pe T) {H':Hp} (s:am H H') (hn:∀ b∈N,H b=none) (ha:∀ b∈N,H' b≠none):Tb G (N++M) H' x pv pe T:=by
 obtain ⟨dx,pd,ps,qs,es,X⟩:=t.ex
 have go:∀ {b:Addr} {o:HO},H b=some o->b∉M->b∉N++M:=fun e n z=>by
  rcases Mt.mp z with z | z
  ·rw [hn _ z] at e; cases e
  ·exact n z
 have hd:pd∉N++M:=by
  obtain ⟨rs,e,_⟩:=X.dl
  exact go e X.nd
 exact ⟨t.ok,⟨dx,pd,ps,qs,es,s _ _ X.hx,X.dl.same' s,hd,s _ _ X.sz,go X.sz X.ns,s _ _ X.vs,Paired.mapP X.qv fun _ _ ⟨e,n⟩=>⟨s _ _ e,go e n⟩,s _ _ X.pes,Paired.mapP X.ed fun _ _ ⟨t,h,v,e,h1,h2,h3,h4⟩=>⟨t,h,v,e,s _ _ h1,s _ _ h2,s _ _ h3,go h3 h4⟩⟩,t.ne,MB _ t.mv,MB _ t.me,fun b hb=>by
  rcases Mt.mp hb with z | z
  ·exact ha b z
  ·intro y
   exact t.al b z (s.free y)⟩
theorem Tb.off {G:GF} {M:List Addr} {H:Hp} {x pv pe:Addr} {T:TM} (t:Tb G M H x pv pe T) {p:Addr} (h:H p=none):p∉M:=fun z=>t.al p z h
theorem Tb.at {G:GF} {M:List Addr} {H:Hp} {x pv pe:Addr} {T:TM} (t:Tb G M H x pv pe T) (m:Str) (h1:(m == "dealt")=false) (h2:(m == "cards")=false) (h3:(m == "sizes")=false) (h4:(m == "hands")=false) (h5:(m == "views")=false) (h6:(m == "deeds")=false):∃ dx fs,H x=some (.ins G.Table dx fs)/\fs.lookup m=none:=by
 obtain ⟨dx,pd,ps,qs,es,X⟩:=t.ex
 refine ⟨dx,_,X.hx,?_⟩
 simp only [AD,Pg,h1,h2,h3,h4,h5,h6]
noncomputable def fY (_:Fg) (G:GF):Sp:=fun vs H Q _=>∃ (M:List Addr) (x dx a:Addr) (c:Nat) (ss:List Nat),vs=[.ref x,.int c,.ref a]/\H x=some (.ins G.Table dx [])/\H a=some (.lst (aw ss))/\rg c ss/\KM.cr c ss<=2000/\(∀ b∈M,H b≠none)/\x∉M/\
 ∀ (H':Hp) (pv pe:Addr),Kx x H H'->H pv=none->H pe=none->Tb G (pv :: pe :: M) H' x pv pe (TM.begun c ss)->Q .non H'
noncomputable def jj (K:Fg) (G:GF):TS:=(ar (qP K (ac 0) (au (j3 K) [] E0 (aa (ac 1) (aa (ac 2) ag))) "dealt")
 (ar (qP K (ac 0) (ac 1) "cards")
 (ar (qP K (ac 0) (tCB (lU K) (aa (ac 2) ag)) "sizes")
 (ar (qP K (ac 0) (tCB (d7 K) (aa (ac 2) ag)) "hands")
 (ar (qP K (ac 0) (bO (fq (aa (eM K (ac 0) "hands") ag)) (fun _ _ _ _=>(ao 0)) (fun _ _ _ _=>bL) (fun _ _ _ _=>(au (kN K) [] E0 (aa (eM K (ac 1) "dealt") (aa (ac 0) ag)))) [none,some 0]) "views")
 (qP K (ac 0) (d8 ag) "deeds"))))))
noncomputable abbrev AE:List Str:=["self","cards","sizes"]
theorem FI {α β:Type} {F:α->β->Prop} {l:List α} {m:List β} {a:α} {b:β} (h:Paired F l m) (q:F a b):Paired F (l++[a]) (m++[b]):=by
 induction h with
 | nil=>exact .cons q .nil
 | cons x _ ih=>exact .cons x ih
theorem AF {R:Addr->List Nat->Prop}:∀ {acc:List V} {f:Nat->List Nat},(∀ j:Nat,j < acc.length->∃ q,acc[j]?=some (.ref q)/\R q (f j))->∃ qs:List Addr,acc=qs.map V.ref/\Paired R qs ((Mn acc.length).map f)
 | [],_,_=>⟨[],rfl,.nil⟩
 | x :: acc,f,h=>by
  obtain ⟨qs,e,p⟩:=AF (acc:=acc) (f:=fun j=>f (j + 1)) fun j hj=>by
   obtain ⟨q,h1,h2⟩:=h (j + 1) (by rw [My]; omega)
   exact ⟨q,by simpa using h1,h2⟩
  obtain ⟨q,h1,h2⟩:=h 0 (by simp)
  refine ⟨q :: qs,by rw [Mo,<-e]; exact congrArg (· :: acc) (by simpa using h1),?_⟩
  rw [My,Sv,Mo,NQ]
  exact .cons h2 p
theorem yG {K:Fg} {G:GF} (ct:rJ K G.Table) {vs:List V} {H:Hp} {Q:VK} {E:XK} (h:fY K G vs H Q E):jj K G { nx:=fun _ H'=>Q .non H',rt:=Q } (start AE vs) H:=by
 obtain ⟨M,x,dx,a,c,ss,rfl,hx,e,pk,hm,hM,hxM,q⟩:=h
 have nk:∀ {H1:Hp} {b:Addr} {fs:List (Str×V)},Kx x H H1->H1 x=some (.ins G.Table dx fs)->H1 b=none->H b=none:=fun {H1 b fs} kk ex eb=>by
  cases e:H b with
  | none=>rfl
  | some o=>
   by_cases z:b=x
   ·rw [z,ex] at eb; cases eb
   ·rw [kk _ _ z e] at eb; cases eb
 have h5:=pk.l5
 have nxa:a≠x:=fun z=>by rw [z,hx] at e; cases e
 show jj K G _ [some _,some _,some _] _
 unfold jj
 refine bu (ow ?_)
 walk_at "rd"
 refine ⟨c,a,ss,rfl,e,pk,hm,fun p H1 s1 hp D1=>?_⟩
 have okT:=TM.Ok.begun pk hm
 have hws:∀ w∈KM.cE (ss++[c - ss.sum]) c,w.length<=1000:=fun w hw=>by
  have:=(KM.ik _ c w hw).len
  have:=pk.c12
  omega
 have hwl:(KM.cE (ss++[c - ss.sum]) c).length<=2000:=by rw [KM.jZ pk.sum]; exact hm
 obtain ⟨ws,hWs⟩:∃ ws,ws=KM.cE (ss++[c - ss.sum]) c:=⟨_,rfl⟩
 rw [<-hWs] at hws hwl D1
 walk_at "rd"
 refine ⟨x,G.Table,dx,[],rfl,s1 _ _ hx,ct.cl,ct.n1,by simp,sO fun H2 l2 x2=>?_⟩
 have k2:Kx x H H2:=fun b o n e=>l2 _ _ n (s1 _ _ e)
 have D2:=jK D1 (s1 _ _ hx) l2
 refine bu (ow ?_)
 walk_at "rd"
 refine ⟨x,G.Table,dx,_,rfl,x2,ct.cl,ct.n2,Ot rfl,sO fun H3 l3 x3=>?_⟩
 have k3:Kx x H H3:=fun b o n e=>l3 _ _ n (k2 _ _ n e)
 have D3:=jK D2 x2 l3
 refine bu (ow ?_)
 walk_at "rd"
 refine qZ (SqL.of (k3 _ _ nxa e)) fun l4 H4 hl4 s4 e4=>?_
 have nxl:l4≠x:=rM (s4 _ _ x3) e4
 walk_at "rd"
 refine ⟨x,G.Table,dx,_,rfl,s4 _ _ x3,ct.cl,ct.n3,Ot rfl,sO fun H5 l5 x5=>?_⟩
 have k5:Kx x H H5:=fun b o n e=>l5 _ _ n (s4 _ _ (k3 _ _ n e))
 have D5:=jK (D3.same' s4) (s4 _ _ x3) l5
 have a5:=k5 _ _ nxa e
 refine bu (ow ?_)
 walk_at "rd"
 rw [bg]
 refine ⟨x,G.Table,dx,_,rfl,x5,ct.cl,ct.n4,Ot rfl,sO fun H6 l6 x6=>?_⟩
 have k6:Kx x H H6:=fun b o n e=>l6 _ _ n (k5 _ _ n e)
 have D6:=jK D5 x5 l6
 have e46:H6 l4=some (.lst (aw ss)):=l6 _ _ nxl (l5 _ _ nxl e4)
 refine bu (ow ?_)
 walk_at "rd"
 refine dL ?_
 walk_at "rd"
 refine ⟨x,G.Table,dx,_,_,rfl,x6,ct.cl,ct.n4,rfl,?_⟩
 walk_at "rd"
 refine FC ss.length (by omega) (by omega) (by omega) (fun p' i acc H2=>acc.length=i/\∀ j:Nat,j < i->∃ q,acc[j]?=some (.ref q)/\(q≠p'/\q∉M)/\H2 q=some (.lst (aw (ja ws (j:Int))))) (fun _ _ _=>⟨rfl,fun j hj=>absurd hj (NT _)⟩) ?_ ?_
 ·intro p' hp' C s' H' fp i acc H7 hi ⟨s7,e7,l7,r7⟩
  walk_at "rd"
  refine dL ?_
  walk_at "rd"
  refine ⟨x,G.Table,dx,_,_,rfl,s7 _ _ x6,ct.cl,ct.n1,rfl,?_⟩
  walk_at "rd"
  refine ⟨p,ws,(i:Int),rfl,D6.same' s7,hws,by omega,fun q8 H8 hq8 s8 e8=>?_⟩
  obtain ⟨r1,r2⟩:=r7
  refine aX.putW hp' (s7.trans s8) (s8 _ _ e7) l7 fun H9 o9=>⟨by rw [Mj,r1]; rfl,fun j hj=>?_⟩
  by_cases hj2:j < i
  ·obtain ⟨q,h1,h2,h3⟩:=r2 j hj2
   exact ⟨q,by rw [OU (by omega)]; exact h1,h2,(o9 _ h2.1).trans (s8 _ _ h3)⟩
  ·have ej:j=i:=by omega
   subst ej
   have hqp:q8≠p':=fun z=>by rw [z,e7] at hq8; cases hq8
   exact ⟨q8,by rw [PD (by omega),r1,RX]; rfl,⟨hqp,fun z=>hM _ z (nk (k6.same s7) (s7 _ _ x6) hq8)⟩,(o9 _ hqp).trans e8⟩
 ·intro pv acc H7 hpv s7 e7 ⟨r1,r2⟩
  walk_at "rd"
  refine ⟨x,G.Table,dx,_,rfl,s7 _ _ x6,ct.cl,ct.n5,Ot rfl,sO fun H8 kk x8=>?_⟩
  have k8:Kx x H H8:=fun b o n e=>kk _ _ n (s7 _ _ (k6 _ _ n e))
  have D8:=jK (D6.same' s7) (s7 _ _ x6) kk
  have v8:=kk _ _ (rM (s7 _ _ x6) e7) e7
  refine ow ?_
  walk_at "rd"
  refine ⟨by simp [LY],fun pe H9 hpe s9 e9=>?_⟩
  walk_at "rd"
  refine ⟨x,G.Table,dx,_,rfl,s9 _ _ x8,ct.cl,ct.n6,Ot rfl,sO fun HA kz xA=>?_⟩
  have kA:Kx x H HA:=fun b o n e=>kz _ _ n (s9 _ _ (k8 _ _ n e))
  have gv:=nk k6 x6 hpv
  have ge:=nk k8 x8 hpe
  have npv:pv≠pe:=be v8 hpe
  have npd:p∉pv :: pe :: M:=fun z=>by
   obtain ⟨rs6,er6,_⟩:=id D6
   rcases L7.mp z with z | z
   ·rw [z] at er6; rw [er6] at hpv; cases hpv
   ·rcases L7.mp z with z | z
    ·obtain ⟨rs8,er8,_⟩:=id D8
     rw [z] at er8; rw [er8] at hpe; cases hpe
    ·exact hM _ z hp
  have e48:=kk _ _ nxl (s7 _ _ e46)
  have nps:l4∉pv :: pe :: M:=fun z=>by
   rcases L7.mp z with z | z
   ·rw [z] at e46; rw [e46] at hpv; cases hpv
   ·rcases L7.mp z with z | z
    ·rw [z] at e48; rw [e48] at hpe; cases hpe
    ·exact hM _ z (nk k3 x3 hl4)
  have rr:=AF (R:=fun q v=>(q≠pv/\q∉M)/\H8 q=some (.lst (aw v))) (f:=fun j=>ja ws ((j:Nat):Int)) (fun j hj=>by
   obtain ⟨q,h1,h2,h3⟩:=r2 j (by rw [<-r1]; exact hj)
   exact ⟨q,h1,h2,kk _ _ (rM (s7 _ _ x6) h3) h3⟩)
  rw [r1] at rr
  obtain ⟨qs,rfl,hqs⟩:=rr
  have up:∀ {b:Addr} {xs:List V},H8 b=some (.lst xs)->HA b=some (.lst xs):=fun e=>kz _ _ (rM (s9 _ _ x8) (s9 _ _ e)) (s9 _ _ e)
  have pe9:=kz _ _ (rM (s9 _ _ x8) e9) e9
  refine q HA pv pe kA gv ge ⟨okT,⟨dx,p,l4,qs,[],xA,?_,npd,up e48,nps,up v8,?_,pe9,.nil⟩,npv,Mc,Mh _ Mc,fun b hb y=>?_⟩
  ·show bF _ p (KM.cE (ss++[c - ss.sum]) c)
   rw [<-hWs]
   exact jK (D8.same' s9) (s9 _ _ x8) kz
  ·show Paired _ qs ((Mn ss.length).map fun i=>ja (KM.cE (ss++[c - ss.sum]) c) ((i:Nat):Int))
   rw [<-hWs]
   refine Paired.mapP hqs fun a' v ⟨h2,h3⟩=>⟨up h3,fun z=>?_⟩
   rcases L7.mp z with z | z
   ·exact h2.1 z
   ·rcases L7.mp z with z | z
    ·rw [z] at h3; rw [h3] at hpe; cases hpe
    ·exact h2.2 z
  ·rcases L7.mp hb with z | z
   ·rw [z,up v8] at y; cases y
   ·rcases L7.mp z with z | z
    ·rw [z,pe9] at y; cases y
    ·cases eb:H b with
     | none=>exact hM b z eb
     | some o=>rw [kA b o (fun w=>hxM (w ▸ z)) eb] at y; cases y
end
section
open KF
theorem TbX.view {G:GF} {M:List Addr} {H:Hp} {x pv pe:Addr} {T:TM} {dx pd ps:Addr} {qs:List Addr} {es:List V} (X:TbX G M H x pv pe T dx pd ps qs es) {i:Nat} (hi:i < T.vw.length):∃ qi,qs[i]?=some qi/\H qi=some (.lst (aw (T.vw.getD i [])))/\qi∉M:=by
 have lq:qs.length=T.vw.length:=M5 X.qv
 have hq:qs[i]?=some (qs[i]'(by omega)):=LS _
 obtain ⟨v,hv,h1,h2⟩:=bS X.qv hq
 exact ⟨_,hq,by rw [iW hv]; exact h1,h2⟩
noncomputable def kR (_:Fg) (G:GF):Sp:=fun vs H Q _=>∃ (M:List Addr) (x pv pe:Addr) (T:TM) (i:Nat),vs=[.ref x,.int i]/\Tb G M H x pv pe T/\i < T.k/\∀ (p:Addr) (H':Hp),H p=none->am H H'->H' p=some (.lst (aw (T.vw.getD i [])))->Q (.ref p) H'
noncomputable def jk (K:Fg) (G:GF):TS:=(ar (cV (au (bT K) [] E0 (aa (au (cA K) [] E0 (aa (ac 1) (aa (eM K (ac 0) "hands") ag))) (aa (tC (.str "this is no hand")) ag))))
 (aJ (tCB (lU K) (aa (tOp (cS K) (eM K (ac 0) "views") (ac 1)) ag))))
noncomputable abbrev AG:List Str:=["self","hand"]
theorem yH {K:Fg} {G:GF} (ct:rJ K G.Table) {vs:List V} {H:Hp} {Q:VK} {E:XK} (h:kR K G vs H Q E):jk K G { nx:=fun _ H'=>Q .non H',rt:=Q } (start AG vs) H:=by
 obtain ⟨M,x,pv,pe,T,i,rfl,t,hi,q⟩:=h
 obtain ⟨dx,pd,ps,qs,es,X⟩:=t.ex
 show jk K G _ [some _,some _] _
 unfold jk
 walk_at "rd"
 refine dL ?_
 walk_at "rd"
 refine ⟨x,G.Table,dx,_,_,rfl,X.hx,ct.cl,ct.n4,rfl,?_⟩
 walk_at "rd"
 refine ⟨(i:Int),(T.k:Int),rfl,?_⟩
 rw [eY (by omega) (by omega)]
 walk_at "rd"
 refine ⟨_,rfl,?_⟩
 walk_at "rd"
 refine dL ?_
 walk_at "rd"
 refine ⟨x,G.Table,dx,_,_,rfl,X.hx,ct.cl,ct.n5,rfl,?_⟩
 walk_at "rd"
 obtain ⟨qi,hq,h2,_⟩:=X.view (i:=i) (by rw [t.ok.len]; exact hi)
 refine bZ (SqL.of X.vs) (cx (v:=.ref qi) (by rw [LX,hq]; rfl)) ?_
 walk_at "rd"
 refine qZ (SqL.of h2) fun p H1 hp s1 e1=>?_
 exact q p H1 hp s1 e1
noncomputable def Tld (G:GF) (M:List Addr) (H:Hp) (x pv pe:Addr) (T:TM) (ys:List V) (Q:VK):Prop:=∀ p Hm H',Kp [pv,pe] H Hm->Tb G M Hm x pv pe T->Hm p=none->am Hm H'->H' p=some (.lst ys)->Q (.ref p) H'
noncomputable def g9 (_:Fg) (G:GF):Sp:=fun vs H Q _=>∃ (M:List Addr) (x pv pe tp vp:Addr) (T:TM) (g:List Nat) (as:List IA) (ys:List V),vs=[.ref x,.ref tp,.ref vp]/\Tb G M H x pv pe T/\H tp=some (.tup (aw g))/\(∀ h∈g,h < T.k)/\H vp=some (.lst ys)/\vp∉M/\ys.map iaV=as.map some/\as.length=T.n/\T.ds.length < 1000/\
 Tld G M H x pv pe (T.learn g as ys) ys Q
noncomputable def iC (K:Fg) (G:GF):TS:=(ar (cR (uk K (ac 1)) (ao 3) (aK (au (uz K) [] E0 (aa (tOp (cS K) (eM K (ac 0) "views") (ac 3)) (aa (ac 2) ag))) (oW (eM K (ac 0) "views") (ac 3) mP)))
 (ar (cV (tBM K "list" eO (eM K (ac 0) "deeds") (aa (dg (aa (ac 1) (aa (ac 2) ag))) ag)))
 (aJ (tCB (lU K) (aa (ac 2) ag)))))
noncomputable abbrev yI:List Str:=["self","hands","values","hand"]
theorem Lr {n j:Nat} (h:j < n):ixN n (j:Int)=some j:=by
 unfold ixN
 rw [if_pos (by omega),if_pos (by omega)]
 simp
theorem Dn {α β:Type} {F:α->β->Prop} {l:List α} {m:List β} (h:Paired F l m) {a:α} {b:β} (r:F a b):∀ i:Nat,Paired F (l.set i a) (m.set i b):=by
 induction h with
 | nil=>exact fun i=>.nil
 | cons r' t ih=>
  intro i
  cases i with
  | zero=>exact .cons r t
  | succ i=>exact .cons r' (ih i)
theorem xq {K:Fg} {G:GF} (ct:rJ K G.Table) {vs:List V} {H:Hp} {Q:VK} {E:XK} (h:g9 K G vs H Q E):iC K G { nx:=fun _ H'=>Q .non H',rt:=Q } (start yI vs) H:=by
 obtain ⟨M,x,pv,pe,tp,vp,T,g,as,ys,rfl,t,et,hg,evp,nvp,hia,hla,hds,q⟩:=h
 obtain ⟨dx,pd,ps,qs,es,X⟩:=t.ex
 have n2:=t.ok.n2
 show iC K G _ [some _,some _,some _,none] _
 unfold iC
 walk_at "rd"
 have me1:pv∈[pv,pe]:=Mc
 have me2:pe∈[pv,pe]:=Mh _ Mc
 have sub:∀ b∈[pv,pe],b∈M:=fun b hb=>by
  rcases L7.mp hb with z | z
  ·rw [z]; exact t.mv
  ·rw [LW.mp z]; exact t.me
 have nvp':vp∉[pv,pe]:=fun z=>nvp (sub _ z)
 refine vm (aw g) (SqT.of et) (fun j σ' H2=>∃ (u:Option V) (qs2:List Addr),σ'=[some (.ref x),some (.ref tp),some (.ref vp),u]/\Kp [pv] H H2/\H2 pv=some (.lst (qs2.map V.ref))/\Paired (fun (q:Addr) (v:List Nat)=>H2 q=some (.lst (aw v))/\q∉M) qs2 (lrn T.vw (g.take j) as)) ⟨none,qs,rfl,Kp.of (am.refl _),X.vs,X.qv⟩ ?_ ?_ ?_
 ·rintro j σ' H2 hj ⟨u,qs2,rfl,k2,_⟩
  exact SqT.of (k2.tup et)
 ·rintro j y σ' H2 hy ⟨u,qs2,rfl,k2,e2,p2⟩
  obtain ⟨hd,hh,rfl⟩:=fE hy
  have hk:=hg hd (LZ hh)
  have hx2:=k2.ins X.hx
  have lq:qs2.length=T.vw.length:=by rw [M5 p2,xn]
  have hdl:hd < qs2.length:=by rw [lq,t.ok.len]; exact hk
  have hq:qs2[hd]?=some (qs2[hd]'hdl):=LS _
  generalize qs2[hd]'hdl=qi at hq
  obtain ⟨v,hv,h1,h2⟩:=bS p2 hq
  have hvw:Within T.n v:=sK (P:=Within T.n) (fun v hv=>rH hv hla) (g.take j) T.vw (fun h hh=>by rw [t.ok.len]; exact hg h (List.mem_of_mem_take hh)) t.ok.win v (LZ hv)
  walk_at "rd"
  refine dL ?_
  walk_at "rd"
  refine ⟨x,G.Table,dx,_,_,rfl,hx2,ct.cl,ct.n5,rfl,?_⟩
  walk_at "rd"
  refine bZ (SqL.of e2) (cx (v:=.ref qi) (by rw [LX,hq]; rfl)) ?_
  walk_at "rd"
  refine ⟨qi,vp,v,ys,as,rfl,h1,k2.lst (fun z=>nvp' (by rw [LW.mp z]; exact me1)) evp,hia,by rw [hvw.1,hla],by rw [hvw.1]; omega,fun q' H3 hq' s3 e3=>?_⟩
  walk_at "rd"
  refine dL ?_
  walk_at "rd"
  refine ⟨x,G.Table,dx,_,_,rfl,s3 _ _ hx2,ct.cl,ct.n5,rfl,?_⟩
  walk_at "rd"
  refine qX (s3 _ _ e2) (Lr (by rw [LR]; exact hdl)) ?_
  have nq:q'≠pv:=(be e2 hq').symm
  have nqM:q'∉M:=fun z=>t.al _ z (k2.f _ hq')
  refine ⟨_,qs2.set hd q',rfl,(k2.trans (Kp.of s3)).upd (s3 _ _ e2) (LW.mpr rfl),by rw [az,List.map_set],?_⟩
  rw [bH hh,G7,iW hv]
  refine Dn (Paired.mapP p2 fun a w ⟨z1,z2⟩=>⟨?_,z2⟩) ⟨by rw [aM nq]; exact e3,nqM⟩ hd
  rw [aM (show a≠pv from fun z=>z2 (by rw [z]; exact t.mv))]
  exact s3 _ _ z1
 ·rintro σ' H2 ⟨u,qs2,rfl,k2,e2,p2⟩
  rw [bg,MF] at p2
  have hx2:=k2.ins X.hx
  have ee2:=k2.lst (fun z=>t.ne (LW.mp z).symm) X.pes
  walk_at "rd"
  refine dL ?_
  walk_at "rd"
  refine ⟨x,G.Table,dx,_,_,rfl,hx2,ct.cl,ct.n6,rfl,?_⟩
  refine ⟨.inl ⟨rfl,_,SqL.of ee2⟩,?_⟩
  walk_at "rd"
  refine ⟨by simp [LY],fun p3 H3 hp3 s3 e3=>?_⟩
  walk_at "rd"
  have les:es.length=T.ds.length:=M5 X.ed
  refine fR (s3 _ _ ee2) (by rw [LY]; omega) fun H4 o4 e4=>?_
  have k4:Kp [pv,pe] H H4:=((k2.mono fun b hb=>by rw [LW.mp hb]; exact me1).trans (Kp.of s3)).off (s3 _ _ ee2) me2 o4 e4
  walk_at "rd"
  refine qZ (SqL.of (k4.lst nvp' evp)) fun p5 H5 hp5 s5 e5=>?_
  have keep4:∀ {b:Addr} {o:HO},b≠pe->H2 b=some o->H4 b=some o:=fun nb e=>(o4 _ nb).trans (s3 _ _ e)
  refine q p5 H4 H5 k4 ⟨t.ok.learn hg hla,⟨dx,pd,ps,qs2,es++[.ref p3],k4.ins X.hx,X.dl.kp k4 fun z=>X.nd (sub _ z),X.nd,k4.lst (fun z=>X.ns (sub _ z)) X.sz,X.ns,keep4 t.ne e2,Paired.mapP p2 fun a w ⟨z1,z2⟩=>⟨keep4 (show a≠pe from fun z=>z2 (by rw [z]; exact t.me)) z1,z2⟩,e4,?_⟩,t.ne,t.mv,t.me,fun b hb z=>t.al b hb (k4.f b z)⟩ hp5 s5 e5
  refine FI (Paired.mapP X.ed fun _ _ h=>h.kp k4 sub) ⟨p3,tp,vp,rfl,?_,k4.tup et,k4.lst nvp' evp,nvp⟩
  exact (o4 _ (fun z=>by rw [z] at hp3; rw [ee2] at hp3; cases hp3)).trans e3
noncomputable def jl (_:Fg) (G:GF):Sp:=fun vs H Q _=>∃ (M:List Addr) (x pv pe:Addr) (T:TM) (v:V) (s:Sy),vs=[.ref x,v]/\Tb G M H x pv pe T/\aP H v s/\s.Ok T.c T.k/\s.words<=30/\
 ∀ p H',H p=none->am H H'->H' p=some (.lst (blV T.n (T.tr s)))->Q (.ref p) H'
noncomputable def hJ (K:Fg) (G:GF):TS:=(ar (bp (d5 (tB (au (l9 K) [] E0 (aa (eM K (ac 0) "cards") (aa (eM K (ac 0) "hands") (aa (ac 1) ag)))))) qK ba)
 (aJ (au (ce K 35) [] E0 (aa (eM K (ac 0) "dealt") (aa (eM K (ac 0) "views") (aa (ac 1) ag))))))
noncomputable abbrev xr:List Str:=["self","S"]
theorem Tb.tab {G:GF} {M:List Addr} {H:Hp} {x pv pe:Addr} {T:TM} {dx pd ps:Addr} {qs:List Addr} {es:List V} (ok:T.Ok) (X:TbX G M H x pv pe T dx pd ps qs es):Table H pd pv T.c T.n T.ws T.vw:=
 ⟨X.dl,rfl,ok.cards,by have:=ok.n2; omega,by have:=ok.pk.c12; omega,⟨qs,X.vs,Paired.mapP X.qv fun _ _ h=>h.1⟩,ok.win,by rw [ok.len]; have:=ok.pk.l5; show T.ss.length<=1000; omega⟩
theorem vX {K:Fg} {G:GF} (ct:rJ K G.Table) {vs:List V} {H:Hp} {Q:VK} {E:XK} (h:jl K G vs H Q E):hJ K G { nx:=fun _ H'=>Q .non H',rt:=Q } (start xr vs) H:=by
 obtain ⟨M,x,pv,pe,T,v,s,rfl,t,hS,hok,hw,q⟩:=h
 obtain ⟨dx,pd,ps,qs,es,X⟩:=t.ex
 show hJ K G _ [some _,some _] _
 unfold hJ
 walk_at "rd"
 refine dL ?_
 walk_at "rd"
 refine ⟨x,G.Table,dx,_,_,rfl,X.hx,ct.cl,ct.n2,rfl,?_⟩
 walk_at "rd"
 refine dL ?_
 walk_at "rd"
 refine ⟨x,G.Table,dx,_,_,rfl,X.hx,ct.cl,ct.n4,rfl,?_⟩
 walk_at "rd"
 refine ⟨T.c,T.k,v,s,rfl,hS,hok,hw,fun H1 s1=>?_⟩
 have x1:=s1 _ _ X.hx
 walk_at "rd"
 refine dL ?_
 walk_at "rd"
 refine ⟨x,G.Table,dx,_,_,rfl,x1,ct.cl,ct.n1,rfl,?_⟩
 walk_at "rd"
 refine dL ?_
 walk_at "rd"
 refine ⟨x,G.Table,dx,_,_,rfl,x1,ct.cl,ct.n5,rfl,?_⟩
 walk_at "rd"
 refine ⟨pd,pv,v,T.c,T.n,T.ws,T.vw,s,rfl,(Tb.tab t.ok X).same s1,hS.keep s1.keep,by rw [t.ok.len]; exact hok,by omega,fun p H2 hp2 s2 e2=>?_⟩
 walk_at "rd"
 exact q p H2 (s1.free hp2) (s1.trans s2) e2
noncomputable def kS (_:Fg) (G:GF):Sp:=fun vs H Q _=>∃ (M:List Addr) (x pv pe tp:Addr) (T:TM) (g:List Nat) (v:V) (s:Sy),vs=[.ref x,.ref tp,v]/\Tb G M H x pv pe T/\H tp=some (.tup (aw g))/\g.Pairwise (· < ·)/\(∀ h∈g,h < T.k)/\aP H v s/\s.Ok T.c T.k/\s.words<=30/\T.ds.length < 1000/\
 Tld G M H x pv pe (T.word g s) (blV T.n (T.tr s)) Q
noncomputable def jm (K:Fg) (G:GF):TS:=(ar (cV (au (bT K) [] E0 (aa (au (jd K) [] E0 (aa (ac 1) (aa (eM K (ac 0) "hands") ag))) (aa (tC (.str "this is no tuple of hands")) ag))))
 (aJ (jU G.Table "learn" (g9 K G) [] E0 (ac 0) (aa (ac 1) (aa (jU G.Table "truths" (jl K G) [] E0 (ac 0) (aa (ac 2) ag)) ag)))))
noncomputable abbrev AH:List Str:=["self","hands","S"]
theorem yJ {K:Fg} {G:GF} (ct:rJ K G.Table) {vs:List V} {H:Hp} {Q:VK} {E:XK} (h:kS K G vs H Q E):jm K G { nx:=fun _ H'=>Q .non H',rt:=Q } (start AH vs) H:=by
 obtain ⟨M,x,pv,pe,tp,T,g,v,s,rfl,t,et,pw,hg,hS,hok,hw,hds,q⟩:=h
 obtain ⟨dx,pd,ps,qs,es,X⟩:=t.ex
 show jm K G _ [some _,some _,some _] _
 unfold jm
 walk_at "rd"
 refine dL ?_
 walk_at "rd"
 refine ⟨x,G.Table,dx,_,_,rfl,X.hx,ct.cl,ct.n4,rfl,?_⟩
 walk_at "rd"
 refine ⟨tp,g,T.k,rfl,et,pw,hg,?_⟩
 walk_at "rd"
 refine ⟨_,rfl,?_⟩
 walk_at "rd"
 obtain ⟨dx1,fs1,hx1,hl1⟩:=t.at "learn" (by decide +kernel) (by decide +kernel) (by decide +kernel) (by decide +kernel) (by decide +kernel) (by decide +kernel)
 refine mh ?_
 walk_at "rd"
 refine ⟨x,dx1,fs1,rfl,hx1,hl1,?_⟩
 walk_at "rd"
 obtain ⟨dx2,fs2,hx2,hl2⟩:=t.at "truths" (by decide +kernel) (by decide +kernel) (by decide +kernel) (by decide +kernel) (by decide +kernel) (by decide +kernel)
 refine mh ?_
 walk_at "rd"
 refine ⟨x,dx2,fs2,rfl,hx2,hl2,?_⟩
 walk_at "rd"
 refine ⟨M,x,pv,pe,T,v,s,rfl,t,hS,hok,hw,fun p1 H1 hp1 s1 e1=>?_⟩
 walk_at "rd"
 refine ⟨M,x,pv,pe,tp,p1,T,g,_,_,rfl,t.same s1,s1 _ _ et,hg,e1,t.off hp1,Fz _ _,Ci _ _,hds,fun p2 Hm H2 k2 t2 hp2 s2 e2=>?_⟩
 walk_at "rd"
 exact q p2 Hm H2 ((Kp.of s1).trans k2) t2 hp2 s2 e2
noncomputable def mi (w:List Nat) (h:Int) (ns:List Int):IA:=(ns.filter fun c=>decide (wAt w c=h)).min?
theorem FJ (w:List Nat) (h:Int) (ns:List Int):kE w h ns (mi w h ns):=by
 unfold mi
 cases e:(ns.filter fun c=>decide (wAt w c=h)).min? with
 | none=>
  rw [List.min?_eq_none_iff] at e
  refine .inl ⟨rfl,fun c hc z=>?_⟩
  have:c∈ns.filter fun c=>decide (wAt w c=h):=Ol.mpr ⟨hc,decide_eq_true z⟩
  rw [e] at this
  cases this
 | some m=>
  rw [SG] at e
  obtain ⟨h1,h2⟩:=e
  obtain ⟨h3,h4⟩:=Ol.mp h1
  exact .inr ⟨m,rfl,h3,of_decide_eq_true h4,fun d hd z=>h2 d (Ol.mpr ⟨hd,decide_eq_true z⟩)⟩
noncomputable def cO (ws:List (List Nat)) (h:Int) (ns:List Int):List IA:=ws.map fun w=>mi w h ns
noncomputable def TM.show (T:TM) (i:Nat) (h:Int) (ns:List Int):TM:=T.learn [i] (cO T.ws h ns) ((cO T.ws h ns).map iaR)
noncomputable def kT (_:Fg) (G:GF):Sp:=fun vs H Q _=>∃ (M:List Addr) (x pv pe l:Addr) (T:TM) (i:Nat) (h:Int) (ns:List Int),vs=[.ref x,.int i,.int h,.ref l]/\Tb G M H x pv pe T/\H l=some (.lst (ns.map V.int))/\i < T.k/\0<=h/\h<=T.k/\ns.length < 64/\(∀ n∈ns,0<=n/\n < T.c)/\T.ds.length < 1000/\
 Tld G M H x pv pe (T.show i h ns) ((cO T.ws h ns).map iaR) Q
noncomputable def jn (K:Fg) (G:GF):TS:=(ar (cV (au (bT K) [] E0 (aa (au (cA K) [] E0 (aa (ac 1) (aa (eM K (ac 0) "hands") ag))) (aa (tC (.str "this is no hand")) ag))))
 (ar (cV (au (bT K) [] E0 (aa (au (cA K) [] E0 (aa (ac 2) (aa (tOp (rI0 fun i j=>.int (i + j)) (eM K (ac 0) "hands") (tC (.int 1))) ag))) (aa (tC (.str "this is no holder")) ag))))
 (ar (cV (au (bT K) [] E0 (aa (au (md K) [] E0 (aa (ac 3) (aa (eM K (ac 0) "cards") ag))) (aa (tC (.str "this is no list of cards")) ag))))
 (ar (aK (uB K (aa (ac 3) ag)) (ao 4))
 (aJ (jU G.Table "learn" (g9 K G) [] E0 (ac 0) (aa (dg (aa (ac 1) ag)) (aa (bO (cp K (eM K (ac 0) "dealt")) (fun _ _ _ _=>(ao 0)) (fun _ _ _ _=>bL) (fun _ _ _ _=>(au (kQ K) [] E0 (aa (ac 0) (aa (ac 1) (aa (ac 2) ag))))) [none,some 2,some 4]) ag))))))))
noncomputable abbrev AI:List Str:=["self","hand","holder","some","rising"]
theorem yK {K:Fg} {G:GF} (ct:rJ K G.Table) {vs:List V} {H:Hp} {Q:VK} {E:XK} (h:kT K G vs H Q E):jn K G { nx:=fun _ H'=>Q .non H',rt:=Q } (start AI vs) H:=by
 obtain ⟨M,x,pv,pe,l,T,i,h,ns,rfl,t,el,hi,h0,h1,hns,hnb,hds,q⟩:=h
 obtain ⟨dx,pd,ps,qs,es,X⟩:=t.ex
 have n2:=t.ok.n2
 show jn K G _ [some _,some _,some _,some _,none] _
 unfold jn
 walk_at "rd"
 refine dL ?_
 walk_at "rd"
 refine ⟨x,G.Table,dx,_,_,rfl,X.hx,ct.cl,ct.n4,rfl,?_⟩
 walk_at "rd"
 refine ⟨(i:Int),(T.k:Int),rfl,?_⟩
 rw [eY (by omega) (by omega)]
 walk_at "rd"
 refine ⟨_,rfl,?_⟩
 walk_at "rd"
 refine dL ?_
 walk_at "rd"
 refine ⟨x,G.Table,dx,_,_,rfl,X.hx,ct.cl,ct.n4,rfl,?_⟩
 walk_at "rd"
 refine ⟨h,(T.k:Int) + 1,rfl,?_⟩
 rw [eY (by omega) (by omega)]
 walk_at "rd"
 refine ⟨_,rfl,?_⟩
 walk_at "rd"
 refine dL ?_
 walk_at "rd"
 refine ⟨x,G.Table,dx,_,_,rfl,X.hx,ct.cl,ct.n2,rfl,?_⟩
 walk_at "rd"
 refine ⟨l,ns,(T.c:Int),rfl,el,by omega,hnb,fun H1 s1=>?_⟩
 walk_at "rd"
 refine ⟨_,rfl,?_⟩
 walk_at "rd"
 refine FF ?_
 walk_at "rd"
 refine ⟨l,ns,rfl,SqL.of (s1 _ _ el),hns,fun rp H2 ms hrp s2 e2 pw mm=>?_⟩
 have s12:=s1.trans s2
 have t2:=t.same s12
 walk_at "rd"
 obtain ⟨dx1,fs1,hx1,hl1⟩:=t2.at "learn" (by decide +kernel) (by decide +kernel) (by decide +kernel) (by decide +kernel) (by decide +kernel) (by decide +kernel)
 refine mh ?_
 walk_at "rd"
 refine ⟨x,dx1,fs1,rfl,hx1,hl1,?_⟩
 walk_at "rd"
 refine ⟨by simp [LY],fun tp H3 htp s3 e3=>?_⟩
 walk_at "rd"
 refine dL ?_
 walk_at "rd"
 have s13:=s12.trans s3
 refine ⟨x,G.Table,dx,_,_,rfl,s13 _ _ X.hx,ct.cl,ct.n1,rfl,?_⟩
 obtain ⟨rs,er,hr⟩:=X.dl.same' s13
 have lr:rs.length=T.n:=M5 hr
 refine dJ (rs.map V.ref) (SqL.of er) (by rw [LR]; omega) (fun j acc _=>acc=(cO (T.ws.take j) h ns).map iaR) (fun H' _=>rfl) ?_ ?_
 ·rintro p' hp' C s' H' fp j xx acc H6 hxx ⟨s6,e6,l6,rfl⟩
  obtain ⟨b',hb',rfl⟩:=rk hxx
  obtain ⟨w,hwi,ew⟩:=bS hr hb'
  have hw1:=t.ok.cards w (LZ hwi)
  walk_at "rd"
  refine ⟨b',rp,w,h,ms,rfl,s6 _ _ ew,s6 _ _ (s3 _ _ e2),pw,fun c hc=>by rw [hw1]; exact hnb c ((mm c).mp hc),fun a ha=>?_⟩
  have ea:a=mi w h ns:=ha.uniq mm (FJ w h ns)
  subst ea
  refine aX.put hp' (fun _ _ _ _ r _=>r) s6 e6 l6 ?_
  rw [bH hwi]
  unfold cO
  rw [Ml,Ml]
  rfl
 ·rintro pl acc H6 hpl s6 e6 rfl
  rw [LR,lr,show T.n=T.ws.length from rfl,MF] at e6
  walk_at "rd"
  have s16:=s13.trans s6
  refine ⟨M,x,pv,pe,tp,pl,T,[i],cO T.ws h ns,_,rfl,t.same s16,s6 _ _ e3,fun k hk=>by rw [LW.mp hk]; exact hi,e6,t.off (s13.free hpl),by rw [NQ]; exact Nx fun a _=>IE a,by unfold cO; rw [LR]; rfl,hds,fun p2 Hm H7 k7 t7 hp2 s7 e7=>?_⟩
  walk_at "rd"
  exact q p2 Hm H7 ((Kp.of s16).trans k7) t7 hp2 s7 e7
end
section
variable {K:Fg} {vs:List V} {H:Hp} {Q:VK} {E:XK}
open KF
set_option genInjectivity false in
inductive Dd where
 | word (g:List Nat) (s:Sy)
 | show (i:Nat) (h:Int) (ns:List Int)
noncomputable def pR (N:Addr->Prop) (H:Hp) (v:V):Dd->Prop
 | .word g s=>∃ a b x,v=.ref a/\H a=some (.tup [.str "word",.ref b,x])/\H b=some (.tup (aw g))/\aP H x s
 | .show i h ns=>∃ a l,v=.ref a/\H a=some (.tup [.str "show",.int i,.int h,.ref l])/\H l=some (.lst (ns.map V.int))/\N l
noncomputable def Dd.Ok (c k:Nat):Dd->Prop
 | .word g s=>g.Pairwise (· < ·)/\(∀ h∈g,h < k)/\s.Ok c k/\s.words<=14
 | .show i h ns=>i < k/\0<=h/\h<=k/\ns.length < 6/\∀ n∈ns,0<=n/\n < c
noncomputable def TM.deed (T:TM):Dd->TM
 | .word g s=>T.word g s
 | .show i h ns=>T.show i h ns
noncomputable def TM.dtold (T:TM):Dd->List V
 | .word g s=>blV T.n (T.tr s)
 | .show i h ns=>(cO T.ws h ns).map iaR
theorem pR.to {N N':Addr->Prop} {H H':Hp} {v:V} {d:Dd} (h:pR N H v d) (k:dR H H') (f:∀ l xs,N l->H l=some (.lst xs)->H' l=some (.lst xs)/\N' l):pR N' H' v d:=by
 cases d with
 | word g s=>obtain ⟨a,b,x,e,h1,h2,h3⟩:=h; exact ⟨a,b,x,e,k _ _ h1,k _ _ h2,h3.keep k⟩
 | «show» i hh ns=>obtain ⟨a,l,e,h1,h2,h3⟩:=h; exact ⟨a,l,e,k _ _ h1,(f _ _ h3 h2).1,(f _ _ h3 h2).2⟩
theorem rN (T:TM) (d:Dd):(T.deed d).c=T.c/\(T.deed d).ss=T.ss:=by cases d <;> exact ⟨rfl,rfl⟩
theorem Cm (T:TM) (d:Dd):(T.deed d).ws=T.ws:=by unfold TM.ws; rw [(rN T d).1,(rN T d).2]
theorem KU (T:TM) (d:Dd):(T.deed d).k=T.k:=by unfold TM.k; rw [(rN T d).2]
theorem Jx (T:TM) (d:Dd):(T.deed d).ds.length=T.ds.length + 1:=by
 cases d <;> (show (T.ds++[_]).length=_; rw [Mj]; rfl)
noncomputable def mj (K:Fg):Sp:=fun vs H Q _=>∃ (a:Addr) (ns:List Int) (at_:Int) (c k:Nat),vs=[.ref a,.int at_,.int c,.int k]/\fQ K H a ns/\0<=at_/\at_<=900/\1<=k/\k<=5/\
 ∀ (v:V) (d:Dd) H',am H H'->pR (fun l=>H l=none) H' v d->d.Ok c k->Q v H'
noncomputable def ke (K:Fg):TS:=(ar (aK (au (bi K) [] E0 (aa (ac 0) (aa (ac 1) ag))) (ao 4))
 (ar (bp (tOr (bf (tOp (rI0 fun i j=>.bl (decide (j < i))) (tOp (rI (fun _ j=>0 < j) fun i j=>.int (i % j)) (ac 4) (tC (.int 3))) (tC (.int 0)))) (bf (tOp rEq (ac 2) (tC (.int 0))))) (aJ (dg (aa (tC (.str "word")) (aa (au (dN K) [] E0 (aa (tOp (rI fO fun i j=>.int (i / j)) (ac 4) (tC (.int 3))) (aa (ac 3) ag))) (aa (au (gZ K) [] E0 (aa (ac 0) (aa (tOp (rI0 fun i j=>.int (i + j)) (ac 1) (tC (.int 1))) (aa (ac 2) (aa (ac 3) (aa (tC (.int 14)) ag)))))) ag))))) ba)
 (ar (aK (bO (fq (aa (tOp (rI (fun _ j=>0 < j) fun i j=>.int (i % j)) (au (bi K) [] E0 (aa (ac 0) (aa (tOp (rI0 fun i j=>.int (i + j)) (ac 1) (tC (.int 2))) ag))) (tC (.int 6))) ag)) (fun _ _ _ _=>(ao 0)) (fun _ _ _ _=>bL) (fun _ _ _ _=>(tOp (rI (fun _ j=>0 < j) fun i j=>.int (i % j)) (au (bi K) [] E0 (aa (ac 2) (aa (tOp (rI0 fun i j=>.int (i + j)) (tOp (rI0 fun i j=>.int (i + j)) (ac 3) (tC (.int 3))) (ac 0)) ag))) (ac 1))) [none,some 2,some 0,some 1]) (ao 5))
 (aJ (dg (aa (tC (.str "show")) (aa (tOp (rI (fun _ j=>0 < j) fun i j=>.int (i % j)) (tOp (rI fO fun i j=>.int (i / j)) (ac 4) (tC (.int 3))) (ac 3)) (aa (tOp (rI (fun _ j=>0 < j) fun i j=>.int (i % j)) (tOp (rI fO fun i j=>.int (i / j)) (ac 4) (tC (.int 21))) (tOp (rI0 fun i j=>.int (i + j)) (ac 3) (tC (.int 1)))) (aa (ac 5) ag)))))))))
theorem AJ (h:mj K vs H Q E):ke K { nx:=fun _ H'=>Q .non H',rt:=Q } (start ["_law_script","_law_at","_law_cards","_law_hands","_law_cell_here","_law_some"] vs) H:=by
 obtain ⟨a,ns,at_,c,k,rfl,hSc,ha0,ha1,hk1,hk5,q⟩:=h
 show ke K _ [some _,some _,some _,some _,none,none] _
 unfold ke
 refine bu ?_
 walk_at "rs"
 refine ⟨a,ns,at_,rfl,hSc,by omega,by omega,?_⟩
 walk_at "rs"
 refine fB fun NX hNX=>?_
 have wordy:aJ (dg (aa (tC (.str "word")) (aa (au (dN K) [] E0 (aa (tOp (rI fO fun i j=>.int (i / j)) (ac 4) (tC (.int 3))) (aa (ac 3) ag))) (aa (au (gZ K) [] E0 (aa (ac 0) (aa (tOp (rI0 fun i j=>.int (i + j)) (ac 1) (tC (.int 1))) (aa (ac 2) (aa (ac 3) (aa (tC (.int 14)) ag)))))) ag)))) { nx:=NX,rt:=Q } [some (.ref a),some (.int at_),some (.int c),some (.int k),some (.int (bC ns at_)),none] H:=by
  walk_at "rd"
  refine ⟨_,k,rfl,hk5,fun tp g H1 s1 e1 pw hb=>?_⟩
  walk_at "rd"
  refine ⟨a,ns,at_ + 1,c,k,14,rfl,hSc.same s1,by omega,by omega,hk1,hk5,by decide,by decide,fun v s H2 s2 hS hok hw=>?_⟩
  walk_at "rd"
  refine ⟨by simp [LY],fun t3 H3 ht3 s3 e3=>?_⟩
  exact q _ (.word g s) H3 ((s1.trans s2).trans s3) ⟨t3,tp,v,rfl,e3,s3 _ _ (s2 _ _ e1),hS.keep s3.keep⟩ ⟨pw,hb,hok,hw⟩
 walk_at "rs"
 refine dq (fun c1=>?_) (fun c1=>?_)
 ·exact wordy
 ·walk_at "rs"
  refine dq (fun c2=>?_) (fun c2=>?_)
  ·exact wordy
  ·have c0:0 < c:=by omega
   walk_at "rs"
   refine hNX _ _ ?_
   walk_at "rd"
   refine ⟨a,ns,at_ + 2,rfl,hSc,by omega,by omega,?_⟩
   walk_at "rd"
   obtain ⟨mn,hmn,hmn6⟩:∃ mn:Nat,bC ns (at_ + 2) % 6=(mn:Int)/\mn < 6:=⟨(bC ns (at_ + 2) % 6).toNat,by omega,by omega⟩
   rw [hmn]
   refine zW mn (by omega) (by omega) (by omega) (fun j acc _=>∃ ms:List Int,acc=ms.map V.int/\ms.length=j/\∀ n∈ms,0<=n/\n < (c:Int)) (fun _ _=>⟨[],rfl,rfl,fun _ z=>nomatch z⟩) ?_ ?_
   ·rintro p' hp' C s' H' fp j acc H8 hj ⟨s8,e8,l8,ms,rfl,lm,hms⟩
    walk_at "rd"
    refine ⟨a,ns,at_ + 3 + (j:Int),rfl,hSc.same s8,by omega,by omega,?_⟩
    walk_at "rd"
    refine aX.put hp' (fun _ _ _ _ r _=>r) s8 e8 l8 ⟨ms++[bC ns (at_ + 3 + (j:Int)) % (c:Int)],by rw [Ml]; rfl,by simp [lm],fun n hn=>?_⟩
    rcases Mt.mp hn with z | z
    ·exact hms n z
    ·rw [LW.mp z]
     exact ⟨OL _ (by omega),Os _ (by omega)⟩
   ·rintro l acc H2 hl s2 e2 ⟨ms,rfl,lm,hms⟩
    walk_at "rd"
    obtain ⟨i,hi,hik⟩:=ka (bC ns at_ / 3) (m:=(k:Int)) (by omega)
    rw [hi]
    refine ⟨by simp [LY],fun t3 H3 ht3 s3 e3=>?_⟩
    exact q _ (.show i (bC ns at_ / 21 % ((k:Int) + 1)) ms) H3 (s2.trans s3) ⟨t3,l,rfl,e3,s3 _ _ e2,hl⟩ ⟨by omega,OL _ (by omega),by have:=Os (bC ns at_ / 21) (show 0 < (k:Int) + 1 by omega); omega,by omega,hms⟩
noncomputable def mq (_:Fg) (G:GF):Sp:=fun vs H Q _=>∃ (M:List Addr) (x pv pe:Addr) (T:TM) (v:V) (d:Dd),vs=[.ref x,v]/\Tb G M H x pv pe T/\pR (fun l=>l∉M) H v d/\d.Ok T.c T.k/\T.ds.length < 1000/\
 Tld G M H x pv pe (T.deed d) (T.dtold d) Q
noncomputable def kf (K:Fg) (G:GF):TS:=(ar (bp (bf (tOp rEq (tOp (ck K) (ac 1) (tC (.int 0))) (tC (.str "word")))) (aJ (jU G.Table "word" (kS K G) [] E0 (ac 0) (aa (tOp (ck K) (ac 1) (tC (.int 1))) (aa (tOp (ck K) (ac 1) (tC (.int 2))) ag)))) ba)
 (aJ (jU G.Table "show" (kT K G) [] E0 (ac 0) (aa (tOp (ck K) (ac 1) (tC (.int 1))) (aa (tOp (ck K) (ac 1) (tC (.int 2))) (aa (tCB (lU K) (aa (tOp (ck K) (ac 1) (tC (.int 3))) ag)) ag))))))
noncomputable abbrev BI:List Str:=["_law_table","_law_deed_here"]
theorem AK {K:Fg} {G:GF} {vs:List V} {H:Hp} {Q:VK} {E:XK} (h:mq K G vs H Q E):kf K G { nx:=fun _ H'=>Q .non H',rt:=Q } (start BI vs) H:=by
 obtain ⟨M,x,pv,pe,T,v,d,rfl,t,hd,ok,hds,q⟩:=h
 show kf K G _ [some _,some _] _
 unfold kf
 cases d with
 | word g s=>
  obtain ⟨a,b,y,rfl,h1,h2,h3⟩:=hd
  obtain ⟨o1,o2,o3,o4⟩:=ok
  walk_at "rd"
  refine bj (SqT.of h1) (i:=0) rfl ?_
  walk_at "rd"
  refine d3 rfl ?_
  walk_at "rd"
  obtain ⟨dx1,fs1,hx1,hl1⟩:=t.at "word" (by decide +kernel) (by decide +kernel) (by decide +kernel) (by decide +kernel) (by decide +kernel) (by decide +kernel)
  refine mh ?_
  walk_at "rd"
  refine ⟨x,dx1,fs1,rfl,hx1,hl1,?_⟩
  walk_at "rd"
  refine bj (SqT.of h1) (i:=1) rfl ?_
  walk_at "rd"
  refine bj (SqT.of h1) (i:=2) rfl ?_
  walk_at "rd"
  exact ⟨M,x,pv,pe,b,T,g,y,s,rfl,t,h2,o1,o2,h3,o3,by omega,hds,q⟩
 | «show» i hh ns=>
  obtain ⟨a,l,rfl,h1,h2,h3⟩:=hd
  obtain ⟨o1,o2,o3,o4,o5⟩:=ok
  walk_at "rd"
  refine bj (SqT.of h1) (i:=0) rfl ?_
  walk_at "rd"
  refine aW (by decide) ?_
  walk_at "rd"
  obtain ⟨dx1,fs1,hx1,hl1⟩:=t.at "show" (by decide +kernel) (by decide +kernel) (by decide +kernel) (by decide +kernel) (by decide +kernel) (by decide +kernel)
  refine mh ?_
  walk_at "rd"
  refine ⟨x,dx1,fs1,rfl,hx1,hl1,?_⟩
  walk_at "rd"
  refine bj (SqT.of h1) (i:=1) rfl ?_
  walk_at "rd"
  refine bj (SqT.of h1) (i:=2) rfl ?_
  walk_at "rd"
  refine bj (SqT.of h1) (i:=3) rfl ?_
  walk_at "rd"
  refine qZ (SqL.of h2) fun l1 H1 hl1' s1 e1=>?_
  walk_at "rd"
  exact ⟨M,x,pv,pe,l1,T,i,hh,ns,rfl,t.same s1,e1,o1,o2,o3,by omega,o5,hds,fun p Hm H2 k2 t2 hp s2 e2=>q p Hm H2 ((Kp.of s1).trans k2) t2 hp s2 e2⟩
end
section
open KF
theorem Hf (z:Int) (ns:List Int):inV (.int z) (ns.map V.int)=decide (z∈ns):=by
 unfold inV
 rw [List.any_map]
 cases h:ns.any ((fun y=>eqV y (.int z)) ∘ V.int) with
 | true=>
  obtain ⟨n,hn,e⟩:=List.any_eq_true.mp h
  have e':(n == z)=true:=e
  rw [beq_iff_eq] at e'
  exact (decide_eq_true (e' ▸ hn)).symm
 | false=>
  refine (decide_eq_false fun hz=>?_).symm
  have:=TN.mp h z hz
  exact this (show (z == z)=true by simp)
theorem Jy (y:Nat) (l:List Nat):inV (.int (y:Int)) (aw l)=decide (y∈l):=by
 rw [dC,Hf]
 refine decide_eq_decide.mpr ?_
 rw [Na]
 constructor
 ·rintro ⟨a,h,e⟩
  have:a=y:=by omega
  exact this ▸ h
 ·exact fun h=>⟨y,h,rfl⟩
noncomputable def TM.Dk (T:TM):Prop:=∀ m∈T.ds,m.2.length=T.n/\∀ y∈m.2,j5 y=true
noncomputable def cG (ds:List (List Nat×List V)) (i d:Nat):List V:=(ds.filter fun m=>decide (i∈m.1)).map fun m=>m.2.getD d .non
noncomputable def kg (T:TM) (i d:Nat):List V:=(i9 (T.ws.getD d []) i).map V.int
noncomputable def iD (H:Hp) (p:Addr) (T:TM) (i d:Nat):Prop:=∃ t,H p=some (.lst (.ref t :: cG T.ds i d))/\H t=some (.tup (kg T i d))
noncomputable def mr (_:Fg) (G:GF):Sp:=fun vs H Q _=>∃ (M:List Addr) (x pv pe:Addr) (T:TM) (i d:Nat),vs=[.ref x,.int i,.int d]/\Tb G M H x pv pe T/\T.Dk/\T.ds.length < 1000/\i < T.k/\d < T.n/\∀ p H',H p=none->am H H'->iD H' p T i d->Q (.ref p) H'
noncomputable def kh (K:Fg) (G:GF):TS:=(ar (cV (au (bT K) [] E0 (aa (au (cA K) [] E0 (aa (ac 1) (aa (eM K (ac 0) "hands") ag))) (aa (tC (.str "this is no hand")) ag))))
 (ar (cV (au (bT K) [] E0 (aa (au (cA K) [] E0 (aa (ac 2) (aa (tCB (d7 K) (aa (eM K (ac 0) "dealt") ag)) ag))) (aa (tC (.str "this is no number of a deal")) ag))))
 (aJ (tOp qY (d8 (aa (au (ip K) [] E0 (aa (tOp (cS K) (eM K (ac 0) "dealt") (ac 2)) (aa (ac 1) ag))) ag)) (bO (cp K (eM K (ac 0) "deeds")) (fun _ _ _ _=>(gC K 2 (bI (ao 0) (bI (ao 1) gB)))) (fun _ _ _ _=>(bf (tOp (rIn K false) (ac 3) (ac 0)))) (fun _ _ _ _=>(tOp (cS K) (ac 1) (ac 2))) [none,none,some 2,some 1])))))
noncomputable abbrev BJ:List Str:=["self","hand","deal"]
theorem iY (ds:List (List Nat×List V)) (m:List Nat×List V) (i d:Nat):cG (ds++[m]) i d=cG ds i d++if i∈m.1 then [m.2.getD d .non] else []:=by
 unfold cG
 rw [OI,Ml]
 by_cases h:i∈m.1
 ·rw [if_pos h,OC (p:=fun m:List Nat×List V=>decide (i∈m.1)) (decide_eq_true h)]
  rfl
 ·rw [if_neg h,OD (p:=fun m:List Nat×List V=>decide (i∈m.1)) (by simpa using h)]
  rfl
theorem uD (ds:List (List Nat×List V)) (i d:Nat):(cG ds i d).length<=ds.length:=by
 unfold cG
 rw [LR]
 exact Qx _ _
theorem FK (l:List Nat):(aw l).all dQ=true:=RP.mpr fun x hx=>by
 obtain ⟨n,_,rfl⟩:=Na.mp hx
 rfl
theorem AL {K:Fg} {G:GF} (ct:rJ K G.Table) {vs:List V} {H:Hp} {Q:VK} {E:XK} (h:mr K G vs H Q E):kh K G { nx:=fun _ H'=>Q .non H',rt:=Q } (start BJ vs) H:=by
 obtain ⟨M,x,pv,pe,T,i,d,rfl,t,dk,hds,hi,hd,q⟩:=h
 obtain ⟨dx,pd,ps,qs,es,X⟩:=t.ex
 have n2:=t.ok.n2
 obtain ⟨rs,er,hr⟩:=id X.dl
 have lr:(rs.map V.ref).length=T.n:=by rw [LR]; exact M5 hr
 show kh K G _ [some _,some _,some _] _
 unfold kh
 walk_at "rd"
 refine dL ?_
 walk_at "rd"
 refine ⟨x,G.Table,dx,_,_,rfl,X.hx,ct.cl,ct.n4,rfl,?_⟩
 walk_at "rd"
 refine ⟨(i:Int),(T.k:Int),rfl,?_⟩
 rw [eY (by omega) (by omega)]
 walk_at "rd"
 refine ⟨_,rfl,?_⟩
 walk_at "rd"
 refine dL ?_
 walk_at "rd"
 refine ⟨x,G.Table,dx,_,_,rfl,X.hx,ct.cl,ct.n1,rfl,?_⟩
 walk_at "rd"
 rw [lr]
 refine ⟨(d:Int),(T.n:Int),rfl,?_⟩
 rw [eY (by omega) (by omega)]
 walk_at "rd"
 refine ⟨_,rfl,?_⟩
 walk_at "rd"
 refine dL ?_
 walk_at "rd"
 refine ⟨x,G.Table,dx,_,_,rfl,X.hx,ct.cl,ct.n1,rfl,?_⟩
 walk_at "rd"
 have hdr:d < rs.length:=by rw [LR] at lr; omega
 have hrd:rs[d]?=some (rs[d]'hdr):=LS _
 generalize rs[d]'hdr=rd at hrd
 obtain ⟨w,hw,ew⟩:=bS hr hrd
 have hwc:=t.ok.cards w (LZ hw)
 have c12:=t.ok.pk.c12
 refine bZ (SqL.of er) (cx (v:=.ref rd) (by rw [LX,hrd]; rfl)) ?_
 walk_at "rd"
 refine ⟨rd,w.map fun (s:Nat)=>((s:Nat):Int),(i:Nat),rfl,by rw [<-dC]; exact SqT.of ew,by rw [LR]; omega,fun r H1 s1 e1=>?_⟩
 rw [LR] at e1
 have e1':H1 r=some (.tup (kg T i d)):=by unfold kg; rw [iW hw]; exact e1
 walk_at "rd"
 refine ⟨by simp [LY],fun p1 H2 hp1 s2 e2=>?_⟩
 have s12:=s1.trans s2
 walk_at "rd"
 refine dL ?_
 walk_at "rd"
 refine ⟨x,G.Table,dx,_,_,rfl,s12 _ _ X.hx,ct.cl,ct.n6,rfl,?_⟩
 have les:es.length=T.ds.length:=M5 X.ed
 refine dJ es (SqL.of (s12 _ _ X.pes)) (by omega) (fun j acc _=>acc=cG (T.ds.take j) i d) (fun H' _=>rfl) ?_ ?_
 ·rintro p' hp' C s' H' fp j xx acc H6 hxx ⟨s6,e6,l6,rfl⟩
  obtain ⟨m,hm,a,hA,v,rfl,h1,h2,h3,_⟩:=bS X.ed hxx
  have s16:=s12.trans s6
  obtain ⟨dk1,dk2⟩:=dk m (LZ hm)
  refine fC (SqT.of (s16 _ _ h1)) ?_
  walk_at "rd"
  refine Lo (SqT.of (s16 _ _ h2)) rfl (FK _) (Jy i m.1) ?_
  walk_at "rd"
  refine dq (fun c=>?_) (fun c=>?_)
  ·walk_at "rd"
   have hdm:m.2[d]?=some (m.2.getD d .non):=by rw [Md,LS (by omega)]; rfl
   refine bZ (SqL.of (s16 _ _ h3)) (cx hdm) ?_
   refine aX.put hp' (fun _ _ _ _ r _=>r) s6 e6 l6 ?_
   rw [bH hm,iY,if_pos c]
  ·refine aX.skip s6 e6 l6 ?_
   rw [bH hm,iY,if_neg c,Nm]
 ·rintro pl acc H6 hpl s6 e6 rfl
  rw [les,MF] at e6
  walk_at "rd"
  have:=uD T.ds i d
  refine sk (s6 _ _ e2) e6 (by rw [LY]; simp; omega) fun p7 H7 hp7 s7 e7=>?_
  walk_at "rd"
  exact q p7 H7 ((s12.trans s6).free hp7) ((s12.trans s6).trans s7) ⟨r,e7,s7 _ _ (s6 _ _ (s2 _ _ e1'))⟩
theorem iD.to {H H':Hp} {p:Addr} {T:TM} {i d:Nat} (h:iD H p T i d) (k:dR H H') (e:∀ xs,H p=some (.lst xs)->H' p=some (.lst xs)):iD H' p T i d:=by
 obtain ⟨t,h1,h2⟩:=h
 exact ⟨t,e _ h1,k _ _ h2⟩
theorem uE {T:TM} (dk:T.Dk) (i d:Nat):∀ y∈cG T.ds i d,j5 y=true:=fun y hy=>by
 unfold cG at hy
 obtain ⟨m,hm,rfl⟩:=Na.mp hy
 obtain ⟨h1,_⟩:=Ol.mp hm
 rw [Md]
 cases e:m.2[d]? with
 | none=>rfl
 | some z=>exact (dk m h1).2 z (LZ e)
theorem iD.eqv {K:Fg} {H:Hp} {p q:Addr} {T:TM} {i d:Nat} (dk:T.Dk) (h:iD H p T i d) (g:iD H q T i d):iA K H 2 (.ref p) (.ref q):=by
 obtain ⟨t,h1,h2⟩:=h
 obtain ⟨t',g1,g2⟩:=g
 refine .lst (SqL.of h1) (SqL.of g1) rfl fun j x y hx hy=>?_
 cases j with
 | zero=>cases hx; cases hy; exact Dc (SqT.of h2) (SqT.of g2) (yq _)
 | succ j=>
  have hx':(cG T.ds i d)[j]?=some x:=hx
  have hy':(cG T.ds i d)[j]?=some y:=hy
  rw [hx'] at hy'
  cases hy'
  exact .flat (uE dk i d _ (LZ hx'))
end
section
variable {K:Fg} {vs:List V} {H:Hp} {Q:VK} {E:XK}
open KF
noncomputable def iaD (y:V):IA:=(iaV y).getD none
noncomputable def AM (T:TM) (i d:Nat):MK:=.inr (.inr ((i9 (T.ws.getD d []) i).map some) :: (cG T.ds i d).map fun y=>.inl (iaD y))
noncomputable def lA (T:TM) (i:Nat):List MK:=(Mn T.n).map (AM T i)
noncomputable def TM.Vk (T:TM):Prop:=∀ i,i < T.k->T.vw.getD i []=bc (lA T i)
theorem fM (T:TM) (i:Nat):(lA T i).length=T.n:=by unfold lA; rw [LR,MU]
theorem gK {T:TM} {i d:Nat} (h:d < T.n):(lA T i)[d]?=some (AM T i d):=by unfold lA; rw [LX,MS h]; rfl
theorem AN {a b:List Int} (h:a.map some=b.map some):a=b:=by
 induction a generalizing b with
 | nil=>cases b with
  | nil=>rfl
  | cons y b=>cases h
 | cons x a ih=>cases b with
  | nil=>cases h
  | cons y b=>
   obtain ⟨h1,h2⟩:=Pq.mp h
   rw [L9 h1,ih h2]
theorem jL {α:Type} {l:List α} {i:Nat} {z:α} (h:i < l.length):l[i]?=some (l.getD i z):=by rw [Md,LS h]; rfl
theorem AO (c:Nat) (ss:List Nat):(TM.begun c ss).Vk:=fun i hi=>by
 have e1:(TM.begun c ss).vw.getD i []=ja (TM.begun c ss).ws ((i:Nat):Int):=by
  show (Uw _ (Mn ss.length)).getD i []=_
  rw [Md,LX,MS (show i < ss.length from hi)]
  rfl
 rw [e1]
 unfold ja
 refine nM (by rw [LR,fM]; rfl) fun x y hx hy=>?_
 rw [LR] at hx hy
 rw [gK hx,gK hy,LX,LX,jL (z:=[]) hx,jL (z:=[]) hy]
 constructor
 ·intro h
  have h':i9 ((TM.begun c ss).ws.getD x []) i=i9 ((TM.begun c ss).ws.getD y []) i:=L9 h
  show some (Ni [Ni _])=some (Ni [Ni _])
  rw [h']
 ·intro h
  have h':=(Pq.mp (Ow (L9 h))).1
  exact congrArg some (AN (Ow h'))
theorem Jz (ds:List (List Nat×List V)) (i x y:Nat):(cG ds i x).length=(cG ds i y).length:=by unfold cG; rw [LR,LR]
theorem AQ {T:TM} (ok:T.Ok) (h:T.Vk) {g:List Nat} {as:List IA} {ys:List V} (nd:g.Nodup) (hm:ys.map iaV=as.map some) (hl:as.length=T.n):(T.learn g as ys).Vk:=fun i hi=>by
 have hv:i < T.vw.length:=by rw [ok.len]; exact hi
 have e1:(T.learn g as ys).vw.getD i []=if i∈g then gI (T.vw.getD i []) as else T.vw.getD i []:=Cj as g T.vw i nd hv
 have er:∀ d,AM (T.learn g as ys) i d=.inr (.inr ((i9 (T.ws.getD d []) i).map some) :: (cG (T.ds++[(g,ys)]) i d).map fun y=>.inl (iaD y)):=fun d=>rfl
 rw [e1]
 by_cases m:i∈g
 ·rw [if_pos m,h i hi]
  have ly:ys.length=T.n:=by
   have:=congrArg Ub hm
   rw [LR,LR] at this
   omega
  have lv:(bc (lA T i)).length=as.length:=by rw [bX,fM,hl]
  have ev:∀ x,x < T.n->as[x]?=some (iaD (ys.getD x .non)):=fun x hx=>by
   have h1:=congrArg (fun l=>l[x]?) hm
   simp only [LX] at h1
   rw [jL (z:=V.non) (show x < ys.length by omega),jL (z:=(none:IA)) (show x < as.length by omega)] at h1
   rw [jL (z:=(none:IA)) (show x < as.length by omega)]
   have h2:iaV (ys.getD x .non)=some (as.getD x none):=L9 h1
   unfold iaD
   rw [h2]
   rfl
  refine nM (by rw [Pe,fM,lv,O2,hl]; rfl) fun x y hx hy=>?_
  rw [Pe,lv,O2,hl] at hx hy
  rw [Js lv (by omega) (by omega),yt (by rw [fM]; exact hx) (by rw [fM]; exact hy),gK hx,gK hy,gK (T:=T.learn g as ys) hx,gK (T:=T.learn g as ys) hy,er,er,ev x hx,ev y hy,iY,iY,if_pos (show i∈(g,ys).1 from m),if_pos (show i∈(g,ys).1 from m),Ml,Ml]
  constructor
  ·rintro ⟨h1,h2⟩
   have h3:=Ow (L9 h1)
   obtain ⟨h4,h5⟩:=Pq.mp h3
   have h6:=L9 h2
   rw [h4,h5]
   show some (Ni (_ :: (_++[Od (iaD (ys.getD x .non))])))=some (Ni (_ :: (_++[Od (iaD (ys.getD y .non))])))
   rw [h6]
  ·intro h1
   obtain ⟨h4,h5⟩:=Pq.mp (Ow (L9 h1))
   obtain ⟨h6,h7⟩:=List.append_inj h5 (by rw [LR,LR]; exact Jz _ _ _ _)
   refine ⟨?_,?_⟩
   ·unfold AM
    rw [h4,h6]
   ·exact congrArg some (Sl (Pq.mp h7).1)
 ·rw [if_neg m,h i hi]
  refine congrArg bc ?_
  unfold lA
  refine Nx fun d _=>?_
  rw [er,iY,if_neg m,Nm]
  rfl
theorem JA {T:TM} (ok:T.Ok) (h:T.Vk) {d:Dd} (hd:d.Ok T.c T.k):(T.deed d).Vk:=by
 cases d with
 | word g s=>exact AQ ok h (List.Pairwise.imp (fun h=>MC h) hd.1) (Fz _ _) (Ci _ _)
 | «show» i hh ns=>exact AQ ok h (N3.mpr ⟨(fun z=>nomatch z),QW⟩) (by rw [NQ]; exact Nx fun a _=>IE a) (by unfold cO; rw [LR]; rfl)
theorem JB {K:Fg} {H:Hp} {x:V} (h:j5 x=true):∃ t∈vL,eN K H x (.type t):=by
 cases x with
 | non=>exact ⟨_,by decide,.non⟩
 | bl b=>exact ⟨_,by decide,.bl b⟩
 | int i=>exact ⟨_,by decide,.int i⟩
 | _=>cases h
theorem iD.ty {K:Fg} {H:Hp} {T:TM} {i d:Nat} {ta tb:Addr} {j:Nat} {x y:V} (dk:T.Dk) (h:H ta=some (.tup (kg T i d))) (g:H tb=some (.tup (kg T i d))) (hx:(V.ref ta :: cG T.ds i d)[j]?=some x) (hy:(V.ref tb :: cG T.ds i d)[j]?=some y):∃ t∈vL,eN K H x (.type t)/\eN K H y (.type t):=by
 cases j with
 | zero=>cases hx; cases hy; exact ⟨_,by decide,.tup h,.tup g⟩
 | succ j=>
  have hx':(cG T.ds i d)[j]?=some x:=hx
  have hy':(cG T.ds i d)[j]?=some y:=hy
  rw [hx'] at hy'
  cases hy'
  obtain ⟨t,h1,h2⟩:=JB (K:=K) (H:=H) (uE dk i d _ (LZ hx'))
  exact ⟨t,h1,h2,h2⟩
noncomputable def mw (_:Fg):Sp:=fun vs H Q _=>∃ (p r:Addr) (T:TM) (i d:Nat),vs=[.ref p,.ref r]/\iD H p T i d/\iD H r T i d/\T.Dk/\T.ds.length < 1000/\∀ H',am H H'->Q (.bl true) H'
noncomputable def ki (K:Fg):TS:=(ar (bp (tOr (d5 (tB (tCB (fP K) (aa (ac 0) (aa (tC (.ty "list")) ag))))) (bf (tOp (rh K true) (ac 0) (ac 1)))) (aJ (tC (.bl false))) ba)
 (ar (cR (pA bw bw K (aa (ac 0) (aa (ac 1) ag))) (gC K 2 (bI (ao 2) (bI (ao 3) gB))) (bp (tOr (bf (tOp rNe (tCB (fP K) (aa (ac 2) (aa (tC (.ty "bool")) ag))) (tCB (fP K) (aa (ac 3) (aa (tC (.ty "bool")) ag))))) (bf (tOp rNe (tCB (fP K) (aa (ac 2) (aa (tC (.ty "tuple")) ag))) (tCB (fP K) (aa (ac 3) (aa (tC (.ty "tuple")) ag)))))) (aJ (tC (.bl false))) ba))
 (aJ (tC (.bl true)))))
theorem AR (h:mw K vs H Q E):ki K { nx:=fun _ H'=>Q .non H',rt:=Q } (start ["_law_found","_law_due","_law_one","_law_other"] vs) H:=by
 obtain ⟨p,r,T,i,d,rfl,hp,hr,dk,hds,q⟩:=h
 show ki K _ [some _,some _,none,none] _
 unfold ki
 obtain ⟨ta,p1,p2⟩:=id hp
 obtain ⟨tb,r1,r2⟩:=id hr
 refine bu ?_
 walk_at "rs"
 refine eV (.lst p1) (jW K) ?_
 walk_at "rs"
 refine xj 2 (by decide) (hp.eqv dk hr) ?_
 walk_at "rs"
 refine fB fun NX hNX=>?_
 walk_at "rd"
 refine E8 (S1:=bw) (S2:=bw) _ _ (SqL.of p1) (SqL.of r1) (fun j σ H2=>∃ (u v:Option V),σ=[some (.ref p),some (.ref r),u,v]/\am H H2) ⟨none,none,rfl,am.refl _⟩ ?_ ?_ ?_
 ·rintro j σ H2 ⟨u,v,rfl,s2⟩
  exact ⟨SqL.of (s2 _ _ p1),SqL.of (s2 _ _ r1)⟩
 ·rintro j x y Tt σ H2 H3 hx hy ⟨u,v,rfl,s2⟩ hT s3 eT
  have s23:=s2.trans s3
  refine fC (SqT.of eT) ?_
  obtain ⟨t,ht,t1,t2⟩:=iD.ty (K:=K) (H:=H3) dk (s23 _ _ p2) (s23 _ _ r2) hx hy
  walk_at "rd"
  refine eV t1 (lM K t ht "bool" (by decide)) ?_
  walk_at "rd"
  refine eV t2 (lM K t ht "bool" (by decide)) ?_
  walk_at "rd"
  rw [if_neg (by simp)]
  walk_at "rd"
  refine eV t1 (lM K t ht "tuple" (by decide)) ?_
  walk_at "rd"
  refine eV t2 (lM K t ht "tuple" (by decide)) ?_
  walk_at "rd"
  rw [if_neg (by simp)]
  walk_at "rd"
  exact ⟨_,_,rfl,s23⟩
 ·rintro σ H2 ⟨u,v,rfl,s2⟩
  refine hNX _ _ ?_
  walk_at "rd"
  exact q H2 s2
noncomputable def FL (H:Hp) (ls:Addr) (T:TM):Prop:=∃ hs:List Addr,H ls=some (.lst (hs.map V.ref))/\hs.length=T.k/\∀ (i:Nat) (h:Addr),hs[i]?=some h->∃ rs:List Addr,H h=some (.lst (rs.map V.ref))/\rs.length=T.n/\∀ (d:Nat) (p:Addr),rs[d]?=some p->iD H p T i d
theorem Ls {y:V} (h:j5 y=true):iaV y=some (iaD y):=by
 cases y with
 | non=>rfl
 | bl b=>rfl
 | int i=>rfl
 | _=>cases h
theorem FM {H:Hp} {T:TM} {i d:Nat} (dk:T.Dk):Paired (ln H) (cG T.ds i d) ((cG T.ds i d).map fun y=>.inl (iaD y)):=by
 have:=uE dk i d
 generalize cG T.ds i d=l at this
 induction l with
 | nil=>exact .nil
 | cons y l ih=>exact .cons (Ls (this y Mc)) (ih fun z hz=>this z (Mh _ hz))
theorem JC {H:Hp} {t c:Addr} {T:TM} {i d:Nat} (dk:T.Dk) (h:H t=some (.tup (kg T i d))) (e:H c=some (.tup (.ref t :: cG T.ds i d))):b9 H (.ref c) (AM T i d):=
 ⟨c,_,rfl,e,.cons ⟨t,_,rfl,h,by unfold kg; rw [NQ,NQ]; rfl⟩ (FM dk)⟩
noncomputable def iE (_:Fg) (G:GF):Sp:=fun vs H Q _=>∃ (M:List Addr) (x pv pe ls la:Addr) (T:TM) (as:List Nat),vs=[.ref x,.ref ls,.ref la]/\Tb G M H x pv pe T/\T.Dk/\T.Vk/\T.ds.length < 1000/\FL H ls T/\H la=some (.lst (aw as))/\(∀ d∈as,d < T.n)/\∀ H',am H H'->Q (.bl true) H'
noncomputable def jo (K:Fg) (G:GF):TS:=(ar (cR (fq (aa (tCB (d7 K) (aa (ac 1) ag)) ag)) (ao 3) (ar (aK (jU G.Table "view" (kR K G) [] E0 (ac 0) (aa (ac 3) ag)) (ao 4))
 (ar (bp (tOr (d5 (tB (au (jI K) [] E0 (aa (ac 4) ag)))) (bf (tOp (rh K true) (ac 4) (au (kM K) [] E0 (aa (bO (cp K (tOp (cS K) (ac 1) (ac 3))) (fun _ _ _ _=>(ao 0)) (fun _ _ _ _=>bL) (fun _ _ _ _=>(tCB (oh K) (aa (ac 0) ag))) [none]) ag))))) (aJ (tC (.bl false))) ba)
 (cR (cp K (ac 2)) (ao 5) (ar (aK (jU G.Table "saw" (mr K G) [] E0 (ac 0) (aa (ac 3) (aa (ac 5) ag))) (ao 6))
 (ar (bp (d5 (tB (au (mw K) [] E0 (aa (ac 6) (aa (tOp (cS K) (tOp (cS K) (ac 1) (ac 3)) (ac 5)) ag))))) (aJ (tC (.bl false))) ba)
 (cV (tBM K "list" eO (ac 6) (aa (tC .non) ag)))))))))
 (aJ (tC (.bl true))))
noncomputable abbrev AS:List Str:=["_law_table","_law_seen","_law_asked","_law_hand","_law_view","_law_deal","_law_found"]
theorem yL {K:Fg} {G:GF} {vs:List V} {H:Hp} {Q:VK} {E:XK} (h:iE K G vs H Q E):jo K G { nx:=fun _ H'=>Q .non H',rt:=Q } (start AS vs) H:=by
 obtain ⟨M,x,pv,pe,ls,la,T,as,rfl,t,dk,vk,hds,sn,ela,has,q⟩:=h
 have n2:=t.ok.n2
 have l5:T.k<=5:=t.ok.pk.l5
 obtain ⟨hs,els,lhs,hhs⟩:=id sn
 show jo K G _ [some _,some _,some _,none,none,none,none] _
 unfold jo
 refine fB fun NX hNX=>?_
 walk_at "rd"
 rw [LR,lhs]
 refine gE T.k (by omega) (by omega) (by omega) (fun i σ H1=>∃ (u3 u4 u5 u6:Option V),σ=[some (.ref x),some (.ref ls),some (.ref la),u3,u4,u5,u6]/\am H H1) ⟨none,none,none,none,rfl,am.refl _⟩ ?_ ?_
 ·rintro i σ H1 hi ⟨u3,u4,u5,u6,rfl,s1⟩
  have t1:=t.same s1
  have hih:i < hs.length:=by omega
  have ehi:hs[i]?=some (hs[i]'hih):=LS _
  generalize hs[i]'hih=hh at ehi
  obtain ⟨rs,er,lrs,hrs⟩:=hhs i hh ehi
  have ixs:atI (hs.map V.ref) (i:Int)=some (.ref hh):=cx (by rw [LX,ehi]; rfl)
  walk_at "rs"
  refine bu ?_
  walk_at "rs"
  obtain ⟨dx1,fs1,hx1,hl1⟩:=t1.at "view" (by decide +kernel) (by decide +kernel) (by decide +kernel) (by decide +kernel) (by decide +kernel) (by decide +kernel)
  refine mh ?_
  walk_at "rs"
  refine ⟨x,dx1,fs1,rfl,hx1,hl1,?_⟩
  walk_at "rs"
  refine ⟨M,x,pv,pe,T,i,rfl,t1,hi,fun qv H2 hqv s2 e2=>?_⟩
  walk_at "rs"
  have s12:=s1.trans s2
  refine bu ?_
  walk_at "rs"
  have lv:(T.vw.getD i []).length=T.n:=by rw [vk i hi,bX,fM]
  refine ⟨qv,(T.vw.getD i []).map fun (z:Nat)=>((z:Nat):Int),rfl,by rw [<-dC]; exact e2,by rw [LR]; omega,fun H3 s3=>?_⟩
  walk_at "rs"
  have s13:=s12.trans s3
  refine bZ (SqL.of (s13 _ _ els)) ixs ?_
  refine dJ (rs.map V.ref) (SqL.of (s13 _ _ er)) (by rw [LR]; omega) (fun j acc H'=>Paired (b9 H') acc ((lA T i).take j)) (fun _ _=>.nil) ?_ ?_
  ·rintro p' hp' C s' H' fp j xx acc H4 hxx ⟨s4,e4,l4,hk⟩
   obtain ⟨r,hr,rfl⟩:=rk hxx
   obtain ⟨tt,y1,y2⟩:=hrs j r hr
   have hj:j < T.n:=by rw [<-lrs]; exact (LU.mp hr).1
   have s14:=s13.trans s4
   walk_at "rd"
   refine xa (SqL.of (s14 _ _ y1)) fun c H5 hc s5 e5=>?_
   refine aX.put hp' (fun _ _ _ _ z k=>mU z k) (s4.trans s5) (s5 _ _ e4) l4 ?_
   rw [bH (gK hj)]
   exact FI (mU hk s5.keep) (JC dk (s5 _ _ (s14 _ _ y2)) e5)
  ·rintro pl acc H4 hpl s4 e4 hk
   rw [LR,lrs,Pk (by rw [fM]; exact LV _)] at hk
   walk_at "rs"
   refine ⟨pl,acc,lA T i,true,rfl,e4,hk,(fun k hk'=>by obtain ⟨d,_,rfl⟩:=Na.mp hk'; rfl),by rw [fM]; omega,fun p5 H5 hp5 s5 e5=>?_⟩
   rw [<-vk i hi] at e5
   walk_at "rs"
   have s35:=s4.trans s5
   refine xj 1 (by decide) (vI (SqL.of (s35 _ _ (s3 _ _ e2))) (SqL.of e5) (by rw [dC]; exact yq _)) ?_
   walk_at "rd"
   have s15:=s13.trans s35
   refine lK (aw as) (SqL.of (s15 _ _ ela)) (fun j σ H6=>∃ (u5 u6:Option V),σ=[some (.ref x),some (.ref ls),some (.ref la),some (.int i),some (.ref qv),u5,u6]/\am H H6) ⟨_,_,rfl,s15⟩ ?_ ?_ ?_
   ·rintro j σ H6 hj ⟨v5,v6,rfl,s6⟩
    exact SqL.of (s6 _ _ ela)
   ·rintro j y σ H6 hy ⟨v5,v6,rfl,s6⟩
    obtain ⟨d,hd,rfl⟩:=fE hy
    have hdn:=has d (LZ hd)
    have t6:=t.same s6
    walk_at "rd"
    obtain ⟨dx6,fs6,hx6,hl6⟩:=t6.at "saw" (by decide +kernel) (by decide +kernel) (by decide +kernel) (by decide +kernel) (by decide +kernel) (by decide +kernel)
    refine mh ?_
    walk_at "rd"
    refine ⟨x,dx6,fs6,rfl,hx6,hl6,?_⟩
    walk_at "rd"
    refine ⟨M,x,pv,pe,T,i,d,rfl,t6,dk,hds,hi,hdn,fun q7 H7 hq7 s7 e7=>?_⟩
    have s67:=s6.trans s7
    walk_at "rd"
    have hdr:d < rs.length:=by omega
    have erd:rs[d]?=some (rs[d]'hdr):=LS _
    generalize rs[d]'hdr=rr at erd
    refine bZ (SqL.of (s67 _ _ els)) ixs ?_
    walk_at "rd"
    refine bZ (SqL.of (s67 _ _ er)) (cx (v:=.ref rr) (by rw [LX,erd]; rfl)) ?_
    walk_at "rd"
    refine ⟨q7,rr,T,i,d,rfl,e7,(hrs d rr erd).to s67.keep (fun xs e=>s67 _ _ e),dk,hds,fun H8 s8=>?_⟩
    walk_at "rd"
    obtain ⟨t7,z1,z2⟩:=e7
    refine ⟨.inl ⟨rfl,_,SqL.of (s8 _ _ z1)⟩,?_⟩
    walk_at "rd"
    have:=uD T.ds i d
    refine fR (s8 _ _ z1) (by rw [LY]; simp; omega) fun H9 o9 e9=>?_
    walk_at "rd"
    exact ⟨_,_,rfl,(s67.trans s8).off (s6.free hq7) o9⟩
   ·rintro σ H6 ⟨v5,v6,rfl,s6⟩
    exact ⟨_,_,_,_,rfl,s6⟩
 ·rintro σ H1 ⟨u3,u4,u5,u6,rfl,s1⟩
  refine hNX _ _ ?_
  walk_at "rd"
  exact q H1 s1
end
section
variable {K:Fg} {vs:List V} {H:Hp} {Q:VK} {E:XK}
open KF
noncomputable def kU (_:Fg):Sp:=fun vs H Q _=>∃ (pd l:Addr) (ws:List (List Nat)) (h:Int) (ns:List Int),vs=[.ref pd,.int h,.ref l]/\bF H pd ws/\ws.length<=2000/\H l=some (.lst (ns.map V.int))/\ns.length < 64/\(∀ n∈ns,∀ w∈ws,0<=n/\n < w.length)/\∀ p H',H p=none->am H H'->H' p=some (.lst ((cO ws h ns).map iaR))->Q (.ref p) H'
noncomputable def jp (K:Fg):TS:=(aJ (bO (cp K (ac 0)) (fun _ _ _ _=>(ao 0)) (fun _ _ _ _=>bL) (fun _ _ _ _=>(Dm K (aa (bO (cp K (ac 1)) (fun _ _ _ _=>(ao 0)) (fun _ _ _ _=>(bf (tOp rEq (tOp (ck K) (ac 2) (ac 0)) (ac 1)))) (fun _ _ _ _=>(ac 0)) [none,some 2,some 0]) ag))) [none,some 2,some 1]))
theorem yM (h:kU K vs H Q E):jp K { nx:=fun _ H'=>Q .non H',rt:=Q } (start ["_law_deals","_law_holder","_law_some"] vs) H:=by
 obtain ⟨pd,l,ws,h,ns,rfl,dl,hws,el,hns,hb,q⟩:=h
 show jp K _ [some _,some _,some _] _
 unfold jp
 obtain ⟨rs,er,hr⟩:=dl
 have lr:(rs.map V.ref).length=ws.length:=by rw [LR]; exact M5 hr
 walk_at "rd"
 refine dJ (rs.map V.ref) (SqL.of er) (by omega) (fun j acc _=>acc=(cO (ws.take j) h ns).map iaR) (fun H' _=>rfl) ?_ ?_
 ·rintro p' hp' C s' H' fp j xx acc H2 hxx ⟨s2,e2,l2,rfl⟩
  obtain ⟨b',hb',rfl⟩:=rk hxx
  obtain ⟨w,hwi,ew⟩:=bS hr hb'
  have hwm:=LZ hwi
  walk_at "rd"
  refine KR ?_
  walk_at "rd"
  refine dJ (ns.map V.int) (SqL.of (s2 _ _ el)) (by rw [LR]; omega) (fun j acc _=>acc=((ns.take j).filter fun c=>decide (wAt w c=h)).map V.int) (fun H' _=>rfl) ?_ ?_
  ·rintro p2 hp2 C2 s2' H2' fp2 i yy acc H3 hyy ⟨s3,e3,l3,rfl⟩
   obtain ⟨c,hc,rfl⟩:=vE hyy
   have hcb:=hb c (LZ hc) w hwm
   walk_at "rd"
   refine bj (SqT.of (s3 _ _ (s2 _ _ ew))) (AB hcb.1 hcb.2) ?_
   walk_at "rd"
   by_cases e:wAt w c=h
   ·rw [if_pos (decide_eq_true e)]
    walk_at "rd"
    refine aX.put hp2 (fun _ _ _ _ r _=>r) s3 e3 l3 ?_
    rw [bH hc,OI,OC (p:=fun c=>decide (wAt w c=h)) (decide_eq_true e),Ml]
    rfl
   ·rw [if_neg (by rw [decide_eq_false e]; exact Ma)]
    refine aX.skip s3 e3 l3 ?_
    rw [bH hc,OI,OD (p:=fun c=>decide (wAt w c=h)) (by simpa using e)]
    show _=Uw V.int (_++[])
    rw [Nm]
  ·rintro pm acc H3 hpm s3 e3 rfl
   rw [LR,MF] at e3
   walk_at "rd"
   have fin:∀ a:IA,mi w h ns=a->H3 p'=some (.lst ((cO (ws.take j) h ns).map iaR))/\aX H p' (fun j acc _=>acc=(cO (ws.take j) h ns).map iaR) (j + 1) ((cO (ws.take j) h ns).map iaR++[iaR a]) (upd H3 p' (.lst ((cO (ws.take j) h ns).map iaR++[iaR a]))):=fun a ha=>by
    subst ha
    refine aX.put hp' (fun _ _ _ _ r _=>r) (s2.trans s3) (s3 _ _ e2) l2 ?_
    rw [bH hwi]
    unfold cO
    rw [Ml,Ml]
    rfl
   refine ⟨pm,_,rfl,SqL.of e3,fun z=>?_,fun M hM hm=>?_⟩
   ·exact fin none (by unfold mi; rw [z]; rfl)
   ·exact fin (some M) (by unfold mi; exact SG.mpr ⟨hM,hm⟩)
 ·rintro p acc H2 hp s2 e2 rfl
  rw [lr,MF] at e2
  walk_at "rd"
  exact q p H2 hp s2 e2
noncomputable def pS (H:Hp) (p:Addr) (T:TM) (i d:Nat) (l:List V):Prop:=∃ t,H p=some (.lst (.ref t :: l))/\H t=some (.tup (kg T i d))
structure Sn (H:Hp) (ls:Addr) (k n:Nat) (Hh:Nat->Addr) (R:Nat->Nat->Addr):Prop where
 el:H ls=some (.lst ((Mn k).map fun i=>V.ref (Hh i)))
 hh:∀ i,i < k->H (Hh i)=some (.lst ((Mn n).map fun d=>V.ref (R i d)))
 nl:∀ i d,i < k->d < n->R i d≠ls
 nh:∀ i d j,i < k->d < n->j < k->R i d≠Hh j
 inj:∀ i d i' d',i < k->d < n->i' < k->d' < n->R i d=R i' d'->i=i'/\d=d'
theorem Sn.seen {H:Hp} {ls:Addr} {T:TM} {Hh:Nat->Addr} {R:Nat->Nat->Addr} (h:Sn H ls T.k T.n Hh R) (hc:∀ i d,i < T.k->d < T.n->pS H (R i d) T i d (cG T.ds i d)):FL H ls T:=by
 refine ⟨(Mn T.k).map Hh,by rw [NQ]; exact h.el,by rw [LR,MU],fun i hh hi=>?_⟩
 have hik:i < T.k:=by have:=(LU.mp hi).1; rw [LR,MU] at this; exact this
 rw [LX,MS hik] at hi
 cases hi
 refine ⟨(Mn T.n).map (R i),by rw [NQ]; exact h.hh i hik,by rw [LR,MU],fun d p hd=>?_⟩
 have hdn:d < T.n:=by have:=(LU.mp hd).1; rw [LR,MU] at this; exact this
 rw [LX,MS hdn] at hd
 cases hd
 exact hc i d hik hdn
theorem Hg {T:TM} (h:T.Dk) (d:Dd):(T.deed d).Dk:=fun m hm=>by
 have en:(T.deed d).n=T.n:=by unfold TM.n; rw [Cm]
 rw [en]
 cases d with
 | word g s=>
  rcases Mt.mp (show m∈T.ds++[_] from hm) with z | z
  ·exact h m z
  ·rw [LW.mp z]
   exact ⟨cN _ _,An _ _⟩
 | «show» i hh ns=>
  rcases Mt.mp (show m∈T.ds++[_] from hm) with z | z
  ·exact h m z
  ·rw [LW.mp z]
   refine ⟨by unfold cO; rw [LR,LR]; rfl,fun y hy=>?_⟩
   obtain ⟨a,_,rfl⟩:=Na.mp hy
   cases a <;> rfl
theorem BK (T:TM) (d:Dd):∀ x∈T.dtold d,j5 x=true:=by
 cases d with
 | word g s=>exact An _ _
 | «show» i h ns=>
  intro x hx
  obtain ⟨a,_,rfl⟩:=Na.mp hx
  cases a <;> rfl
noncomputable abbrev KW (K:Fg):Sp:=vh K
noncomputable def zu (K:Fg) (G:GF):TS:=(ar (aK (au (lY K) [] E0 (aa (ac 0) (aa (tC (.int 0)) (aa (tOp (cS K) (d8 (aa (tC (.int 60)) (aa (tC (.int 210)) ag))) (tCB GG (aa (tOp rEq (tOp (rI (fun _ j=>0 < j) fun i j=>.int (i % j)) (au (bi K) [] E0 (aa (ac 0) (aa (tC (.int 7)) ag))) (tC (.int 16))) (tC (.int 3))) ag))) ag)))) (gC K 2 (bI (ao 1) (bI (ao 2) gB))))
 (ar (aK (tCB (d7 K) (aa (ac 2) ag)) (ao 3))
 (ar (aK (au (j3 K) [] E0 (aa (ac 1) (aa (ac 2) ag))) (ao 4))
 (ar (aK (zp G.Table (fY K G) [] E0 (aa (ac 1) (aa (ac 2) ag))) (ao 5))
 (ar (aK (d8 ag) (ao 6))
 (ar (cR (fq (aa (ac 3) ag)) (ao 7) (cV (tBM K "list" eO (ac 6) (aa (bO (cp K (ac 4)) (fun _ _ _ _=>(ao 0)) (fun _ _ _ _=>bL) (fun _ _ _ _=>(d8 (aa (tCB (oh K) (aa (bO (mR gp K (aa (ac 0) ag)) (fun _ _ _ _=>(gC K 2 (bI (ao 0) (bI (ao 1) gB)))) (fun _ _ _ _=>(bf (tOp rEq (ac 1) (ac 2)))) (fun _ _ _ _=>(ac 0)) [none,none,some 1]) ag)) ag))) [none,some 7]) ag))))
 (ar (aK (d8 (aa (tOp (rI (fun _ j=>0 < j) fun i j=>.int (i % j)) (au (bi K) [] E0 (aa (ac 0) (aa (tC (.int 9)) ag))) (tCB (d7 K) (aa (ac 4) ag))) (aa (tOp (rI (fun _ j=>0 < j) fun i j=>.int (i % j)) (au (bi K) [] E0 (aa (ac 0) (aa (tC (.int 10)) ag))) (tCB (d7 K) (aa (ac 4) ag))) ag))) (ao 8))
 (ar (bp (d5 (tB (au (iE K G) [] E0 (aa (ac 5) (aa (ac 6) (aa (ac 8) ag)))))) (aJ (tC (.bl false))) ba)
 (ar (cR (fq (aa (tOp (rI (fun _ j=>0 < j) fun i j=>.int (i % j)) (au (bi K) [] E0 (aa (ac 0) (aa (tC (.int 8)) ag))) (tC (.int 7))) ag)) (ao 9) (ar (aK (au (mj K) [] E0 (aa (ac 0) (aa (tOp (rI0 fun i j=>.int (i + j)) (tC (.int 11)) (tOp (rI OP fun i j=>.int (i * j)) (tC (.int 18)) (ac 9))) (aa (ac 1) (aa (ac 3) ag))))) (ao 10))
 (ar (aK (au (mq K G) [] E0 (aa (ac 5) (aa (ac 10) ag))) (ao 11))
 (ar (aK (tCB (lU K) (aa (ac 11) ag)) (ao 12))
 (ar (cV (Gs K "list" zO (ac 11)))
 (ar (cV (tBM K "list" eO (ac 11) (aa (tC .non) ag)))
 (ar (aK (tOp (ck K) (ac 10) (tC (.int 1))) (ao 13))
 (ar (bp (bf (tOp rEq (tOp (ck K) (ac 10) (tC (.int 0))) (tC (.str "show")))) (ar (aK (dg (aa (tOp (ck K) (ac 10) (tC (.int 1))) ag)) (ao 13))
 (bp (bf (tOp (rh K true) (ac 12) (au (kU K) [] E0 (aa (ac 4) (aa (tOp (ck K) (ac 10) (tC (.int 2))) (aa (tOp (ck K) (ac 10) (tC (.int 3))) ag)))))) (aJ (tC (.bl false))) ba)) ba)
 (ar (cR (uk K (ac 13)) (ao 7) (cR (fq (aa (tCB (d7 K) (aa (ac 4) ag)) ag)) (ao 14) (cV (tBM K "list" eO (tOp (cS K) (tOp (cS K) (ac 6) (ac 7)) (ac 14)) (aa (tOp (cS K) (ac 12) (ac 14)) ag)))))
 (bp (d5 (tB (au (iE K G) [] E0 (aa (ac 5) (aa (ac 6) (aa (ac 8) ag)))))) (aJ (tC (.bl false))) ba))))))))))
 (aJ (tC (.bl true))))))))))))
noncomputable abbrev Lu:List Str:=["_law_script","_law_cards","_law_sizes","_law_hands","_law_deals","_law_table","_law_seen","_law_hand","_law_asked","_law_k","_law_deed_here","_law_found","_law_told","_law_group_here","_law_place"]
theorem KY {K:Fg} {G:GF} {vs:List V} {H:Hp} {Q:VK} {E:XK} (h:KW K vs H Q E):zu K G { nx:=fun _ H'=>Q .non H',rt:=Q } (start Lu vs) H:=by
 obtain ⟨a,ns,rfl,hSc0,g⟩:=h
 show zu K G _ [some _,none,none,none,none,none,none,none,none,none,none,none,none,none,none] _
 unfold zu
 refine bu ?_
 walk_at "rs"
 refine ⟨by simp [LY],fun pl0 H0 hpl0 s0 e0=>?_⟩
 walk_at "rs"
 refine ⟨a,ns,7,rfl,hSc0.same s0,by decide,by decide,?_⟩
 walk_at "rs"
 obtain ⟨mst,hmst,hm1,hm2⟩:∃ m:Int,atI [V.int 60,V.int 210] (if decide (bC ns 7 % 16=3)=true then 1 else 0)=some (V.int m)/\1<=m/\m<=210:=by
  by_cases e:bC ns 7 % 16=3
  ·rw [if_pos (decide_eq_true e)]; exact ⟨210,rfl,by decide,by decide⟩
  ·rw [if_neg (by rw [decide_eq_false e]; exact Ma)]; exact ⟨60,rfl,by decide,by decide⟩
 refine bZ (SqL.of e0) hmst ?_
 walk_at "rs"
 refine ⟨a,ns,0,mst,rfl,hSc0.same s0,by decide,by decide,by omega,fun c ss tp q H1 s1 htp hq e1 eq1 pk hm=>?_⟩
 refine fC (SqT.of e1) ?_
 have h1:=pk.l1
 have h5:=pk.l5
 have c12:=pk.c12
 have few:KM.cr c ss<=2000:=by omega
 have okB:=TM.Ok.begun pk few
 have nB:=okB.n2
 have hSc1:=(hSc0.same s0).same s1
 walk_at "rs"
 refine bu ?_
 walk_at "rs"
 rw [bg]
 refine bu ?_
 walk_at "rs"
 refine ⟨c,q,ss,rfl,eq1,pk,by omega,fun pdl Hd sd hpdl Dd'=>?_⟩
 obtain ⟨rd,erd,hrd⟩:=id Dd'
 have lrd:(rd.map V.ref).length=(TM.begun c ss).n:=by rw [LR]; exact M5 hrd
 have npos:0 < (TM.begun c ss).n:=by
  show 0 < (KM.cE _ _).length
  rw [KM.jZ okB.pk.sum]
  exact KM.Fj okB.pk.sum
 walk_at "rs"
 refine bu (mT (KS ?_))
 walk_at "rd"
 intro x dx hx hdx hne
 have st:am Hd (upd (upd Hd dx (.own x)) x (.ins G.Table dx [])):=((am.refl Hd).upd hdx _).upd hx _
 refine ⟨[],x,dx,q,c,ss,rfl,az,st _ _ (sd _ _ eq1),pk,few,(fun b hb=>nomatch hb),(fun hb=>nomatch hb),fun H2 pv pe kx hpv hpe t2=>?_⟩
 have s2:am Hd H2:=fun b o e=>kx _ _ (be e hx) (st _ _ e)
 have hSc:=hSc1.same sd
 have hpv0:=st.free hpv
 have hpe0:=st.free hpe
 refine ⟨rfl,?_⟩
 refine bu ?_
 walk_at "rs"
 refine ⟨by simp [LY],fun ls H3 hls s3 e3=>?_⟩
 have k0:(TM.begun c ss).k=ss.length:=rfl
 refine fB fun NX hNX=>?_
 walk_at "rd"
 refine gE ss.length (by omega) (by omega) (by omega) (fun i σ HH=>∃ (u7:Option V) (Hh:Nat->Addr) (R:Nat->Nat->Addr),σ=[some (.ref a),some (.int c),some (.ref q),some (.int ss.length),some (.ref pdl),some (.ref x),some (.ref ls),u7,none,none,none,none,none,none,none]/\am H2 HH/\Sn HH ls i (TM.begun c ss).n Hh R/\(∀ j d,j < i->d < (TM.begun c ss).n->pS HH (R j d) (TM.begun c ss) j d []/\H2 (R j d)=none)/\∀ j,j < i->H2 (Hh j)=none/\Hh j≠ls) ⟨none,fun _=>0,fun _ _=>0,rfl,s3,⟨e3,fun i hi=>absurd hi (NT _),fun i d hi=>absurd hi (NT _),fun i d j hi=>absurd hi (NT _),fun i d i' d' hi=>absurd hi (NT _)⟩,fun j d hj=>absurd hj (NT _),fun j hj=>absurd hj (NT _)⟩ ?_ ?_
 ·rintro i σ HH hi ⟨u7,Hh,R,rfl,s4,sn,hR,hH⟩
  walk_at "rd"
  refine ⟨.inl ⟨rfl,_,SqL.of sn.el⟩,?_⟩
  have s2H:=s2.trans s4
  walk_at "rd"
  refine Ha (rd.map V.ref) (SqL.of (s2H _ _ erd)) (by omega) (fun p' j acc H'=>∃ rs:List Addr,acc=rs.map V.ref/\rs.length=j/\rs.Nodup/\∀ d p,rs[d]?=some p->pS H' p (TM.begun c ss) i d []/\HH p=none/\p≠p') (fun p' H' _=>⟨[],rfl,rfl,QW,fun d p hd=>by cases d <;> cases hd⟩) ?_ ?_
  ·rintro p' hp' C s' H' fp j xx acc H5 hxx ⟨s5,e5,l5,rs,rfl,lrs,nds,hrs⟩
   obtain ⟨b',hb',rfl⟩:=rk hxx
   obtain ⟨w,hwi,ew⟩:=bS hrd hb'
   have hwc:=okB.cards w (LZ hwi)
   have hc0:(TM.begun c ss).c=c:=rfl
   have sdw:=s5 _ _ (s2H _ _ ew)
   walk_at "rd"
   refine Jk (S:=gp) (aw w) (SqT.of sdw) (fun H' s=>SqT.of (s _ _ sdw)) (by rw [bg]; omega) (fun j acc _=>acc=(pK (w.map fun (s:Nat)=>((s:Nat):Int)) (i:Int) j).map V.int) (fun _ _=>rfl) ?_ ?_
   ·rintro p2 hp2 C2 s2' H2' fp2 m xx TT acc H6 H7 hxx ⟨s6,e6,l6,rfl⟩ hT s7 eT e7
    refine fC (SqT.of eT) ?_
    obtain ⟨z,hz,rfl⟩:=fE hxx
    have eu:=yp (w.map fun (s:Nat)=>((s:Nat):Int)) (i:Int) m
    have hzz:(w.map fun (s:Nat)=>((s:Nat):Int))[m]?=some (z:Int):=by rw [LX,hz]; rfl
    walk_at "rd"
    refine dq (fun cc=>?_) (fun cc=>?_)
    ·walk_at "rd"
     refine aX.put hp2 (fun _ _ _ _ r _=>r) (s6.trans s7) e7 l6 ?_
     rw [eu,if_pos (by rw [hzz]; exact congrArg some (by first | exact cc | (injection cc))),Ml]
     rfl
    ·refine aX.skip (s6.trans s7) e7 l6 ?_
     rw [eu,if_neg (by rw [hzz]; exact fun z=>cc (by first | exact L9 z | exact congrArg V.int (L9 z))),Nm]
   ·rintro p2 acc H6 hp2 s6 e6 rfl
    walk_at "rd"
    refine xa (SqL.of e6) fun t H7 ht s7 e7=>?_
    walk_at "rd"
    refine ⟨by simp [LY],fun r H8 hr s8 e8=>?_⟩
    have s58:=(s6.trans s7).trans s8
    have nr:r≠p':=fun z=>by rw [z,s7 _ _ (s6 _ _ e5)] at hr; cases hr
    refine aX.putW hp' (s5.trans s58) (s58 _ _ e5) l5 fun H9 o9=>⟨rs++[r],by rw [Ml]; rfl,by rw [Mj,lrs]; rfl,?_,fun d p hd=>?_⟩
    ·refine RA.mpr ⟨nds,N3.mpr ⟨(fun z=>nomatch z),QW⟩,fun y hy z hz=>?_⟩
     obtain ⟨d,hd⟩:=QK hy
     obtain ⟨⟨t',y1,_⟩,_⟩:=hrs d y hd
     rw [LW.mp hz]
     intro e
     rw [e] at y1
     have z:=s7 _ _ (s6 _ _ y1)
     rw [z] at hr
     cases hr
    ·have kp:∀ {b:Addr} {xs:List V},H8 b=some (.tup xs)->H9 b=some (.tup xs):=fun {b xs} e=>(o9 b (fun z=>by rw [z,s58 _ _ e5] at e; cases e)).trans e
     by_cases hdl:d < rs.length
     ·rw [OU hdl] at hd
      obtain ⟨⟨t',y1,y2⟩,y3,y4⟩:=hrs d p hd
      exact ⟨⟨t',(o9 _ y4).trans (s58 _ _ y1),kp (s58 _ _ y2)⟩,y3,y4⟩
     ·have hd2:=(LU.mp hd).1
      rw [Mj] at hd2
      have ed:d=j:=by simp at hd2; omega
      subst ed
      rw [PD (by omega),lrs,RX] at hd
      cases hd
      refine ⟨⟨t,(o9 _ nr).trans e8,kp (s8 _ _ ?_)⟩,s5.free ((s6.trans s7).free hr),nr⟩
      rw [e7]
      unfold kg
      rw [show (TM.begun c ss).ws.getD d []=w from iW hwi,bg]
      rfl
  ·rintro ph acc H5 hph s5 e5 ⟨rs,rfl,lrs,nds,hrs⟩
   walk_at "rd"
   have lcol:∀ k:Nat,((Mn k).map fun i=>V.ref (Hh i)).length=k:=fun k=>by rw [LR,MU]
   refine fR (s5 _ _ sn.el) (by rw [lcol,LY]; omega) fun H6 o6 e6=>?_
   have hHH:HH ls≠none:=by rw [sn.el]; exact fun z=>nomatch z
   have ne:∀ {b:Addr},HH b=none->b≠ls:=fun hb z=>hHH (z ▸ hb)
   have up:∀ {b:Addr} {o:HO},b≠ls->HH b=some o->H6 b=some o:=fun n e=>(o6 _ n).trans (s5 _ _ e)
   have lrn':rs.length=(TM.begun c ss).n:=by rw [lrs,<-lrd,LR]
   have get:∀ d,d < (TM.begun c ss).n->rs[d]?=some (rs.getD d 0):=fun d hd=>jL (by omega)
   have old:∀ j d,j < i->d < (TM.begun c ss).n->HH (R j d)≠none:=fun j d hj hd z=>by
    obtain ⟨⟨t,y,_⟩,_⟩:=hR j d hj hd
    rw [z] at y; cases y
   have oldh:∀ j,j < i->HH (Hh j)≠none:=fun j hj z=>by
    have y:=sn.hh j hj
    rw [z] at y; cases y
   walk_at "rd"
   have s26:am H2 H6:=(s4.trans s5).off hls o6
   refine ⟨_,fun j=>if j=i then ph else Hh j,fun j d=>if j=i then rs.getD d 0 else R j d,rfl,s26,⟨?_,fun j hj=>?_,fun j d hj hd=>?_,fun j d m hj hd hm=>?_,fun j d j' d' hj hd hj' hd' e=>?_⟩,fun j d hj hd=>?_,fun j hj=>?_⟩
   ·rw [e6,OM,Ml]
    refine congrArg (fun l=>some (HO.lst l)) (congr (congrArg _ (Nx fun j hj=>?_)) ?_)
    ·rw [if_neg (MC (ND.mp hj))]
    ·show [V.ref ph]=[V.ref (if i=i then ph else Hh i)]
     rw [if_pos rfl]
   ·by_cases z:j=i
    ·simp only [if_pos z]
     rw [o6 _ (ne hph),e5]
     refine congrArg (fun l=>some (HO.lst l)) (Oi fun d=>?_)
     rw [LX,LX]
     by_cases hd:d < (TM.begun c ss).n
     ·rw [get d hd,MS hd]; rfl
     ·rw [Mw (by omega),Mw (by rw [MU]; omega)]; rfl
    ·simp only [if_neg z]
     have hj':j < i:=by omega
     exact up (hH j hj').2 (sn.hh j hj')
   ·by_cases z:j=i
    ·simp only [if_pos z]
     exact ne (hrs d _ (get d hd)).2.1
    ·simp only [if_neg z]
     exact sn.nl j d (by omega) hd
   ·by_cases z:j=i
    ·simp only [if_pos z]
     by_cases y:m=i
     ·simp only [if_pos y]
      exact (hrs d _ (get d hd)).2.2
     ·simp only [if_neg y]
      exact fun w=>oldh m (by omega) (w ▸ (hrs d _ (get d hd)).2.1)
    ·simp only [if_neg z]
     by_cases y:m=i
     ·simp only [if_pos y]
      exact fun w=>old j d (by omega) hd (w ▸ hph)
     ·simp only [if_neg y]
      exact sn.nh j d m (by omega) hd (by omega)
   ·by_cases z:j=i
    ·by_cases y:j'=i
     ·simp only [if_pos z,if_pos y] at e
      refine ⟨by omega,?_⟩
      have g1:=get d hd
      have g2:=get d' hd'
      rw [<-e] at g2
      exact (List.getElem?_inj (by omega) nds).mp (g1.trans g2.symm)
     ·simp only [if_pos z,if_neg y] at e
      exact absurd ((hrs d _ (get d hd)).2.1) (e ▸ old j' d' (by omega) hd')
    ·by_cases y:j'=i
     ·simp only [if_neg z,if_pos y] at e
      exact absurd ((hrs d' _ (get d' hd')).2.1) (e ▸ old j d (by omega) hd)
     ·simp only [if_neg z,if_neg y] at e
      exact sn.inj j d j' d' (by omega) hd (by omega) hd' e
   ·by_cases z:j=i
    ·simp only [if_pos z]
     obtain ⟨⟨t,y1,y2⟩,y3,_⟩:=hrs d _ (get d hd)
     rw [z]
     exact ⟨⟨t,(o6 _ (ne y3)).trans y1,(o6 _ (fun w=>by rw [w,s5 _ _ sn.el] at y2; cases y2)).trans y2⟩,s4.free y3⟩
    ·simp only [if_neg z]
     obtain ⟨⟨t,y1,y2⟩,y3⟩:=hR j d (by omega) hd
     exact ⟨⟨t,up (sn.nl j d (by omega) hd) y1,up (fun w=>by rw [w,sn.el] at y2; cases y2) y2⟩,y3⟩
   ·by_cases z:j=i
    ·simp only [if_pos z]
     exact ⟨s4.free hph,ne hph⟩
    ·simp only [if_neg z]
     exact hH j (by omega)
 ·rintro σ HH ⟨u7,Hh,R,rfl,s4,sn,hR,hH⟩
  refine hNX _ _ ?_
  clear hNX
  have s2H:=s2.trans s4
  have erdH:=s2H _ _ erd
  refine bu ?_
  walk_at "rs"
  refine ⟨a,ns,9,rfl,hSc.same s2H,by decide,by decide,?_⟩
  walk_at "rs"
  refine ⟨a,ns,10,rfl,hSc.same s2H,by decide,by decide,?_⟩
  walk_at "rs"
  rw [lrd]
  obtain ⟨d1,hd1,hd1n⟩:=ka (bC ns 9) (m:=((TM.begun c ss).n:Int)) (by omega)
  obtain ⟨d2,hd2,hd2n⟩:=ka (bC ns 10) (m:=((TM.begun c ss).n:Int)) (by omega)
  rw [hd1,hd2]
  refine ⟨by simp [LY],fun la HL hla sL eL=>?_⟩
  obtain ⟨as,eas⟩:∃ as,as=[d1,d2]:=⟨_,rfl⟩
  have eL':HL la=some (.lst (aw as)):=by rw [eas]; exact eL
  have has:∀ d∈as,d < (TM.begun c ss).n:=fun d hd=>by
   rw [eas] at hd
   rcases L7.mp hd with z | z
   ·omega
   ·have:=LW.mp z; omega
  obtain ⟨RL,hRL⟩:∃ RL:List Addr,∀ b,b∈RL↔∃ i d,i < ss.length/\d < (TM.begun c ss).n/\b=R i d:=by
   refine ⟨(Mn ss.length).flatMap fun i=>(Mn (TM.begun c ss).n).map (R i),fun b=>?_⟩
   rw [RY]
   constructor
   ·rintro ⟨i,hi,hb⟩
    obtain ⟨d,hd,rfl⟩:=Na.mp hb
    exact ⟨i,d,ND.mp hi,ND.mp hd,rfl⟩
   ·rintro ⟨i,d,hi,hd,rfl⟩
    exact ⟨i,ND.mpr hi,Na.mpr ⟨d,ND.mpr hd,rfl⟩⟩
  have newR:∀ b∈RL,H2 b=none:=fun b hb=>by
   obtain ⟨i,d,hi,hd,rfl⟩:=(hRL b).mp hb
   exact (hR i d hi hd).2
  have alR:∀ b∈RL,HH b≠none:=fun b hb z=>by
   obtain ⟨i,d,hi,hd,rfl⟩:=(hRL b).mp hb
   obtain ⟨⟨t,y,_⟩,_⟩:=hR i d hi hd
   rw [z] at y; cases y
  have tH:Tb G (RL++[pv,pe]) HH x pv pe (TM.begun c ss):=t2.grow s4 newR alR
  have nla:la∉RL++[pv,pe]:=tH.off hla
  have npv:pv∉RL:=fun z=>t2.al pv t2.mv (newR _ z)
  have npe:pe∉RL:=fun z=>t2.al pe t2.me (newR _ z)
  have newM:∀ b∈RL++[pv,pe],Hd b=none:=fun b hb=>by
   rcases Mt.mp hb with z | z
   ·exact s2.free (newR b z)
   ·rcases L7.mp z with z | z
    ·rw [z]; exact hpv0
    ·rw [LW.mp z]; exact hpe0
  have nls:ls∉RL++[pv,pe]:=fun z=>by
   rcases Mt.mp z with z | z
   ·obtain ⟨i,d,hi,hd,e⟩:=(hRL ls).mp z
    exact sn.nl i d hi hd e.symm
   ·exact t2.al _ z hls
  have nHh:∀ j,j < ss.length->Hh j∉RL++[pv,pe]:=fun j hj z=>by
   rcases Mt.mp z with z | z
   ·obtain ⟨i,d,hi,hd,e⟩:=(hRL _).mp z
    exact sn.nh i d j hi hd hj e.symm
   ·exact t2.al _ z (hH j hj).1
  obtain ⟨M,hM⟩:∃ M,M=RL++[pv,pe]:=⟨_,rfl⟩
  have subR:∀ b∈RL,b∈M:=fun b hb=>by rw [hM]; exact NG _ hb
  rw [<-hM] at tH nla newM nls nHh
  have snk:∀ {H':Hp},Kp M HL H'->Sn H' ls ss.length (TM.begun c ss).n Hh R:=fun k=>⟨k.lst nls (sL _ _ sn.el),fun i hi=>k.lst (nHh i hi) (sL _ _ (sn.hh i hi)),sn.nl,sn.nh,sn.inj⟩
  refine bu ?_
  walk_at "rs"
  refine ⟨M,x,pv,pe,ls,la,TM.begun c ss,as,rfl,tH.same sL,(fun m hm=>nomatch hm),AO c ss,Ot rfl,Sn.seen (snk (Kp.of (am.refl _))) (fun i d hi hd=>?_),eL',has,fun HN sN=>?_⟩
  ·obtain ⟨⟨t,y1,y2⟩,_⟩:=hR i d hi hd
   exact ⟨t,sL _ _ y1,sL _ _ y2⟩
  walk_at "rs"
  refine fB fun NX hNX=>?_
  walk_at "rd"
  have sLN:=sL.trans sN
  have s2N:=s2H.trans sLN
  refine ⟨a,ns,8,rfl,hSc.same s2N,by decide,by decide,?_⟩
  walk_at "rd"
  obtain ⟨m2,hm8,hm7⟩:∃ m:Nat,bC ns 8 % 7=(m:Int)/\m < 7:=⟨(bC ns 8 % 7).toNat,by omega,by omega⟩
  rw [hm8]
  refine gE m2 (by omega) (by omega) (by omega) (fun j σ HJ=>∃ (u7 u9 u10 u11 u12 u13 u14:Option V) (T:TM),σ=[some (.ref a),some (.int c),some (.ref q),some (.int ss.length),some (.ref pdl),some (.ref x),some (.ref ls),u7,some (.ref la),u9,u10,u11,u12,u13,u14]/\am Hd HJ/\Kp M HL HJ/\Tb G M HJ x pv pe T/\T.c=c/\T.ss=ss/\T.Dk/\T.Vk/\T.ds.length=j/\∀ i d,i < ss.length->d < (TM.begun c ss).n->pS HJ (R i d) T i d (cG T.ds i d)) ⟨_,none,none,none,none,none,none,TM.begun c ss,rfl,s2N,Kp.of sN,(tH.same sL).same sN,rfl,rfl,(fun m hm=>nomatch hm),AO c ss,rfl,fun i d hi hd=>?_⟩ ?_ ?_
  ·obtain ⟨⟨t,y1,y2⟩,_⟩:=hR i d hi hd
   exact ⟨t,sLN _ _ y1,sLN _ _ y2⟩
  ·rintro j σ HJ hj ⟨u7,u9,u10,u11,u12,u13,u14,T,rfl,sJ,kJ,tJ,hTc,hTs,dk,vk,lds,hC⟩
   have hTk:T.k=ss.length:=by unfold TM.k; rw [hTs]
   have hTw:T.ws=(TM.begun c ss).ws:=by unfold TM.ws; rw [hTc,hTs]; rfl
   have hTn:T.n=(TM.begun c ss).n:=by unfold TM.n; rw [hTw]
   walk_at "rs"
   refine bu ?_
   walk_at "rs"
   refine ⟨a,ns,11 + 18 * (j:Int),c,ss.length,rfl,hSc.same sJ,by omega,by omega,h1,h5,fun v d HA sA hd ok=>?_⟩
   walk_at "rs"
   refine bu ?_
   walk_at "rs"
   have dA:pR (fun l=>l∉M) HA v d:=hd.to (fun _ _ e=>e) (fun l xs hl e=>⟨e,tJ.off hl⟩)
   refine ⟨M,x,pv,pe,T,v,d,rfl,tJ.same sA,dA,by rw [hTc,hTk]; exact ok,by omega,fun p5 Hm HB kB tB hp5 sB eB=>?_⟩
   walk_at "rs"
   have subV:∀ y∈[pv,pe],y∈M:=fun y hy=>by rw [hM]; exact MB _ hy
   have sdm:am Hd Hm:=kB.new (sJ.trans sA) fun y hy=>newM y (subV y hy)
   have dm:pR (fun l=>l∉M) Hm v d:=dA.to kB.keep fun l xs n e=>⟨kB.lst (fun z=>n (subV _ z)) e,n⟩
   have kLm:Kp M HL Hm:=(kJ.trans (Kp.of sA)).trans (kB.mono subV)
   refine bu ?_
   walk_at "rs"
   refine qZ (SqL.of eB) fun pt HC hpt sC eC=>?_
   walk_at "rs"
   refine bu ?_
   walk_at "rs"
   refine ⟨.inl ⟨rfl,_,SqL.of (sC _ _ eB)⟩,p5,_,rfl,rfl,sC _ _ eB,?_⟩
   have npt:pt≠p5:=fun z=>by rw [z,eB] at hpt; cases hpt
   have sD:am Hm (upd HC p5 (.lst (T.dtold d).reverse)):=(sB.trans sC).upd hp5 _
   have eD:(upd HC p5 (.lst (T.dtold d).reverse)) p5=some (.lst (T.dtold d).reverse):=az
   have tD:(upd HC p5 (.lst (T.dtold d).reverse)) pt=some (.lst (T.dtold d)):=by rw [aM npt]; exact eC
   generalize upd HC p5 (.lst (T.dtold d).reverse)=HD at sD eD tD
   have ltd:(T.dtold d).length=T.n:=by
    cases d with
    | word g s=>exact cN _ _
    | «show» i hh ns=>show ((cO T.ws hh ns).map iaR).length=_; unfold cO; rw [LR,LR]; rfl
   have n2:=tJ.ok.n2
   walk_at "rs"
   refine bu ?_
   walk_at "rs"
   refine ⟨.inl ⟨rfl,_,SqL.of eD⟩,?_⟩
   walk_at "rs"
   refine fR eD (by rw [Td,LY]; omega) fun HE oE eE=>?_
   have sE:am Hm HE:=sD.off hp5 oE
   have tE:HE pt=some (.lst (T.dtold d)):=(oE _ npt).trans tD
   have tbE:=tB.same sE
   have npt':pt∉M:=(tB.same sB).off hpt
   have kLE:Kp M HL HE:=kLm.trans (Kp.of sE)
   have sdE:=sdm.trans sE
   have rowE:∀ i d,i < ss.length->d < (TM.begun c ss).n->pS HE (R i d) T i d (cG T.ds i d):=fun i d' hi hd'=>by
    obtain ⟨t,y1,y2⟩:=hC i d' hi hd'
    have n1:R i d'∉[pv,pe]:=fun z=>by
     have hin:R i d'∈RL:=(hRL _).mpr ⟨i,d',hi,hd',rfl⟩
     rcases L7.mp z with w | w
     ·exact npv (w ▸ hin)
     ·exact npe (LW.mp w ▸ hin)
    exact ⟨t,sE _ _ (kB.lst n1 (sA _ _ y1)),sE _ _ (kB.tup (sA _ _ y2))⟩
   walk_at "rs"
   obtain ⟨ad,tl,g0,rfl,ead,at1⟩:∃ ad tl g0,v=.ref ad/\Hm ad=some (.tup tl)/\atI tl 1=some g0:=by
    cases d with
    | word g s=>obtain ⟨a',b,y,e,z1,z2,z3⟩:=dm; exact ⟨a',_,_,e,z1,rfl⟩
    | «show» i hh ns=>obtain ⟨a',l,e,z1,z2,z3⟩:=dm; exact ⟨a',_,_,e,z1,rfl⟩
   refine bu ?_
   walk_at "rs"
   refine bj (SqT.of (sE _ _ ead)) at1 ?_
   walk_at "rs"
   refine fB fun NX2 hNX2=>?_
   have key:∀ (gv:Addr) (gl:List Nat) (Hx:Hp),am HE Hx->Hx gv=some (.tup (aw gl))->gl.Pairwise (· < ·)->(∀ h∈gl,h < ss.length)->(T.deed d).ds=T.ds++[(gl,T.dtold d)]->NX2 [some (.ref a),some (.int c),some (.ref q),some (.int ss.length),some (.ref pdl),some (.ref x),some (.ref ls),u7,some (.ref la),some (.int j),some (.ref ad),some (.ref p5),some (.ref pt),some (.ref gv),u14] Hx:=by
    intro gv gl Hx sx egv pw hgl eds
    refine hNX2 _ _ ?_
    clear hNX2
    have tE':=sx _ _ tE
    have tbx:=tbE.same sx
    have kLx:Kp M HL Hx:=kLE.trans (Kp.of sx)
    have sdx:=sdE.trans sx
    have rowx:∀ i d,i < ss.length->d < (TM.begun c ss).n->pS Hx (R i d) T i d (cG T.ds i d):=fun i d' hi hd'=>by
     obtain ⟨t,y1,y2⟩:=rowE i d' hi hd'
     exact ⟨t,sx _ _ y1,sx _ _ y2⟩
    obtain ⟨y,hy⟩:∃ y:Nat->V,∀ d',y d'=(T.dtold d).getD d' .non:=⟨_,fun _=>rfl⟩
    have hyt:∀ d',d' < (TM.begun c ss).n->(T.dtold d)[d']?=some (y d'):=fun d' hd'=>by rw [hy]; exact jL (by omega)
    refine fB fun NX3 hNX3=>?_
    walk_at "rd"
    refine vm (aw gl) (SqT.of egv) (fun b σ HF=>∃ (u7 u14:Option V),σ=[some (.ref a),some (.int c),some (.ref q),some (.int ss.length),some (.ref pdl),some (.ref x),some (.ref ls),u7,some (.ref la),some (.int j),some (.ref ad),some (.ref p5),some (.ref pt),some (.ref gv),u14]/\Kp RL Hx HF/\∀ i d',i < ss.length->d' < (TM.begun c ss).n->pS HF (R i d') T i d' (cG T.ds i d'++if i∈gl.take b then [y d'] else [])) ⟨_,_,rfl,Kp.of (am.refl _),fun i d' hi hd'=>?_⟩ ?_ ?_ ?_
    ·rw [List.take_zero,if_neg (fun z=>nomatch z),Nm]
     exact rowx i d' hi hd'
    ·rintro b σ HF hb ⟨v7,v14,rfl,kF,_⟩
     exact SqT.of (kF.tup egv)
    ·rintro b xx σ HF hxx ⟨v7,v14,rfl,kF,rF⟩
     obtain ⟨hd0,hh0,rfl⟩:=fE hxx
     have hk0:=hgl hd0 (LZ hh0)
     have ntk:hd0∉gl.take b:=fun z=>by
      obtain ⟨b',hb'⟩:=Py.mp z
      have lb:b' < b:=by
       have:=(LU.mp hb').1
       rw [NL] at this
       omega
      rw [PU lb] at hb'
      obtain ⟨g1,g2⟩:=LU.mp hb'
      obtain ⟨g3,g4⟩:=LU.mp hh0
      have:=Ov.mp pw b' b g1 g3 lb
      omega
     have sdF:am Hd HF:=kF.new sdx fun z hz=>newM z (subR z hz)
     have erdF:=sdF _ _ erd
     walk_at "rd"
     rw [lrd]
     refine gE (TM.begun c ss).n (by omega) (by omega) (by omega) (fun e σ HG=>∃ (u14:Option V),σ=[some (.ref a),some (.int c),some (.ref q),some (.int ss.length),some (.ref pdl),some (.ref x),some (.ref ls),some (.int hd0),some (.ref la),some (.int j),some (.ref ad),some (.ref p5),some (.ref pt),some (.ref gv),u14]/\Kp RL Hx HG/\∀ i d',i < ss.length->d' < (TM.begun c ss).n->pS HG (R i d') T i d' (cG T.ds i d'++if i∈gl.take b\/(i=hd0/\d' < e) then [y d'] else [])) ⟨_,rfl,kF,fun i d' hi hd'=>?_⟩ ?_ ?_
     ·have:=rF i d' hi hd'
      have e1:(if i∈gl.take b\/(i=hd0/\d' < 0) then [y d'] else [])=if i∈gl.take b then [y d'] else []:=by
       by_cases z:i∈gl.take b
       ·rw [if_pos (.inl z),if_pos z]
       ·rw [if_neg (fun w=>w.elim z fun w=>absurd w.2 (NT _)),if_neg z]
      rw [e1]
      exact this
     ·rintro e σ HG he ⟨w14,rfl,kG,rG⟩
      have snG:=snk (kLx.trans (kG.mono subR))
      walk_at "rd"
      refine bZ (SqL.of snG.el) (cx (v:=.ref (Hh hd0)) (by rw [LX,MS hk0]; rfl)) ?_
      walk_at "rd"
      refine bZ (SqL.of (snG.hh hd0 hk0)) (cx (v:=.ref (R hd0 e)) (by rw [LX,MS he]; rfl)) ?_
      walk_at "rd"
      obtain ⟨tt,z1,z2⟩:=rG hd0 e hk0 he
      rw [if_neg (fun w=>w.elim ntk fun w=>absurd w.2 (Nd _)),Nm] at z1
      refine ⟨.inl ⟨rfl,_,SqL.of z1⟩,?_⟩
      walk_at "rd"
      have tG:=kG.lst (fun z=>npt' (subR _ z)) tE'
      refine bZ (SqL.of tG) (cx (hyt e he)) ?_
      walk_at "rd"
      have:=uD T.ds hd0 e
      refine fR z1 (by rw [LY]; simp; omega) fun HK oK eK=>?_
      have inR:R hd0 e∈RL:=(hRL _).mpr ⟨hd0,e,hk0,he,rfl⟩
      walk_at "rd"
      refine ⟨_,rfl,kG.off z1 inR oK eK,fun i d' hi hd'=>?_⟩
      by_cases same:i=hd0/\d'=e
      ·obtain ⟨e1,e2⟩:=same
       rw [e1,e2,if_pos (.inr ⟨rfl,Nv _⟩)]
       exact ⟨tt,eK,(oK _ (fun z=>by rw [z,z1] at z2; cases z2)).trans z2⟩
      ·obtain ⟨t3,y1,y2⟩:=rG i d' hi hd'
       have nR:R i d'≠R hd0 e:=fun z=>same (sn.inj i d' hd0 e hi hd' hk0 he z)
       have e1:(if i∈gl.take b\/(i=hd0/\d' < e + 1) then [y d'] else [])=if i∈gl.take b\/(i=hd0/\d' < e) then [y d'] else []:=by
        by_cases z:i∈gl.take b\/(i=hd0/\d' < e)
        ·rw [if_pos z,if_pos (z.imp id fun w=>⟨w.1,by omega⟩)]
        ·rw [if_neg z,if_neg (fun w=>z (w.imp id fun w=>⟨w.1,by have:d'≠e:=fun q=>same ⟨w.1,q⟩; omega⟩))]
       rw [e1]
       exact ⟨t3,(oK _ nR).trans y1,(oK _ (fun z=>by rw [z,z1] at y2; cases y2)).trans y2⟩
     ·rintro σ HG ⟨w14,rfl,kG,rG⟩
      refine ⟨_,_,rfl,kG,fun i d' hi hd'=>?_⟩
      have:=rG i d' hi hd'
      have e1:(if i∈gl.take (b + 1) then [y d'] else [])=if i∈gl.take b\/(i=hd0/\d' < (TM.begun c ss).n) then [y d'] else []:=by
       rw [bH hh0]
       by_cases z:i∈gl.take b\/(i=hd0/\d' < (TM.begun c ss).n)
       ·rw [if_pos z,if_pos (Mt.mpr (z.imp id fun w=>LW.mpr w.1))]
       ·rw [if_neg z,if_neg (fun w=>z ((Mt.mp w).imp id fun w=>⟨LW.mp w,hd'⟩))]
      rw [e1]
      exact this
    ·rintro σ HF ⟨v7,v14,rfl,kF,rF⟩
     refine hNX3 _ _ ?_
     clear hNX3
     rw [bg,MF] at rF
     have okd:d.Ok T.c T.k:=by rw [hTc,hTk]; exact ok
     have tbF:Tb G M HF x pv pe (T.deed d):=tbx.kp kF subR npv npe
     have sdF:am Hd HF:=kF.new sdx fun z hz=>newM z (subR z hz)
     have kLF:=kLx.trans (kF.mono subR)
     have dk':(T.deed d).Dk:=Hg dk d
     have vk':=JA tJ.ok vk okd
     have hwd:=Cm T d
     have hnd:(T.deed d).n=(TM.begun c ss).n:=by unfold TM.n; rw [hwd,hTw]
     have hkd:(T.deed d).k=ss.length:=(KU T d).trans hTk
     have ldd:(T.deed d).ds.length=j + 1:=by rw [Jx,lds]
     have rF':∀ i d',i < ss.length->d' < (TM.begun c ss).n->pS HF (R i d') (T.deed d) i d' (cG (T.deed d).ds i d'):=fun i d' hi hd'=>by
      obtain ⟨t3,y1,y2⟩:=rF i d' hi hd'
      refine ⟨t3,?_,?_⟩
      ·rw [eds,iY,y1]
       by_cases z:i∈gl
       ·rw [if_pos z,if_pos (show i∈(gl,T.dtold d).1 from z),hy]
       ·rw [if_neg z,if_neg (show ¬ i∈(gl,T.dtold d).1 from z)]
      ·rw [y2]
       unfold kg
       rw [hwd]
     walk_at "rs"
     refine ⟨M,x,pv,pe,ls,la,T.deed d,as,rfl,tbF,dk',vk',by omega,Sn.seen (by rw [hkd,hnd]; exact snk kLF) (fun i d' hi hd'=>rF' i d' (by omega) (by omega)),kLF.lst nla eL',(fun d' hd'=>by rw [hnd]; exact has d' hd'),fun HZ sZ=>?_⟩
     walk_at "rs"
     refine ⟨_,_,_,_,_,_,_,T.deed d,rfl,sdF.trans sZ,kLF.trans (Kp.of sZ),tbF.same sZ,(rN T d).1.trans hTc,(rN T d).2.trans hTs,dk',vk',ldd,fun i d' hi hd'=>?_⟩
     obtain ⟨t3,y1,y2⟩:=rF' i d' hi hd'
     exact ⟨t3,sZ _ _ y1,sZ _ _ y2⟩
   clear hNX2
   walk_at "rs"
   cases d with
   | word g2 s2=>
    obtain ⟨a',bd,yd,e',z1,z2,z3⟩:=dm
    cases e'
    rw [ead] at z1
    cases z1
    cases at1
    refine bj (SqT.of (sE _ _ ead)) (i:=0) rfl ?_
    walk_at "rs"
    refine aW (by decide) ?_
    walk_at "rs"
    exact key bd g2 HE (am.refl _) (sE _ _ z2) ok.1 ok.2.1 rfl
   | «show» i2 hh2 ns2=>
    obtain ⟨a',ld,e',z1,z2,z3⟩:=dm
    cases e'
    rw [ead] at z1
    cases z1
    cases at1
    obtain ⟨o1,o2,o3,o4,o5⟩:=ok
    refine bj (SqT.of (sE _ _ ead)) (i:=0) rfl ?_
    walk_at "rs"
    refine d3 rfl ?_
    walk_at "rd"
    refine bj (SqT.of (sE _ _ ead)) (i:=1) rfl ?_
    walk_at "rd"
    refine ⟨by simp [LY],fun tq HG htq sG eG=>?_⟩
    walk_at "rd"
    refine bj (SqT.of (sG _ _ (sE _ _ ead))) (i:=2) rfl ?_
    walk_at "rd"
    refine bj (SqT.of (sG _ _ (sE _ _ ead))) (i:=3) rfl ?_
    walk_at "rd"
    have sdG:=sdE.trans sG
    refine ⟨pdl,ld,(TM.begun c ss).ws,hh2,ns2,rfl,Dd'.same' sdG,nB,sG _ _ (sE _ _ z2),by omega,(fun n hn w hw=>by rw [okB.cards w hw]; exact o5 n hn),fun pz HZ hpz sZ eZ=>?_⟩
    walk_at "rd"
    have eZ':HZ pz=some (.lst (T.dtold (.show i2 hh2 ns2))):=by rw [eZ]; show _=some (HO.lst ((cO T.ws hh2 ns2).map iaR)); rw [hTw]
    refine xj 1 (by decide) (vI (SqL.of (sZ _ _ (sG _ _ tE))) (SqL.of eZ') (BK _ _)) ?_
    walk_at "rd"
    exact key tq [i2] HZ (sG.trans sZ) (sZ _ _ eG) (Qb _ _) (fun h hh=>by rw [LW.mp hh]; exact o1) rfl
  ·rintro σ HJ ⟨u7,u9,u10,u11,u12,u13,u14,T,rfl,sJ,_⟩
   refine hNX _ _ ?_
   walk_at "rd"
   exact g _
end
section
open PySem.Spec
theorem DA.stay {a:Addr} {kvs:List (IA×V)} {h1 h2:Heap} (d:DA a kvs h1) (k:∀ o,h1.get? a=some o->h2.get? a=some o):DA a kvs h2:=by
 obtain ⟨z,y,P,w,vs,r,o,es,ep,e,c⟩:=d
 exact ⟨z,y,P,w,vs,r,o,es,ep,k _ e,c⟩
theorem DB.stay {a:Addr} {zs:List (List IK×Addr×V)} {h1 h2:Heap} (d:DB a zs h1) (k:∀ o,h1.get? a=some o->h2.get? a=some o):DB a zs h2:=by
 obtain ⟨z,y,xs,r,o,es,ep,e,c⟩:=d
 exact ⟨z,y,xs,r,o,es,ep,k _ e,c⟩
theorem DA.ok {P:Program} {w:World} {H:Hp} {h:Heap} {a:Addr} {kvs:List (IA×V)} (d:DA a kvs h):bN P w H h a (dA a kvs):=by
 obtain ⟨_,_,_,_,_,_,o,_,_,e,_⟩:=id d
 exact ⟨d,⟨o,e⟩,fun _ _ d k=>d.stay k⟩
theorem DB.ok {P:Program} {w:World} {H:Hp} {h:Heap} {a:Addr} {zs:List (List IK×Addr×V)} (d:DB a zs h):bN P w H h a (dB a zs):=by
 obtain ⟨_,_,_,_,o,_,_,e,_⟩:=id d
 exact ⟨d,⟨o,e⟩,fun _ _ d k=>d.stay k⟩
theorem ZX.length {zs:List (List IK×Addr×V)} {xs:List (List IK×Addr×Value)} (r:ZX zs xs):zs.length=xs.length:=M5 r
theorem ZX.val {zs:List (List IK×Addr×V)} {xs:List (List IK×Addr×Value)} (r:ZX zs xs) (k:List IK):ic (atZ zs k) ((atKey xs k).map (·.2)):=by
 unfold ZX at r
 induction r with
 | nil=>exact OF
 | @cons p q ps qs h t ih=>
  obtain ⟨h1,_,h2⟩:=h
  by_cases e:p.1=k
  ·have e':q.1=k:=h1.symm.trans e
   have b:atKey (q :: qs) k=some q.2:=by simp [atKey,MH,e']
   have c:atZ (p :: ps) k=some p.2.2:=by simp [atZ,MH,e]
   rw [c,b]; exact h2
  ·have e':¬ q.1=k:=fun z=>e (h1.trans z)
   have b:atKey (q :: qs) k=atKey qs k:=by simp [atKey,MH,e']
   have c:atZ (p :: ps) k=atZ ps k:=by simp [atZ,MH,e]
   rw [c,b]; exact ih
noncomputable def kW (zs:List (List IK×Addr×V)) (k:List IK) (b:Addr) (v:V):List (List IK×Addr×V):=
 if (atZ zs k).isSome then zs.map (fun x=>if x.1=k then (x.1,x.2.1,v) else x) else zs++[(k,b,v)]
theorem ZX.repl {zs:List (List IK×Addr×V)} {xs:List (List IK×Addr×Value)} (r:ZX zs xs) (k:List IK) {v:V} {u:Value} (rv:aH v u):ZX (zs.map fun x=>if x.1=k then (x.1,x.2.1,v) else x) (xs.map (putAt k u)):=by
 unfold ZX at r ⊢
 induction r with
 | nil=>exact .nil
 | @cons p q ps qs h t ih=>
  rw [Mo,Mo]
  refine .cons ?_ ih
  obtain ⟨h1,h2,h3⟩:=h
  unfold putAt
  by_cases e:p.1=k
  ·rw [if_pos e,if_pos (h1.symm.trans e)]; exact ⟨h1,h2,rv⟩
  ·rw [if_neg e,if_neg (fun z=>e (h1.trans z))]; exact ⟨h1,h2,h3⟩
theorem ZX.put {zs:List (List IK×Addr×V)} {xs:List (List IK×Addr×Value)} (r:ZX zs xs) (k:List IK) {b:Addr} {v:V} {u:Value} (rv:aH v u):ZX (kW zs k b v) (storedH xs k b u):=by
 have e:(atZ zs k).isSome=(atKey xs k).isSome:=by
  rw [(r.val k).isSome_eq,T3]
 unfold kW storedH
 rw [e]
 by_cases q:(atKey xs k).isSome=true
 ·rw [if_pos q,if_pos q]; exact r.repl k rv
 ·rw [if_neg q,if_neg q]; exact Paired.snoc r ⟨rfl,rfl,rv⟩
theorem JD (zs:List (List IK×Addr×V)) (k j:List IK) (b:Addr) (v:V):atZ (kW zs k b v) j=if j=k then some v else atZ zs j:=by
 have hm:∀ ys:List (List IK×Addr×V),atZ (ys.map fun x=>if x.1=k then (x.1,x.2.1,v) else x) j=(atZ ys j).map fun y=>if j=k then v else y:=by
  intro ys
  induction ys with
  | nil=>rfl
  | cons p r ih=>
   rw [Mo]
   unfold atZ at ih ⊢
   by_cases h:p.1=k
   ·rw [if_pos h]
    by_cases e:p.1=j
    ·simp [MH,e,e.symm.trans h]
    ·simp [MH,e]; simpa using ih
   ·rw [if_neg h]
    by_cases e:p.1=j
    ·have:¬ j=k:=fun z=>h (e.trans z)
     simp [MH,e,this]
    ·simp [MH,e]; simpa using ih
 have ha:∀ ys:List (List IK×Addr×V),atZ ys k=none->atZ (ys++[(k,b,v)]) j=if j=k then some v else atZ ys j:=by
  intro ys
  induction ys with
  | nil=>
   intro _
   by_cases e:k=j
   ·simp [atZ,MH,e]
   ·have:¬ j=k:=fun z=>e z.symm
    simp [atZ,MH,e,this]
  | cons p r ih=>
   intro hn
   have hk:¬ p.1=k:=fun z=>by simp [atZ,MH,z] at hn
   have hn':atZ r k=none:=by simpa [atZ,MH,hk] using hn
   have ih':=ih hn'
   by_cases e:p.1=j
   ·have:¬ j=k:=fun z=>hk (e.trans z)
    simp [atZ,MH,e,this]
   ·have c:atZ (p :: (r++[(k,b,v)])) j=atZ (r++[(k,b,v)]) j:=by simp [atZ,MH,e]
    have c':atZ (p :: r) j=atZ r j:=by simp [atZ,MH,e]
    rw [Uv,c,c',ih']
 unfold kW
 cases q:atZ zs k with
 | some y=>
  rw [if_pos (show (some y).isSome=true from rfl),hm]
  by_cases e:j=k
  ·subst e; rw [q,if_pos rfl]; simp
  ·rw [if_neg e]; cases atZ zs j <;> simp [e]
 | none=>rw [if_neg (show ¬ (none:Option V).isSome=true by decide)]; exact ha zs q
theorem nO (zs:List (List IK×Addr×V)) (k:List IK) (b:Addr) (v:V):(kW zs k b v).length<=zs.length + 1:=by
 unfold kW
 split
 ·rw [LR]; omega
 ·rw [Mj,My,UT]; omega
theorem Hi {zs:List (List IK×Addr×V)} {k:List IK} {b:Addr} {v:V} {z:List IK×Addr×V} (h:z∈kW zs k b v):(∃ z0∈zs,z.1=z0.1/\z.2.1=z0.2.1)\/(z.1=k/\z.2.1=b):=by
 unfold kW at h
 split at h
 ·obtain ⟨z0,h0,rfl⟩:=Na.mp h
  refine .inl ⟨z0,h0,?_⟩
  split <;> exact ⟨rfl,rfl⟩
 ·rcases Mt.mp h with h | h
  ·exact .inl ⟨z,h,rfl,rfl⟩
  ·rw [LW.mp h]; exact .inr ⟨rfl,rfl⟩
section
variable {X:Cx} {pins:List (Addr×Obj)} {σ:St} {H:Hp} {s:Shared} {a:Addr} {y v:V} {u r:Value} {A:Around} {E:Value->Shared->Prop} {srt:Bool} {f:MK->Option V} {n:Nat} {k:MK}
theorem sP {k:IA} (h:iaV y=some k) (ry:aH y u):pE k u=true:=by
 cases y with
 | non=>cases h; cases ry; rfl
 | bl b=>cases h; cases ry; simp [pE]
 | int i=>cases h; obtain ⟨t,rfl⟩:=ry; simp [pE]
 | _=>cases h
theorem Cn {P:Program} {w:World}:∀ {ks:List IA} {ys:List V} {us:List Value},ys.map iaV=ks.map some->aG ys us->ItemsAre (cW P w) ks us
 | [],[],_,_,.nil=>.nil
 | k :: ks,y :: ys,_,e,.cons h t=>by
  rw [Mo,Mo] at e
  injection e with e1 e2
  exact .cons (sP e1 h) (Cn e2 t)
 | [],_ :: _,_,e,_=>by simp at e
 | _ :: _,[],_,e,_=>by simp at e
theorem FN (ok:HOk X.prog X.w H s.heap) {c:Addr} {xs:List V} (e:H c=some (.tup xs)):∃ its,aG xs its/\∃ o n,s.heap.get? c=some o/\o.cls=.type "tuple"/\o.data=.seq its.toArray n:=by
 obtain ⟨_,its,r,o,h1,h2,⟨n,h3⟩,_⟩:=(show bN X.prog X.w H s.heap c (.tup xs) from ok c _ e)
 exact ⟨its,r,o,n,h1,h2,h3⟩
theorem JE (ok:HOk X.prog X.w H s.heap) {k:IK} (h:ln H y k) (ry:aH y u):dh X.prog X.w s.heap k u:=by
 cases k with
 | inl a=>exact sP h ry
 | inr as=>
  obtain ⟨c,ys,rfl,e,q⟩:=h
  cases ry
  obtain ⟨its,rv,o,n,h1,h2,h3⟩:=FN ok e
  exact ⟨c,rfl,o,its.toArray,n,h1,h2,h3,by simpa using Cn q rv⟩
theorem Hj (ok:HOk X.prog X.w H s.heap) {xs:List V} {ks:List IK} {us:List Value} (p:Paired (ln H) xs ks):aG xs us->Paired (dh X.prog X.w s.heap) ks us:=by
 induction p generalizing us with
 | nil=>intro q; cases q; exact .nil
 | cons h t ih=>intro q; cases q with
  | cons r q=>exact .cons (JE ok h r) (ih q)
theorem vY (ok:HOk X.prog X.w H s.heap) {c:Addr} {ks:List IK} (h:b9 H (.ref c) (.inr ks)):ie X.prog X.w s.heap ks c:=by
 obtain ⟨c',xs,e,ec,q⟩:=h
 cases e
 obtain ⟨its,rv,o,n,h1,h2,h3⟩:=FN ok ec
 exact ⟨o,its.toArray,n,h1,h2,h3,by simpa using Hj ok q rv⟩
theorem sQ (h:b9 H y k) (hs:fS k=true):∃ c ks,y=.ref c/\k=.inr ks:=by
 cases k with
 | inl _=>cases hs
 | inr ks=>obtain ⟨c,xs,e,_⟩:=h; exact ⟨c,ks,e,rfl⟩
theorem FO {P P':Program} {w w':World} {es:List To} {vs:List (IA×Value)} (h:Pairs (cW P w) es vs):Pairs (cW P' w') es vs:=by
 induction h with
 | nil=>exact .nil
 | cons a b _ ih=>exact .cons a b ih
theorem vZ {kvs:List (IA×V)} (ok:HOk X.prog X.w H s.heap) (e:H a=some (dA a kvs)):kvs.length<=Mb/\(a == N1)=false/\∃ vs,KV kvs vs/\s.heap.DictOf (cW X.prog X.w) a vs:=by
 obtain ⟨⟨z,y,P,w,vs,r,o,es,ep,h1,h2,h3,h4,h5,h6⟩,_⟩:=(show bN X.prog X.w H s.heap a (dA a kvs) from ok a _ e)
 exact ⟨z,y,vs,r,o,es,ep,h1,h2,h3,h4,FO h5,h6⟩
theorem v2 {zs:List (List IK×Addr×V)} (ok:HOk X.prog X.w H s.heap) (e:H a=some (dB a zs)) (hk:∀ z∈zs,b9 H (.ref z.2.1) (.inr z.1)):zs.length<=Mb/\(a == N1)=false/\∃ xs,ZX zs xs/\s.heap.DictOfH (lW X.prog X.w) a xs:=by
 obtain ⟨⟨z,y,xs,r,o,es,ep,h1,h2,h3,h4,h5⟩,_⟩:=(show bN X.prog X.w H s.heap a (dB a zs) from ok a _ e)
 refine ⟨z,y,xs,r,o,es,ep,h1,h2,h3,h4,?_,h5⟩
 have all:∀ {l:List (List IK×Addr×V)} {m:List (List IK×Addr×Value)},ZX l m->(∀ z∈l,b9 H (.ref z.2.1) (.inr z.1))->∀ x∈m,(lW X.prog X.w).is s.heap x.1 x.2.1:=by
  intro l m q
  unfold ZX at q
  induction q with
  | nil=>intro _ x hx; exact nomatch hx
  | @cons p q ps qs hq t ih=>
   intro hk x hx
   rcases L7.mp hx with e | hx
   ·subst e
    have:=hk p (Mc ..)
    rw [hq.1,hq.2.1] at this
    exact vY ok this
   ·exact ih (fun z hz=>hk z (Mh _ hz)) x hx
 exact all r hk
theorem JF {Q:Value->Shared->Prop} (hu:A.units + 2 < cLine) (I:Inv X pins σ H s) (d:Dx H a srt f n) (hk:b9 H y k) (hs:fS k=srt) (ry:aH y u) (h:∀ s',Inv X pins σ H s'->Q (.bool (f k).isNone) s'):
  wpAny (model X.prog X.w) A (NZ .NotIn u (.ref a)) Q E s:=by
 rcases d with ⟨rfl,kvs,e,hf,_⟩ | ⟨rfl,zs,e,hz,hf,_⟩
 ·cases k with
  | inr _=>cases hs
  | inl k=>
   obtain ⟨z,hd,vs,rel,dd⟩:=vZ I.hok e
   refine wpAny_notIn_of (knd:=cW X.prog X.w) (sP hk ry) hd dd.mapOf ?_
   rw [<-(rel.val k).isSome_eq,hf k]
   rw [show (!(f (.inl k)).isSome)=(f (.inl k)).isNone by cases f (.inl k) <;> rfl]
   exact h _ (I.tok _)
 ·obtain ⟨c,ks,rfl,rfl⟩:=sQ hk hs
  cases ry
  obtain ⟨z,hd,xs,rel,dd⟩:=v2 I.hok e hz
  refine wpAny_notIn_heap (knd:=lW X.prog X.w) hu (vY I.hok hk) hd dd ?_
  have q:=(rel.val ks).isSome_eq
  rw [T3,hf ks] at q
  rw [<-q,show (!(f (.inr ks)).isSome)=(f (.inr ks)).isNone by cases f (.inr ks) <;> rfl]
  exact h _ (I.tok _)
theorem Lv {Q:Value->Shared->Prop} (hu:A.units + 2 < cLine) (I:Inv X pins σ H s) (d:Dx H a srt f n) (hk:b9 H y k) (hs:fS k=srt) (ry:aH y u) (ev:f k=some v) (h:∀ w' s',Inv X pins σ H s'->aH v w'->Q w' s'):
  wpAny (model X.prog X.w) A (getItem (.ref a) u) Q E s:=by
 rcases d with ⟨rfl,kvs,e,hf,_⟩ | ⟨rfl,zs,e,hz,hf,_⟩
 ·cases k with
  | inr _=>cases hs
  | inl k=>
   obtain ⟨z,hd,vs,rel,dd⟩:=vZ I.hok e
   obtain ⟨w',hw,rw'⟩:=ic.some_of (v:=v) (o:=valueAt vs k) (by rw [<-ev,<-hf k]; exact rel.val k)
   exact Uy (knd:=cW X.prog X.w) (sP hk ry) dd.mapOf hw (h w' _ (I.tok _) rw')
 ·obtain ⟨c,ks,rfl,rfl⟩:=sQ hk hs
  cases ry
  obtain ⟨z,hd,xs,rel,dd⟩:=v2 I.hok e hz
  obtain ⟨w',hw,rw'⟩:=ic.some_of (v:=v) (o:=(atKey xs ks).map (·.2)) (by rw [<-ev,<-hf ks]; exact rel.val ks)
  obtain ⟨p,hp,hp2⟩:=Sw.mp hw
  refine wpAny_getItem_heap (knd:=lW X.prog X.w) hu (vY I.hok hk) dd hp ?_
  rw [hp2]
  exact h w' _ (I.tok _) rw'
theorem mz {o:HO}:Off a H (upd H a o):=fun b hb=>aM hb
theorem FP {h':Heap} {t':Nat} {kvs kvs':List (IA×V)} {vs':List (IA×Value)} (I:Inv X pins σ H s) (e:H a=some (dA a kvs)) (hs:Mm a s.heap h') (z:kvs'.length<=Mb) (hd:(a == N1)=false) (rel:KV kvs' vs') (dd:h'.DictOf (cW X.prog X.w) a vs'):
  Inv X pins σ (upd H a (dA a kvs')) { s with heap:=h',toks:=t' }:=by
 have he:∃ q,h'.get? a=some q:=let ⟨q,_,_,hq,_⟩:=dd; ⟨q,hq⟩
 exact Cd I (by rw [e]; exact OF) hs he (DA.ok ⟨z,hd,X.prog,X.w,vs',rel,dd⟩)
theorem FQ {h':Heap} {t':Nat} {zs zs':List (List IK×Addr×V)} {xs':List (List IK×Addr×Value)} (I:Inv X pins σ H s) (e:H a=some (dB a zs)) (hs:Mm a s.heap h') (z:zs'.length<=Mb) (hd:(a == N1)=false) (rel:ZX zs' xs') (dd:h'.DictOfH (lW X.prog X.w) a xs'):
  Inv X pins σ (upd H a (dB a zs')) { s with heap:=h',toks:=t' }:=by
 obtain ⟨o,es,ep,h1,h2,h3,h4,_,h5⟩:=dd
 exact Cd I (by rw [e]; exact OF) hs ⟨o,h1⟩ (DB.ok ⟨z,hd,xs',rel,o,es,ep,h1,h2,h3,h4,h5⟩)
theorem Co {kvs:List (IA×V)} {k:IA} (e:H a=some (dA a kvs)) (hf:∀ k,gq kvs k=f (.inl k)) (hn:kvs.length<=n):Dx (upd H a (dA a (pD kvs k v))) a false (jX f (.inl k) v) (n + 1):=by
 refine .inl ⟨rfl,_,az,fun j=>?_,?_⟩
 ·rw [GJ]
  unfold jX
  by_cases q:j=k
  ·rw [if_pos q,if_pos (by rw [q])]
  ·rw [if_neg q,if_neg (fun z=>q (Sl z)),hf j]
 ·have:=nH kvs k v; omega
theorem Cp {zs:List (List IK×Addr×V)} {k:List IK} {c:Addr} (e:H a=some (dB a zs)) (hz:∀ z∈zs,b9 H (.ref z.2.1) (.inr z.1)) (hk:b9 H (.ref c) (.inr k)) (hf:∀ k,atZ zs k=f (.inr k)) (hn:zs.length<=n):
  Dx (upd H a (dB a (kW zs k c v))) a true (jX f (.inr k) v) (n + 1):=by
 have kp:dR H (upd H a (dB a (kW zs k c v))):=mz.keepD fun xs q=>by rw [e] at q; cases q
 refine .inr ⟨rfl,_,az,fun z h=>?_,fun j=>?_,?_⟩
 ·rcases Hi h with ⟨z0,h0,e1,e2⟩ | ⟨e1,e2⟩
  ·rw [e1,e2]; exact (hz z0 h0).keep kp
  ·rw [e1,e2]; exact hk.keep kp
 ·rw [JD]
  unfold jX
  by_cases q:j=k
  ·rw [if_pos q,if_pos (by rw [q])]
  ·rw [if_neg q,if_neg (fun z=>q (Ow z)),hf j]
 ·have:=nO zs k c v; omega
theorem Lw {Q:Unit->Shared->Prop} (hu:A.units + 2 < cLine) (I:Inv X pins σ H s) (d:Dx H a srt f n) (hk:b9 H y k) (hs:fS k=srt) (hn:n < Mb) (ry:aH y u) (rv:aH v r)
  (h:∀ H' s',Off a H H'->Dx H' a srt (jX f k v) (n + 1)->Inv X pins σ H' s'->Q () s'):wpAny (model X.prog X.w) A (setItem (.ref a) u r) Q E s:=by
 rcases d with ⟨rfl,kvs,e,hf,hl⟩ | ⟨rfl,zs,e,hz,hf,hl⟩
 ·cases k with
  | inr _=>cases hs
  | inl k=>
   obtain ⟨z,hd,vs,rel,dd⟩:=vZ I.hok e
   have hvz:vs.length<=Mb:=by rw [<-rel.length]; exact z
   have hl':(pD kvs k v).length<=Mb:=by have:=nH kvs k v; omega
   refine wpAny_setItem_pairs (knd:=cW X.prog X.w) (hsz:=hvz) (sP hk ry) dd fun h' dd' hs'=>h _ _ mz (Co e hf hl) ?_
   exact FP I e hs' hl' hd (rel.put k rv) dd'
 ·obtain ⟨c,ks,rfl,rfl⟩:=sQ hk hs
  cases ry
  obtain ⟨z,hd,xs,rel,dd⟩:=v2 I.hok e hz
  have hvz:xs.length<=Mb:=by rw [<-rel.length]; exact z
  have hl':(kW zs ks c v).length<=Mb:=by have:=nO zs ks c v; omega
  refine wpAny_setItem_heap (knd:=lW X.prog X.w) (hsz:=hvz) hu (vY I.hok hk) dd fun h' dd' hs'=>h _ _ mz (Cp (c:=c) e hz hk hf hl) ?_
  exact FQ I e hs' hl' hd (rel.put ks rv) dd'
theorem v3 {d a:Addr} {knd:HeapKind X.prog X.w (List IK)} {xs:List (List IK×Addr×Value)} {k:List IK} {v:Value} {Q:Value->Shared->Prop} (hu:knd.room A) (hkey:knd.is s.heap k a) (hm:s.heap.DictOfH knd d xs)
  (h1:∀ p,atKey xs k=some p->Q p.2 { s with toks:=s.toks + knd.draws k })
  (h2:atKey xs k=none->∀ h',h'.DictOfH knd d (storedH xs k a v)->Mm d s.heap h'->Q v { s with heap:=h',toks:=s.toks + knd.draws k })
  (hsz:xs.length<=Mb):wpAny (model X.prog X.w) A (QX d (.ref a) v) Q E s:=by
 obtain ⟨o,es,ep,ho,hc,hd,he,his,hn⟩:=hm
 unfold QX
 try with_reducible refine Nf ?_
 refine LO (knd.pyHash hu hkey ?_)
 refine LO (wpAny_dictFind_heap (s:={ s with toks:=s.toks + knd.draws k }) hu hkey ho hd he his hn ?_ ?_)
 ·intro hno
  have hnot:k∉xs.map (·.1):=not_mem_keys_of_get hno
  refine LO (Of (LO (wpAny_updateDictKeys (hz:=by have e:=size_of_entries he; omega) (s:={ s with toks:=s.toks + knd.draws k }) ho hd (LQ (h2 (Qi hno) _ ⟨_,_,ep + 1,MP _ ho (Obj.isFreed_of_dict (SX hd _)),
   hc.mapDictKeys _,SX hd _,?_,?_,?_⟩ (M6 ..))))))
  ·rw [Uk (Qi hno)]
   simp [he,entryOfKey]
  ·rw [Uk (Qi hno)]
   intro x hx
   rcases Mt.mp hx with hx | hx
   ·exact knd.keeps (his x hx) ho hd (M6 ..)
   ·simp only [LW] at hx
    subst hx
    exact knd.keeps hkey ho hd (M6 ..)
  ·rw [Uk (Qi hno)]
   rw [Ml,RA]
   refine ⟨hn,by simp,?_⟩
   intro x hx y hy
   simp only [Mo,Pu,LW] at hy
   subst hy
   exact fun e=>hnot (e ▸ hx)
 ·intro j p hj
  refine LO (wpAny_dictEntries (s:={ s with toks:=s.toks + knd.draws k }) ho hd ?_)
  rw [entry_at he j,hj]
  exact LO (Of (LQ (h1 p (atKey_of_get hn hj))))
theorem m6 {d:Addr} {key dflt:Value} {Q:Fin->Shared->Prop} (hT:s.TypeIs (.ref d) "dict") (hd:(d == N1)=false) (h:wpAny (model X.prog X.w) A (QX d key dflt) (fun v s'=>Q (.done (.ret v)) s') E s):
  wpAny (model X.prog X.w) A (Builtin.«dict.setdefault» ⟨[.ref d,key,dflt],[]⟩) Q E s:=by
 unfold Builtin.«dict.setdefault»
 refine LO ?_
 unfold Builtin.Dict.keyAndDefault
 refine LO (wpAny_notOrdered_dict hT ?_)
 show wpAny _ _ (pure (d,key,some dflt)) _ _ s
 refine LQ ?_
 show wpAny _ _ (if (d == N1)=true then _ else (QX d key dflt >>= _)) _ _ s
 rw [if_neg (by rw [hd]; exact Ma)]
 exact LO (NO h (fun v s' q=>LQ q) fun _ _ x=>x)
theorem AT (I:Inv X pins σ H s) (d:Dx H a srt f n):s.TypeIs (.ref a) "dict"/\∀ b,MA a=.ref b->∃ ob,s.heap.get? b=some ob/\ob.dict=none:=by
 rcases d with ⟨_,kvs,e,_,_⟩ | ⟨_,zs,e,hz,_,_⟩
 ·obtain ⟨_,_,vs,_,dd⟩:=vZ I.hok e
  refine ⟨dd.typeIs,fun b q=>?_⟩
  cases q
  obtain ⟨ob,_,_,h1,h2,_⟩:=dd
  exact ⟨ob,h1,h2.2.1⟩
 ·obtain ⟨_,_,xs,_,dd⟩:=v2 I.hok e hz
  refine ⟨dd.typeIs,fun b q=>?_⟩
  cases q
  obtain ⟨ob,_,_,h1,h2,_⟩:=dd
  exact ⟨ob,h1,h2.2.1⟩
theorem KZ {Q:Value->Shared->Prop} (hu:A.units + 2 < cLine) (I:Inv X pins σ H s) (d:Dx H a srt f n) (hk:b9 H y k) (hs:fS k=srt) (hn:n < Mb) (ry:aH y u) (rv:aH v r)
  (h1:∀ x w' s',f k=some x->aH x w'->Inv X pins σ H s'->Q w' s')
  (h2:f k=none->∀ H' s',Off a H H'->Dx H' a srt (jX f k v) (n + 1)->Inv X pins σ H' s'->Q r s'):wpAny (model X.prog X.w) A (call (.builtin "dict.setdefault") [.ref a,u,r]) Q E s:=by
 have hT:=(AT I d).1
 refine ML QY hT PySem.F.entry_dict_setdefault ?_ (PySem.F.args_dict_setdefault_3 _ _ _)
 rcases d with ⟨rfl,kvs,e,hf,hl⟩ | ⟨rfl,zs,e,hz,hf,hl⟩
 ·cases k with
  | inr _=>cases hs
  | inl k=>
   obtain ⟨z,hd,vs,rel,dd⟩:=vZ I.hok e
   have hvz:vs.length<=Mb:=by rw [<-rel.length]; exact z
   have hl':(pD kvs k v).length<=Mb:=by have:=nH kvs k v; omega
   refine m6 hT hd (kt_dictSetDefault_pairs (knd:=cW X.prog X.w) (hsz:=hvz) (sP hk ry) dd (fun w' hw=>?_) fun hno h' dd' hs'=>?_)
   ·have q:=rel.val k
    rw [hf k,hw] at q
    cases ef:f (.inl k) with
    | none=>rw [ef] at q; exact (show False from q).elim
    | some x=>rw [ef] at q; exact ⟨w',rfl,h1 x w' _ ef q (I.tok _)⟩
   ·have q:=rel.val k
    rw [hf k,hno] at q
    have ef:f (.inl k)=none:=by
     cases ef:f (.inl k) with
     | none=>rfl
     | some x=>rw [ef] at q; exact (show False from q).elim
    exact ⟨r,rfl,h2 ef _ _ mz (Co e hf hl) (FP I e hs' hl' hd (rel.put k rv) dd')⟩
 ·obtain ⟨c,ks,rfl,rfl⟩:=sQ hk hs
  cases ry
  obtain ⟨z,hd,xs,rel,dd⟩:=v2 I.hok e hz
  have hvz:xs.length<=Mb:=by rw [<-rel.length]; exact z
  have hl':(kW zs ks c v).length<=Mb:=by have:=nO zs ks c v; omega
  refine m6 hT hd (v3 (X:=X) (knd:=lW X.prog X.w) hu (vY I.hok hk) dd (fun p hp=>?_) (fun hno h' dd' hs'=>?_) hvz)
  ·have q:=rel.val ks
   rw [hf ks,hp] at q
   cases ef:f (.inr ks) with
   | none=>rw [ef] at q; exact (show False from q).elim
   | some x=>rw [ef] at q; exact ⟨p.2,rfl,h1 x p.2 _ ef q (I.tok _)⟩
  ·have q:=rel.val ks
   rw [hf ks,hno] at q
   have ef:f (.inr ks)=none:=by
    cases ef:f (.inr ks) with
    | none=>rfl
    | some x=>rw [ef] at q; exact (show False from q).elim
   exact ⟨r,rfl,h2 ef _ _ mz (Cp (c:=c) e hz hk hf hl) (FQ I e hs' hl' hd (rel.put ks rv) dd')⟩
end
section
variable {X:Cx}
theorem FR (hu:X.A.units + 64 < cLine):OpR X (NZ .NotIn) (GO true):=by
 intro pins s σ H x y v u Q I rx ry h
 obtain ⟨a,srt,f,n,k,rfl,d,hk,hs,q⟩:=h
 cases ry
 exact JF (by omega) I d hk hs rx fun s' I'=>⟨.bl _,H,I',rfl,q⟩
theorem Cq {o i:Expr} {pos:Pos} {td ty:TE} (hu:X.A.units + 64 < cLine) (ho:PE X o td) (hi:PE X i ty) (hs:GK i):PE X (.Subscript o i pos) (tOp zr td ty):=by
 intro pins s σ H Q I h
 refine Ce RE.lookup hs (thn (ho pins s σ H _ I h) fun u s1 ⟨x,H1,I1,rx,q1⟩=>thn (hi pins s1 σ H1 _ I1 q1) fun iv s2 ⟨y,H2,I2,ry,a,srt,f,n,k,v,ex,d,hk,hs',ev,q2⟩=>?_)
 subst ex
 obtain rfl:u=MA a:=rx
 exact ⟨(AT I2 d).1,Lv (by omega) I2 d hk hs' ry ev fun w' s3 I3 rw'=>⟨v,H2,I3,rw',q2⟩⟩
theorem Lx (hu:X.A.units + 64 < cLine):CC X C7:=by
 intro pins s σ H o i v ov iv u Q I ro ri rv h
 obtain ⟨a,srt,f,n,k,rfl,d,hk,hs,hn,q⟩:=h
 cases ro
 exact Lw (by omega) I d hk hs hn ri rv fun H' s' o' d' I'=>⟨H',I',q H' o' d'⟩
theorem AU {pos:Pos}:PE X (.Dict [] [] pos) vt:=fun pins s σ H Q I h=>by
 obtain ⟨srt,h⟩:=h
 have hd:(s.heap.objs.size == N1)=false:=beq_eq_false_iff_ne.mpr (Np (MC I.big))
 have hp:=I.hok.fresh (LV s.heap.objs.size)
 cases srt with
 | false=>
  refine Uz ⟨.ref s.heap.objs.size,_,I.laid (a:=s.heap.objs.size) (o:=dA s.heap.objs.size []) (t':=s.toks) (fun _ _ q=>LP _ q) (LV _) (DA.ok ⟨M7 _,hd,X.prog,X.w,[],.nil,Heap.DictOf.new s.heap⟩),rfl,?_⟩
  exact h _ _ hp (aR hp _) (.inl ⟨rfl,[],az,fun _=>rfl,LV _⟩)
 | true=>
  refine Uz ⟨.ref s.heap.objs.size,_,I.laid (a:=s.heap.objs.size) (o:=dB s.heap.objs.size []) (t':=s.toks) (fun _ _ q=>LP _ q) (LV _) (DB.ok ⟨M7 _,hd,[],.nil,_,#[],0,L6 _ rfl,⟨rfl,rfl,rfl⟩,rfl,rfl,QW⟩),rfl,?_⟩
  exact h _ _ hp (aR hp _) (.inr ⟨rfl,[],az,fun z hz=>(nomatch hz),fun _=>rfl,LV _⟩)
noncomputable def MtX (X:Cx) (id:String) (r:V->List V->Hp->VK->Prop):Prop:=
 ∀ (pins:List (Addr×Obj)) (s:Shared) (σ:St) (H:Hp) (x:V) (ys:List V) (u:Value) (us:List Value) (Q:VK),Inv X pins σ H s->aH x u->aG ys us->r x ys H Q->
  wpAny (model X.prog X.w) X.A (call (.builtin id) (u :: us)) (EP X pins σ Q) X.xe s
theorem xt (hu:X.A.units + 64 < cLine):MtX X "dict.setdefault" Ac:=by
 intro pins s σ H x ys u us Q I rx rys h
 obtain ⟨a,srt,f,n,k,y,v,rfl,rfl,d,hk,hs,hn,q1,q2⟩:=h
 cases rx
 cases rys with
 | cons r1 t1=>cases t1 with
  | cons r2 t2=>
   cases t2
   exact KZ (by omega) I d hk hs hn r1 r2 (fun x w' s' ef rw' I'=>⟨x,H,I',rw',q1 x ef⟩) fun ef H' s' o' d' I'=>⟨v,H',I',r2,q2 ef H' o' d'⟩
theorem Ly {o e:Expr} {es:List Expr} {name:Str} {id:String} {r:V->List V->Hp->VK->Prop} {to:TE} {t:TA} {apos cpos:Pos} (slot:Slot "dict" name id) (hty:typeOf (.builtin id)=pure (.type "method_descriptor")) (hm:MtX X id r) (ho:PE X o to) (ha:PA X (e :: es) t)
  (hbase:O8 o name X.env (eval o X.env)=eval o X.env:=by rfl)
  (hfew:((backTo cpos (Mp (e :: es) X.env)).all (fun x=>!x.1) && (Qp cpos (Ph [] X.env)).all (fun x=>x.1.isSome)
   && decide ((e :: es).length + ([]:List Keyword).length + (if ([]:List Keyword).isEmpty then 0 else 1) < 30))=true:=by rfl)
  (hline:(apos.endLine == cpos.line)=true:=by rfl) (hs:Mp (e :: es) X.env=(false,eval e X.env) :: Mp es X.env:=by rfl) (hplain:(backTo cpos (Mp es X.env)).any (·.1)=false:=by rfl):
  PE X (.Call (.Attribute o name apos) (e :: es) [] cpos) (tXM r to t):=by
 intro pins s σ H Q I h
 refine Qk hbase hfew hline rfl (thn (ho pins s σ H _ I h) fun v s1 ⟨x,H1,I1,r1,⟨a,srt,f,n,ex,d⟩,q1⟩=>?_)
 subst ex
 obtain rfl:v=MA a:=r1
 obtain ⟨h1,h2⟩:=AT I1 d
 refine ⟨"dict",id,PySem.F.plainAttrs_dict,slot,hty,h1,h2,?_⟩
 have hA:=ha cpos pins s1 σ H1 _ I1 q1
 rw [hs] at hA ⊢
 refine Pi (by show (false || (backTo cpos (Mp es X.env)).any (·.1))=false; rw [hplain] <;> rfl) (QD ?_)
 exact thn hA fun us s2 ⟨vs,H2,I2,r2,q2⟩=>hm pins s2 σ H2 (.ref a) vs (.ref a) us Q I2 rfl r2 q2
end
end
section
open PySem.Spec
section
variable {X:Cx}
end
end
section
open PySem.Spec
mutual
inductive Dat (K:Fg) (H:Hp):V->PyData->Prop where
 | non:Dat K H .non .none
 | bl (b:Bool):Dat K H (.bl b) (.bool b)
 | int (i:Int):Dat K H (.int i) (.int i)
 | str (x:Str):Dat K H (.str x) (.str x)
 | lst {a:Addr} {xs:List V} {ds:List PyData} (e:SqL K H a xs) (h:kX K H xs ds):Dat K H (.ref a) (.list ds)
 | tup {a:Addr} {xs:List V} {ds:List PyData} (e:SqT K H a xs) (h:kX K H xs ds):Dat K H (.ref a) (.tuple ds)
inductive kX (K:Fg) (H:Hp):List V->List PyData->Prop where
 | nil:kX K H [] []
 | cons {x:V} {xs:List V} {d:PyData} {ds:List PyData} (h:Dat K H x d) (t:kX K H xs ds):kX K H (x :: xs) (d :: ds)
end
section
variable {X:Cx} {pins:List (Addr×Obj)} {σ:St} {H:Hp} {s:Shared}
mutual
theorem Dat.reads (I:Inv X pins σ H s):∀ {x:V} {d:PyData} {u:Value},Dat X.K H x d->aH x u->∃ as,Reads s.heap u d as
 | _,_,_,.non,r=>by cases r; exact ⟨_,.none⟩
 | _,_,_,.bl b,r=>by cases r; exact ⟨_,.bool b⟩
 | _,_,_,.int i,r=>by obtain ⟨t,rfl⟩:=r; exact ⟨_,.int i t⟩
 | _,_,_,.str x,r=>by obtain ⟨t,rfl⟩:=r; exact ⟨_,.str x t⟩
 | _,_,_,.lst e h,r=>by
  cases r
  obtain ⟨its,rv,⟨o,n,h1,h2,h3,h4⟩,_⟩:=I.list e
  obtain ⟨as,ra⟩:=kX.reads I h rv
  exact ⟨_,.list h1 h2 h4 (by simpa using ra)⟩
 | _,_,_,.tup e h,r=>by
  cases r
  obtain ⟨its,rv,⟨o,h1,h2,n,h3⟩,_⟩:=I.tuple e
  obtain ⟨as,ra⟩:=kX.reads I h rv
  exact ⟨_,.tuple h1 h2 h3 (by simpa using ra)⟩
theorem kX.reads (I:Inv X pins σ H s):∀ {xs:List V} {ds:List PyData} {us:List Value},kX X.K H xs ds->aG xs us->∃ as,ReadsAll s.heap us ds as
 | _,_,_,.nil,.nil=>⟨_,.nil⟩
 | _,_,_,.cons h t,.cons r q=>by
  obtain ⟨as,ra⟩:=Dat.reads I h r
  obtain ⟨bs,rb⟩:=kX.reads I t q
  exact ⟨_,.cons ra rb⟩
end
end
section
variable {X:Cx}
end
end
section
open PySem.Spec
mutual
theorem K0 {K:Fg} {H:Hp}:∀ {n:Nat} {x y:V},iA K H n x y->∃ d,Dat K H x d/\Dat K H y d/\d.canLay0=true/\d.depth<=n
 | n,x,_,.flat h=>by
  cases x with
  | non=>exact ⟨_,.non,.non,rfl,M7 _⟩
  | bl b=>exact ⟨_,.bl b,.bl b,rfl,M7 _⟩
  | int i=>exact ⟨_,.int i,.int i,rfl,M7 _⟩
  | _=>cases h
 | _,_,_,.lst (xs:=xs) (ys:=ys) e1 e2 hl h=>by
  obtain ⟨ds,h1,h2,h3,h4⟩:=Do xs ys hl h
  exact ⟨_,.lst e1 h1,.lst e2 h2,h3,UA h4⟩
 | _,_,_,.tup (xs:=xs) (ys:=ys) e1 e2 hl h=>by
  obtain ⟨ds,h1,h2,h3,h4⟩:=Do xs ys hl h
  exact ⟨_,.tup e1 h1,.tup e2 h2,h3,UA h4⟩
theorem Do {K:Fg} {H:Hp} {n:Nat}:∀ (xs ys:List V),xs.length=ys.length->(∀ (i:Nat) (x y:V),xs[i]?=some x->ys[i]?=some y->iA K H n x y)->∃ ds,kX K H xs ds/\kX K H ys ds/\T4 ds=true/\UZ ds<=n
 | [],[],_,_=>⟨[],.nil,.nil,rfl,M7 _⟩
 | x :: xs,y :: ys,hl,h=>by
  obtain ⟨d,a1,a2,a3,a4⟩:=K0 (h 0 x y rfl rfl)
  obtain ⟨ds,b1,b2,b3,b4⟩:=Do xs ys (by simpa using hl) (fun i x y hx hy=>h (i + 1) x y hx hy)
  refine ⟨d :: ds,.cons a1 b1,.cons a2 b2,?_,?_⟩
  ·show (d.canLay0 && T4 ds)=true
   rw [a3,b3]; rfl
  ·show max d.depth (UZ ds)<=n
   omega
 | [],_ :: _,hl,_=>by simp at hl
 | _ :: _,[],hl,_=>by simp at hl
end
section
variable {X:Cx}
theorem uF (hu:X.A.units + 64 < cLine):OpR X (NZ .NotEq) (rh X.K true):=by
 intro pins s σ H x y v u Q I rx ry h
 obtain ⟨n,hn,hd,q⟩:=h
 obtain ⟨d,h1,h2,h3,h4⟩:=K0 hd
 obtain ⟨as,ra⟩:=h1.reads I rx
 obtain ⟨bs,rb⟩:=h2.reads I ry
 have sh:SeqAt.shaped d=true:=by unfold SeqAt.shaped; rw [h3,decide_eq_true (by omega)]; rfl
 refine ne_dataH ra rb sh sh hu ⟨.bl false,H,I,?_,q⟩
 rw [SeqAt.eqv_refl d h3]; rfl
end
end
section
open PySem.Spec
theorem AV {scope:Scope} {env:Env} {x:Str} (h:scope.names.lookup x=some .cell\/scope.names.lookup x=some .free):(relabel scope env).names.lookup x=some .cell\/(relabel scope env).names.lookup x=some .free:=by
 have go:∀ ns:List (Str×MQ),(ns.lookup x=some .cell\/ns.lookup x=some .free)->
   (ns.map fun (n,k)=>if (k == NF && env.scope.kind == .function && env.kindOf n == some .cell) then (n,PH) else (n,k)).lookup x=some .cell\/
   (ns.map fun (n,k)=>if (k == NF && env.scope.kind == .function && env.kindOf n == some .cell) then (n,PH) else (n,k)).lookup x=some .free:=by
  intro ns
  induction ns with
  | nil=>intro q; rcases q with q | q <;> simp at q
  | cons y r ih=>
   obtain ⟨n,k'⟩:=y
   intro q
   rw [Mo]
   rw [MX] at q
   by_cases hc:(k' == NF && env.scope.kind == .function && env.kindOf n == some .cell)=true
   ·simp only [hc,if_true]
    rw [MX]
    cases e:x == n with
    | true=>exact .inl rfl
    | false=>rw [e] at q; exact ih q
   ·simp only [hc]
    rw [if_neg (by simp),MX]
    cases e:x == n with
    | true=>rw [e] at q; exact q
    | false=>rw [e] at q; exact ih q
 exact go scope.names h
theorem FS {inner outer:Scope} {cl:List (Str×Addr)} {C:Addr} {env:Env} (h:∀ y∈inner.names,y.2=.free->outer.names.lookup y.1=some .cell\/outer.names.lookup y.1=some .free):
  ∀ y∈inner.names,y.2=.free->(Qq outer cl C env).scope.names.lookup y.1=some .cell\/(Qq outer cl C env).scope.names.lookup y.1=some .free:=fun y hy hk=>AV (h y hy hk)
end
end L2
section
namespace L2
open PySem
noncomputable def Rs (xs:List Nat):Prop:=xs.Pairwise (· < ·)
theorem yu (xs:Array Nat) (i d:Nat) (h:i < xs.size):xs.getD i d=xs.toList[i]'(by simpa using h):=by
 rw [SY,dif_pos h]
 simp
theorem xu (xs:Array Nat) (j:Nat) (hr:Rs xs.toList):∀ (fuel lo hi:Nat),hi - lo<=fuel->lo<=hi->hi<=xs.size->(∀ i (h:i < xs.toList.length),i < lo->xs.toList[i] < j)->(∀ i (h:i < xs.toList.length),hi<=i->j<=xs.toList[i])->
  lo<=OB xs j fuel lo hi/\OB xs j fuel lo hi<=hi/\(∀ i (h:i < xs.toList.length),i < OB xs j fuel lo hi->xs.toList[i] < j)/\(∀ i (h:i < xs.toList.length),OB xs j fuel lo hi<=i->j<=xs.toList[i])
 | 0,lo,hi,hf,hl,hs,h1,h2=>by
  have e:hi=lo:=by omega
  subst e
  exact ⟨LV _,LV _,h1,h2⟩
 | fuel + 1,lo,hi,hf,hl,hs,h1,h2=>by
  have eq:OB xs j (fuel + 1) lo hi=(if lo < hi then (if xs.getD ((lo + hi) / 2) j < j then OB xs j fuel ((lo + hi) / 2 + 1) hi else OB xs j fuel lo ((lo + hi) / 2)) else lo):=rfl
  by_cases hlt:lo < hi
  ·have hm:(lo + hi) / 2 < xs.size:=by omega
   have hm':(lo + hi) / 2 < xs.toList.length:=by simpa using hm
   have pw:=Ov.mp hr
   rw [if_pos hlt,yu xs _ _ hm] at eq
   by_cases hc:xs.toList[(lo + hi) / 2] < j
   ·rw [if_pos hc] at eq
    obtain ⟨a,b,c,d⟩:=xu xs j hr fuel ((lo + hi) / 2 + 1) hi (by omega) (by omega) hs (fun i h hi'=>by
     rcases TH i ((lo + hi) / 2) with z | z
     ·have:=pw i ((lo + hi) / 2) h hm' z
      omega
     ·have e:i=(lo + hi) / 2:=by omega
      subst e
      exact hc) h2
    rw [eq]
    exact ⟨by omega,b,c,d⟩
   ·rw [if_neg hc] at eq
    obtain ⟨a,b,c,d⟩:=xu xs j hr fuel lo ((lo + hi) / 2) (by omega) (by omega) (by omega) h1 (fun i h hi'=>by
     rcases TH ((lo + hi) / 2) i with z | z
     ·have:=pw ((lo + hi) / 2) i hm' h z
      omega
     ·have e:i=(lo + hi) / 2:=by omega
      subst e
      omega)
    rw [eq]
    exact ⟨a,by omega,c,d⟩
  ·rw [if_neg hlt] at eq
   have e:hi=lo:=by omega
   subst e
   rw [eq]
   exact ⟨LV _,LV _,h1,h2⟩
theorem lB (xs:Array Nat) (j:Nat) (hr:Rs xs.toList):Mu xs j<=xs.size/\(∀ i (h:i < xs.toList.length),i < Mu xs j->xs.toList[i] < j)/\(∀ i (h:i < xs.toList.length),Mu xs j<=i->j<=xs.toList[i]):=by
 obtain ⟨_,b,c,d⟩:=xu xs j hr xs.size 0 xs.size (by omega) (M7 _) (LV _) (fun i h z=>absurd z (NT _)) (fun i h z=>absurd (by simpa using h) (RF.mpr z))
 exact ⟨b,c,d⟩
theorem Dp (xs:Array Nat) (hr:Rs xs.toList) {i:Nat} (h:i < xs.toList.length):Mu xs (xs.toList[i] + 1)=i + 1:=by
 obtain ⟨b,c,d⟩:=lB xs (xs.toList[i] + 1) hr
 have pw:=Ov.mp hr
 rcases Rz (Mu xs (xs.toList[i] + 1)) (i + 1) with z | z | z
 ·have:=d i h (by omega)
  omega
 ·exact z
 ·have hi:i + 1 < xs.toList.length:=by simp at *; omega
  have:=c (i + 1) hi (by omega)
  have:=pw i (i + 1) h hi (by omega)
  omega
theorem Dq (xs:Array Nat) (hr:Rs xs.toList):Mu xs 0=0:=by
 obtain ⟨b,c,_⟩:=lB xs 0 hr
 rcases Pd (Mu xs 0) with z | z
 ·exact z
 ·have h0:0 < xs.toList.length:=by simp; omega
  have:=c 0 h0 z
  omega
theorem K1 (xs:Array Nat) (hr:Rs xs.toList) {j:Nat} (hj:j∉xs.toList):Rs (Mq.insertAt xs (Mu xs j) j).toList:=by
 obtain ⟨b,c,d⟩:=lB xs j hr
 rw [Mq.toList_insertAt]
 have hr':(xs.toList.take (Mu xs j)++xs.toList.drop (Mu xs j)).Pairwise (· < ·):=by rw [Pw]; exact hr
 rw [QJ] at hr'
 obtain ⟨p1,p2,p3⟩:=hr'
 have lo:∀ a∈xs.toList.take (Mu xs j),a < j:=fun a ha=>by
  obtain ⟨i,hi,rfl⟩:=QL.mp ha
  rw [List.getElem_take]
  have hi':i < min (Mu xs j) xs.toList.length:=by simpa using hi
  exact c i (by omega) (by omega)
 have hi:∀ a∈xs.toList.drop (Mu xs j),j < a:=fun a ha=>by
  obtain ⟨i,hi,rfl⟩:=QL.mp ha
  rw [List.getElem_drop]
  have hl:i < xs.toList.length - Mu xs j:=by simpa using hi
  have h1:Mu xs j + i < xs.toList.length:=by omega
  have:=d _ h1 (NU _ _)
  rcases P0 this with z | z
  ·exact z
  ·exact absurd (z ▸ O3 h1) hj
 refine QJ.mpr ⟨p1,Rc.mpr ⟨hi,p2⟩,fun a ha x hx=>?_⟩
 rcases L7.mp hx with rfl | hx
 ·exact lo a ha
 ·exact p3 a ha x hx
theorem Hk {xs:Array Nat} (hr:Rs xs.toList) {j:Nat} (h:¬ (xs[Mu xs j]? == some j)=true):j∉xs.toList:=fun hm=>by
 obtain ⟨b,c,d⟩:=lB xs j hr
 obtain ⟨k,hk,e⟩:=QL.mp hm
 have pw:=Ov.mp hr
 have h1:Mu xs j<=k:=RO fun z=>by
  have:=c k hk z
  omega
 have h2:Mu xs j=k:=by
  rcases P0 h1 with z | z
  ·have hl:Mu xs j < xs.toList.length:=by omega
   have:=d _ hl (LV _)
   have:=pw _ k hl hk z
   omega
  ·exact z
 refine h ?_
 rw [h2,<-ON,LS hk,e]
 exact beq_self_eq_true _
theorem FT {t:Mq} (hr:Rs t.place.toList) {j:Nat} (h:∀ i,t.slot j≠.live i):j∉t.place.toList:=by
 refine Hk hr fun z=>?_
 have:=h (Mu t.place j)
 unfold Mq.slot at this
 rw [if_pos z] at this
 exact this rfl
theorem pT {t:Mq} {f:Nat->Int} {h:Int}:∀ (fuel:Nat) (p:Mq.Probe) {j:Nat} {d:Option Nat},(∀ x,p.dummy=some x->∀ i,t.slot x≠.live i)->T5 t f h fuel p=some (.empty j d)->∀ i,t.slot (d.getD j)≠.live i
 | 0,_,_,_,_,e=>by cases e
 | fuel + 1,p,j,d,hd,e=>by
  have ha:∀ q:Mq.Probe,(t.advance q).dummy=q.dummy:=fun q=>by
   unfold Mq.advance
   split <;> rfl
  unfold T5 at e
  cases hs:t.slot p.j with
  | empty=>
   rw [hs] at e
   injection e with e
   injection e with e1 e2
   subst e1 e2
   intro i
   cases hx:p.dummy with
   | none=>show t.slot p.j≠_; rw [hs]; intro z; cases z
   | some x=>exact hd x hx i
  | dummy=>
   rw [hs] at e
   refine pT fuel _ (fun x hx i=>?_) e
   rw [ha] at hx
   cases hx
   rw [hs]; intro z; cases z
  | live k=>
   rw [hs] at e
   dsimp only at e
   split at e
   ·cases e
   ·exact pT fuel _ (fun x hx=>hd x (by rw [ha] at hx; exact hx)) e
theorem Dr {t:Mq} (hr:Rs t.place.toList) {h:Int} {j:Nat} {b:Bool} (e:t.freeSlot h=some (j,b)):j∉t.place.toList:=by
 unfold Mq.freeSlot at e
 split at e
 ·rename_i j' d' he
  cases e
  exact FT hr (pT _ _ (fun x hx=>by cases hx) he)
 ·cases e
theorem Hl (n:Nat):Rs (Array.range n).toList:=by
 rw [Array.toList_range]
 exact Sx
theorem lC (t:Mq) (n:Nat):Rs (t.standIn n).place.toList:=Hl n
theorem FU {t:Mq} (hr:Rs t.place.toList) (es:Array (Int×Value)) (h:Int) (x:Value):Rs (layNew t es h x).2.1.place.toList/\(layNew t es h x).2.1.led=t.led:=by
 unfold layNew
 split
 ·rename_i slot wd he
  dsimp only
  unfold Mq.orStandIn
  split
  ·exact ⟨K1 _ hr (Dr hr he),rfl⟩
  ·exact ⟨lC _ _,rfl⟩
 ·exact ⟨lC _ _,rfl⟩
theorem JG {mask finger moves:Nat} {led plain:Bool} {hs:Array Int} {t:Mq} {o:Array Nat} (e:Mq.laid mask finger moves led plain hs=some (t,o)):Rs t.place.toList/\t.led=led:=by
 unfold Mq.laid at e
 obtain ⟨owner,_,e⟩:=Option.bind_eq_some_iff.mp e
 cases e
 refine ⟨?_,rfl⟩
 show ((((Mn (mask + 1)).filterMap fun j=>(owner.getD j none).map (j,·)).map (·.1)).toArray).toList.Pairwise (· < ·)
 have sub:List.Sublist (((Mn (mask + 1)).filterMap fun j=>(owner.getD j none).map (j,·)).map (·.1)) (Mn (mask + 1)):=by
  rw [List.map_filterMap]
  have:∀ l:List Nat,List.Sublist (l.filterMap fun j=>((owner.getD j none).map (j,·)).map (·.1)) l:=by
   intro l
   induction l with
   | nil=>exact .slnil
   | cons a l ih=>
    rw [PM]
    cases owner.getD a none with
    | none=>exact .cons _ ih
    | some v=>exact .cons₂ _ ih
  exact this _
 exact Sx.sublist sub
theorem BL {t:Mq} (hr:Rs t.place.toList) (es:Array (Int×Value)) (wanted:Nat):Rs (QZ t es wanted).2.1.place.toList/\(QZ t es wanted).2.1.led=t.led:=by
 unfold QZ
 split
 ·rename_i t' order he
  dsimp only
  split
  ·exact JG he
  ·exact ⟨lC _ _,rfl⟩
 ·exact ⟨lC _ _,rfl⟩
end L2
end
section
namespace L2
open PySem
section
variable {prog:Program} {w:World} {K:Type} [DecidableEq K] {knd:KeyKind prog w K} {A:Around} {E:Value->Shared->Prop} {s:Shared}
noncomputable def Ent (knd:KeyKind prog w K) (k:K) (e:Int×Value):Prop:=knd.is k e.2=true/\e.1=knd.hash k/\e.2.scannable=true
inductive cu {α β:Type} (F:α->β->Prop):List α->List β->Prop
 | nil:cu F [] []
 | cons {a b l m}:F a b->cu F l m->cu F (a :: l) (b :: m)
theorem cu.len {α β:Type} {F:α->β->Prop} {l:List α} {m:List β} (h:cu F l m):l.length=m.length:=by
 induction h with
 | nil=>rfl
 | cons _ _ ih=>rw [My,My,ih]
theorem cu.app {α β:Type} {F:α->β->Prop} {l l':List α} {m m':List β} (h:cu F l m) (h':cu F l' m'):cu F (l++l') (m++m'):=by
 induction h with
 | nil=>exact h'
 | cons r _ ih=>exact .cons r ih
theorem cu.right {α β:Type} {F:α->β->Prop} {l:List α} {m:List β} (h:cu F l m):∀ b∈m,∃ a∈l,F a b:=by
 induction h with
 | nil=>intro b hb; cases hb
 | cons r _ ih=>
  intro b hb
  rcases L7.mp hb with rfl | hb
  ·exact ⟨_,Mc,r⟩
  ·obtain ⟨a,ha,f⟩:=ih b hb
   exact ⟨a,Mh _ ha,f⟩
theorem cu.perm {α β:Type} {F:α->β->Prop} {m m':List β} (p:Nz m m'):∀ {l:List α},cu F l m->∃ l',Nz l l'/\cu F l' m':=by
 induction p with
 | nil=>intro l h; cases h; exact ⟨[],.nil,.nil⟩
 | cons b _ ih=>
  intro l h
  cases h with
  | cons r t=>
   obtain ⟨l',p,q⟩:=ih t
   exact ⟨_ :: l',.cons _ p,.cons r q⟩
 | swap b c m=>
  intro l h
  cases h with
  | cons r t=>cases t with
   | cons r' t'=>exact ⟨_,.swap _ _ _,.cons r' (.cons r t')⟩
 | trans _ _ ih1 ih2=>
  intro l h
  obtain ⟨l1,p1,q1⟩:=ih1 h
  obtain ⟨l2,p2,q2⟩:=ih2 q1
  exact ⟨l2,p1.trans p2,q2⟩
noncomputable def dO (knd:KeyKind prog w K) (h:Heap) (a:Addr) (ks:List K) (led:Bool):Prop:=
 ∃ o es ep t,h.get? a=some o/\o.ExactSet/\o.data=.set es ep t/\cu (Ent knd) ks es.toList/\ks.Nodup/\es.size < P3/\t.fits es.size=true/\Rs t.place.toList/\t.led=led
theorem K2 {ks:List K} {l:List (Int×Value)} (h:cu (Ent knd) ks l):ElemsOf knd l:=fun e he=>by
 obtain ⟨k,_,f1,f2,f3⟩:=h.right e he
 exact ⟨⟨k,f1,f2⟩,f3⟩
theorem stored {h:Heap} {a:Addr} {o:Obj} {es es':Array (Int×Value)} {ep:Nat} {t t':Mq} {ks':List K} {led:Bool} (g1:h.get? a=some o) (g2:o.ExactSet) (g3:o.data=.set es ep t) (pr:cu (Ent knd) ks' es'.toList) (nd:ks'.Nodup) (sb:es'.size < P3) (ft:t'.fits es'.size=true) (rs:Rs t'.place.toList) (ld:t'.led=led):
  (h.update a (RG es' t')).get? a=some { o with data:=.set es' (ep + 1) t' }/\dO knd (h.update a (RG es' t')) a ks' led:=by
 have hg:(h.update a (RG es' t')).get? a=some { o with data:=.set es' (ep + 1) t' }:=by
  have z:=MP (RG es' t') g1 (by rw [putSet_of _ _ g3]; rfl)
  rw [z,putSet_of _ _ g3]
 exact ⟨hg,_,es',ep + 1,t',hg,g2,rfl,pr,nd,sb,ft,rs,ld⟩
theorem Hn {ks:List K} {l:List (Int×Value)} {k:K} (h:cu (Ent knd) ks l) {j:Nat} (e:l.findIdx? (fun e=>knd.is k e.2)=some j):k∈ks:=by
 obtain ⟨hj,hp,_⟩:=Oo.mp e
 obtain ⟨k',hk',f1,_⟩:=h.right _ (O3 hj)
 exact knd.inj _ _ _ hp f1 ▸ hk'
theorem FV {ks:List K} {l:List (Int×Value)} {k:K} (h:cu (Ent knd) ks l) (e:l.findIdx? (fun e=>knd.is k e.2)=none):k∉ks:=by
 have n:=PQ.mp e
 induction h with
 | nil=>intro z; cases z
 | cons r _ ih=>
  intro z
  rcases L7.mp z with rfl | z
  ·have:=n _ Mc
   rw [r.1] at this
   cases this
  ·exact ih (PQ.mpr fun e he=>n e (Mh _ he)) (fun e he=>n e (Mh _ he)) z
theorem yv {g:Bool->Sem Unit} (hg:∀ (b:Bool) (z:Shared) (P:Unit->Shared->Prop),P () z->wpAny (model prog w) A (g b) P E z) {a:Addr} {o:Obj} {es fs:Array (Int×Value)} {ep:Nat} {t u:Mq} {ks:List K} {led wd:Bool}
  (g1:s.heap.get? a=some o) (g2:o.ExactSet) (g3:o.data=.set es ep t) (kq:cu (Ent knd) ks fs.toList) (nd:ks.Nodup) (sb:fs.size < P3) (fu:u.fits fs.size=true) (ru:Rs u.place.toList) (lu:u.led=led) {R:Option Bool->Shared->Prop}
  (q:∀ h' ks',Mm a s.heap h'->dO knd h' a ks' led->Nz ks' ks->R (some true) { s with heap:=h' }):
  wpAny (model prog w) A (storeSet a fs u >>= fun _=>if (!wd && u.tooFull)=true then (g (QZ u fs (OY fs.size)).2.2 >>= fun _=>storeSet a (QZ u fs (OY fs.size)).1 (QZ u fs (OY fs.size)).2.1 >>= fun _=>pure (some true)) else pure (some true)) R E s:=by
 apply LO
 refine T6 g1 g3 ?_ (T7 sb)
 obtain ⟨g4,R1⟩:=stored (knd:=knd) g1 g2 g3 kq nd sb fu ru lu
 have b1:=M6 s.heap a (RG fs u)
 split
 ·have pm:=relayAll_perm u fs (OY fs.size)
  have pf:=relayAll_fits u fs (OY fs.size)
  have ⟨pr,pl⟩:=BL ru fs (OY fs.size)
  generalize QZ u fs (OY fs.size)=L at *
  obtain ⟨fs',u',gv⟩:=L
  dsimp only at pm pf pr pl ⊢
  obtain ⟨ks',kp,kq'⟩:=cu.perm pm.symm kq
  have hz:fs'.size=fs.size:=by rw [<-ME,pm.length_eq,ME]
  apply LO
  apply hg
  apply LO
  refine T6 g4 rfl ?_ (T7 (by rw [hz]; exact sb))
  obtain ⟨_,R2⟩:=stored (knd:=knd) g4 g2 rfl kq' (kp.nodup_iff.mp nd) (by rw [hz]; exact sb) pf pr (pl.trans lu)
  exact LQ (q _ ks' (b1.trans (M6 _ a _)) R2 kp.symm)
 ·exact LQ (q _ ks b1 R1 (Nz.refl _))
theorem JH {a:Addr} {ks:List K} {led:Bool} {k:K} {x:Value} {Q:Bool->Shared->Prop} (hk:knd.is k x=true) (hx:x.scannable=true) (R:dO knd s.heap a ks led) (room:ks.length + 1 < P3)
  (q:∀ h' ks' b,Mm a s.heap h'->dO knd h' a ks' led->(∀ y,y∈ks'↔y∈ks\/y=k)->ks'.length<=ks.length + 1->Q b { s with heap:=h' }):wpAny (model prog w) A (setAddHashed a x (knd.hash k)) Q E s:=by
 obtain ⟨o,es,ep,t,g1,g2,g3,pr,nd,sb,ft,rs,ld⟩:=id R
 have el:=K2 pr
 have hlen:ks.length=es.size:=by rw [pr.len,ME]
 unfold setAddHashed setAddHashedIn
 apply Nf
 apply LO
 apply NC g1 g3 ft
 dsimp only
 rw [if_pos (byScan_of hx sb el)]
 unfold setAddByScan
 apply LO
 apply LO
 apply Of
 apply LO
 apply wpAny_setScan_of hk g1 g3 ft el
 cases fe:List.findIdx? (fun e=>knd.is k e.2) es.toList with
 | some j=>
  dsimp only
  apply LQ
  apply LQ
  have z:=q s.heap ks false (T8 a s.heap) R (fun y=>⟨.inl,fun h=>h.elim id fun e=>e ▸ Hn pr fe⟩) (OG _)
  cases s
  exact z
 | none=>
  dsimp only
  have hk0:=FV pr fe
  have pm:=layNew_perm t es (knd.hash k) x
  have pf:=layNew_fits t es (knd.hash k) x
  have ⟨pr1,pl1⟩:=FU rs es (knd.hash k) x
  generalize layNew t es (knd.hash k) x=L at *
  obtain ⟨es1,t1,wd,gv⟩:=L
  dsimp only at pm pf pr1 pl1 ⊢
  rw [RB] at pm
  obtain ⟨ks1,kp,kq⟩:=cu.perm pm.symm (pr.app (.cons (⟨hk,rfl,hx⟩:Ent knd k (knd.hash k,x)) .nil))
  have hz:es1.size=es.size + 1:=by rw [<-ME,pm.length_eq,Mj,ME]; rfl
  have sb1:es1.size < P3:=by rw [hz,<-hlen]; exact room
  have nd1:ks1.Nodup:=kp.nodup_iff.mp (RA.mpr ⟨nd,Qb _ _,fun y hy z hz' e=>hk0 (by rw [LW] at hz'; rw [<-hz',<-e]; exact hy)⟩)
  have fin:∀ h' ks',Mm a s.heap h'->dO knd h' a ks' led->Nz ks' ks1->Q true { s with heap:=h' }:=fun h' ks' b R' pp=>
   q h' ks' true b R' (fun y=>by rw [pp.mem_iff,<-kp.mem_iff,Mt,LW]) (by rw [pp.length_eq,<-kp.length_eq,Mj]; exact LV _)
  apply LO
  have gw:∀ (b:Bool) (z:Shared) (P:Unit->Shared->Prop),P () z->wpAny (model prog w) A (match b with | true=>rule "set.scan.the-table-gave-way" | false=>pure ()) P E z:=fun b z P hP=>by cases b <;> first | exact LQ hP | exact Of hP
  refine gw gv _ _ ?_
  split
  ·apply LO
   rw [hashByValue_scannable 8 hx]
   apply LQ
   refine yv (led:=led) (fun b z P hP=>by cases b <;> first | exact LQ hP | exact Of hP) g1 g2 g3 kq nd1 sb1 ?_ ?_ ?_ fun h' ks' b R' pp=>?_
   ·split
    ·exact pf
    ·exact Mq.fits_plain_off pf
   ·split <;> exact pr1
   ·split <;> exact pl1.trans ld
   ·exact LQ (fin h' ks' b R' pp)
  ·apply LO
   apply LQ
   simp only [↓reduceIte]
   refine yv (led:=led) (fun b z P hP=>by cases b <;> first | exact LQ hP | exact Of hP) g1 g2 g3 kq nd1 sb1 pf pr1 (pl1.trans ld) fun h' ks' b R' pp=>?_
   exact LQ (fin h' ks' b R' pp)
end
end L2
end
namespace L2
open PySem PyProof.Rows
section
open PySem.Spec
section
variable {prog:Program} {w:World} {K:Type} [DecidableEq K] {knd:KeyKind prog w K} {A:Around} {R:Result->Shared->Prop} {I:Addr} {fp wr:List Addr} {G:Array SM->Array SM->Prop} {n:Nat} {P:Nat->Value->Prop} {St:Nat->Shared->Prop}
theorem dO.at {h h':Heap} {a:Addr} {ks:List K} {led:Bool} (r:dO knd h a ks led) (k:∀ o,h.get? a=some o->h'.get? a=some o):dO knd h' a ks led:=by
 obtain ⟨o,es,ep,t,e,z⟩:=r
 exact ⟨o,es,ep,t,k o e,z⟩
theorem Ho (W:WalksS prog w A.in1 I fp wr G n P St) (S:Addr) (free:S∉fp) (key:Nat->K) (hkey:∀ i v,P i v->knd.is (key i) v=true/\v.scannable=true) (room:n + 1 < P3) {led:Bool}:
  ∀ (m i:Nat) (s:Shared) (ks:List K),n - i=m->i<=n->St i s->dO knd s.heap S ks led->(∀ y,y∈ks↔∃ j,j < i/\key j=y)->ks.length<=i->
   (∀ s' ks',Moved (S :: wr) G s s'->dO knd s'.heap S ks' led->(∀ y,y∈ks'↔∃ j,j < n/\key j=y)->R (.ok (.ret .none)) s')->
   codeAny (model prog w) A (.builtin "set.update.loop" ⟨[.ref S,.ref I],[]⟩) R s:=by
 have nw:S∉wr:=fun z=>free (W.sub _ z)
 have up:∀ b∈wr,b∈S :: wr:=fun b z=>Mh _ z
 intro m
 induction m with
 | zero=>
  intro i s ks hm hi st r mem len done
  obtain rfl:i=n:=by omega
  apply NK R7
  rw [Nl Qc _]
  show wpAny _ A.in1 (pyNext (.ref I) >>= _) _ _ s
  apply LO
  refine W.done s _ _ st fun z mv=>?_
  show wpAny _ A.in1 (ret Nq) _ _ z
  exact LQ (done z ks (mv.mono up) (r.at fun o e=>mv.heap S _ nw e) mem)
 | succ m ih=>
  intro i s ks hm hi st r mem len done
  have lt:i < n:=by omega
  apply NK R7
  rw [Nl Qc _]
  show wpAny _ A.in1 (pyNext (.ref I) >>= _) _ _ s
  apply LO
  refine W.item i s _ _ lt st fun v z pv stz mv=>?_
  obtain ⟨kv,sv⟩:=hkey i v pv
  have rz:dO knd z.heap S ks led:=r.at fun o e=>mv.heap S _ nw e
  show wpAny _ A.in1 (holding [v] (setAdd S v) >>= _) _ _ z
  apply LO
  apply Nf
  unfold setAdd
  apply Nf
  apply LO
  refine knd.pyHash kv ?_
  refine JH (s:={ z with toks:=z.toks + 1 }) kv sv rz (by omega) fun h' ks' b sb r' mem' len'=>?_
  refine LQ ⟨NW Qc _,ih (i + 1) _ ks' (by omega) lt (W.frame _ z _ _ stz (OG _) fun c hc o e=>?_) r' (fun y=>?_) (by omega) fun z' ks2 mv2 r2 mem2=>?_⟩
  ·rw [sb.2 c (fun e':c=S=>free (by rw [<-e']; exact hc))]
   exact e
  ·rw [mem',mem]
   constructor
   ·rintro (⟨j,hj,e⟩ | e)
    ·exact ⟨j,by omega,e⟩
    ·exact ⟨i,by omega,e.symm⟩
   ·rintro ⟨j,hj,e⟩
    rcases TH j i with q | q
    ·exact .inl ⟨j,q,e⟩
    ·have:j=i:=by omega
     subst this
     exact .inr e.symm
  ·refine done z' ks2 (Moved.trans W.gtrans ((mv.mono up).then_heap (OG _) fun c o hc e=>?_) mv2) r2 mem2
   rw [sb.2 c (fun e':c=S=>hc (by rw [e']; exact Mc))]
   exact e
end
end
section
open PySem.Spec
section
variable {prog:Program} {w:World} {A:Around} {E:Value->Shared->Prop} {s:Shared}
noncomputable def eI (w:World):Bool:=w.params.followText "set-order"
noncomputable abbrev nP (w:World):Obj:={ cls:=.type "set",dict:=none,data:=.set #[] 0 (.fresh 0 0 (!eI w)) }
theorem Hq (x:Value) {Q:Value->Shared->Prop} (q:Q (.ref s.heap.objs.size) { s with heap:=s.heap.push (nP w) }):codeAny (model prog w) A (.call (.builtin "set.__new__") ⟨[.type "set",x],[]⟩) (wants Q E) s:=by
 apply Va
 show wpAny _ A.in1 (do checkBuiltinCall "set.__new__" ⟨[.type "set",x],[]⟩; again (.builtin "set.__new__" ⟨[.type "set",x],[]⟩)) _ _ s
 apply LO
 apply Q2 (PySem.F.newCall_set_1 x)
 refine LQ ⟨NW SH _,?_⟩
 apply NK PySem.F.entry_set_new
 rw [Nl SH _]
 unfold Builtin.«set.__new__»
 unfold Builtin.Frozenset.newClass
 have self_:=sub_set_self
 obtain ⟨hp,g,d,tk,os⟩:=s
 dsimp only
 wp_walk
 apply RZ
 apply LQ
 dsimp only
 simp only [newObj]
 apply LO
 apply wpAny_alloc
 apply LQ
 exact LQ q
theorem dO.new {K:Type} [DecidableEq K] {knd:KeyKind prog w K} {h:Heap} {a:Addr} (e:h.get? a=some (nP w)):dO knd h a [] (!eI w):=
 ⟨_,#[],0,_,e,⟨rfl,rfl,rfl⟩,rfl,.nil,.nil,by decide,rfl,.nil,rfl⟩
end
end
section
open PySem.Spec
section
variable {prog:Program} {w:World} {K:Type} [DecidableEq K] {knd:KeyKind prog w K} {A:Around} {E:Value->Shared->Prop} {s:Shared}
theorem JI {l:Addr} {xs:Array Value} (key:Nat->K) {Q:Value->Shared->Prop} (calm:A.handled=none) (hl:s.heap.IsList l xs) (hkey:∀ i v,xs[i]?=some v->knd.is (key i) v=true/\v.scannable=true) (room:xs.size + 1 < P3)
  (q:∀ (h':Heap) (tk:Nat) (ks:List K),dO knd h' s.heap.objs.size ks (!eI w)->(∀ y,y∈ks↔∃ j,j < xs.size/\key j=y)->(∀ b o,b < s.heap.objs.size->s.heap.get? b=some o->h'.get? b=some o)->Q (.ref s.heap.objs.size) { s with heap:=h',toks:=tk }):
  wpAny (model prog w) A (call (.type "set") [.ref l]) Q E s:=by
 have ft:=PySem.F.called_set
 obtain ⟨c0,tl0,mro0⟩:=ft.mro
 have made0:=ft.made
 have sub0:=ft.sub
 have not0:=ft.notType
 have can0:=ft.canCreate
 have chk0:=PySem.F.typeCall_set_1 (.ref l)
 apply UI
 apply Va
 show wpAny _ _ (callAny (.type "set") _) _ _ _
 refine LQ ⟨Code.quiet_builtin _ (by decide +kernel),?_⟩
 apply NK PySem.F.entry_type_call
 rw [Around.under_plain (weight_type_call_type "set" [.ref l] []) rfl]
 repeat (any_goals (first | assumption | wp_step))
 refine Pt (Hq (.ref l) (E:=E) (Q:=fun ob z=>ob=.ref s.heap.objs.size/\z={ s with heap:=s.heap.push (nP w) }) ⟨rfl,rfl⟩) fun r z hz=>?_
 cases r with
 | error e=>exact hz
 | ok fl=>
  cases fl with
  | next=>exact hz.elim
  | brk=>exact hz.elim
  | cont=>exact hz.elim
  | ret ob=>
   obtain ⟨rfl,rfl⟩:=hz
   have got:(s.heap.push (nP w)).get? s.heap.objs.size=some (nP w):=L6 _ rfl
   have isT:S6 { s with heap:=s.heap.push (nP w) } (.ref s.heap.objs.size) "set":=⟨_,got,rfl⟩
   have look0:=ft.init.lookup
   have bind0:=ft.init.bind (.ref s.heap.objs.size)
   repeat (any_goals (first | assumption | wp_step))
   refine Pt (codeAny_call_builtin (R:=wants (fun r z=>r=.none/\∃ h' tk ks,z={ s with heap:=h',toks:=tk }/\dO knd h' s.heap.objs.size ks (!eI w)/\(∀ y,y∈ks↔∃ j,j < xs.size/\key j=y)/\∀ b o,b < s.heap.objs.size->s.heap.get? b=some o->h'.get? b=some o) E) ft.init.plain PySem.F.entry_set_init (check_set_init_1 isT ?_)) fun r z hz=>?_
   ·obtain ⟨ob,gl,cl,nl,dl⟩:=hl
    obtain ⟨a1,a2,a3,a4⟩:=ob
    simp only at cl dl
    subst cl dl
    have gl1:(s.heap.push (nP w)).get? l=some { cls:=.type "list",dict:=a2,data:=.seq xs nl,slots:=a4 }:=LP _ gl
    have sls:=PySem.F.sub_list_set
    have slf:=PySem.F.sub_list_frozenset
    have nd0:(Nr "list" == Nr "dict")=false:=by decide
    have il:(s.heap.push (nP w)).IsList l xs:=⟨_,gl1,rfl,nl,rfl⟩
    unfold Builtin.«set.__init__»
    unfold noKeywords
    unfold Builtin.Frozenset.updateFrom
    generalize gPI:pyIter=PI
    wp_walk
    subst gPI
    apply Po il
    apply LO
    apply wpAny_runValue
    have lt:l < s.heap.objs.size:=L5 gl
    have sz:(s.heap.push (nP w)).objs.size=s.heap.objs.size + 1:=MG _ _
    have fr:s.heap.objs.size∉[(s.heap.push (nP w)).objs.size,l]:=by
     rw [sz]
     intro hm
     rcases L7.1 hm with e | hm
     ·exact absurd e (MC (Nv _))
     ·rcases L7.1 hm with e | hm
      ·exact absurd e.symm (MC lt)
      ·exact nomatch hm
    refine Ho (knd:=knd) ((SU (by simp [calm]) _ l (by rw [sz]; exact MC (NB lt)) xs).toS) s.heap.objs.size fr key (fun i v hv=>hkey i v hv) room (led:=!eI w) (xs.size - 0) 0 _ [] (by omega) (M7 _) ⟨⟨_,L6 _ rfl,rfl,rfl⟩,il.push _⟩ (dO.new (LP _ got)) (fun y=>⟨fun z=>(nomatch z),fun ⟨j,hj,_⟩=>absurd hj (NT _)⟩) (LV _) fun z ks mv r mem=>?_
    obtain ⟨h',g',d',tk',os'⟩:=z
    obtain rfl:g'=s.gens:=mv.gens
    obtain rfl:d'=s.drawn:=mv.drawn
    obtain rfl:os'=s.os:=mv.os
    show wpAny _ _ _ _ _ _
    refine LQ ?_
    show wpAny _ _ (ret Nq) _ _ _
    refine LQ ⟨rfl,h',tk',ks,rfl,r,mem,fun b o hb e=>mv.heap b o (fun hm=>?_) (LP _ (LP _ e))⟩
    rcases L7.1 hm with e | hm
    ·exact absurd e (MC hb)
    ·rcases L7.1 hm with e | hm
     ·rw [sz] at e
      exact absurd e (MC (NB hb))
     ·exact nomatch hm
   ·cases r with
    | error e=>exact hz
    | ok fl=>
     cases fl with
     | next=>exact hz.elim
     | brk=>exact hz.elim
     | cont=>exact hz.elim
     | ret r=>
      obtain ⟨rfl,h',tk,ks,rfl,r1,r2,r3⟩:=hz
      repeat (any_goals (first | assumption | wp_step))
      exact q _ _ ks r1 r2 r3
end
end
section
open PySem.Spec
theorem fF:Slot "set_iterator" "__next__" "set_iterator.__next__":=by
 refine Slot.of (owner:="set_iterator") (n:="__next__") ?_ ?_ ?_ ?_ ?_ ?_
 ·rw [QM,Pz]
  kernel_rfl
 ·decide +kernel
 ·decide +kernel
 ·decide +kernel
 ·first
   | exact .inl (by decide +kernel)
   | exact .inr (by decide +kernel)
 ·rw [SI]
  kernel_rfl
theorem Cr:Slot "set_iterator" "__iter__" "set_iterator.__iter__":=by
 refine Slot.of (owner:="set_iterator") (n:="__iter__") ?_ ?_ ?_ ?_ ?_ ?_
 ·rw [QM,Pz]
  kernel_rfl
 ·decide +kernel
 ·decide +kernel
 ·decide +kernel
 ·first
   | exact .inl (by decide +kernel)
   | exact .inr (by decide +kernel)
 ·rw [SI]
  kernel_rfl
theorem pU:entryFor table "set_iterator.__next__"=some Builtin.«set_iterator.__next__»:=by
 apply entryFor_of_tree
 kernel_rfl
theorem Hr:entryFor table "set_iterator.__iter__"=some Builtin.«dict_keyiterator.__iter__»:=by
 refine entryFor_alias (id':="dict_keyiterator.__iter__") ?_ rfl ?_ ?_
 ·kernel_rfl
 ·decide +kernel
 ·kernel_rfl
theorem JJ:entryFor table "set.__iter__"=some Builtin.«frozenset.__iter__»:=by
 refine entryFor_alias (id':="frozenset.__iter__") ?_ rfl ?_ ?_
 ·kernel_rfl
 ·decide +kernel
 ·kernel_rfl
theorem AW:Manifest.owners.lookup (String.ofList ['r','o','t','a','r','e','t','i','_','t','e','s'].reverse)=some Manifest.sig_set_iterator:=by kernel_rfl
theorem pV (a:Value):argsOk "set_iterator.__next__" ⟨[a],[]⟩:=by
 unfold argsOk
 rw [signature?_of (id:="set_iterator.__next__") (n:=['_','_','t','x','e','n','_','_']) (o:=['r','o','t','a','r','e','t','i','_','t','e','s']) (by kernel_rfl) AW]
 kernel_rfl
theorem Hs (a:Value):argsOk "set_iterator.__iter__" ⟨[a],[]⟩:=by
 unfold argsOk
 rw [signature?_of (id:="set_iterator.__iter__") (n:=['_','_','r','e','t','i','_','_']) (o:=['r','o','t','a','r','e','t','i','_','t','e','s']) (by kernel_rfl) AW]
 kernel_rfl
end
section
open PySem.Spec
noncomputable def SAt (h:Heap) (a:Addr) (es:Array (Int×Value)) (ep:Nat) (t:Mq):Prop:=∃ o,h.get? a=some o/\o.data=.set es ep t/\t.fits es.size=true
noncomputable def dS (h:Heap) (I a:Addr) (f:Value) (i n ep:Nat):Prop:=∃ o,h.get? I=some o/\o.cls=.type "set_iterator"/\o.data=.fields #[f,.int i 0,.ref a,.int n 0,.int ep 0]
theorem SAt.at {h h':Heap} {a:Addr} {es:Array (Int×Value)} {ep:Nat} {t:Mq} (x:SAt h a es ep t) (k:∀ o,h.get? a=some o->h'.get? a=some o):SAt h' a es ep t:=by
 obtain ⟨o,e,r⟩:=x
 exact ⟨o,k o e,r⟩
theorem dS.at {h h':Heap} {I a:Addr} {f:Value} {i n ep:Nat} (x:dS h I a f i n ep) (k:∀ o,h.get? I=some o->h'.get? I=some o):dS h' I a f i n ep:=by
 obtain ⟨o,e,r⟩:=x
 exact ⟨o,k o e,r⟩
theorem dS.type {s:Shared} {I a:Addr} {f:Value} {i n ep:Nat} (x:dS s.heap I a f i n ep):s.TypeIs (.ref I) "set_iterator":=by
 obtain ⟨o,e,c,_⟩:=x
 exact ⟨o,e,c⟩
theorem dS.set {h:Heap} {I a:Addr} {f g:Value} {i n ep:Nat} (x:dS h I a f i n ep):dS (h.update I (Rp (·.setIfInBounds 0 g))) I a g i n ep:=by
 obtain ⟨o,e,c,d⟩:=x
 refine ⟨_,MP _ e (Qu (OH d _)),(Rw ..).trans c,?_⟩
 rw [OH d]
 simp
theorem dS.step {h:Heap} {I a:Addr} {f:Value} {i n ep:Nat} (x:dS h I a f i n ep):dS (h.update I (Rp (·.setIfInBounds 1 (rawInt ((i:Int) + 1))))) I a f (i + 1) n ep:=by
 obtain ⟨o,e,c,d⟩:=x
 refine ⟨_,MP _ e (Qu (OH d _)),(Rw ..).trans c,?_⟩
 rw [OH d]
 simp [rawInt]
section
variable {prog:Program} {w:World} {A:Around} {E:Value->Shared->Prop} {s:Shared} {I a:Addr} {es:Array (Int×Value)} {ep:Nat} {t:Mq} {i:Nat}
theorem sR {Q:Bool->Shared->Prop} (q:Q (eI w) s):wpAny (model prog w) A setsByText Q E s:=by
 unfold setsByText
 apply LO
 apply RZ
 exact LQ q
theorem Cs {slot:Nat} {Q:Option (Value×Nat)->Shared->Prop} (b:eI w=true) (hs:SAt s.heap a es ep t) (q:Q ((P4 (w.params.setOrder a ep) es)[i]?.map fun e=>(e.2,slot)) s):wpAny (model prog w) A (setNext a slot i ep) Q E s:=by
 obtain ⟨o,g1,g3,ft⟩:=hs
 unfold setNext
 apply LO
 apply NC g1 g3 ft
 dsimp only
 apply LO
 apply sR
 rw [if_pos b,if_neg (by simp)]
 apply LO
 unfold setWalk
 apply LO
 apply NC g1 g3 ft
 dsimp only
 apply LO
 apply sR
 rw [if_pos b]
 apply LO
 apply RZ
 apply LQ
 exact LQ q
theorem Ct {slot:Nat} {Q:Option (Value×Nat)->Shared->Prop} (b:eI w=false) (pl:(!t.plain && decide (es.size > 1))=false) (ld:t.led=true) (hs:SAt s.heap a es ep t)
  (q:Q (match es[Mu t.place slot]?,t.place[Mu t.place slot]? with | some (_,x),some j=>some (x,j + 1) | _,_=>none) s):wpAny (model prog w) A (setNext a slot i ep) Q E s:=by
 obtain ⟨o,g1,g3,ft⟩:=hs
 unfold setNext
 apply LO
 apply NC g1 g3 ft
 dsimp only
 apply LO
 apply sR
 rw [if_neg (by rw [b]; exact Ma)]
 show wpAny _ _ (if (!t.plain && decide (es.size > 1))=true then _ else _) _ _ _
 rw [if_neg (by rw [pl]; exact Ma)]
 apply LO
 show wpAny _ _ (if (!t.led && !es.isEmpty)=true then _ else _) _ _ _
 rw [if_neg (by rw [ld]; simp)]
 apply LQ
 exact LQ q
theorem JK {p:Nat} {x:Int×Value} {Q:Value->Shared->Prop} (hs:SAt s.heap a es ep t) (hx:es[p]?=some x) (q:Q x.2 s):wpAny (model prog w) A (setNextDrawn a p ep) Q E s:=by
 obtain ⟨o,g1,g3,ft⟩:=hs
 unfold setNextDrawn
 apply LO
 apply NC g1 g3 ft
 dsimp only
 rw [if_neg (by simp),hx]
 exact LQ q
theorem Cu {slot nx:Nat} {x:Value} {Q:Option Value->Shared->Prop} (hit:dS s.heap I a (.int slot 0) i es.size ep) (hs:SAt s.heap a es ep t)
  (hx:∀ (A:Around) (E:Value->Shared->Prop) (Q:Option (Value×Nat)->Shared->Prop),Q (some (x,nx)) s->wpAny (model prog w) A (setNext a slot i ep) Q E s)
  (q:∀ h',dS h' I a (.int nx 0) (i + 1) es.size ep->Mm I s.heap h'->Q (some x) { s with heap:=h' }):wpAny (model prog w) A (pyNext (.ref I)) Q E s:=by
 obtain ⟨o,g1,g3,ft⟩:=id hs
 obtain ⟨u,e1,e2,e3⟩:=id hit
 unfold pyNext
 apply LO
 apply OR
 refine M0 (name:=Nw "__next__") hit.type fF ?_
 refine ML fF hit.type pU ?_ (pV _)
 refine LO (LQ ?_)
 refine LO (Q0 e1 e3 ?_)
 dsimp only
 apply LO
 unfold RH
 apply LO
 apply NC g1 g3 ft
 apply LQ
 rw [if_neg (by simp)]
 apply LO
 refine hx _ _ _ ?_
 dsimp only
 refine LO (OE e1 e3 (by simp) ?_)
 have it1:dS (s.heap.update I (Rp (·.setIfInBounds 0 (rawInt (nx:Int))))) I a (.int nx 0) i es.size ep:=hit.set
 obtain ⟨u',e1',e2',e3'⟩:=id it1
 refine LO (OE e1' e3' (by simp) ?_)
 exact LQ ⟨_,rfl,LQ (q _ it1.step ((M6 _ I _).trans (M6 _ I _)))⟩
theorem FW {slot:Nat} {Q:Option Value->Shared->Prop} (calm:A.handled=none) (hit:dS s.heap I a (.int slot 0) i es.size ep) (hs:SAt s.heap a es ep t)
  (hx:∀ (A:Around) (E:Value->Shared->Prop) (Q:Option (Value×Nat)->Shared->Prop),Q none s->wpAny (model prog w) A (setNext a slot i ep) Q E s)
  (q:∀ h',PL I s.heap h'->Q none { s with heap:=h' }):wpAny (model prog w) A (pyNext (.ref I)) Q E s:=by
 obtain ⟨o,g1,g3,ft⟩:=id hs
 obtain ⟨u,e1,e2,e3⟩:=id hit
 unfold pyNext
 apply LO
 apply OR
 refine M0 (name:=Nw "__next__") hit.type fF ?_
 refine ML fF hit.type pU ?_ (pV _)
 refine LO (LQ ?_)
 refine LO (Q0 e1 e3 ?_)
 dsimp only
 apply LO
 unfold RH
 apply LO
 apply NC g1 g3 ft
 apply LQ
 rw [if_neg (by simp)]
 apply LO
 refine hx _ _ _ ?_
 dsimp only
 refine LO (OE e1 e3 (by simp) ?_)
 show wpAny _ _ (newExc (.type "StopIteration") [] >>= _) _ _ _
 apply LO
 simp only [newExc,Uq]
 apply LO
 refine MY ?_ (by size_fits)
 apply LO
 refine Q2 (a:=Nq) (by rfl) ?_
 refine MY ?_ (by size_fits)
 simp only [raiseNew]
 refine LO (S4 ?_)
 rw [show A.in1.handled=none from calm]
 refine Ud ?_
 apply LO
 refine N9 (T:="StopIteration") (b:=true) ?_ P8 ?_
 ·exact ⟨_,L6 _ rfl,rfl⟩
 ·exact LQ (q _ (((M6 _ I _).extBut.push _).push _))
theorem Ht {d:Addr} {ps:Array Value} {p:Nat} {x:Int×Value} {Q:Option Value->Shared->Prop} (hit:dS s.heap I a (.ref d) i es.size ep) (hs:SAt s.heap a es ep t) (ht:s.heap.IsTuple d ps) (hp:ps[i]?=some (.int p 0)) (hx:es[p]?=some x)
  (q:∀ h',dS h' I a (.ref d) (i + 1) es.size ep->Mm I s.heap h'->Q (some x.2) { s with heap:=h' }):wpAny (model prog w) A (pyNext (.ref I)) Q E s:=by
 obtain ⟨o,g1,g3,ft⟩:=id hs
 obtain ⟨u,e1,e2,e3⟩:=id hit
 unfold pyNext
 apply LO
 apply OR
 refine M0 (name:=Nw "__next__") hit.type fF ?_
 refine ML fF hit.type pU ?_ (pV _)
 refine LO (LQ ?_)
 refine LO (Q0 e1 e3 ?_)
 dsimp only
 apply LO
 unfold RH
 apply LO
 apply NC g1 g3 ft
 apply LQ
 rw [if_neg (by simp)]
 obtain ⟨v,f1,f2,n,f3⟩:=id ht
 apply LO
 refine MV f1 f3 ?_
 dsimp only
 rw [show ((i:Int)).toNat=i from rfl,hp]
 dsimp only
 apply LO
 refine JK hs hx ?_
 refine LO (OE e1 e3 (by simp) ?_)
 exact LQ ⟨_,rfl,LQ (q _ hit.step (M6 _ I _))⟩
theorem JL {d:Addr} {ps:Array Value} {Q:Option Value->Shared->Prop} (calm:A.handled=none) (hit:dS s.heap I a (.ref d) i es.size ep) (hs:SAt s.heap a es ep t) (ht:s.heap.IsTuple d ps) (hp:ps[i]?=none)
  (q:∀ h',PL I s.heap h'->Q none { s with heap:=h' }):wpAny (model prog w) A (pyNext (.ref I)) Q E s:=by
 obtain ⟨o,g1,g3,ft⟩:=id hs
 obtain ⟨u,e1,e2,e3⟩:=id hit
 unfold pyNext
 apply LO
 apply OR
 refine M0 (name:=Nw "__next__") hit.type fF ?_
 refine ML fF hit.type pU ?_ (pV _)
 refine LO (LQ ?_)
 refine LO (Q0 e1 e3 ?_)
 dsimp only
 apply LO
 unfold RH
 apply LO
 apply NC g1 g3 ft
 apply LQ
 rw [if_neg (by simp)]
 obtain ⟨v,f1,f2,n,f3⟩:=id ht
 apply LO
 refine MV f1 f3 ?_
 dsimp only
 rw [show ((i:Int)).toNat=i from rfl,hp]
 dsimp only
 refine LO (OE e1 e3 (by simp) ?_)
 have it1:dS (s.heap.update I (Rp (·.setIfInBounds 0 (rawInt 0)))) I a (rawInt 0) i es.size ep:=hit.set
 obtain ⟨u',e1',e2',e3'⟩:=id it1
 refine LO (OE e1' e3' (by simp) ?_)
 show wpAny _ _ (newExc (.type "StopIteration") [] >>= _) _ _ _
 apply LO
 simp only [newExc,Uq]
 apply LO
 refine MY ?_ (by size_fits)
 apply LO
 refine Q2 (a:=Nq) (by rfl) ?_
 refine MY ?_ (by size_fits)
 simp only [raiseNew]
 refine LO (S4 ?_)
 rw [show A.in1.handled=none from calm]
 refine Ud ?_
 apply LO
 refine N9 (T:="StopIteration") (b:=true) ?_ P8 ?_
 ·exact ⟨_,L6 _ rfl,rfl⟩
 ·exact LQ (q _ ((((M6 _ I _).trans (M6 _ I _)).extBut.push _).push _))
theorem xv {f:Value} {n:Nat} {Q:Value->Shared->Prop} (hit:dS s.heap I a f i n ep) (q:Q (.ref I) s):wpAny (model prog w) A (pyIter (.ref I)) Q E s:=by
 refine T9 hit.type Cr ?_
 refine ML Cr hit.type Hr ?_ (Hs _)
 show wpAny _ _ (ret (.ref I)) _ _ s
 exact LQ ⟨_,rfl,"set_iterator",_,hit.type,fF.lookup,q⟩
end
end
section
open PySem.Spec
theorem xw {α:Type}:∀ (l:List α) (i:Nat) (h:i < l.length),Nz (l[i] :: l.eraseIdx i) l
 | x :: l,0,_=>.refl _
 | x :: l,i + 1,h=>(Nz.swap x _ _).trans (.cons x (xw l i (Nat.lt_of_succ_lt_succ h)))
theorem Cv {α:Type} (next:Nat->Nat):∀ (fuel k:Nat) (left:List α) (out:Array α),left.length=fuel->Nz (P4.go next fuel k left out).toList (out.toList++left)
 | 0,k,left,out,h=>by
  obtain rfl:=O7.mp h
  rw [Nm]
  exact .refl _
 | fuel + 1,k,left,out,h=>by
  have hl:next k % left.length < left.length:=Nat.mod_lt _ (by omega)
  show Nz (match left[next k % left.length]? with | some x=>P4.go next fuel (k + 1) (left.eraseIdx (next k % left.length)) (out.push x) | none=>out).toList _
  rw [LS hl]
  refine (Cv next fuel (k + 1) _ _ (by rw [Rq hl,h]; rfl)).trans ?_
  rw [RB,Rv]
  exact Nz.append_left _ (xw _ _ hl)
theorem rO {α:Type} (next:Nat->Nat) (xs:Array α):Nz (P4 next xs).toList xs.toList:=Cv next xs.size 0 xs.toList #[] (by simp)
section
variable {prog:Program} {w:World} {A:Around} {E:Value->Shared->Prop} {s:Shared} {I a:Addr} {es:Array (Int×Value)} {ep:Nat} {t:Mq} {i:Nat}
theorem Hu {src:Source} {n:Nat} {Q:Nat->Shared->Prop} (hn:n≠0) (q:∀ i dr,i < n->Q i { s with drawn:=dr }):wpAny (model prog w) A (choose src n) Q E s:=fun _ _ _=>⟨hn,q _ _ (Nat.mod_lt _ (Re hn))⟩
theorem yw {α:Type}:∀ (n:Nat) (xs:List α) (s:Shared) (Q:List α->Shared->Prop),xs.length=n->(∀ ys dr,Nz ys xs->Q ys { s with drawn:=dr })->wpAny (model prog w) A (drawOrder n xs) Q E s
 | 0,xs,s,Q,h,q=>by
  obtain rfl:=O7.mp h
  exact LQ (q [] s.drawn .nil)
 | n + 1,[],s,Q,h,q=>nomatch h
 | n + 1,x :: xs,s,Q,h,q=>by
  unfold drawOrder
  apply LO
  refine Hu (by simp) fun i dr hi=>?_
  rw [LS hi]
  dsimp only
  apply LO
  refine yw n _ _ _ (by rw [Rq hi,h]; rfl) fun ys dr' p=>?_
  exact LQ (q _ _ ((Nz.cons _ p).trans (xw _ _ hi)))
noncomputable abbrev Ord (ord:List (Int×Value)) (i:Nat) (v:Value):Prop:=∃ e,ord[i]?=some e/\e.2=v
theorem JM (calm:A.handled=none) (b:eI w=true) (hne:a≠I):
  Walks prog w A I [I,a] [I] es.size (Ord (P4 (w.params.setOrder a ep) es).toList) (fun i h=>(∃ slot:Nat,dS h I a (.int slot 0) i es.size ep)/\SAt h a es ep t) where
 sub:=fun b hb=>by
  rw [LW.mp hb]
  exact Mc
 frame:=fun i h h' st k=>⟨st.1.elim fun n z=>⟨n,z.at (k I Mc)⟩,st.2.at (k a (Mh _ Mc))⟩
 item:=fun i s Q E hi st q=>by
  obtain ⟨⟨slot,it⟩,hs⟩:=st
  have len:=(rO (w.params.setOrder a ep) es).length_eq
  have hl:i < (P4 (w.params.setOrder a ep) es).size:=by
   rw [<-ME,len,ME]
   exact hi
  refine Cu (x:=(P4 (w.params.setOrder a ep) es)[i].2) (nx:=slot) it hs (fun A E Q h=>Cs b hs ?_) fun h' it' sb=>?_
  ·rw [N5 hl]
   exact h
  ·refine q _ h' s.toks ⟨_,?_,rfl⟩ ⟨⟨slot,it'⟩,hs.at fun o e=>?_⟩ fun c o hc e=>?_
   ·rw [ON,N5 hl]
   ·exact sb.extBut a o hne e
   ·exact sb.extBut c o (fun z=>hc (by rw [z]; exact Mc)) e
 done:=fun s Q E st q=>by
  obtain ⟨⟨slot,it⟩,hs⟩:=st
  have len:=(rO (w.params.setOrder a ep) es).length_eq
  have hl:(P4 (w.params.setOrder a ep) es).size<=es.size:=by
   rw [<-ME,len,ME]
   exact LV _
  refine FW calm it hs (fun A E Q h=>Cs b hs ?_) fun h' xb=>q h' s.toks fun c o hc e=>?_
  ·rw [Ql hl]
   exact h
  ·exact xb c o (fun z=>hc (by rw [z]; exact Mc)) e
 self:=fun i s Q E st q=>st.1.elim fun n z=>xv z q
noncomputable def uG (t:Mq):Nat->Nat
 | 0=>0
 | j + 1=>t.place.getD j 0 + 1
theorem v4 (rs:Rs t.place.toList):∀ i,i<=t.place.size->Mu t.place (uG t i)=i
 | 0,_=>Dq _ rs
 | j + 1,h=>by
  have hj:j < t.place.size:=h
  have hj':j < t.place.toList.length:=by simpa using hj
  have e:uG t (j + 1)=t.place.toList[j] + 1:=by rw [uG,yu _ _ _ hj]
  rw [e]
  exact Dp _ rs hj'
theorem JN (calm:A.handled=none) (b:eI w=false) (pl:(!t.plain && decide (es.size > 1))=false) (ld:t.led=true) (rs:Rs t.place.toList) (sz:t.place.size=es.size) (hne:a≠I):
  Walks prog w A I [I,a] [I] es.size (Ord es.toList) (fun i h=>dS h I a (.int (uG t i:Nat) 0) i es.size ep/\SAt h a es ep t) where
 sub:=fun b hb=>by
  rw [LW.mp hb]
  exact Mc
 frame:=fun i h h' st k=>⟨st.1.at (k I Mc),st.2.at (k a (Mh _ Mc))⟩
 item:=fun i s Q E hi st q=>by
  obtain ⟨it,hs⟩:=st
  have hp:i < t.place.size:=by rw [sz]; exact hi
  refine Cu (x:=es[i].2) (nx:=uG t (i + 1)) it hs (fun A E Q h=>Ct b pl ld hs ?_) fun h' it' sb=>?_
  ·rw [v4 rs i (M8 hp),N5 hi,N5 hp]
   have e:uG t (i + 1)=t.place[i] + 1:=by
    rw [uG,SY,dif_pos hp]
    rfl
   rw [e] at h
   exact h
  ·refine q _ h' s.toks ⟨_,?_,rfl⟩ ⟨it',hs.at fun o e=>?_⟩ fun c o hc e=>?_
   ·rw [ON,N5 hi]
   ·exact sb.extBut a o hne e
   ·exact sb.extBut c o (fun z=>hc (by rw [z]; exact Mc)) e
 done:=fun s Q E st q=>by
  obtain ⟨it,hs⟩:=st
  refine FW calm it hs (fun A E Q h=>Ct b pl ld hs ?_) fun h' xb=>q h' s.toks fun c o hc e=>?_
  ·rw [v4 rs es.size (by rw [sz]; exact LV _),Ql (LV _)]
   exact h
  ·exact xb c o (fun z=>hc (by rw [z]; exact Mc)) e
 self:=fun i s Q E st q=>xv st.1 q
theorem pG (es:Array (Int×Value)):((Mn es.size).map fun p=>es.getD p (0,.none))=es.toList:=by
 apply List.ext_getElem
 ·simp
 ·intro i h1 h2
  have hi:i < es.size:=by simpa using h2
  rw [List.getElem_map,Rb,SY,dif_pos hi]
  simp
theorem JO (calm:A.handled=none) {d:Addr} {ps:List Nat} (pm:Nz ps (Mn es.size)) (hne:a≠I) (hd:d≠I):
  Walks prog w A I [I,a,d] [I] es.size (Ord (ps.map fun p=>es.getD p (0,.none))) (fun i h=>dS h I a (.ref d) i es.size ep/\SAt h a es ep t/\h.IsTuple d (ps.map fun p=>OW (p:Nat) 0).toArray) where
 sub:=fun b hb=>by
  rw [LW.mp hb]
  exact Mc
 frame:=fun i h h' st k=>⟨st.1.at (k I Mc),st.2.1.at (k a (Mh _ Mc)),st.2.2.at (k d (Mh _ (Mh _ Mc)))⟩
 item:=fun i s Q E hi st q=>by
  obtain ⟨it,hs,ht⟩:=st
  have len:=pm.length_eq
  rw [MU] at len
  have hl:i < ps.length:=by rw [len]; exact hi
  have lt:ps[i] < es.size:=ND.mp (pm.mem_iff.mp (O3 hl))
  refine Ht (p:=ps[i]) (x:=es[ps[i]]) it hs ht ?_ (N5 lt) fun h' it' sb=>?_
  ·rw [SJ,LX,LS hl]
   rfl
  ·refine q _ h' s.toks ⟨_,?_,rfl⟩ ⟨it',hs.at fun o e=>?_,ht.at fun o e=>?_⟩ fun c o hc e=>?_
   ·rw [LX,LS hl]
    show some (es.getD ps[i] (0,.none))=_
    rw [SY,dif_pos lt]
    rfl
   ·exact sb.extBut a o hne e
   ·exact sb.extBut d o hd e
   ·exact sb.extBut c o (fun z=>hc (by rw [z]; exact Mc)) e
 done:=fun s Q E st q=>by
  obtain ⟨it,hs,ht⟩:=st
  have len:=pm.length_eq
  refine JL calm it hs ht ?_ fun h' xb=>q h' s.toks fun c o hc e=>?_
  ·apply Ql
   simp [len]
  ·exact xb c o (fun z=>hc (by rw [z]; exact Mc)) e
 self:=fun i s Q E st q=>xv st.1 q
end
end
section
open PySem.Spec
theorem cu.get {α β:Type} {F:α->β->Prop} {l:List α} {m:List β} (h:cu F l m):∀ {i:Nat} {b:β},m[i]?=some b->∃ a,l[i]?=some a/\F a b:=by
 induction h with
 | nil=>intro i b e; cases e
 | cons r _ ih=>
  intro i b e
  cases i with
  | zero=>
   obtain rfl:_=b:=L9 e
   exact ⟨_,rfl,r⟩
  | succ i=>exact ih e
section
variable {prog:Program} {w:World} {K:Type} [DecidableEq K] {knd:KeyKind prog w K} {A:Around} {E:Value->Shared->Prop} {s:Shared} {I a:Addr} {es:Array (Int×Value)} {ep:Nat} {t:Mq} {i:Nat}
theorem uH {fp wr:List Addr} {n:Nat} {P P':Nat->Value->Prop} {St:Nat->Heap->Prop} (W:Walks prog w A I fp wr n P St) (f:∀ i v,P i v->P' i v):Walks prog w A I fp wr n P' St where
 sub:=W.sub
 frame:=W.frame
 item:=fun i s Q E hi st q=>W.item i s Q E hi st fun v h' tk pv=>q v h' tk (f i v pv)
 done:=W.done
 self:=W.self
noncomputable abbrev dD (knd:KeyKind prog w K) (ord:List K) (i:Nat) (v:Value):Prop:=∃ k,ord[i]?=some k/\knd.is k v=true
theorem xy {ks:List K} {l m:List (Int×Value)} (pr:cu (Ent knd) ks m) (p:Nz l m):∃ ord,Nz ord ks/\∀ i v,Ord l i v->dD knd ord i v:=by
 obtain ⟨ord,q,pr'⟩:=cu.perm p.symm pr
 refine ⟨ord,q.symm,fun i v h=>?_⟩
 obtain ⟨e,he,rfl⟩:=h
 obtain ⟨k,hk,r⟩:=pr'.get he
 exact ⟨k,hk,r.1⟩
noncomputable abbrev itO (f:Value) (a:Addr) (n ep:Nat):Obj:={ cls:=.type "set_iterator",data:=.fields #[f,.int (0:Nat) 0,.ref a,.int n 0,.int ep 0] }
theorem Cw {f:Value} {F:Fin->Shared->Prop} (hs:SAt s.heap a es ep t) (q:F (.done (.ret (.ref s.heap.objs.size))) { s with heap:=s.heap.push (itO f a es.size ep) }):
  wpAny (model prog w) A (do ret (<-newFields "set_iterator" [f,rawInt 0,.ref a,rawInt es.size,rawInt (<-setEpoch a)])) F E s:=by
 obtain ⟨o,g1,g3,ft⟩:=hs
 apply LO
 refine wpAny_setEpoch_of g1 g3 ft ?_
 apply LO
 unfold newFields
 refine MY ?_
 exact LQ q
theorem Hv {ks:List K} {Q:Value->Shared->Prop} (calm:A.handled=none) (r:dO knd s.heap a ks (!eI w))
  (q:∀ (I:Addr) (h':Heap) (dr) (fp:List Addr) (St:Nat->Heap->Prop) (ord:List K),Nz ord ks->Walks prog w A I fp [I] ks.length (dD knd ord) St->St 0 h'->(∀ b∈fp,b < h'.objs.size)->(∀ b∈fp,b=a\/s.heap.objs.size<=b)->s.heap.objs.size<=I->I∈fp->(∀ b o,s.heap.get? b=some o->h'.get? b=some o)->Q (.ref I) { s with heap:=h',drawn:=dr }):
  wpAny (model prog w) A (pyIter (.ref a)) Q E s:=by
 obtain ⟨o,es,ep,t,g1,g2,g3,pr,nd,sb,ft,rs,ld⟩:=id r
 have hs:SAt s.heap a es ep t:=⟨o,g1,g3,ft⟩
 have ty:s.TypeIs (.ref a) "set":=⟨o,g1,g2.1⟩
 have len:es.size=ks.length:=by rw [pr.len,ME]
 have lt:a < s.heap.objs.size:=L5 g1
 rw [<-len] at q
 have sz:t.place.size=es.size:=by
  simp only [Mq.fits,NM,beq_iff_eq] at ft
  exact ft.1
 refine T9 ty SK ?_
 refine ML SK ty JJ ?_ (PySem.F.args_set_iter_1 _)
 unfold Builtin.«frozenset.__iter__»
 refine LO (LQ ?_)
 apply LO
 unfold Builtin.Frozenset.sizeOf
 apply LO
 unfold RH
 apply LO
 apply NC g1 g3 ft
 apply LQ
 apply LQ
 apply LO
 unfold setDrawn
 apply LO
 apply NC g1 g3 ft
 dsimp only
 apply LO
 apply sR
 apply LQ
 show wpAny _ _ (if (!eI w && (!t.plain && decide (es.size > 1)))=true then _ else _) _ _ _
 by_cases c:(!eI w && (!t.plain && decide (es.size > 1)))=true
 ·rw [if_pos c]
  apply LO
  refine yw _ _ _ _ MU fun ps dr pm=>?_
  apply LO
  refine SE ?_ (by rw [LR,pm.length_eq,MU]; exact MD (M8 sb) (by decide))
  have pz:=MG s.heap { cls:=.type "tuple",data:=.seq (ps.map fun (i:Nat)=>rawInt i).toArray }
  have hs1:=hs.at (h':=s.heap.push { cls:=.type "tuple",data:=.seq (ps.map fun (i:Nat)=>rawInt i).toArray }) fun o e=>LP _ e
  have tu:(s.heap.push { cls:=.type "tuple",data:=.seq (ps.map fun (i:Nat)=>rawInt i).toArray }).IsTuple s.heap.objs.size (ps.map fun p=>OW (p:Nat) 0).toArray:=⟨_,L6 _ rfl,rfl,0,rfl⟩
  have kp0:∀ b o,s.heap.get? b=some o->(s.heap.push { cls:=.type "tuple",data:=.seq (ps.map fun (i:Nat)=>rawInt i).toArray }).get? b=some o:=fun b o e=>LP _ e
  generalize s.heap.push { cls:=.type "tuple",data:=.seq (ps.map fun (i:Nat)=>rawInt i).toArray }=hp at *
  have lt1:a < hp.objs.size:=by rw [pz]; exact NB lt
  have kp:∀ b o,s.heap.get? b=some o->hp.get? b=some o:=kp0
  refine Cw (s:={ s with drawn:=dr,heap:=hp }) hs1 ⟨_,rfl,"set_iterator",_,⟨_,L6 _ rfl,rfl⟩,fF.lookup,?_⟩
  obtain ⟨ord,p1,p2⟩:=xy pr (l:=ps.map fun p=>es.getD p (0,.none)) (by rw [<-pG es]; exact pm.map _)
  refine q hp.objs.size _ dr [hp.objs.size,a,s.heap.objs.size] _ ord p1 (uH (JO (A:=A) (es:=es) (ep:=ep) (t:=t) calm pm (MC lt1) (d:=s.heap.objs.size) (MC (by rw [pz]; exact Nv _))) p2) ⟨⟨_,L6 _ rfl,rfl,rfl⟩,hs1.at fun o e=>LP _ e,tu.push _⟩ (fun b hb=>?_) (fun b hb=>?_) (by rw [pz]; exact OG _) Mc fun b o e=>LP _ (kp b o e)
  ·rw [MG]
   rcases L7.mp hb with e | hb
   ·rw [e]
    exact Nv _
   ·rcases L7.mp hb with e | hb
    ·rw [e]
     exact NB lt1
    ·rw [LW.mp hb,pz]
     exact NB (Nv _)
  ·rcases L7.mp hb with e | hb
   ·exact .inr (by rw [e,pz]; exact OG _)
   ·rcases L7.mp hb with e | hb
    ·exact .inl e
    ·exact .inr (by rw [LW.mp hb]; exact LV _)
 ·rw [if_neg c]
  apply LO
  apply LQ
  refine Cw hs ⟨_,rfl,"set_iterator",_,⟨_,L6 _ rfl,rfl⟩,fF.lookup,?_⟩
  have it0:dS (s.heap.push (itO (rawInt 0) a es.size ep)) s.heap.objs.size a (.int (0:Nat) 0) 0 es.size ep:=⟨_,L6 _ rfl,rfl,rfl⟩
  have hs0:SAt (s.heap.push (itO (rawInt 0) a es.size ep)) a es ep t:=hs.at fun o e=>LP _ e
  have inb:∀ b∈[s.heap.objs.size,a],b < (s.heap.push (itO (rawInt 0) a es.size ep)).objs.size:=fun b hb=>by
   rw [MG]
   rcases L7.mp hb with e | hb
   ·rw [e]
    exact Nv _
   ·rw [LW.mp hb]
    exact NB lt
  have out:∀ b∈[s.heap.objs.size,a],b=a\/s.heap.objs.size<=b:=fun b hb=>by
   rcases L7.mp hb with e | hb
   ·exact .inr (by rw [e]; exact LV _)
   ·exact .inl (LW.mp hb)
  cases b:eI w with
  | true=>
   obtain ⟨ord,p1,p2⟩:=xy pr (rO (w.params.setOrder a ep) es)
   refine q s.heap.objs.size _ s.drawn _ _ ord p1 (uH (JM (A:=A) (es:=es) (ep:=ep) (t:=t) calm b (MC lt)) p2) ⟨⟨0,it0⟩,hs0⟩ inb out (LV _) Mc fun b o e=>LP _ e
  | false=>
   have pl:(!t.plain && decide (es.size > 1))=false:=by
    rw [b] at c
    simpa using c
   have l1:t.led=true:=by rw [ld,b]; rfl
   obtain ⟨ord,p1,p2⟩:=xy pr (Nz.refl es.toList)
   refine q s.heap.objs.size _ s.drawn _ _ ord p1 (uH (JN (A:=A) (es:=es) (ep:=ep) (t:=t) calm b pl l1 rs sz (MC lt)) p2) ⟨it0,hs0⟩ inb out (LV _) Mc fun b o e=>LP _ e
end
end
section
open PySem.Spec PySem.W
section
variable {prog:Program} {w:World} {K:Type} [DecidableEq K] {knd:KeyKind prog w K} {A:Around} {E:Value->Shared->Prop} {s:Shared} {a:Addr}
theorem Hw {Q:Bool->Shared->Prop} (ty:s.TypeIs (.ref a) "set") (q:Q false s):wpAny (model prog w) A (OJ (.ref a)) Q E s:=by
 unfold OJ
 apply LO
 refine NI ty PySem.F.slot_set_len.lookup ?_
 generalize hid:("set.__len__":String)=nm
 wp_delta
 rw [show splitId nm=some ("set","__len__") from by subst hid; decide +kernel]
 subst hid
 apply LO
 refine N9 (T:="set") (b:=true) ty (by rw [SI]; kernel_rfl) ?_
 refine Sj (fun z=>absurd z (by decide)) fun _=>?_
 refine Sj (fun _=>?_) fun z=>absurd (by decide +kernel) z
 apply LO
 refine RN ty ?_
 exact LQ q
theorem dO.type {ks:List K} {led:Bool} (r:dO knd s.heap a ks led):s.TypeIs (.ref a) "set":=by
 obtain ⟨o,es,ep,t,g1,g2,_⟩:=r
 exact ⟨o,g1,g2.1⟩
theorem dO.small {h:Heap} {ks:List K} {led:Bool} (r:dO knd h a ks led):ks.length < P3:=by
 obtain ⟨o,es,ep,t,g1,g2,g3,pr,nd,sb,_⟩:=r
 rw [pr.len,ME]
 exact sb
theorem Ds {ks:List K} {R:Result->Shared->Prop} (calm:A.handled=none) (r:dO knd s.heap a ks (!eI w)) (S:Addr) (ne:S≠a) (hS:s.heap.get? S=some { cls:=.type "list",data:=.seq #[] })
  (q:∀ (s':Shared) h' dr tk ord acc c,s'={ s with heap:=h',drawn:=dr,toks:=tk }->Nz ord ks->(∀ b o,b≠S->s.heap.get? b=some o->h'.get? b=some o)->h'.get? S=some { cls:=.type "list",dict:=none,data:=.seq acc c,slots:=#[] }->ItemsOf (dD knd ord) acc ks.length->R (.ok (.ret (.ref S))) s'):
  wpAny (model prog w) A.in1 (NA (.ref S) (.ref a) (.ref S)) (fun fin s'=>match fin with | .done f=>R (.ok f) s' | .again c'=>c'.quiet=true/\codeAny (model prog w) A c' R s') (fun e s'=>R (.error e) s') s:=by
 have hn:ks.length<=Mb:=MD (M8 r.small) (by decide)
 unfold NA
 apply LO
 refine RN (T:="set") r.type ?_
 have h1:O4 (.ref S) (.ref a)=false:=by simp [O4,ne]
 have h2:(Nr "set" == Nr "list")=false:=by decide
 have h3:(Nr "set" == Nr "tuple")=false:=by decide
 simp only [h1,h2,h3,Bool.or_false,M4,if_false]
 apply LO
 refine Hv (A:=A.in1) calm r fun I h' dr fp St ord pm W st inb out ge Ifp kp=>?_
 have hS1:=kp _ _ hS
 have lS:S < s.heap.objs.size:=L5 hS
 have r1:dO knd h' a ks (!eI w):=r.at fun o e=>kp a o e
 have nS:S∉fp:=fun hm=>by
  rcases out S hm with z | z
  ·exact ne z
  ·exact absurd lS (RF.mpr z)
 have loop:∀ (h2:Heap) (c:Nat),(∀ b o,b≠S->h'.get? b=some o->h2.get? b=some o)->h2.get? S=some { cls:=.type "list",dict:=none,data:=.seq #[] c,slots:=#[] }->codeAny (model prog w) A (.builtin "list.extend.loop" ⟨[.ref S,.ref I,.ref S],[]⟩) R { s with heap:=h2,drawn:=dr }:=fun h2 c k2 e2=>by
  refine codeAny_extend_loopS W.toS hn S nS (.ref S) ks.length 0 _ #[] c rfl (M7 _) (W.frame 0 _ _ st fun b hb o e=>k2 b o (fun z=>nS (z ▸ hb)) e) e2 (ItemsOf.nil _) fun s' acc c' mv e3 it=>?_
  rw [Moved.eq_with mv]
  refine q _ s'.heap dr s'.toks ord acc c' rfl pm (fun b o hb e=>mv.heap b o (fun hm=>?_) (k2 b o hb (kp b o e))) e3 it
  rcases L7.mp hm with z | hm
  ·exact hb z
  ·rw [LW.mp hm] at e
   exact absurd (L5 e) (RF.mpr ge)
 apply LO
 apply Nf
 refine Hw (s:={ s with heap:=h',drawn:=dr }) r1.type ?_
 refine Sj (fun _=>?_) fun _=>?_
 ·apply LO
  apply Of
  apply LO
  show wpAny _ _ (P5 S (·.push .none) >>= fun _=>P5 S (·.pop)) _ _ _
  apply LO
  refine Om hS1 rfl ?_
  have hS2:=MP (Nt (·.push Nq)) hS1 rfl
  refine Om (hz:=by seq_fits) hS2 rfl ?_
  have hS3:=MP (Nt (·.pop)) hS2 rfl
  refine LQ ⟨NW N6 _,loop _ _ (fun b o hb e=>?_) hS3⟩
  rw [MR _ _ (Np hb),MR _ _ (Np hb)]
  exact e
 ·exact LQ ⟨NW N6 _,loop _ _ (fun b o hb e=>e) hS1⟩
theorem BM {ks:List K} {R:List Value->Shared->Prop} (calm:A.handled=none) (r:dO knd s.heap a ks (!eI w))
  (q:∀ h' dr tk ord (acc:Array Value),Nz ord ks->(∀ b o,s.heap.get? b=some o->h'.get? b=some o)->s.heap.objs.size < h'.objs.size->ItemsOf (dD knd ord) acc ks.length->R acc.toList { s with heap:=h',drawn:=dr,toks:=tk }):
  wpAny (model prog w) A (collect (.ref a)) R E s:=by
 have lt:a < s.heap.objs.size:=by
  obtain ⟨o,es,ep,t,g1,_⟩:=r
  exact L5 g1
 unfold collect
 apply LO
 apply wpAny_runValue
 apply NK entry_proto_collect'
 rw [Nl PySem.F.plain_proto_collect _]
 show wpAny _ A.in1 (newList [] >>= fun l=>again (.builtin "list.__iadd__" ⟨[l,.ref a],[]⟩)) _ _ s
 apply LO
 refine MY ?_
 refine LQ ⟨NW R8 _,?_⟩
 apply NK entry_list_iadd'
 rw [Nl R8 _]
 show wpAny _ A.in1 (NA (.ref s.heap.objs.size) (.ref a) (.ref s.heap.objs.size)) _ _ _
 have key:=Ds (A:=A) (s:={ s with heap:=s.heap.push { cls:=.type "list",data:=.seq ([]:List Value).toArray } })
  (R:=fun (u:Result) (s':Shared)=>∃ h' dr tk ord acc c,u=.ok (.ret (.ref s.heap.objs.size))/\s'={ s with heap:=h',drawn:=dr,toks:=tk }/\Nz ord ks/\(∀ b o,s.heap.get? b=some o->h'.get? b=some o)/\
   h'.get? s.heap.objs.size=some { cls:=.type "list",dict:=none,data:=.seq acc c,slots:=#[] }/\ItemsOf (dD knd ord) acc ks.length)
  calm (r.at fun o e=>LP _ e) s.heap.objs.size (On lt) (L6 _ rfl)
  fun s' h' dr tk ord acc c e pm kp e3 it=>⟨h',dr,tk,ord,acc,c,rfl,e,pm,fun b o eb=>kp b o (MC (L5 eb)) (LP _ eb),e3,it⟩
 refine NO key (fun fin s' x=>?_) fun e s' x=>?_
 ·cases fin with
  | done f=>
   obtain ⟨h',dr,tk,ord,acc,c,e,rfl,pm,kp,e3,it⟩:=x
   cases e
   show wpAny _ A (load s.heap.objs.size >>= _) _ _ _
   apply LO
   refine UG e3 ?_
   exact LQ (q h' dr tk ord acc pm kp (L5 e3) it)
  | again c1=>
   refine ⟨x.1,Pt x.2 fun u s2 y=>?_⟩
   obtain ⟨h',dr,tk,ord,acc,c,rfl,rfl,pm,kp,e3,it⟩:=y
   show wpAny _ A (load s.heap.objs.size >>= _) _ _ _
   apply LO
   refine UG e3 ?_
   exact LQ (q h' dr tk ord acc pm kp (L5 e3) it)
 ·obtain ⟨h',dr,tk,ord,acc,c,e',_⟩:=x
  cases e'
end
end
section
open PySem.Spec
section
variable {X:Cx}
end
end
section
open PySem.Spec
section
variable {prog:Program} {w:World} {A:Around} {R:Result->Shared->Prop} {I:Addr} {fp wr:List Addr} {n:Nat} {P:Nat->Value->Prop} {St:Nat->Heap->Prop} {kw:List (Str×Value)}
theorem FX (W:Walks prog w A.in1 I fp wr n P St) (S:Addr) (hSf:S∉fp) (hn:n=0) {s:Shared} {c:Nat} {k:Str} {d:Value} (hst:St 0 s.heap) (hS:s.heap.get? S=some ⟨.type "list",none,.seq #[] c,#[]⟩)
  (hR:∀ h' tk,(∀ b o,b∉wr->b≠S->s.heap.get? b=some o->h'.get? b=some o)->R (.ok (.ret d)) { s with heap:=h',toks:=tk }):
  codeAny (model prog w) A (.builtin "min.loop" ⟨[.ref I,.none,.ref S],[(k,d)]⟩) R s:=by
 have hSw:S∉wr:=fun h=>hSf (W.sub _ h)
 refine NK Pm ?_
 rw [Nl Nu _]
 (show wpAny _ A.in1 (Q7 (.ref S) >>= _) _ _ s); refine LO (MV hS rfl ?_)
 (show wpAny _ A.in1 (tryCatch (pyNext (.ref I)) _ >>= _) _ _ s)
 refine LO (P9 (W.done s _ _ (hn ▸ hst) fun h' tk hk'=>?_))
 refine LO (Of (LQ ?_))
 exact hR _ _ fun b o hb hbS e=>hk' b o hb e
theorem FY (W:Walks prog w A.in1 I fp wr n P St) (bt:Nat->Nat->Bool) (hcmp:CmpOf prog w A.in1 .Lt P bt) (S:Addr) (hSf:S∉fp):
  ∀ (k j:Nat) (s:Shared) (vb:Value) (c:Nat),n - (j + 1)=k->j + 1<=n->St (j + 1) s.heap->P (argBest bt j) vb->s.heap.get? S=some ⟨.type "list",none,.seq #[vb,vb] c,#[]⟩->
  (∀ v h' tk,P (argBest bt (n - 1)) v->(∀ b o,b∉wr->b≠S->s.heap.get? b=some o->h'.get? b=some o)->R (.ok (.ret v)) { s with heap:=h',toks:=tk })->
  codeAny (model prog w) A (.builtin "min.loop" ⟨[.ref I,.none,.ref S],kw⟩) R s:=by
 have hSw:S∉wr:=fun h=>hSf (W.sub _ h)
 have nm:(toString "min"++toString ".loop":String)="min.loop":=by decide
 intro k
 induction k with
 | zero=>
  intro j s vb c hk hj hst hPb hS hR
  have hin:j + 1=n:=by omega
  refine NK Pm ?_
  rw [Nl Nu _]
  (show wpAny _ A.in1 (Q7 (.ref S) >>= _) _ _ s); refine LO (MV hS rfl ?_)
  (show wpAny _ A.in1 (tryCatch (pyNext (.ref I)) _ >>= _) _ _ s)
  refine (LO (P9 (W.done s _ _ (hin ▸ hst) fun h' tk hk'=>?_)))
  have hT:=hk' S _ hSw hS
  (show wpAny _ A.in1 (P5 S (fun _=>#[]) >>= _) _ _ _); refine LO ?_
  refine (Om hT rfl (LO (Pj (LQ ?_))))
  exact hR vb _ tk (by rw [<-hin]; exact hPb) fun b o hbw hbS e=>(MR _ _ (Np hbS)).trans (hk' b o hbw e)
 | succ k ih=>
  intro j s vb c hk hj hst hPb hS hR
  have hlt:j + 1 < n:=by omega
  refine NK Pm ?_
  rw [Nl Nu _]
  (show wpAny _ A.in1 (Q7 (.ref S) >>= _) _ _ s); refine LO (MV hS rfl ?_)
  (show wpAny _ A.in1 (tryCatch (pyNext (.ref I)) _ >>= _) _ _ s)
  refine (LO (P9 (W.item (j + 1) s _ _ hlt hst fun v h' tk hP hst' hk'=>?_)))
  have hT:=hk' S _ hSw hS
  (show wpAny _ A.in1 (tryCatch (holding [v,v] (richCompare .Lt v vb >>= _)) _ >>= _) _ _ _)
  refine (LO (P9 (Nf (LO (hcmp (j + 1) (argBest bt j) v vb _ _ _ hP hPb ?_)))))
  refine (LO (Nf (NY ?_))); refine (LO (Pj (LQ ?_)))
  cases hb:bt (j + 1) (argBest bt j) with
  | true=>
   simp only [if_true]
   refine LO ?_
   refine (Om hT rfl (LO (Pj ?_)))
   rw [nm]
   refine LQ ⟨NW Nu _,ih (j + 1) _ v _ (by omega) hlt (W.frame _ _ _ hst' fun b hbf o e=>?_) (by (simp only [argBest,hb,if_true]); exact hP) (MP _ hT rfl) fun v' h'' tk'' hP' hk''=>?_⟩
   ·exact (MR _ _ (fun z:S=b=>hSf (by rw [z]; exact hbf))).trans e
   ·exact hR v' h'' tk'' hP' fun b o hbw hbS e=>hk'' b o hbw hbS ((MR _ _ (Np hbS)).trans (hk' b o hbw e))
  | false=>
   simp only [M4,if_false]
   refine LO (Pj ?_)
   rw [nm]
   refine LQ ⟨NW Nu _,ih (j + 1) _ vb c (by omega) hlt hst' (by (simp only [argBest,hb,M4,if_false]); exact hPb) hT fun v' h'' tk'' hP' hk''=>?_⟩
   exact hR v' h'' tk'' hP' fun b o hbw hbS e=>hk'' b o hbw hbS (hk' b o hbw e)
theorem Dt (W:Walks prog w A.in1 I fp wr n P St) (bt:Nat->Nat->Bool) (hcmp:CmpOf prog w A.in1 .Lt P bt) (S:Addr) (hSf:S∉fp) (hn:0 < n) {s:Shared} {c:Nat} (hst:St 0 s.heap) (hS:s.heap.get? S=some ⟨.type "list",none,.seq #[] c,#[]⟩)
  (hR:∀ v h' tk,P (argBest bt (n - 1)) v->(∀ b o,b∉wr->b≠S->s.heap.get? b=some o->h'.get? b=some o)->R (.ok (.ret v)) { s with heap:=h',toks:=tk }):
  codeAny (model prog w) A (.builtin "min.loop" ⟨[.ref I,.none,.ref S],kw⟩) R s:=by
 have hSw:S∉wr:=fun h=>hSf (W.sub _ h)
 have nm:(toString "min"++toString ".loop":String)="min.loop":=by decide
 refine NK Pm ?_
 rw [Nl Nu _]
 (show wpAny _ A.in1 (Q7 (.ref S) >>= _) _ _ s); refine LO (MV hS rfl ?_)
 (show wpAny _ A.in1 (tryCatch (pyNext (.ref I)) _ >>= _) _ _ s)
 refine (LO (P9 (W.item 0 s _ _ hn hst fun v h' tk hP hst' hk'=>?_)))
 have hT:=hk' S _ hSw hS
 (show wpAny _ A.in1 (P5 S (fun _=>#[v,v]) >>= _) _ _ _); refine LO ?_
 refine (Om hT rfl ?_)
 rw [nm]
 refine LQ ⟨NW Nu _,FY W bt hcmp S hSf _ 0 _ v _ rfl hn (W.frame _ _ _ hst' fun b hbf o e=>?_) hP (MP _ hT rfl) fun v' h'' tk'' hP' hk''=>?_⟩
 ·exact (MR _ _ (fun z:S=b=>hSf (by rw [z]; exact hbf))).trans e
 ·exact hR v' h'' tk'' hP' fun b o hbw hbS e=>hk'' b o hbw hbS ((MR _ _ (Np hbS)).trans (hk' b o hbw e))
end
end
section
open PySem.Spec
section
variable {prog:Program} {w:World} {A:Around} {E:Value->Shared->Prop} {s:Shared}
theorem FZ (a v:Value):argsOk "min" ⟨[a],[(Nw "default",v)]⟩:=by unfold argsOk; kernel_rfl
theorem F0 {l:Addr} {zs:Array (Int×Tok)} {Q:Value->Shared->Prop} (hh:A.handled=none) (hl:s.heap.IsList l (Qs zs))
  (h0:zs.size=0->∀ h' tk,(∀ b o,s.heap.get? b=some o->h'.get? b=some o)->Q .none { s with heap:=h',toks:=tk })
  (h:0 < zs.size->∀ v h' tk,(Qs zs)[argBest (fun i j=>decide (numAt zs i < numAt zs j)) (zs.size - 1)]?=some v->(∀ b o,s.heap.get? b=some o->h'.get? b=some o)->Q v { s with heap:=h',toks:=tk }):
  wpAny (model prog w) A (call (.builtin "min") [.ref l] [(Nw "default",.none)]) Q E s:=by
 have nm:(toString "min"++toString ".loop":String)="min.loop":=by decide
 refine PyProof.Rows.kmb_tree PySem.F.kind_min PySem.F.plain_min PySem.F.entry_min (FZ _ _) ?_
 (show wpAny _ A.in1 (Rf "min" ["key","default"] 0 ⟨[],[(Nw "default",.none)]⟩ >>= _) _ _ s)
 refine LO (Q2 (show Rf "min" ["key","default"] 0 ⟨[],[(Nw "default",.none)]⟩=pure [none,some .none] from rfl) ?_)
 refine LO (LQ ?_)
 refine LO (iter_intList hl fun s₂ e st hfp hlI=>?_)
 subst e
 refine LO (MY ?_)
 have hW:=SU (A:=A.in1) (prog:=prog) (w:=w) hh s.heap.objs.size l hlI (Qs zs)
 rw [nm]
 by_cases hz:zs.size=0
 ·refine LQ ⟨NW Nu _,FX hW _ (fun hm=>Nd _ (hfp _ hm)) (by simpa [Qs] using hz) (hW.frame _ _ _ st fun b _ o e=>LP _ e) (L6 _ rfl) fun h' tk hk=>?_⟩
  refine h0 hz _ _ (old_kept (l:=l) fun b o hb e=>?_)
  exact hk b o hb (fun z=>Nd _ (z ▸ L5 e)) (LP _ e)
 ·refine LQ ⟨NW Nu _,Dt hW _ (CmpOf.ints_lt (numAt zs) (fun _ _=>Ug)) _ (fun hm=>Nd _ (hfp _ hm)) (by simpa [Qs] using Re hz) (hW.frame _ _ _ st fun b _ o e=>LP _ e) (L6 _ rfl) fun v h' tk hP hk=>?_⟩
  refine h (Re hz) v _ _ (by simpa [Qs] using hP) (old_kept (l:=l) fun b o hb e=>?_)
  exact hk b o hb (fun z=>Nd _ (z ▸ L5 e)) (LP _ e)
end
end
section
open PySem.Spec
section
variable {X:Cx}
theorem JP {e:Expr} {p pos kp kp2:Pos} {j:Nat} {t:TA} (hc:X.calm=true) (hm:X.mg "min"=none) (ha:PA X [e] t) (hg:Gl X "min":=by rfl)
  (he:backTo pos (Mp [e] X.env)=(false,eval e X.env) :: backTo pos (Mp [] X.env):=by rfl) (hpl:(backTo pos (Mp [e] X.env)).any (·.1)=false:=by rfl):
  PE X (.Call (.Name "min" p) [e] [⟨some "default",.Constant .none j kp2,kp⟩] pos) (Dm X.K t):=by
 intro pins s σ H Q I h
 refine N7 (gA I hg hm boot_min ?_ (by decide) (by decide))
 refine PyProof.Rows.callWith_kw (thn (ha pos pins s σ H _ I h) fun us s1 ⟨vs,H1,I1,r1,q1⟩=>?_) he hpl
 obtain ⟨l,ns,rfl,hq,h0,h1⟩:=q1
 obtain ⟨u,rfl,rx⟩:=r1.one
 cases rx
 refine thn ((IU uW J9) pos pins s1 σ H1 (fun zs H2=>zs=[.non]/\H2=H1) I1 ⟨rfl,rfl⟩) fun ws s2 ⟨zs,H2,I2,rz,ez,eH⟩=>?_
 subst ez eH
 obtain ⟨wv,rfl,rw'⟩:=rz.one
 cases rw'
 obtain ⟨its,rv,pl,hz⟩:=I2.list hq
 have hi:=lj rv
 obtain ⟨zs,ez⟩:=(hi.allInts).items
 have hl:s2.heap.IsList l (Qs zs):=by rw [<-ez]; exact pl.isList
 have hnum:zs.toList.map (·.1)=ns:=by rw [<-nums_intItems,<-ez]; exact hi.numsOf
 have hsz:zs.size=ns.length:=by rw [<-hnum]; simp
 refine F0 (I.ok.hd hc) hl (fun hz h' tk hk=>⟨.non,H2,I2.kept hk,rfl,h0 (List.eq_nil_of_length_eq_zero (by omega))⟩) fun hpos v h' tk hv hk=>?_
 obtain ⟨t,rfl⟩:=Ug hv
 obtain ⟨b1,b2⟩:=argBest_lt (numAt zs) (zs.size - 1)
 refine ⟨.int _,H2,I2.kept hk,⟨t,rfl⟩,h1 _ ?_ fun a ha=>?_⟩
 ·rw [Uu,hnum]
  exact getD_mem (by omega)
 ·rw [<-hnum] at ha
  obtain ⟨j,hj,rfl⟩:=mem_getD ha
  rw [LR,ME] at hj
  rw [<-Uu]
  exact b2 j (by omega)
end
end
section
open PySem.Calls
section
variable {X:Cx}
end
end
section
open PySem.Spec PySem.Calls
section
variable {prog:Program} {w:World} {A:Around} {E:Value->Shared->Prop} {s:Shared} {a:Addr}
theorem yx:∀ {ord:List Int} {l:List Value},l.length=ord.length->(∀ i v,l[i]?=some v->dD (intKind prog w) ord i v)->IntsAre l ord
 | [],[],_,_=>.nil
 | [],_ :: _,h,_=>nomatch h
 | _ :: _,[],h,_=>nomatch h
 | k :: ord,v :: l,h,t=>by
  obtain ⟨k',hk,hv⟩:=t 0 v rfl
  obtain rfl:k=k':=L9 hk
  obtain ⟨tk,rfl⟩:=TK hv
  exact .cons k tk (yx (Nat.succ.inj h) fun i u hu=>t (i + 1) u hu)
theorem Du {ks:List Int} {Q:Value->Shared->Prop} (calm:A.handled=none) (r:dO (intKind prog w) s.heap a ks (!eI w)) (h64:ks.length < 64)
  (q:∀ (p:Addr) (h':Heap) (dr) (tk:Nat) (out:Array Value) (e:Nat) (ms:List Int),(∀ b o,s.heap.get? b=some o->h'.get? b=some o)->s.heap.objs.size<=p->h'.get? p=some (seqObj "list" out e)->IntsAre out.toList ms->ms.Perm ks->ms.Pairwise (·<=·)->Q (.ref p) { s with heap:=h',drawn:=dr,toks:=tk }):
  wpAny (model prog w) A (call (.builtin "sorted") [.ref a]) Q E s:=by
 refine call_function_entry kind_sorted plain_sorted entry_sorted (args_sorted1 _) ?_
 unfold Builtin.«sorted»
 refine LO (m:=checkCount "sorted" 1 1 _) (LQ ?_)
 apply LO
 refine BM (A:=A.in1) calm r fun h' dr tk ord acc pm kp gt it=>?_
 have len:acc.toList.length=ks.length:=by rw [ME]; exact it.1
 have ia:IntsAre acc.toList ord:=yx (by rw [len,pm.length_eq]) fun i v e=>it.2 i v (by rw [<-ON]; exact e)
 apply LO
 refine wpAny_newList ?_ (by rw [len]; exact MD (M8 h64) (by decide))
 have hoL:(h'.push (seqObj "list" acc.toList.toArray 0)).get? h'.objs.size=some (seqObj "list" acc.toList.toArray 0):=L6 _ rfl
 have ge:s.heap.objs.size<=h'.objs.size:=M8 gt
 apply LO
 apply Nf
 refine ML slot_list_sort ⟨_,hoL,rfl⟩ entry_list_sort ?_ (args_list_sort _)
 refine list_sort_tree hoL ia (by rw [len]; exact h64) fun out ms a1 a2 a3=>⟨_,rfl,?_⟩
 obtain ⟨e,he⟩:=sortedHeap_at (n:=0) (vs:=acc.toList) (out:=out) hoL
 refine LQ ⟨_,rfl,q _ _ dr tk out e ms (fun b o eb=>?_) ge he a1 (a2.trans pm) a3⟩
 have hb:=L5 eb
 rw [sortedHeap_old (MC (Mr hb ge)) (by rw [size_push']; exact NB (Mr hb ge))]
 exact LP _ (kp b o eb)
end
section
variable {X:Cx}
theorem Inv.drew {pins:List (Addr×Obj)} {σ:St} {H:Hp} {s:Shared} (I:Inv X pins σ H s) (dr):Inv X pins σ H { s with drawn:=dr }:=by
 cases I
 constructor <;> assumption
end
end
section
open PySem.Spec PySem.Calls
theorem Cy:∀ {l:List Value} {ns:List Int} {i:Nat} {v:Value},IntsAre l ns->l[i]?=some v->∃ t,v=.int (ns.getD i 0) t
 | _,_,_,_,.nil,e=>nomatch e
 | _,_,0,_,.cons n t _,e=>⟨t,(L9 e).symm⟩
 | _,_,i + 1,_,.cons n t h,e=>by
  obtain ⟨t',e'⟩:=Cy (i:=i) h e
  exact ⟨t',e'⟩
section
variable {X:Cx}
theorem Dv {e:Expr} {p p2 pos pos2:Pos} {t:TA} (hc:X.calm=true) (hm:X.mg "sorted"=none) (hm2:X.mg "set"=none) (ha:PA X [e] t) (hg:Gl X "sorted":=by rfl) (hg2:Gl X "set":=by rfl)
  (he:Mp [e] X.env=(false,eval e X.env) :: Mp [] X.env:=by rfl) (hpl:(backTo pos2 (Mp [] X.env)).any (·.1)=false:=by rfl)
  (he1:Mp [.Call (.Name "set" p2) [e] [] pos2] X.env=(false,eval (.Call (.Name "set" p2) [e] [] pos2) X.env) :: Mp [] X.env:=by rfl) (hpl1:(backTo pos (Mp [] X.env)).any (·.1)=false:=by rfl):
  PE X (.Call (.Name "sorted" p) [.Call (.Name "set" p2) [e] [] pos2] [] pos) (uB X.K t):=by
 intro pins s σ H Q I h
 refine N7 (gA I hg hm boot_sorted ?_ (by decide) (by decide))
 refine QC ?_ he1 hpl1
 rw [he1]
 show wpAny _ _ (spliced ((false,eval (.Call (.Name "set" p2) [e] [] pos2) X.env) :: backTo pos (Mp [] X.env))) _ _ s
 refine Q4 ?_
 refine N7 (gA I hg2 hm2 boot_set ?_ (by decide) (by decide))
 refine Ny (thn (ha pos2 pins s σ H _ I h) fun us s1 ⟨vs,H1,I1,r1,q1⟩=>?_) he hpl
 obtain ⟨l,ns,rfl,hq,hl,q⟩:=q1
 obtain ⟨u,rfl,rx⟩:=r1.one
 cases rx
 obtain ⟨its,rv,pl,hz⟩:=I1.list hq
 have hi:=lj rv
 have hlen:its.length=ns.length:=by have:=rv.length; rw [LR] at this; omega
 have calm:X.A.handled=none:=I.ok.hd hc
 refine JI (knd:=intKind X.prog X.w) (fun i=>ns.getD i 0) calm pl.isList (fun i v hv=>?_) (by rw [Me,hlen]; exact Pa (Nat.succ_le_of_lt hl) (by decide)) fun h' tk ks r mem kp=>?_
 ·rw [SJ] at hv
  obtain ⟨tk,rfl⟩:=Cy hi hv
  exact ⟨by first | simp [intKind,Sk] | (unfold intKind; simp [Sk]),rfl⟩
 have memI:∀ y,y∈ks↔y∈ns:=fun y=>by
  rw [mem,Me,hlen]
  constructor
  ·rintro ⟨j,hj,rfl⟩
   rw [Md,LS hj]
   exact O3 hj
  ·intro hy
   obtain ⟨j,hj,rfl⟩:=List.getElem_of_mem hy
   refine ⟨j,hj,?_⟩
   rw [Md,LS hj]
   rfl
 have nd:ks.Nodup:=by
  obtain ⟨o,es,ep,t,g1,g2,g3,pr,nd,_⟩:=r
  exact nd
 refine Ru ?_
 refine Du calm r (Pa (Ay nd fun y hy=>(memI y).mp hy) hl) fun q' h2 dr tk2 out ex ms kp2 ge hx a1 a2 a3=>?_
 have kk:∀ b o,s1.heap.get? b=some o->h2.get? b=some o:=fun b o eb=>kp2 b o (kp b o (L5 eb) eb)
 have ge1:s1.heap.objs.size<=q':=by
  obtain ⟨o,es,ep,t,g1,_⟩:=r
  exact M8 (Mr (L5 g1) ge)
 have hf:H1 q'=none:=I1.hok.fresh ge1
 have nm:ms.Nodup:=a2.nodup_iff.mpr nd
 have ml:ms.length < 64:=by
  rw [a2.length_eq]
  exact Pa (Ay nd fun y hy=>(memI y).mp hy) hl
 refine ⟨.ref q',_,(I1.laid (t':=tk2) (o:=.lst (ms.map V.int)) kk ge1 ?_).drew dr,rfl,q _ _ ms hf (aR hf _) az ?_ fun y=>?_⟩
 ·exact ⟨by rw [LR,LY]; omega,out.toList,ex,qR a1,by rw [hx,Array.toArray_toList]⟩
 ·exact (a3.and nm).imp fun ⟨z1,z2⟩=>by omega
 ·rw [a2.mem_iff,memI]
end
end
section
variable {σ:St} {H:Hp} {Q:VK} {a:Addr} {kvs:List (Key×V)} {i:Int} {v:V}
end
section
variable {g:CF TG} {tt:CF TT} {te:CF TE} {σ₀:St} {Q:VK} {H:Hp}
end
section
open PySem.Spec
section
variable {X:Cx}
end
end
section
open PySem.Spec
section
variable {X:Cx}
end
end
section
open PySem.Spec
section
variable {X:Cx}
theorem F1:dI X (.type "range") IC:=by
 intro pins s σ H xs us Q I r h
 obtain ⟨n,rfl,hn,q⟩:=h
 obtain ⟨u,rfl,rx⟩:=oX r
 obtain ⟨t,rfl⟩:=rx
 exact call_range_1 ⟨.ref s.heap.objs.size,_,I.laid (a:=s.heap.objs.size) (o:=.rng 0 (n:Int)) (t':=s.toks + 1 + 1) (fun _ _ q=>LP _ q) (LV _) ⟨_,_,_,L6 _ rfl⟩,rfl,q.upd _ (I.hok.fresh (LV _))⟩
theorem F2 {n:Nat} {acc:Array Value} (h:ItemsOf (fun i v=>∃ t,v=.int ((0:Int) + i * 1) t) acc n):aG ((Mn n).map fun (i:Nat)=>V.int ((i:Nat):Int)) acc.toList:=by
 obtain ⟨hl,hi⟩:=h
 have go:∀ (xs:List V) (us:List Value),xs.length=us.length->(∀ (j:Nat) (x:V) (u:Value),xs[j]?=some x->us[j]?=some u->aH x u)->aG xs us:=by
  intro xs
  induction xs with
  | nil=>intro us hl _; cases us with
   | nil=>exact .nil
   | cons _ _=>simp at hl
  | cons x r ih=>intro us hl h; cases us with
   | nil=>simp at hl
   | cons u t=>exact .cons (h 0 x u rfl rfl) (ih t (by simpa using hl) fun j x u hx hu=>h (j + 1) x u hx hu)
 refine go _ _ (by simp [hl]) fun j x u hx hu=>?_
 rw [LX] at hx
 cases e:(Mn n)[j]? with
 | none=>rw [e] at hx; cases hx
 | some z=>
  rw [e] at hx
  cases hx
  obtain ⟨h1,h2⟩:=LU.mp e
  rw [Rb] at h2
  subst h2
  obtain ⟨t,rfl⟩:=hi j u (by rw [<-ON]; exact hu)
  exact ⟨t,by simp⟩
theorem F3 (hc:X.calm=true):dI X (.type "list") zt:=by
 intro pins s σ H xs us Q I r h
 obtain ⟨p,n,rfl,e,hn,q⟩:=h
 obtain ⟨u,rfl,rx⟩:=oX r
 cases rx
 obtain ⟨t,u,v,hr⟩:=(show bN X.prog X.w H s.heap p (.rng 0 (n:Int)) from I.hok p _ e)
 refine call_list_range (n:=n) (show X.A.handled=none from I.ok.hd hc) hr (small_one (by omega) (by omega) (by omega) (by omega)) ?_ (by omega) fun h' tk acc' c' kp e' it=>?_
 ·rw [rangeSize_one]; split <;> omega
 ·exact ⟨.ref s.heap.objs.size,_,I.laid (t':=tk) kp (LV _) (show bN X.prog X.w _ h' _ (.lst _) from ⟨by rw [LR,MU,LY]; omega,acc'.toList,c',F2 it,by simpa using e'⟩),rfl,q.upd _ (I.hok.fresh (LV _))⟩
end
end
section
open PySem.Spec
noncomputable abbrev mB (h:Heap) (z TI TO:Addr) (f0:Value) (f:Bool):Prop:=
 h.get? z=some { cls:=.type "zip",dict:=none,data:=.fields #[f0,.bool f,.bool false,.ref TI,.ref TO],slots:=#[] }
section
variable {prog:Program} {w:World} {A:Around} {E:Value->Shared->Prop} {s:Shared}
theorem wa {z TI TO a:Addr} {f:Bool} {oa:Obj} {Q:Bool->Shared->Prop} (hz:mB s.heap z TI TO (rawInt a) f) (ha:s.heap.get? a=some oa) (h:∀ g1,mB g1 z TI TO (rawInt a) true->Mm z s.heap g1->Q false { s with heap:=g1 }):
  wpAny (model prog w) A (MT (.ref z)) Q E s:=by
 obtain ⟨hp,g,d,tk₀,os⟩:=s
 unfold MT
 refine LO (Ng hz rfl (x:=rawInt a) rfl ?_)
 show wpAny _ _ (loadIfAlive ((a:Int).toNat) >>= _) _ _ _
 rw [Pp]
 refine LO (PySem.W.kdx_alive ha ?_)
 simp only [Option.isNone_some,M4,if_false]
 refine LO (Ng hz rfl (x:=.bool f) rfl ?_)
 cases f with
 | true=>
  rw [if_neg (show ¬ ((Nh true != Nh true)=true) from Ma)]
  exact LQ (h hp hz (T8 _ _))
 | false=>
  rw [if_pos (show (Nh false != Nh true)=true from rfl)]
  exact LO (Oq hz (by simp) fun h₃ he₃ hs₃=>LQ (h h₃ he₃ hs₃))
theorem F4 {z TI TO j1 j2 a:Addr} {f:Bool} {oa:Obj} {fp1 fp2:List Addr} {n1 n2 k:Nat} {P1 P2:Nat->Value->Prop} {S1 S2:Nat->Heap->Prop} {Q:Value->Shared->Prop} (Z:i5 z TI TO j1 j2 fp1 fp2)
  (D1:Draws prog w A j1 fp1 n1 P1 S1) (D2:Draws prog w A j2 fp2 n2 P2 S2) (hz:mB s.heap z TI TO (rawInt a) f) (ha:s.heap.get? a=some oa) (hTI:IsPair s.heap TI (.ref j1) (.ref j2)) (h1:S1 k s.heap) (h2:S2 k s.heap) (l1:k < n1) (l2:k < n2)
  (hQ:∀ x y h' tk,P1 k x->P2 k y->mB h' z TI TO (rawInt a) true->S1 (k + 1) h'->S2 (k + 1) h'->IsPair h' s.heap.objs.size x y->
   (∀ c o,c∉[z,j1,j2]->s.heap.get? c=some o->h'.get? c=some o)->Q (.ref s.heap.objs.size) { s with heap:=h',toks:=tk }):
  wpAny (model prog w) A (Builtin.«zip.__next__» ⟨[.ref z],[]⟩) (fun fin s'=>∃ v,fin=.done (.ret v)/\Q v s') E s:=by
 obtain ⟨hp,g,d,tk₀,os⟩:=s
 show wpAny _ _ (field (.ref z) 2 >>= _) _ _ _
 refine LO (Ng hz rfl (x:=.bool false) rfl ?_)
 show wpAny _ _ (field (.ref z) 3 >>= _) _ _ _
 refine LO (Ng hz rfl (x:=.ref TI) rfl ?_)
 refine LO (MV hTI rfl ?_)
 show wpAny _ _ (MT (.ref z) >>= _) _ _ _
 refine LO (wa hz ha fun g1 hz1 hs1=>?_)
 replace hs1:Mm z hp g1:=hs1
 simp only [M4,if_false]
 refine LO ?_
 rw [<-Pc]
 simp only [PP,P7]
 refine LO ?_
 refine LO (Nf ?_)
 show wpAny _ _ (MM (.ref j1) >>= _) _ _ _
 refine LO (D1.item k ⟨g1,g,d,tk₀,os⟩ _ _ l1 (D1.but h1 hs1 Z.b1) fun x g2 tk1 px st1 hs2=>LQ ?_)
 replace hs2:Mm j1 g1 g2:=hs2
 refine LQ ?_
 refine LO ?_
 refine LO (Nf ?_)
 show wpAny _ _ (MM (.ref j2) >>= _) _ _ _
 refine LO (D2.item k ⟨g2,g,d,tk1,os⟩ _ _ l2 (D2.but (D2.but h2 hs1 Z.b4) hs2 Z.b6) fun y g3 tk2 py st2 hs3=>LQ ?_)
 replace hs3:Mm j2 g2 g3:=hs3
 refine LQ ?_
 refine LQ ?_
 show wpAny _ _ (Uq [x,y] >>= fun r=>ret r) _ _ _
 have hsz:g3.objs.size=hp.objs.size:=by rw [hs3.1,hs2.1,hs1.1]
 refine LO (SE (LQ ⟨_,rfl,?_⟩))
 have up:∀ c o,g3.get? c=some o->(g3.push { cls:=.type "tuple",data:=.seq #[x,y] }).get? c=some o:=fun c o e=>LP _ e
 have hz3:mB g3 z TI TO (rawInt a) true:=hs3.extBut _ _ Z.a4.symm (hs2.extBut _ _ Z.a3.symm hz1)
 have hT:IsPair (g3.push { cls:=.type "tuple",data:=.seq #[x,y] }) hp.objs.size x y:=by rw [<-hsz]; exact L6 _ rfl
 show Q (.ref g3.objs.size) _
 rw [hsz]
 refine hQ x y _ tk2 px py (up _ _ hz3) (D1.frame _ _ _ (D1.but st1 hs3 Z.b3) fun c _ o e=>up c o e) (D2.frame _ _ _ st2 fun c _ o e=>up c o e) hT fun c o hc e=>?_
 simp only [L7,M9,or_false,not_or] at hc
 exact up c o (hs3.extBut _ _ hc.2.2 (hs2.extBut _ _ hc.2.1 (hs1.extBut _ _ hc.1 e)))
theorem Hy {z TI TO j1 j2 a:Addr} {f:Bool} {oa:Obj} {fp1 fp2:List Addr} {n1 n2 k:Nat} {P1 P2:Nat->Value->Prop} {S1 S2:Nat->Heap->Prop} {Q:Fin->Shared->Prop} (Z:i5 z TI TO j1 j2 fp1 fp2)
  (D1:Draws prog w A j1 fp1 n1 P1 S1) (D2:Draws prog w A j2 fp2 n2 P2 S2) (hz:mB s.heap z TI TO (rawInt a) f) (ha:s.heap.get? a=some oa) (hTI:IsPair s.heap TI (.ref j1) (.ref j2)) (h1:S1 k s.heap) (h2:S2 k s.heap) (l:k=min n1 n2)
  (hE:∀ h' e tk,(∀ c o,c∉[z,TI,TO,j1,j2]->s.heap.get? c=some o->h'.get? c=some o)->(∃ o,h'.get? e=some o/\o.cls=.type "StopIteration")->E (.ref e) { s with heap:=h',toks:=tk }):
  wpAny (model prog w) A (Builtin.«zip.__next__» ⟨[.ref z],[]⟩) Q E s:=by
 obtain ⟨hp,g,d,tk₀,os⟩:=s
 have kp:∀ {h':Heap},(∀ c o,c≠z->c≠j1->c≠j2->hp.get? c=some o->h'.get? c=some o)->∀ c o,c∉[z,TI,TO,j1,j2]->hp.get? c=some o->h'.get? c=some o:=fun {h'} q c o hc e=>by
  simp only [L7,M9,or_false,not_or] at hc
  exact q c o hc.1 hc.2.2.2.1 hc.2.2.2.2 e
 show wpAny _ _ (field (.ref z) 2 >>= _) _ _ _
 refine LO (Ng hz rfl (x:=.bool false) rfl ?_)
 show wpAny _ _ (field (.ref z) 3 >>= _) _ _ _
 refine LO (Ng hz rfl (x:=.ref TI) rfl ?_)
 refine LO (MV hTI rfl ?_)
 show wpAny _ _ (MT (.ref z) >>= _) _ _ _
 refine LO (wa hz ha fun g1 hz1 hs1=>?_)
 replace hs1:Mm z hp g1:=hs1
 simp only [M4,if_false]
 refine LO ?_
 rw [<-Pc]
 simp only [PP,P7]
 refine LO ?_
 refine LO (Nf ?_)
 show wpAny _ _ (MM (.ref j1) >>= _) _ _ _
 by_cases hk:k=n1
 ·subst hk
  refine LO (D1.done ⟨g1,g,d,tk₀,os⟩ _ _ (D1.but h1 hs1 Z.b1) fun g2 e hs2 he=>?_)
  replace hs2:PL j1 g1 g2:=hs2
  exact hE g2 e tk₀ (kp fun c o c1 c2 _ q=>hs2 _ _ c2 (hs1.extBut _ _ c1 q)) he
 ·have hlt:k < n1:=by omega
  have hk2:k=n2:=by omega
  refine LO (D1.item k ⟨g1,g,d,tk₀,os⟩ _ _ hlt (D1.but h1 hs1 Z.b1) fun x g2 tk1 px st1 hs2=>LQ ?_)
  replace hs2:Mm j1 g1 g2:=hs2
  refine LQ ?_
  refine LO ?_
  refine LO (Nf ?_)
  show wpAny _ _ (MM (.ref j2) >>= _) _ _ _
  subst hk2
  refine LO (D2.done ⟨g2,g,d,tk1,os⟩ _ _ (D2.but (D2.but h2 hs1 Z.b4) hs2 Z.b6) fun g3 e hs3 he=>?_)
  replace hs3:PL j2 g2 g3:=hs3
  exact hE g3 e tk1 (kp fun c o c1 c2 c3 q=>hs3 _ _ c3 (hs2.extBut _ _ c2 (hs1.extBut _ _ c1 q))) he
noncomputable def ZSt (h:Heap) (z TI TO S:Addr) (i:Nat) (far:Addr->Prop):Prop:=(i=0/\IsZip h z TI TO .none/\∃ u v,IsPair h TO u v)\/∃ (a:Addr) (f:Bool) (oa:Obj),mB h z TI TO (rawInt a) f/\h.get? a=some oa/\far a/\a≠S
noncomputable def ZTs (P1 P2:Nat->Value->Prop) (lo:Addr) (h:Heap) (ts:List Addr):Prop:=∀ (j:Nat) (t:Addr),ts[j]?=some t->lo<=t/\∃ x y,P1 j x/\P2 j y/\IsPair h t x y
end
section
variable {prog:Program} {w:World} {A:Around} {s:Shared} {R:Result->Shared->Prop}
theorem Hz {z TI TO j1 j2 S lo:Addr} {fp1 fp2:List Addr} {n1 n2:Nat} {P1 P2:Nat->Value->Prop} {S1 S2:Nat->Heap->Prop} (hh:A.handled=none) (Z:i5 z TI TO j1 j2 fp1 fp2)
  (D1:Draws prog w A.in1.in1 j1 fp1 n1 P1 S1) (D2:Draws prog w A.in1.in1 j2 fp2 n2 P2 S2) (hn:min n1 n2<=Mb) (hS:S∉[z,TI,TO,j1,j2]) (hS1:S∉fp1) (hS2:S∉fp2) (hlo:∀ c∈[z,TI,TO,j1,j2,S],c < lo) (hlo1:∀ c∈fp1,c < lo) (hlo2:∀ c∈fp2,c < lo) (res:Value) {h₁:Heap}
  (hR:∀ h' tk acc c ts,(∀ b o,b∉[z,TI,TO,j1,j2]->b≠S->h₁.get? b=some o->h'.get? b=some o)->h'.get? S=some { cls:=.type "list",dict:=none,data:=.seq acc c,slots:=#[] }->ts.length=min n1 n2->ZTs P1 P2 lo h' ts->
   acc.toList=ts.map MA->R (.ok (.ret res)) { s with heap:=h',toks:=tk }):
  ∀ (m i:Nat) (h:Heap) (tk c:Nat) (acc:Array Value) (ts:List Addr),min n1 n2 - i=m->i<=min n1 n2->ZSt h z TI TO S i (fun a=>lo<=a)->IsPair h TI (.ref j1) (.ref j2)->S1 i h->S2 i h->(∀ b o,b∉[z,TI,TO,j1,j2]->b≠S->h₁.get? b=some o->h.get? b=some o)->
   h.get? S=some { cls:=.type "list",dict:=none,data:=.seq acc c,slots:=#[] }->acc.toList=ts.map MA->ts.length=i->ZTs P1 P2 lo h ts->lo<=h.objs.size->
   codeAny (model prog w) A (.builtin "list.extend.loop" ⟨[.ref S,.ref z,res],[]⟩) R { s with heap:=h,toks:=tk }:=by
 have notin:∀ t,lo<=t->t∉[z,TI,TO,j1,j2]/\t≠S/\t∉fp1/\t∉fp2:=fun t ht=>⟨fun hm=>by
  have:=hlo t (show t∈[z,TI,TO,j1,j2]++[S] from NG _ hm)
  exact absurd ht (QN.mpr this),fun e=>by
  have:=hlo S (by simp)
  rw [e] at ht
  exact absurd ht (QN.mpr this),fun hm=>absurd ht (QN.mpr (hlo1 t hm)),fun hm=>absurd ht (QN.mpr (hlo2 t hm))⟩
 intro m
 induction m with
 | zero=>
  intro i h tk c acc ts hk hi hst hTI st1 st2 hkeep hSS hacc hal hG hls
  have hin:i=min n1 n2:=by omega
  refine NK RI ?_
  rw [Nl N6 _]
  show wpAny _ A.in1 (pyNext (.ref z) >>= _) _ _ _
  have done:∀ h':Heap,∀ tk',(∀ c o,c∉[z,TI,TO,j1,j2]->h.get? c=some o->h'.get? c=some o)->R (.ok (.ret res)) { s with heap:=h',toks:=tk' }:=fun h' tk' kp=>by
   refine hR h' tk' acc c ts (fun b o h1 h2 e=>kp b o h1 (hkeep b o h1 h2 e)) (kp S _ hS hSS) (by omega) (fun j t hj=>?_) hacc
   obtain ⟨hlt,x,y,p1,p2,e⟩:=hG j t hj
   exact ⟨hlt,x,y,p1,p2,kp t _ (notin t hlt).1 e⟩
  have hT:S6 { s with heap:=h,toks:=tk } (.ref z) "zip":=by
   rcases hst with ⟨_,hz,_⟩ | ⟨a,f,oa,hz,_⟩
   ·exact ⟨_,hz,rfl⟩
   ·exact ⟨_,hz,rfl⟩
  unfold pyNext
  refine LO (LO (OR (M0 (name:=Nw "__next__") hT Oy (ML Oy hT Qr ?_ (Qg _)))))
  rcases hst with ⟨_,hz,u,v,hTO⟩ | ⟨a,f,oa,hz,ha,_,_⟩
  ·refine zR (s:={ s with heap:=h,toks:=tk }) Z D1 D2 hz hTI hTO st1 st2 hin fun h' e tk' kp he=>?_
   obtain ⟨o,ho,hcl⟩:=he
   exact LO (N9 (T:="StopIteration") (b:=true) ⟨o,ho,hcl⟩ P8 (LQ (LQ (done h' tk' kp))))
  ·refine Hy (s:={ s with heap:=h,toks:=tk }) Z D1 D2 hz ha hTI st1 st2 hin fun h' e tk' kp he=>?_
   obtain ⟨o,ho,hcl⟩:=he
   exact LO (N9 (T:="StopIteration") (b:=true) ⟨o,ho,hcl⟩ P8 (LQ (LQ (done h' tk' kp))))
 | succ m ih=>
  intro i h tk c acc ts hk hi hst hTI st1 st2 hkeep hSS hacc hal hG hls
  have hlt:i < min n1 n2:=by omega
  have hsz:acc.size=i:=by rw [<-ME,hacc,LR,hal]
  refine NK RI ?_
  rw [Nl N6 _]
  show wpAny _ A.in1 (pyNext (.ref z) >>= _) _ _ _
  have hT:S6 { s with heap:=h,toks:=tk } (.ref z) "zip":=by
   rcases hst with ⟨_,hz,_⟩ | ⟨a,f,oa,hz,_⟩
   ·exact ⟨_,hz,rfl⟩
   ·exact ⟨_,hz,rfl⟩
  have item:∀ (h':Heap) (tk':Nat) (x y:Value),P1 i x->P2 i y->ZSt h' z TI TO S (i + 1) (fun a=>lo<=a)->S1 (i + 1) h'->S2 (i + 1) h'->IsPair h' h.objs.size x y->(∀ c o,c∉[z,TO,j1,j2]->h.get? c=some o->h'.get? c=some o)->
    wpAny (model prog w) A.in1 (R9 (.ref S) (·.push (MA h.objs.size)) >>= fun _=>again (.builtin "list.extend.loop" ⟨[.ref S,.ref z,res],[]⟩)) (fun fin s'=>match fin with | .done f=>R (.ok f) s' | .again c'=>c'.quiet=true/\codeAny (model prog w) A c' R s') (fun e s'=>R (.error e) s') { s with heap:=h',toks:=tk' }:=by
   intro h' tk' x y px py hst' st1' st2' ht kp
   have sub:∀ c,c∉[z,TI,TO,j1,j2]->c∉[z,TO,j1,j2]:=fun c hc hm=>hc (by
    simp only [L7,M9,or_false] at hm ⊢
    rcases hm with e | e | e | e
    ·exact .inl e
    ·exact .inr (.inr (.inl e))
    ·exact .inr (.inr (.inr (.inl e)))
    ·exact .inr (.inr (.inr (.inr e))))
   have hS':=kp S _ (sub S hS) hSS
   have up:∀ b o,b≠S->h'.get? b=some o->(h'.update S (Nt (·.push (MA h.objs.size)))).get? b=some o:=fun b o hb e=>(MR _ _ (Np hb)).trans e
   have hSl:S < h.objs.size:=L5 hSS
   have zS:∀ c∈[z,TI,TO,j1,j2],c≠S:=fun c hc e=>hS (by rw [<-e]; exact hc)
   have hTI':IsPair h' TI (.ref j1) (.ref j2):=kp TI _ (by
    simp only [L7,M9,or_false,not_or]
    exact ⟨Z.a1,Z.a5,Z.a6,Z.a7⟩) hTI
   show wpAny _ A.in1 (P5 S (·.push (MA h.objs.size)) >>= _) _ _ _
   refine LO ?_
   refine Om hS' rfl (LQ ⟨NW N6 _,ih (i + 1) _ tk' _ (acc.push (MA h.objs.size)) (ts++[h.objs.size]) (by omega) hlt ?_ (up TI _ (zS TI (by simp)) hTI')
    (D1.frame _ _ _ st1' fun b hb o e=>up b o (fun q=>hS1 (by rw [<-q]; exact hb)) e) (D2.frame _ _ _ st2' fun b hb o e=>up b o (fun q=>hS2 (by rw [<-q]; exact hb)) e)
    (fun b o h1 h2 e=>up b o h2 (kp b o (sub b h1) (hkeep b o h1 h2 e))) (MP _ hS' rfl) (by rw [RB,hacc,Ml]; rfl) (by rw [Mj,hal]; rfl) ?_ ?_⟩) (by rw [hsz]; omega) (by show (acc.push (MA h.objs.size)).size<=Mb + 1; rw [Array.size_push,hsz]; omega)
   ·rcases hst' with ⟨e,_⟩ | ⟨a,f,oa,hz,ha,hfar,haS⟩
    ·omega
    ·exact .inr ⟨a,f,oa,up _ _ (zS z (by simp)) hz,up _ _ haS ha,hfar,haS⟩
   ·intro j t hj
    rcases Rz j ts.length with c | c | c
    ·rw [OU c] at hj
     obtain ⟨hl,x',y',p1,p2,e⟩:=hG j t hj
     obtain ⟨n1',n2',_,_⟩:=notin t hl
     exact ⟨hl,x',y',p1,p2,up t _ n2' (kp t _ (sub t n1') e)⟩
    ·subst c
     have hb:h.objs.size=t:=by simpa using hj
     subst hb
     rw [hal]
     exact ⟨hls,x,y,px,py,up _ _ (On hSl) ht⟩
    ·rw [Mw (by rw [Mj,SB]; omega)] at hj
     cases hj
   ·have e:(h'.update S (Nt (·.push (MA h.objs.size)))).get? h.objs.size=_:=up _ _ (On hSl) ht
    exact MD hls (M8 (L5 e))
  unfold pyNext
  refine LO (LO (OR (M0 (name:=Nw "__next__") hT Oy (ML Oy hT Qr ?_ (Qg _)))))
  have hSl:S < h.objs.size:=L5 hSS
  rcases hst with ⟨_,hz,u,v,hTO⟩ | ⟨a,f,oa,hz,ha,hfar,haS⟩
  ·refine yh (s:={ s with heap:=h,toks:=tk }) Z D1 D2 hz hTI hTO st1 st2 (by omega) (by omega) fun x y h' tk' px py z1 z2 z3 z4 z5 z6 z7=>LQ ?_
   refine item h' tk' x y px py (.inr ⟨_,false,_,z1,z5,hls,On hSl⟩) z3 z4 z5 fun c o hc e=>?_
   by_cases q:c=TI
   ·rw [q] at e ⊢
    have:o=_:=L9 (e.symm.trans hTI)
    rw [this]
    exact z7
   ·refine z6 c o ?_ e
    simp only [L7,M9,or_false,not_or] at hc ⊢
    exact ⟨hc.1,q,hc.2⟩
  ·refine F4 (s:={ s with heap:=h,toks:=tk }) Z D1 D2 hz ha hTI st1 st2 (by omega) (by omega) fun x y h' tk' px py z1 z3 z4 z5 z6=>LQ ?_
   have na:=(notin a hfar).1
   refine item h' tk' x y px py (.inr ⟨a,true,oa,z1,z6 a oa ?_ ha,hfar,haS⟩) z3 z4 z5 fun c o hc e=>z6 c o ?_ e
   ·simp only [L7,M9,or_false,not_or] at na ⊢
    exact ⟨na.1,na.2.2.2.1,na.2.2.2.2⟩
   ·simp only [L7,M9,or_false,not_or] at hc ⊢
    exact ⟨hc.1,hc.2.2.1,hc.2.2.2⟩
end
end
section
open PySem.Spec
theorem Inv.news {X:Cx} {pins:List (Addr×Obj)} {σ:St} {H H':Hp} {s:Shared} {h':Heap} {t':Nat} (I:Inv X pins σ H s) (k:∀ b u,s.heap.get? b=some u->h'.get? b=some u) (hH:∀ b,b < s.heap.objs.size->H' b=H b)
  (new:∀ a o,s.heap.objs.size<=a->H' a=some o->bN X.prog X.w H' h' a o):Inv X pins σ H' { s with heap:=h',toks:=t' }:=by
 have same:∀ b o,H b=some o->H' b=some o:=fun b o e=>(hH b (I.hok.lt e)).trans e
 refine I.un ⟨fun b o q _ _ _=>k b o q,fun b o q _ _ _=>⟨o.slots,k b o q⟩,fun b o q n _=>(hH b (L5 q)).trans n,fun b o q _=>⟨o,k b o q⟩,fun b xs e=>same b _ e,fun b o u e=>same b _ e,fun b ps e=>⟨#[],by rw [same b _ e]; simp⟩⟩ fun a o e=>?_
 by_cases c:a < s.heap.objs.size
 ·rw [hH a c] at e
  exact (I.hok a o e).stay (fun b u _ q=>k b u q) (fun b q=>same b _ q) fun b xs q=>same b _ q
 ·exact new a o (RF.mp c) e
theorem HI {prog:Program} {w:World} {A:Around} {E:Value->Shared->Prop} {s:Shared} {z:Addr} {Q:Bool->Shared->Prop} (hT:s.TypeIs (.ref z) "zip") (h:Q true s):wpAny (model prog w) A (OJ (.ref z)) Q E s:=by
 unfold OJ
 refine LO (NI hT (show SO (.type "zip") "__len__"=pure none by rw [QM,Pz]; kernel_rfl) ?_)
 show wpAny _ _ (specialOf (MA z) (Nw "__length_hint__") >>= _) _ _ _
 refine LO (NI hT (show SO (.type "zip") "__length_hint__"=pure none by rw [QM,Pz]; kernel_rfl) ?_)
 exact LQ h
section
variable {prog:Program} {w:World} {A:Around} {E:Value->Shared->Prop} {s:Shared}
theorem Dw {z TI TO j1 j2 S:Addr} {fp1 fp2:List Addr} {n1 n2:Nat} {P1 P2:Nat->Value->Prop} {S1 S2:Nat->Heap->Prop} {R:Result->Shared->Prop} (hh:A.handled=none) (Z:i5 z TI TO j1 j2 fp1 fp2)
  (D1:Draws prog w A.in1.in1 j1 fp1 n1 P1 S1) (D2:Draws prog w A.in1.in1 j2 fp2 n2 P2 S2) (hn:min n1 n2<=Mb) (hS:S∉[z,TI,TO,j1,j2]) (hS1:S∉fp1) (hS2:S∉fp2) (hlo:∀ c∈[z,TI,TO,j1,j2,S],c < s.heap.objs.size) (hlo1:∀ c∈fp1,c < s.heap.objs.size) (hlo2:∀ c∈fp2,c < s.heap.objs.size)
  (hz:IsZip s.heap z TI TO .none) {u v:Value} (hTO:IsPair s.heap TO u v) (hTI:IsPair s.heap TI (.ref j1) (.ref j2)) (st1:S1 0 s.heap) (st2:S2 0 s.heap) {c₀:Nat} (hSS:s.heap.get? S=some { cls:=.type "list",data:=.seq #[] c₀ })
  (hR:∀ h' tk acc c ts,(∀ b o,b∉[z,TI,TO,j1,j2]->b≠S->s.heap.get? b=some o->h'.get? b=some o)->h'.get? S=some { cls:=.type "list",dict:=none,data:=.seq acc c,slots:=#[] }->ts.length=min n1 n2->ZTs P1 P2 s.heap.objs.size h' ts->
   acc.toList=ts.map MA->R (.ok (.ret .none)) { s with heap:=h',toks:=tk }):
  wpAny (model prog w) A.in1 (NA (.ref S) (.ref z) .none)
   (fun fin s'=>match fin with | .done f=>R (.ok f) s' | .again c'=>c'.quiet=true/\codeAny (model prog w) A c' R s') (fun e s'=>R (.error e) s') s:=by
 have zS:∀ c∈[z,TI,TO,j1,j2],c≠S:=fun c hc e=>hS (by rw [<-e]; exact hc)
 have hT:s.TypeIs (.ref z) "zip":=⟨_,hz,rfl⟩
 unfold NA
 refine LO (RN (T:="zip") hT ?_)
 have h1:O4 (.ref S) (.ref z)=false:=by simp [O4,(zS z (by simp)).symm]
 have h2:(Nr "zip" == Nr "list")=false:=by decide
 have h3:(Nr "zip" == Nr "tuple")=false:=by decide
 simp only [h1,h2,h3,Bool.or_false,M4,if_false]
 refine LO (RS hz ?_)
 refine LO (Nf (HI hT ?_))
 rw [if_pos (by simp)]
 refine LO (Of ?_)
 refine LO ?_
 show wpAny _ _ (P5 S (·.push .none) >>= fun _=>P5 S (·.pop)) _ _ _
 refine LO (Om hSS rfl ?_)
 have hS₂:=MP (Nt (·.push Nq)) hSS rfl
 refine Om (hz:=by seq_fits) hS₂ rfl ?_
 have hS₃:=MP (Nt (·.pop)) hS₂ rfl
 have oth:∀ b o,b≠S->s.heap.get? b=some o->((s.heap.update S (Nt (·.push Nq))).update S (Nt (·.pop))).get? b=some o:=fun b o hb e=>
  (MR _ _ (Np hb)).trans ((MR _ _ (Np hb)).trans e)
 refine LQ ⟨NW N6 _,Hz (s:=s) (lo:=s.heap.objs.size) (h₁:=s.heap) hh Z D1 D2 hn hS hS1 hS2 hlo hlo1 hlo2 .none hR (min n1 n2) 0 _ _ _ #[] [] (Nat.sub_zero _) (M7 _) (.inl ⟨rfl,oth z _ (zS z (by simp)) hz,u,v,oth TO _ (zS TO (by simp)) hTO⟩) (oth TI _ (zS TI (by simp)) hTI)
  (D1.frame _ _ _ st1 fun b hb o e=>oth b o (fun q=>hS1 (by rw [<-q]; exact hb)) e) (D2.frame _ _ _ st2 fun b hb o e=>oth b o (fun q=>hS2 (by rw [<-q]; exact hb)) e) (fun b o _ hb e=>oth b o hb e) hS₃ rfl rfl (fun j t hj=>by simp at hj) ?_⟩
 rw [R3,R3]
 exact LV _
theorem HM {z TI TO j1 j2:Addr} {fp1 fp2:List Addr} {n1 n2:Nat} {P1 P2:Nat->Value->Prop} {S1 S2:Nat->Heap->Prop} {Q:Value->Shared->Prop} (hh:A.handled=none) (Z:i5 z TI TO j1 j2 fp1 fp2)
  (D1:∀ A':Around,A'.handled=none->Draws prog w A' j1 fp1 n1 P1 S1) (D2:∀ A':Around,A'.handled=none->Draws prog w A' j2 fp2 n2 P2 S2) (hn:min n1 n2<=Mb) (hlo:∀ c∈[z,TI,TO,j1,j2],c < s.heap.objs.size) (hlo1:∀ c∈fp1,c < s.heap.objs.size) (hlo2:∀ c∈fp2,c < s.heap.objs.size)
  (hz:IsZip s.heap z TI TO .none) {u v:Value} (hTO:IsPair s.heap TO u v) (hTI:IsPair s.heap TI (.ref j1) (.ref j2)) (st1:S1 0 s.heap) (st2:S2 0 s.heap)
  (hQ:∀ h' tk acc c ts,(∀ b o,b∉[z,TI,TO,j1,j2]->s.heap.get? b=some o->h'.get? b=some o)->h'.get? s.heap.objs.size=some { cls:=.type "list",dict:=none,data:=.seq acc c,slots:=#[] }->ts.length=min n1 n2->ZTs P1 P2 (s.heap.objs.size + 1) h' ts->
   acc.toList=ts.map MA->Q (.ref s.heap.objs.size) { s with heap:=h',toks:=tk }):
  wpAny (model prog w) A (call (.type "list") [.ref z]) Q E s:=by
 refine callType_codes (Q₁:=fun obj s₁=>obj=.ref s.heap.objs.size/\s₁={ s with heap:=s.heap.push { cls:=.type "list",data:=.seq #[] } }) PySem.F.called_list (PySem.F.typeCall_list_1 _) PySem.F.entry_list_init
  (code_list_new _ ⟨rfl,rfl⟩) fun obj s₁ h₁=>?_
 obtain ⟨rfl,rfl⟩:=h₁
 have hS:(s.heap.push { cls:=.type "list",data:=.seq #[] }).get? s.heap.objs.size=some { cls:=.type "list",data:=.seq #[] }:=L6 _ rfl
 refine ⟨⟨_,hS,rfl⟩,PySem.F.args_list_init_2 _ _,?_⟩
 show wpAny _ _ (do let old <-Sz (.ref s.heap.objs.size); R9 (.ref s.heap.objs.size) (fun _=>#[]); letGo old.toList.reverse; NA (.ref s.heap.objs.size) (.ref z) .none) _ _ _
 refine LO ?_
 unfold Sz
 refine LO (MV hS rfl (LQ ?_))
 show wpAny _ _ (P5 s.heap.objs.size (fun _=>#[]) >>= fun _=>letGo (#[]:Array Value).toList.reverse >>= fun _=>NA (.ref s.heap.objs.size) (.ref z) .none) _ _ _
 refine LO (Om hS rfl ?_)
 have hS₂:=MP (Nt (fun _=>(#[]:Array Value))) hS rfl
 have oth:∀ b o,b≠s.heap.objs.size->(s.heap.push { cls:=.type "list",data:=.seq #[] }).get? b=some o->((s.heap.push { cls:=.type "list",data:=.seq #[] }).update s.heap.objs.size (Nt (fun _=>(#[]:Array Value)))).get? b=some o:=
  fun b o hb e=>(MR _ _ (Np hb)).trans e
 have oth':∀ b o,s.heap.get? b=some o->((s.heap.push { cls:=.type "list",data:=.seq #[] }).update s.heap.objs.size (Nt (fun _=>(#[]:Array Value)))).get? b=some o:=fun b o e=>oth b o (MC (L5 e)) (LP _ e)
 have sz:((s.heap.push { cls:=.type "list",data:=.seq #[] }).update s.heap.objs.size (Nt (fun _=>(#[]:Array Value)))).objs.size=s.heap.objs.size + 1:=by rw [R3,MG]
 refine LO (Pj ?_)
 refine Dw (A:=A.in1) hh Z (D1 _ hh) (D2 _ hh) hn (fun hm=>Nd _ (hlo _ hm)) (fun hm=>Nd _ (hlo1 _ hm)) (fun hm=>Nd _ (hlo2 _ hm)) (fun c hc=>?_) (fun c hc=>?_) (fun c hc=>?_) (oth' _ _ hz) (oth' _ _ hTO) (oth' _ _ hTI)
  ((D1 _ hh).frame _ _ _ st1 fun b _ o e=>oth' b o e) ((D2 _ hh).frame _ _ _ st2 fun b _ o e=>oth' b o e) hS₂ (fun h' tk acc c ts hk hS' hl hG hacc=>?_)
 ·show c < ((s.heap.push { cls:=.type "list",data:=.seq #[] }).update s.heap.objs.size (Nt (fun _=>(#[]:Array Value)))).objs.size
  rw [sz]
  rcases Mt.mp (show c∈[z,TI,TO,j1,j2]++[s.heap.objs.size] from hc) with hc | hc
  ·exact NB (hlo c hc)
  ·rw [LW.mp hc]; exact Nv _
 ·show c < ((s.heap.push { cls:=.type "list",data:=.seq #[] }).update s.heap.objs.size (Nt (fun _=>(#[]:Array Value)))).objs.size
  rw [sz]
  exact NB (hlo1 c hc)
 ·show c < ((s.heap.push { cls:=.type "list",data:=.seq #[] }).update s.heap.objs.size (Nt (fun _=>(#[]:Array Value)))).objs.size
  rw [sz]
  exact NB (hlo2 c hc)
 ·have hG':ZTs P1 P2 (s.heap.objs.size + 1) h' ts:=by rw [<-sz]; exact hG
  exact ⟨rfl,hQ h' tk acc c ts (fun b o hb e=>hk b o hb (MC (L5 e)) (oth' b o e)) hS' hl hG' hacc⟩
end
section
variable {X:Cx}
theorem JQ {h:Heap} {us vs:List Value} {xs ys:List V} {lo:Addr} {ts:List Addr} (ru:aG xs us) (rv:aG ys vs) (hl:ts.length=min us.length vs.length) (G:ZTs (fun i v=>us.toArray[i]?=some v) (fun i v=>vs.toArray[i]?=some v) lo h ts):
  ∀ (i:Nat) (t:Addr),ts[i]?=some t->lo<=t/\∃ x y u v,xs[i]?=some x/\ys[i]?=some y/\aH x u/\aH y v/\IsPair h t u v:=fun i t ht=>by
 obtain ⟨h1,u,v,p1,p2,e⟩:=G i t ht
 have hi:i < ts.length:=(LU.mp ht).1
 have l1:=ru.length
 have l2:=rv.length
 obtain ⟨x,hx⟩:∃ x,xs[i]?=some x:=⟨_,LS (by omega)⟩
 obtain ⟨y,hy⟩:∃ y,ys[i]?=some y:=⟨_,LS (by omega)⟩
 obtain ⟨u',hu',ru'⟩:=ru.get hx
 obtain ⟨v',hv',rv'⟩:=rv.get hy
 have eu:u=u':=by
  have:us.toArray[i]?=some u':=by simpa using hu'
  rw [this] at p1
  exact (L9 p1).symm
 have ev:v=v':=by
  have:vs.toArray[i]?=some v':=by simpa using hv'
  rw [this] at p2
  exact (L9 p2).symm
 subst eu ev
 exact ⟨h1,x,y,u,v,hx,hy,ru',rv',e⟩
theorem AX {x y:V} {u:Value} (a:aH x u) (b:aH y u):x=y:=by
 cases x <;> cases y <;> simp only [aH] at a b <;> first
  | rfl
  | (subst a; cases b; rfl)
  | (subst a; cases b; done)
  | (obtain ⟨t,rfl⟩:=a; obtain ⟨t',e⟩:=b; cases e; rfl)
  | (obtain ⟨t,rfl⟩:=a; obtain ⟨t',e⟩:=b; cases e; done)
  | (obtain ⟨t,rfl⟩:=a; cases b; done)
  | (subst a; obtain ⟨t',e⟩:=b; cases e; done)
theorem JR (S1 S2:Src) {a b:Expr} {ta:TA} {p pos p2 pos2:Pos} (hc:X.calm=true) (hgl:Gl X "list") (hml:X.mg "list"=none) (hg:Gl X "zip") (hm:X.mg "zip"=none) (ha:PA X [a,b] ta)
  (hs:Mp [a,b] X.env=[(false,eval a X.env),(false,eval b X.env)]:=by rfl) (hs2:Mp [b] X.env=[(false,eval b X.env)]:=by rfl)
  (hs3:Mp [.Call (.Name "zip" p2) [a,b] [] pos2] X.env=[(false,eval (.Call (.Name "zip" p2) [a,b] [] pos2) X.env)]:=by rfl):
  PE X (.Call (.Name "list" p) [.Call (.Name "zip" p2) [a,b] [] pos2] [] pos) (De S1 S2 X.K ta):=by
 intro pins s σ H Q I h
 refine N7 (gA I hgl hml OX (Ny ?_ hs3 rfl))
 rw [hs3]
 show wpAny _ _ (spliced [(false,eval (.Call (.Name "zip" p2) [a,b] [] pos2) X.env)]) _ _ s
 refine Q4 ?_
 refine Call_ (gA I hg hm boot_zip (Ny (thn (ha pos2 pins s σ H _ I h) fun us s1 ⟨vs,H1,I1,r1,q1⟩=>?_) (by rw [hs,hs2]) (by rw [hs2]; rfl)))
 obtain ⟨l1,l2,xs,ys,e,hq1,hq2,hxl,q⟩:=q1
 subst e
 obtain ⟨u,v,rfl,ru,rv⟩:=r1.two
 cases ru
 cases rv
 obtain ⟨us1,rv1,p1,_⟩:=S1.get I1 hq1
 obtain ⟨us2,rv2,p2',_⟩:=S2.get I1 hq2
 refine Tz F.called_zip (by decide) (Us _ _) (UQ _ _) (fun obj=>SV obj _ _) UR (Ca S1 S2 l1 l2 us1.toArray us2.toArray) ⟨p1,p2',?_⟩
 generalize hn:s1.heap.objs.size=n
 have z1:(zh1 S1 s1.heap l1).objs.size=n + 1:=by rw [MG,hn]
 have z2:(zh2 S1 S2 s1.heap l1 l2).objs.size=n + 2:=by rw [MG,z1]
 have z3:(zh3 S1 S2 s1.heap l1 l2).objs.size=n + 3:=by rw [MG,z2]
 have z4:(zh4 S1 S2 s1.heap l1 l2).objs.size=n + 4:=by rw [MG,z3]
 have z5:(zh5 S1 S2 s1.heap l1 l2).objs.size=n + 5:=by rw [MG,z4]
 have g5:(zh5 S1 S2 s1.heap l1 l2).get? (zh4 S1 S2 s1.heap l1 l2).objs.size=some _:=L6 _ rfl
 have g4:(zh5 S1 S2 s1.heap l1 l2).get? (zh3 S1 S2 s1.heap l1 l2).objs.size=some _:=LP _ (L6 _ rfl)
 have g3:(zh5 S1 S2 s1.heap l1 l2).get? (zh2 S1 S2 s1.heap l1 l2).objs.size=some _:=LP _ (LP _ (L6 _ rfl))
 have g2:(zh5 S1 S2 s1.heap l1 l2).get? (zh1 S1 s1.heap l1).objs.size=some _:=LP _ (LP _ (LP _ (L6 _ rfl)))
 have g1:(zh5 S1 S2 s1.heap l1 l2).get? s1.heap.objs.size=some _:=LP _ (LP _ (LP _ (LP _ (L6 _ rfl))))
 have kp:∀ c o,s1.heap.get? c=some o->(zh5 S1 S2 s1.heap l1 l2).get? c=some o:=fun c o e=>
  LP _ (LP _ (LP _ (LP _ (LP _ e))))
 show _/\_
 rw [z2,z3,z4] at g5
 rw [z1,z2,hn] at g3
 rw [z3] at g4
 rw [z1] at g2
 rw [hn] at g1
 rw [z4]
 refine ⟨⟨_,g5,rfl⟩,Ru ?_⟩
 have lt1:l1 < n:=by
  obtain ⟨o,_,ho,_⟩:=S1.isSeq p1
  rw [<-hn]; exact L5 ho
 have lt2:l2 < n:=by
  obtain ⟨o,_,ho,_⟩:=S2.isSeq p2'
  rw [<-hn]; exact L5 ho
 have five:∀ c:Nat,c∈[n + 4,n + 2,n + 3,n,n + 1]->n<=c/\c < n + 5:=fun c hc=>by
  simp only [L7,M9,or_false] at hc
  omega
 have nel:∀ l c:Nat,l < n->n<=c->c≠l:=fun l c h1 h2=>by omega
 have Z:i5 (n + 4) (n + 2) (n + 3) n (n + 1) [n,l1] [n + 1,l2]:=zap (by simp) (fun c hc=>nel l1 c lt1 (five c hc).1) (fun c hc=>nel l2 c lt2 (five c hc).1)
 have is1:S1.Is (zh5 S1 S2 s1.heap l1 l2) l1 us1.toArray:=S1.isKeep p1 fun o e=>kp _ _ e
 have is2:S2.Is (zh5 S1 S2 s1.heap l1 l2) l2 us2.toArray:=S2.isKeep p2' fun o e=>kp _ _ e
 refine HM (s:={ s1 with heap:=zh5 S1 S2 s1.heap l1 l2 }) (n1:=us1.toArray.size) (n2:=us2.toArray.size) (I1.ok.hd hc) Z (fun A' hA=>S1.draws hA n l1 (nel l1 n lt1 (LV _)).symm us1.toArray) (fun A' hA=>S2.draws hA (n + 1) l2 (nel l2 (n + 1) lt2 (OG _)).symm us2.toArray) ?_ ?_ ?_ ?_ g5 g4 g3 ⟨S1.mkI g1 rfl rfl,is1⟩ ⟨S2.mkI g2 rfl rfl,is2⟩ ?_
 ·have:=rv1.length
  simp only [Me]
  rw [LY]
  omega
 ·intro c hc
  show c < (zh5 S1 S2 s1.heap l1 l2).objs.size
  rw [z5]
  exact (five c hc).2
 ·intro c hc
  show c < (zh5 S1 S2 s1.heap l1 l2).objs.size
  rw [z5]
  rcases L7.mp hc with rfl | hc
  ·exact Nat.lt_add_of_pos_right (by decide)
  ·rw [LW.mp hc]; exact Mr lt1 (NU _ _)
 ·intro c hc
  show c < (zh5 S1 S2 s1.heap l1 l2).objs.size
  rw [z5]
  rcases L7.mp hc with rfl | hc
  ·exact Nat.add_lt_add_left (by decide) n
  ·rw [LW.mp hc]; exact Mr lt2 (NU _ _)
 intro h' tk acc c ts hk hS' hl hG hacc
 have hS'':h'.get? (n + 5)=some { cls:=.type "list",dict:=none,data:=.seq acc c,slots:=#[] }:=by rw [<-z5]; exact hS'
 have hG':ZTs (fun i v=>us1.toArray[i]?=some v) (fun i v=>us2.toArray[i]?=some v) (n + 5 + 1) h' ts:=by rw [<-z5]; exact hG
 have hl':ts.length=min us1.length us2.length:=by simpa using hl
 have G:=JQ rv1 rv2 hl' hG'
 have old:∀ b o,s1.heap.get? b=some o->h'.get? b=some o:=fun b o e=>hk b o (fun hm=>by
  have:=L5 e
  rw [hn] at this
  exact absurd (five b hm).1 (QN.mpr this)) (kp b o e)
 have l1':=rv1.length
 have l2':=rv2.length
 let H':Hp:=fun b=>if b=n + 5 then some (.lst (ts.map V.ref)) else match ts.findIdx? (· == b) with
  | some i=>(match xs[i]?,ys[i]? with | some x,some y=>some (.tup [x,y]) | _,_=>H1 b)
  | none=>H1 b
 have big:∀ (i:Nat) (t:Addr),ts[i]?=some t->n + 6<=t:=fun i t ht=>(G i t ht).1
 have Hts:∀ (i:Nat) (t:Addr),ts[i]?=some t->∃ x y u v,H' t=some (.tup [x,y])/\xs[i]?=some x/\ys[i]?=some y/\aH x u/\aH y v/\IsPair h' t u v:=by
  intro i t ht
  obtain ⟨hlo,x,y,u,v,hx,hy,rx,ry,e⟩:=G i t ht
  refine ⟨x,y,u,v,?_,hx,hy,rx,ry,e⟩
  have net:t≠n + 5:=fun q=>by rw [q] at hlo; exact absurd hlo (QN.mpr (Nv _))
  show (if t=n + 5 then _ else _)=_
  rw [if_neg net]
  cases hf:ts.findIdx? (· == t) with
  | none=>
   have:=PQ.mp hf t (LZ ht)
   simp at this
  | some i0=>
   obtain ⟨h0,h1,_⟩:=Oo.mp hf
   have ht0:ts[i0]?=some t:=by rw [LS h0]; congr 1; exact eq_of_beq h1
   obtain ⟨_,x0,y0,u0,v0,hx0,hy0,rx0,ry0,e0⟩:=G i0 t ht0
   have eq:=L9 (e0.symm.trans e)
   have eu:u0=u/\v0=v:=by
    injection eq with _ _ eq
    injection eq with eq _
    simp at eq
    exact eq
   rw [eu.1] at rx0
   rw [eu.2] at ry0
   simp only [hx0,hy0]
   rw [AX rx0 rx,AX ry0 ry]
 have hH:∀ b,b < s1.heap.objs.size->H' b=H1 b:=by
  intro b hb
  rw [hn] at hb
  have ne5:b≠n + 5:=fun q=>by rw [q] at hb; exact absurd hb (RF.mpr (NU _ _))
  show (if b=n + 5 then _ else _)=_
  rw [if_neg ne5]
  cases hf:ts.findIdx? (· == b) with
  | none=>rfl
  | some i0=>
   obtain ⟨h0,h1,_⟩:=Oo.mp hf
   have ht0:ts[i0]?=some b:=by rw [LS h0]; congr 1; exact eq_of_beq h1
   have:=big i0 b ht0
   exact absurd (Mr hb (MD (NU _ _) this)) (Nd _)
 have e5:H' (n + 5)=some (.lst (ts.map V.ref)):=if_pos rfl
 have hvals:aG (ts.map V.ref) acc.toList:=by
  have go:∀ l:List Addr,aG (l.map V.ref) (l.map MA):=fun l=>by
   induction l with
   | nil=>exact .nil
   | cons t r ih=>exact .cons rfl ih
  rw [hacc]
  exact go ts
 have I2:Inv X pins σ H' { s1 with heap:=h',toks:=tk }:=I1.news old hH fun a o ha eo=>by
  by_cases c5:a=n + 5
  ·subst c5
   rw [e5] at eo
   cases eo
   refine ⟨?_,acc.toList,c,hvals,by simpa using hS''⟩
   rw [LR,hl',LY]
   omega
  ·have eo':(match ts.findIdx? (· == a) with
    | some i=>(match xs[i]?,ys[i]? with | some x,some y=>some (HO.tup [x,y]) | _,_=>H1 a)
    | none=>H1 a)=some o:=by
    have:H' a=some o:=eo
    rw [show H' a=(if a=n + 5 then some (.lst (ts.map V.ref)) else match ts.findIdx? (· == a) with
     | some i=>(match xs[i]?,ys[i]? with | some x,some y=>some (.tup [x,y]) | _,_=>H1 a)
     | none=>H1 a) from rfl,if_neg c5] at this
    exact this
   have hfr:H1 a=none:=I1.hok.fresh ha
   cases hf:ts.findIdx? (· == a) with
   | none=>rw [hf] at eo'; rw [show H1 a=some o from eo'] at hfr; cases hfr
   | some i0=>
    obtain ⟨h0,h1,_⟩:=Oo.mp hf
    have ht0:ts[i0]?=some a:=by rw [LS h0]; congr 1; exact eq_of_beq h1
    obtain ⟨_,x0,y0,u0,v0,hx0,hy0,rx0,ry0,e0⟩:=G i0 a ht0
    rw [hf] at eo'
    simp only [hx0,hy0] at eo'
    cases eo'
    exact ⟨(by show 2<=Mb; decide),[u0,v0],.cons rx0 (.cons ry0 .nil),_,e0,rfl,⟨0,rfl⟩,rfl⟩
 have hp5:H1 (n + 5)=none:=I1.hok.fresh (by rw [hn]; exact NU _ _)
 have hsame:am H1 H':=fun b o eb=>by
  rw [hH b (I1.hok.lt eb)]
  exact eb
 show ∃ v H',_/\_/\_
 refine ⟨.ref (n + 5),H',I2,by rw [<-z5]; rfl,q _ _ hp5 hsame ⟨ts,e5,?_⟩⟩
 have go:∀ (l:List Addr) (m:List (V×V)),l.length=m.length->(∀ (i:Nat) (t:Addr) (pq:V×V),l[i]?=some t->m[i]?=some pq->H' t=some (.tup [pq.1,pq.2]))->su H' l m:=by
  intro l
  induction l with
  | nil=>intro m hl _; cases m with
   | nil=>exact .nil
   | cons _ _=>simp at hl
  | cons t r ih=>intro m hl hh; cases m with
   | nil=>simp at hl
   | cons pq m=>exact .cons (hh 0 t pq rfl rfl) (ih m (by simpa using hl) fun i t pq h1 h2=>hh (i + 1) t pq h1 h2)
 refine go _ _ (by rw [Pe]; omega) fun i t pq ht hpq=>?_
 obtain ⟨x,y,u,v,e,hx,hy,_⟩:=Hts i t ht
 rw [e]
 have:(xs.zip ys)[i]?=some (x,y):=by rw [Ou]; exact ⟨hx,hy⟩
 rw [this] at hpq
 cases hpq
 rfl
end
end
section
open PySem.Spec
theorem Dy {M:Model} {A:Around} {E:Value->Shared->Prop} {s:Shared} {scope:Scope} {globals:Addr} {cl:List (Str×Addr)} {qual:Str} {func:Option Addr} {code:Value} {outer:Env} {builtins:Addr} {x:Str} {Q:Env->Shared->Prop}
  (hown:∀ n acc,Se n scope.names acc=(x,n) :: acc) (hpush:∀ h:Heap,pushCells h scope.names=h.push { cls:=.type "cell",data:=.cell none })
  (hQ:Q (newEnv scope s.heap.objs.size globals ((x,s.heap.objs.size + 1) :: cl) qual func code (some outer) builtins) { s with heap:=(s.heap.push { cls:=.type "dict",data:=.dict #[] }).push { cls:=.type "cell",data:=.cell none } }):
  wpAny M A (QU scope globals cl [] qual func code (some outer) builtins) Q E s:=by
 simp only [QU,TB,if_true]
 refine LO (wpAny_alloc ?_)
 refine LO (wpAny_layCells _ (fun name kind cells=>by cases hkc:kind == PH <;> simp [hkc]) _ _ _ _ ?_)
 rw [hown,hpush]
 rw [show ({ s with heap:=s.heap.push { cls:=.type "dict",data:=.dict #[] } }:Shared).heap.objs.size=s.heap.objs.size + 1 from MG ..]
 rw [P7]
 exact LO (LQ (LQ hQ))
structure wb (sc scope:Scope) (NX N:List Str) (ix:List (Option Nat)) (x:Str):Prop where
 kind:scope.kind=.function
 own:∀ y∈scope.names,y.2=.cell->y.1=x
 ownx:scope.names.lookup x=some .cell
 cells:∀ n acc,Se n scope.names acc=(x,n) :: acc
 push:∀ h:Heap,pushCells h scope.names=h.push { cls:=.type "cell",data:=.cell none }
 names:∀ y∈scope.names,y.2=.local->scope.names.lookup y.1=some .local
 free:∀ y∈scope.names,y.2=.free->y.1≠x/\(sc.names.lookup y.1=some .cell\/sc.names.lookup y.1=some .free)
 nd:N.Nodup
 len:ix.length=N.length
 at_:∀ p∈N.zip ix,∀ i∈p.2,NX[i]?=some p.1/\scope.names.lookup p.1=some .free
noncomputable def cy (X:Cx) (N:List Str) (scope:Scope) (x:Str) (C:Addr) (s:Shared) (H:Hp) (fp:List Addr):Cx where
 prog:=X.prog
 w:=X.w
 K:=X.K
 mg:=X.mg
 base:=X.base
 A:=X.A
 N:=N
 s₀:=s
 H₀:=H
 env:=Qq scope ((x,C + 1) :: dz X.env scope.names []) C X.env
 outer:=X.stack
 stack:=X.stack
 ex:=fp
 fn:=fun y=>decide (y=x)
 calm:=X.calm
 pn:=[]
 xe:=fun _ _=>False
theorem K3 {X:Cx} {N:List Str} {scope:Scope} {x:Str} {C:Addr} {s:Shared} {H:Hp} {fp:List Addr}:(cy X N scope x C s H fp).fn x=true:=by
 show decide (x=x)=true
 simp
theorem jM {x y:Str} {c d:Addr} {l:List (Str×Addr)} (h:((x,d) :: l).lookup y=some c):(y=x/\c=d)\/(y≠x/\l.lookup y=some c):=by
 rw [MX] at h
 cases e:y == x with
 | true=>rw [e] at h; cases h; exact .inl ⟨eq_of_beq e,rfl⟩
 | false=>
  rw [e] at h
  refine .inr ⟨fun z=>?_,h⟩
  rw [z,beq_self_eq_true] at e
  cases e
theorem JS {x:Str} {d:Addr} {l:List (Str×Addr)}:((x,d) :: l).lookup x=some d:=by rw [MX,beq_self_eq_true]
theorem yz {x y:Str} {d c:Addr} {l:List (Str×Addr)} (n:y≠x) (h:l.lookup y=some c):((x,d) :: l).lookup y=some c:=by
 rw [MX,beq_eq_false_iff_ne.mpr n]
 exact h
section
variable {X:Cx} {elt tg iter:Expr} {ifs:List Expr} {scope sc:Scope} {pos:Pos} {NX N:List Str} {ix:List (Option Nat)} {own:Str} {wi:TI} {g:CF TG} {tt:CF TT} {te:CF TE}
theorem BN {pins:List (Addr×Obj)} {σ:St} {H:Hp} {s:Shared} {fp:List Addr} {it:Addr} {J:It} {tn:Nat->Heap->Prop} {Q:VK} {E:Value->Shared->Prop} {RR:Value->Addr->Result->Shared->Prop}
  (hc:X.calm=true) (hsc:X.env.scope=sc) (hNX:X.N=NX) (S:wb sc scope NX N ix own)
  (hg:∀ C s H fp,PG (cy X N scope own C s H fp) tg (g C s H fp)) (ht:∀ C s H fp,PTL (cy X N scope own C s H fp) ifs (tt C s H fp)) (he:∀ C s H fp,PE (cy X N scope own C s H fp) elt (te C s H fp))
  (I:Inv X pins σ H s) (T:qL X.prog X.w X.K tg J fp it tn) (st:tn 0 s.heap) (hf:∀ b∈fp,iZ X pins H b)
  (hq:∀ p,H p=none->∃ W:Nat->Nat->List V->Hp->Prop,(∃ m,W 0 m [] (upd H p (.lst [])))/\∀ C s' H' fp,ca J (g C s' H' fp) (tt C s' H' fp) (te C s' H' fp) (sub ix σ) p Q W)
  (hR:∀ p C s' H' m,s.heap.objs.size<=p->s.heap.objs.size<=C->s'.heap.Ns C m->H' C=none->Q (.ref p) H'->Inv X pins σ H' s'->RR (.ref p) C (.ok .next) s'):
  wpAny (model X.prog X.w) X.A (newList []) (fun acc s₃=>wpAny (model X.prog X.w) X.A (QU scope X.env.globals (dz X.env scope.names []) [] X.env.qual none .none (some X.env)) (fun cenv s₄=>
   codeAny (model X.prog X.w) X.A (.compStart (.ListComp elt [⟨tg,iter,ifs,0⟩] scope pos) 0 (.ref it) acc { cenv with scope:=relabel scope X.env }) (RR acc cenv.locals) s₄) E s₃) E s:=by
 refine MY (Dy S.cells S.push ?_)
 dsimp only
 have hsz:(s.heap.push { cls:=.type "list",dict:=none,data:=.seq ([]:List Value).toArray }).objs.size=s.heap.objs.size + 1:=MG ..
 have hns₀:=Heap.Ns.new (s.heap.push { cls:=.type "list",dict:=none,data:=.seq ([]:List Value).toArray }) (.type "dict")
 have hsz₂:((s.heap.push { cls:=.type "list",dict:=none,data:=.seq ([]:List Value).toArray }).push { cls:=.type "dict",data:=.dict #[] }).objs.size=s.heap.objs.size + 2:=by rw [MG,MG]
 have keep₁:∀ b o,s.heap.get? b=some o->(((s.heap.push { cls:=.type "list",dict:=none,data:=.seq ([]:List Value).toArray }).push { cls:=.type "dict",data:=.dict #[] }).push { cls:=.type "cell",data:=.cell none }).get? b=some o:=fun b o e=>LP _ (LP _ (LP _ e))
 have lst₁:(((s.heap.push { cls:=.type "list",dict:=none,data:=.seq ([]:List Value).toArray }).push { cls:=.type "dict",data:=.dict #[] }).push { cls:=.type "cell",data:=.cell none }).get? s.heap.objs.size=some { cls:=.type "list",data:=.seq ([]:List Value).toArray }:=LP _ (LP _ (L6 _ rfl))
 have cel₁:(((s.heap.push { cls:=.type "list",dict:=none,data:=.seq ([]:List Value).toArray }).push { cls:=.type "dict",data:=.dict #[] }).push { cls:=.type "cell",data:=.cell none }).IsCell (s.heap.objs.size + 2) none:=⟨_,by rw [<-hsz₂]; exact L6 _ rfl,rfl⟩
 have hns₁:=hns₀.keeps (h':=((s.heap.push { cls:=.type "list",dict:=none,data:=.seq ([]:List Value).toArray }).push { cls:=.type "dict",data:=.dict #[] }).push { cls:=.type "cell",data:=.cell none }) (fun b o e=>LP _ e)
 generalize ((s.heap.push { cls:=.type "list",dict:=none,data:=.seq ([]:List Value).toArray }).push { cls:=.type "dict",data:=.dict #[] }).push { cls:=.type "cell",data:=.cell none }=h₁ at hns₁ keep₁ lst₁ cel₁ ⊢
 generalize hC:(s.heap.push { cls:=.type "list",dict:=none,data:=.seq ([]:List Value).toArray }).objs.size=C at hns₁ ⊢
 rw [hsz] at hC
 generalize hp:s.heap.objs.size=p at hC
 have pC:p≠C:=by omega
 have old:∀ b o,s.heap.get? b=some o->h₁.get? b=some o:=keep₁
 have hnew:h₁.get? p=some { cls:=.type "list",data:=.seq ([]:List Value).toArray }:=by rw [<-hp]; exact lst₁
 have cel:h₁.IsCell (C + 1) none:=by
  have e:C + 1=s.heap.objs.size + 2:=by omega
  rw [e]
  exact cel₁
 have hfO:H (C + 1)=none:=I.hok.fresh (by omega)
 have hfp:H p=none:=I.hok.fresh (by omega)
 have hfC:H C=none:=I.hok.fresh (by omega)
 have lt:∀ b∈fp,b < p:=fun b hb=>by
  obtain ⟨o,e,_⟩:=T.obj 0 _ st b hb
  rw [<-hp]
  exact L5 e
 have hcells:∀ y∈scope.names,y.2=.free->∃ c,X.env.cells.lookup y.1=some c:=fun y hy hk=>by
  refine I.ok.has y.1 ?_
  show X.env.scope.names.lookup y.1=some .cell\/X.env.scope.names.lookup y.1=some .free
  rw [hsc]
  exact (S.free y hy hk).2
 have noown:∀ x,scope.names.lookup x=some .cell->x=own:=fun x e=>S.own _ (MJ e) rfl
 have low:∀ {x:Str} {c:Addr},(dz X.env scope.names []).lookup x=some c->c < p:=fun {x c} e=>by
  obtain ⟨v,o,ho,_⟩:=I.cell x c (cf e)
  rw [<-hp]
  exact L5 ho
 have hok:(cy X N scope own C s H fp).Ok:=by
  refine ⟨I.ok.mod,S.kind,I.ok.glob,I.ok.blt,by show s.heap.objs.size<=C; omega,fun x y c h1 h2=>?_,fun x hx=>?_,fun x c z hc'=>?_,I.ok.hd,I.ok.frames,.inl rfl,fun b hb=>?_,I.bs,MD I.ok.bsz I.sz,fun b o e hb=>?_,fun b hb z=>?_,I.stack,I.stkFree⟩
  ·rcases jM h1 with ⟨e1,z1⟩ | ⟨_,h1⟩ <;> rcases jM h2 with ⟨e2,z2⟩ | ⟨_,h2⟩
   ·rw [e1,e2]
   ·have a1:@LT.lt Nat _ c p:=low h2
    have a2:@Eq Nat c (C + 1):=z1
    omega
   ·have a1:@LT.lt Nat _ c p:=low h1
    have a2:@Eq Nat c (C + 1):=z2
    omega
   ·exact I.ok.inj x y c (cf h1) (cf h2)
  ·by_cases hxo:x=own
   ·exact ⟨C + 1,by subst hxo; exact JS⟩
   have hx':scope.names.lookup x=some .free:=by
    rcases hx with hx | hx
    ·rcases i3 hx with q | q
     ·exact absurd (noown x q) hxo
     ·exact q.2
    ·rcases i3 hx with q | q
     ·exact q
     ·exact q.2
   obtain ⟨c,hc'⟩:=hcells _ (MJ hx') rfl
   exact ⟨c,yz hxo (mQ (MJ hx') hc')⟩
  ·have z':x=own:=of_decide_eq_true z
   rcases jM hc' with ⟨_,e⟩ | ⟨n,_⟩
   ·have a2:@Eq Nat c (C + 1):=e
    have a3:@LE.le Nat _ s.heap.objs.size c:=by omega
    exact a3
   ·exact absurd z' n
  ·refine ⟨?_,fun x c e=>?_⟩
   ·show b≠C
    exact kK (lt b hb) (by omega)
   ·rcases jM e with ⟨_,e⟩ | ⟨_,e⟩
    ·have a1:@LT.lt Nat _ b p:=lt b hb
     have a2:@Eq Nat c (C + 1):=e
     intro z
     have a3:@Eq Nat c b:=z
     omega
    ·exact (hf b hb).2.2.2.2.1 x c (cf e)
  ·rcases (hf b hb).2.2.2.1 with z | z
   ·exact I.ok.noex b o e z
   ·exact absurd (Mr (L5 e) (MD I.ok.bsz z)) (Nd _)
  ·rcases L7.mp (I.stkSub b z) with q | q
   ·exact (hf b hb).2.1 q
   ·exact (hf b hb).2.2.1 q
 have locs:∀ h':Heap,(∀ x c o,X.env.cells.lookup x=some c->s.heap.get? c=some o->∃ sl,h'.get? c=some { o with slots:=sl })->
   ∀ (i:Nat) (x:Str) (v:V),N[i]?=some x->(sub ix σ)[i]?=some (some v)->∃ u,aH v u/\∀ m,Gg (Qq scope ((own,C + 1) :: dz X.env scope.names []) C X.env) h' m x u:=by
  intro h' hk i x v h1 h2
  obtain ⟨k,hk',hv⟩:∃ k,ix[i]?=some (some k)/\σ[k]?=some (some v):=by
   unfold sub at h2
   rw [LX] at h2
   cases e:ix[i]? with
   | none=>rw [e] at h2; cases h2
   | some o=>
    rw [e] at h2
    cases o with
    | none=>cases h2
    | some k=>
     refine ⟨k,rfl,?_⟩
     have h2':(match σ[k]? with | some v=>v | none=>none)=some v:=L9 h2
     cases e2:σ[k]? with
     | none=>rw [e2] at h2'; cases h2'
     | some z=>
      rw [e2] at h2'
      rw [show z=some v from h2']
  have hm:(x,some k)∈N.zip ix:=by
   refine LZ (i:=i) ?_
   rw [Ou]
   exact ⟨h1,hk'⟩
  obtain ⟨a1,a2⟩:=S.at_ _ hm k (by simp)
  obtain ⟨hno,hX⟩:=S.free _ (MJ a2) rfl
  have hvis:Vis X.env.scope x:=by
   show _\/_\/_
   rw [hsc]
   exact .inr hX
  obtain ⟨m,hn,hl⟩:=I.loc
  obtain ⟨u,r,l⟩:=hl k x v (by rw [hNX]; exact a1) hv hvis
  refine ⟨u,r,fun m'=>.inr ⟨qT a2,?_⟩⟩
  rcases l with ⟨l,_⟩ | ⟨_,c,e,z⟩
  ·have l':X.env.scope.names.lookup x=some .local:=l
   rw [hsc] at l'
   rcases hX with q | q <;> (rw [q] at l'; cases l')
  ·obtain ⟨o,ho,hd⟩:=z
   obtain ⟨sl,e'⟩:=hk x c o e ho
   exact ⟨c,yz hno (mQ (MJ a2) e),_,e',hd⟩
 have hlen:(sub ix σ).length=N.length:=by
  unfold sub
  rw [LR]
  exact S.len
 have I1:Inv (cy X N scope own C s H fp) [] (sub ix σ) (upd H p (.lst [])) { s with heap:=h₁ }:=by
  refine ⟨hok,rfl,I.bare,Un.laid old (OZ hp) hfp,⟨_,hns₁,fun i x v h1 h2 h3=>?_⟩,fun x c e=>?_,?_,fun x c e=>?_,fun q hq=>(nomatch hq),I.hok.laid old (OZ hp) ⟨M7 _,[],0,.nil,hnew⟩,hlen⟩
  ·obtain ⟨u,r,l⟩:=locs h₁ (fun y c o _ ho=>⟨o.slots,old c o ho⟩) i x v h1 h2
   exact ⟨u,r,l _⟩
  ·rcases jM e with ⟨_,e⟩ | ⟨_,e⟩
   ·rw [e]
    exact ⟨none,cel⟩
   ·obtain ⟨v,o,ho,hd⟩:=I.cell x c (cf e)
    exact ⟨v,o,old c o ho,hd⟩
  ·show upd H p _ C=none
   rw [aM (Np pC)]
   exact hfC
  ·rcases jM e with ⟨_,e⟩ | ⟨_,e⟩
   ·rw [e,aM (show C + 1≠p by omega)]
    exact hfO
   have e':=cf e
   obtain ⟨v,o,ho,hd⟩:=I.cell x c e'
   rw [aM (kK (L5 ho) (OZ hp))]
   exact I.freeC x c e'
 have back:∀ {pl:List (Addr×Obj)} {σ':St} {H':Hp} {s':Shared},Inv (cy X N scope own C s H fp) pl σ' H' s'->Inv (cy X N scope own C s H fp) pl (sub ix σ) H' s':=fun {pl σ' H' s'} J=>by
  obtain ⟨m,hn,_⟩:=J.loc
  refine ⟨J.ok,J.os,J.bare,J.base,⟨m,hn,fun i x v h1 h2 h3=>?_⟩,J.cell,J.free,J.freeC,J.pin,J.hok,hlen⟩
  obtain ⟨u,r,l⟩:=locs s'.heap (fun y c o hc' ho=>J.base.any ho (I.freeC y c hc') fun hb=>(hf c hb).2.2.2.2.1 y c hc' rfl) i x v h1 h2
  exact ⟨u,r,l _⟩
 obtain ⟨W,⟨m0,w0⟩,turn⟩:=hq p hfp
 have st1:tn 0 h₁:=T.keep 0 _ _ st fun b _ o e=>old b o e
 have fp1:∀ {H':Hp},(∀ b∈fp,H' b=none)->∀ b∈fp,iZ (cy X N scope own C s H fp) [] H' b:=fun {H'} hn b hb=>
  ⟨hn b hb,(hok.exf b hb).1,hok.exfs b hb,.inl hb,(hok.exf b hb).2,fun q hq=>(nomatch hq)⟩
 have loop:codeAny (model X.prog X.w) X.A (.compLoop (.ListComp elt [⟨tg,iter,ifs,0⟩] scope pos) 0 (.ref it) (.ref p) (Qq scope ((own,C + 1) :: dz X.env scope.names []) C X.env)) (RR (.ref p) C) { s with heap:=h₁ }:=by
  refine ye (fun n s'=>∃ i acc H',Inv (cy X N scope own C s H fp) [] (sub ix σ) H' s'/\tn i s'.heap/\(∀ b∈fp,H' b=none)/\W i n acc H') ?_ m0
   ⟨0,[],_,I1,st1,fun b hb=>by rw [aM (kK (lt b hb) (LV _))]; exact (hf b hb).1,w0⟩
  rintro n s3 ⟨i,acc,H3,I3,st3,fr3,w3⟩
  obtain ⟨hacc,w4⟩:=turn C s H fp i n acc H3 w3
  rcases w4 with ⟨stop,qn⟩ | ⟨go,hln,N',hN',step⟩
  ·refine thn (T.done (cy X N scope own C s H fp) rfl rfl rfl hc i [] s3 _ H3 (fun _ _=>False) I3 (fp1 fr3) st3 stop) fun r s4 ⟨hr,I4⟩=>?_
   subst hr
   obtain ⟨m,hn,_⟩:=I4.loc
   refine hR p C s4 H3 m (by omega) (by omega) hn I4.free qn ?_
   exact I.call' I4.os I4.base I4.hok I4.bare fun b hb=>⟨(hf b hb).2.2.2.1,(hf b hb).2.1,(hf b hb).2.2.2.2.1,(hf b hb).2.2.2.2.2⟩
  ·refine thn (T.item (cy X N scope own C s H fp) rfl rfl rfl hc i [] s3 _ H3 (fun _ _=>False) I3 (fp1 fr3) st3 go) fun r s4 ⟨u,hr,h4⟩=>?_
   subst hr
   refine thn h4 fun _ s5 ⟨x,H5,I5,r5,y5,st5,fr5⟩=>?_
   have I5':=I5.pinned (fp1 fr5) (T.obj _ _ st5)
   refine thn (hg C s H fp _ s5 _ H5 x u _ I5' r5 (step x H5 y5)) fun _ s6 ⟨σ6,H6,I6,q6⟩=>?_
   have later:∀ {s7:Shared} {H7:Hp} {acc':List V} {σ7:St},Inv (cy X N scope own C s H fp) ([]++nX fp s5.heap) σ7 H7 s7->(∃ m',m' < n/\W (i + 1) m' acc' H7)->
     ∃ m,m < n/\∃ i acc H',Inv (cy X N scope own C s H fp) [] (sub ix σ) H' s7/\tn i s7.heap/\(∀ b∈fp,H' b=none)/\W i m acc H':=fun {s7 H7 acc' σ7} I7 ⟨m',hm,w7⟩=>by
    refine ⟨m',hm,i + 1,acc',H7,back (I7.unpinned (pins:=[])),T.keep _ _ _ st5 fun b hb o e=>(I7.pin (b,o) (MB _ (MB _ (gQ hb e)))).1,fun b hb=>?_,w7⟩
    obtain ⟨o,e,d⟩:=T.obj _ _ st5 b hb
    exact (I7.pin (b,o) (MB _ (MB _ (gQ hb e)))).2.1
   refine thn (ht C s H fp _ s6 σ6 H6 _ I6 q6) fun ok s7 ⟨H7,I7,q7⟩=>?_
   cases ok with
   | false=>exact later I7 (hN' _ _ q7)
   | true=>
    refine thn (he C s H fp _ s7 σ6 H7 _ I7 q7) fun y s8 ⟨v8,H8,I8,r8,hacc8,w8⟩=>?_
    refine thn (db (X:=cy X N scope own C s H fp) _ s8 σ6 H8 (.ref p) [v8] (.ref p) [y] (fun _ H9=>H9=upd H8 p (.lst (acc++[v8]))) I8 rfl (.cons r8 .nil) ⟨p,acc,v8,rfl,rfl,hacc8,hln,rfl⟩) fun _ s9 ⟨_,H9,I9,_,e9⟩=>?_
    subst e9
    exact later I9 (hN' _ _ w8)
 exact Su loop (T.self _ 0 _ _ _ st1 loop)
theorem HP (hc:X.calm=true) (S:wb sc scope NX N ix own) (hi:PI X tg iter wi)
  (hg:∀ C s H fp,PG (cy X N scope own C s H fp) tg (g C s H fp)) (ht:∀ C s H fp,PTL (cy X N scope own C s H fp) ifs (tt C s H fp)) (he:∀ C s H fp,PE (cy X N scope own C s H fp) elt (te C s H fp))
  (hsc:X.env.scope=sc:=by rfl) (hNX:X.N=NX:=by rfl) (hs:∀ x,Qd iter X.env x=pure x:=by intro _; rfl):
  PE X (.ListComp elt [⟨tg,iter,ifs,0⟩] scope pos) (bO wi g tt te ix):=by
 intro pins s σ H Q I h
 rw [eval_ListComp]
 have hcells:RC scope X.env=pure (dz X.env scope.names []):=pc fun y hy hk=>by
  refine I.ok.has y.1 ?_
  show X.env.scope.names.lookup y.1=some .cell\/X.env.scope.names.lookup y.1=some .free
  rw [hsc]
  exact (S.free y hy hk).2
 refine PY (use:=none) rfl hs hcells S.kind S.names (thn (hi pins s σ H _ I h) fun v s1 h1=>thn h1 fun itv s2 h2=>?_)
 obtain ⟨it,fp,tn,J,H2,e,I2,T,st2,f2,hq⟩:=h2
 subst e
 refine BN (Q:=Q) (RR:=fun acc C=>compPost (model X.prog X.w) X.A X.xe none (EP X pins σ Q) acc C) hc hsc hNX S hg ht he I2 T st2 f2 hq ?_
 intro p C s' H' m hp hC hn hfree q I'
 exact ⟨m,hn,fun h'' hs''=>⟨.ref p,H',I'.gone I2 hC hfree hs'',rfl,q⟩⟩
end
end
end L2
section
namespace L2
open PySem PySem.Spec PySem.W PyProof.Rows
noncomputable def FnA (K:Frag) (x q:Str) (st:Stmt) (f:Addr):Prop:=∃ (oc:Value) (od:Option Addr) (kV doc pm:Value) (an:Option Addr) (cd ct:Value) (sl:Array (Option Value)),K.lookup f=some ⟨oc,od,.func (fnOf x q (jG st) (fz st) (ab st) .none kV doc pm an cd ct),sl⟩/\codeIn K cd q=true/\keepIn K (.ref f)=true
noncomputable def DfA (K:Frag) (x:Str) (st:Stmt):Prop:=∃ f,nsIn K Mx x=some (some (.ref f))/\FnA K x x st f
noncomputable def MtA (K:Frag) (C:Addr) (m q:Str) (st:Stmt):Prop:=∃ f,findIn K (.ref C) m=some (some (.ref f))/\isFn K (.ref f)=true/\FnA K m q st f
theorem FnA.fn {K:Frag} {x q:Str} {st:Stmt} {f:Addr} (h:FnA K x q st f):∃ fd,Fun K x q st f fd:=let ⟨_,_,_,_,_,_,_,_,_,l,c,k⟩:=h; ⟨_,EY l c k⟩
noncomputable abbrev BdA (x q:Str) (st:Stmt) (ps:List Str):Prop:=∀ (kV doc pm:Value) (an:Option Addr) (cdv ct:Value) (us:List Value),us.length=ps.length->bindArgs (fnOf x q (jG st) (fz st) (ab st) .none kV doc pm an cdv ct) ⟨us,[]⟩=pure (ps.zip us)
theorem DfA.df {K:Frag} {mg:Str->Option Value} {h:Heap} {x:Str} {st:Stmt} {ps:List Str} (X:K.In h) (G:h.Ns Mx mg) (q:DfA K x st) (b:BdA x x st ps):∃ f fd,Def K mg x st ps f fd:=
 let ⟨f,a,l⟩:=q; let ⟨fd,F⟩:=l.fn; ⟨f,fd,F,mg_of X G a,F.binds b⟩
theorem MtA.df {K:Frag} {C:Addr} {m q:Str} {st:Stmt} {ps:List Str} (h:MtA K C m q st) (b:BdA m q st ps):∃ f fd,iQ K C m q st ps f fd:=
 let ⟨f,a,i,l⟩:=h; let ⟨fd,F⟩:=l.fn; ⟨f,fd,F,⟨a,i,F.kp⟩,F.binds b⟩
theorem MtA.di {K:Frag} {C:Addr} {q:Str} {st:Stmt} {ps:List Str} (h:MtA K C "__init__" q st) (mk:makesIn K C=true) (kc:keepIn K (.ref C)=true) (b:BdA "__init__" q st ps):∃ f fd,Ax K C q st ps f fd:=
 let ⟨f,a,i,l⟩:=h; let ⟨fd,F⟩:=l.fn; ⟨f,fd,F,⟨mk,a,i,kc⟩,F.binds b⟩
theorem DfA.law {K:Frag} {mg:Str->Option Value} {h:Heap} {x p:Str} {st:Stmt} {fa:Addr} (X:K.In h) (G:h.Ns Mx mg) (q:DfA K x st) (b:BdA x x st [p]) (hf:mg x=some (.ref fa))
  (bb:∀ (kV doc pm:Value) (an:Option Addr) (cdv ct:Value) (s:Shared) (v:Value),BindsTo s (fnOf x x (jG st) (fz st) (ab st) .none kV doc pm an cdv ct) ⟨[v],[]⟩ [(p,v)]):∃ fd,Def K mg x st [p] fa fd/\∀ (s:Shared) (v:Value),BindsTo s fd ⟨[v],[]⟩ [(p,v)]:=by
 obtain ⟨f,a,_,_,kV,doc,pm,an,cdv,ct,_,l,c,k⟩:=q
 have e:=hf.symm.trans (mg_of X G a)
 cases e
 have F:=EY l c k
 exact ⟨_,⟨F,mg_of X G a,F.binds b⟩,bb kV doc pm an cdv ct⟩
end L2
end
namespace Kc_k37
open PySem L2 PyProof.Rows
local macro_rules | `(tactic| walk_at "v")=>`(tactic| exact ⟨rfl,by first | exact L8 rfl | exact PF (L8 rfl) | exact PF (PF rfl),by decide,by decide⟩)
local macro_rules | `(tactic| walk_at "w")=>`(tactic| exact ⟨rfl,rfl,rfl,by decide +kernel,rfl,by decide +kernel,by decide +kernel⟩)
local macro_rules | `(tactic| walk_at "l")=>`(tactic| (intro _ _ _ _ h; first | (obtain ⟨_,e,_⟩:=h; subst e; rfl) | (obtain ⟨_,_,e,_⟩:=h; subst e; rfl) | (obtain ⟨_,_,_,e,_⟩:=h; subst e; rfl) | (obtain ⟨_,_,_,_,e,_⟩:=h; subst e; rfl) | (obtain ⟨_,_,_,_,_,e,_⟩:=h; subst e; rfl) | (obtain ⟨_,_,_,_,_,_,e,_⟩:=h; subst e; rfl) | (obtain ⟨_,_,_,_,_,_,_,e,_⟩:=h; subst e; rfl) | (obtain ⟨_,_,_,_,_,_,_,_,e,_⟩:=h; subst e; rfl) | (obtain ⟨_,_,_,_,_,_,_,_,_,e,_⟩:=h; subst e; rfl) | (obtain ⟨_,_,_,_,_,_,_,_,_,_,e,_⟩:=h; subst e; rfl) | (obtain ⟨_,_,_,_,_,_,_,_,_,_,_,e,_⟩:=h; subst e; rfl) | (obtain ⟨_,_,_,_,_,_,_,_,_,_,_,_,e,_⟩:=h; subst e; rfl) | (obtain ⟨_,_,_,_,_,_,_,_,_,_,_,_,_,e,_⟩:=h; subst e; rfl) | (obtain ⟨_,_,_,_,_,_,_,_,_,_,_,_,_,_,e,_⟩:=h; subst e; rfl) | (obtain ⟨_,_,_,_,_,_,_,_,_,_,_,_,_,_,_,e,_⟩:=h; subst e; rfl) | (obtain ⟨_,_,_,_,_,_,_,_,_,_,_,_,_,_,_,_,e,_⟩:=h; subst e; rfl)))
local macro_rules | `(tactic| walk_at "c")=>`(tactic| (refine ⟨rfl,?_,?_,?_,?_,rfl,?_⟩ <;> decide +kernel))
local macro_rules | `(tactic| walk_at "e")=>`(tactic| (refine ⟨rfl,?_,?_,?_,?_,rfl,?_⟩ <;> first | decide +kernel | exact FS (by decide +kernel)))
theorem pvA {X:Cx} {N:List Str} {sc:Scope} {i:Nat} {x:Str} {pos:Pos} (h:ai N sc i x) (hN:X.N=N:=by exact rfl) (hS:X.env.scope=sc:=by exact rfl):PE X (.Name x pos) (ac i):=pvQ h hN hS
theorem rmD {n k:Nat} {A:Around} (h:cj k A) (e:n<=k:=by decide):cj n A:=h.mono e
noncomputable abbrev gL:List Str:=["_law_script","_law_cards","_law_sizes","_law_hands","_law_deals","_law_table","_law_seen","_law_hand","_law_asked","_law_k","_law_deed_here","_law_found","_law_told","_law_group_here","_law_place"]
noncomputable abbrev kY:List Str:=["_law_script","_law_at","_law_cards","_law_hands","_law_most","_law_pool_here","_law_k","_law_cell_here","_law_one","_law_other","_law_some"]
noncomputable abbrev pW:List Str:=["_law_table","_law_seen","_law_asked","_law_hand","_law_view","_law_deal","_law_found"]
noncomputable abbrev rP:List Str:=["_law_script","_law_at","_law_cards","_law_hands","_law_pool_here","_law_k","_law_cell_here"]
noncomputable abbrev nQ:List Str:=["_law_script","_law_at","_law_cards","_law_hands"]
noncomputable abbrev rQ:List Str:=["_law_script","_law_at","_law_cards","_law_hands","_law_cell_here","_law_some"]
noncomputable abbrev uI:List Str:=["_law_script","_law_at","_law_most","_law_cards","_law_sizes","_law_k"]
noncomputable abbrev mC:List Str:=["deals","views","S","word","inner","some"]
noncomputable abbrev rR:List Str:=["_law_deals","_law_holder","_law_some"]
noncomputable abbrev AY:List Str:=["_law_script","_law_at","_law_cards","_law_hands","_law_most"]
noncomputable abbrev dU:List Str:=["cards","sizes"]
noncomputable abbrev m7:List Str:=["many","views","points","view","thing","least"]
noncomputable abbrev kj:List Str:=["cards","hands","place","part"]
noncomputable abbrev eJ:List Str:=["ones","others"]
noncomputable abbrev sS:List Str:=["_law_signs","_law_first","_law_found","_law_place","_law_sign"]
noncomputable abbrev kl:List Str:=["cards","hands","thing"]
noncomputable abbrev pX:List Str:=["begun","room","longer","deal","who","most"]
noncomputable abbrev m8:List Str:=["_law_number","_law_hands"]
noncomputable abbrev lD:List Str:=["thing","least","most"]
noncomputable abbrev m9:List Str:=["_law_table","_law_deed_here"]
noncomputable abbrev pY:List Str:=["cards","hands","thing","words","level"]
noncomputable abbrev iF:List Str:=["self","cards","sizes"]
noncomputable abbrev pZ:List Str:=["view","truths","sure","least","truth"]
noncomputable abbrev sT:List Str:=["self","hand","holder","some","rising"]
noncomputable abbrev km:List Str:=["self","hand","deal"]
noncomputable abbrev wc:List Str:=["_law_table","_law_seen","_law_asked"]
noncomputable abbrev we:List Str:=["_law_script","_law_k"]
noncomputable abbrev wf:List Str:=["_law_cards","_law_sizes","_law_found","_law_many"]
noncomputable abbrev wg:List Str:=["_law_script","_law_at","_law_most"]
noncomputable abbrev sU:List Str:=["points","one","other","first","second"]
noncomputable abbrev wj:List Str:=["_law_found","_law_due","_law_one","_law_other"]
noncomputable abbrev wk:List Str:=["cards","sizes","room","begun","card"]
noncomputable abbrev ng:List Str:=["thing","bound"]
noncomputable abbrev sV:List Str:=["cards","sizes","many","left","size"]
noncomputable abbrev p0:List Str:=["deal","holder","rising"]
noncomputable abbrev lE:List Str:=["self","hands","S"]
noncomputable abbrev wl:List Str:=["self","hand","holder","some"]
noncomputable abbrev p6:List Str:=["fit","reason"]
noncomputable abbrev sW:List Str:=["marks","firsts","thing","mark"]
noncomputable abbrev wm:List Str:=["self","hands","values"]
noncomputable abbrev zv:List Str:=["cards","hands","thing","form"]
noncomputable abbrev ni:List Str:=["thing","cards"]
noncomputable abbrev wn:List Str:=["_law_cards","_law_sizes"]
noncomputable abbrev nj:List Str:=["deal","who"]
noncomputable abbrev wo:List Str:=["views","truths","answers","view"]
noncomputable abbrev zw:List Str:=["_law_saying_here","_law_found","_law_part"]
noncomputable abbrev nn:List Str:=["deals","hand"]
noncomputable abbrev lG:List Str:=["piles","view"]
noncomputable abbrev wp:List Str:=["points","one","other"]
noncomputable abbrev wq:List Str:=["_law_found","_law_due"]
noncomputable abbrev np:List Str:=["view","values"]
noncomputable abbrev wt:List Str:=["deal","holder","rising","card"]
noncomputable abbrev wu:List Str:=["thing","hands","least","hand"]
noncomputable abbrev ww:List Str:=["self","hands","values","hand"]
noncomputable abbrev wx:List Str:=["many","taken","ways","step"]
noncomputable abbrev wz:List Str:=["view","truths"]
noncomputable abbrev sX:List Str:=["deals","views","S"]
noncomputable abbrev zx:List Str:=["_law_script","_law_k","_law_number"]
noncomputable abbrev nu:List Str:=["self","hand"]
noncomputable abbrev wA:List Str:=["points","thing"]
noncomputable abbrev zy:List Str:=["_law_many","_law_found","_law_k"]
noncomputable abbrev wB:List Str:=["thing","hands"]
noncomputable abbrev nv:List Str:=["_law_found"]
noncomputable abbrev sY:List Str:=["_law_saying_here"]
noncomputable abbrev wC:List Str:=["views","truths"]
noncomputable abbrev ny:List Str:=["self","S"]
noncomputable abbrev Dz:List Str:=["_law_deal","_law_some","_law_holder"]
noncomputable abbrev zz:List Str:=["sayings","parts","saying"]
noncomputable abbrev wD:List Str:=["many","taken"]
noncomputable abbrev wE:List Str:=["begun","room"]
noncomputable abbrev wF:List Str:=["many","views"]
noncomputable abbrev DC:List Str:=["_law_card","_law_who","_law_hand"]
noncomputable abbrev DD:List Str:=["place","part","cards","hands"]
noncomputable abbrev DE:List Str:=["hands","values","deal","hand"]
noncomputable abbrev zA:List Str:=["points","thing","end"]
noncomputable abbrev IF:List Str:=["_law_k","_law_cards","_law_script","_law_at"]
noncomputable abbrev wG:List Str:=["_law_signs"]
noncomputable abbrev tj:List Str:=["one","other"]
noncomputable abbrev wH:List Str:=["_law_many"]
noncomputable abbrev p8:List Str:=["thing"]
noncomputable abbrev tm:List Str:=["_law_script"]
noncomputable abbrev IG:List Str:=["_law_card","_law_holder","_law_deal"]
noncomputable abbrev DF:List Str:=["pile","least","piles"]
noncomputable abbrev DG:List Str:=["_law_deal","_law_hand"]
noncomputable abbrev wI:List Str:=["sayings"]
noncomputable abbrev DH:List Str:=["card","holder","who"]
noncomputable abbrev zB:List Str:=["saying","form"]
noncomputable abbrev wJ:List Str:=["saying"]
noncomputable abbrev DI (P:Program) (w:World) (K:Fg) (mg:Str->Option Value) (base:Heap) (k:Nat):Prop:=FnB P w K mg base k "is_whole" p8 (im K)
noncomputable abbrev AZ (P:Program) (w:World) (K:Fg) (mg:Str->Option Value) (base:Heap) (k:Nat):Prop:=FnB P w K mg base k "is_within" lD (ee K)
noncomputable abbrev uJ (P:Program) (w:World) (K:Fg) (mg:Str->Option Value) (base:Heap) (k:Nat):Prop:=FnB P w K mg base k "is_below" ng (cA K)
noncomputable abbrev DJ (P:Program) (w:World) (K:Fg) (mg:Str->Option Value) (base:Heap) (k:Nat):Prop:=FnB P w K mg base k "are_hands" wB (jd K)
noncomputable abbrev HQ (P:Program) (w:World) (K:Fg) (mg:Str->Option Value) (base:Heap) (k:Nat):Prop:=FnB P w K mg base k "is_pack" dU (pH K)
noncomputable abbrev HR (P:Program) (w:World) (K:Fg) (mg:Str->Option Value) (base:Heap) (k:Nat):Prop:=FnB P w K mg base k "choices" wD (pI K)
noncomputable abbrev HS (P:Program) (w:World) (K:Fg) (mg:Str->Option Value) (base:Heap) (k:Nat):Prop:=FnB P w K mg base k "how_many" dU (nL K)
noncomputable abbrev HU (P:Program) (w:World) (K:Fg) (mg:Str->Option Value) (base:Heap) (k:Nat):Prop:=FnB P w K mg base k "with_one_more" wE (iO K)
noncomputable abbrev DK (P:Program) (w:World) (K:Fg) (mg:Str->Option Value) (base:Heap) (k:Nat):Prop:=FnB P w K mg base k "deals_of" dU (j3 K)
noncomputable abbrev A0 (P:Program) (w:World) (K:Fg) (mg:Str->Option Value) (base:Heap) (k:Nat):Prop:=FnB P w K mg base k "cards_of" nj (ip K)
noncomputable abbrev DL (P:Program) (w:World) (K:Fg) (mg:Str->Option Value) (base:Heap) (k:Nat):Prop:=FnB P w K mg base k "is_word" kl (pQ K)
noncomputable abbrev DM (P:Program) (w:World) (K:Fg) (mg:Str->Option Value) (base:Heap) (k:Nat):Prop:=FnB P w K mg base k "parts_of_all" wI (jf K)
noncomputable abbrev DN (P:Program) (w:World) (K:Fg) (mg:Str->Option Value) (base:Heap) (k:Nat):Prop:=FnB P w K mg base k "is_saying" kl (l9 K)
noncomputable abbrev DO (P:Program) (w:World) (K:Fg) (mg:Str->Option Value) (base:Heap) (k:Nat):Prop:=FnB P w K mg base k "fits" kj (xo K)
noncomputable abbrev DP (P:Program) (w:World) (K:Fg) (mg:Str->Option Value) (base:Heap) (k:Nat):Prop:=FnB P w K mg base k "parts_of" wJ (nN K)
noncomputable abbrev zC (P:Program) (w:World) (K:Fg) (mg:Str->Option Value) (base:Heap) (k:Nat):Prop:=FnB P w K mg base k "least_with_same" ["marks"] (eW K)
noncomputable abbrev DQ (P:Program) (w:World) (K:Fg) (mg:Str->Option Value) (base:Heap) (k:Nat):Prop:=FnB P w K mg base k "first_view" nn (kN K)
noncomputable abbrev DR (P:Program) (w:World) (K:Fg) (mg:Str->Option Value) (base:Heap) (k:Nat):Prop:=FnB P w K mg base k "split" np (uz K)
noncomputable abbrev zD (P:Program) (w:World) (K:Fg) (mg:Str->Option Value) (base:Heap) (k:Nat):Prop:=FnB P w K mg base k "end_of" wA (ku K)
noncomputable abbrev DS (P:Program) (w:World) (K:Fg) (mg:Str->Option Value) (base:Heap) (k:Nat):Prop:=FnB P w K mg base k "link" wp (xl K)
noncomputable abbrev DT (P:Program) (w:World) (K:Fg) (mg:Str->Option Value) (base:Heap) (k:Nat):Prop:=FnB P w K mg base k "joined" wF (rq K)
noncomputable abbrev zE (P:Program) (w:World) (K:Fg) (mg:Str->Option Value) (base:Heap) (k:Nat):Prop:=FnB P w K mg base k "both" eJ (sw K)
noncomputable abbrev DU (P:Program) (w:World) (K:Fg) (mg:Str->Option Value) (base:Heap) (k:Nat):Prop:=FnB P w K mg base k "either" eJ (rB K)
noncomputable abbrev wK (P:Program) (w:World) (K:Fg) (mg:Str->Option Value) (base:Heap) (k:Nat):Prop:=FnB P w K mg base k "known" wz (jJ K)
noncomputable abbrev DV (P:Program) (w:World) (K:Fg) (mg:Str->Option Value) (base:Heap) (k:Nat):Prop:=FnB P w K mg base k "known_to_all" wC (jc K)
noncomputable abbrev DW (P:Program) (w:World) (K:Fg) (mg:Str->Option Value) (base:Heap) (k:Nat):Prop:=FnB P w K mg base k "seen" lG (xm K)
noncomputable abbrev tw (P:Program) (w:World) (K:Fg) (mg:Str->Option Value) (base:Heap) (k:Nat):Prop:=FnB P w K mg base k "refuse_unless" p6 (bT K)
noncomputable abbrev DX (P:Program) (w:World) (K:Fg) (mg:Str->Option Value) (base:Heap) (k:Nat):Prop:=FnB P w K mg base k "are_cards" ni (md K)
noncomputable abbrev DY (P:Program) (w:World) (K:Fg) (mg:Str->Option Value) (base:Heap) (k:Nat):Prop:=FnB P w K mg base k "least_held" p0 (kQ K)
noncomputable abbrev p9 (P:Program) (w:World) (K:Fg) (mg:Str->Option Value) (base:Heap) (k:Nat):Prop:=FnB P w K mg base k "_law_cell" we (bi K)
noncomputable abbrev DZ (P:Program) (w:World) (K:Fg) (mg:Str->Option Value) (base:Heap) (k:Nat):Prop:=FnB P w K mg base k "_law_product" wH (gu K)
noncomputable abbrev D0 (P:Program) (w:World) (K:Fg) (mg:Str->Option Value) (base:Heap) (k:Nat):Prop:=FnB P w K mg base k "_law_count" wn (iw K)
noncomputable abbrev Ea (P:Program) (w:World) (K:Fg) (mg:Str->Option Value) (base:Heap) (k:Nat):Prop:=FnB P w K mg base k "_law_pack" wg (lY K)
noncomputable abbrev Eb (P:Program) (w:World) (K:Fg) (mg:Str->Option Value) (base:Heap) (k:Nat):Prop:=FnB P w K mg base k "_law_least" wG (kM K)
noncomputable abbrev Ec (P:Program) (w:World) (K:Fg) (mg:Str->Option Value) (base:Heap) (k:Nat):Prop:=FnB P w K mg base k "_law_wholes" nv (jI K)
noncomputable abbrev zF (P:Program) (w:World) (K:Fg) (mg:Str->Option Value) (base:Heap) (k:Nat):Prop:=FnB P w K mg base k "_law_group" m8 (dN K)
noncomputable abbrev Ed (P:Program) (w:World) (K:Fg) (mg:Str->Option Value) (base:Heap) (k:Nat):Prop:=FnB P w K mg base k "_law_pool" nQ (ma K)
noncomputable abbrev IH (P:Program) (w:World) (K:Fg) (mg:Str->Option Value) (base:Heap) (k:Nat):Prop:=FnB P w K mg base k "_law_words" sY (eP K 70)
noncomputable abbrev Ee (P:Program) (w:World) (K:Fg) (mg:Str->Option Value) (base:Heap) (k:Nat):Prop:=FnB P w K mg base k "_law_saying" AY (gZ K)
noncomputable abbrev Ef (P:Program) (w:World) (K:Fg) (mg:Str->Option Value) (base:Heap) (k:Nat):Prop:=FnB P w K mg base k "_law_deed" nQ (mj K)
noncomputable abbrev Eg (P:Program) (w:World) (K:Fg) (mg:Str->Option Value) (base:Heap) (k:Nat):Prop:=FnB P w K mg base k "_law_shown" rR (kU K)
noncomputable abbrev Eh (P:Program) (w:World) (K:Fg) (mg:Str->Option Value) (base:Heap) (G:GF) (k:Nat):Prop:=FnB P w K mg base k "_law_done" m9 (mq K G)
noncomputable abbrev Ei (P:Program) (w:World) (K:Fg) (mg:Str->Option Value) (base:Heap) (k:Nat):Prop:=FnB P w K mg base k "_law_same" wq (mw K)
noncomputable abbrev Ej (P:Program) (w:World) (K:Fg) (mg:Str->Option Value) (base:Heap) (G:GF) (k:Nat):Prop:=FnB P w K mg base k "_law_alike" wc (iE K G)
noncomputable abbrev II (P:Program) (w:World) (K:Fg) (mg:Str->Option Value) (base:Heap) (k:Nat):Prop:=FnB P w K mg base k "truths_of" sX (ce K 35)
noncomputable abbrev HV (P:Program) (w:World) (K:Fg) (mg:Str->Option Value) (base:Heap) (G:GF) (k:Nat):Prop:=FnM P w K mg base k G.Table "show" wl (kT K G)
noncomputable abbrev HW (P:Program) (w:World) (K:Fg) (mg:Str->Option Value) (base:Heap) (G:GF) (k:Nat):Prop:=FnM P w K mg base k G.Table "word" lE (kS K G)
noncomputable abbrev HX (P:Program) (w:World) (K:Fg) (mg:Str->Option Value) (base:Heap) (G:GF) (k:Nat):Prop:=FnM P w K mg base k G.Table "saw" km (mr K G)
noncomputable abbrev HY (P:Program) (w:World) (K:Fg) (mg:Str->Option Value) (base:Heap) (G:GF) (k:Nat):Prop:=FnM P w K mg base k G.Table "view" nu (kR K G)
noncomputable abbrev Ek (P:Program) (w:World) (K:Fg) (mg:Str->Option Value) (base:Heap) (G:GF) (k:Nat):Prop:=FnM P w K mg base k G.Table "learn" wm (g9 K G)
noncomputable abbrev Ia (P:Program) (w:World) (K:Fg) (mg:Str->Option Value) (base:Heap) (G:GF) (k:Nat):Prop:=FnM P w K mg base k G.Table "truths" ny (jl K G)
seal L2.PE L2.PA L2.PS L2.PSs L2.PT L2.PW L2.PI L2.PG L2.PGs L2.PO L2.PTL L2.OpR L2.UnR L2.dI L2.SlR L2.IxR L2.CC
noncomputable def top (i:Nat):Stmt:=PySem.Challenge.pw_knowcards_k37_whole_alike_just_where_see.main.body.getD i (.Pass ⟨0,0,0,0⟩)
noncomputable abbrev jq:Stmt:=top 8
theorem BO:aD p8 p8 (ab jq):=by walk_at "w"
theorem rS:ai p8 (ab jq) 0 "thing":=by walk_at "v"
noncomputable abbrev fk:Stmt:=top 9
theorem A1:aD lD lD (ab fk):=by walk_at "w"
theorem qg:ai lD (ab fk) 0 "thing":=by walk_at "v"
theorem yN:ai lD (ab fk) 1 "least":=by walk_at "v"
theorem yO:ai lD (ab fk) 2 "most":=by walk_at "v"
noncomputable abbrev hU:Stmt:=top 10
theorem BP:aD ng ng (ab hU):=by walk_at "w"
theorem A2:ai ng (ab hU) 0 "thing":=by walk_at "v"
theorem A3:ai ng (ab hU) 1 "bound":=by walk_at "v"
noncomputable abbrev dX:Stmt:=top 11
theorem jr:aD wu wB (ab dX):=by walk_at "w"
theorem qh:ai wu (ab dX) 0 "thing":=by walk_at "v"
theorem yP:ai wu (ab dX) 1 "hands":=by walk_at "v"
theorem yQ:ai wu (ab dX) 2 "least":=by walk_at "v"
theorem qj:ai wu (ab dX) 3 "hand":=by walk_at "v"
noncomputable abbrev gM:Stmt:=top 16
theorem El:aD dU dU (ab gM):=by walk_at "w"
theorem t9:ai dU (ab gM) 0 "cards":=by walk_at "v"
theorem kn:ai dU (ab gM) 1 "sizes":=by walk_at "v"
noncomputable abbrev dW:Stmt:=top 17
theorem gj:aD sV dU (ab dW):=by walk_at "w"
theorem rT:ai sV (ab dW) 0 "cards":=by walk_at "v"
theorem rV:ai sV (ab dW) 1 "sizes":=by walk_at "v"
theorem rW:ai sV (ab dW) 2 "many":=by walk_at "v"
theorem rX:ai sV (ab dW) 3 "left":=by walk_at "v"
theorem rY:ai sV (ab dW) 4 "size":=by walk_at "v"
noncomputable abbrev fN:Stmt:=top 18
theorem lH:aD wx wD (ab fN):=by walk_at "w"
theorem BQ:ai wx (ab fN) 0 "many":=by walk_at "v"
theorem BR:ai wx (ab fN) 1 "taken":=by walk_at "v"
theorem uf:ai wx (ab fN) 2 "ways":=by walk_at "v"
theorem ug:ai wx (ab fN) 3 "step":=by walk_at "v"
noncomputable abbrev fc:Stmt:=top 19
theorem iq:aD wk dU (ab fc):=by walk_at "w"
theorem mD:ai wk (ab fc) 0 "cards":=by walk_at "v"
theorem mE:ai wk (ab fc) 1 "sizes":=by walk_at "v"
theorem A4:ai wk (ab fc) 2 "room":=by walk_at "v"
theorem rZ:ai wk (ab fc) 3 "begun":=by walk_at "v"
noncomputable abbrev bP:Stmt:=top 20
theorem ek:aD pX wE (ab bP):=by walk_at "w"
theorem tL:ai pX (ab bP) 0 "begun":=by walk_at "v"
theorem tM:ai pX (ab bP) 1 "room":=by walk_at "v"
theorem lg:ai pX (ab bP) 2 "longer":=by walk_at "v"
theorem lh:ai pX (ab bP) 3 "deal":=by walk_at "v"
theorem li:ai pX (ab bP) 4 "who":=by walk_at "v"
theorem tN:ai pX (ab bP) 5 "most":=by walk_at "v"
noncomputable abbrev hZ:Stmt:=top 21
theorem BS:aD nj nj (ab hZ):=by walk_at "w"
theorem A5:ai nj (ab hZ) 0 "deal":=by walk_at "v"
noncomputable abbrev cT:Stmt:=top 25
theorem gN:aD pY kl (ab cT):=by walk_at "w"
theorem yR:ai pY (ab cT) 0 "cards":=by walk_at "v"
theorem yS:ai pY (ab cT) 1 "hands":=by walk_at "v"
theorem yT:ai pY (ab cT) 2 "thing":=by walk_at "v"
theorem qk:ai pY (ab cT) 3 "words":=by walk_at "v"
theorem iG:ai pY (ab cT) 4 "level":=by walk_at "v"
noncomputable abbrev gO:Stmt:=top 26
theorem wL:aD zv kl (ab gO):=by walk_at "w"
theorem fm:ai zv (ab gO) 2 "thing":=by walk_at "v"
theorem uh:ai zv (ab gO) 3 "form":=by walk_at "v"
noncomputable abbrev kH:Stmt:=top 27
theorem JT:aD kj kj (ab kH):=by walk_at "w"
theorem Ib:ai kj (ab kH) 0 "cards":=by walk_at "v"
theorem uK:ai kj (ab kH) 1 "hands":=by walk_at "v"
theorem qa:ai kj (ab kH) 2 "place":=by walk_at "v"
theorem qb:ai kj (ab kH) 3 "part":=by walk_at "v"
noncomputable abbrev fU:Stmt:=top 28
theorem ui:aD zB wJ (ab fU):=by walk_at "w"
theorem r0:ai zB (ab fU) 0 "saying":=by walk_at "v"
theorem A6:ai zB (ab fU) 1 "form":=by walk_at "v"
noncomputable abbrev dt:Stmt:=top 29
theorem js:aD zz wI (ab dt):=by walk_at "w"
theorem uL:ai zz (ab dt) 0 "sayings":=by walk_at "v"
theorem mF:ai zz (ab dt) 1 "parts":=by walk_at "v"
theorem uM:ai zz (ab dt) 2 "saying":=by walk_at "v"
noncomputable abbrev fG:Stmt:=top 31
theorem yU:aD nn nn (ab fG):=by walk_at "w"
theorem xz:ai nn (ab fG) 0 "deals":=by walk_at "v"
noncomputable abbrev lN:Stmt:=top 32
theorem Ic:aD np np (ab lN):=by walk_at "w"
theorem F5:ai np (ab lN) 0 "view":=by walk_at "v"
theorem F6:ai np (ab lN) 1 "values":=by walk_at "v"
noncomputable abbrev bJ:Stmt:=top 33
theorem ff:aD sW ["marks"] (ab bJ):=by walk_at "w"
theorem jC:ai sW (ab bJ) 0 "marks":=by walk_at "v"
theorem qG:ai sW (ab bJ) 1 "firsts":=by walk_at "v"
theorem qH:ai sW (ab bJ) 2 "thing":=by walk_at "v"
theorem qI:ai sW (ab bJ) 3 "mark":=by walk_at "v"
noncomputable abbrev em:Stmt:=top 34
theorem kI:aD m7 wF (ab em):=by walk_at "w"
theorem wM:ai m7 (ab em) 0 "many":=by walk_at "v"
theorem Em:ai m7 (ab em) 1 "views":=by walk_at "v"
theorem En:ai m7 (ab em) 2 "points":=by walk_at "v"
theorem Eo:ai m7 (ab em) 3 "view":=by walk_at "v"
theorem Ep:ai m7 (ab em) 4 "thing":=by walk_at "v"
theorem Er:ai m7 (ab em) 5 "least":=by walk_at "v"
noncomputable abbrev ju:Stmt:=top 35
theorem xB:aD sU wp (ab ju):=by walk_at "w"
theorem uN:ai sU (ab ju) 0 "points":=by walk_at "v"
theorem Id:ai sU (ab ju) 1 "one":=by walk_at "v"
theorem Ie:ai sU (ab ju) 2 "other":=by walk_at "v"
theorem A7:ai sU (ab ju) 3 "first":=by walk_at "v"
theorem A8:ai sU (ab ju) 4 "second":=by walk_at "v"
noncomputable abbrev iS:Stmt:=top 36
theorem r6:aD zA wA (ab iS):=by walk_at "w"
theorem jv:ai zA (ab iS) 0 "points":=by walk_at "v"
theorem Es:ai zA (ab iS) 1 "thing":=by walk_at "v"
theorem h8:ai zA (ab iS) 2 "end":=by walk_at "v"
noncomputable abbrev bQ:Stmt:=top 38
theorem gP:aD mC sX (ab bQ):=by walk_at "w"
theorem cF:ai mC (ab bQ) 0 "deals":=by walk_at "v"
theorem dc:ai mC (ab bQ) 1 "views":=by walk_at "v"
theorem cg:ai mC (ab bQ) 2 "S":=by walk_at "v"
theorem dP:ai mC (ab bQ) 3 "word":=by walk_at "v"
theorem kZ:ai mC (ab bQ) 4 "inner":=by walk_at "v"
theorem ql:ai mC (ab bQ) 5 "some":=by walk_at "v"
noncomputable abbrev mG:Stmt:=top 39
theorem JU:aD eJ eJ (ab mG):=by walk_at "w"
theorem Ig:ai eJ (ab mG) 0 "ones":=by walk_at "v"
theorem Ih:ai eJ (ab mG) 1 "others":=by walk_at "v"
noncomputable abbrev iT:Stmt:=top 40
theorem F7:aD eJ eJ (ab iT):=by walk_at "w"
theorem Et:ai eJ (ab iT) 0 "ones":=by walk_at "v"
theorem Eu:ai eJ (ab iT) 1 "others":=by walk_at "v"
noncomputable abbrev gk:Stmt:=top 41
theorem qc:aD pZ wz (ab gk):=by walk_at "w"
theorem r9:ai pZ (ab gk) 0 "view":=by walk_at "v"
theorem F8:ai pZ (ab gk) 1 "truths":=by walk_at "v"
theorem F9:ai pZ (ab gk) 2 "sure":=by walk_at "v"
theorem Ga:ai pZ (ab gk) 3 "least":=by walk_at "v"
theorem Gb:ai pZ (ab gk) 4 "truth":=by walk_at "v"
noncomputable abbrev cP:Stmt:=top 42
theorem gy:aD wo wC (ab cP):=by walk_at "w"
theorem uO:ai wo (ab cP) 0 "views":=by walk_at "v"
theorem mH:ai wo (ab cP) 1 "truths":=by walk_at "v"
theorem mI:ai wo (ab cP) 2 "answers":=by walk_at "v"
theorem uP:ai wo (ab cP) 3 "view":=by walk_at "v"
noncomputable abbrev mJ:Stmt:=top 43
theorem JV:aD lG lG (ab mJ):=by walk_at "w"
theorem Ii:ai lG (ab mJ) 0 "piles":=by walk_at "v"
theorem A9:ai lG (ab mJ) 1 "view":=by walk_at "v"
noncomputable abbrev fg:Stmt:=top 46
theorem uQ:aD p6 p6 (ab fg):=by walk_at "w"
theorem tO:ai p6 (ab fg) 0 "fit":=by walk_at "v"
noncomputable abbrev gm:Stmt:=top 47
theorem Ba:aD ni ni (ab gm):=by walk_at "w"
theorem qm:ai ni (ab gm) 0 "thing":=by walk_at "v"
noncomputable abbrev dE:Stmt:=top 48
theorem qo:aD wt p0 (ab dE):=by walk_at "w"
theorem xC:ai wt (ab dE) 0 "deal":=by walk_at "v"
theorem xD:ai wt (ab dE) 1 "holder":=by walk_at "v"
theorem xE:ai wt (ab dE) 2 "rising":=by walk_at "v"
theorem ox:ai wt (ab dE) 3 "card":=by walk_at "v"
noncomputable abbrev fo:Stmt:=top 50
theorem jw:aD zx we (ab fo):=by walk_at "w"
theorem fZ:ai zx (ab fo) 0 "_law_script":=by walk_at "v"
theorem eQ:ai zx (ab fo) 1 "_law_k":=by walk_at "v"
theorem iH:ai zx (ab fo) 2 "_law_number":=by walk_at "v"
noncomputable abbrev du:Stmt:=top 51
theorem gz:aD zy wH (ab du):=by walk_at "w"
theorem uR:ai zy (ab du) 0 "_law_many":=by walk_at "v"
theorem mK:ai zy (ab du) 1 "_law_found":=by walk_at "v"
theorem uS:ai zy (ab du) 2 "_law_k":=by walk_at "v"
noncomputable abbrev dF:Stmt:=top 52
theorem iI:aD wf wn (ab dF):=by walk_at "w"
theorem oy:ai wf (ab dF) 0 "_law_cards":=by walk_at "v"
theorem oz:ai wf (ab dF) 1 "_law_sizes":=by walk_at "v"
theorem oA:ai wf (ab dF) 2 "_law_found":=by walk_at "v"
theorem xF:ai wf (ab dF) 3 "_law_many":=by walk_at "v"
noncomputable abbrev cU:Stmt:=top 53
theorem fH:aD uI wg (ab cU):=by walk_at "w"
theorem ga:ai uI (ab cU) 0 "_law_script":=by walk_at "v"
theorem gb:ai uI (ab cU) 1 "_law_at":=by walk_at "v"
theorem yV:ai uI (ab cU) 2 "_law_most":=by walk_at "v"
theorem gc:ai uI (ab cU) 3 "_law_cards":=by walk_at "v"
theorem ci:ai uI (ab cU) 4 "_law_sizes":=by walk_at "v"
theorem yW:ai uI (ab cU) 5 "_law_k":=by walk_at "v"
noncomputable abbrev cY:Stmt:=top 54
theorem gd:aD sS wG (ab cY):=by walk_at "w"
theorem xG:ai sS (ab cY) 0 "_law_signs":=by walk_at "v"
theorem jN:ai sS (ab cY) 1 "_law_first":=by walk_at "v"
theorem oB:ai sS (ab cY) 2 "_law_found":=by walk_at "v"
theorem xH:ai sS (ab cY) 3 "_law_place":=by walk_at "v"
theorem jO:ai sS (ab cY) 4 "_law_sign":=by walk_at "v"
noncomputable abbrev eR:Stmt:=top 55
theorem xI:aD nv nv (ab eR):=by walk_at "w"
theorem nA:ai nv (ab eR) 0 "_law_found":=by walk_at "v"
noncomputable abbrev eA:Stmt:=top 56
theorem gf:aD zw sY (ab eA):=by walk_at "w"
theorem xJ:ai zw (ab eA) 0 "_law_saying_here":=by walk_at "v"
theorem oC:ai zw (ab eA) 1 "_law_found":=by walk_at "v"
theorem h9:ai zw (ab eA) 2 "_law_part":=by walk_at "v"
noncomputable abbrev fI:Stmt:=top 57
theorem yX:aD m8 m8 (ab fI):=by walk_at "w"
theorem xK:ai m8 (ab fI) 1 "_law_hands":=by walk_at "v"
noncomputable abbrev cC:Stmt:=top 58
theorem jx:aD rP nQ (ab cC):=by walk_at "w"
theorem qp:ai rP (ab cC) 0 "_law_script":=by walk_at "v"
theorem qq:ai rP (ab cC) 1 "_law_at":=by walk_at "v"
theorem qr:ai rP (ab cC) 2 "_law_cards":=by walk_at "v"
theorem qt:ai rP (ab cC) 3 "_law_hands":=by walk_at "v"
theorem qu:ai rP (ab cC) 4 "_law_pool_here":=by walk_at "v"
theorem yY:ai rP (ab cC) 5 "_law_k":=by walk_at "v"
theorem qw:ai rP (ab cC) 6 "_law_cell_here":=by walk_at "v"
noncomputable abbrev bm:Stmt:=top 59
theorem bM:aD kY AY (ab bm):=by walk_at "w"
theorem jy:ai kY (ab bm) 0 "_law_script":=by walk_at "v"
theorem jz:ai kY (ab bm) 1 "_law_at":=by walk_at "v"
theorem wN:ai kY (ab bm) 2 "_law_cards":=by walk_at "v"
theorem cv:ai kY (ab bm) 3 "_law_hands":=by walk_at "v"
theorem wO:ai kY (ab bm) 4 "_law_most":=by walk_at "v"
theorem fh:ai kY (ab bm) 5 "_law_pool_here":=by walk_at "v"
theorem wP:ai kY (ab bm) 6 "_law_k":=by walk_at "v"
theorem bR:ai kY (ab bm) 7 "_law_cell_here":=by walk_at "v"
theorem b8:ai kY (ab bm) 8 "_law_one":=by walk_at "v"
theorem cZ:ai kY (ab bm) 9 "_law_other":=by walk_at "v"
theorem dv:ai kY (ab bm) 10 "_law_some":=by walk_at "v"
noncomputable abbrev cD:Stmt:=top 60
theorem mL:aD rQ nQ (ab cD):=by walk_at "w"
theorem k9:ai rQ (ab cD) 0 "_law_script":=by walk_at "v"
theorem lc:ai rQ (ab cD) 1 "_law_at":=by walk_at "v"
theorem qx:ai rQ (ab cD) 2 "_law_cards":=by walk_at "v"
theorem iJ:ai rQ (ab cD) 3 "_law_hands":=by walk_at "v"
theorem iK:ai rQ (ab cD) 4 "_law_cell_here":=by walk_at "v"
theorem yZ:ai rQ (ab cD) 5 "_law_some":=by walk_at "v"
noncomputable abbrev fJ:Stmt:=top 61
theorem y6:aD rR rR (ab fJ):=by walk_at "w"
theorem xL:ai rR (ab fJ) 0 "_law_deals":=by walk_at "v"
noncomputable abbrev gn:Stmt:=top 62
theorem Bb:aD m9 m9 (ab gn):=by walk_at "w"
theorem qy:ai m9 (ab gn) 0 "_law_table":=by walk_at "v"
theorem eS:ai m9 (ab gn) 1 "_law_deed_here":=by walk_at "v"
noncomputable abbrev dY:Stmt:=top 63
theorem mM:aD wj wq (ab dY):=by walk_at "w"
theorem lf:ai wj (ab dY) 0 "_law_found":=by walk_at "v"
theorem qz:ai wj (ab dY) 1 "_law_due":=by walk_at "v"
theorem qA:ai wj (ab dY) 2 "_law_one":=by walk_at "v"
theorem qB:ai wj (ab dY) 3 "_law_other":=by walk_at "v"
noncomputable abbrev bU:Stmt:=top 64
theorem gh:aD pW wc (ab bU):=by walk_at "w"
theorem oF:ai pW (ab bU) 0 "_law_table":=by walk_at "v"
theorem jP:ai pW (ab bU) 1 "_law_seen":=by walk_at "v"
theorem xM:ai pW (ab bU) 2 "_law_asked":=by walk_at "v"
theorem ib:ai pW (ab bU) 3 "_law_hand":=by walk_at "v"
theorem oG:ai pW (ab bU) 4 "_law_view":=by walk_at "v"
theorem oH:ai pW (ab bU) 5 "_law_deal":=by walk_at "v"
theorem oI:ai pW (ab bU) 6 "_law_found":=by walk_at "v"
noncomputable abbrev dM:Stmt:=top 65
theorem dG:aD gL tm (ab dM):=by walk_at "w"
theorem lO:ai gL (ab dM) 0 "_law_script":=by walk_at "v"
theorem xN:ai gL (ab dM) 1 "_law_cards":=by walk_at "v"
theorem xO:ai gL (ab dM) 2 "_law_sizes":=by walk_at "v"
theorem Cz:ai gL (ab dM) 3 "_law_hands":=by walk_at "v"
theorem oJ:ai gL (ab dM) 4 "_law_deals":=by walk_at "v"
theorem xP:ai gL (ab dM) 5 "_law_table":=by walk_at "v"
theorem tz:ai gL (ab dM) 6 "_law_seen":=by walk_at "v"
theorem JW:ai gL (ab dM) 7 "_law_hand":=by walk_at "v"
theorem CA:ai gL (ab dM) 8 "_law_asked":=by walk_at "v"
theorem JX:ai gL (ab dM) 9 "_law_k":=by walk_at "v"
theorem jQ:ai gL (ab dM) 10 "_law_deed_here":=by walk_at "v"
theorem uT:ai gL (ab dM) 11 "_law_found":=by walk_at "v"
theorem Bc:ai gL (ab dM) 12 "_law_told":=by walk_at "v"
theorem Ij:ai gL (ab dM) 13 "_law_group_here":=by walk_at "v"
theorem Bd:ai gL (ab dM) 14 "_law_place":=by walk_at "v"
noncomputable abbrev dH:Stmt:=jF (top 45) 0
theorem y7:aD iF iF (ab dH):=by walk_at "w"
theorem dw:ai iF (ab dH) 0 "self":=by walk_at "v"
theorem oM:ai iF (ab dH) 1 "cards":=by walk_at "v"
theorem jR:ai iF (ab dH) 2 "sizes":=by walk_at "v"
noncomputable abbrev fK:Stmt:=jF (top 45) 2
theorem y8:aD nu nu (ab fK):=by walk_at "w"
theorem oN:ai nu (ab fK) 0 "self":=by walk_at "v"
theorem oO:ai nu (ab fK) 1 "hand":=by walk_at "v"
noncomputable abbrev eF:Stmt:=jF (top 45) 3
theorem y9:aD lE lE (ab eF):=by walk_at "w"
theorem jS:ai lE (ab eF) 0 "self":=by walk_at "v"
theorem oP:ai lE (ab eF) 1 "hands":=by walk_at "v"
theorem xQ:ai lE (ab eF) 2 "S":=by walk_at "v"
noncomputable abbrev da:Stmt:=jF (top 45) 4
theorem qC:aD sT wl (ab da):=by walk_at "w"
theorem fL:ai sT (ab da) 0 "self":=by walk_at "v"
theorem oQ:ai sT (ab da) 1 "hand":=by walk_at "v"
theorem xR:ai sT (ab da) 2 "holder":=by walk_at "v"
theorem oR:ai sT (ab da) 3 "some":=by walk_at "v"
noncomputable abbrev d4:Stmt:=jF (top 45) 5
theorem wQ:aD ny ny (ab d4):=by walk_at "w"
theorem fV:ai ny (ab d4) 0 "self":=by walk_at "v"
theorem mN:ai ny (ab d4) 1 "S":=by walk_at "v"
noncomputable abbrev dZ:Stmt:=jF (top 45) 6
theorem Be:aD km km (ab dZ):=by walk_at "w"
theorem iL:ai km (ab dZ) 0 "self":=by walk_at "v"
theorem qD:ai km (ab dZ) 1 "hand":=by walk_at "v"
theorem qE:ai km (ab dZ) 2 "deal":=by walk_at "v"
noncomputable abbrev de:Stmt:=jF (top 45) 8
theorem oS:aD ww wm (ab de):=by walk_at "w"
theorem jA:ai ww (ab de) 0 "self":=by walk_at "v"
theorem nC:ai ww (ab de) 1 "hands":=by walk_at "v"
theorem jB:ai ww (ab de) 2 "values":=by walk_at "v"
theorem nD:ai ww (ab de) 3 "hand":=by walk_at "v"
section
variable {P:Program} {w:World} {K:Fg} {mg:Str->Option Value} {base:Heap} {f:Addr} {fd:Mi}
theorem BT (D:Def K mg "is_whole" jq p8 f fd) (B:Blt mg):DI P w K mg base 1:=by
 refine D.ok BO (by walk_at "l") fun _ _ _ _ _ _ _ _ hr h=>?_
 exact ⟨vA K,(aj (ay (qJ (aA cb rfl B.isinstance MZ (ae (pvA rS) (ae (cH (v:=.ty "int") rfl B.int UB rfl) af))) (nU (ED (aA cb rfl B.isinstance MZ (ae (pvA rS) (ae (cH (v:=.ty "bool") rfl B.bool TJ rfl) af)))))))),By h⟩
theorem Bf (D:Def K mg "is_within" fk lD f fd) (B:Blt mg) (U36:DI P w K mg base 1):AZ P w K mg base 2:=by
 refine D.ok A1 (by walk_at "l") fun _ _ _ _ _ _ _ _ hr h=>?_
 exact ⟨tX K,(aj (ay (qJ (ak U36 (rmD hr) (ae (pvA qg) af)) (nU (Gm zo zo (pvA yN) (pvA qg) (pvA yO)))))),Ai h⟩
theorem BU (D:Def K mg "is_below" hU ng f fd) (B:Blt mg) (U26:AZ P w K mg base 2):uJ P w K mg base 3:=by
 refine D.ok BP (by walk_at "l") fun _ _ _ _ _ _ _ _ hr h=>?_
 exact ⟨lx K,(aj (ay (ak U26 (rmD hr) (ae (pvA A2) (aq ap (aI (av ii (pvA A3) ap) af)))))),BG h⟩
theorem Bg (D:Def K mg "are_hands" dX wB f fd) (B:Blt mg) (U26:AZ P w K mg base 2):DJ P w K mg base 3:=by
 refine D.ok jr (by walk_at "l") fun _ _ _ _ _ _ _ _ hr h=>?_
 exact ⟨j7 K,(ah (bh (cz (bY (aA cb rfl B.isinstance MZ (ae (pvA qh) (ae (cH (v:=.ty "tuple") rfl B.tuple Pf rfl) af))))) (aj (ay cn)) aL)
  (ah (aB (i:=2) jr.nd rfl (L8 rfl) ap)
  (ah (bG Ms rfl (qM (pvA qh)) (ax (i:=3) jr.nd rfl (L8 rfl)) (ah (bh (cz (bY (ak U26 (rmD hr) (ae (pvA qj) (ae (pvA yQ) (aI (av ii (pvA yP) ap) af)))))) (aj (ay cn)) aL)
  (aj (aB (i:=2) jr.nd rfl (L8 rfl) (av bx (pvA qj) ap)))))
  (aj (ay cn))))),Ar h⟩
theorem Ev (D:Def K mg "is_pack" gM dU f fd) (B:Blt mg) {t_MOST_CARDS:Tok} (m_MOST_CARDS:mg "MOST_CARDS"=some (.int 12 t_MOST_CARDS)) {t_MOST_HANDS:Tok} (m_MOST_HANDS:mg "MOST_HANDS"=some (.int 5 t_MOST_HANDS)) (U26:AZ P w K mg base 2):HQ P w K mg base 3:=by
 refine D.ok El (by walk_at "l") fun _ _ _ _ _ _ _ _ hr h=>?_
 exact ⟨yn K,(ah (bh (cz (bY (ak U26 (rmD hr) (ae (pvA t9) (aq ap (ae (jE (v:=(.int 12)) rfl m_MOST_CARDS ⟨_,rfl⟩) af)))))) (aj (ay cn)) aL)
  (ah (bh (PW.pt (jT (cz (bY (aA cb rfl B.isinstance MZ (ae (pvA kn) (ae (cH (v:=.ty "list") rfl B.list OX rfl) af))))) (ig (cz (bY (ak U26 (rmD hr) (aV (aA aU rfl B.len NR (ae (pvA kn) af)) (aq ap (ae (jE (v:=(.int 5)) rfl m_MOST_HANDS ⟨_,rfl⟩) af))))))))) (aj (ay cn)) aL)
  (aj (ay (qJ (aA (mS rfl) rfl B.all UC (bD (bA (sc:=(ab gM)) (NX:=dU) (N:=["size","cards"]) (ix:=[none,some 0]) rfl (by walk_at "c") (bE (pvA kn)) (by intros; exact (ax (i:=0) (show (["size","cards"]:List Str).Nodup by decide +kernel) rfl (L8 rfl))) (by intros; exact bW) (by intros; exact (ak U26 (rmD hr) (ae (pv 0) (aq ap (ae (pv 1) af)))))) af)) (nU (lI zo (aA (ko rfl) rfl B.sum SZ (ae (pvA kn) af)) (pvA t9) (aQ _)))))))),C9 h⟩
theorem BV (D:Def K mg "how_many" dW dU f fd) (B:Blt mg) (U40:HR P w K mg base 1) (U42:HQ P w K mg base 3):HS P w K mg base 4:=by
 refine D.ok gj (by walk_at "l") fun _ _ _ _ _ _ _ _ hr h=>?_
 exact ⟨vC K,(ah (bh (cz (bY (ak U42 (rmD hr) (ae (pvA rT) (ae (pvA rV) af))))) (aj oV) aL)
  (ah (aB (i:=2) gj.nd rfl (L8 rfl) ap)
  (ah (aB (i:=3) gj.nd rfl (L8 rfl) (pvA rT))
  (ah (bG Ms rfl (bE (pvA rV)) (ax (i:=4) gj.nd rfl (L8 rfl)) (ah (aB (i:=2) gj.nd rfl (L8 rfl) (av fA (pvA rW) (ak U40 (rmD hr) (ae (pvA rX) (ae (pvA rY) af)))))
  (aj (aB (i:=3) gj.nd rfl (L8 rfl) (av ii (pvA rX) (pvA rY))))))
  (aj (ay (pvA rW))))))),Bz h⟩
theorem Ew (D:Def K mg "choices" fN wD f fd) (B:Blt mg):HR P w K mg base 1:=by
 refine D.ok lH (by walk_at "l") fun _ _ _ _ _ _ _ _ hr h=>?_
 exact ⟨yo K,(ah (aB (i:=2) lH.nd rfl (L8 rfl) ap)
  (ah (bG Ms rfl (cq rfl B.range (ae (pvA BR) af)) (ax (i:=3) lH.nd rfl (L8 rfl)) (aj (aB (i:=2) lH.nd rfl (L8 rfl) (av cI (av fA (pvA uf) (av ii (pvA BQ) (pvA ug))) (av bx (pvA ug) ap)))))
  (aj (ay (pvA uf))))),Da h⟩
theorem BW (D:Def K mg "deals_of" fc dU f fd) (B:Blt mg) {t_MOST_DEALS:Tok} (m_MOST_DEALS:mg "MOST_DEALS"=some (.int 2000 t_MOST_DEALS)) (U35:HS P w K mg base 4) (U1:HU P w K mg base 1):DK P w K mg base 5:=by
 refine D.ok iq (by walk_at "l") fun _ _ _ _ _ _ _ _ hr h=>?_
 exact ⟨vD K,(ah (bh (aN mO (ak U35 (rmD hr) (ae (pvA mD) (ae (pvA mE) af))) (jE (v:=(.int 2000)) rfl m_MOST_DEALS ⟨_,rfl⟩) (aQ _)) (aj oV) aL)
  (ah (aB (i:=2) iq.nd rfl (L8 rfl) (av EV (pvA mE) (zJ (aI (av ii (pvA mD) (aA (ko rfl) rfl B.sum SZ (ae (pvA mE) af))) af))))
  (ah (aB (i:=3) iq.nd rfl (L8 rfl) (zJ (bv (EN af) af)))
  (ah (bG Ms rfl (cq rfl B.range (ae (pvA mD) af)) (ax (i:=4) iq.nd rfl (L8 rfl)) (aj (aB (i:=3) iq.nd rfl (L8 rfl) (ak U1 (rmD hr) (ae (pvA rZ) (ae (pvA A4) af))))))
  (aj (ay (pvA rZ))))))),BA h⟩
theorem uU (D:Def K mg "with_one_more" bP wE f fd) (B:Blt mg):HU P w K mg base 1:=by
 refine D.ok ek (by walk_at "l") fun _ _ _ _ _ _ _ _ hr h=>?_
 exact ⟨mY K,(ah (aB (i:=2) ek.nd rfl (L8 rfl) (zJ af))
  (ah (bG Ms rfl (bE (pvA tL)) (ax (i:=3) ek.nd rfl (L8 rfl)) (aj (bG Ms rfl (lJ bw rfl B.enumerate (by decide) (ae (pvA tM) af)) (d6 rfl (aY (ax (i:=4) ek.nd rfl (L8 rfl)) (aY (ax (i:=5) ek.nd rfl (L8 rfl)) dn))) (aj (bh (aN Io (K8 PySem.F.plainAttrs_tuple RU PySem.F.type_tuple_count E5 (pvA lh) (ae (pvA li) af)) (pvA tN) (aQ _)) (aj (bV (ir MN Nb Nc db (pvA lg) (aI (av Ja (pvA lh) (EN (ae (pvA li) af))) af)))) aL)))))
  (aj (ay (pvA lg))))),ux h⟩
theorem BX (D:Def K mg "cards_of" hZ nj f fd) (B:Blt mg):A0 P w K mg base 1:=by
 refine D.ok BS (by walk_at "l") fun _ _ _ _ _ _ _ _ hr h=>?_
 exact ⟨vF K,(aj (ay (cK qd rfl B.tuple Pf (bD (bA (sc:=(ab hZ)) (NX:=nj) (N:=DH) (ix:=[none,none,some 1]) rfl (by walk_at "c") (lJ gp rfl B.enumerate (by decide) (ae (pvA A5) af)) (by intros; exact (d6 rfl (aY (ax (i:=0) (show (DH:List Str).Nodup by decide +kernel) rfl (L8 rfl)) (aY (ax (i:=1) (show (DH:List Str).Nodup by decide +kernel) rfl (L8 rfl)) dn)))) (by intros; exact (jH (aN cQ (pv 1) (pv 2) (aQ _)))) (by intros; exact (pv 0))) af)))),BB h⟩
theorem Bh (D:Def K mg "is_saying" cT kl f fd) (B:Blt mg) {t_MOST_WORDS:Tok} (m_MOST_WORDS:mg "MOST_WORDS"=some (.int 30 t_MOST_WORDS)) (U36:DI P w K mg base 1) (U41:DL P w K mg base 5) (U5:DM P w K mg base 2):DN P w K mg base 6:=by
 refine D.ok gN (by walk_at "l") fun _ _ _ _ _ _ _ _ hr h=>?_
 exact ⟨j8 K,(ah (bh (PW.pt (jT (cz (bY (ak U36 (rmD hr) (ae (pvA yR) af)))) (ig (cz (bY (ak U36 (rmD hr) (ae (pvA yS) af))))))) (aj (ay cn)) aL)
  (ah (aB (i:=3) gN.nd rfl (L8 rfl) ap)
  (ah (aB (i:=4) gN.nd rfl (L8 rfl) (cB (ae (pvA yT) af)))
  (ah (uj Ms (aN mO (aA aU rfl B.len NR (ae (pvA iG) af)) ap (aQ _)) (ah (aB (i:=3) gN.nd rfl (L8 rfl) (av bx (pvA qk) (aA aU rfl B.len NR (ae (pvA iG) af))))
  (ah (bh (PW.pt (jT (aN mO (pvA qk) (jE (v:=(.int 30)) rfl m_MOST_WORDS ⟨_,rfl⟩) (aQ _)) (ig (cz (bY (aA (mS rfl) rfl B.all UC (bD (bA (sc:=(ab cT)) (NX:=pY) (N:=["one","cards","hands"]) (ix:=[none,some 0,some 1]) rfl (by walk_at "c") (bE (pvA iG)) (by intros; exact (ax (i:=0) (show (["one","cards","hands"]:List Str).Nodup by decide +kernel) rfl (L8 rfl))) (by intros; exact bW) (by intros; exact (ak U41 (rmD hr) (ae (pv 1) (ae (pv 2) (ae (pv 0) af)))))) af))))))) (aj (ay cn)) aL)
  (aj (aB (i:=4) gN.nd rfl (L8 rfl) (ak U5 (rmD hr) (ae (pvA iG) af)))))))
  (aj (ay cn)))))),At h⟩
theorem Ex (D:Def K mg "is_word" gO kl f fd) (B:Blt mg) {G:GF} (T:fb P w K mg G) (U48:DO P w K mg base 4):DL P w K mg base 5:=by
 refine D.ok wL (by walk_at "l") fun _ _ _ _ _ _ _ _ hr h=>?_
 have m_FORMS:=T.tb.mf
 have d_FORMS:=T.tb.df
 exact ⟨m5 K G.toGlo,(ah (bh (PW.pt (jT (cz (bY (aA cb rfl B.isinstance MZ (ae (pvA fm) (ae (cH (v:=.ty "tuple") rfl B.tuple Pf rfl) af))))) (ig (aN cQ (aA aU rfl B.len NR (ae (pvA fm) af)) ap (aQ _))))) (aj (ay cn)) aL)
  (ah (bh (PW.pt (jT (cz (bY (aA cb rfl B.isinstance MZ (aE (aO bq (pvA fm) ap (fun _ _=>rfl)) (ae (cH (v:=.ty "str") rfl B.str boot_str rfl) af))))) (ig (aN (Aw d_FORMS) (aO bq (pvA fm) ap (fun _ _=>rfl)) (jE (v:=(.ref G.forms)) rfl m_FORMS rfl) rfl)))) (aj (ay cn)) aL)
  (ah (aB (i:=3) wL.nd rfl (L8 rfl) (FE d_FORMS (jE (v:=(.ref G.forms)) rfl m_FORMS rfl) (aO bq (pvA fm) ap (fun _ _=>rfl)) (fun _ _=>rfl)))
  (ah (bh (aN zn (aA aU rfl B.len NR (ae (pvA fm) af)) (av bx ap (aA aU rfl B.len NR (ae (pvA uh) af))) (aQ _)) (aj (ay cn)) aL)
  (aj (ay (aA (mS rfl) rfl B.all UC (bD (bA (sc:=(ab gO)) (NX:=zv) (N:=DD) (ix:=[none,none,some 0,some 1]) rfl (by walk_at "c") (lT gp gp rfl B.zip (ae (pvA uh) (aE (ur Av (pvA fm) (wX ap) wW) af))) (by intros; exact (d6 rfl (aY (ax (i:=0) (show (DD:List Str).Nodup by decide +kernel) rfl (L8 rfl)) (aY (ax (i:=1) (show (DD:List Str).Nodup by decide +kernel) rfl (L8 rfl)) dn)))) (by intros; exact bW) (by intros; exact (ak U48 (rmD hr) (ae (pv 2) (ae (pv 3) (ae (pv 0) (ae (pv 1) af))))))) af)))))))),Dl T.tb.ok h⟩
theorem JY (D:Def K mg "fits" kH kj f fd) (B:Blt mg) (U27:DJ P w K mg base 3) (U38:uJ P w K mg base 3):DO P w K mg base 4:=by
 refine D.ok JT (by walk_at "l") fun _ _ _ _ _ _ _ _ hr h=>?_
 exact ⟨vS K,(ah (bh (aN cQ (pvA qa) aZ (aQ _)) (aj (ay (ak U38 (rmD hr) (ae (pvA qb) (aI (av bx (pvA uK) ap) af))))) aL)
  (ah (bh (aN cQ (pvA qa) aZ (aQ _)) (aj (ay (ak U38 (rmD hr) (ae (pvA qb) (ae (pvA Ib) af))))) aL)
  (ah (bh (aN cQ (pvA qa) aZ (aQ _)) (aj (ay (ak U38 (rmD hr) (ae (pvA qb) (ae (pvA uK) af))))) aL)
  (ah (bh (aN cQ (pvA qa) aZ (aQ _)) (aj (ay (ak U27 (rmD hr) (ae (pvA qb) (ae (pvA uK) af))))) aL)
  (aj (ay cn)))))),Ju h⟩
theorem BY (D:Def K mg "parts_of" fU wJ f fd) (B:Blt mg) {G:GF} (T:fb P w K mg G):DP P w K mg base 1:=by
 refine D.ok ui (by walk_at "l") fun _ _ _ _ _ _ _ _ hr h=>?_
 have m_FORMS:=T.tb.mf
 have d_FORMS:=T.tb.df
 exact ⟨lz K G.toGlo,(ah (aB (i:=1) ui.nd rfl (L8 rfl) (FE d_FORMS (jE (v:=(.ref G.forms)) rfl m_FORMS rfl) (aO bq (pvA r0) ap (fun _ _=>rfl)) (fun _ _=>rfl)))
  (aj (ay (bA (sc:=(ab fU)) (NX:=zB) (N:=["place","part"]) (ix:=[none,none]) rfl (by walk_at "c") (lT gp gp rfl B.zip (ae (pvA A6) (aE (ur Av (pvA r0) (wX ap) wW) af))) (by intros; exact (d6 rfl (aY (ax (i:=0) (show (["place","part"]:List Str).Nodup by decide +kernel) rfl (L8 rfl)) (aY (ax (i:=1) (show (["place","part"]:List Str).Nodup by decide +kernel) rfl (L8 rfl)) dn)))) (by intros; exact (jH (aN cQ (pv 0) aZ (aQ _)))) (by intros; exact (pv 1)))))),BH T.tb.ok h⟩
theorem wR (D:Def K mg "parts_of_all" dt wI f fd) (B:Blt mg) (U37:DP P w K mg base 1):DM P w K mg base 2:=by
 refine D.ok js (by walk_at "l") fun _ _ _ _ _ _ _ _ hr h=>?_
 exact ⟨gX K,(ah (aB (i:=1) js.nd rfl (L8 rfl) (cB af))
  (ah (bG Ms rfl (bE (pvA uL)) (ax (i:=2) js.nd rfl (L8 rfl)) (aj (bV (ir MN PySem.F.slot_list_extend PySem.F.type_list_extend EU (pvA mF) (aV (ak U37 (rmD hr) (ae (pvA uM) af)) af)))))
  (aj (ay (pvA mF))))),vT h⟩
theorem za (D:Def K mg "first_view" fG nn f fd) (B:Blt mg) (U39:A0 P w K mg base 1) (U0:zC P w K mg base 1):DQ P w K mg base 2:=by
 refine D.ok yU (by walk_at "l") fun _ _ _ _ _ _ _ _ hr h=>?_
 exact ⟨jb K,(aj (ay (ak U0 (rmD hr) (bD (bA (sc:=(ab fG)) (NX:=nn) (N:=["deal","hand"]) (ix:=[none,some 1]) rfl (by walk_at "c") (bE (pvA xz)) (by intros; exact (ax (i:=0) (show (["deal","hand"]:List Str).Nodup by decide +kernel) rfl (L8 rfl))) (by intros; exact bW) (by intros; exact (ak U39 (rmD hr) (ae (pv 0) (ae (pv 1) af))))) af)))),yC h⟩
theorem Ik (D:Def K mg "split" lN np f fd) (B:Blt mg) (U0:zC P w K mg base 1):DR P w K mg base 2:=by
 refine D.ok Ic (by walk_at "l") fun _ _ _ _ _ _ _ _ hr h=>?_
 exact ⟨sI K,(aj (ay (ak U0 (rmD hr) (aV (JR bw bw rfl rfl B.list rfl B.zip (ae (pvA F5) (ae (pvA F6) af))) af)))),G6 h⟩
theorem se (D:Def K mg "least_with_same" bJ ["marks"] f fd) (B:Blt mg):zC P w K mg base 1:=by
 refine D.ok ff (by walk_at "l") fun _ _ _ _ _ _ _ _ hr h=>?_
 have hux:=hr.units64
 exact ⟨fw K,(ah (aB (i:=1) ff.nd rfl (PF rfl) AU)
  (ah (bG Ms rfl (lJ bw rfl B.enumerate (by decide) (ae (pvA jC) af)) (d6 rfl (aY (ax (i:=2) ff.nd rfl (L8 rfl)) (aY (ax (i:=3) ff.nd rfl (L8 rfl)) dn))) (aj (bV (Ly QY PySem.F.type_dict_setdefault (xt hux) (pvA qG) (ae (pvA qI) (ae (pvA qH) af))))))
  (aj (ay (bA (sc:=(ab bJ)) (NX:=sW) (N:=["mark","firsts"]) (ix:=[none,some 1]) rfl (by walk_at "c") (bE (pvA jC)) (by intros; exact (ax (i:=0) (show (["mark","firsts"]:List Str).Nodup by decide +kernel) rfl (L8 rfl))) (by intros; exact bW) (by intros; exact (Cq hux (pv 1) (pv 0) (fun _ _=>rfl)))))))),rj h⟩
theorem Gc (D:Def K mg "joined" em wF f fd) (B:Blt mg) (U43:zD P w K mg base 1) (U51:DS P w K mg base 2):DT P w K mg base 3:=by
 refine D.ok kI (by walk_at "l") fun _ _ _ _ _ _ _ _ hr h=>?_
 exact ⟨pM K,(ah (aB (i:=2) kI.nd rfl (PF rfl) (cK (F3 rfl) rfl B.list OX (aV (cK F1 rfl B.range boot_range (ae (pvA wM) af)) af)))
  (ah (bG Ms rfl (bE (pvA Em)) (ax (i:=3) kI.nd rfl (L8 rfl)) (aj (bG Ms rfl (lJ bw rfl B.enumerate (by decide) (ae (pvA Eo) af)) (d6 rfl (aY (ax (i:=4) kI.nd rfl (L8 rfl)) (aY (ax (i:=5) kI.nd rfl (L8 rfl)) dn))) (aj (bV (ak U51 (rmD hr) (ae (pvA En) (ae (pvA Ep) (ae (pvA Er) af)))))))))
  (aj (ay (bA (sc:=(ab em)) (NX:=m7) (N:=["thing","points"]) (ix:=[none,some 2]) rfl (by walk_at "c") (cq rfl B.range (ae (pvA wM) af)) (by intros; exact (ax (i:=0) (show (["thing","points"]:List Str).Nodup by decide +kernel) rfl (L8 rfl))) (by intros; exact bW) (by intros; exact (ak U43 (rmD hr) (ae (pv 1) (ae (pv 0) af))))))))),Fu h⟩
theorem JZ (D:Def K mg "link" ju wp f fd) (B:Blt mg) (U43:zD P w K mg base 1):DS P w K mg base 2:=by
 refine D.ok xB (by walk_at "l") fun _ _ _ _ _ _ _ _ hr h=>?_
 exact ⟨vJ K,(ah (aB (i:=3) xB.nd rfl (L8 rfl) (ak U43 (rmD hr) (ae (pvA uN) (ae (pvA Id) af))))
  (ah (aB (i:=4) xB.nd rfl (L8 rfl) (ak U43 (rmD hr) (ae (pvA uN) (ae (pvA Ie) af))))
  (aj (lP (aA (xW rfl) rfl B.min boot_min (ae (pvA A7) (ae (pvA A8) af))) (nV (pvA uN) (aA (EJ rfl) rfl B.max UD (ae (pvA A7) (ae (pvA A8) af))) lQ))))),Jl h⟩
theorem Gd (D:Def K mg "end_of" iS wA f fd) (B:Blt mg):zD P w K mg base 1:=by
 refine D.ok r6 (by walk_at "l") fun _ _ _ _ _ _ _ _ hr h=>?_
 exact ⟨pL K,(ah (aB (i:=2) r6.nd rfl (L8 rfl) (pvA Es))
  (ah (uj Ms (aN zn (aO bn (pvA jv) (pvA h8) (fun _ _=>rfl)) (pvA h8) (aQ _)) (ah (lP (aO bn (pvA jv) (aO bn (pvA jv) (pvA h8) (fun _ _=>rfl)) (fun _ _=>rfl)) (nV (pvA jv) (pvA h8) lQ))
  (aj (aB (i:=2) r6.nd rfl (L8 rfl) (aO bn (pvA jv) (pvA h8) (fun _ _=>rfl))))))
  (aj (ay (pvA h8))))),Ft h⟩
theorem sf (D:Def K mg "truths_of" bQ sX f fd) (B:Blt mg) (U50:zE P w K mg base 1) (U39:A0 P w K mg base 1) (U45:DU P w K mg base 1) (U44:DT P w K mg base 3) (U47:wK P w K mg base 1) (U4:DV P w K mg base 2) (U49:DW P w K mg base 2):∀ n,FnB P w K mg base (4 + n) "truths_of" sX (ce K n)
 | 0=>D.ok (k:=3) gP (fun vs H Q E h=>(rC h).elim) (fun cdv A outer s H vs Q E hr h=>(rC h).elim)
 | n + 1=>by
  have U31:=sf D B U50 U39 U45 U44 U47 U4 U49 n
  refine D.ok (k:=4 + n) gP (by walk_at "l") fun _ _ _ _ _ _ _ _ hr h=>?_
  exact ⟨j6 K n,(ah (aB (i:=3) gP.nd rfl (L8 rfl) (aO bq (pvA cg) ap (fun _ _=>rfl)))
  (ah (bh (aN cQ (pvA dP) aZ (aQ _)) (aj (ay (bA (sc:=(ab bQ)) (NX:=mC) (N:=["deal","S"]) (ix:=[none,some 2]) rfl (by walk_at "c") (bE (pvA cF)) (by intros; exact (ax (i:=0) (show (["deal","S"]:List Str).Nodup by decide +kernel) rfl (L8 rfl))) (by intros; exact bW) (by intros; exact (lI cQ (aO bq (pv 0) (aO bq (pv 1) ap (fun _ _=>rfl)) (fun _ _=>rfl)) (aO bq (pv 1) ap (fun _ _=>rfl)) (aQ _)))))) aL)
  (ah (bh (aN cQ (pvA dP) aZ (aQ _)) (aj (ay (ak U49 (hr.mono (by omega)) (bD (bA (sc:=(ab bQ)) (NX:=mC) (N:=["deal","views"]) (ix:=[none,some 1]) rfl (by walk_at "c") (bE (pvA cF)) (by intros; exact (ax (i:=0) (show (["deal","views"]:List Str).Nodup by decide +kernel) rfl (L8 rfl))) (by intros; exact bW) (by intros; exact (ak U39 (hr.mono (by omega)) (ae (pv 0) (aV (aA aU rfl B.len NR (ae (pv 1) af)) af))))) (aE (aO bn (pvA dc) (aO bq (pvA cg) ap (fun _ _=>rfl)) (fun _ _=>rfl)) af))))) aL)
  (ah (bh (aN cQ (pvA dP) aZ (aQ _)) (aj (ay (bA (sc:=(ab bQ)) (NX:=mC) (N:=["truth"]) (ix:=[none]) rfl (by walk_at "c") (bE (ak U31 (hr.mono (by omega)) (ae (pvA cF) (ae (pvA dc) (aE (aO bq (pvA cg) ap (fun _ _=>rfl)) af))))) (by intros; exact (ax (i:=0) (show (["truth"]:List Str).Nodup by decide +kernel) rfl (L8 rfl))) (by intros; exact bW) (by intros; exact (ED (pv 0)))))) aL)
  (ah (bh (aN cQ (pvA dP) aZ (aQ _)) (aj (ay (ak U50 (hr.mono (by omega)) (aV (ak U31 (hr.mono (by omega)) (ae (pvA cF) (ae (pvA dc) (aE (aO bq (pvA cg) ap (fun _ _=>rfl)) af)))) (aV (ak U31 (hr.mono (by omega)) (ae (pvA cF) (ae (pvA dc) (aE (aO bq (pvA cg) ap (fun _ _=>rfl)) af)))) af))))) aL)
  (ah (bh (aN cQ (pvA dP) aZ (aQ _)) (aj (ay (ak U45 (hr.mono (by omega)) (aV (ak U31 (hr.mono (by omega)) (ae (pvA cF) (ae (pvA dc) (aE (aO bq (pvA cg) ap (fun _ _=>rfl)) af)))) (aV (ak U31 (hr.mono (by omega)) (ae (pvA cF) (ae (pvA dc) (aE (aO bq (pvA cg) ap (fun _ _=>rfl)) af)))) af))))) aL)
  (ah (aB (i:=4) gP.nd rfl (L8 rfl) (ak U31 (hr.mono (by omega)) (ae (pvA cF) (ae (pvA dc) (aE (aO bq (pvA cg) ap (fun _ _=>rfl)) af)))))
  (ah (bh (aN cQ (pvA dP) aZ (aQ _)) (aj (ay (ak U47 (hr.mono (by omega)) (aE (aO bn (pvA dc) (aO bq (pvA cg) ap (fun _ _=>rfl)) (fun _ _=>rfl)) (ae (pvA kZ) af))))) aL)
  (ah (vd (i:=5) gP.nd rfl rfl (sc:=(ab bQ)) (NX:=mC) (N:=["hand","views"]) (ix:=[none,some 1]) rfl (by walk_at "c") (qM (aO bq (pvA cg) ap (fun _ _=>rfl))) (by intros; exact (ax (i:=0) (show (["hand","views"]:List Str).Nodup by decide +kernel) rfl (L8 rfl))) (by intros; exact bW) (by intros; exact (aO bn (pv 1) (pv 0) (fun _ _=>rfl))))
  (ah (bh (aN cQ (pvA dP) aZ (aQ _)) (aj (ay (ak U4 (hr.mono (by omega)) (ae (pvA ql) (ae (pvA kZ) af))))) aL)
  (aj (ay (ak U47 (hr.mono (by omega)) (aV (ak U44 (hr.mono (by omega)) (aV (aA aU rfl B.len NR (ae (pvA cF) af)) (ae (pvA ql) af))) (ae (pvA kZ) af))))))))))))))),Ao h⟩
theorem J0 (D:Def K mg "both" mG eJ f fd) (B:Blt mg):zE P w K mg base 1:=by
 refine D.ok JU (by walk_at "l") fun _ _ _ _ _ _ _ _ hr h=>?_
 exact ⟨vM K,(aj (ay (bA (sc:=(ab mG)) (NX:=eJ) (N:=tj) (ix:=[none,none]) rfl (by walk_at "c") (lT bw bw rfl B.zip (ae (pvA Ig) (ae (pvA Ih) af))) (by intros; exact (d6 rfl (aY (ax (i:=0) (show (tj:List Str).Nodup by decide +kernel) rfl (L8 rfl)) (aY (ax (i:=1) (show (tj:List Str).Nodup by decide +kernel) rfl (L8 rfl)) dn)))) (by intros; exact bW) (by intros; exact (qJ (pv 0) (nU (pv 1))))))),Jo h⟩
theorem Ge (D:Def K mg "either" iT eJ f fd) (B:Blt mg):DU P w K mg base 1:=by
 refine D.ok F7 (by walk_at "l") fun _ _ _ _ _ _ _ _ hr h=>?_
 exact ⟨pO K,(aj (ay (bA (sc:=(ab iT)) (NX:=eJ) (N:=tj) (ix:=[none,none]) rfl (by walk_at "c") (lT bw bw rfl B.zip (ae (pvA Et) (ae (pvA Eu) af))) (by intros; exact (d6 rfl (aY (ax (i:=0) (show (tj:List Str).Nodup by decide +kernel) rfl (L8 rfl)) (aY (ax (i:=1) (show (tj:List Str).Nodup by decide +kernel) rfl (L8 rfl)) dn)))) (by intros; exact bW) (by intros; exact (K5 (pv 0) (nU (pv 1))))))),Fw h⟩
theorem Il (D:Def K mg "known" gk wz f fd) (B:Blt mg):wK P w K mg base 1:=by
 refine D.ok qc (by walk_at "l") fun _ _ _ _ _ _ _ _ hr h=>?_
 exact ⟨sF K,(ah (aB (i:=2) qc.nd rfl (PF rfl) (av FD (cB (aq cn af)) (aA aU rfl B.len NR (ae (pvA r9) af))))
  (ah (bG Ms rfl (lT bw bw rfl B.zip (ae (pvA r9) (ae (pvA F8) af))) (d6 rfl (aY (ax (i:=3) qc.nd rfl (L8 rfl)) (aY (ax (i:=4) qc.nd rfl (L8 rfl)) dn))) (aj (bh (cz (bY (pvA Gb))) (aj (lP cn (nV (pvA F9) (pvA Ga) lQ))) aL)))
  (aj (ay (bA (sc:=(ab gk)) (NX:=pZ) (N:=["least","sure"]) (ix:=[none,some 2]) rfl (by walk_at "c") (bE (pvA r9)) (by intros; exact (ax (i:=0) (show (["least","sure"]:List Str).Nodup by decide +kernel) rfl (L8 rfl))) (by intros; exact bW) (by intros; exact (aO bn (pv 1) (pv 0) (fun _ _=>rfl)))))))),G4 h⟩
theorem wS (D:Def K mg "known_to_all" cP wC f fd) (B:Blt mg) (U50:zE P w K mg base 1) (U47:wK P w K mg base 1):DV P w K mg base 2:=by
 refine D.ok gy (by walk_at "l") fun _ _ _ _ _ _ _ _ hr h=>?_
 exact ⟨gW K,(ah (aB (i:=2) gy.nd rfl (L8 rfl) (av FD (cB (aq cn af)) (aA aU rfl B.len NR (ae (pvA mH) af))))
  (ah (bG Ms rfl (bE (pvA uO)) (ax (i:=3) gy.nd rfl (L8 rfl)) (aj (aB (i:=2) gy.nd rfl (L8 rfl) (ak U50 (rmD hr) (ae (pvA mI) (aV (ak U47 (rmD hr) (ae (pvA uP) (ae (pvA mH) af))) af))))))
  (aj (ay (pvA mI))))),vN h⟩
theorem J1 (D:Def K mg "seen" mJ lG f fd) (B:Blt mg) (U47:wK P w K mg base 1):DW P w K mg base 2:=by
 refine D.ok JV (by walk_at "l") fun _ _ _ _ _ _ _ _ hr h=>?_
 have hu:=hr.units0
 exact ⟨vO K,(aj (ay (ak U47 (rmD hr) (ae (pvA A9) (bD (bA (sc:=(ab mJ)) (NX:=lG) (N:=DF) (ix:=[none,none,some 0]) rfl (by walk_at "c") (lT bw bw rfl B.zip (ae (pvA Ii) (ae (pvA A9) af))) (by intros; exact (d6 rfl (aY (ax (i:=0) (show (DF:List Str).Nodup by decide +kernel) rfl (L8 rfl)) (aY (ax (i:=1) (show (DF:List Str).Nodup by decide +kernel) rfl (L8 rfl)) dn)))) (by intros; exact bW) (by intros; exact (lI (Kh hu) (pv 0) (aO bn (pv 2) (pv 1) (fun _ _=>rfl)) (aQ _)))) af))))),Jq h⟩
theorem uV (D:Def K mg "refuse_unless" fg p6 f fd) (B:Blt mg):tw P w K mg base 1:=by
 refine D.ok uQ (by walk_at "l") fun _ _ _ _ _ _ _ _ hr h=>?_
 exact ⟨gx K,(aj (bh (cz (bY (pvA tO))) (aj oV) aL)),uC h⟩
theorem Bi (D:Def K mg "are_cards" gm ni f fd) (B:Blt mg) (U38:uJ P w K mg base 3):DX P w K mg base 4:=by
 refine D.ok Ba (by walk_at "l") fun _ _ _ _ _ _ _ _ hr h=>?_
 exact ⟨kd K,(aj (ay (qJ (aA cb rfl B.isinstance MZ (ae (pvA qm) (ae (cH (v:=.ty "list") rfl B.list OX rfl) af))) (nU (aA (mS rfl) rfl B.all UC (bD (bA (sc:=(ab gm)) (NX:=ni) (N:=["card","cards"]) (ix:=[none,some 1]) rfl (by walk_at "c") (bE (pvA qm)) (by intros; exact (ax (i:=0) (show (["card","cards"]:List Str).Nodup by decide +kernel) rfl (L8 rfl))) (by intros; exact bW) (by intros; exact (ak U38 (rmD hr) (ae (pv 0) (ae (pv 1) af))))) af)))))),AC h⟩
theorem zb (D:Def K mg "least_held" dE p0 f fd) (B:Blt mg):DY P w K mg base 1:=by
 refine D.ok qo (by walk_at "l") fun _ _ _ _ _ _ _ _ hr h=>?_
 exact ⟨ji K,(ah (bG Ms rfl (bE (pvA xE)) (ax (i:=3) qo.nd rfl (L8 rfl)) (aj (bh (aN cQ (aO bq (pvA xC) (pvA ox) (fun _ _=>rfl)) (pvA xD) (aQ _)) (aj (ay (pvA ox))) aL)))
  (aj (ay uW))),yF h⟩
theorem Bj (D:Def K mg "_law_cell" fo we f fd) (B:Blt mg):p9 P w K mg base 1:=by
 refine D.ok jw (by walk_at "l") fun _ _ _ _ _ _ _ _ hr h=>?_
 exact ⟨j4 K,(ah (bh (aN Io (pvA eQ) (aA aU rfl B.len NR (ae (pvA fZ) af)) (aQ _)) (aj (ay (aO bn (pvA fZ) (pvA eQ) (fun _ _=>rfl)))) aL)
  (ah (aB (i:=2) jw.nd rfl (L8 rfl) (av bx (av fA (pvA eQ) ap) ap))
  (ah (bh (aN mO (aA aU rfl B.len NR (ae (pvA fZ) af)) ap (aQ _)) (aj (aB (i:=2) jw.nd rfl (L8 rfl) (av bx (av fA (aO bn (pvA fZ) (av bB (av fA (pvA eQ) ap) (aA aU rfl B.len NR (ae (pvA fZ) af))) (fun _ _=>rfl)) ap) (av fA (pvA eQ) ap)))) aL)
  (ah (aB (i:=2) jw.nd rfl (L8 rfl) (av bB (av fA (pvA iH) (pvA iH)) ap))
  (aj (ay (av bB (av fA (av bx (pvA iH) (pvA eQ)) (av bx (pvA iH) ap)) ap))))))),Aj h⟩
theorem wT (D:Def K mg "_law_product" du wH f fd) (B:Blt mg):DZ P w K mg base 1:=by
 refine D.ok gz (by walk_at "l") fun _ _ _ _ _ _ _ _ hr h=>?_
 exact ⟨gT K,(ah (aB (i:=1) gz.nd rfl (L8 rfl) ap)
  (ah (bG Ms rfl (cq rfl B.range (ae (pvA uR) af)) (ax (i:=2) gz.nd rfl (L8 rfl)) (aj (aB (i:=1) gz.nd rfl (L8 rfl) (av fA (pvA mK) (av bx (pvA uS) ap)))))
  (aj (ay (pvA mK))))),vG h⟩
theorem zc (D:Def K mg "_law_count" dF wn f fd) (B:Blt mg) (U6:DZ P w K mg base 1):D0 P w K mg base 2:=by
 refine D.ok iI (by walk_at "l") fun _ _ _ _ _ _ _ _ hr h=>?_
 exact ⟨i7 K,(ah (aB (i:=2) iI.nd rfl (L8 rfl) (ak U6 (rmD hr) (ae (pvA oy) af)))
  (ah (bG Ms rfl (bE (av oq (pvA oz) (cB (aI (av ii (pvA oy) (aA (ko rfl) rfl B.sum SZ (ae (pvA oz) af))) af)))) (ax (i:=3) iI.nd rfl (L8 rfl)) (aj (aB (i:=2) iI.nd rfl (L8 rfl) (av cI (pvA oA) (ak U6 (rmD hr) (ae (pvA xF) af))))))
  (aj (ay (pvA oA))))),yA h⟩
theorem Bk (D:Def K mg "_law_pack" cU wg f fd) (B:Blt mg) (U33:p9 P w K mg base 1) (U16:D0 P w K mg base 2):Ea P w K mg base 3:=by
 refine D.ok fH (by walk_at "l") fun _ _ _ _ _ _ _ _ hr h=>?_
 exact ⟨j9 K,(ah (aB (i:=3) fH.nd rfl (L8 rfl) (av bB (ak U33 (rmD hr) (ae (pvA ga) (ae (pvA gb) af))) ap))
  (ah (bh (aN cQ (av bB (av cI (ak U33 (rmD hr) (ae (pvA ga) (ae (pvA gb) af))) ap) ap) ap (aQ _)) (aj (aB (i:=3) fH.nd rfl (L8 rfl) (av bx ap (av bB (av cI (ak U33 (rmD hr) (ae (pvA ga) (ae (pvA gb) af))) ap) ap)))) aL)
  (ah (aB (i:=4) fH.nd rfl (L8 rfl) (cB af))
  (ah (bG Ms rfl (cq rfl B.range (aI (av bx ap (av bB (ak U33 (rmD hr) (ae (pvA ga) (aI (av bx (pvA gb) ap) af))) ap)) af)) (ax (i:=5) fH.nd rfl (L8 rfl)) (aj (bV (ir MN Nb Nc db (pvA ci) (aI (av bB (ak U33 (rmD hr) (ae (pvA ga) (aI (av bx (av bx (pvA gb) ap) (pvA yW)) af))) (av bx (aA (xW rfl) rfl B.min boot_min (aq ap (aI (av ii (pvA gc) (aA (ko rfl) rfl B.sum SZ (ae (pvA ci) af))) af))) ap)) af)))))
  (ah (uj Ms (aN mO (ak U16 (rmD hr) (ae (pvA gc) (ae (pvA ci) af))) (pvA yV) (aQ _)) (ah (bh (aN mO (aA (qW rfl) rfl B.max UD (ae (pvA ci) af)) (av ii (pvA gc) (aA (ko rfl) rfl B.sum SZ (ae (pvA ci) af))) (aQ _)) (aj (lP (av ii (aA (qW rfl) rfl B.max UD (ae (pvA ci) af)) ap) (nV (pvA ci) (ir MN R6 PySem.F.type_list_index GB (pvA ci) (aV (aA (qW rfl) rfl B.max UD (ae (pvA ci) af)) af)) lQ))) aL)
  (aj (aB (i:=3) fH.nd rfl (L8 rfl) (av ii (pvA gc) ap)))))
  (aj (ay (b7 (ae (pvA gc) (ae (pvA ci) af)))))))))),Au h⟩
theorem zd (D:Def K mg "_law_least" cY wG f fd) (B:Blt mg):Eb P w K mg base 1:=by
 refine D.ok gd (by walk_at "l") fun _ _ _ _ _ _ _ _ hr h=>?_
 have hux:=hr.units64
 exact ⟨i8 K,(ah (aB (i:=1) gd.nd rfl (L8 rfl) AU)
  (ah (aB (i:=2) gd.nd rfl (L8 rfl) (cB af))
  (ah (bG Ms rfl (lJ bw rfl B.enumerate (by decide) (ae (pvA xG) af)) (d6 rfl (aY (ax (i:=3) gd.nd rfl (L8 rfl)) (aY (ax (i:=4) gd.nd rfl (L8 rfl)) dn))) (ah (bh (aN (FR hux) (pvA jO) (pvA jN) rfl) (aj (lP (pvA xH) (nV (pvA jN) (pvA jO) (Lx hux)))) aL)
  (aj (bV (ir MN Nb Nc db (pvA oB) (aE (Cq hux (pvA jN) (pvA jO) (fun _ _=>rfl)) af))))))
  (aj (ay (pvA oB)))))),yB h⟩
theorem xS (D:Def K mg "_law_wholes" eR nv f fd) (B:Blt mg):Ec P w K mg base 1:=by
 refine D.ok xI (by walk_at "l") fun _ _ _ _ _ _ _ _ hr h=>?_
 have hu:=hr.units0
 exact ⟨iz K,(ah (bh (cz (bY (aA cb rfl B.isinstance MZ (ae (pvA nA) (ae (cH (v:=.ty "list") rfl B.list OX rfl) af))))) (aj (ay cn)) aL)
  (aj (ay (lI (Kj hu) (bA (sc:=(ab eR)) (NX:=nv) (N:=["_law_one"]) (ix:=[none]) rfl (by walk_at "c") (bE (pvA nA)) (by intros; exact (ax (i:=0) (show (["_law_one"]:List Str).Nodup by decide +kernel) rfl (L8 rfl))) (by intros; exact (jH (PW.pt (jT (cz (bY (aA cb rfl B.isinstance MZ (ae (pv 0) (ae (cH (v:=.ty "int") rfl B.int UB rfl) af))))) (ig (bY (aA cb rfl B.isinstance MZ (ae (pv 0) (ae (cH (v:=.ty "bool") rfl B.bool TJ rfl) af))))))))) (by intros; exact (pv 0))) (cB af) (aQ _))))),xi h⟩
theorem qF (D:Def K mg "_law_words" eA sY f fd) (B:Blt mg):∀ n,FnB P w K mg base (1 + n) "_law_words" sY (eP K n)
 | 0=>D.ok (k:=0) gf (fun vs H Q E h=>(qf h).elim) (fun cdv A outer s H vs Q E hr h=>(qf h).elim)
 | n + 1=>by
  have U11:=qF D B n
  refine D.ok (k:=1 + n) gf (by walk_at "l") fun _ _ _ _ _ _ _ _ hr h=>?_
  have hu:=hr.units0
  exact ⟨jh K n,(ah (aB (i:=1) gf.nd rfl (L8 rfl) ap)
  (ah (bG Ms rfl (qM (ur Av (pvA xJ) (wX ap) wW)) (ax (i:=2) gf.nd rfl (L8 rfl)) (aj (bh (PW.pt (EC (bY (aA cb rfl B.isinstance MZ (ae (pvA h9) (ae (cH (v:=.ty "tuple") rfl B.tuple Pf rfl) af)))) (EC (aN (Ki hu) (pvA h9) (b7 af) (aQ _)) (IM (bY (aA cb rfl B.isinstance MZ (aE (aO bq (pvA h9) ap (fun _ _=>rfl)) (ae (cH (v:=.ty "str") rfl B.str boot_str rfl) af)))))))) (aj (aB (i:=1) gf.nd rfl (L8 rfl) (av bx (pvA oC) (ak U11 (hr.mono (by omega)) (ae (pvA h9) af))))) aL)))
  (aj (ay (pvA oC))))),yE h⟩
theorem ze (D:Def K mg "_law_group" fI m8 f fd) (B:Blt mg):zF P w K mg base 1:=by
 refine D.ok yX (by walk_at "l") fun _ _ _ _ _ _ _ _ hr h=>?_
 exact ⟨jg K,(aj (ay (cK uA rfl B.tuple Pf (bD (bA (sc:=(ab fI)) (NX:=m8) (N:=["_law_hand","_law_number"]) (ix:=[none,some 0]) rfl (by walk_at "c") (cq rfl B.range (ae (pvA xK) af)) (by intros; exact (ax (i:=0) (show (["_law_hand","_law_number"]:List Str).Nodup by decide +kernel) rfl (L8 rfl))) (by intros; exact (jH (aN cQ (av bB (av cI (pv 1) (aO bn (cB (aq ap (aq ap (aq ap (aq ap (aq ap af)))))) (pv 0) (fun _ _=>rfl))) ap) ap (aQ _)))) (by intros; exact (pv 0))) af)))),yD h⟩
theorem Bl (D:Def K mg "_law_pool" cC nQ f fd) (B:Blt mg) (U33:p9 P w K mg base 1):Ed P w K mg base 2:=by
 refine D.ok jx (by walk_at "l") fun _ _ _ _ _ _ _ _ hr h=>?_
 exact ⟨kb K,(ah (aB (i:=4) jx.nd rfl (L8 rfl) (cB (bv (b7 (aq aZ (aI (av bB (ak U33 (rmD hr) (ae (pvA qp) (ae (pvA qq) af))) (pvA qt)) af))) af)))
  (ah (bG Ms rfl (cq rfl B.range (aI (av fA ap (cK xX rfl B.int UB (tZ (lI mO (pvA qr) ap (aQ _)) af))) af)) (ax (i:=5) jx.nd rfl (L8 rfl)) (ah (aB (i:=6) jx.nd rfl (L8 rfl) (ak U33 (rmD hr) (ae (pvA qp) (aI (av bx (av bx (pvA qq) ap) (pvA yY)) af))))
  (aj (bV (ir MN Nb Nc db (pvA qu) (bv (b7 (aq aZ (aI (av bB (pvA qw) (av bx (pvA qt) ap)) (aI (av bB (av cI (pvA qw) ap) (pvA qr)) af)))) af))))))
  (aj (ay (pvA qu))))),AA h⟩
theorem xT (D:Def K mg "_law_saying" bm AY f fd) (B:Blt mg) (U33:p9 P w K mg base 1) (U10:zF P w K mg base 1) (U29:Ed P w K mg base 2) (U11:IH P w K mg base 71):Ee P w K mg base 72:=by
 refine D.ok bM (by walk_at "l") fun _ _ _ _ _ _ _ _ hr h=>?_
 exact ⟨iB K,(ah (aB (i:=5) bM.nd rfl (L8 rfl) (ak U29 (rmD hr) (ae (pvA jy) (ae (pvA jz) (ae (pvA wN) (ae (pvA cv) af))))))
  (ah (bG Ms rfl (cq rfl B.range (aI (av bB (ak U33 (rmD hr) (ae (pvA jy) (aI (av bx (pvA jz) ap) af))) ap) af)) (ax (i:=6) bM.nd rfl (L8 rfl)) (ah (aB (i:=7) bM.nd rfl (L8 rfl) (ak U33 (rmD hr) (ae (pvA jy) (aI (av bx (av bx (pvA jz) ap) (pvA wP)) af))))
  (ah (aB (i:=8) bM.nd rfl (L8 rfl) (aO bn (pvA fh) (Im EG ap) (fun _ _=>rfl)))
  (ah (aB (i:=9) bM.nd rfl (L8 rfl) (aO bn (pvA fh) (av bB (av cI (pvA bR) ap) (aA aU rfl B.len NR (ae (pvA fh) af))) (fun _ _=>rfl)))
  (ah (aB (i:=10) bM.nd rfl (L8 rfl) (cB (bv (b7 (aq aZ (ae (pvA b8) af))) (bv (b7 (aq aZ (ae (pvA b8) (ae (pvA cZ) af)))) (bv (b7 (aq aZ (ae (pvA cZ) (ae (pvA b8) af)))) (bv (b7 (aq aZ (ae (pvA cZ) af))) af))))))
  (ah (aB (i:=10) bM.nd rfl (L8 rfl) (av oq (pvA dv) (cB (bv (b7 (aq aZ (aI (av bB (av cI (pvA bR) ap) (pvA cv)) (ae (pvA b8) af)))) (bv (b7 (aq aZ (aI (av bB (av cI (pvA bR) ap) (pvA cv)) (bv (b7 (aq aZ (ae (pvA b8) af))) af)))) af)))))
  (ah (aB (i:=10) bM.nd rfl (L8 rfl) (av oq (pvA dv) (cB (bv (b7 (aq aZ (aV (ak U10 (rmD hr) (aI (av cI (pvA bR) ap) (ae (pvA cv) af))) (ae (pvA b8) af)))) (bv (b7 (aq aZ (aV (ak U10 (rmD hr) (aI (av cI (pvA bR) ap) (ae (pvA cv) af))) (ae (pvA cZ) af)))) af)))))
  (ah (aB (i:=10) bM.nd rfl (L8 rfl) (av oq (pvA dv) (cB (bv (b7 (aq aZ (aV (ak U10 (rmD hr) (aI (av cI (pvA bR) ap) (ae (pvA cv) af))) (ae (pvA b8) af)))) (bv (b7 (aq aZ (aI (av bB (av cI (pvA bR) ap) (pvA cv)) (ae (pvA cZ) af)))) af)))))
  (ah (aB (i:=10) bM.nd rfl (L8 rfl) (av oq (pvA dv) (cB (bv (b7 (aq aZ (ae (pvA cZ) (bv (b7 (aq aZ (ae (pvA b8) af))) af)))) (bv (b7 (aq aZ (ae (pvA b8) (bv (b7 (aq aZ (aI (av bB (av cI (pvA bR) ap) (pvA cv)) (ae (pvA cZ) af)))) af)))) af)))))
  (aj (bh (aN zo (ak U11 (rmD hr) (aE (aO bn (pvA dv) (av bB (pvA bR) ap) (fun _ _=>rfl)) af)) (pvA wO) (aQ _)) (aj (bV (ir MN Nb Nc db (pvA fh) (aE (aO bn (pvA dv) (av bB (pvA bR) ap) (fun _ _=>rfl)) af)))) aL)))))))))))
  (aj (ay (aO bn (pvA fh) (Im EG ap) (fun _ _=>rfl)))))),xp h⟩
theorem Bm (D:Def K mg "_law_deed" cD nQ f fd) (B:Blt mg) (U33:p9 P w K mg base 1) (U10:zF P w K mg base 1) (U9:Ee P w K mg base 72):Ef P w K mg base 73:=by
 refine D.ok mL (by walk_at "l") fun _ _ _ _ _ _ _ _ hr h=>?_
 exact ⟨ke K,(ah (aB (i:=4) mL.nd rfl (L8 rfl) (ak U33 (rmD hr) (ae (pvA k9) (ae (pvA lc) af))))
  (ah (bh (PW.pt (jT (aN mO (av bB (pvA iK) ap) ap (aQ _)) (ig (aN cQ (pvA qx) ap (aQ _))))) (aj (ay (b7 (aq aZ (aV (ak U10 (rmD hr) (aI (av cI (pvA iK) ap) (ae (pvA iJ) af))) (aV (ak U9 (rmD hr) (ae (pvA k9) (aI (av bx (pvA lc) ap) (ae (pvA qx) (ae (pvA iJ) (aq ap af)))))) af)))))) aL)
  (ah (vd (i:=5) mL.nd rfl rfl (sc:=(ab cD)) (NX:=rQ) (N:=IF) (ix:=[none,some 2,some 0,some 1]) rfl (by walk_at "c") (cq rfl B.range (aI (av bB (ak U33 (rmD hr) (ae (pvA k9) (aI (av bx (pvA lc) ap) af))) ap) af)) (by intros; exact (ax (i:=0) (show (IF:List Str).Nodup by decide +kernel) rfl (L8 rfl))) (by intros; exact bW) (by intros; exact (av bB (ak U33 (rmD hr) (ae (pv 2) (aI (av bx (av bx (pv 3) ap) (pv 0)) af))) (pv 1))))
  (aj (ay (b7 (aq aZ (aI (av bB (av cI (pvA iK) ap) (pvA iJ)) (aI (av bB (av cI (pvA iK) ap) (av bx (pvA iJ) ap)) (ae (pvA yZ) af)))))))))),AJ h⟩
theorem zf (D:Def K mg "_law_shown" fJ rR f fd) (B:Blt mg):Eg P w K mg base 1:=by
 refine D.ok y6 (by walk_at "l") fun _ _ _ _ _ _ _ _ hr h=>?_
 exact ⟨jp K,(aj (ay (HP (sc:=(ab fJ)) (NX:=rR) (N:=Dz) (ix:=[none,some 2,some 1]) (own:="_law_deal") rfl (by refine ⟨rfl,?_,rfl,fun _ _=>rfl,fun _=>rfl,?_,?_,?_,rfl,?_⟩ <;> decide +kernel) (bE (pvA xL)) (by intros; exact (ax (i:=0) (show (Dz:List Str).Nodup by decide +kernel) rfl (PF rfl) (hf:=.inl K3))) (by intros; exact bW) (by intros; exact (JP rfl B.min (bD (bA (sc:=_) (hsc:=rfl) (NX:=Dz) (N:=IG) (ix:=[none,some 2,some 0]) rfl (by walk_at "e") (bE (pv 1)) (by intros; exact (ax (i:=0) (show (IG:List Str).Nodup by decide +kernel) rfl (L8 rfl))) (by intros; exact (jH (aN cQ (aO bq (pv 2) (pv 0) (fun _ _=>rfl)) (pv 1) (aQ _)))) (by intros; exact (pv 0))) af)))))),yM h⟩
theorem Bn (D:Def K mg "_law_done" gn m9 f fd) (B:Blt mg) {G:GF} (T:fb P w K mg G) (U13:HV P w K mg base G 5) (U15:HW P w K mg base G 41):Eh P w K mg base G 42:=by
 refine D.ok Bb (by walk_at "l") fun _ _ _ _ _ _ _ _ hr h=>?_
 exact ⟨kf K G,(ah (bh (aN cQ (aO bq (pvA eS) ap (fun _ _=>rfl)) aZ (aQ _)) (aj (ay (iR U15 (rmD hr) T.cl_Table (pvA qy) (aE (aO bq (pvA eS) ap (fun _ _=>rfl)) (aE (aO bq (pvA eS) ap (fun _ _=>rfl)) af))))) aL)
  (aj (ay (iR U13 (rmD hr) T.cl_Table (pvA qy) (aE (aO bq (pvA eS) ap (fun _ _=>rfl)) (aE (aO bq (pvA eS) ap (fun _ _=>rfl)) (aV (cK ou rfl B.list OX (aE (aO bq (pvA eS) ap (fun _ _=>rfl)) af)) af))))))),AK h⟩
theorem Bo (D:Def K mg "_law_same" dY wq f fd) (B:Blt mg):Ei P w K mg base 1:=by
 refine D.ok mM (by walk_at "l") fun _ _ _ _ _ _ _ _ hr h=>?_
 have hux:=hr.units64
 exact ⟨ki K,(ah (bh (PW.pt (jT (cz (bY (aA cb rfl B.isinstance MZ (ae (pvA lf) (ae (cH (v:=.ty "list") rfl B.list OX rfl) af))))) (ig (aN (uF hux) (pvA lf) (pvA qz) (aQ _))))) (aj (ay cn)) aL)
  (ah (bG Ms rfl (lT bw bw rfl B.zip (ae (pvA lf) (ae (pvA qz) af))) (d6 rfl (aY (ax (i:=2) mM.nd rfl (L8 rfl)) (aY (ax (i:=3) mM.nd rfl (L8 rfl)) dn))) (aj (bh (PW.pt (jT (aN zn (aA cb rfl B.isinstance MZ (ae (pvA qA) (ae (cH (v:=.ty "bool") rfl B.bool TJ rfl) af))) (aA cb rfl B.isinstance MZ (ae (pvA qB) (ae (cH (v:=.ty "bool") rfl B.bool TJ rfl) af))) (aQ _)) (ig (aN zn (aA cb rfl B.isinstance MZ (ae (pvA qA) (ae (cH (v:=.ty "tuple") rfl B.tuple Pf rfl) af))) (aA cb rfl B.isinstance MZ (ae (pvA qB) (ae (cH (v:=.ty "tuple") rfl B.tuple Pf rfl) af))) (aQ _))))) (aj (ay cn)) aL)))
  (aj (ay cn)))),AR h⟩
theorem zg (D:Def K mg "_law_alike" bU wc f fd) (B:Blt mg) {G:GF} (T:fb P w K mg G) (U32:HX P w K mg base G 4) (U20:HY P w K mg base G 4) (U12:Eb P w K mg base 1) (U24:Ei P w K mg base 1) (U8:Ec P w K mg base 1):Ej P w K mg base G 5:=by
 refine D.ok gh (by walk_at "l") fun _ _ _ _ _ _ _ _ hr h=>?_
 have hux:=hr.units64
 exact ⟨jo K G,(ah (bG Ms rfl (cq rfl B.range (aV (aA aU rfl B.len NR (ae (pvA jP) af)) af)) (ax (i:=3) gh.nd rfl (L8 rfl)) (ah (aB (i:=4) gh.nd rfl (L8 rfl) (iR U20 (rmD hr) T.cl_Table (pvA oF) (ae (pvA ib) af)))
  (ah (bh (PW.pt (jT (cz (bY (ak U8 (rmD hr) (ae (pvA oG) af)))) (ig (aN (uF hux) (pvA oG) (ak U12 (rmD hr) (bD (bA (sc:=(ab bU)) (NX:=pW) (N:=["_law_row"]) (ix:=[none]) rfl (by walk_at "c") (bE (aO bn (pvA jP) (pvA ib) (fun _ _=>rfl))) (by intros; exact (ax (i:=0) (show (["_law_row"]:List Str).Nodup by decide +kernel) rfl (L8 rfl))) (by intros; exact bW) (by intros; exact (cK uA rfl B.tuple Pf (ae (pv 0) af)))) af)) (aQ _))))) (aj (ay cn)) aL)
  (aj (bG Ms rfl (bE (pvA xM)) (ax (i:=5) gh.nd rfl (L8 rfl)) (ah (aB (i:=6) gh.nd rfl (L8 rfl) (iR U32 (rmD hr) T.cl_Table (pvA oF) (ae (pvA ib) (ae (pvA oH) af))))
  (ah (bh (cz (bY (ak U24 (rmD hr) (ae (pvA oI) (aE (aO bn (aO bn (pvA jP) (pvA ib) (fun _ _=>rfl)) (pvA oH) (fun _ _=>rfl)) af))))) (aj (ay cn)) aL)
  (aj (bV (ir MN Nb Nc db (pvA oI) (aq uW af)))))))))))
  (aj (ay cn))),yL h⟩
theorem K4 (D:Def K mg "law" dM tm f fd) (B:Blt mg) {G:GF} (T:fb P w K mg G) (U19:FnI P w K mg base 6 G.Table iF (fY K G)) (U17:Ej P w K mg base G 5) (U33:p9 P w K mg base 1) (U28:Ef P w K mg base 73) (U30:Eh P w K mg base G 42) (U25:Ea P w K mg base 3) (U21:Eg P w K mg base 1) (U34:DK P w K mg base 5):iM P w K mg base CX0 74 f fd tm (vh K):=by
 refine D.fn.ok dG (by walk_at "l") fun _ _ _ _ _ _ _ _ hr h=>?_
 have hux:=hr.units64
 exact ⟨zu K G,(ah (lP (ak U25 (rmD hr) (ae (pvA lO) (aq ap (aE (aO bn (cB (aq ap (aq ap af))) (cK xX rfl B.int UB (tZ (lI cQ (av bB (ak U33 (rmD hr) (ae (pvA lO) (aq ap af))) ap) ap (aQ _)) af)) (fun _ _=>rfl)) af)))) (d6 rfl (aY (ax (i:=1) dG.nd rfl (L8 rfl)) (aY (ax (i:=2) dG.nd rfl (L8 rfl)) dn))))
  (ah (aB (i:=3) dG.nd rfl (L8 rfl) (aA aU rfl B.len NR (ae (pvA xO) af)))
  (ah (aB (i:=4) dG.nd rfl (L8 rfl) (ak U34 (rmD hr) (ae (pvA xN) (ae (pvA xO) af))))
  (ah (aB (i:=5) dG.nd rfl (L8 rfl) (Hc U19 (rmD hr) T.m_Table (ae (pvA xN) (ae (pvA xO) af))))
  (ah (aB (i:=6) dG.nd rfl (L8 rfl) (cB af))
  (ah (bG Ms rfl (cq rfl B.range (ae (pvA Cz) af)) (ax (i:=7) dG.nd rfl (PF rfl)) (aj (bV (ir MN Nb Nc db (pvA tz) (bD (bA (sc:=(ab dM)) (NX:=gL) (N:=DG) (ix:=[none,some 7]) rfl (by walk_at "c") (bE (pvA oJ)) (by intros; exact (ax (i:=0) (show (DG:List Str).Nodup by decide +kernel) rfl (L8 rfl))) (by intros; exact bW) (by intros; exact (cB (aV (cK uA rfl B.tuple Pf (bD (bA (sc:=_) (hsc:=rfl) (NX:=DG) (N:=DC) (ix:=[none,none,some 1]) rfl (by walk_at "e") (lJ gp rfl B.enumerate (by decide) (ae (pv 0) af)) (by intros; exact (d6 rfl (aY (ax (i:=0) (show (DC:List Str).Nodup by decide +kernel) rfl (L8 rfl)) (aY (ax (i:=1) (show (DC:List Str).Nodup by decide +kernel) rfl (L8 rfl)) dn)))) (by intros; exact (jH (aN cQ (pv 1) (pv 2) (aQ _)))) (by intros; exact (pv 0))) af)) af)))) af)))))
  (ah (aB (i:=8) dG.nd rfl (L8 rfl) (cB (aI (av bB (ak U33 (rmD hr) (ae (pvA lO) (aq ap af))) (aA aU rfl B.len NR (ae (pvA oJ) af))) (aI (av bB (ak U33 (rmD hr) (ae (pvA lO) (aq ap af))) (aA aU rfl B.len NR (ae (pvA oJ) af))) af))))
  (ah (bh (cz (bY (ak U17 (rmD hr) (ae (pvA xP) (ae (pvA tz) (ae (pvA CA) af)))))) (aj (ay cn)) aL)
  (ah (bG Ms rfl (cq rfl B.range (aI (av bB (ak U33 (rmD hr) (ae (pvA lO) (aq ap af))) ap) af)) (ax (i:=9) dG.nd rfl (L8 rfl)) (ah (aB (i:=10) dG.nd rfl (L8 rfl) (ak U28 (rmD hr) (ae (pvA lO) (aI (av bx ap (av fA ap (pvA JX))) (ae (pvA xN) (ae (pvA Cz) af))))))
  (ah (aB (i:=11) dG.nd rfl (L8 rfl) (ak U30 (rmD hr) (ae (pvA xP) (ae (pvA jQ) af))))
  (ah (aB (i:=12) dG.nd rfl (L8 rfl) (cK ou rfl B.list OX (ae (pvA uT) af)))
  (ah (bV (Kc MN PySem.F.slot_list_reverse PySem.F.type_list_reverse CT (pvA uT)))
  (ah (bV (ir MN Nb Nc db (pvA uT) (aq uW af)))
  (ah (aB (i:=13) dG.nd rfl (L8 rfl) (aO bq (pvA jQ) ap (fun _ _=>rfl)))
  (ah (bh (aN cQ (aO bq (pvA jQ) ap (fun _ _=>rfl)) aZ (aQ _)) (ah (aB (i:=13) dG.nd rfl (L8 rfl) (b7 (aE (aO bq (pvA jQ) ap (fun _ _=>rfl)) af)))
  (aj (bh (aN (uF hux) (pvA Bc) (ak U21 (rmD hr) (ae (pvA oJ) (aE (aO bq (pvA jQ) ap (fun _ _=>rfl)) (aE (aO bq (pvA jQ) ap (fun _ _=>rfl)) af)))) (aQ _)) (aj (ay cn)) aL))) aL)
  (ah (bG Ms rfl (qM (pvA Ij)) (ax (i:=7) dG.nd rfl (PF rfl)) (aj (bG Ms rfl (cq rfl B.range (aV (aA aU rfl B.len NR (ae (pvA oJ) af)) af)) (ax (i:=14) dG.nd rfl (L8 rfl)) (aj (bV (ir MN Nb Nc db (aO bn (aO bn (pvA tz) (pvA JW) (fun _ _=>rfl)) (pvA Bd) (fun _ _=>rfl)) (aE (aO bn (pvA Bc) (pvA Bd) (fun _ _=>rfl)) af)))))))
  (aj (bh (cz (bY (ak U17 (rmD hr) (ae (pvA xP) (ae (pvA tz) (ae (pvA CA) af)))))) (aj (ay cn)) aL)))))))))))
  (aj (ay cn))))))))))),KY h⟩
theorem zh {G:GF} (D:Ax K G.Table "Table.__init__" dH iF f fd) (B:Blt mg) (T:fb P w K mg G) (U34:DK P w K mg base 5) (U18:DQ P w K mg base 2):FnI P w K mg base 6 G.Table iF (fY K G):=by
 refine D.ok y7 (by walk_at "l") fun _ _ _ _ _ _ _ _ hr h=>?_
 exact ⟨jj K G,(ah (nY (pvA dw) (ak U34 (rmD hr) (ae (pvA oM) (ae (pvA jR) af))) rfl)
  (ah (nY (pvA dw) (pvA oM) rfl)
  (ah (nY (pvA dw) (cK ou rfl B.list OX (ae (pvA jR) af)) rfl)
  (ah (nY (pvA dw) (aA aU rfl B.len NR (ae (pvA jR) af)) rfl)
  (ah (nY (pvA dw) (bA (sc:=(ab dH)) (NX:=iF) (N:=["hand","self"]) (ix:=[none,some 0]) rfl (by walk_at "c") (cq rfl B.range (bK (cJ (pvA dw) rfl) af)) (by intros; exact (ax (i:=0) (show (["hand","self"]:List Str).Nodup by decide +kernel) rfl (L8 rfl))) (by intros; exact bW) (by intros; exact (ak U18 (rmD hr) (bK (cJ (pv 1) rfl) (ae (pv 0) af))))) rfl)
  (aj (nY (pvA dw) (cB af) rfl))))))),yG T.ct h⟩
theorem zi {G:GF} (D:iQ K G.Table "view" "Table.view" fK nu f fd) (B:Blt mg) (T:fb P w K mg G) (U38:uJ P w K mg base 3) (U2:tw P w K mg base 1):HY P w K mg base G 4:=by
 refine D.ok y8 (by walk_at "l") fun _ _ _ _ _ _ _ _ hr h=>?_
 exact ⟨jk K G,(ah (bV (ak U2 (rmD hr) (aV (ak U38 (rmD hr) (ae (pvA oO) (bK (cJ (pvA oN) rfl) af))) (aq aZ af))))
  (aj (ay (cK ou rfl B.list OX (aE (aO bn (cJ (pvA oN) rfl) (pvA oO) (fun _ _=>rfl)) af))))),yH T.ct h⟩
theorem zj {G:GF} (D:iQ K G.Table "word" "Table.word" eF lE f fd) (B:Blt mg) (T:fb P w K mg G) (U7:Ek P w K mg base G 3) (U3:Ia P w K mg base G 40) (U27:DJ P w K mg base 3) (U2:tw P w K mg base 1):HW P w K mg base G 41:=by
 refine D.ok y9 (by walk_at "l") fun _ _ _ _ _ _ _ _ hr h=>?_
 exact ⟨jm K G,(ah (bV (ak U2 (rmD hr) (aV (ak U27 (rmD hr) (ae (pvA oP) (bK (cJ (pvA jS) rfl) af))) (aq aZ af))))
  (aj (ay (iR U7 (rmD hr) T.cl_Table (pvA jS) (ae (pvA oP) (aV (iR U3 (rmD hr) T.cl_Table (pvA jS) (ae (pvA xQ) af)) af)))))),yJ T.ct h⟩
theorem zk {G:GF} (D:iQ K G.Table "show" "Table.show" da wl f fd) (B:Blt mg) (T:fb P w K mg G) (m_set:mg "set"=none) (U7:Ek P w K mg base G 3) (U23:DX P w K mg base 4) (U38:uJ P w K mg base 3) (U14:DY P w K mg base 1) (U2:tw P w K mg base 1):HV P w K mg base G 5:=by
 refine D.ok qC (by walk_at "l") fun _ _ _ _ _ _ _ _ hr h=>?_
 exact ⟨jn K G,(ah (bV (ak U2 (rmD hr) (aV (ak U38 (rmD hr) (ae (pvA oQ) (bK (cJ (pvA fL) rfl) af))) (aq aZ af))))
  (ah (bV (ak U2 (rmD hr) (aV (ak U38 (rmD hr) (ae (pvA xR) (aI (av bx (cJ (pvA fL) rfl) ap) af))) (aq aZ af))))
  (ah (bV (ak U2 (rmD hr) (aV (ak U23 (rmD hr) (ae (pvA oR) (bK (cJ (pvA fL) rfl) af))) (aq aZ af))))
  (ah (aB (i:=4) qC.nd rfl (PF rfl) (Dv rfl B.sorted m_set (ae (pvA oR) af)))
  (aj (ay (iR U7 (rmD hr) T.cl_Table (pvA fL) (bv (b7 (ae (pvA oQ) af)) (bD (bA (sc:=(ab da)) (NX:=sT) (N:=p0) (ix:=[none,some 2,some 4]) rfl (by walk_at "c") (bE (cJ (pvA fL) rfl)) (by intros; exact (ax (i:=0) (show (p0:List Str).Nodup by decide +kernel) rfl (L8 rfl))) (by intros; exact bW) (by intros; exact (ak U14 (rmD hr) (ae (pv 0) (ae (pv 1) (ae (pv 2) af)))))) af))))))))),yK T.ct h⟩
theorem wU {G:GF} (D:iQ K G.Table "truths" "Table.truths" d4 ny f fd) (B:Blt mg) (T:fb P w K mg G) (U22:DN P w K mg base 6) (U31:II P w K mg base 39):Ia P w K mg base G 40:=by
 refine D.ok wQ (by walk_at "l") fun _ _ _ _ _ _ _ _ hr h=>?_
 exact ⟨hJ K G,(ah (bh (cz (bY (ak U22 (rmD hr) (bK (cJ (pvA fV) rfl) (bK (cJ (pvA fV) rfl) (ae (pvA mN) af)))))) (aj oV) aL)
  (aj (ay (ak U31 (rmD hr) (bK (cJ (pvA fV) rfl) (bK (cJ (pvA fV) rfl) (ae (pvA mN) af))))))),vX T.ct h⟩
theorem Bp {G:GF} (D:iQ K G.Table "saw" "Table.saw" dZ km f fd) (B:Blt mg) (T:fb P w K mg G) (U39:A0 P w K mg base 1) (U38:uJ P w K mg base 3) (U2:tw P w K mg base 1):HX P w K mg base G 4:=by
 refine D.ok Be (by walk_at "l") fun _ _ _ _ _ _ _ _ hr h=>?_
 exact ⟨kh K G,(ah (bV (ak U2 (rmD hr) (aV (ak U38 (rmD hr) (ae (pvA qD) (bK (cJ (pvA iL) rfl) af))) (aq aZ af))))
  (ah (bV (ak U2 (rmD hr) (aV (ak U38 (rmD hr) (ae (pvA qE) (aV (aA aU rfl B.len NR (bK (cJ (pvA iL) rfl) af)) af))) (aq aZ af))))
  (aj (ay (av oq (cB (aV (ak U39 (rmD hr) (aE (aO bn (cJ (pvA iL) rfl) (pvA qE) (fun _ _=>rfl)) (ae (pvA qD) af))) af)) (bA (sc:=(ab dZ)) (NX:=km) (N:=DE) (ix:=[none,none,some 2,some 1]) rfl (by walk_at "c") (bE (cJ (pvA iL) rfl)) (by intros; exact (d6 rfl (aY (ax (i:=0) (show (DE:List Str).Nodup by decide +kernel) rfl (L8 rfl)) (aY (ax (i:=1) (show (DE:List Str).Nodup by decide +kernel) rfl (L8 rfl)) dn)))) (by intros; exact (jH (aN ES (pv 3) (pv 0) rfl))) (by intros; exact (aO bn (pv 1) (pv 2) (fun _ _=>rfl))))))))),AL T.ct h⟩
theorem xU {G:GF} (D:iQ K G.Table "learn" "Table.learn" de wm f fd) (B:Blt mg) (T:fb P w K mg G) (U46:DR P w K mg base 2):Ek P w K mg base G 3:=by
 refine D.ok oS (by walk_at "l") fun _ _ _ _ _ _ _ _ hr h=>?_
 exact ⟨iC K G,(ah (bG Ms rfl (qM (pvA nC)) (ax (i:=3) oS.nd rfl (L8 rfl)) (aj (lP (ak U46 (rmD hr) (aE (aO bn (cJ (pvA jA) rfl) (pvA nD) (fun _ _=>rfl)) (ae (pvA jB) af))) (nV (cJ (pvA jA) rfl) (pvA nD) lQ))))
  (ah (bV (ir MN Nb Nc db (cJ (pvA jA) rfl) (bv (b7 (ae (pvA nC) (ae (pvA jB) af))) af)))
  (aj (ay (cK ou rfl B.list OX (ae (pvA jB) af)))))),xq T.ct h⟩
theorem Lz (B:Blt mg) {G:GF} {f1:Addr} {fd1:Mi} (V88:Def K mg "is_whole" jq p8 f1 fd1) {f2:Addr} {fd2:Mi} (V78:Def K mg "is_within" fk lD f2 fd2) {f3:Addr} {fd3:Mi} (V90:Def K mg "is_below" hU ng f3 fd3) {f4:Addr} {fd4:Mi} (V79:Def K mg "are_hands" dX wB f4 fd4) {f5:Addr} {fd5:Mi} (V94:Def K mg "is_pack" gM dU f5 fd5) {f6:Addr} {fd6:Mi} (V87:Def K mg "how_many" dW dU f6 fd6) {f7:Addr} {fd7:Mi} (V92:Def K mg "choices" fN wD f7 fd7) {f8:Addr} {fd8:Mi} (V86:Def K mg "deals_of" fc dU f8 fd8) {f9:Addr} {fd9:Mi} (V53:Def K mg "with_one_more" bP wE f9 fd9) {f10:Addr} {fd10:Mi} (V91:Def K mg "cards_of" hZ nj f10 fd10) {f11:Addr} {fd11:Mi} (V74:Def K mg "is_saying" cT kl f11 fd11) {f12:Addr} {fd12:Mi} (V93:Def K mg "is_word" gO kl f12 fd12) {f13:Addr} {fd13:Mi} (V100:Def K mg "fits" kH kj f13 fd13) {f14:Addr} {fd14:Mi} (V89:Def K mg "parts_of" fU wJ f14 fd14) {f15:Addr} {fd15:Mi} (V57:Def K mg "parts_of_all" dt wI f15 fd15) {f16:Addr} {fd16:Mi} (V69:Def K mg "first_view" fG nn f16 fd16) {f17:Addr} {fd17:Mi} (V98:Def K mg "split" lN np f17 fd17) {f18:Addr} {fd18:Mi} (V52:Def K mg "least_with_same" bJ ["marks"] f18 fd18) {f19:Addr} {fd19:Mi} (V96:Def K mg "joined" em wF f19 fd19) {f20:Addr} {fd20:Mi} (V103:Def K mg "link" ju wp f20 fd20) {f21:Addr} {fd21:Mi} (V95:Def K mg "end_of" iS wA f21 fd21) {f22:Addr} {fd22:Mi} (V83:Def K mg "truths_of" bQ sX f22 fd22) {f23:Addr} {fd23:Mi} (V102:Def K mg "both" mG eJ f23 fd23) {f24:Addr} {fd24:Mi} (V97:Def K mg "either" iT eJ f24 fd24) {f25:Addr} {fd25:Mi} (V99:Def K mg "known" gk wz f25 fd25) {f26:Addr} {fd26:Mi} (V56:Def K mg "known_to_all" cP wC f26 fd26) {f27:Addr} {fd27:Mi} (V101:Def K mg "seen" mJ lG f27 fd27) {f28:Addr} {fd28:Mi} (V54:Def K mg "refuse_unless" fg p6 f28 fd28) {f29:Addr} {fd29:Mi} (V75:Def K mg "are_cards" gm ni f29 fd29) {f30:Addr} {fd30:Mi} (V66:Def K mg "least_held" dE p0 f30 fd30) {f31:Addr} {fd31:Mi} (V85:Def K mg "_law_cell" fo we f31 fd31) {f32:Addr} {fd32:Mi} (V58:Def K mg "_law_product" du wH f32 fd32) {f33:Addr} {fd33:Mi} (V68:Def K mg "_law_count" dF wn f33 fd33) {f34:Addr} {fd34:Mi} (V76:Def K mg "_law_pack" cU wg f34 fd34) {f35:Addr} {fd35:Mi} (V64:Def K mg "_law_least" cY wG f35 fd35) {f36:Addr} {fd36:Mi} (V60:Def K mg "_law_wholes" eR nv f36 fd36) {f37:Addr} {fd37:Mi} (V63:Def K mg "_law_words" eA sY f37 fd37) {f38:Addr} {fd38:Mi} (V62:Def K mg "_law_group" fI m8 f38 fd38) {f39:Addr} {fd39:Mi} (V81:Def K mg "_law_pool" cC nQ f39 fd39) {f40:Addr} {fd40:Mi} (V61:Def K mg "_law_saying" bm AY f40 fd40) {f41:Addr} {fd41:Mi} (V80:Def K mg "_law_deed" cD nQ f41 fd41) {f42:Addr} {fd42:Mi} (V73:Def K mg "_law_shown" fJ rR f42 fd42) {f43:Addr} {fd43:Mi} (V82:Def K mg "_law_done" gn m9 f43 fd43) {f44:Addr} {fd44:Mi} (V77:Def K mg "_law_same" dY wq f44 fd44) {f45:Addr} {fd45:Mi} (V70:Def K mg "_law_alike" bU wc f45 fd45) {f46:Addr} {fd46:Mi} (V104:Def K mg "law" dM tm f46 fd46) {f47:Addr} {fd47:Mi} (V71:Ax K G.Table "Table.__init__" dH iF f47 fd47) {f48:Addr} {fd48:Mi} (V72:iQ K G.Table "view" "Table.view" fK nu f48 fd48) {f49:Addr} {fd49:Mi} (V67:iQ K G.Table "word" "Table.word" eF lE f49 fd49) {f50:Addr} {fd50:Mi} (V65:iQ K G.Table "show" "Table.show" da wl f50 fd50) {f51:Addr} {fd51:Mi} (V55:iQ K G.Table "truths" "Table.truths" d4 ny f51 fd51) {f52:Addr} {fd52:Mi} (V84:iQ K G.Table "saw" "Table.saw" dZ km f52 fd52) {f53:Addr} {fd53:Mi} (V59:iQ K G.Table "learn" "Table.learn" de wm f53 fd53) (T:fb P w K mg G) {t_MOST_CARDS:Tok} (m_MOST_CARDS:mg "MOST_CARDS"=some (.int 12 t_MOST_CARDS)) {t_MOST_HANDS:Tok} (m_MOST_HANDS:mg "MOST_HANDS"=some (.int 5 t_MOST_HANDS)) {t_MOST_DEALS:Tok} (m_MOST_DEALS:mg "MOST_DEALS"=some (.int 2000 t_MOST_DEALS)) {t_MOST_WORDS:Tok} (m_MOST_WORDS:mg "MOST_WORDS"=some (.int 30 t_MOST_WORDS)) (m_set:mg "set"=none):iM P w K mg base CX0 74 f46 fd46 tm (vh K):=by
 have U40:HR P w K mg base 1:=Ew V92 B
 have U36:DI P w K mg base 1:=BT V88 B
 have U26:AZ P w K mg base 2:=Bf V78 B U36
 have U42:HQ P w K mg base 3:=Ev V94 B m_MOST_CARDS m_MOST_HANDS U26
 have U35:HS P w K mg base 4:=BV V87 B U40 U42
 have U1:HU P w K mg base 1:=uU V53 B
 have U34:DK P w K mg base 5:=BW V86 B m_MOST_DEALS U35 U1
 have U39:A0 P w K mg base 1:=BX V91 B
 have U0:zC P w K mg base 1:=se V52 B
 have U18:DQ P w K mg base 2:=za V69 B U39 U0
 have U19:FnI P w K mg base 6 G.Table iF (fY K G):=zh V71 B T U34 U18
 have U38:uJ P w K mg base 3:=BU V90 B U26
 have U2:tw P w K mg base 1:=uV V54 B
 have U32:HX P w K mg base G 4:=Bp V84 B T U39 U38 U2
 have U20:HY P w K mg base G 4:=zi V72 B T U38 U2
 have U12:Eb P w K mg base 1:=zd V64 B
 have U24:Ei P w K mg base 1:=Bo V77 B
 have U8:Ec P w K mg base 1:=xS V60 B
 have U17:Ej P w K mg base G 5:=zg V70 B T U32 U20 U12 U24 U8
 have U33:p9 P w K mg base 1:=Bj V85 B
 have U10:zF P w K mg base 1:=ze V62 B
 have U29:Ed P w K mg base 2:=Bl V81 B U33
 have U11:IH P w K mg base 71:=qF V63 B 70
 have U9:Ee P w K mg base 72:=xT V61 B U33 U10 U29 U11
 have U28:Ef P w K mg base 73:=Bm V80 B U33 U10 U9
 have U46:DR P w K mg base 2:=Ik V98 B U0
 have U7:Ek P w K mg base G 3:=xU V59 B T U46
 have U23:DX P w K mg base 4:=Bi V75 B U38
 have U14:DY P w K mg base 1:=zb V66 B
 have U13:HV P w K mg base G 5:=zk V65 B T m_set U7 U23 U38 U14 U2
 have U27:DJ P w K mg base 3:=Bg V79 B U26
 have U48:DO P w K mg base 4:=JY V100 B U27 U38
 have U41:DL P w K mg base 5:=Ex V93 B T U48
 have U37:DP P w K mg base 1:=BY V89 B T
 have U5:DM P w K mg base 2:=wR V57 B U37
 have U22:DN P w K mg base 6:=Bh V74 B m_MOST_WORDS U36 U41 U5
 have U50:zE P w K mg base 1:=J0 V102 B
 have U45:DU P w K mg base 1:=Ge V97 B
 have U43:zD P w K mg base 1:=Gd V95 B
 have U51:DS P w K mg base 2:=JZ V103 B U43
 have U44:DT P w K mg base 3:=Gc V96 B U43 U51
 have U47:wK P w K mg base 1:=Il V99 B
 have U4:DV P w K mg base 2:=wS V56 B U50 U47
 have U49:DW P w K mg base 2:=J1 V101 B U47
 have U31:II P w K mg base 39:=sf V83 B U50 U39 U45 U44 U47 U4 U49 35
 have U3:Ia P w K mg base G 40:=wU V55 B T U22 U31
 have U15:HW P w K mg base G 41:=zj V67 B T U7 U3 U27 U2
 have U30:Eh P w K mg base G 42:=Bn V82 B T U13 U15
 have U6:DZ P w K mg base 1:=wT V58 B
 have U16:D0 P w K mg base 2:=zc V68 B U6
 have U25:Ea P w K mg base 3:=Bk V76 B U33 U16
 have U21:Eg P w K mg base 1:=zf V73 B
 exact K4 V104 B T U19 U17 U33 U28 U30 U25 U21 U34
end
@[elab_as_elim] theorem ofLen1 {α:Type} {P:List α->Prop} (us:List α) (hl:us.length=1) (h:∀ a0:α,P [a0]):P us:=match us,hl with | [a0],_=>h a0
@[elab_as_elim] theorem ofLen2 {α:Type} {P:List α->Prop} (us:List α) (hl:us.length=2) (h:∀ a0 a1:α,P [a0,a1]):P us:=match us,hl with | [a0,a1],_=>h a0 a1
@[elab_as_elim] theorem ofLen3 {α:Type} {P:List α->Prop} (us:List α) (hl:us.length=3) (h:∀ a0 a1 a2:α,P [a0,a1,a2]):P us:=match us,hl with | [a0,a1,a2],_=>h a0 a1 a2
@[elab_as_elim] theorem ofLen4 {α:Type} {P:List α->Prop} (us:List α) (hl:us.length=4) (h:∀ a0 a1 a2 a3:α,P [a0,a1,a2,a3]):P us:=match us,hl with | [a0,a1,a2,a3],_=>h a0 a1 a2 a3
@[elab_as_elim] theorem ofLen5 {α:Type} {P:List α->Prop} (us:List α) (hl:us.length=5) (h:∀ a0 a1 a2 a3 a4:α,P [a0,a1,a2,a3,a4]):P us:=match us,hl with | [a0,a1,a2,a3,a4],_=>h a0 a1 a2 a3 a4
local macro_rules | `(tactic| walk_at "b1")=>`(tactic| exact fun _ _ _ _ _ _ us hl=>ofLen1 us hl fun _=>rfl)
local macro_rules | `(tactic| walk_at "b2")=>`(tactic| exact fun _ _ _ _ _ _ us hl=>ofLen2 us hl fun _ _=>rfl)
local macro_rules | `(tactic| walk_at "b3")=>`(tactic| exact fun _ _ _ _ _ _ us hl=>ofLen3 us hl fun _ _ _=>rfl)
local macro_rules | `(tactic| walk_at "b4")=>`(tactic| exact fun _ _ _ _ _ _ us hl=>ofLen4 us hl fun _ _ _ _=>rfl)
local macro_rules | `(tactic| walk_at "b5")=>`(tactic| exact fun _ _ _ _ _ _ us hl=>ofLen5 us hl fun _ _ _ _ _=>rfl)
theorem all_mk {l:W.OpenLaw} {w:World} {K:Fg} {h:Heap} {mg:Str->Option Value} {fa:Addr} (X:K.In h) (G:h.Ns Mx mg) (hfa:mg "law"=some (.ref fa))
  {t_MOST_CARDS:Tok}  {t_MOST_HANDS:Tok}  {t_MOST_DEALS:Tok}  {t_MOST_WORDS:Tok}   {aF fm1 fm2 fm3 fm4 fm5 fm6 fm7 fm8:Addr} {tk1 tk2 tk3 tk4 tk5 tk6 tk7 tk8 tu1 tu2 tu3 tu4 tu5 tu6 tu7 tu8 tu9 tu10 tu11 tu12 tu13 tu14:Tok} {epF tn1 tn2 tn3 tn4 tn5 tn6 tn7 tn8:Nat} {to1 to2 to3 to4 to5 to6 to7 to8:Option Addr} {ts1 ts2 ts3 ts4 ts5 ts6 ts7 ts8:Array (Option Value)} {aT:Addr}
  (q1:DfA K "is_whole" jq)
  (q2:DfA K "is_within" fk)
  (q3:DfA K "is_below" hU)
  (q4:DfA K "are_hands" dX)
  (q5:DfA K "is_pack" gM)
  (q6:DfA K "how_many" dW)
  (q7:DfA K "choices" fN)
  (q8:DfA K "deals_of" fc)
  (q9:DfA K "with_one_more" bP)
  (q10:DfA K "cards_of" hZ)
  (q11:DfA K "is_saying" cT)
  (q12:DfA K "is_word" gO)
  (q13:DfA K "fits" kH)
  (q14:DfA K "parts_of" fU)
  (q15:DfA K "parts_of_all" dt)
  (q16:DfA K "first_view" fG)
  (q17:DfA K "split" lN)
  (q18:DfA K "least_with_same" bJ)
  (q19:DfA K "joined" em)
  (q20:DfA K "link" ju)
  (q21:DfA K "end_of" iS)
  (q22:DfA K "truths_of" bQ)
  (q23:DfA K "both" mG)
  (q24:DfA K "either" iT)
  (q25:DfA K "known" gk)
  (q26:DfA K "known_to_all" cP)
  (q27:DfA K "seen" mJ)
  (q28:DfA K "refuse_unless" fg)
  (q29:DfA K "are_cards" gm)
  (q30:DfA K "least_held" dE)
  (q31:DfA K "_law_cell" fo)
  (q32:DfA K "_law_product" du)
  (q33:DfA K "_law_count" dF)
  (q34:DfA K "_law_pack" cU)
  (q35:DfA K "_law_least" cY)
  (q36:DfA K "_law_wholes" eR)
  (q37:DfA K "_law_words" eA)
  (q38:DfA K "_law_group" fI)
  (q39:DfA K "_law_pool" cC)
  (q40:DfA K "_law_saying" bm)
  (q41:DfA K "_law_deed" cD)
  (q42:DfA K "_law_shown" fJ)
  (q43:DfA K "_law_done" gn)
  (q44:DfA K "_law_same" dY)
  (q45:DfA K "_law_alike" bU)
  (q46:DfA K "law" dM)
  (q47:MtA K aT "__init__" "Table.__init__" dH)
  (q48:MtA K aT "view" "Table.view" fK)
  (q49:MtA K aT "word" "Table.word" eF)
  (q50:MtA K aT "show" "Table.show" da)
  (q51:MtA K aT "truths" "Table.truths" d4)
  (q52:MtA K aT "saw" "Table.saw" dZ)
  (q53:MtA K aT "learn" "Table.learn" de)
  (y1:Oh K Mx "MOST_CARDS"=some (some (.int 12 t_MOST_CARDS)))
  (y2:Oh K Mx "MOST_HANDS"=some (some (.int 5 t_MOST_HANDS)))
  (y3:Oh K Mx "MOST_DEALS"=some (some (.int 2000 t_MOST_DEALS)))
  (y4:Oh K Mx "MOST_WORDS"=some (some (.int 30 t_MOST_WORDS)))
  (y5:Oh K Mx "set"=some none)
  (x1:Oh K Mx "FORMS"=some (some (.ref aF)))
  (x2:K.lookup aF=some ⟨.type "dict",none,.dict #[⟨Nj w.params "holds",.str "holds" tk1,.ref fm1⟩,⟨Nj w.params "not",.str "not" tk2,.ref fm2⟩,⟨Nj w.params "and",.str "and" tk3,.ref fm3⟩,⟨Nj w.params "or",.str "or" tk4,.ref fm4⟩,⟨Nj w.params "knows",.str "knows" tk5,.ref fm5⟩,⟨Nj w.params "all",.str "all" tk6,.ref fm6⟩,⟨Nj w.params "common",.str "common" tk7,.ref fm7⟩,⟨Nj w.params "sees",.str "sees" tk8,.ref fm8⟩] epF,#[]⟩)
  (x3:K.lookup fm1=some ⟨.type "tuple",to1,.seq #[.str "holder" tu1,.str "card" tu2] tn1,ts1⟩)
  (x4:K.lookup fm2=some ⟨.type "tuple",to2,.seq #[.str "saying" tu3] tn2,ts2⟩)
  (x5:K.lookup fm3=some ⟨.type "tuple",to3,.seq #[.str "saying" tu4,.str "saying" tu5] tn3,ts3⟩)
  (x6:K.lookup fm4=some ⟨.type "tuple",to4,.seq #[.str "saying" tu6,.str "saying" tu7] tn4,ts4⟩)
  (x7:K.lookup fm5=some ⟨.type "tuple",to5,.seq #[.str "hand" tu8,.str "saying" tu9] tn5,ts5⟩)
  (x8:K.lookup fm6=some ⟨.type "tuple",to6,.seq #[.str "hands" tu10,.str "saying" tu11] tn6,ts6⟩)
  (x9:K.lookup fm7=some ⟨.type "tuple",to7,.seq #[.str "hands" tu12,.str "saying" tu13] tn7,ts7⟩)
  (x10:K.lookup fm8=some ⟨.type "tuple",to8,.seq #[.str "hand" tu14] tn8,ts8⟩)
  (x11:(aF == N1)=false)
  (x12:Oh K Mx "Table"=some (some (.ref aT)))
  (x13:W.plainGet K aT Vb=true)
  (x14:W.hasDictIn K aT=true)
  (x15:W.plainOver K aT=true)
  (x16:Q1 K (.ref aT) "__setattr__"=some (some (.builtin "object.__setattr__")))
  (x17:W.makesIn K aT=true)
  (x18:W.keepIn K (.ref aT)=true)
  (x19:Q1 K (.ref aT) "dealt"=some none)
  (x20:Q1 K (.ref aT) "cards"=some none)
  (x21:Q1 K (.ref aT) "sizes"=some none)
  (x22:Q1 K (.ref aT) "hands"=some none)
  (x23:Q1 K (.ref aT) "views"=some none)
  (x24:Q1 K (.ref aT) "deeds"=some none)
  (z1:Oh K Mx "len"=some none) (z2:Oh K Mx "range"=some none) (z3:Oh K Mx "tuple"=some none) (z4:Oh K Mx "list"=some none) (z5:Oh K Mx "int"=some none) (z6:Oh K Mx "bool"=some none) (z7:Oh K Mx "str"=some none) (z8:Oh K Mx "dict"=some none) (z9:Oh K Mx "sum"=some none) (z10:Oh K Mx "all"=some none) (z11:Oh K Mx "min"=some none) (z12:Oh K Mx "max"=some none) (z13:Oh K Mx "sorted"=some none) (z14:Oh K Mx "enumerate"=some none) (z15:Oh K Mx "zip"=some none) (z16:Oh K Mx "isinstance"=some none):
  ∃ fd:Mi,(∀ (s:Shared) (v:Value),BindsTo s fd ⟨[v],[]⟩ [("_law_script",v)])/\∀ base:Heap,K.In base->base.Ns Mx mg->iM l.prog w K mg base CX0 74 fa fd tm (vh K):=by
 have B:Blt mg:=⟨Nn X G z1,Nn X G z2,Nn X G z3,Nn X G z4,Nn X G z5,Nn X G z6,Nn X G z7,Nn X G z8,Nn X G z9,Nn X G z10,Nn X G z11,Nn X G z12,Nn X G z13,Nn X G z14,Nn X G z15,Nn X G z16⟩
 obtain ⟨_,_,D1⟩:=q1.df (ps:=p8) X G (by walk_at "b1")
 obtain ⟨_,_,D2⟩:=q2.df (ps:=lD) X G (by walk_at "b3")
 obtain ⟨_,_,D3⟩:=q3.df (ps:=ng) X G (by walk_at "b2")
 obtain ⟨_,_,D4⟩:=q4.df (ps:=wB) X G (by walk_at "b2")
 obtain ⟨_,_,D5⟩:=q5.df (ps:=dU) X G (by walk_at "b2")
 obtain ⟨_,_,D6⟩:=q6.df (ps:=dU) X G (by walk_at "b2")
 obtain ⟨_,_,D7⟩:=q7.df (ps:=wD) X G (by walk_at "b2")
 obtain ⟨_,_,D8⟩:=q8.df (ps:=dU) X G (by walk_at "b2")
 obtain ⟨_,_,D9⟩:=q9.df (ps:=wE) X G (by walk_at "b2")
 obtain ⟨_,_,D10⟩:=q10.df (ps:=nj) X G (by walk_at "b2")
 obtain ⟨_,_,D11⟩:=q11.df (ps:=kl) X G (by walk_at "b3")
 obtain ⟨_,_,D12⟩:=q12.df (ps:=kl) X G (by walk_at "b3")
 obtain ⟨_,_,D13⟩:=q13.df (ps:=kj) X G (by walk_at "b4")
 obtain ⟨_,_,D14⟩:=q14.df (ps:=wJ) X G (by walk_at "b1")
 obtain ⟨_,_,D15⟩:=q15.df (ps:=wI) X G (by walk_at "b1")
 obtain ⟨_,_,D16⟩:=q16.df (ps:=nn) X G (by walk_at "b2")
 obtain ⟨_,_,D17⟩:=q17.df (ps:=np) X G (by walk_at "b2")
 obtain ⟨_,_,D18⟩:=q18.df (ps:=["marks"]) X G (by walk_at "b1")
 obtain ⟨_,_,D19⟩:=q19.df (ps:=wF) X G (by walk_at "b2")
 obtain ⟨_,_,D20⟩:=q20.df (ps:=wp) X G (by walk_at "b3")
 obtain ⟨_,_,D21⟩:=q21.df (ps:=wA) X G (by walk_at "b2")
 obtain ⟨_,_,D22⟩:=q22.df (ps:=sX) X G (by walk_at "b3")
 obtain ⟨_,_,D23⟩:=q23.df (ps:=eJ) X G (by walk_at "b2")
 obtain ⟨_,_,D24⟩:=q24.df (ps:=eJ) X G (by walk_at "b2")
 obtain ⟨_,_,D25⟩:=q25.df (ps:=wz) X G (by walk_at "b2")
 obtain ⟨_,_,D26⟩:=q26.df (ps:=wC) X G (by walk_at "b2")
 obtain ⟨_,_,D27⟩:=q27.df (ps:=lG) X G (by walk_at "b2")
 obtain ⟨_,_,D28⟩:=q28.df (ps:=p6) X G (by walk_at "b2")
 obtain ⟨_,_,D29⟩:=q29.df (ps:=ni) X G (by walk_at "b2")
 obtain ⟨_,_,D30⟩:=q30.df (ps:=p0) X G (by walk_at "b3")
 obtain ⟨_,_,D31⟩:=q31.df (ps:=we) X G (by walk_at "b2")
 obtain ⟨_,_,D32⟩:=q32.df (ps:=wH) X G (by walk_at "b1")
 obtain ⟨_,_,D33⟩:=q33.df (ps:=wn) X G (by walk_at "b2")
 obtain ⟨_,_,D34⟩:=q34.df (ps:=wg) X G (by walk_at "b3")
 obtain ⟨_,_,D35⟩:=q35.df (ps:=wG) X G (by walk_at "b1")
 obtain ⟨_,_,D36⟩:=q36.df (ps:=nv) X G (by walk_at "b1")
 obtain ⟨_,_,D37⟩:=q37.df (ps:=sY) X G (by walk_at "b1")
 obtain ⟨_,_,D38⟩:=q38.df (ps:=m8) X G (by walk_at "b2")
 obtain ⟨_,_,D39⟩:=q39.df (ps:=nQ) X G (by walk_at "b4")
 obtain ⟨_,_,D40⟩:=q40.df (ps:=AY) X G (by walk_at "b5")
 obtain ⟨_,_,D41⟩:=q41.df (ps:=nQ) X G (by walk_at "b4")
 obtain ⟨_,_,D42⟩:=q42.df (ps:=rR) X G (by walk_at "b3")
 obtain ⟨_,_,D43⟩:=q43.df (ps:=m9) X G (by walk_at "b2")
 obtain ⟨_,_,D44⟩:=q44.df (ps:=wq) X G (by walk_at "b2")
 obtain ⟨_,_,D45⟩:=q45.df (ps:=wc) X G (by walk_at "b3")
 obtain ⟨fd,D46,hb⟩:=q46.law X G (by walk_at "b1") hfa fun _ _ _ _ _ _ _ _=>.of_eq rfl
 obtain ⟨_,_,D47⟩:=q47.di (ps:=iF) x17 x18 (by walk_at "b3")
 obtain ⟨_,_,D48⟩:=q48.df (ps:=nu) (by walk_at "b2")
 obtain ⟨_,_,D49⟩:=q49.df (ps:=lE) (by walk_at "b3")
 obtain ⟨_,_,D50⟩:=q50.df (ps:=wl) (by walk_at "b4")
 obtain ⟨_,_,D51⟩:=q51.df (ps:=ny) (by walk_at "b2")
 obtain ⟨_,_,D52⟩:=q52.df (ps:=km) (by walk_at "b3")
 obtain ⟨_,_,D53⟩:=q53.df (ps:=wm) (by walk_at "b3")
 refine ⟨fd,hb,fun base _ _=>?_⟩
 have T:fb l.prog w K mg _:=He (Jw (aC:=0) x11 (SL X G x1) x2 x3 x4 x5 x6 x7 x8 x9 x10) (SL X G x12) x13 x14 x15 x16 x19 x20 x21 x22 x23 x24
 exact Lz B D1 D2 D3 D4 D5 D6 D7 D8 D9 D10 D11 D12 D13 D14 D15 D16 D17 D18 D19 D20 D21 D22 D23 D24 D25 D26 D27 D28 D29 D30 D31 D32 D33 D34 D35 D36 D37 D38 D39 D40 D41 D42 D43 D44 D45 D46 D47 D48 D49 D50 D51 D52 D53 T (SL X G y1) (SL X G y2) (SL X G y3) (SL X G y4) (Nn X G y5)
end Kc_k37
local macro_rules | `(tactic| walk_at "q1")=>`(tactic| exact ⟨_,by k_is,_,_,_,_,_,_,_,_,_,by k_is,by k_is,by k_is⟩)
local macro_rules | `(tactic| walk_at "q2")=>`(tactic| exact ⟨_,by k_is,by k_is,_,_,_,_,_,_,_,_,_,by k_is,by k_is,by k_is⟩)
noncomputable def PySem.W.Fast.tw592254389366036248 : PySem.Program := PySem.Challenge.pw_knowcards_k37_whole_alike_just_where_see
theorem PySem.W.Fast.te592254389366036248 : PySem.Challenge.pw_knowcards_k37_whole_alike_just_where_see = PySem.W.Fast.tw592254389366036248 := rfl
noncomputable def PySem.W.Fast.tw11017318285689004178 : PySem.Params → PySem.W.Frag := fun _ => []
theorem PySem.W.Fast.te11017318285689004178 : (fun _ => [] : PySem.Params → PySem.W.Frag) = PySem.W.Fast.tw11017318285689004178 := rfl
noncomputable def PySem.W.Fast.tw6385759253013182231 : PySem.Program := PySem.Challenge.pw_knowcards_k37_whole_alike_just_where_see
theorem PySem.W.Fast.te6385759253013182231 : PySem.Challenge.pw_knowcards_k37_whole_alike_just_where_see = PySem.W.Fast.tw6385759253013182231 := rfl
noncomputable def PySem.W.Fast.tw9434294112058427289 : PySem.Params → PySem.Obj := fun _ => default
theorem PySem.W.Fast.te9434294112058427289 : (fun _ => default : PySem.Params → PySem.Obj) = PySem.W.Fast.tw9434294112058427289 := rfl
noncomputable def PySem.W.Fast.tw1734224561548073628 : PySem.Params → PySem.Obj := fun _ => default
theorem PySem.W.Fast.te1734224561548073628 : (fun _ => default : PySem.Params → PySem.Obj) = PySem.W.Fast.tw1734224561548073628 := rfl
noncomputable def PySem.W.Fast.tw10086719116009746074 : PySem.Params → PySem.Obj := fun _ => default
theorem PySem.W.Fast.te10086719116009746074 : (fun _ => default : PySem.Params → PySem.Obj) = PySem.W.Fast.tw10086719116009746074 := rfl
noncomputable def PySem.W.Fast.tw2779382188414075538 : PySem.Params → PySem.Obj := fun _ => default
theorem PySem.W.Fast.te2779382188414075538 : (fun _ => default : PySem.Params → PySem.Obj) = PySem.W.Fast.tw2779382188414075538 := rfl
noncomputable def PySem.W.Fast.tw3587600683589168684 : PySem.Params → PySem.Obj := fun _ => default
theorem PySem.W.Fast.te3587600683589168684 : (fun _ => default : PySem.Params → PySem.Obj) = PySem.W.Fast.tw3587600683589168684 := rfl
noncomputable def PySem.W.Fast.tw2590477838510183437 : PySem.Params → PySem.Obj := fun _ => default
theorem PySem.W.Fast.te2590477838510183437 : (fun _ => default : PySem.Params → PySem.Obj) = PySem.W.Fast.tw2590477838510183437 := rfl
noncomputable def PySem.W.Fast.tw5654024432709848953 : PySem.Params → PySem.Obj := fun _ => default
theorem PySem.W.Fast.te5654024432709848953 : (fun _ => default : PySem.Params → PySem.Obj) = PySem.W.Fast.tw5654024432709848953 := rfl
noncomputable def PySem.W.Fast.tw5822238136442256528 : PySem.Params → PySem.Obj := fun _ => default
theorem PySem.W.Fast.te5822238136442256528 : (fun _ => default : PySem.Params → PySem.Obj) = PySem.W.Fast.tw5822238136442256528 := rfl
noncomputable def PySem.W.Fast.tw18007319074101738338 : PySem.Params → PySem.Obj := fun _ => default
theorem PySem.W.Fast.te18007319074101738338 : (fun _ => default : PySem.Params → PySem.Obj) = PySem.W.Fast.tw18007319074101738338 := rfl
noncomputable def PySem.W.Fast.tw5756953210399080314 : PySem.Params → PySem.Obj := fun _ => default
theorem PySem.W.Fast.te5756953210399080314 : (fun _ => default : PySem.Params → PySem.Obj) = PySem.W.Fast.tw5756953210399080314 := rfl
noncomputable def PySem.W.Fast.tw11312076082335603969 : PySem.Params → PySem.Obj := fun _ => default
theorem PySem.W.Fast.te11312076082335603969 : (fun _ => default : PySem.Params → PySem.Obj) = PySem.W.Fast.tw11312076082335603969 := rfl
noncomputable def PySem.W.Fast.tw6426057052447049698 : PySem.Params → PySem.Obj := fun _ => default
theorem PySem.W.Fast.te6426057052447049698 : (fun _ => default : PySem.Params → PySem.Obj) = PySem.W.Fast.tw6426057052447049698 := rfl
noncomputable def PySem.W.Fast.tw3507732499232422063 : PySem.Params → PySem.Obj := fun _ => default
theorem PySem.W.Fast.te3507732499232422063 : (fun _ => default : PySem.Params → PySem.Obj) = PySem.W.Fast.tw3507732499232422063 := rfl
noncomputable def PySem.W.Fast.tw10812458480254245814 : PySem.Params → PySem.Obj := fun _ => default
theorem PySem.W.Fast.te10812458480254245814 : (fun _ => default : PySem.Params → PySem.Obj) = PySem.W.Fast.tw10812458480254245814 := rfl
noncomputable def PySem.W.Fast.tw915787600770924645 : PySem.Params → PySem.Obj := fun _ => default
theorem PySem.W.Fast.te915787600770924645 : (fun _ => default : PySem.Params → PySem.Obj) = PySem.W.Fast.tw915787600770924645 := rfl
open PySem PySem.W PyProof.Rows
set_option maxRecDepth 100000 in
set_option maxHeartbeats 0 in
theorem PySem.Challenge.cw_knowcards_k37_whole_alike_just_where_see_holds : PySem.Challenge.rw_knowcards_k37_whole_alike_just_where_see.Holds := by
 w_on; o_law; k_head; (case hw=>w_witness2)
 k_fill
 refine L2.Gy (l:=PySem.Challenge.rw_knowcards_k37_whole_alike_just_where_see) (k:=74) (x:="_law_script") rfl rfl ⟨rfl,by decide,by decide⟩ (fun w h Y=>PySem.W.kIn_of Y) ?F
 case F=>
  intro w mg fa h KX G hmg
  refine' Kc_k37.all_mk KX G hmg ?q1 ?q2 ?q3 ?q4 ?q5 ?q6 ?q7 ?q8 ?q9 ?q10 ?q11 ?q12 ?q13 ?q14 ?q15 ?q16 ?q17 ?q18 ?q19 ?q20 ?q21 ?q22 ?q23 ?q24 ?q25 ?q26 ?q27 ?q28 ?q29 ?q30 ?q31 ?q32 ?q33 ?q34 ?q35 ?q36 ?q37 ?q38 ?q39 ?q40 ?q41 ?q42 ?q43 ?q44 ?q45 ?q46 ?q47 ?q48 ?q49 ?q50 ?q51 ?q52 ?q53 ?y1 ?y2 ?y3 ?y4 ?y5 ?x1 ?x2 ?x3 ?x4 ?x5 ?x6 ?x7 ?x8 ?x9 ?x10 ?x11 ?x12 ?x13 ?x14 ?x15 ?x16 ?x17 ?x18 ?x19 ?x20 ?x21 ?x22 ?x23 ?x24 ?z1 ?z2 ?z3 ?z4 ?z5 ?z6 ?z7 ?z8 ?z9 ?z10 ?z11 ?z12 ?z13 ?z14 ?z15 ?z16
  (case q1=>walk_at "q1")
  (case q2=>walk_at "q1")
  (case q3=>walk_at "q1")
  (case q4=>walk_at "q1")
  (case q5=>walk_at "q1")
  (case q6=>walk_at "q1")
  (case q7=>walk_at "q1")
  (case q8=>walk_at "q1")
  (case q9=>walk_at "q1")
  (case q10=>walk_at "q1")
  (case q11=>walk_at "q1")
  (case q12=>walk_at "q1")
  (case q13=>walk_at "q1")
  (case q14=>walk_at "q1")
  (case q15=>walk_at "q1")
  (case q16=>walk_at "q1")
  (case q17=>walk_at "q1")
  (case q18=>walk_at "q1")
  (case q19=>walk_at "q1")
  (case q20=>walk_at "q1")
  (case q21=>walk_at "q1")
  (case q22=>walk_at "q1")
  (case q23=>walk_at "q1")
  (case q24=>walk_at "q1")
  (case q25=>walk_at "q1")
  (case q26=>walk_at "q1")
  (case q27=>walk_at "q1")
  (case q28=>walk_at "q1")
  (case q29=>walk_at "q1")
  (case q30=>walk_at "q1")
  (case q31=>walk_at "q1")
  (case q32=>walk_at "q1")
  (case q33=>walk_at "q1")
  (case q34=>walk_at "q1")
  (case q35=>walk_at "q1")
  (case q36=>walk_at "q1")
  (case q37=>walk_at "q1")
  (case q38=>walk_at "q1")
  (case q39=>walk_at "q1")
  (case q40=>walk_at "q1")
  (case q41=>walk_at "q1")
  (case q42=>walk_at "q1")
  (case q43=>walk_at "q1")
  (case q44=>walk_at "q1")
  (case q45=>walk_at "q1")
  (case q46=>walk_at "q1")
  (case y1=>k_is)
  (case y2=>k_is)
  (case y3=>k_is)
  (case y4=>k_is)
  (case y5=>k_is)
  (case x1=>k_is)
  (case x2=>k_is)
  (case x3=>k_is)
  (case x4=>k_is)
  (case x5=>k_is)
  (case x6=>k_is)
  (case x7=>k_is)
  (case x8=>k_is)
  (case x9=>k_is)
  (case x10=>k_is)
  (case x11=>rfl)
  (case x12=>k_is)
  (case x13=>k_is)
  (case x14=>k_is)
  (case x15=>k_is)
  (case x16=>k_is)
  (case x17=>k_is)
  (case x18=>k_is)
  (case x19=>k_is)
  (case x20=>k_is)
  (case x21=>k_is)
  (case x22=>k_is)
  (case x23=>k_is)
  (case x24=>k_is)
  (case q47=>walk_at "q2")
  (case q48=>walk_at "q2")
  (case q49=>walk_at "q2")
  (case q50=>walk_at "q2")
  (case q51=>walk_at "q2")
  (case q52=>walk_at "q2")
  (case q53=>walk_at "q2")
  (case z1=>k_is); (case z2=>k_is); (case z3=>k_is); (case z4=>k_is); (case z5=>k_is); (case z6=>k_is); (case z7=>k_is); (case z8=>k_is); (case z9=>k_is); (case z10=>k_is); (case z11=>k_is); (case z12=>k_is); (case z13=>k_is); (case z14=>k_is); (case z15=>k_is); (case z16=>k_is)
