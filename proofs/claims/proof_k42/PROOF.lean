import PyProof.Rows.All
import Wide.All
import OpenK.AllK
import Wide.FinOn
import Lean
import PyProof.EqAt
import PyProof.EqKinds
import PyProof.TupleCall
import PyProof.NeKinds
import PyProof.SumWalkG
import PyProof.ConsumeWalk
import KE.IntBitsLaws
import PyProof.ZipIter
import KE.KTryMore
import PyProof.ExcArgsOwn
import KE.KDictLaws
import KE.KEqDict
import PyProof.Rows.EqDataRows
import PyProof.SetScanFacts
import PyProof.SetKind
import PyProof.Rows.SetFrom
import KE.KDictSum
import PyProof.ListMulRoad
import PyProof.Rows.CallKwBuiltin
import PyProof.Rows.SeqMore
import PyProof.WalkInts
import KE.KMinBuiltin
import KE.KRevSl
import PyProof.Rows.SortShell
import PyProof.DictWalks
import PyProof.ListRange
import KE.KItemsList
import PyProof.Rows.Range3
import PyProof.TupleOfGen
import PyProof.TupleOfSeq
import PySem.Challenge.RW_knowcards_k42_whole_plays_walked
set_option Elab.async false
set_option linter.all false
set_option maxRecDepth 100000
set_option maxHeartbeats 4000000
set_option compiler.extract_closed false
open Array renaming forIn_toList → OZ, getD → SU, getElem?_eq_getElem → NJ, getElem?_eq_none → P9, getElem?_toList → OC, length_toList → Mp, toList_push → Ro
open Bool renaming and_eq_true → Nc, and_false → Sm, beq_eq_decide_eq → Qh, eq_iff_iff → OW, false_and → QH, false_eq_true → MM, false_ne_true → LR, not_true → Pj, true_and → Qb
open Classical renaming propDecidable → NZ
open False renaming elim → Oc
open ForInStep renaming yield → OY
open Int renaming emod_lt_of_pos → Of, emod_nonneg → OB, le_antisymm → UQ, natCast_ediv → Ur, natCast_mul → R5, toNat_natCast → OI, zero_add → RH
open List renaming Perm → Ng, all_cons → Ph, all_eq_true → Uj, all_map → Qs, any_cons → S0, append_assoc → Rj, append_nil → NH, cons_append → Up, countP_cons → Um, count_append → Rl, count_cons → UP, drop_eq_getElem_cons → Rr, ext_getElem? → Ni, filterMap_cons → Pm, filter_append → Px, filter_cons → NS, filter_cons_of_neg → PU, filter_cons_of_pos → PR, find?_cons → Ms, findIdx?_eq_none_iff → Pp, findIdx?_eq_some_iff_getElem → Ob, flatMap_append → QG, flatMap_cons → Rm, flatten_cons → O6, foldl → UE, foldl_append → TL, foldl_cons → UF, forIn_cons → Po, forIn_nil → QK, getD_eq_getElem?_getD → LO, getElem?_append_left → Oh, getElem?_append_right → OE, getElem?_eq_getElem → LD, getElem?_eq_none → Md, getElem?_eq_some_iff → LJ, getElem?_map → LU, getElem?_of_mem → SR, getElem?_range → M1, getElem?_replicate → RL, getElem?_set → N1, getElem?_set_ne → SE, getElem?_set_self → R9, getElem?_take_of_lt → RA, getElem?_toArray → Sz, getElem?_zip_eq_some → Rq, getElem_mem → Od, getElem_range → QZ, idxOf_append → TJ, idxOf_cons → UK, idxOf_lt_length_of_mem → QX, length_append → L7, length_cons → Ml, length_drop → Uh, length_eq_zero_iff → OV, length_eraseIdx_of_lt → Rc, length_filter_le → Ss, length_map → LF, length_nil → UL, length_pos_iff → QF, length_range → MX, length_replicate → Sj, length_set → NI, length_singleton → Sl, length_take → NM, length_zip → Qy, lookup → O0, lookup_cons → M4, map_append → Mf, map_congr_left → NF, map_cons → LZ, map_map → Oy, map_nil → O8, mem_append → Mr, mem_append_left → NV, mem_append_right → MD, mem_cons → LI, mem_cons_of_mem → LQ, mem_cons_self → LK, mem_filter → Oj, mem_filterMap → QQ, mem_flatMap → Uq, mem_iff_getElem → QB, mem_iff_getElem? → Qj, mem_map → Nr, mem_map_of_mem → Ta, mem_of_getElem? → LX, mem_range → MZ, mem_singleton → LG, nodup_append → TN, nodup_cons → Ol, not_mem_nil → MQ, of_mem_zip → RW, pairwise_append → QA, pairwise_cons → Pz, pairwise_iff_getElem → OK, pairwise_lt_range → Oa, pairwise_singleton → RO, range → LV, range_succ → N5, range_succ_eq_map → Se, replicate → Mo, replicate_succ → N8, replicate_succ' → Pe, set_cons_succ → NR, set_cons_zero → NQ, size_toArray → L5, sum_append → Nn, sum_cons → Mi, sum_nil → Pa, take_add_one → Nv, take_append_drop → O9, take_length → Mx, take_of_length_le → Sf, zipIdx_cons → Uk, zipIdx_nil → UH, zip_cons_cons → Nq, zip_nil_left → N2
open List.cons renaming injEq → RZ
open Nat renaming add_assoc → Q8, add_le_add_right → SQ, add_mul → Ua, eq_of_mul_eq_mul_right → Q9, eq_zero_or_pos → Pw, le_add_right → Ny, le_of_ble_eq_true → Og, le_of_eq → Qn, le_of_lt → MP, le_of_not_lt → RC, le_refl → LH, le_succ → OM, le_trans → Mq, lt_irrefl → MV, lt_of_le_of_lt → OX, lt_of_lt_of_le → Mb, lt_or_eq_of_le → Py, lt_or_ge → Tw, lt_succ_of_lt → Nh, lt_succ_self → Nt, lt_trichotomy → Rn, min_self → Qz, mod_lt → PH, mul_assoc → Nz, mul_comm → NO, mul_left_comm → Os, mul_pos → T8, ne_of_gt → N9, ne_of_lt → Mn, not_le → QD, not_lt → Ru, not_lt_zero → N4, one_mul → T9, pos_of_ne_zero → Q0, sub_self → Qx, succ_le_succ → Uu, succ_pos → Tv, zero_le → MI
open Ne renaming symm → Na
open Option renaming isSome_iff_exists → Rz, map_eq_some_iff → Sg, map_some → Qu
open Option.some renaming inj → LW
open Or renaming inl → LN, inr → Pi
open PyProof.Rows renaming Subscript_ → UC, boot_all → Uw, boot_isinstance → N7, boot_list → ON, boot_max → Ux, boot_range → Rp, boot_sum → SV, boot_tuple → Pf, callWith_builtin1 → Qo, callWith_type1 → Nf, slot_tuple_getitem → OU, subscriptTail → SY, subscriptTail_builtinR → Sd
open PyProof.Rows.F renaming entry_set_update_loop → RP, plain_set_update_loop → PV
open PySem renaming DictEntry → Th, FuncData → L6, GenState → SD, IntMulOk → OR, IsTupleKey → UN, NameKind → MA, PassesOwn → Mt, SetTable → Ma, Within → Ry, assignEach → Ql, atKey_none_of_get → P0, attributeBase → Pg, backToKw → Pc, behindInMarks → Q4, beq_builtin_none → RI, binaryOp → OD, bootBuiltins → Pq, boot_len → MN, builtinLookup_eq_fast → Pb, builtinsNs → Uy, callSpecialIfBoundUnlessNone? → O4, callType_new → Tt, callWith → Ug, call_meets → Qr, cellsFrom → UT, checkBuiltinCall → Uv, closureFor → SK, codeAny_builtin → MT, codeAny_mono → OP, codeAny_of_tree → R6, compEnvC → SL, compareOp → NC, concat_meets → Tp, dictSetDefault → QL, eqBool → Tu, eqIsQuiet → R3, eqIsQuiet_byValue → TK, fastBuiltinMro → Sn, fits_of_scanBound → TV, foldedSetIterable → Rg, getMethod → QR, intBits_le_64 → S9, intBits_mul_le → Su, intItems → Qe, intItems_at → T7, isInstance → UO, isSubtype_stop → PF, isSubtype_tuple_tuple → Qi, isSubtype_type → Sx, keywordEach → Ow, letOwnedTupleGo → Qm, mainGlobals → Mj, mem_of_lookup → M0, newTuple → Ui, noFill_tuple_add → RB, numAt_eq → Uo, pickOrder → PC, plainId_quiet → Nm, rangeSize_one → SW, reduceHash → UM, relayAll → QN, scanBound → PB, seqIndex_neg → Tq, seqIndex_of → T4, seqItems? → QV, seq_tuple_add → SX, setEntries → Rw, sizeLine → LS, sizeLine_eq → LP, small_one → UR, starEach → L9, storedH_new → Ub, subscripted → Sb, swapsWith → Tf, sysModules → NG, typeIs_int → UD, typeLookup → SG, typeLookup_type → QC, updateSeq → PD, wpAny_Call_Name_kw → NL, wpAny_Call_method_late → P4, wpAny_Dict_empty → Ut, wpAny_List_spliced → To, wpAny_Name → Uz, wpAny_Tuple_spliced → S4, wpAny_askSetting → RJ, wpAny_assign_Name → Tz, wpAny_attempt → OG, wpAny_bind → LA, wpAny_call → UB, wpAny_callSpecial?_slot → MJ, wpAny_callSpecialIfBoundUnlessNone?_slot → On, wpAny_call_entry → Mu, wpAny_comprehension_free → RD, wpAny_execs_cons → Ud, wpAny_execs_nil → Qk, wpAny_field → MS, wpAny_fieldsOf → QO, wpAny_forIn_list → Qf, wpAny_getItem_of → Us, wpAny_handled → SZ, wpAny_holding → MR, wpAny_isInstance → NP, wpAny_ite_split → R7, wpAny_letGo → O1, wpAny_load → SF, wpAny_mono → Nx, wpAny_newObj_type → ME, wpAny_newTuple → Sr, wpAny_of_eq → P8, wpAny_onRaise → Q7, wpAny_passesOwn → OA, wpAny_pure → LC, wpAny_pyHash_int → Uc, wpAny_pyIter_enum → TH, wpAny_pyIter_list → O5, wpAny_pyIter_slot → TY, wpAny_pyIter_tuple → Tg, wpAny_pyIter_zip → RF, wpAny_ret_mkInt → Qv, wpAny_rule → NY, wpAny_runValue → Sw, wpAny_seqItems → MG, wpAny_setField → Ou, wpAny_setField_rec → Oe, wpAny_setState_of → Nj, wpAny_specialOf → Np, wpAny_standAt → Q3, wpAny_storeSet_of → TU, wpAny_throw → T5, wpAny_truthy_bool → NB, wpAny_tryCatch → PL, wpAny_tupleItemsOf → QY, wpAny_typeOf → Qp, wpAny_updateSeq → N6, wpAny_updateSeq_pair → Qt
open PySem.Around renaming under → Tj, under_plainId → MC
open PySem.Builtin.Builtins renaming bindParams → Q1
open PySem.Builtin.Int renaming intBits → MH
open PySem.Builtin.List renaming listExtendWith → MY, listItems → Sh, listLengthHint → Oz, listSameRef → OT, listTooLong → OQ, listUpdate → RS
open PySem.Builtin.Range renaming rangeSize → PN, small → Tc
open PySem.Builtin.Slice renaming sliceAdjust → Pn, sliceApplied → Q5, slicePlaces → OJ
open PySem.Builtin.SmallTypes renaming nextOf → Mv, ownedTupleHandOut → Pu, ownedTupleIsFree → MB
open PySem.Builtin.Tuple renaming tupleExact → NN, tupleHashOf → Nu, tupleItemsOf → Q6
open PySem.Calls renaming Name_function_global → Q2, callWith_builtin → P7, evalArgs_plain → Qq, spliced_cons → QS, spliced_nil → Ri
open PySem.Code renaming isFrame → Tn
open PySem.F renaming args_object_init_2 → SM, args_object_init_3 → SO, args_tuple_add_2 → Pt, args_tuple_iterator_next_1 → QJ, args_zip_next_1 → PY, called_tuple → SB, entry_extend_loop → Rx, entry_min_loop → O3, entry_tuple_add → PQ, entry_tuple_iterator_next → QU, entry_zip_new → UJ, entry_zip_next → Qd, newCall_zip_2 → UI, plainAttrs_list → Nk, plain_extend_loop → NK, plain_list_iadd → RQ, plain_list_iadd → TZ, plain_min_loop → M9, plain_set_new → Sv, plain_tuple_new → T1, slot_NoneType_hash → OH, slot_bool_hash → O2, slot_dict_getitem → Rt, slot_dict_setdefault → QM, slot_int_rmul → UG, slot_list_append → NT, slot_list_index → RN, slot_set_iter → SA, slot_tuple_add → P3, slot_tuple_count → RG, slot_tuple_eq → Qw, slot_tuple_hash → PZ, slot_tuple_iterator_next → OF, slot_zip_next → Om, typeCall_zip_2 → Ul, type_list_append → NU
open PySem.Heap renaming ExtBut → Pl, SameBut → L8, get?_push_of_some → LB, get?_push_size → LL, get?_update_other → Mz, get?_update_self → Mw, lt_size → LM, size_push → MF, size_update → RK
open PySem.Heap.SameBut renaming refl → TX, update → MO
open PySem.NameKind renaming cell → Qa, free → Nl
open PySem.Obj renaming cls_mapFields → Rk, data_mapDictKeys → SS, data_mapFields → Ox, isFreed_of_fields → Qg, mapFields → Rb, mapSeq → M8, putSet → Rv
open PySem.Paired renaming length → My
open PySem.PassesOwn renaming never → Me
open PySem.PyData renaming canLayAll0 → N3, depthAll → Oo, eqv → PJ, eqvAll → Re, int → PM, keyHash → MU
open PySem.SeqAt renaming EqAt → Mm, shaped → OS
open PySem.SeqAt.EqAt renaming bool_bool → SJ, bool_int → S6, bool_none → SI, int_bool → S8, int_int → Tr, int_none → S7, int_str → Td, none_bool → SH, none_int → S5, same → RX, str_int → Te
open PySem.SetTable renaming below → Mg, grown → OO
open PySem.SetTable.below renaming go → Ot
open PySem.SetTable.probe renaming go → TQ
open PySem.Shared renaming TypeIs → Ra, heap → T6
open PySem.Str renaming empty → US, ofString → Nb
open PySem.Value renaming bool → Nd, builtin → S3, float → T3, int → OL, isInt → R8, isInt_shape → Tx, none → M6, ref → Mh, str → RU, type → M7
open PySem.W renaming callWith_K → QT, cellsFrom_some → Sa, codeIn → Sk, emptyDict → ND, findIn → NW, findIn → QP, fnOf → Pr, handedIn → Ue, hasDictIn → Rh, instObj → Oi, isFn → Ti, keepIn → O7, kia_one → Nw, kitMeta → RY, kitOne → ML, kitx_dict → TF, kitx_list → TC, lookIn → QI, makesIn → UA, methodCall_KW → Si, methodObj → Rf, mg_none_of → M5, mg_of → SC, nsIn → N0, plainGet → Qc, plainGet_of → QE, plainOver → TB, takerIn → RV
open PySem.W.WData renaming int → PX, layable → So, layableAll → RE, list → QW, weight → Pd, weightAll → RM
open PySem.Walks renaming list → SN
open Sum renaming inl → Oq, inr → NA
open Sum.inl renaming inj → T2
open Sum.inr renaming inj → Pk
open True renaming intro → Ov
noncomputable abbrev Fg:=PySem.W.Frag
section
namespace L2
open PySem PySem.Spec PyProof.Rows
noncomputable abbrev Key:=Sum Int Str
noncomputable def rn:Key->Value->Bool
 | .inl k,v=>R8 k v
 | .inr x,v=>Value.isStrOf x v
noncomputable def Li (w:World):Key->Int
 | .inl k=>hashInt k
 | .inr x=>hashStr w x
theorem db:∀ {k:Key} {v:Value},rn k v=true->(∃ i t,k=Oq i/\v=OL i t)\/(∃ x t,k=NA x/\v=RU x t)
 | .inl i,v,h=>by
  obtain ⟨t,e⟩:=Tx (k:=i) (v:=v) h
  exact .inl ⟨i,t,rfl,e⟩
 | .inr x,v,h=>by
  obtain ⟨t,e⟩:=Value.isStrOf_shape (x:=x) (v:=v) h
  exact .inr ⟨x,t,rfl,e⟩
theorem DZ (i:Int) (t:Tok):rn (.inl i) (.int i t)=true:=by simp [rn,R8]
theorem D0 (x:Str) (t:Tok):rn (.inr x) (.str x t)=true:=by simp [rn,Value.isStrOf]
theorem Jz (a b:Int):decide ((Oq a:Key)=Oq b)=(a == b):=by
 by_cases e:a=b
 ·subst e; simp
 ·have h:¬ (Oq a:Key)=Oq b:=fun q=>e (T2 q)
  rw [decide_eq_false h]
  exact (beq_eq_false_iff_ne.mpr e).symm
theorem JA (a b:Str):decide ((NA a:Key)=NA b)=decide (a=b):=by
 by_cases e:a=b
 ·subst e; simp
 ·have h:¬ (NA a:Key)=NA b:=fun q=>e (Pk q)
  rw [decide_eq_false h,decide_eq_false e]
theorem JB (a:Int) (b:Str):decide ((Oq a:Key)=NA b)=false:=decide_eq_false (fun q=>nomatch q)
theorem JC (a:Str) (b:Int):decide ((NA a:Key)=Oq b)=false:=decide_eq_false (fun q=>nomatch q)
noncomputable def iE (prog:Program) (w:World):PySem.KeyKind prog w Key where
 is:=rn
 hash:=Li w
 inj:=fun v a b ha hb=>by
  rcases db ha with ⟨i,t,rfl,rfl⟩ | ⟨x,t,rfl,rfl⟩
  ·rcases db hb with ⟨j,u,rfl,e⟩ | ⟨y,u,rfl,e⟩
   ·injection e with e1 _; rw [e1]
   ·exact nomatch e
  ·rcases db hb with ⟨j,u,rfl,e⟩ | ⟨y,u,rfl,e⟩
   ·exact nomatch e
   ·injection e with e1 _; rw [e1]
 byValue:=fun k v h=>by
  rcases db h with ⟨i,t,rfl,rfl⟩ | ⟨x,t,rfl,rfl⟩ <;> rfl
 pyHash:=fun hv h=>by
  rcases db hv with ⟨i,t,rfl,rfl⟩ | ⟨x,t,rfl,rfl⟩
  ·exact Uc h
  ·exact wpAny_pyHash_str h
 eqBool:=fun hu hv h=>by
  rcases db hu with ⟨i,t,rfl,rfl⟩ | ⟨x,t,rfl,rfl⟩
  ·rcases db hv with ⟨j,u,rfl,rfl⟩ | ⟨y,u,rfl,rfl⟩
   ·rw [Jz] at h; exact wpAny_eqBool_int h
   ·rw [JB] at h; exact Td i t y u _ _ _ _ h
  ·rcases db hv with ⟨j,u,rfl,rfl⟩ | ⟨y,u,rfl,rfl⟩
   ·rw [JC] at h; exact Te x t j u _ _ _ _ h
   ·rw [JA] at h; exact wpAny_eqBool_str h
 «strs»:=fun k x t v h=>by
  rcases db h with ⟨i,u,rfl,e⟩ | ⟨y,u,rfl,e⟩
  ·exact nomatch e
  ·injection e with e1 _
   subst e1
   cases v <;> rfl
theorem Bb (prog:Program) (w:World) (i:Int) (t:Tok):(iE prog w).is (.inl i) (.int i t)=true:=DZ i t
theorem bo (prog:Program) (w:World) (x:Str) (t:Tok):(iE prog w).is (.inr x) (.str x t)=true:=D0 x t
end L2
namespace L2
open PySem PySem.Spec PyProof.Rows
inductive V where
 | non | bl (b:Bool) | int (i:Int) | str (x:Str) | byt (b:Array UInt8) | flt (b:UInt64) | ref (a:Addr) | ty (n:String)
 deriving DecidableEq
noncomputable def aJ:V->Value->Prop
 | .non,u=>u=M6
 | .bl b,u=>u=Nd b
 | .int i,u=>∃ t,u=OL i t
 | .str x,u=>∃ t,u=RU x t
 | .byt b,u=>∃ t,u=Value.bytes b t
 | .flt b,u=>∃ t,u=T3 b t
 | .ref a,u=>u=Mh a
 | .ty n,u=>u=M7 n
noncomputable abbrev aH:List V->List Value->Prop:=Paired aJ
theorem aH.length {xs:List V} {us:List Value} (r:aH xs us):xs.length=us.length:=My r
theorem aH.get:∀ {xs:List V} {us:List Value} {i:Nat} {x:V},aH xs us->xs[i]?=some x->∃ u,us[i]?=some u/\aJ x u
 | _,_,_,_,.nil,e=>by simp at e
 | _,_,0,_,.cons r _,e=>by simp at e; subst e; exact ⟨_,rfl,r⟩
 | _,_,i + 1,x,.cons _ t,e=>by
  obtain ⟨u,h1,h2⟩:=aH.get (i:=i) (x:=x) t (by simpa using e)
  exact ⟨u,by simpa using h1,h2⟩
theorem aH.set {x:V} {u:Value} (r:aJ x u):∀ {xs:List V} {us:List Value} (i:Nat),aH xs us->aH (xs.set i x) (us.set i u)
 | _,_,_,.nil=>.nil
 | _,_,0,.cons _ t=>.cons r t
 | _,_,i + 1,.cons q t=>.cons q (aH.set r i t)
theorem aH.append:∀ {xs ys:List V} {us ws:List Value},aH xs us->aH ys ws->aH (xs++ys) (us++ws)
 | _,_,_,_,.nil,s=>s
 | _,_,_,_,.cons r t,s=>.cons r (aH.append t s)
theorem aH.take:∀ {xs:List V} {us:List Value} (n:Nat),aH xs us->aH (xs.take n) (us.take n)
 | _,_,0,_=>.nil
 | _,_,_ + 1,.nil=>.nil
 | _,_,n + 1,.cons r t=>.cons r (aH.take n t)
theorem aH.drop:∀ {xs:List V} {us:List Value} (n:Nat),aH xs us->aH (xs.drop n) (us.drop n)
 | _,_,0,r=>r
 | _,_,_ + 1,.nil=>.nil
 | _,_,n + 1,.cons _ t=>aH.drop n t
noncomputable def gS:Option V->Option Value->Prop
 | some v,some u=>aJ v u
 | none,none=>True
 | _,_=>False
noncomputable def KV {κ:Type}:List (κ×V)->List (κ×Value)->Prop:=Paired fun (p:κ×V) (q:κ×Value)=>p.1=q.1/\aJ p.2 q.2
noncomputable def kV:Key->V
 | .inl i=>.int i
 | .inr x=>.str x
set_option genInjectivity false in
inductive HO where
 | lst (xs:List V)
 | tup (xs:List V)
 | dK (kvs:List (Key×V)) | dT (kvs:List (List Key×V))
 | set (S:Int->Bool) (n:Nat)
 | ins (C dx:Addr) (fs:List (Str×V))
 | own (x:Addr)
 | xd (fs:List (Str×V))
 | met (f x:Addr)
 | rng (lo hi:Int)
 | frz (o:Obj) (u:HO)
 | tbl (ps:Array Value)
 | ext (φ:Heap->Prop)
noncomputable abbrev Hp:=Addr->Option HO
noncomputable def upd (H:Hp) (a:Addr) (o:HO):Hp:=fun b=>if b=a then some o else H b
theorem aA {H:Hp} {a:Addr} {o:HO}:upd H a o a=some o:=by unfold upd; rw [if_pos rfl]
theorem aS {H:Hp} {a b:Addr} {o:HO} (h:b≠a):upd H a o b=H b:=by unfold upd; rw [if_neg h]
theorem HD {H:Hp} {a b:Addr} {o u:HO} (h:H a=some o) (h':H b=some u) (d:o≠u):a≠b:=by
 intro e; subst e; rw [h] at h'; exact d (LW h')
theorem aV {H:Hp} {a b:Addr} {o:HO} (h:H a=some o) (h':H b=none):a≠b:=by
 intro e; subst e; rw [h] at h'; cases h'
noncomputable def eQ (h:Heap) (a:Addr) (items:Array Value):Prop:=∃ o,h.get? a=some o/\o.cls=.type "tuple"/\(∃ n,o.data=.seq items n)/\o.dict=none
theorem eQ.lt {h:Heap} {a:Addr} {items:Array Value} (x:eQ h a items):a < h.objs.size:=let ⟨_,e,_⟩:=x; LM e
theorem eQ.tup {h:Heap} {a:Addr} {items:Array Value} (x:eQ h a items):IsTup h a items:=let ⟨o,e,c,d,_⟩:=x; ⟨o,e,c,d⟩
theorem eQ.new (h:Heap) (items:Array Value):eQ (h.push { cls:=.type "tuple",data:=.seq items }) h.objs.size items:=⟨_,LL _ rfl,rfl,⟨_,rfl⟩,rfl⟩
section
variable (P:Program) (w:World)
noncomputable def bJ (H:Hp) (h:Heap) (a:Addr):HO->Prop
 | .lst xs=>xs.length<=LS/\∃ (its:List Value) (n:Nat),aH xs its/\h.get? a=some { cls:=.type "list",data:=.seq its.toArray n }
 | .tup xs=>xs.length<=LS/\∃ its:List Value,aH xs its/\eQ h a its.toArray
 | .dK kvs=>kvs.length<=LS/\(a == NG)=false/\∃ vs,KV kvs vs/\h.DictOf (iE P w) a vs
 | .dT kvs=>kvs.length<=LS/\(a == NG)=false/\∃ xs:List (List Key×Addr×Value),
   Paired (fun (p:List Key×V) (q:List Key×Addr×Value)=>p.1=q.1/\H q.2.1=some (.tup (p.1.map kV))/\aJ p.2 q.2.2) kvs xs/\
   ∃ o es ep,h.get? a=some o/\o.ExactDict/\o.data=.dict es ep/\es.toList=xs.map (entryOfKey (tupleKind (iE P w)))/\(xs.map (·.1)).Nodup
 | .set S n=>h.SetOf (intKind P w) a S n
 | .ins C dx fs=>H dx=some (.own a)/\fs.length<=1000/\dx≠a/\h.get? a=some (Oi C dx)/\
   ∃ mA,h.Ns1 dx mA/\(∀ f,gS (fs.lookup f) (mA f))/\Ry mA (fs.map (·.1))
 | .own _=>∃ o,h.get? a=some o
 | .xd fs=>∃ mA,h.Ns1 a mA/\∀ f,gS (fs.lookup f) (mA f)
 | .rng lo hi=>∃ t u v,h.get? a=some { cls:=.type "range",data:=.fields #[.int lo t,.int hi u,.int 1 v] }
 | .frz o u=>h.get? a=some o/\bJ H h a u
 | .tbl ps=>h.get? a=some { cls:=.none,data:=.fields ps }
 | .met f x=>h.get? a=some (Rf (.ref f) (.ref x))
 | .ext φ=>φ h/\(∃ o,h.get? a=some o)/\∀ h1 h2:Heap,φ h1->(∀ o,h1.get? a=some o->h2.get? a=some o)->φ h2
noncomputable def HOk (H:Hp) (h:Heap):Prop:=∀ a o,H a=some o->bJ P w H h a o
end
section
variable {P:Program} {w:World} {H H':Hp} {h h':Heap} {a:Addr} {o:HO}
theorem bJ.lt (x:bJ P w H h a o):a < h.objs.size:=by
 cases o with
 | lst xs=>obtain ⟨_,_,_,_,e⟩:=x; exact LM e
 | tup xs=>obtain ⟨_,_,_,p⟩:=x; exact p.lt
 | dK kvs=>obtain ⟨_,_,_,_,o,_,_,e,_⟩:=x; exact LM e
 | dT kvs=>obtain ⟨_,_,_,_,o,_,_,e,_⟩:=x; exact LM e
 | set S n=>obtain ⟨o,_,_,_,e,_⟩:=x; exact LM e
 | ins C dx fs=>obtain ⟨_,_,_,e,_⟩:=x; exact LM e
 | own y=>obtain ⟨_,e⟩:=x; exact LM e
 | xd fs=>obtain ⟨_,⟨_,_,_,e,_⟩,_⟩:=x; exact LM e
 | rng lo hi=>obtain ⟨_,_,_,e⟩:=x; exact LM e
 | frz ob u=>obtain ⟨e,_⟩:=x; exact LM e
 | tbl ps=>exact LM (show h.get? a=some _ from x)
 | met f y=>exact LM (show h.get? a=some _ from x)
 | ext φ=>obtain ⟨_,⟨_,e⟩,_⟩:=x; exact LM e
theorem Paired.mapP {α β:Type} {F G:α->β->Prop}:∀ {l₁:List α} {l₂:List β},Paired F l₁ l₂->(∀ a b,F a b->G a b)->Paired G l₁ l₂
 | _,_,.nil,_=>.nil
 | _,_,.cons r t,f=>.cons (f _ _ r) (Paired.mapP t f)
theorem bJ.stay (x:bJ P w H h a o) (k:∀ b u,(b=a\/H b=some (.own a))->h.get? b=some u->h'.get? b=some u)
  (ho:∀ b,H b=some (.own a)->H' b=some (.own a)) (ht:∀ b xs,H b=some (.tup xs)->H' b=some (.tup xs)):bJ P w H' h' a o:=by
 induction o with
 | lst xs=>obtain ⟨z,its,n,r,e⟩:=x; exact ⟨z,its,n,r,k _ _ (.inl rfl) e⟩
 | tup xs=>obtain ⟨z,its,r,ob,e,c⟩:=x; exact ⟨z,its,r,ob,k _ _ (.inl rfl) e,c⟩
 | dK kvs=>obtain ⟨z,y,vs,r,ob,es,ep,e,c⟩:=x; exact ⟨z,y,vs,r,ob,es,ep,k _ _ (.inl rfl) e,c⟩
 | dT kvs=>
  obtain ⟨z,y,xs,r,ob,es,ep,e,c⟩:=x
  exact ⟨z,y,xs,Paired.mapP r fun p q z=>⟨z.1,ht _ _ z.2.1,z.2.2⟩,ob,es,ep,k _ _ (.inl rfl) e,c⟩
 | set S n=>obtain ⟨ob,es,ep,t,e,c⟩:=x; exact ⟨ob,es,ep,t,k _ _ (.inl rfl) e,c⟩
 | ins C dx fs=>
  obtain ⟨d,z,ne,e,mA,⟨od,es,ep,e2,c⟩,r⟩:=x
  exact ⟨ho _ d,z,ne,k _ _ (.inl rfl) e,mA,⟨od,es,ep,k _ _ (.inr d) e2,c⟩,r⟩
 | own y=>obtain ⟨ob,e⟩:=x; exact ⟨ob,k _ _ (.inl rfl) e⟩
 | xd fs=>obtain ⟨mA,⟨od,es,ep,e,c⟩,r⟩:=x; exact ⟨mA,⟨od,es,ep,k _ _ (.inl rfl) e,c⟩,r⟩
 | rng lo hi=>obtain ⟨t,u,v,e⟩:=x; exact ⟨t,u,v,k _ _ (.inl rfl) e⟩
 | frz ob u ih=>obtain ⟨e,q⟩:=x; exact ⟨k _ _ (.inl rfl) e,ih q⟩
 | tbl ps=>
  have e:h.get? a=some { cls:=.none,data:=.fields ps }:=x
  show h'.get? a=some { cls:=.none,data:=.fields ps }
  exact k a _ (.inl rfl) e
 | met f y=>
  have e:h.get? a=some (Rf (.ref f) (.ref y)):=x
  show h'.get? a=some (Rf (.ref f) (.ref y))
  exact k a _ (.inl rfl) e
 | ext φ=>obtain ⟨p,⟨o,e⟩,st⟩:=x; exact ⟨st _ _ p fun o q=>k _ _ (.inl rfl) q,⟨o,k _ _ (.inl rfl) e⟩,st⟩
theorem HOk.lt (x:HOk P w H h) (e:H a=some o):a < h.objs.size:=(x a o e).lt
theorem HOk.fresh (x:HOk P w H h) (e:h.objs.size<=a):H a=none:=by
 cases q:H a with
 | none=>rfl
 | some u=>exact absurd (Mb (x.lt q) e) (MV _)
theorem HOk.kept (x:HOk P w H h) (k:∀ b u,h.get? b=some u->h'.get? b=some u):HOk P w H h':=fun a o e=>
 (x a o e).stay (fun b u _ q=>k b u q) (fun _ q=>q) fun _ _ q=>q
theorem HOk.laid (x:HOk P w H h) (k:∀ b u,h.get? b=some u->h'.get? b=some u) (hp:h.objs.size<=a) (new:bJ P w (upd H a o) h' a o):HOk P w (upd H a o) h':=fun b u e=>by
 have hn:=x.fresh hp
 by_cases hb:b=a
 ·subst hb; rw [aA] at e; cases e; exact new
 ·rw [aS hb] at e
  exact (x b u e).stay (fun c v _ q=>k c v q) (fun c q=>by rw [aS (aV q hn)]; exact q) fun c xs q=>by rw [aS (aV q hn)]; exact q
end
noncomputable def Rd (H:Hp) (a:Addr) (u:HO):Prop:=H a=some u\/∃ o,H a=some (.frz o u)
theorem Rd.ok {P:Program} {w:World} {H:Hp} {h:Heap} {a:Addr} {u:HO} (r:Rd H a u) (x:HOk P w H h):bJ P w H h a u:=by
 rcases r with r | ⟨o,r⟩
 ·exact x a u r
 ·obtain ⟨_,q⟩:=x a _ r
  exact q
noncomputable def Mut:Option HO->Prop
 | some (.lst _)=>True
 | some (.dK _)=>True
 | some (.dT _)=>True
 | some (.set _ _)=>True
 | some (.ins _ _ _)=>True
 | some (.ext _)=>True
 | _=>False
section
variable {P:Program} {w:World} {H:Hp} {h h':Heap} {x e:Addr} {o':HO}
theorem HOk.write (ok:HOk P w H h) (mu:Mut (H x)) (he:e=x\/H e=some (.own x)) (k:∀ b u,b≠e->h.get? b=some u->h'.get? b=some u) (heo:∃ u,h'.get? e=some u)
  (new:bJ P w (upd H x o') h' x o'):HOk P w (upd H x o') h':=fun b u q=>by
 have nown:∀ c y,H c=some (.own y)->c≠x:=fun c y r z=>by subst z; rw [r] at mu; exact mu
 have ntup:∀ c xs,H c=some (.tup xs)->c≠x:=fun c xs r z=>by subst z; rw [r] at mu; exact mu
 by_cases hb:b=x
 ·subst hb; rw [aA] at q; cases q; exact new
 ·rw [aS hb] at q
  by_cases hbe:b=e
  ·have q':H b=some (.own x):=by
    rcases he with z | z
    ·exact absurd (hbe.trans z) hb
    ·rw [hbe]; exact z
   rw [q] at q'; cases q'
   obtain ⟨v,hv⟩:=heo
   exact ⟨v,by rw [hbe]; exact hv⟩
  ·refine (ok b u q).stay (fun c v hc r=>k c v ?_ r) (fun c r=>by rw [aS (nown c b r)]; exact r) fun c xs r=>by rw [aS (ntup c xs r)]; exact r
   rcases hc with rfl | hc
   ·exact hbe
   ·rintro rfl
    rcases he with z | z
    ·exact nown c b hc z
    ·rw [hc] at z; cases z; exact hb rfl
end
structure Un (fs ex:List Addr) (H H':Hp) (h h':Heap):Prop where
 keep:∀ b o,h.get? b=some o->H b=none->b∉fs->b∉ex->h'.get? b=some o
 slot:∀ b o,h.get? b=some o->H b=none->b∈fs->b∉ex->∃ sl,h'.get? b=some { o with slots:=sl }
 free:∀ b o,h.get? b=some o->H b=none->b∉ex->H' b=none
 there:∀ b o,h.get? b=some o->b∉ex->∃ o',h'.get? b=some o'
 tups:∀ b xs,H b=some (.tup xs)->H' b=some (.tup xs)
 frzs:∀ b o u,H b=some (.frz o u)->H' b=some (.frz o u)
 tbls:∀ b ps,H b=some (.tbl ps)->∃ more,H' b=some (.tbl (ps++more))
section
variable {fs fs' ex ex':List Addr} {H H1 H2:Hp} {h h1 h2 h':Heap} {a x e:Addr} {o:HO}
theorem Un.any (u:Un fs ex H H1 h h1) {b:Addr} {ob:Obj} (q:h.get? b=some ob) (n:H b=none) (hx:b∉ex):∃ sl,h1.get? b=some { ob with slots:=sl }:=by
 by_cases hb:b∈fs
 ·exact u.slot b ob q n hb hx
 ·exact ⟨ob.slots,u.keep b ob q n hb hx⟩
theorem Un.kept (k:∀ b u,h.get? b=some u->h'.get? b=some u):Un fs ex H H h h':=
 ⟨fun b ob q _ _ _=>k b ob q,fun b ob q _ _ _=>⟨ob.slots,k b ob q⟩,fun _ _ _ n _=>n,fun b ob q _=>⟨ob,k b ob q⟩,fun _ _ q=>q,fun _ _ _ q=>q,fun _ ps q=>⟨#[],by rw [q]; simp⟩⟩
theorem Un.refl:Un fs ex H H h h:=Un.kept fun _ _ q=>q
theorem Un.laid (k:∀ b u,h.get? b=some u->h'.get? b=some u) (hp:h.objs.size<=a) (hn:H a=none):Un fs ex H (upd H a o) h h' where
 keep:=fun b u q _ _ _=>k b u q
 slot:=fun b u q _ _ _=>⟨u.slots,k b u q⟩
 free:=fun b u q n _=>by rw [aS (Mn (Mb (LM q) hp))]; exact n
 there:=fun b u q _=>⟨u,k b u q⟩
 tups:=fun b xs q=>by rw [aS (aV q hn)]; exact q
 frzs:=fun b u xs q=>by rw [aS (aV q hn)]; exact q
 tbls:=fun b ps q=>⟨#[],by rw [aS (aV q hn),q]; simp⟩
theorem Un.write (mu:Mut (H x)) (he:e=x\/H e=some (.own x)) (k:∀ b u,b≠e->h.get? b=some u->h'.get? b=some u) (heo:∃ u,h'.get? e=some u):Un fs ex H (upd H x o) h h':=by
 have hx:∀ b,H b=none->b≠x:=fun b n z=>by subst z; rw [n] at mu; exact mu
 have hb:∀ b,H b=none->b≠e:=fun b n z=>by
  subst z
  rcases he with r | r
  ·exact hx b n r
  ·rw [n] at r; cases r
 have hm:∀ b u,H b=some u->¬ Mut (some u)->b≠x:=fun b u q nm z=>by subst z; rw [q] at mu; exact nm mu
 refine ⟨fun b u q n _ _=>k b u (hb b n) q,fun b u q n _ _=>⟨u.slots,k b u (hb b n) q⟩,fun b u q n _=>by rw [aS (hx b n)]; exact n,fun b u q _=>?_,
  fun b xs q=>by rw [aS (hm b _ q fun z=>z)]; exact q,fun b u xs q=>by rw [aS (hm b _ q fun z=>z)]; exact q,fun b ps q=>⟨#[],by rw [aS (hm b _ q fun z=>z),q]; simp⟩⟩
 by_cases hbe:b=e
 ·subst hbe; exact heo
 ·exact ⟨u,k b u hbe q⟩
end
noncomputable def trk (h:Heap) (H:Hp):List Addr:=(LV h.objs.size).filter fun a=>(H a).isSome
noncomputable def om (h:Heap) (H:Hp):Heap:=PySem.W.hideAll h (trk h H)
theorem Ea (h:Heap) (H:Hp):(om h H).objs.size=h.objs.size:=PySem.W.hideAll_size _ _
theorem FL {h:Heap} {H:Hp} {b:Addr} {o:Obj} (e:h.get? b=some o) (n:H b=none):(om h H).get? b=some o:=
 PySem.W.hideAll_get _ e fun hm=>by
  have q:(H b).isSome=true:=(Oj.mp hm).2
  rw [n] at q; simp at q
theorem HX {h:Heap} {H:Hp} {b:Addr} {o:Obj} (e:(om h H).get? b=some o):h.get? b=some o/\H b=none:=by
 have e':h.get? b=some o:=PySem.W.of_hideAll (trk h H) e
 refine ⟨e',?_⟩
 cases q:H b with
 | none=>rfl
 | some x=>
  have hm:b∈trk h H:=Oj.mpr ⟨MZ.mpr (LM e'),by simp [q]⟩
  have z:(om h H).get? b=none:=PySem.W.hideAll_none (trk h H) hm
  rw [z] at e; cases e
noncomputable def HY (g h:Heap) (L:Addr):List (Addr×Obj):=(LV h.objs.size).filterMap fun a=>if a=L\/(g.get? a).isSome=true then none else (h.get? a).map fun o=>(a,o)
noncomputable def cF (g h:Heap) (L d:Addr):List (Addr×Obj):=(HY g h L).filter fun p=>decide (p.1≠d)
end L2
namespace L2
open PySem PySem.Spec PyProof.Rows
structure Mod (K:Fg) (mg:Str->Option Value) (base:Heap):Prop where
 kin:K.In base
 glob:base.Ns Mj mg
 blt:∃ mb,base.Ns Uy mb/\∀ x:Str,x≠"__name__"->mb x=Pq x
 nolimit:base.NoLimit
set_option genInjectivity false in
structure Cx where
 prog:Program
 w:World
 K:Fg
 mg:Str->Option Value
 base:Heap
 A:Around
 N:List Str
 s₀:Shared
 H₀:Hp
 env:Env
 outer:List Env
 stack:List Env
 ex:List Addr
 fn:Str->Bool
 calm:Bool
 pn:List (Addr×Obj)
 xe:Value->Shared->Prop
noncomputable def frs (l:List Env):List Addr:=l.filterMap (·.frame)
noncomputable abbrev Cx.fs (X:Cx):List Addr:=frs X.outer
noncomputable def Vis (sc:Scope) (x:Str):Prop:=sc.names.lookup x=some .local\/sc.names.lookup x=some .cell\/sc.names.lookup x=some .free
noncomputable def Loc (sc:Scope) (x:Str):Prop:=sc.names.lookup x=some .local\/sc.names.lookup x=some .cell
noncomputable def JD (env:Env) (h:Heap) (m:Str->Option Value) (x:Str) (u:Value):Prop:=
 (env.kindOf x=some .local/\m x=some u)\/((env.kindOf x=some .cell\/env.kindOf x=some .free)/\∃ c,env.cells.lookup x=some c/\h.IsCell c (some u))
structure Cx.Ok (X:Cx):Prop where
 mod:Mod X.K X.mg X.base
 kind:X.env.scope.kind=.function
 glob:X.env.globals=Mj
 blt:X.env.builtins=Uy
 above:X.s₀.heap.objs.size<=X.env.locals
 inj:∀ x y c,X.env.cells.lookup x=some c->X.env.cells.lookup y=some c->x=y
 has:∀ x,(X.env.kindOf x=some .cell\/X.env.kindOf x=some .free)->∃ c,X.env.cells.lookup x=some c
 cab:∀ x c,X.fn x=true->X.env.cells.lookup x=some c->X.s₀.heap.objs.size<=c
 hd:X.calm=true->X.A.handled=none
 frames:X.A.frames=some X.stack
 stk:X.stack=X.outer\/(X.stack=X.env :: X.outer/\X.env.frame=some X.env.locals)
 exf:∀ b∈X.ex,b≠X.env.locals/\∀ x c,X.env.cells.lookup x=some c->c≠b
 bs:∀ b o,X.base.get? b=some o->X.s₀.heap.get? b=some o/\X.H₀ b=none
 bsz:X.base.objs.size<=X.s₀.heap.objs.size
 noex:∀ b o,X.base.get? b=some o->b∉X.ex
 exfs:∀ b∈X.ex,b∉X.fs
 funs:X.s₀.heap.FunFrames X.base X.outer
 frf:∀ b∈X.fs,X.H₀ b=none
structure Inv (X:Cx) (pins:List (Addr×Obj)) (σ:List (Option V)) (H:Hp) (s:Shared):Prop where
 ok:X.Ok
 os:s.os=X.s₀.os
 bare:AllBare s.gens
 base:Un X.fs X.ex X.H₀ H X.s₀.heap s.heap
 loc:∃ m,s.heap.Ns X.env.locals m/\∀ (i:Nat) (x:Str) (v:V),X.N[i]?=some x->σ[i]?=some (some v)->Vis X.env.scope x->∃ u,aJ v u/\JD X.env s.heap m x u
 cell:∀ x c,X.env.cells.lookup x=some c->∃ v,s.heap.IsCell c v
 free:H X.env.locals=none
 freeC:∀ x c,X.env.cells.lookup x=some c->H c=none
 pin:∀ p∈X.pn++pins,s.heap.get? p.1=some p.2/\H p.1=none/\p.1≠X.env.locals/\p.1∉X.fs/\∀ v,p.2.data≠.cell v
 hok:HOk X.prog X.w H s.heap
 len:σ.length=X.N.length
section
variable {X:Cx} {pins:List (Addr×Obj)} {σ:List (Option V)} {H H':Hp} {s:Shared} {h':Heap}
theorem Cx.Ok.nofr (ok:X.Ok) {b:Addr} {o:Obj} (e:X.base.get? b=some o):b∉X.fs:=fun hb=>by
 have:=(ok.funs.mem hb).1
 rw [e] at this; cases this
theorem Inv.bs (I:Inv X pins σ H s):∀ b o,X.base.get? b=some o->s.heap.get? b=some o/\H b=none:=fun b o e=>
 ⟨I.base.keep b o (I.ok.bs b o e).1 (I.ok.bs b o e).2 (I.ok.nofr e) (I.ok.noex b o e),I.base.free b o (I.ok.bs b o e).1 (I.ok.bs b o e).2 (I.ok.noex b o e)⟩
theorem Inv.bk (I:Inv X pins σ H s):∀ b o,X.base.get? b=some o->s.heap.get? b=some o:=fun b o e=>(I.bs b o e).1
theorem Inv.mod (I:Inv X pins σ H s):Mod X.K X.mg X.base:=I.ok.mod
theorem Inv.kIn (I:Inv X pins σ H s):X.K.In s.heap:=I.ok.mod.kin.keeps I.bk
theorem Inv.lt (I:Inv X pins σ H s):X.env.locals < s.heap.objs.size:=let ⟨_,hn,_⟩:=I.loc; hn.lt
theorem Inv.sz (I:Inv X pins σ H s):X.s₀.heap.objs.size<=s.heap.objs.size:=Mq I.ok.above (MP I.lt)
theorem Inv.nofs (I:Inv X pins σ H s) {a:Addr} (h:s.heap.objs.size<=a):a∉X.fs:=fun hb=>by
 obtain ⟨_,o,ho,_⟩:=I.ok.funs.mem hb
 exact absurd (Mb (LM ho) (Mq I.sz h)) (MV _)
theorem Inv.cne (I:Inv X pins σ H s):∀ x c,X.env.cells.lookup x=some c->c≠X.env.locals:=fun x c e z=>by
 obtain ⟨v,o,ho,hd⟩:=I.cell x c e
 obtain ⟨m,⟨o',es,ep,ho',hd',_⟩,_⟩:=I.loc
 rw [z,ho'] at ho; cases ho; rw [hd'] at hd; cases hd
theorem Inv.funs (I:Inv X pins σ H s):s.heap.FunFrames X.base X.outer:=by
 have all:∀ (l:List Env),(∀ b∈frs l,b∈X.fs)->X.s₀.heap.FunFrames X.base l->s.heap.FunFrames X.base l:=by
  intro l
  induction l with
  | nil=>intro _ _; trivial
  | cons env r ih=>
   intro hs hl
   obtain ⟨hk,⟨L,o,hf,hn,ho,hd⟩,hr⟩:=hl
   have hL:L∈X.fs:=hs L (by unfold frs; rw [Pm,hf]; exact LK)
   obtain ⟨sl,e⟩:=I.base.slot L o ho (I.ok.frf L hL) hL fun z=>I.ok.exfs L z hL
   exact ⟨hk,⟨L,_,hf,hn,e,hd⟩,ih (fun b hb=>hs b (by unfold frs; rw [Pm,hf]; exact LQ _ hb)) hr⟩
 exact all X.outer (fun _ hb=>hb) I.ok.funs
theorem Inv.stack (I:Inv X pins σ H s):s.heap.FunFrames X.base X.stack:=by
 rcases I.ok.stk with e | ⟨e,hf⟩
 ·rw [e]; exact I.funs
 ·rw [e]
  obtain ⟨m,hn,_⟩:=I.loc
  refine .cons (by rw [I.ok.kind]; decide) hf hn ?_ I.funs
  exact Heap.get?_none_of_le (Mq I.ok.bsz I.ok.above)
theorem Inv.stkSub (I:Inv X pins σ H s):∀ b∈frs X.stack,b∈X.env.locals :: X.fs:=fun b hb=>by
 rcases I.ok.stk with e | ⟨e,hf⟩
 ·rw [e] at hb; exact LQ _ hb
 ·rw [e] at hb
  unfold frs at hb
  rw [Pm,hf] at hb
  exact hb
theorem Inv.stkFree (I:Inv X pins σ H s):∀ b∈frs X.stack,H b=none:=fun b hb=>by
 rcases LI.mp (I.stkSub b hb) with e | hb
 ·rw [e]; exact I.free
 ·obtain ⟨_,o,ho,_⟩:=I.ok.funs.mem hb
  exact I.base.free b o ho (I.ok.frf b hb) fun z=>I.ok.exfs b z hb
theorem Inv.step {g':Array SD} {t':Nat} {d':Drawn} {ch:List Addr} (I:Inv X pins σ H s)
  (hch:∀ b∈ch,(b∈X.ex\/X.s₀.heap.objs.size<=b)/\b≠X.env.locals/\(∀ x c,X.env.cells.lookup x=some c->c≠b)/\∀ p∈X.pn++pins,p.1≠b)
  (keep:∀ b o,b≠X.env.locals->b∉X.fs->b∉ch->s.heap.get? b=some o->H b=none->h'.get? b=some o)
  (slot:∀ b o,b≠X.env.locals->b∈X.fs->b∉ch->s.heap.get? b=some o->H b=none->∃ sl,h'.get? b=some { o with slots:=sl }) (free:∀ b o,b∉ch->s.heap.get? b=some o->H b=none->H' b=none)
  (there:∀ b o,b∉ch->s.heap.get? b=some o->∃ o',h'.get? b=some o')
  (tups:∀ b xs,H b=some (.tup xs)->H' b=some (.tup xs)) (frzs:∀ b o u,H b=some (.frz o u)->H' b=some (.frz o u)) (tbls:∀ b ps,H b=some (.tbl ps)->∃ more,H' b=some (.tbl (ps++more)))
  (ns:∀ m,s.heap.Ns X.env.locals m->h'.Ns X.env.locals m) (hok:HOk X.prog X.w H' h') (hg:AllBare g'):
  Inv X pins σ H' { s with heap:=h',gens:=g',drawn:=d',toks:=t' }:=by
 have neL:∀ b o,X.s₀.heap.get? b=some o->b≠X.env.locals:=fun b o e=>Mn (Mb (LM e) I.ok.above)
 have neC:∀ b o,X.s₀.heap.get? b=some o->b∉X.ex->b∉ch:=fun b o e hx hb=>by
  rcases (hch b hb).1 with z | z
  ·exact hx z
  ·exact absurd (Mb (LM e) z) (MV _)
 have cellK:∀ x c,X.env.cells.lookup x=some c->∀ v,s.heap.IsCell c v->h'.IsCell c v:=fun x c e v ⟨o,ho,hd⟩=>by
  have nch:c∉ch:=fun z=>(hch c z).2.2.1 x c e rfl
  by_cases hc:c∈X.fs
  ·obtain ⟨sl,q⟩:=slot c o (I.cne x c e) hc nch ho (I.freeC x c e)
   exact ⟨_,q,hd⟩
  ·exact ⟨o,keep c o (I.cne x c e) hc nch ho (I.freeC x c e),hd⟩
 refine ⟨I.ok,I.os,hg,⟨fun b o e n hb hx=>?_,fun b o e n hb hx=>?_,fun b o e n hx=>?_,fun b o e hx=>?_,fun b xs e=>tups b xs (I.base.tups b xs e),fun b o xs e=>frzs b o xs (I.base.frzs b o xs e),fun b ps e=>?_⟩,?_,fun x c e=>?_,?_,fun x c e=>?_,fun p hp=>?_,hok,I.len⟩
 ·exact keep b o (neL b o e) hb (neC b o e hx) (I.base.keep b o e n hb hx) (I.base.free b o e n hx)
 ·obtain ⟨sl,e1⟩:=I.base.slot b o e n hb hx
  obtain ⟨sl',e2⟩:=slot b _ (neL b o e) hb (neC b o e hx) e1 (I.base.free b o e n hx)
  exact ⟨sl',e2⟩
 ·obtain ⟨o',e1⟩:=I.base.there b o e hx
  exact free b o' (neC b o e hx) e1 (I.base.free b o e n hx)
 ·obtain ⟨o',e1⟩:=I.base.there b o e hx
  exact there b o' (neC b o e hx) e1
 ·obtain ⟨m1,e1⟩:=I.base.tbls b ps e
  obtain ⟨m2,e2⟩:=tbls b _ e1
  exact ⟨m1++m2,by rw [e2,Array.append_assoc]⟩
 ·obtain ⟨m,hn,hl⟩:=I.loc
  refine ⟨m,ns m hn,fun i x v e1 e2 e3=>?_⟩
  obtain ⟨u,r,l⟩:=hl i x v e1 e2 e3
  refine ⟨u,r,?_⟩
  rcases l with l | ⟨k,c,e,z⟩
  ·exact .inl l
  ·exact .inr ⟨k,c,e,cellK x c e _ z⟩
 ·obtain ⟨v,z⟩:=I.cell x c e
  exact ⟨v,cellK x c e v z⟩
 ·obtain ⟨m,⟨o,_,_,ho,_⟩,_⟩:=I.loc
  exact free _ o (fun z=>(hch _ z).2.1 rfl) ho I.free
 ·obtain ⟨v,o,ho,hd⟩:=I.cell x c e
  exact free c o (fun z=>(hch c z).2.2.1 x c e rfl) ho (I.freeC x c e)
 ·obtain ⟨e,n,ne,nf,d⟩:=I.pin p hp
  have nch:p.1∉ch:=fun z=>(hch p.1 z).2.2.2 p hp rfl
  exact ⟨keep p.1 p.2 ne nf nch e n,free p.1 p.2 nch e n,ne,nf,d⟩
theorem Inv.un {t':Nat} (I:Inv X pins σ H s) (u:Un X.fs [] H H' s.heap h') (hok:HOk X.prog X.w H' h'):Inv X pins σ H' { s with heap:=h',toks:=t' }:=by
 obtain ⟨m,⟨o,es,ep,ho,r⟩,_⟩:=id I.loc
 obtain ⟨sl,hL⟩:=u.any ho I.free (by simp)
 exact I.step (g':=s.gens) (d':=s.drawn) (ch:=[]) (fun _ z=>nomatch z) (fun b o _ hb _ e n=>u.keep b o e n hb (by simp)) (fun b o _ hb _ e n=>u.slot b o e n hb (by simp)) (fun b o _ e n=>u.free b o e n (by simp)) (fun b o _ e=>u.there b o e (by simp)) u.tups u.frzs u.tbls (fun m' hm=>by
  obtain ⟨o',es',ep',ho',r'⟩:=hm
  rw [ho] at ho'; cases ho'
  exact ⟨_,es',ep',hL,r'⟩) hok I.bare
theorem Inv.call {g':Array SD} {t':Nat} {d':Drawn} {ch:List Addr} (I:Inv X pins σ H s) (u:Un (frs X.stack) ch H H' s.heap h') (hok:HOk X.prog X.w H' h') (hg:AllBare g')
  (hch:∀ b∈ch,(b∈X.ex\/X.s₀.heap.objs.size<=b)/\b≠X.env.locals/\(∀ x c,X.env.cells.lookup x=some c->c≠b)/\∀ p∈X.pn++pins,p.1≠b):
  Inv X pins σ H' { s with heap:=h',gens:=g',drawn:=d',toks:=t' }:=by
 obtain ⟨m,⟨o,es,ep,ho,r⟩,_⟩:=id I.loc
 obtain ⟨sl,hL⟩:=u.any ho I.free fun z=>(hch _ z).2.1 rfl
 exact I.step (ch:=ch) hch (fun b o hL hb hc e n=>u.keep b o e n (fun z=>(LI.mp (I.stkSub b z)).elim hL hb) hc) (fun b o _ _ hc e n=>u.any e n hc) (fun b o hc e n=>u.free b o e n hc) (fun b o hc e=>u.there b o e hc) u.tups u.frzs u.tbls (fun m' hm=>by
  obtain ⟨o',es',ep',ho',r'⟩:=hm
  rw [ho] at ho'; cases ho'
  exact ⟨_,es',ep',hL,r'⟩) hok hg
theorem Inv.turned {t':Nat} {it:Addr} (I:Inv X pins σ H s) (k:∀ b o,b≠it->s.heap.get? b=some o->h'.get? b=some o) (hn:H it=none) (hL:it≠X.env.locals)
  (h1:it∈X.ex\/X.s₀.heap.objs.size<=it) (h2:∀ x c,X.env.cells.lookup x=some c->c≠it) (h3:∀ p∈X.pn++pins,p.1≠it):Inv X pins σ H { s with heap:=h',toks:=t' }:=by
 have nit:∀ b u,H b=some u->b≠it:=fun b u e z=>by rw [z,hn] at e; cases e
 refine I.step (g':=s.gens) (d':=s.drawn) (ch:=[it]) (fun b hb=>?_) (fun b o _ _ hc e _=>k b o (fun z=>hc (by simp [z])) e) (fun b o _ _ hc e _=>⟨o.slots,k b o (fun z=>hc (by simp [z])) e⟩) (fun _ _ _ _ n=>n)
  (fun b o hc e=>⟨o,k b o (fun z=>hc (by simp [z])) e⟩) (fun _ _ e=>e) (fun _ _ _ e=>e) (fun b ps e=>⟨#[],by rw [e]; simp⟩) (fun m hm=>?_) (fun b u e=>?_) I.bare
 ·have e:b=it:=by simpa using hb
  subst e
  exact ⟨h1,hL,h2,h3⟩
 ·obtain ⟨o,es,ep,ho,r⟩:=hm
  exact ⟨o,es,ep,k _ o (Na hL) ho,r⟩
 ·refine (I.hok b u e).stay (fun c v hc q=>k c v ?_ q) (fun _ q=>q) fun _ _ q=>q
  rcases hc with z | z
  ·rw [z]; exact nit b u e
  ·exact nit c _ z
theorem Inv.tok (I:Inv X pins σ H s) (t:Nat):Inv X pins σ H { s with toks:=t }:=I.un (h':=s.heap) (t':=t) Un.refl I.hok
theorem Inv.kept {t':Nat} (I:Inv X pins σ H s) (k:∀ b u,s.heap.get? b=some u->h'.get? b=some u):Inv X pins σ H { s with heap:=h',toks:=t' }:=I.un (Un.kept k) (I.hok.kept k)
theorem Inv.laid {a:Addr} {o:HO} {t':Nat} (I:Inv X pins σ H s) (k:∀ b u,s.heap.get? b=some u->h'.get? b=some u) (hp:s.heap.objs.size<=a) (new:bJ X.prog X.w (upd H a o) h' a o):
  Inv X pins σ (upd H a o) { s with heap:=h',toks:=t' }:=I.un (Un.laid k hp (I.hok.fresh hp)) (I.hok.laid k hp new)
theorem Inv.write {x e:Addr} {o:HO} {t':Nat} (I:Inv X pins σ H s) (mu:Mut (H x)) (he:e=x\/H e=some (.own x)) (k:∀ b u,b≠e->s.heap.get? b=some u->h'.get? b=some u) (heo:∃ u,h'.get? e=some u)
  (new:bJ X.prog X.w (upd H x o) h' x o):Inv X pins σ (upd H x o) { s with heap:=h',toks:=t' }:=I.un (Un.write mu he k heo) (I.hok.write mu he k heo new)
theorem Inv.pins_of {pins':List (Addr×Obj)} (I:Inv X pins σ H s) (h:∀ p∈pins',s.heap.get? p.1=some p.2/\H p.1=none/\p.1≠X.env.locals/\p.1∉X.fs/\∀ v,p.2.data≠.cell v):Inv X pins' σ H s:=
 ⟨I.ok,I.os,I.bare,I.base,I.loc,I.cell,I.free,I.freeC,fun p hp=>(Mr.mp hp).elim (fun z=>I.pin p (NV _ z)) (h p),I.hok,I.len⟩
theorem zv {N:List Str} (hN:N.Nodup) {i j:Nat} {x:Str} (a:N[i]?=some x) (b:N[j]?=some x):i=j:=by
 obtain ⟨h1,e1⟩:=LJ.mp a
 obtain ⟨h2,e2⟩:=LJ.mp b
 exact (List.getElem_inj hN).mp (e1.trans e2.symm)
theorem xF {M:Model} {A:Around} {E:Value->Shared->Prop} {i:Nat} {x:Str} {v:V} {u:Value} {Q:Unit->Shared->Prop} (I:Inv X pins σ H s) (hN:X.N.Nodup) (hi:X.N[i]?=some x) (hx:Loc X.env.scope x) (r:aJ v u)
  (h:∀ s',Inv X pins (σ.set i (some v)) H s'->(∃ a,L8 a s.heap s'.heap/\(a=X.env.locals\/X.env.cells.lookup x=some a))->Q () s') (hf:X.fn x=true\/X.env.scope.names.lookup x=some .local:=by first | exact .inl rfl | exact .inr rfl | assumption):wpAny M A (storeName X.env x u) Q E s:=by
 obtain ⟨m,hn,hl⟩:=id I.loc
 have hcls:(X.env.scope.kind == .class || (X.env.scope.kind == .module && X.env.locals != X.env.globals))=false:=by rw [I.ok.kind]; rfl
 have hiσ:i < σ.length:=by rw [I.len]; exact (LJ.mp hi).1
 have cne:=I.cne
 have tracked:∀ {a:Addr} {h':Heap},(∃ o,s.heap.get? a=some o/\H a=none)->L8 a s.heap h'->HOk X.prog X.w H h':=fun {a h'} ha hs b ob e=>by
  obtain ⟨_,_,hfree⟩:=ha
  refine (I.hok b ob e).stay (fun c w' hc q=>(hs.2 c ?_).trans q) (fun _ q=>q) fun _ _ q=>q
  rintro rfl
  rcases hc with rfl | hc
  ·rw [hfree] at e; cases e
  ·rw [hfree] at hc; cases hc
 rcases hx with hk | hk
 ·refine wpAny_storeName_local hk hn (fun h' hn' hs=>?_) hcls
  obtain ⟨oL,_,_,hoL,_⟩:=id hn
  refine h _ ⟨I.ok,I.os,I.bare,⟨fun b o e n hb hx=>?_,fun b o e n hb hx=>?_,I.base.free,fun b o e hx=>?_,I.base.tups,I.base.frzs,I.base.tbls⟩,⟨_,hn',fun j y v' e1 e2 e3=>?_⟩,fun y c e=>?_,I.free,I.freeC,fun p hp=>?_,tracked ⟨oL,hoL,I.free⟩ hs,by simpa using I.len⟩ ⟨_,hs,.inl rfl⟩
  ·exact (hs.2 b (Mn (Mb (LM e) I.ok.above))).trans (I.base.keep b o e n hb hx)
  ·obtain ⟨sl,e1⟩:=I.base.slot b o e n hb hx
   exact ⟨sl,(hs.2 b (Mn (Mb (LM e) I.ok.above))).trans e1⟩
  ·obtain ⟨o',e1⟩:=I.base.there b o e hx
   exact ⟨o',(hs.2 b (Mn (Mb (LM e) I.ok.above))).trans e1⟩
  ·by_cases hj:j=i
   ·subst hj
    rw [hi] at e1; cases e1
    rw [R9 hiσ] at e2
    cases e2
    exact ⟨u,r,.inl ⟨hk,by simp⟩⟩
   ·rw [SE (Na hj)] at e2
    obtain ⟨u',r',q⟩:=hl j y v' e1 e2 e3
    refine ⟨u',r',?_⟩
    rcases q with ⟨k,e⟩ | ⟨k,c,e,z⟩
    ·refine .inl ⟨k,?_⟩
     have:y≠x:=fun e=>hj (zv hN e1 (e ▸ hi))
     simp [this,e]
    ·exact .inr ⟨k,c,e,z.sameBut hs (cne y c e)⟩
  ·obtain ⟨w',z⟩:=I.cell y c e
   exact ⟨w',z.sameBut hs (cne y c e)⟩
  ·obtain ⟨e,n,ne,nf,d⟩:=I.pin p hp
   exact ⟨(hs.2 p.1 ne).trans e,n,ne,nf,d⟩
 ·have hfn:X.fn x=true:=by
   rcases hf with z | z
   ·exact z
   ·rw [z] at hk; cases hk
  obtain ⟨c,hc⟩:=I.ok.has x (.inl hk)
  obtain ⟨w',z⟩:=I.cell x c hc
  refine wpAny_storeName_cell I.ok.kind hk hc z (fun h' hc' hs=>?_)
  obtain ⟨oc,hoc,hocd⟩:=id z
  refine h { s with heap:=h' } ⟨I.ok,I.os,I.bare,⟨fun b o e n hb hx=>?_,fun b o e n hb hx=>?_,I.base.free,fun b o e hx=>?_,I.base.tups,I.base.frzs,I.base.tbls⟩,⟨m,hn.sameBut hs (Na (cne x c hc)),fun j y v' e1 e2 e3=>?_⟩,fun y c' e=>?_,I.free,I.freeC,fun p hp=>?_,tracked ⟨oc,hoc,I.freeC x c hc⟩ hs,by simpa using I.len⟩ ⟨c,hs,.inr hc⟩
  ·exact (hs.2 b (Mn (Mb (LM e) (I.ok.cab x c hfn hc)))).trans (I.base.keep b o e n hb hx)
  ·obtain ⟨sl,e1⟩:=I.base.slot b o e n hb hx
   exact ⟨sl,(hs.2 b (Mn (Mb (LM e) (I.ok.cab x c hfn hc)))).trans e1⟩
  ·obtain ⟨o',e1⟩:=I.base.there b o e hx
   exact ⟨o',(hs.2 b (Mn (Mb (LM e) (I.ok.cab x c hfn hc)))).trans e1⟩
  ·by_cases hj:j=i
   ·subst hj
    rw [hi] at e1; cases e1
    rw [R9 hiσ] at e2
    cases e2
    exact ⟨u,r,.inr ⟨.inl hk,c,hc,hc'⟩⟩
   ·rw [SE (Na hj)] at e2
    obtain ⟨u',r',q⟩:=hl j y v' e1 e2 e3
    refine ⟨u',r',?_⟩
    rcases q with q | ⟨k,c',e,z'⟩
    ·exact .inl q
    ·refine .inr ⟨k,c',e,z'.sameBut hs ?_⟩
     rintro rfl
     exact hj (zv hN e1 (I.ok.inj _ _ _ e hc ▸ hi))
  ·by_cases hcc:c'=c
   ·subst hcc; exact ⟨_,hc'⟩
   ·obtain ⟨w2,z2⟩:=I.cell y c' e
    exact ⟨w2,z2.sameBut hs hcc⟩
  ·obtain ⟨e,n,ne,nf,d⟩:=I.pin p hp
   refine ⟨(hs.2 p.1 ?_).trans e,n,ne,nf,d⟩
   intro q
   rw [q,hoc] at e
   have q':oc=p.2:=LW e
   exact d w' (by rw [<-q']; exact hocd)
theorem zw {M:Model} {A:Around} {E:Value->Shared->Prop} {i:Nat} {x:Str} {v:V} {u:Value} {Q:Unit->Shared->Prop} (I:Inv X pins σ H s) (hN:X.N.Nodup) (hi:X.N[i]?=some x) (hx:Loc X.env.scope x) (r:aJ v u)
  (h:∀ s',Inv X pins (σ.set i (some v)) H s'->Q () s') (hf:X.fn x=true\/X.env.scope.names.lookup x=some .local:=by first | exact .inl rfl | exact .inr rfl | assumption):wpAny M A (storeName X.env x u) Q E s:=
 xF I hN hi hx r (fun s' I' _=>h s' I') hf
theorem Inv.call' {s':Shared} {ch:List Addr} (I:Inv X pins σ H s) (ho:s'.os=s.os) (u:Un (frs X.stack) ch H H' s.heap s'.heap) (hok:HOk X.prog X.w H' s'.heap) (hg:AllBare s'.gens)
  (hch:∀ b∈ch,(b∈X.ex\/X.s₀.heap.objs.size<=b)/\b≠X.env.locals/\(∀ x c,X.env.cells.lookup x=some c->c≠b)/\∀ p∈X.pn++pins,p.1≠b):Inv X pins σ H' s':=by
 obtain ⟨h',g',d',t',o'⟩:=s'
 have e:o'=s.os:=ho
 subst e
 exact I.call (g':=g') (t':=t') (d':=d') u hok hg hch
end
noncomputable abbrev XK:=Value->Option Addr->Hp->Prop
noncomputable abbrev St:=List (Option V)
noncomputable abbrev VK:=V->Hp->Prop
noncomputable abbrev TE:=St->Hp->VK->Prop
noncomputable abbrev TT:=St->Hp->(Bool->Hp->Prop)->Prop
noncomputable abbrev TA:=St->Hp->(List V->Hp->Prop)->Prop
set_option genInjectivity false in
structure jq where
 nx:St->Hp->Prop
 rt:VK
 bk:St->Hp->Prop:=fun _ _=>False
 ct:St->Hp->Prop:=fun _ _=>False
noncomputable abbrev TS:=jq->St->Hp->Prop
noncomputable def EP (X:Cx) (pins:List (Addr×Obj)) (σ:St) (Q:VK) (u:Value) (s':Shared):Prop:=∃ v H',Inv X pins σ H' s'/\aJ v u/\Q v H'
noncomputable def TP (X:Cx) (pins:List (Addr×Obj)) (σ:St) (Q:Bool->Hp->Prop) (b:Bool) (s':Shared):Prop:=∃ H',Inv X pins σ H' s'/\Q b H'
noncomputable def AP (X:Cx) (pins:List (Addr×Obj)) (σ:St) (Q:List V->Hp->Prop) (us:List Value) (s':Shared):Prop:=∃ vs H',Inv X pins σ H' s'/\aH vs us/\Q vs H'
noncomputable def SP (X:Cx) (pins:List (Addr×Obj)) (D:jq) (f:Flow) (s':Shared):Prop:=
 match f with
 | .next=>∃ σ' H',Inv X pins σ' H' s'/\D.nx σ' H'
 | .brk=>∃ σ' H',Inv X pins σ' H' s'/\D.bk σ' H'
 | .cont=>∃ σ' H',Inv X pins σ' H' s'/\D.ct σ' H'
 | .ret u=>∃ v σ' H',Inv X pins σ' H' s'/\aJ v u/\D.rt v H'
noncomputable def PE (X:Cx) (e:Expr) (t:TE):Prop:=
 ∀ (pins:List (Addr×Obj)) (s:Shared) (σ:St) (H:Hp) (Q:VK),Inv X pins σ H s->t σ H Q->wpAny (model X.prog X.w) X.A (eval e X.env) (EP X pins σ Q) X.xe s
noncomputable def PT (X:Cx) (e:Expr) (t:TT):Prop:=
 ∀ (pins:List (Addr×Obj)) (s:Shared) (σ:St) (H:Hp) (Q:Bool->Hp->Prop),Inv X pins σ H s->t σ H Q->wpAny (model X.prog X.w) X.A (isTrue e X.env (eval e X.env)) (TP X pins σ Q) X.xe s
noncomputable def PW (X:Cx) (e:Expr) (t:TT):Prop:=
 ∀ (whole:Sem Value) (pins:List (Addr×Obj)) (s:Shared) (σ:St) (H:Hp) (Q:Bool->Hp->Prop),Inv X pins σ H s->t σ H Q->wpAny (model X.prog X.w) X.A (isTrue e X.env whole) (TP X pins σ Q) X.xe s
theorem PW.pt {X:Cx} {e:Expr} {t:TT} (h:PW X e t):PT X e t:=h _
noncomputable def PA (X:Cx) (es:List Expr) (t:TA):Prop:=
 ∀ (pos:Pos) (pins:List (Addr×Obj)) (s:Shared) (σ:St) (H:Hp) (Q:List V->Hp->Prop),Inv X pins σ H s->t σ H Q->wpAny (model X.prog X.w) X.A (spliced (backTo pos (L9 es X.env))) (AP X pins σ Q) X.xe s
noncomputable def PS (X:Cx) (st:Stmt) (t:TS):Prop:=
 ∀ (pins:List (Addr×Obj)) (s:Shared) (σ:St) (H:Hp) (D:jq),Inv X pins σ H s->t D σ H->wpAny (model X.prog X.w) X.A (exec st X.env) (SP X pins D) X.xe s
noncomputable def PSs (X:Cx) (st:List Stmt) (t:TS):Prop:=
 ∀ (pins:List (Addr×Obj)) (s:Shared) (σ:St) (H:Hp) (D:jq),Inv X pins σ H s->t D σ H->wpAny (model X.prog X.w) X.A (execs st X.env) (SP X pins D) X.xe s
theorem thn {α:Type} {t:Sem α} {Q Q':α->Shared->Prop} {M:Model} {A:Around} {E:Value->Shared->Prop} {s:Shared} (h:wpAny M A t Q E s) (hQ:∀ a s,Q a s->Q' a s):wpAny M A t Q' E s:=Nx h hQ fun _ _ x=>x
end L2
namespace L2
open PySem PySem.Spec PyProof.Rows
section
variable {X:Cx}
noncomputable def ac (i:Nat):TE:=fun σ H Q=>∃ v,σ[i]?=some (some v)/\Q v H
noncomputable def tC (v:V):TE:=fun _ H Q=>Q v H
theorem Eb {i:Nat} {x:Str} {pos:Pos} (hN:X.N[i]?=some x) (hv:Vis X.env.scope x) (hd:(x == ("__debug__":Str))=false:=by decide) (hcd:(x == ("__classdict__":Str))=false:=by decide):PE X (.Name x pos) (ac i):=by
 intro pins s σ H Q I h
 obtain ⟨v,e,h⟩:=h
 obtain ⟨m,hn,hl⟩:=I.loc
 obtain ⟨u,r,l⟩:=hl i x v hN e hv
 have fin:EP X pins σ Q u s:=⟨v,H,I,r,h⟩
 rcases l with ⟨hk,hm⟩ | ⟨hk,c,hc,hcell⟩
 ·exact Uz (wpAny_loadName_local I.ok.kind hk hn hm fin) hd
 ·rcases hk with hk | hk
  ·exact Uz (wpAny_loadName_cell I.ok.kind hk hc hcell fin) hd
  ·exact Uz (wpAny_loadName_free I.ok.kind hk hc hcell fin hcd) hd
theorem ao {i j pos}:PE X (.Constant (.int i) j pos) (tC (.int i)):=fun _ _ _ H _ I h=>wpAny_Constant_int ⟨.int i,H,I.tok _,⟨_,rfl⟩,h⟩
theorem cC {b j pos}:PE X (.Constant (.bool b) j pos) (tC (.bl b)):=fun _ _ _ H _ I h=>Constant_bool ⟨.bl b,H,I,rfl,h⟩
theorem ug {j pos}:PE X (.Constant .none j pos) (tC .non):=fun _ _ _ H _ I h=>Constant_none ⟨.non,H,I,rfl,h⟩
theorem aY {x j pos}:PE X (.Constant (.str x) j pos) (tC (.str x)):=fun _ _ _ H _ I h=>Calls.Constant_str ⟨.str x,H,I.tok _,⟨_,rfl⟩,h⟩
noncomputable def Gl (X:Cx) (x:Str):Prop:=X.env.kindOf x=some .globalImplicit
theorem ww {E:Value->Shared->Prop} {pins:List (Addr×Obj)} {s:Shared} {σ:St} {H:Hp} {x:Str} {u:Value} {pos:Pos} {Q:Value->Shared->Prop} (I:Inv X pins σ H s) (hg:Gl X x) (hm:X.mg x=some u) (h:Q u s)
  (hd:(x == ("__debug__":Str))=false:=by decide):wpAny (model X.prog X.w) X.A (eval (.Name x pos) X.env) Q E s:=
 Q2 I.ok.kind hg (Calls.loadGlobal_global (by rw [I.ok.glob]; exact I.mod.glob.keeps I.bk) hm h) hd
theorem gb {E:Value->Shared->Prop} {pins:List (Addr×Obj)} {s:Shared} {σ:St} {H:Hp} {x:Str} {u:Value} {pos:Pos} {Q:Value->Shared->Prop} (I:Inv X pins σ H s) (hg:Gl X x) (hm:X.mg x=none) (hv:Pq x=some u) (h:Q u s)
  (hn:x≠"__name__":=by decide) (hd:(x == ("__debug__":Str))=false:=by decide):wpAny (model X.prog X.w) X.A (eval (.Name x pos) X.env) Q E s:=by
 obtain ⟨mb,h1,h2⟩:=I.mod.blt
 exact Q2 I.ok.kind hg (Calls.loadGlobal_builtin (by rw [I.ok.glob]; exact I.mod.glob.keeps I.bk) hm (by rw [I.ok.blt]; exact h1.keeps I.bk) ((h2 x hn).trans hv) h) hd
theorem jr {x:Str} {v:V} {u:Value} {pos:Pos} (hg:Gl X x) (hm:X.mg x=some u) (r:aJ v u) (hd:(x == ("__debug__":Str))=false:=by decide):PE X (.Name x pos) (tC v):=
 fun _ _ _ H _ I h=>ww I hg hm ⟨v,H,I,r,h⟩ hd
theorem gy {x:Str} {v:V} {u:Value} {pos:Pos} (hg:Gl X x) (hm:X.mg x=none) (hv:Pq x=some u) (r:aJ v u) (hn:x≠"__name__":=by decide) (hd:(x == ("__debug__":Str))=false:=by decide):PE X (.Name x pos) (tC v):=
 fun _ _ _ H _ I h=>gb I hg hm hv ⟨v,H,I,r,h⟩ hn hd
variable {a b:Expr} {ta tb:TE} {pos:Pos}
noncomputable def tB (t:TE):TT:=fun σ H Q=>t σ H fun x H1=>∃ c,x=.bl c/\Q c H1
theorem cx {e:Expr} {t:TE} (h:PE X e t) (he:∀ whole,isTrue e X.env whole=(do let v <-whole; standAt e.pos; holding [v] (truthy v)):=by intro _; rfl):PT X e (tB t):=by
 intro pins s σ H Q I hw
 refine isTrue_plain (thn (h pins s σ H _ I hw) fun v s1 ⟨x,H1,I1,r1,q1⟩=>?_) (he _)
 obtain ⟨d,rfl,q⟩:=q1
 cases r1
 exact NB ⟨H1,I1,q⟩
variable {tA tB':TT} {cF:List Expr}
noncomputable def qc (t u:TT):TT:=fun σ H Q=>t σ H fun c H1=>if c=true then u σ H1 Q else Q false H1
noncomputable def tOr (t u:TT):TT:=fun σ H Q=>t σ H fun c H1=>if c=true then Q true H1 else u σ H1 Q
noncomputable def fS (t:TT):TT:=fun σ H Q=>t σ H fun c H1=>Q (!c) H1
theorem nn (ha:PT X a tA):PW X (.BoolOp .And [a] pos) tA:=by
 intro wh pins s σ H Q I h
 refine isTrue_and (thn (ha pins s σ H Q I h) fun c s1 e=>?_)
 cases c with
 | true=>exact isTrue_and_nil e
 | false=>exact e
theorem jZ (ha:PT X a tA):PW X (.BoolOp .Or [a] pos) tA:=by
 intro wh pins s σ H Q I h
 refine isTrue_or (thn (ha pins s σ H Q I h) fun c s1 e=>?_)
 cases c with
 | false=>exact isTrue_or_nil e
 | true=>exact e
theorem np (ha:PT X a tA) (hb:PW X (.BoolOp .And (b :: cF) pos) tB'):PW X (.BoolOp .And (a :: b :: cF) pos) (qc tA tB'):=by
 intro wh pins s σ H Q I h
 refine isTrue_and (thn (ha pins s σ H _ I h) fun c s1 ⟨H1,I1,q1⟩=>?_)
 cases c with
 | true=>exact hb wh pins s1 σ H1 Q I1 q1
 | false=>exact ⟨H1,I1,q1⟩
theorem lU (ha:PT X a tA) (hb:PW X (.BoolOp .Or (b :: cF) pos) tB'):PW X (.BoolOp .Or (a :: b :: cF) pos) (tOr tA tB'):=by
 intro wh pins s σ H Q I h
 refine isTrue_or (thn (ha pins s σ H _ I h) fun c s1 ⟨H1,I1,q1⟩=>?_)
 cases c with
 | true=>exact ⟨H1,I1,q1⟩
 | false=>exact hb wh pins s1 σ H1 Q I1 q1
theorem dD (ha:PT X a tA):PT X (.UnaryOp .Not a pos) (fS tA):=by
 intro pins s σ H Q I h
 exact isTrue_not (ha pins s σ H (fun c H1=>Q (!c) H1) I h)
noncomputable def on (ta tb:TE):TE:=fun σ H Q=>ta σ H fun x H1=>∃ c,x=.bl c/\if c=true then tb σ H1 Q else Q (.bl false) H1
noncomputable def FM (ta tb:TE):TE:=fun σ H Q=>ta σ H fun x H1=>∃ c,x=.bl c/\if c=true then Q (.bl true) H1 else tb σ H1 Q
noncomputable def yX (ta:TE):TE:=fun σ H Q=>ta σ H fun x H1=>∃ c,x=.bl c/\Q (.bl (!c)) H1
theorem nu {op} {t:TE} (h:PE X a t):PE X (.BoolOp op [a] pos) t:=fun pins s σ H Q I hw=>BoolOp_one (h pins s σ H Q I hw)
theorem qd (ha:PE X a ta) (hb:PE X (.BoolOp .And (b :: cF) pos) tb):PE X (.BoolOp .And (a :: b :: cF) pos) (on ta tb):=by
 intro pins s σ H Q I h
 refine BoolOp_and (thn (ha pins s σ H _ I h) fun v s1 ⟨x,H1,I1,r1,q1⟩=>?_)
 obtain ⟨c,rfl,q1⟩:=q1
 cases r1
 refine NB ?_
 cases c with
 | true=>exact hb pins s1 σ H1 Q I1 q1
 | false=>exact ⟨.bl false,H1,I1,rfl,q1⟩
theorem KH (ha:PE X a ta) (hb:PE X (.BoolOp .Or (b :: cF) pos) tb):PE X (.BoolOp .Or (a :: b :: cF) pos) (FM ta tb):=by
 intro pins s σ H Q I h
 refine BoolOp_or (thn (ha pins s σ H _ I h) fun v s1 ⟨x,H1,I1,r1,q1⟩=>?_)
 obtain ⟨c,rfl,q1⟩:=q1
 cases r1
 refine NB ?_
 cases c with
 | false=>exact hb pins s1 σ H1 Q I1 q1
 | true=>exact ⟨.bl true,H1,I1,rfl,q1⟩
theorem Ec (ha:PE X a ta):PE X (.UnaryOp .Not a pos) (yX ta):=by
 intro pins s σ H Q I h
 refine UnaryOp_ (thn (ha pins s σ H _ I h) fun v s1 ⟨x,H1,I1,r1,q1⟩=>?_)
 obtain ⟨c,rfl,q1⟩:=q1
 cases r1
 exact not_of (NB ⟨.bl (!c),H1,I1,rfl,q1⟩)
noncomputable def tIf (t:TT) (ta tb:TE):TE:=fun σ H Q=>t σ H fun c H1=>if c=true then ta σ H1 Q else tb σ H1 Q
theorem FN {c:Expr} (hc:PT X c tA) (ha:PE X a ta) (hb:PE X b tb):PE X (.IfExp c a b pos) (tIf tA ta tb):=by
 intro pins s σ H Q I h
 refine wpAny_IfExp (thn (hc pins s σ H _ I h) fun d s1 ⟨H1,I1,q1⟩=>?_)
 cases d with
 | true=>exact ha pins s1 σ H1 Q I1 q1
 | false=>exact hb pins s1 σ H1 Q I1 q1
end
end L2
namespace L2
open PySem PySem.Spec PyProof.Rows
noncomputable def SqL (K:Fg) (H:Hp) (a:Addr) (xs:List V):Prop:=
 Rd H a (.lst xs)\/
  ∃ (o:Obj) (its:Array Value) (n:Nat),K.lookup a=some o/\o.cls=.type "list"/\o.dict=none/\o.data=.seq its n/\its.size<=LS/\aH xs its.toList
noncomputable def SqT (K:Fg) (H:Hp) (a:Addr) (xs:List V):Prop:=
 Rd H a (.tup xs)\/
  ∃ (o:Obj) (its:Array Value) (n:Nat),K.lookup a=some o/\o.cls=.type "tuple"/\o.data=.seq its n/\its.size<=LS/\aH xs its.toList
noncomputable def Lj:Value->Option V
 | .none=>some .non
 | .bool b=>some (.bl b)
 | .int i _=>some (.int i)
 | .str x _=>some (.str x)
 | .bytes b _=>some (.byt b)
 | .float b _=>some (.flt b)
 | .ref a=>some (.ref a)
 | .type n=>some (.ty n)
 | _=>none
theorem aJ.abs {x:V} {u:Value} (r:aJ x u):Lj u=some x:=by
 cases x with
 | non=>cases r; rfl
 | bl _=>cases r; rfl
 | int _=>obtain ⟨t,rfl⟩:=r; rfl
 | str _=>obtain ⟨t,rfl⟩:=r; rfl
 | byt _=>obtain ⟨t,rfl⟩:=r; rfl
 | flt _=>obtain ⟨t,rfl⟩:=r; rfl
 | ref _=>cases r; rfl
 | ty _=>cases r; rfl
theorem aJ.inj {x y:V} {u:Value} (r:aJ x u) (q:aJ y u):x=y:=LW (r.abs.symm.trans q.abs)
theorem aH.inj {xs ys:List V} {us:List Value} (h:aH xs us):aH ys us->xs=ys:=by
 induction h generalizing ys with
 | nil=>intro h; cases h; rfl
 | cons r t ih=>intro h; cases h with
  | cons r' t'=>rw [r.inj r',ih t']
section
variable {X:Cx} {pins:List (Addr×Obj)} {σ:St} {H:Hp} {s:Shared} {a:Addr} {xs ys:List V}
theorem SqL.of {K:Fg} (h:H a=some (.lst xs)):SqL K H a xs:=.inl (.inl h)
theorem SqT.of {K:Fg} (h:H a=some (.tup xs)):SqT K H a xs:=.inl (.inl h)
theorem Inv.list (I:Inv X pins σ H s) (h:SqL X.K H a xs):∃ its:List Value,aH xs its/\PlainL s.heap a its.toArray/\xs.length<=LS:=by
 rcases h with h | ⟨o,its,n,hk,hc,hd,hs,hz,r⟩
 ·obtain ⟨z,its,n,r,e⟩:=h.ok I.hok
  exact ⟨its,r,⟨_,n,e,rfl,rfl,rfl⟩,z⟩
 ·refine ⟨its.toList,r,⟨o,n,I.kIn a o hk,hc,hd,by simpa using hs⟩,?_⟩
  have e:=r.length
  simp only [Mp] at e
  omega
theorem Inv.tuple (I:Inv X pins σ H s) (h:SqT X.K H a xs):∃ its:List Value,aH xs its/\IsTup s.heap a its.toArray/\xs.length<=LS:=by
 rcases h with h | ⟨o,its,n,hk,hc,hs,hz,r⟩
 ·obtain ⟨z,its,r,p⟩:=h.ok I.hok
  exact ⟨its,r,p.tup,z⟩
 ·refine ⟨its.toList,r,⟨o,I.kIn a o hk,hc,n,by simpa using hs⟩,?_⟩
  have e:=r.length
  simp only [Mp] at e
  omega
theorem Inv.list_inj (I:Inv X pins σ H s) (h:SqL X.K H a xs) (h':SqL X.K H a ys):xs=ys:=by
 obtain ⟨its,r,⟨o,n,e,_,_,d⟩,_⟩:=I.list h
 obtain ⟨its',r',⟨o',n',e',_,_,d'⟩,_⟩:=I.list h'
 rw [e] at e'; cases e'
 rw [d] at d'
 injection d' with d1 _
 have:its=its':=by simpa using congrArg Array.toList d1
 subst this
 exact r.inj r'
theorem Inv.tuple_inj (I:Inv X pins σ H s) (h:SqT X.K H a xs) (h':SqT X.K H a ys):xs=ys:=by
 obtain ⟨its,r,⟨o,e,_,n,d⟩,_⟩:=I.tuple h
 obtain ⟨its',r',⟨o',e',_,n',d'⟩,_⟩:=I.tuple h'
 rw [e] at e'; cases e'
 rw [d] at d'
 injection d' with d1 _
 have:its=its':=by simpa using congrArg Array.toList d1
 subst this
 exact r.inj r'
end
noncomputable abbrev Cx.wish (X:Cx) (E:Value->Shared->Prop):Cx:={ X with xe:=E }
noncomputable abbrev Cx.nox (X:Cx):Cx:=X.wish fun _ _=>False
theorem Cx.Ok.wish {X:Cx} (ok:X.Ok) (E:Value->Shared->Prop):(X.wish E).Ok:=
 ⟨ok.mod,ok.kind,ok.glob,ok.blt,ok.above,ok.inj,ok.has,ok.cab,ok.hd,ok.frames,ok.stk,ok.exf,ok.bs,ok.bsz,ok.noex,ok.exfs,ok.funs,ok.frf⟩
theorem Cx.Ok.unwish {X:Cx} {E:Value->Shared->Prop} (ok:(X.wish E).Ok):X.Ok:=
 ⟨ok.mod,ok.kind,ok.glob,ok.blt,ok.above,ok.inj,ok.has,ok.cab,ok.hd,ok.frames,ok.stk,ok.exf,ok.bs,ok.bsz,ok.noex,ok.exfs,ok.funs,ok.frf⟩
section
variable {X:Cx} {pins:List (Addr×Obj)} {σ:St} {H:Hp} {s:Shared} {E:Value->Shared->Prop}
theorem Inv.wish (I:Inv X pins σ H s) (E:Value->Shared->Prop):Inv (X.wish E) pins σ H s:=⟨I.ok.wish E,I.os,I.bare,I.base,I.loc,I.cell,I.free,I.freeC,I.pin,I.hok,I.len⟩
theorem Inv.unwish (I:Inv (X.wish E) pins σ H s):Inv X pins σ H s:=⟨I.ok.unwish,I.os,I.bare,I.base,I.loc,I.cell,I.free,I.freeC,I.pin,I.hok,I.len⟩
theorem SP.unwish {D:jq} {f:Flow} {s':Shared} (h:SP (X.wish E) pins D f s'):SP X pins D f s':=by
 cases f with
 | next=>obtain ⟨σ',H',I,q⟩:=h; exact ⟨σ',H',I.unwish,q⟩
 | brk=>obtain ⟨σ',H',I,q⟩:=h; exact ⟨σ',H',I.unwish,q⟩
 | cont=>obtain ⟨σ',H',I,q⟩:=h; exact ⟨σ',H',I.unwish,q⟩
 | ret u=>obtain ⟨v,σ',H',I,r,q⟩:=h; exact ⟨v,σ',H',I.unwish,r,q⟩
theorem PSs.nox {st:List Stmt} {t:TS} (h:PSs X.nox st t):PSs X st t:=fun pins s σ H D I hw=>
 Nx (h pins s σ H D (I.wish _) hw) (fun _ _ q=>q.unwish) fun _ _ z=>Oc z
end
section
variable {X:Cx} {st:Stmt} {cF:List Stmt} {t u:TS} {e:Expr} {te:TE} {pos:Pos}
noncomputable def aZ:TS:=fun D σ H=>D.nx σ H
noncomputable def ap (t u:TS):TS:=fun D σ H=>t { D with nx:=u D } σ H
theorem aM:PSs X [] aZ:=fun _ _ σ H _ I h=>Qk ⟨σ,H,I,h⟩
theorem ag (h1:PS X st t) (h2:PSs X cF u):PSs X (st :: cF) (ap t u):=by
 intro pins s σ H D I h
 refine Ud (thn (h1 pins s σ H { D with nx:=u D } I h) fun f s1 q=>?_)
 cases f with
 | next=>
  obtain ⟨σ',H',I',q⟩:=q
  exact h2 pins s1 σ' H' D I' q
 | ret v=>exact q
 | brk=>exact q
 | cont=>exact q
theorem ai (h1:PS X st t):PSs X [st] t:=by
 intro pins s σ H D I h
 refine Ud (thn (h1 pins s σ H D I h) fun f s1 q=>?_)
 cases f with
 | next=>exact Qk q
 | ret v=>exact q
 | brk=>exact q
 | cont=>exact q
noncomputable def JE:TS:=fun D σ H=>D.bk σ H
noncomputable def KI:TS:=fun D σ H=>D.ct σ H
theorem Inv.quiet {pins:List (Addr×Obj)} {σ:St} {H:Hp} {s:Shared} (I:Inv X pins σ H s):interactive X.env=false:=by simp [interactive,I.ok.kind]
noncomputable def ee (te:TE):TS:=fun D σ H=>te σ H fun _ H1=>D.nx σ H1
theorem cU (he:PE X e te) (hs:Tf e none pos.line X.env=pure false:=by rfl):PS X (.Expr e pos) (ee te):=by
 intro pins s σ H D I h
 exact wpAny_Expr_any (thn (he pins s σ H _ I h) fun v s1 ⟨x,H1,I1,r1,q1⟩=>⟨σ,H1,I1,q1⟩) I.quiet hs
noncomputable def aI (te:TE):TS:=fun D σ H=>te σ H D.rt
theorem aw (he:PE X e te):PS X (.Return (some e) pos) (aI te):=by
 intro pins s σ H D I h
 exact wpAny_Return_some (thn (he pins s σ H _ I h) fun v s1 ⟨x,H1,I1,r1,q1⟩=>⟨x,σ,H1,I1,r1,q1⟩)
noncomputable def KJ:TS:=fun D _ H=>D.rt .non H
noncomputable def bq (c:TT) (t u:TS):TS:=fun D σ H=>c σ H fun b H1=>if b=true then t D σ H1 else u D σ H1
theorem bf {c:Expr} {a b:List Stmt} {tc:TT} (hc:PT X c tc) (ha:PSs X a t) (hb:PSs X b u):PS X (.If c a b pos) (bq tc t u):=by
 intro pins s σ H D I h
 refine wpAny_If (thn (hc pins s σ H _ I h) fun d s1 ⟨H1,I1,q1⟩=>?_)
 cases d with
 | true=>exact ha pins s1 σ H1 D I1 q1
 | false=>exact hb pins s1 σ H1 D I1 q1
noncomputable def qe:TS:=fun _ _ _=>False
theorem oo:PS X st qe:=fun _ _ _ _ _ _ h=>h.elim
end
noncomputable abbrev TG:=V->St->Hp->(St->Hp->Prop)->Prop
noncomputable abbrev TGs:=List V->St->Hp->(St->Hp->Prop)->Prop
noncomputable def PG (X:Cx) (target:Expr) (t:TG):Prop:=
 ∀ (pins:List (Addr×Obj)) (s:Shared) (σ:St) (H:Hp) (v:V) (u:Value) (Q:St->Hp->Prop),Inv X pins σ H s->aJ v u->t v σ H Q->
  wpAny (model X.prog X.w) X.A (assign target X.env u) (fun _ s'=>∃ σ' H',Inv X pins σ' H' s'/\Q σ' H') X.xe s
noncomputable def PGs (X:Cx) (ts:List Expr) (t:TGs):Prop:=
 ∀ (pins:List (Addr×Obj)) (s:Shared) (σ:St) (H:Hp) (vs:List V) (us:List Value) (Q:St->Hp->Prop),Inv X pins σ H s->aH vs us->t vs σ H Q->
  wpAny (model X.prog X.w) X.A (assignInOrder ((Ql ts X.env).map (·.2)) us) (fun _ s'=>∃ σ' H',Inv X pins σ' H' s'/\Q σ' H') X.xe s
noncomputable abbrev Cl:=V->V->V->Hp->(Hp->Prop)->Prop
noncomputable def FO (X:Cx) (t:Cl):Prop:=
 ∀ (pins:List (Addr×Obj)) (s:Shared) (σ:St) (H:Hp) (o i v:V) (ov iv u:Value) (Q:Hp->Prop),Inv X pins σ H s->aJ o ov->aJ i iv->aJ v u->t o i v H Q->
  wpAny (model X.prog X.w) X.A (setItem ov iv u) (fun _ s'=>∃ H',Inv X pins σ H' s'/\Q H') X.xe s
section
variable {X:Cx} {pos:Pos}
noncomputable def aj (i:Nat):TG:=fun v σ H Q=>Q (σ.set i (some v)) H
theorem ax {i:Nat} {x:Str} (hN:X.N.Nodup) (hi:X.N[i]?=some x) (hx:Loc X.env.scope x) (hf:X.fn x=true\/X.env.scope.names.lookup x=some .local:=by first | exact .inl rfl | exact .inr rfl | assumption):PG X (.Name x pos) (aj i):=by
 intro pins s σ H v u Q I r h
 exact Tz (zw I hN hi hx r (fun s' I'=>⟨_,H,I',h⟩) hf)
noncomputable def im:TGs:=fun vs σ H Q=>vs=[]/\Q σ H
noncomputable def bW (t:TG) (u:TGs):TGs:=fun vs σ H Q=>∃ v r,vs=v :: r/\t v σ H fun σ' H'=>u r σ' H' Q
theorem dM:PGs X [] im:=by
 intro pins s σ H vs us Q I r h
 obtain ⟨e,h⟩:=h
 subst e
 cases r
 exact assignInOrder_nil ⟨σ,H,I,h⟩
theorem bg {e:Expr} {es:List Expr} {t:TG} {u:TGs} (h1:PG X e t) (h2:PGs X es u)
  (hs:(Ql (e :: es) X.env).map (·.2)=assign e X.env :: (Ql es X.env).map (·.2):=by rfl):PGs X (e :: es) (bW t u):=by
 intro pins s σ H vs us Q I r h
 obtain ⟨v,vr,e1,h⟩:=h
 subst e1
 cases r with
 | cons r rr=>
  rw [hs]
  refine assignInOrder_cons (thn (h1 pins s σ H _ _ _ I r h) fun _ s1 ⟨σ1,H1,I1,q1⟩=>?_)
  exact h2 pins s1 σ1 H1 _ _ Q I1 rr q1
noncomputable def ip (K:Fg) (n:Nat) (t:TGs):TG:=fun v σ H Q=>∃ a xs,v=.ref a/\SqT K H a xs/\xs.length=n/\t xs σ H Q
theorem eR {es:List Expr} {k:Nat} {t:TGs} {n:Nat} (hc:X.calm=true) (h:PGs X es t)
  (hn:(Ql es X.env).length=n:=by rfl) (hst:(Ql es X.env).findIdx? (·.1)=none:=by rfl):PG X (.Tuple es k pos) (ip X.K n t):=by
 intro pins s σ H v u Q I r hw
 obtain ⟨a,xs,e1,hq,hl,hw⟩:=hw
 subst e1
 cases r
 obtain ⟨its,rv,ht,hz⟩:=I.tuple hq
 refine assign_Tuple_tuple (I.ok.hd hc) ht (by simp [hn,<-hl,rv.length]) hst fun h' hx=>?_
 have I1:Inv X pins σ H { s with heap:=h' }:=I.kept (t':=s.toks) fun b o e=>hx b o (Mn (LM e)) e
 exact h pins _ σ H xs _ Q I1 (by simpa using rv) hw
noncomputable def oq (to ti:TE) (t:Cl):TG:=fun v σ H Q=>to σ H fun o H1=>ti σ H1 fun i H2=>t o i v H2 fun H3=>Q σ H3
theorem nv {o i:Expr} {to ti:TE} {t:Cl} (ho:PE X o to) (hi:PE X i ti) (hs:FO X t)
  (ha:∀ v,assign (.Subscript o i pos) X.env v=(do
   let ov <-holding [v] (eval o X.env)
   let iv <-holding [v,ov] (eval i X.env)
   standAt pos
   holding [v,ov,iv] (setItem ov iv v)
   release [v,ov,iv] []):=by intro _; rfl):PG X (.Subscript o i pos) (oq to ti t):=by
 intro pins s σ H v u Q I r h
 rw [ha]
 refine LA (MR (thn (ho pins s σ H _ I h) fun ov s1 ⟨x,H1,I1,r1,q1⟩=>?_))
 refine LA (MR (thn (hi pins s1 σ H1 _ I1 q1) fun iv s2 ⟨y,H2,I2,r2,q2⟩=>?_))
 refine LA (Q3 (LA (MR (thn (hs pins s2 σ H2 x y v ov iv u _ I2 r1 r2 r q2) fun _ s3 ⟨H3,I3,q3⟩=>?_))))
 exact wpAny_release ⟨σ,H3,I3,q3⟩
noncomputable def aE (te:TE) (g:TG):TS:=fun D σ H=>te σ H fun x H1=>g x σ H1 D.nx
theorem lc {tg e:Expr} {te:TE} {g:TG} (he:PE X e te) (hg:PG X tg g) (hs:swapsWithSole [tg] e pos.line X.env=pure false:=by rfl) (hw:swappedStores [tg] e X.env=pure none:=by rfl)
  (h1:(Ql [tg] X.env).map (·.2)=[assign tg X.env]:=by rfl):PS X (.Assign [tg] e pos) (aE te g):=by
 intro pins s σ H D I h
 refine wpAny_Assign_stores (thn (he pins s σ H _ I h) fun v s1 ⟨x,H1,I1,r1,q1⟩=>?_) hs hw
 rw [h1]
 exact thn (hg pins s1 σ H1 x v _ I1 r1 q1) fun _ s2 q=>q
theorem ay {i:Nat} {x:Str} {e:Expr} {te:TE} {pos':Pos} (hN:X.N.Nodup) (hi:X.N[i]?=some x) (hx:Loc X.env.scope x) (he:PE X e te) (hs:Tf e (some (.Name x pos')) pos.line X.env=pure false:=by rfl) (hf:X.fn x=true\/X.env.scope.names.lookup x=some .local:=by first | exact .inl rfl | exact .inr rfl | assumption):
  PS X (.Assign [.Name x pos'] e pos) (aE te (aj i)):=by
 intro pins s σ H D I h
 refine wpAny_Assign_Name (thn (he pins s σ H _ I h) fun v s1 ⟨y,H1,I1,r1,q1⟩=>?_) hs
 exact zw I1 hN hi hx r1 (fun s2 I2=>⟨_,H1,I2,q1⟩) hf
end
section
variable {X:Cx} {pos:Pos}
noncomputable def lf (c:TT) (tb:TS):TS:=fun D σ H=>∃ W:Nat->St->Hp->Prop,(∃ m,W m σ H)/\∀ m σ H,W m σ H->
 c σ H fun b H1=>if b=true then ∃ N:St->Hp->Prop,(∀ σ' H',N σ' H'->∃ m',m' < m/\W m' σ' H')/\tb { D with nx:=N,ct:=N,bk:=D.nx } σ H1 else D.nx σ H1
theorem ou {c:Expr} {body:List Stmt} {tc:TT} {tb:TS} (hp:Mt (model X.prog X.w) X.A X.env X.xe) (hc:PT X c tc) (hb:PSs X body tb):PS X (.While c body [] pos) (lf tc tb):=by
 intro pins s σ H D I h
 obtain ⟨W,⟨m0,w0⟩,turn⟩:=h
 refine wpAny_While (codeAny_whileLoop (fun n s'=>∃ σ' H',Inv X pins σ' H' s'/\W n σ' H') ?_ m0 ⟨σ,H,I,w0⟩)
 rintro n s1 ⟨σ1,H1,I1,w1⟩
 refine OA hp (thn (hc pins s1 σ1 H1 _ I1 (turn n σ1 H1 w1)) fun b s2 ⟨H2,I2,q2⟩=>?_)
 cases b with
 | true=>
  obtain ⟨N,hN,q2⟩:=q2
  rw [if_pos rfl]
  refine OA hp (thn (hb pins s2 σ1 H2 _ I2 q2) fun f s3 q3=>?_)
  cases f with
  | next=>
   obtain ⟨σ3,H3,I3,n3⟩:=q3
   obtain ⟨m',hm,w3⟩:=hN σ3 H3 n3
   exact ⟨m',hm,σ3,H3,I3,w3⟩
  | cont=>
   obtain ⟨σ3,H3,I3,n3⟩:=q3
   obtain ⟨m',hm,w3⟩:=hN σ3 H3 n3
   exact ⟨m',hm,σ3,H3,I3,w3⟩
  | brk=>exact q3
  | ret v=>exact q3
 | false=>
  rw [if_neg LR]
  exact Qk ⟨σ1,H2,I2,q2⟩
end
set_option genInjectivity false in
structure It where
 go:Nat->Hp->Prop
 yld:Nat->Hp->V->Hp->Prop
 stop:Nat->Hp->Prop
noncomputable def kd (X:Cx) (pins:List (Addr×Obj)) (H:Hp) (b:Addr):Prop:=
 H b=none/\b≠X.env.locals/\b∉X.fs/\(b∈X.ex\/X.s₀.heap.objs.size<=b)/\(∀ x c,X.env.cells.lookup x=some c->c≠b)/\∀ p∈X.pn++pins,p.1≠b
theorem Inv.fpOk {X:Cx} {pins:List (Addr×Obj)} {σ:St} {H H':Hp} {s:Shared} {b:Addr} (I:Inv X pins σ H s) (hb:s.heap.objs.size<=b) (hn:H' b=none):kd X pins H' b:=by
 refine ⟨hn,N9 (Mb I.lt hb),I.nofs hb,.inr (Mq I.sz hb),fun x c e z=>?_,fun p hp z=>?_⟩
 ·obtain ⟨v,q⟩:=I.cell x c e
  exact absurd (Mb q.lt (by rw [z]; exact hb)) (MV _)
 ·exact absurd (Mb (LM (I.pin p hp).1) (by rw [z]; exact hb)) (MV _)
structure sT (P:Program) (w:World) (K:Fg) (tg:Expr) (J:It) (fp:List Addr) (it:Addr) (tn:Nat->Heap->Prop):Prop where
 mem:it∈fp
 obj:∀ i h,tn i h->∀ b∈fp,∃ o,h.get? b=some o/\∀ v,o.data≠.cell v
 keep:∀ i h h',tn i h->(∀ b∈fp,∀ o,h.get? b=some o->h'.get? b=some o)->tn i h'
 item:∀ (X:Cx),X.prog=P->X.w=w->X.K=K->X.calm=true->∀ (i:Nat) (pins:List (Addr×Obj)) (s:Shared) (σ:St) (H:Hp) (E:Value->Shared->Prop),Inv X pins σ H s->(∀ b∈fp,kd X pins H b)->tn i s.heap->J.go i H->
  wpAny (model P w) X.A (pyNext (.ref it)) (fun r s1=>∃ u,r=some u/\
   wpAny (model P w) X.A (Qm tg (.ref it) u) (fun _ s2=>∃ x H',Inv X pins σ H' s2/\aJ x u/\J.yld i H x H'/\tn (i + 1) s2.heap/\∀ b∈fp,H' b=none) E s1) E s
 done:∀ (X:Cx),X.prog=P->X.w=w->X.K=K->X.calm=true->∀ (i:Nat) (pins:List (Addr×Obj)) (s:Shared) (σ:St) (H:Hp) (E:Value->Shared->Prop),Inv X pins σ H s->(∀ b∈fp,kd X pins H b)->tn i s.heap->J.stop i H->
  wpAny (model P w) X.A (pyNext (.ref it)) (fun r s1=>r=none/\Inv X pins σ H s1) E s
 self:∀ (A:Around) (i:Nat) (s:Shared) (Q:Value->Shared->Prop) (E:Value->Shared->Prop),tn i s.heap->Q (.ref it) s->wpAny (model P w) A (pyIter (.ref it)) Q E s
noncomputable abbrev TI:=St->Hp->(It->Hp->Prop)->Prop
noncomputable def PIE (X:Cx) (pins:List (Addr×Obj)) (σ:St) (tg:Expr) (R:It->Hp->Prop) (itv:Value) (s2:Shared):Prop:=
 ∃ (it:Addr) (fp:List Addr) (tn:Nat->Heap->Prop) (J:It) (H':Hp),itv=.ref it/\Inv X pins σ H' s2/\sT X.prog X.w X.K tg J fp it tn/\tn 0 s2.heap/\(∀ b∈fp,kd X pins H' b)/\R J H'
noncomputable def PI (X:Cx) (tg iter:Expr) (wi:TI):Prop:=
 ∀ (pins:List (Addr×Obj)) (s:Shared) (σ:St) (H:Hp) (R:It->Hp->Prop),Inv X pins σ H s->wi σ H R->
  wpAny (model X.prog X.w) X.A (eval iter X.env) (fun v s1=>wpAny (model X.prog X.w) X.A (pyIter v) (PIE X pins σ tg R) X.xe s1) X.xe s
theorem Cm {M : Model} {A : Around} {E : Value → Shared → Prop} {s : Shared} {tg : Expr} {it : Addr} {u : Value} {o : Obj} {n : String} {vs : Array Value} {Q : Unit → Shared → Prop} (ho : s.heap.get? it = some o) (hc : o.cls = .type n) (hd : o.data = .fields vs)
    (hn : ["enumerate", "zip", "dict_itemiterator", "dict_reverseitemiterator", "odict_iterator", "itertools.zip_longest", "itertools.pairwise"].contains n = false) (hQ : Q () s) : wpAny M A (Qm tg (.ref it) u) Q E s := by
  unfold Qm
  cases tg <;> first
    | exact LC hQ
    | (cases u <;> first
        | exact LC hQ
        | (refine LA (SF ho ?_)
           rw [hc, hd]
           show wpAny M A (if (["enumerate", "zip", "dict_itemiterator", "dict_reverseitemiterator", "odict_iterator", "itertools.zip_longest", "itertools.pairwise"].contains n && vs[0]? == some (rawInt _)) = true then _ else _) Q E s
           rw [if_neg (by intro h; rw [hn, QH] at h; cases h)]
           exact LC hQ))
noncomputable def Itl (K:Fg) (a:Addr):It:=
 ⟨fun i H=>∃ xs x,SqL K H a xs/\xs[i]?=some x,fun i H x H'=>H'=H/\∀ xs,SqL K H a xs->xs[i]?=some x,fun i H=>∃ xs,SqL K H a xs/\xs.length<=i⟩
noncomputable def Itt (K:Fg) (a:Addr):It:=
 ⟨fun i H=>∃ xs x,SqT K H a xs/\xs[i]?=some x,fun i H x H'=>H'=H/\∀ xs,SqT K H a xs->xs[i]?=some x,fun i H=>∃ xs,SqT K H a xs/\xs.length<=i⟩
noncomputable def Itr (lo:Int) (n:Nat):It:=⟨fun i _=>i < n,fun i H x H'=>H'=H/\x=.int (lo + i),fun i _=>n<=i⟩
theorem Ed {P:Program} {w:World} {K:Fg} {tg:Expr} (a it:Addr):sT P w K tg (Itl K a) [it] it (fun i h=>h.IsListIter it a i) where
 mem:=by simp
 obj:=fun i h st b hb=>by
  have e:b=it:=by simpa using hb
  subst e
  obtain ⟨o,e,c,d⟩:=st
  exact ⟨o,e,fun v z=>by rw [d] at z; cases z⟩
 keep:=fun i h h' st k=>st.at fun o e=>k it (by simp) o e
 item:=by
  intro X hP hw hK hc i pins s σ H E I hf st hg
  subst hP hw hK
  obtain ⟨xs,x,hq,hx⟩:=hg
  obtain ⟨its,rv,p,hz⟩:=I.list hq
  obtain ⟨u,hu,ru⟩:=rv.get hx
  obtain ⟨f0,f1,f2,f3,f4,f5⟩:=hf it (by simp)
  refine wpAny_pyNext_list_item st p.isList (x:=u) (by simpa using hu) fun h' st' sb=>?_
  have I1:Inv X pins σ H { s with heap:=h' }:=I.turned (t':=s.toks) (fun b o hb e=>(sb.2 b hb).trans e) f0 f1 f3 f4 f5
  obtain ⟨o,e,c,d⟩:=id st'
  exact ⟨u,rfl,Cm (s:={ s with heap:=h' }) e c d (by decide) ⟨x,H,I1,ru,⟨rfl,fun ys hy=>by rw [I.list_inj hy hq]; exact hx⟩,st',fun b hb=>(hf b hb).1⟩⟩
 done:=by
  intro X hP hw hK hc i pins s σ H E I hf st hg
  subst hP hw hK
  obtain ⟨xs,hq,hx⟩:=hg
  obtain ⟨its,rv,p,hz⟩:=I.list hq
  obtain ⟨f0,f1,f2,f3,f4,f5⟩:=hf it (by simp)
  have hl:=rv.length
  exact wpAny_pyNext_list_end (I.ok.hd hc) st p.isList (by simp; omega) fun h' eb=>⟨rfl,I.turned (t':=s.toks) (fun b o hb e=>eb b o hb e) f0 f1 f3 f4 f5⟩
 self:=fun _ _ _ _ _ st h=>wpAny_pyIter_listiter st h
theorem Cn {P:Program} {w:World} {K:Fg} {tg:Expr} (a it:Addr):sT P w K tg (Itt K a) [it] it (fun i h=>h.IsTupleIter it a i) where
 mem:=by simp
 obj:=fun i h st b hb=>by
  have e:b=it:=by simpa using hb
  subst e
  obtain ⟨o,e,c,d⟩:=st
  exact ⟨o,e,fun v z=>by rw [d] at z; cases z⟩
 keep:=fun i h h' st k=>st.at fun o e=>k it (by simp) o e
 item:=by
  intro X hP hw hK hc i pins s σ H E I hf st hg
  subst hP hw hK
  obtain ⟨xs,x,hq,hx⟩:=hg
  obtain ⟨its,rv,p,hz⟩:=I.tuple hq
  obtain ⟨u,hu,ru⟩:=rv.get hx
  obtain ⟨f0,f1,f2,f3,f4,f5⟩:=hf it (by simp)
  refine wpAny_pyNext_tuple_item st (show s.heap.IsTuple a its.toArray from p) (x:=u) (by simpa using hu) fun h' st' sb=>?_
  have I1:Inv X pins σ H { s with heap:=h' }:=I.turned (t':=s.toks) (fun b o hb e=>(sb.2 b hb).trans e) f0 f1 f3 f4 f5
  obtain ⟨o,e,c,d⟩:=id st'
  exact ⟨u,rfl,Cm (s:={ s with heap:=h' }) e c d (by decide) ⟨x,H,I1,ru,⟨rfl,fun ys hy=>by rw [I.tuple_inj hy hq]; exact hx⟩,st',fun b hb=>(hf b hb).1⟩⟩
 done:=by
  intro X hP hw hK hc i pins s σ H E I hf st hg
  subst hP hw hK
  obtain ⟨xs,hq,hx⟩:=hg
  obtain ⟨its,rv,p,hz⟩:=I.tuple hq
  obtain ⟨f0,f1,f2,f3,f4,f5⟩:=hf it (by simp)
  have hl:=rv.length
  exact wpAny_pyNext_tuple_end (I.ok.hd hc) st (show s.heap.IsTuple a its.toArray from p) (by simp; omega) fun h' eb=>⟨rfl,I.turned (t':=s.toks) (fun b o hb e=>eb b o hb e) f0 f1 f3 f4 f5⟩
 self:=fun _ _ _ _ _ st h=>wpAny_pyIter_tupleiter st h
theorem Co {P:Program} {w:World} {K:Fg} {tg:Expr} (it:Addr) (lo:Int) (n:Nat):sT P w K tg (Itr lo n) [it] it (fun i h=>IsRangeIter h it (lo + (i:Nat) * 1) ((n:Int) - (i:Nat)) 1) where
 mem:=by simp
 obj:=fun i h st b hb=>by
  have e:b=it:=by simpa using hb
  subst e
  exact ⟨_,st,fun v z=>by
   have z':Data.fields _=Data.cell v:=z
   cases z'⟩
 keep:=fun i h h' st k=>k it (by simp) _ st
 item:=by
  intro X hP hw hK hc i pins s σ H E I hf st hg
  subst hP hw hK
  obtain ⟨f0,f1,f2,f3,f4,f5⟩:=hf it (by simp)
  have W:=Walks.range (prog:=X.prog) (w:=X.w) (I.ok.hd hc) it lo 1 n
  refine W.item i s _ _ hg st fun v h' tk hv st' kk=>?_
  obtain ⟨t,rfl⟩:=hv
  have I1:Inv X pins σ H { s with heap:=h',toks:=tk }:=I.turned (fun b o hb e=>kk b o (by simpa using hb) e) f0 f1 f3 f4 f5
  refine ⟨_,rfl,Cm (s:={ s with heap:=h',toks:=tk }) (n:="range_iterator") st' rfl rfl (by decide) ⟨.int (lo + i),H,I1,⟨t,?_⟩,⟨rfl,rfl⟩,st',fun b hb=>(hf b hb).1⟩⟩
  rw [Int.mul_one]
 done:=by
  intro X hP hw hK hc i pins s σ H E I hf st hg
  subst hP hw hK
  obtain ⟨f0,f1,f2,f3,f4,f5⟩:=hf it (by simp)
  exact wpAny_pyNext_range_end (I.ok.hd hc) st (by have:n<=i:=hg; omega) fun h' eb=>⟨rfl,I.turned (t':=s.toks) (fun b o hb e=>eb b o hb e) f0 f1 f3 f4 f5⟩
 self:=fun _ _ _ _ _ st h=>wpAny_pyIter_rangeiter st h
end L2
namespace L2
open PySem PySem.Spec PyProof.Rows
section
variable {X:Cx} {tg:Expr}
noncomputable def dt (K:Fg) (tl:TE):TI:=fun σ H R=>tl σ H fun x H1=>∃ a,x=.ref a/\(∃ xs,SqL K H1 a xs)/\R (Itl K a) H1
noncomputable def wx (K:Fg) (tl:TE):TI:=fun σ H R=>tl σ H fun x H1=>∃ a,x=.ref a/\(∃ xs,SqT K H1 a xs)/\R (Itt K a) H1
theorem cj {l:Expr} {tl:TE} (hl:PE X l tl):PI X tg l (dt X.K tl):=by
 intro pins s σ H R I h
 refine thn (hl pins s σ H _ I h) fun v s1 ⟨x,H1,I1,r1,q1⟩=>?_
 obtain ⟨a,e,⟨xs,hq⟩,q⟩:=q1
 subst e
 cases r1
 obtain ⟨its,rv,p,hz⟩:=I1.list hq
 refine O5 p.isList ?_
 refine ⟨s1.heap.objs.size,[s1.heap.objs.size],_,_,H1,rfl,I1.kept (t':=s1.toks) fun b o e=>LB _ e,Ed a _,⟨_,LL _ rfl,rfl,rfl⟩,fun b hb=>?_,q⟩
 have e:b=s1.heap.objs.size:=by simpa using hb
 subst e
 exact I1.fpOk (LH _) (I1.hok.fresh (LH _))
theorem uh {l:Expr} {tl:TE} (hl:PE X l tl):PI X tg l (wx X.K tl):=by
 intro pins s σ H R I h
 refine thn (hl pins s σ H _ I h) fun v s1 ⟨x,H1,I1,r1,q1⟩=>?_
 obtain ⟨a,e,⟨xs,hq⟩,q⟩:=q1
 subst e
 cases r1
 obtain ⟨its,rv,p,hz⟩:=I1.tuple hq
 refine Tg (show s1.heap.IsTuple a its.toArray from p) ?_
 refine ⟨s1.heap.objs.size,[s1.heap.objs.size],_,_,H1,rfl,I1.kept (t':=s1.toks) fun b o e=>LB _ e,Cn a _,⟨_,LL _ rfl,rfl,rfl⟩,fun b hb=>?_,q⟩
 have e:b=s1.heap.objs.size:=by simpa using hb
 subst e
 exact I1.fpOk (LH _) (I1.hok.fresh (LH _))
theorem FP {pins:List (Addr×Obj)} {σ:St} {H:Hp} {s:Shared} {R:It->Hp->Prop} {E:Value->Shared->Prop} {lo hi:Int} {t u v:Tok} {tk:Nat} (I:Inv X pins σ H s) (h1:-(2 ^ 62)<=lo) (h2:lo < 2 ^ 62) (h3:-(2 ^ 62)<=hi) (h4:hi < 2 ^ 62)
  (q:R (Itr lo (hi - lo).toNat) H):wpAny (model X.prog X.w) X.A (pyIter (.ref s.heap.objs.size)) (PIE X pins σ tg R) E { s with heap:=s.heap.push { cls:=.type "range",data:=.fields #[.int lo t,.int hi u,.int 1 v] },toks:=tk }:=by
 refine wpAny_pyIter_range (IsRange.new ..) (UR h1 h2 h3 h4) ?_
 have I1:Inv X pins σ H { s with heap:=s.heap.push { cls:=.type "range",data:=.fields #[.int lo t,.int hi u,.int 1 v] },toks:=tk }:=I.kept fun b o e=>LB _ e
 refine ⟨(s.heap.push { cls:=.type "range",data:=.fields #[.int lo t,.int hi u,.int 1 v] }).objs.size,[(s.heap.push { cls:=.type "range",data:=.fields #[.int lo t,.int hi u,.int 1 v] }).objs.size],_,_,H,rfl,
  I1.kept (t':=tk) fun b o e=>LB _ e,Co _ lo (hi - lo).toNat,?_,fun b hb=>?_,q⟩
 ·have e1:lo + ((0:Nat):Int) * 1=lo:=by simp
  have e2:(((hi - lo).toNat:Nat):Int) - ((0:Nat):Int)=PN lo hi 1:=by rw [SW]; split <;> omega
  show IsRangeIter _ _ (lo + ((0:Nat):Int) * 1) ((((hi - lo).toNat:Nat):Int) - ((0:Nat):Int)) 1
  rw [e1,e2]
  exact LL _ rfl
 ·have e:b=(s.heap.push { cls:=.type "range",data:=.fields #[.int lo t,.int hi u,.int 1 v] }).objs.size:=by simpa using hb
  subst e
  exact I1.fpOk (LH _) (I1.hok.fresh (LH _))
noncomputable def cD (ta:TA):TI:=fun σ H R=>ta σ H fun vs H1=>∃ j:Int,vs=[.int j]/\-(2 ^ 62)<=j/\j < 2 ^ 62/\R (Itr 0 j.toNat) H1
noncomputable def KK (ta:TA):TI:=fun σ H R=>ta σ H fun vs H1=>∃ i j:Int,vs=[.int i,.int j]/\(-(2 ^ 62)<=i/\i < 2 ^ 62/\-(2 ^ 62)<=j/\j < 2 ^ 62)/\R (Itr i (j - i).toNat) H1
theorem bw {a:Expr} {ta:TA} {p pos:Pos} (hg:Gl X "range") (hm:X.mg "range"=none) (ha:PA X [a] ta) (hs:L9 [a] X.env=[(false,eval a X.env)]:=by rfl):PI X tg (.Call (.Name "range" p) [a] [] pos) (cD ta):=by
 intro pins s σ H R I h
 refine Call_ (gb I hg hm Rp (Nf (thn (ha pos pins s σ H _ I h) fun us s1 ⟨vs,H1,I1,r1,q1⟩=>?_) hs rfl))
 obtain ⟨j,e,q1,q2,q⟩:=q1
 subst e
 cases r1 with
 | cons r rr=>
  cases rr
  obtain ⟨t,rfl⟩:=r
  exact call_range_1 (FP I1 (by omega) (by omega) q1 q2 (by simpa using q))
noncomputable def cu (wi:TI) (g:TG) (tb:TS):TS:=fun D σ H=>wi σ H fun J H1=>∃ W:Nat->Nat->St->Hp->Prop,(∃ m,W 0 m σ H1)/\∀ i m σ H,W i m σ H->
 (J.stop i H/\D.nx σ H)\/(J.go i H/\∃ N:St->Hp->Prop,(∀ σ' H',N σ' H'->∃ m',m' < m/\W (i + 1) m' σ' H')/\∀ x H',J.yld i H x H'->g x σ H' fun σ2 H2=>tb { D with nx:=N,ct:=N,bk:=D.nx } σ2 H2)
noncomputable def qf (fp:List Addr) (h:Heap):List (Addr×Obj):=fp.filterMap fun b=>(h.get? b).map fun o=>(b,o)
theorem kD {fp:List Addr} {h:Heap} {b:Addr} {o:Obj} (hb:b∈fp) (e:h.get? b=some o):(b,o)∈qf fp h:=QQ.mpr ⟨b,hb,by rw [e]; rfl⟩
theorem Ee {fp:List Addr} {h:Heap} {p:Addr×Obj} (hp:p∈qf fp h):p.1∈fp/\h.get? p.1=some p.2:=by
 obtain ⟨b,hb,e⟩:=QQ.mp hp
 cases q:h.get? b with
 | none=>rw [q] at e; cases e
 | some o=>
  rw [q] at e
  have e':(b,o)=p:=LW e
  subst e'
  exact ⟨hb,q⟩
theorem Inv.pinned {pins:List (Addr×Obj)} {σ:St} {H:Hp} {s:Shared} {fp:List Addr} (I:Inv X pins σ H s) (hf:∀ b∈fp,kd X pins H b) (ho:∀ b∈fp,∃ o,s.heap.get? b=some o/\∀ v,o.data≠.cell v):Inv X (pins++qf fp s.heap) σ H s:=
 I.pins_of fun p hp=>(Mr.mp hp).elim (fun z=>I.pin p (MD _ z)) fun z=>by
  obtain ⟨hb,e⟩:=Ee z
  obtain ⟨f0,f1,f2,_⟩:=hf p.1 hb
  obtain ⟨o,e',d⟩:=ho p.1 hb
  rw [e] at e'; cases e'
  exact ⟨e,f0,f1,f2,d⟩
theorem Inv.unpinned {pins pl:List (Addr×Obj)} {σ:St} {H:Hp} {s:Shared} (I:Inv X (pins++pl) σ H s):Inv X pins σ H s:=I.pins_of fun p hp=>I.pin p (MD _ (NV _ hp))
theorem bC {iter:Expr} {body:List Stmt} {wi:TI} {g:TG} {tb:TS} {pos:Pos} (hp:Mt (model X.prog X.w) X.A X.env X.xe) (hc:X.calm=true) (hi:PI X tg iter wi) (hg:PG X tg g) (hb:PSs X body tb)
  (hs:∀ x,Rg iter X.env x=pure x:=by intro _; rfl):PS X (.For tg iter body [] pos) (cu wi g tb):=by
 intro pins s σ H D I h
 refine wpAny_For (thn (hi pins s σ H _ I h) fun v s1 h1=>thn h1 fun itv s2 h2=>?_) hs
 obtain ⟨it,fp,tn,J,H2,e,I2,T,st2,f2,W,⟨m0,w0⟩,turn⟩:=h2
 subst e
 have stat:∀ {H':Hp},(∀ b∈fp,H' b=none)->∀ b∈fp,kd X pins H' b:=fun hn b hb=>⟨hn b hb,(f2 b hb).2⟩
 refine codeAny_forLoop_any (fun n s'=>∃ i σ' H',Inv X pins σ' H' s'/\tn i s'.heap/\(∀ b∈fp,H' b=none)/\W i n σ' H') ?_ m0 ⟨0,σ,H2,I2,st2,fun b hb=>(f2 b hb).1,w0⟩
 rintro n s3 ⟨i,σ3,H3,I3,st3,fr3,w3⟩
 rcases turn i n σ3 H3 w3 with ⟨stop,qn⟩ | ⟨go,N,hN,step⟩
 ·refine OA hp (thn (T.done X rfl rfl rfl hc i pins s3 σ3 H3 X.xe I3 (stat fr3) st3 stop) fun r s4 ⟨hr,I4⟩=>?_)
  subst hr
  exact Qk ⟨σ3,H3,I4,qn⟩
 ·refine OA hp (thn (T.item X rfl rfl rfl hc i pins s3 σ3 H3 X.xe I3 (stat fr3) st3 go) fun r s4 ⟨u,hr,h4⟩=>?_)
  subst hr
  refine OA hp (thn h4 fun _ s5 ⟨x,H5,I5,r5,y5,st5,fr5⟩=>?_)
  have I5':=I5.pinned (stat fr5) (T.obj _ _ st5)
  refine OA hp (thn (hg _ s5 σ3 H5 x u _ I5' r5 (step x H5 y5)) fun _ s6 ⟨σ6,H6,I6,q6⟩=>?_)
  refine OA hp (thn (hb _ s6 σ6 H6 _ I6 q6) fun f s7 q7=>?_)
  have again:∀ {σ7:St} {H7:Hp},Inv X (pins++qf fp s5.heap) σ7 H7 s7->N σ7 H7->∃ m,m < n/\∃ i σ' H',Inv X pins σ' H' s7/\tn i s7.heap/\(∀ b∈fp,H' b=none)/\W i m σ' H':=fun {σ7 H7} I7 n7=>by
   obtain ⟨m',hm,w7⟩:=hN σ7 H7 n7
   refine ⟨m',hm,i + 1,σ7,H7,I7.unpinned,T.keep _ _ _ st5 fun b hb o e=>(I7.pin (b,o) (MD _ (MD _ (kD hb e)))).1,fun b hb=>?_,w7⟩
   obtain ⟨o,e,d⟩:=T.obj _ _ st5 b hb
   exact (I7.pin (b,o) (MD _ (MD _ (kD hb e)))).2.1
  cases f with
  | next=>obtain ⟨σ7,H7,I7,n7⟩:=q7; exact again I7 n7
  | cont=>obtain ⟨σ7,H7,I7,n7⟩:=q7; exact again I7 n7
  | brk=>obtain ⟨σ7,H7,I7,q7⟩:=q7; exact ⟨σ7,H7,I7.unpinned,q7⟩
  | ret v=>obtain ⟨x7,σ7,H7,I7,r7,q7⟩:=q7; exact ⟨x7,σ7,H7,I7.unpinned,r7,q7⟩
end
theorem sU {K:Fg} {a:Addr} {xs:List V} {g:TG} {tb:TS} {D:jq} {σ:St} {H:Hp} (Pv:Nat->St->Hp->Prop) (h0:Pv 0 σ H) (hl:∀ i σ H,i<=xs.length->Pv i σ H->SqL K H a xs)
  (hs:∀ i x σ H,xs[i]?=some x->Pv i σ H->g x σ H fun σ2 H2=>tb { D with nx:=Pv (i + 1),ct:=Pv (i + 1),bk:=D.nx } σ2 H2) (hd:∀ σ H,Pv xs.length σ H->D.nx σ H):
  ∃ W:Nat->Nat->St->Hp->Prop,(∃ m,W 0 m σ H)/\∀ i m σ H,W i m σ H->
   ((Itl K a).stop i H/\D.nx σ H)\/((Itl K a).go i H/\∃ N:St->Hp->Prop,(∀ σ' H',N σ' H'->∃ m',m' < m/\W (i + 1) m' σ' H')/\∀ x H',(Itl K a).yld i H x H'->g x σ H' fun σ2 H2=>tb { D with nx:=N,ct:=N,bk:=D.nx } σ2 H2):=by
 refine ⟨fun i m σ H=>m=xs.length - i/\i<=xs.length/\Pv i σ H,⟨xs.length,by simp,MI _,h0⟩,?_⟩
 rintro i m σ H ⟨rfl,hi,p⟩
 have q:=hl i σ H hi p
 by_cases hlt:i < xs.length
 ·refine .inr ⟨⟨xs,xs[i],q,by simp [hlt]⟩,Pv (i + 1),fun σ' H' p'=>⟨xs.length - (i + 1),by omega,rfl,hlt,p'⟩,fun x H' y=>?_⟩
  obtain ⟨e,y⟩:=y
  subst e
  exact hs i x σ _ (y xs q) p
 ·have e:i=xs.length:=by omega
  subst e
  exact .inl ⟨⟨xs,q,LH _⟩,hd σ H p⟩
theorem HZ {K:Fg} {a:Addr} {xs:List V} {g:TG} {tb:TS} {D:jq} {σ:St} {H:Hp} (Pv:Nat->St->Hp->Prop) (h0:Pv 0 σ H) (hl:∀ i σ H,i<=xs.length->Pv i σ H->SqT K H a xs)
  (hs:∀ i x σ H,xs[i]?=some x->Pv i σ H->g x σ H fun σ2 H2=>tb { D with nx:=Pv (i + 1),ct:=Pv (i + 1),bk:=D.nx } σ2 H2) (hd:∀ σ H,Pv xs.length σ H->D.nx σ H):
  ∃ W:Nat->Nat->St->Hp->Prop,(∃ m,W 0 m σ H)/\∀ i m σ H,W i m σ H->
   ((Itt K a).stop i H/\D.nx σ H)\/((Itt K a).go i H/\∃ N:St->Hp->Prop,(∀ σ' H',N σ' H'->∃ m',m' < m/\W (i + 1) m' σ' H')/\∀ x H',(Itt K a).yld i H x H'->g x σ H' fun σ2 H2=>tb { D with nx:=N,ct:=N,bk:=D.nx } σ2 H2):=by
 refine ⟨fun i m σ H=>m=xs.length - i/\i<=xs.length/\Pv i σ H,⟨xs.length,by simp,MI _,h0⟩,?_⟩
 rintro i m σ H ⟨rfl,hi,p⟩
 have q:=hl i σ H hi p
 by_cases hlt:i < xs.length
 ·refine .inr ⟨⟨xs,xs[i],q,by simp [hlt]⟩,Pv (i + 1),fun σ' H' p'=>⟨xs.length - (i + 1),by omega,rfl,hlt,p'⟩,fun x H' y=>?_⟩
  obtain ⟨e,y⟩:=y
  subst e
  exact hs i x σ _ (y xs q) p
 ·have e:i=xs.length:=by omega
  subst e
  exact .inl ⟨⟨xs,q,LH _⟩,hd σ H p⟩
theorem qg {lo:Int} {n:Nat} {g:TG} {tb:TS} {D:jq} {σ:St} {H:Hp} (Pv:Nat->St->Hp->Prop) (h0:Pv 0 σ H)
  (hs:∀ i σ H,i < n->Pv i σ H->g (.int (lo + i)) σ H fun σ2 H2=>tb { D with nx:=Pv (i + 1),ct:=Pv (i + 1),bk:=D.nx } σ2 H2) (hd:∀ σ H,Pv n σ H->D.nx σ H):
  ∃ W:Nat->Nat->St->Hp->Prop,(∃ m,W 0 m σ H)/\∀ i m σ H,W i m σ H->
   ((Itr lo n).stop i H/\D.nx σ H)\/((Itr lo n).go i H/\∃ N:St->Hp->Prop,(∀ σ' H',N σ' H'->∃ m',m' < m/\W (i + 1) m' σ' H')/\∀ x H',(Itr lo n).yld i H x H'->g x σ H' fun σ2 H2=>tb { D with nx:=N,ct:=N,bk:=D.nx } σ2 H2):=by
 refine ⟨fun i m σ H=>m=n - i/\i<=n/\Pv i σ H,⟨n,by simp,MI _,h0⟩,?_⟩
 rintro i m σ H ⟨rfl,hi,p⟩
 by_cases hlt:i < n
 ·refine .inr ⟨hlt,Pv (i + 1),fun σ' H' p'=>⟨n - (i + 1),by omega,rfl,hlt,p'⟩,fun x H' y=>?_⟩
  obtain ⟨e,y⟩:=y
  subst e y
  exact hs i σ _ hlt p
 ·have e:i=n:=by omega
  subst e
  exact .inl ⟨LH _,hd σ H p⟩
end L2
namespace L2
open PySem PySem.Spec PyProof.Rows
noncomputable abbrev R2:=V->V->Hp->VK->Prop
noncomputable def OpR (X:Cx) (f:Value->Value->Sem Value) (r:R2):Prop:=
 ∀ (pins:List (Addr×Obj)) (s:Shared) (σ:St) (H:Hp) (x y:V) (v u:Value) (Q:VK),Inv X pins σ H s->aJ x v->aJ y u->r x y H Q->
  wpAny (model X.prog X.w) X.A (f v u) (EP X pins σ Q) X.xe s
noncomputable def UnR (X:Cx) (f:Value->Sem Value) (r:V->Hp->VK->Prop):Prop:=
 ∀ (pins:List (Addr×Obj)) (s:Shared) (σ:St) (H:Hp) (x:V) (v:Value) (Q:VK),Inv X pins σ H s->aJ x v->r x H Q->
  wpAny (model X.prog X.w) X.A (f v) (EP X pins σ Q) X.xe s
noncomputable def dc (X:Cx) (f:Value) (r:List V->Hp->VK->Prop):Prop:=
 ∀ (pins:List (Addr×Obj)) (s:Shared) (σ:St) (H:Hp) (xs:List V) (us:List Value) (Q:VK),Inv X pins σ H s->aH xs us->r xs H Q->
  wpAny (model X.prog X.w) X.A (call f us) (EP X pins σ Q) X.xe s
noncomputable def tOp (r:R2) (ta tb:TE):TE:=fun σ H Q=>ta σ H fun x H1=>tb σ H1 fun y H2=>r x y H2 Q
noncomputable def tUn (r:V->Hp->VK->Prop) (ta:TE):TE:=fun σ H Q=>ta σ H fun x H1=>r x H1 Q
noncomputable def rI (C:Int->Int->Prop) (g:Int->Int->V):R2:=fun x y H Q=>∃ i j,x=.int i/\y=.int j/\C i j/\Q (g i j) H
noncomputable def rI0 (g:Int->Int->V):R2:=fun x y H Q=>∃ i j,x=.int i/\y=.int j/\Q (g i j) H
noncomputable def rU (g:Int->V):V->Hp->VK->Prop:=fun x H Q=>∃ i,x=.int i/\Q (g i) H
section
variable {X:Cx} {a b c:Expr} {ta tb tc:TE} {pos:Pos}
theorem FQ (ha:PE X a ta) (hb:PE X b tb) {pins:List (Addr×Obj)} {s:Shared} {σ:St} {H:Hp} {R:V->V->Hp->Prop} (I:Inv X pins σ H s)
  (h:ta σ H fun x H1=>tb σ H1 fun y H2=>R x y H2) {Q:Value->Shared->Prop} {f:Value->Value->Sem Value}
  (hf:∀ v u s2 x y H2,Inv X pins σ H2 s2->aJ x v->aJ y u->R x y H2->wpAny (model X.prog X.w) X.A (f v u) Q X.xe s2):
  wpAny (model X.prog X.w) X.A (eval a X.env) (fun v s₁=>wpAny (model X.prog X.w) X.A (eval b X.env) (fun u s₂=>wpAny (model X.prog X.w) X.A (f v u) Q X.xe s₂) X.xe s₁) X.xe s:=by
 refine thn (ha pins s σ H _ I h) fun v s1 ⟨x,H1,I1,r1,q1⟩=>?_
 refine thn (hb pins s1 σ H1 _ I1 q1) fun u s2 ⟨y,H2,I2,r2,q2⟩=>?_
 exact hf v u s2 x y H2 I2 r1 r2 q2
theorem aq {op:Operator} {r:R2} (ho:OpR X (OD op) r) (ha:PE X a ta) (hb:PE X b tb):PE X (.BinOp a op b pos) (tOp r ta tb):=by
 intro pins s σ H Q I h
 exact wpAny_BinOp (FQ ha hb I h fun v u s2 x y H2 I2 rx ry q=>ho pins s2 σ H2 x y v u Q I2 rx ry q)
theorem HE {op:UnaryOp} {r:V->Hp->VK->Prop} (ho:UnR X (unaryOp op) r) (ha:PE X a ta):PE X (.UnaryOp op a pos) (tUn r ta):=by
 intro pins s σ H Q I h
 exact UnaryOp_ (thn (ha pins s σ H _ I h) fun v s1 ⟨x,H1,I1,r1,q1⟩=>ho pins s1 σ H1 x v Q I1 r1 q1)
theorem opI {f:Value->Value->Sem Value} {C:Int->Int->Prop} {g:Int->Int->Int}
  (rule:∀ (i j:Int) (t u:Tok) (s:Shared) (Q:Value->Shared->Prop) (E:Value->Shared->Prop),C i j->Q (.int (g i j) s.toks) { s with toks:=s.toks + 1 }->wpAny (model X.prog X.w) X.A (f (.int i t) (.int j u)) Q E s):
  OpR X f (rI C fun i j=>.int (g i j)):=by
 intro pins s σ H x y v u Q I rx ry h
 obtain ⟨i,j,rfl,rfl,hc,q⟩:=h
 obtain ⟨t,rfl⟩:=rx
 obtain ⟨t',rfl⟩:=ry
 exact rule i j t t' s _ _ hc ⟨.int (g i j),H,I.tok _,⟨_,rfl⟩,q⟩
theorem JF {f:Value->Value->Sem Value} {g:Int->Int->Int}
  (rule:∀ (i j:Int) (t u:Tok) (s:Shared) (Q:Value->Shared->Prop) (E:Value->Shared->Prop),Q (.int (g i j) s.toks) { s with toks:=s.toks + 1 }->wpAny (model X.prog X.w) X.A (f (.int i t) (.int j u)) Q E s):
  OpR X f (rI0 fun i j=>.int (g i j)):=by
 intro pins s σ H x y v u Q I rx ry h
 obtain ⟨i,j,rfl,rfl,q⟩:=h
 obtain ⟨t,rfl⟩:=rx
 obtain ⟨t',rfl⟩:=ry
 exact rule i j t t' s _ _ ⟨.int (g i j),H,I.tok _,⟨_,rfl⟩,q⟩
theorem FR {f:Value->Value->Sem Value} {g:Int->Int->Bool}
  (rule:∀ (i j:Int) (t u:Tok) (s:Shared) (Q:Value->Shared->Prop) (E:Value->Shared->Prop),Q (.bool (g i j)) s->wpAny (model X.prog X.w) X.A (f (.int i t) (.int j u)) Q E s):
  OpR X f (rI0 fun i j=>.bl (g i j)):=by
 intro pins s σ H x y v u Q I rx ry h
 obtain ⟨i,j,rfl,rfl,q⟩:=h
 obtain ⟨t,rfl⟩:=rx
 obtain ⟨t',rfl⟩:=ry
 exact rule i j t t' s _ _ ⟨.bl (g i j),H,I,rfl,q⟩
noncomputable def fm (i j:Int):Prop:=0 < j/\j < 1073741824
theorem bp:OpR X (OD .Add) (rI0 fun i j=>.int (i + j)):=JF fun _ _ _ _ _ _ _ q=>add_int q
theorem gc:OpR X (OD .Sub) (rI0 fun i j=>.int (i - j)):=JF fun _ _ _ _ _ _ _ q=>sub_int q
theorem cy:OpR X (OD .FloorDiv) (rI fm fun i j=>.int (i / j)):=opI fun i j _ _ _ _ _ hc q=>by
 have h1:(0:Int) < j:=hc.1
 have h2:j < 1073741824:=hc.2
 exact floordiv_int (by omega) (by rw [Int.fdiv_eq_ediv_of_nonneg i (by omega)]; exact q) (.inl (PyProof.noPylong_small (by omega)))
theorem br:OpR X (OD .Mod) (rI (fun _ j=>0 < j) fun i j=>.int (i % j)):=opI fun i j _ _ _ _ _ hc q=>by
 have h1:(0:Int) < j:=hc
 exact mod_int' (by omega) (by rw [Int.fmod_eq_emod_of_nonneg i (by omega)]; exact q)
theorem unI {f:Value->Sem Value} {g:Int->Int}
  (rule:∀ (i:Int) (t:Tok) (s:Shared) (Q:Value->Shared->Prop) (E:Value->Shared->Prop),Q (.int (g i) s.toks) { s with toks:=s.toks + 1 }->wpAny (model X.prog X.w) X.A (f (.int i t)) Q E s):
  UnR X f (rU fun i=>.int (g i)):=by
 intro pins s σ H x v Q I rx h
 obtain ⟨i,rfl,q⟩:=h
 obtain ⟨t,rfl⟩:=rx
 exact rule i t s _ _ ⟨.int (g i),H,I.tok _,⟨_,rfl⟩,q⟩
theorem Ef:UnR X (unaryOp .USub) (rU fun i=>.int (-i)):=unI fun _ _ _ _ _ q=>neg_int q
end
noncomputable def JG:V->V->Bool
 | .non,.non=>true | .non,.int _=>true | .int _,.non=>true | .non,.bl _=>true | .bl _,.non=>true | .non,.str _=>true | .str _,.non=>true
 | .int _,.int _=>true | .bl _,.bl _=>true | .str _,.str _=>true | .byt _,.byt _=>true
 | .int _,.str _=>true | .str _,.int _=>true | .bl _,.str _=>true | .str _,.bl _=>true
 | _,_=>false
noncomputable def rEq:R2:=fun x y H Q=>JG x y=true/\Q (.bl (decide (x=y))) H
noncomputable def rNe:R2:=fun x y H Q=>JG x y=true/\Q (.bl (!decide (x=y))) H
theorem BL {i j:Int}:decide (V.int i=V.int j)=(i == j):=by
 rw [OW]
 simp
theorem Eg {i j:Bool}:decide (V.bl i=V.bl j)=(i == j):=by
 rw [OW]
 simp
theorem BM {i j:Str}:decide (V.str i=V.str j)=(i == j):=by
 rw [OW]
 simp
theorem BN {i j:Array UInt8}:decide (V.byt i=V.byt j)=(i.toList == j.toList):=by
 rw [OW]
 cases i
 cases j
 simp
section
variable {X:Cx} {a b c:Expr} {ta tb tc:TE} {pos:Pos}
theorem bx {pins:List (Addr×Obj)} {σ:St} {H:Hp} {s:Shared} {Q:VK} {k k':Bool} (I:Inv X pins σ H s) (q:Q (.bl k) H) (e:k=k'):EP X pins σ Q (.bool k') s:=by
 subst e
 exact ⟨.bl k,H,I,rfl,q⟩
theorem cJ:OpR X (NC .Eq) rEq:=by
 intro pins s σ H x y v u Q I rx ry h
 obtain ⟨hs,q⟩:=h
 cases x with
 | non=>
  cases rx
  cases y with
  | non=>cases ry; exact PySem.EqNone.eq_none_none (bx I q (by simp))
  | bl j=>cases ry; exact PySem.EqNone.eq_none_bool (bx I q (by simp))
  | int j=>obtain ⟨t',rfl⟩:=ry; exact PySem.EqNone.eq_none_int (bx I q (by simp))
  | str j=>obtain ⟨t',rfl⟩:=ry; exact PySem.EqNone.eq_none_str (bx I q (by simp))
  | _=>exact absurd (show false=true from hs) LR
 | bl i=>
  cases rx
  cases y with
  | non=>cases ry; exact PySem.EqNone.eq_bool_none (bx I q (by simp))
  | bl j=>cases ry; exact eq_bool (bx I q Eg)
  | str j=>obtain ⟨t',rfl⟩:=ry; exact PySem.EqMixed.eq_bool_str (bx I q (by simp))
  | _=>exact absurd (show false=true from hs) LR
 | int i=>
  obtain ⟨t,rfl⟩:=rx
  cases y with
  | non=>cases ry; exact PySem.EqNone.eq_int_none (bx I q (by simp))
  | int j=>obtain ⟨t',rfl⟩:=ry; exact eq_int (bx I q BL)
  | str j=>obtain ⟨t',rfl⟩:=ry; exact PySem.EqMixed.eq_int_str (bx I q (by simp))
  | _=>exact absurd (show false=true from hs) LR
 | str i=>
  obtain ⟨t,rfl⟩:=rx
  cases y with
  | non=>cases ry; exact PySem.EqNone.eq_str_none (bx I q (by simp))
  | bl j=>cases ry; exact PySem.EqMixed.eq_str_bool (bx I q (by simp))
  | int j=>obtain ⟨t',rfl⟩:=ry; exact PySem.EqMixed.eq_str_int (bx I q (by simp))
  | str j=>obtain ⟨t',rfl⟩:=ry; exact eq_str (bx I q BM)
  | _=>exact absurd (show false=true from hs) LR
 | byt i=>
  obtain ⟨t,rfl⟩:=rx
  cases y with
  | byt j=>obtain ⟨t',rfl⟩:=ry; exact PySem.W.eq_bytes (bx I q BN)
  | _=>exact absurd (show false=true from hs) LR
 | _=>cases y <;> exact absurd (show false=true from hs) LR
theorem Cp:OpR X (NC .NotEq) rNe:=by
 intro pins s σ H x y v u Q I rx ry h
 obtain ⟨hs,q⟩:=h
 cases x with
 | non=>
  cases rx
  cases y with
  | non=>cases ry; exact PySem.EqNone.ne_none_none (bx I q (by simp))
  | bl j=>cases ry; exact PySem.EqNone.ne_none_bool (bx I q (by simp))
  | int j=>obtain ⟨t',rfl⟩:=ry; exact PySem.EqNone.ne_none_int (bx I q (by simp))
  | str j=>obtain ⟨t',rfl⟩:=ry; exact PySem.EqNone.ne_none_str (bx I q (by simp))
  | _=>exact absurd (show false=true from hs) LR
 | bl i=>
  cases rx
  cases y with
  | non=>cases ry; exact PySem.EqNone.ne_bool_none (bx I q (by simp))
  | bl j=>cases ry; exact ne_bool (bx I q (congrArg not Eg))
  | str j=>obtain ⟨t',rfl⟩:=ry; exact PySem.EqMixed.ne_bool_str (bx I q (by simp))
  | _=>exact absurd (show false=true from hs) LR
 | int i=>
  obtain ⟨t,rfl⟩:=rx
  cases y with
  | non=>cases ry; exact PySem.EqNone.ne_int_none (bx I q (by simp))
  | int j=>obtain ⟨t',rfl⟩:=ry; exact ne_int (bx I q (congrArg not BL))
  | str j=>obtain ⟨t',rfl⟩:=ry; exact PySem.EqMixed.ne_int_str (bx I q (by simp))
  | _=>exact absurd (show false=true from hs) LR
 | str i=>
  obtain ⟨t,rfl⟩:=rx
  cases y with
  | non=>cases ry; exact PySem.EqNone.ne_str_none (bx I q (by simp))
  | bl j=>cases ry; exact PySem.EqMixed.ne_str_bool (bx I q (by simp))
  | int j=>obtain ⟨t',rfl⟩:=ry; exact PySem.EqMixed.ne_str_int (bx I q (by simp))
  | str j=>obtain ⟨t',rfl⟩:=ry; exact ne_str (bx I q (congrArg not BM))
  | _=>exact absurd (show false=true from hs) LR
 | byt i=>
  obtain ⟨t,rfl⟩:=rx
  cases y with
  | byt j=>obtain ⟨t',rfl⟩:=ry; exact PySem.W.ne_bytes (bx I q (congrArg not BN))
  | _=>exact absurd (show false=true from hs) LR
 | _=>cases y <;> exact absurd (show false=true from hs) LR
theorem rq:OpR X (NC .Lt) (rI0 fun i j=>.bl (decide (i < j))):=FR fun _ _ _ _ _ _ _ q=>lt_int q
theorem yY:OpR X (NC .LtE) (rI0 fun i j=>.bl (decide (i<=j))):=FR fun _ _ _ _ _ _ _ q=>le_int q
theorem kE:OpR X (NC .Gt) (rI0 fun i j=>.bl (decide (j < i))):=FR fun _ _ _ _ _ _ _ q=>gt_int q
theorem aL (b:Expr) {op:CmpOp} (h:op≠.In:=by decide) (h2:op≠.NotIn:=by decide):Q4 op b=false:=by
 have e1:(op == CmpOp.In)=false:=by cases op <;> first | rfl | exact absurd rfl h
 have e2:(op == CmpOp.NotIn)=false:=by cases op <;> first | rfl | exact absurd rfl h2
 cases b <;> simp [Q4,e1,e2]
theorem kU {op:CmpOp} {r:R2} (ho:OpR X (NC op) r) (ha:PE X a ta) (hb:PE X b tb) (hm:Q4 op b=false):PE X (.Compare a [op] [b] pos) (tOp r ta tb):=by
 intro pins s σ H Q I h
 exact wpAny_Compare1 (FQ ha hb I h fun v u s2 x y H2 I2 rx ry q=>ho pins s2 σ H2 x y v u Q I2 rx ry q) hm
noncomputable def aX (t:TE):TT:=fun σ H Q=>t σ H fun x H'=>∃ k,x=.bl k/\Q k H'
theorem aK {op:CmpOp} {r:R2} (ho:OpR X (NC op) r) (ha:PE X a ta) (hb:PE X b tb) (hm:Q4 op b=false):PT X (.Compare a [op] [b] pos) (aX (tOp r ta tb)):=by
 intro pins s σ H Q I h
 refine wpAny_isTrue_Compare1 (thn (ha pins s σ H _ I h) fun v s1 ⟨x,H1,I1,r1,q1⟩=>thn (hb pins s1 σ H1 _ I1 q1) fun u s2 ⟨y,H2,I2,r2,q2⟩=>
  thn (ho pins s2 σ H2 x y v u _ I2 r1 r2 q2) fun c s3 ⟨z,H3,I3,r3,k,e,q3⟩=>?_) hm
 subst e
 cases r3
 exact NB ⟨H3,I3,q3⟩
noncomputable def zx (r r':R2) (ta tb tc:TE):TE:=fun σ H Q=>ta σ H fun x H1=>tb σ H1 fun y H2=>r x y H2 fun z H3=>∃ k,z=.bl k/\
 (if k=true then tc σ H3 fun w' H4=>r' y w' H4 Q else Q (.bl false) H3)
theorem FS {op op':CmpOp} {r r':R2} (ho:OpR X (NC op) r) (ho':OpR X (NC op') r') (ha:PE X a ta) (hb:PE X b tb) (hc:PE X c tc)
  (hm:lastMarks [op,op'] [b,c]=false:=by with_unfolding_all rfl):PE X (.Compare a [op,op'] [b,c] pos) (zx r r' ta tb tc):=by
 intro pins s σ H Q I h
 refine Compare_chain (thn (ha pins s σ H _ I h) fun v s1 ⟨x,H1,I1,r1,q1⟩=>chain_link (thn (hb pins s1 σ H1 _ I1 q1) fun u s2 ⟨y,H2,I2,r2,q2⟩=>
  thn (ho pins s2 σ H2 x y v u _ I2 r1 r2 q2) fun d s3 ⟨z,H3,I3,r3,k,e,q3⟩=>?_)) hm
 subst e
 cases r3
 refine NB ?_
 cases k with
 | false=>exact ite_ff ⟨.bl false,H3,I3,rfl,q3⟩
 | true=>exact ite_tt (chain_last (thn (hc pins s3 σ H3 _ I3 q3) fun w' s4 ⟨z',H4,I4,r4,q4⟩=>ho' pins s4 σ H4 y z' u w' Q I4 r2 r4 q4))
theorem ui:(LS:Nat) < 2 ^ 63:=by rw [LP]; decide
theorem lV {x:V} {us:List Value} (r:aH [x] us):∃ u,us=[u]/\aJ x u:=by
 cases r with
 | cons r1 r2=>cases r2; exact ⟨_,rfl,r1⟩
theorem HF {x y:V} {us:List Value} (r:aH [x,y] us):∃ u w',us=[u,w']/\aJ x u/\aJ y w':=by
 cases r with
 | cons r1 r2=>
  cases r2 with
  | cons r3 r4=>cases r4; exact ⟨_,_,rfl,r1,r3⟩
theorem Eh (hc:X.calm=true):dc X (.builtin "max") (fun xs H Q=>∃ i j,xs=[.int i,.int j]/\Q (.int (if j > i then j else i)) H):=by
 intro pins s σ H xs us Q I r h
 obtain ⟨i,j,rfl,q⟩:=h
 obtain ⟨u,w',rfl,⟨t,rfl⟩,⟨t',rfl⟩⟩:=HF r
 refine max_two_ints (I.ok.hd hc) fun h' tk k=>⟨_,H,I.kept k,?_,q⟩
 by_cases hj:j > i
 ·rw [if_pos hj,if_pos hj]; exact ⟨_,rfl⟩
 ·rw [if_neg hj,if_neg hj]; exact ⟨_,rfl⟩
theorem xG (hc:X.calm=true):dc X (.builtin "min") (fun xs H Q=>∃ i j,xs=[.int i,.int j]/\Q (.int (if j < i then j else i)) H):=by
 intro pins s σ H xs us Q I r h
 obtain ⟨i,j,rfl,q⟩:=h
 obtain ⟨u,w',rfl,⟨t,rfl⟩,⟨t',rfl⟩⟩:=HF r
 refine min_two_ints (I.ok.hd hc) fun h' tk k=>⟨_,H,I.kept k,?_,q⟩
 by_cases hj:j < i
 ·rw [if_pos hj,if_pos hj]; exact ⟨_,rfl⟩
 ·rw [if_neg hj,if_neg hj]; exact ⟨_,rfl⟩
theorem Ei:dc X (.type "int") (fun xs H Q=>(∃ i,xs=[.int i]/\Q (.int i) H)\/∃ k,xs=[.bl k]/\Q (.int (if k then 1 else 0)) H):=by
 intro pins s σ H xs us Q I r h
 rcases h with ⟨i,rfl,q⟩ | ⟨k,rfl,q⟩
 ·obtain ⟨u,rfl,t,rfl⟩:=lV r
  exact call_int_int ⟨.int i,H,I,⟨_,rfl⟩,q⟩
 ·obtain ⟨u,rfl,r1⟩:=lV r
  cases r1
  exact call_int_bool ⟨.int (if k then 1 else 0),H,I.tok _,⟨_,rfl⟩,q⟩
end
end L2
namespace L2
open PySem PySem.Spec PyProof.Rows
structure sV (h:Heap) (x dx C:Addr) (mA:Str->Option Value):Prop where
 obj:h.get? x=some (Oi C dx)
 ns:h.Ns1 dx mA
 ne:dx≠x
theorem Ej {h:Heap} {dx:Addr} {mA:Str->Option Value} (n:h.Ns1 dx mA):∃ od,h.get? dx=some od/\∀ name,QI name od=some (mA name):=by
 obtain ⟨o,es,ep,ho,hd,hk,_,hm⟩:=n
 refine ⟨o,ho,fun name=>?_⟩
 have e:=hm name
 unfold nsFind findBy at e
 rw [<-Array.find?_toList] at e
 unfold QI
 rw [hd]
 dsimp only
 split
 ·rename_i y q
  rw [q] at e
  exact congrArg some e
 ·rename_i q
  rw [q] at e
  have a:es.toList.any (·.refKey)=false:=by
   rw [List.any_eq_false]
   intro y hy
   obtain ⟨z,t,hkey⟩:=hk y (Array.mem_toList_iff.mp hy)
   simp [Th.refKey,hkey]
  have a':¬ es.toList.any (·.refKey)=true:=by rw [a]; exact LR
  rw [if_neg a']
  exact congrArg some e
theorem sV.look {h:Heap} {x dx C:Addr} {mA:Str->Option Value} (I:sV h x dx C mA):∃ od,PySem.W.InstAt h x (Oi C dx) C (some od)/\∀ name,QI name od=some (mA name):=
 let ⟨od,ho,hl⟩:=Ej I.ns
 ⟨od,⟨I.obj,rfl,rfl,ho⟩,hl⟩
section
variable {prog:Program} {w:World} {A:Around} {E:Value->Shared->Prop} {s:Shared} {K:Fg} {x dx C f:Addr} {mA:Str->Option Value} {name:Str} {v:Value}
theorem Ia {expr:Bool} {Q:Value->Shared->Prop} (X:K.In s.heap) (I:sV s.heap x dx C mA) (hg:Qc K C name=true) (hh:Rh K C=true)
  (ha:NW K (.ref C) name=some none) (hv:mA name=some v) (hv':Ue v=true) (h:Q v { s with toks:=s.toks + 1 }):
  wpAny (model prog w) A (getAttr (.ref x) name expr) Q E s:=by
 obtain ⟨od,J,hl⟩:=I.look
 exact PySem.W.get_value X J (QE hg).1 (PySem.W.findObj_own hh ha rfl (by rw [hl,hv])) hv' h
theorem FT {pl:Sem Bool} {Q:Value×List Value->Shared->Prop} (X:K.In s.heap) (I:sV s.heap x dx C mA) (hg:Qc K C name=true)
  (hf:NW K (.ref C) name=some (some (.ref f))) (ht:Ti K (.ref f)=true) (hv:mA name=none) (h:Q (.ref f,[.ref x]) s):
  wpAny (model prog w) A (QR (.ref x) name pl) Q E s:=by
 obtain ⟨od,J,hl⟩:=I.look
 exact PySem.W.method_fn X J (QE hg).1 (QE hg).2 hf (beq_iff_eq.mp ht) (by show (QI name od).map (·.isSome)=some false; rw [hl,hv]; rfl) h
theorem Ib {ns:List Str} {Q:Unit->Shared->Prop} (X:K.In s.heap) (I:sV s.heap x dx C mA)
  (hs:NW K (.ref C) "__setattr__"=some (some (.builtin "object.__setattr__"))) (hp:TB K C=true) (ht:RV K C name=some none) (hh:Rh K C=true)
  (hw:Ry mA ns) (hsz:ns.length<=LS)
  (h:∀ h',sV h' x dx C (fun y=>if y=name then some v else mA y)->L8 dx s.heap h'->Q () { s with heap:=h',toks:=s.toks + 2 }):
  wpAny (model prog w) A (setAttr (.ref x) name v) Q E s:=by
 obtain ⟨od,J,hl⟩:=I.look
 refine PySem.W.set_plain X J hs (PySem.W.osa_open (s:={ s with toks:=s.toks + 1 }) (r:=none) X J hp ht fun b=>?_)
 obtain ⟨cd,hc,hd'⟩:=PySem.W.any_some hh
 have hx:s.heap.get? x=some ⟨.ref C,some dx,.plain,#[]⟩:=I.obj
 refine LA (LC (LA (LA (wpAny_loadPart hx (LA (PySem.W.Looks.here (s:={ s with toks:=s.toks + 1 }) (PySem.W.looks_clsIn X hc) ?_))))))
 rw [hd']
 refine LC (a:=some dx) (LA (LC (LA ?_)))
 refine wpAny_nsSet1 (s:={ s with toks:=s.toks + 1 }) I.ns fun h' hn2 hs2=>?_
 obtain ⟨oD,esD,epD,hoD,hdD,hcD⟩:=hn2.count (Ry.cons name v hw)
 refine LA (wpAny_lookBehind hoD (by rw [hdD]; exact pastItsLine_dict (Mq hcD (by rw [Ml]; omega))) ?_)
 exact LC (h _ ⟨(hs2.2 _ (Na I.ne)).trans I.obj,hn2,I.ne⟩ hs2)
theorem FU {R:Result->Shared->Prop} {vs:List Value} {kw:List (Str×Value)} (X:K.In s.heap) (hm:UA K C=true)
  (hi:NW K (.ref C) "__init__"=some (some (.ref f))) (hf:PySem.W.typeIn K (.ref f)=some (.type "function"))
  (h:codeAny (model prog w) (A.under (.builtin "type.__call__" ⟨.ref C :: vs,kw⟩)) (.call (.ref f) ⟨.ref (s.heap.objs.size + 1) :: vs,kw⟩) (PySem.W.InitBack (s.heap.objs.size + 1) R)
   { s with heap:=(s.heap.push ND).push (Oi C s.heap.objs.size) }):
  codeAny (model prog w) A (.call (.ref C) ⟨vs,kw⟩) R s:=by
 obtain ⟨hh,g,d,t,os⟩:=s
 exact PySem.W.make_core (PySem.W.makes_of X hm) (PySem.W.looks_findIn X hi) (fun self=>PySem.W.bind_fn X self hf) (.inl rfl) h
end
noncomputable def gd (f:Str) (v:V):List (Str×V)->List (Str×V)
 | []=>[(f,v)]
 | (g,x) :: r=>if g=f then (g,v) :: r else (g,x) :: gd f v r
theorem su (f g:Str) (v:V):∀ fs:List (Str×V),(gd f v fs).lookup g=if g=f then some v else fs.lookup g
 | []=>by
  show O0 g [(f,v)]=_
  by_cases h:g=f
  ·have hb:(g == f)=true:=beq_iff_eq.mpr h
   simp only [O0,hb,if_pos h]
  ·have hb:(g == f)=false:=beq_eq_false_iff_ne.mpr h
   simp only [O0,hb,if_neg h]
 | (k,x) :: r=>by
  have ih:=su f g v r
  rw [show gd f v ((k,x) :: r)=(if k=f then (k,v) :: r else (k,x) :: gd f v r) from rfl]
  by_cases hk:k=f
  ·rw [if_pos hk]
   by_cases h:g=k
   ·have hb:(g == k)=true:=beq_iff_eq.mpr h
    simp only [O0,hb,if_pos (h.trans hk)]
   ·have hb:(g == k)=false:=beq_eq_false_iff_ne.mpr h
    simp only [O0,hb,if_neg (fun e:g=f=>h (e.trans hk.symm))]
  ·rw [if_neg hk]
   by_cases h:g=k
   ·have hb:(g == k)=true:=beq_iff_eq.mpr h
    simp only [O0,hb,if_neg (fun e:g=f=>hk (h.symm.trans e))]
   ·have hb:(g == k)=false:=beq_eq_false_iff_ne.mpr h
    simp only [O0,hb]
    exact ih
theorem qh (f:Str) (v:V):∀ fs:List (Str×V),f∈(gd f v fs).map (·.1)/\∀ g,g∈fs.map (·.1)->g∈(gd f v fs).map (·.1)
 | []=>⟨by simp [gd],fun g h=>by simp at h⟩
 | (k,x) :: r=>by
  obtain ⟨i1,i2⟩:=qh f v r
  rw [show gd f v ((k,x) :: r)=(if k=f then (k,v) :: r else (k,x) :: gd f v r) from rfl]
  by_cases hk:k=f
  ·rw [if_pos hk]
   subst hk
   exact ⟨by simp,fun g h=>by simpa using h⟩
  ·rw [if_neg hk]
   refine ⟨?_,fun g h=>?_⟩
   ·rw [LZ]
    exact LQ _ i1
   ·rw [LZ] at h ⊢
    rcases LI.mp h with e | e
    ·exact LI.mpr (.inl e)
    ·exact LQ _ (i2 g e)
theorem sw (f:Str) (v:V):∀ fs:List (Str×V),(gd f v fs).length<=fs.length + 1
 | []=>by simp [gd]
 | (k,x) :: r=>by
  have ih:=sw f v r
  rw [show gd f v ((k,x) :: r)=(if k=f then (k,v) :: r else (k,x) :: gd f v r) from rfl]
  by_cases hk:k=f
  ·rw [if_pos hk,Ml,Ml]; omega
  ·rw [if_neg hk,Ml,Ml]; omega
theorem gS.some_of {v:V} {o:Option Value} (r:gS (some v) o):∃ u,o=some u/\aJ v u:=by
 cases o with
 | none=>exact (show False from r).elim
 | some u=>exact ⟨u,rfl,r⟩
theorem gS.none_of {o:Option Value} (r:gS none o):o=none:=by
 cases o with
 | none=>rfl
 | some u=>exact (show False from r).elim
theorem Ek {v:V} {u:Value} (r:aJ v u):Ue u=true:=by
 cases v with
 | non=>cases (show u=M6 from r); rfl
 | bl b=>cases (show u=Nd b from r); rfl
 | int i=>obtain ⟨t,e⟩:=(show ∃ t,u=OL i t from r); cases e; rfl
 | str x=>obtain ⟨t,e⟩:=(show ∃ t,u=RU x t from r); cases e; rfl
 | byt b=>obtain ⟨t,e⟩:=(show ∃ t,u=Value.bytes b t from r); cases e; rfl
 | flt b=>obtain ⟨t,e⟩:=(show ∃ t,u=T3 b t from r); cases e; rfl
 | ref a=>cases (show u=Mh a from r); rfl
 | ty n=>cases (show u=M7 n from r); rfl
section
variable {P:Program} {w:World} {H H':Hp} {h h':Heap} {a C dx:Addr} {fs fs':List (Str×V)}
theorem rA (hok:HOk P w H h) (e:H a=some (.ins C dx fs)):∃ mA,sV h a dx C mA/\(∀ f,gS (fs.lookup f) (mA f))/\Ry mA (fs.map (·.1))/\fs.length<=1000/\H dx=some (.own a):=by
 obtain ⟨d,z,ne,ob,mA,n,r,q⟩:=(show bJ P w H h a (.ins C dx fs) from hok a _ e)
 exact ⟨mA,⟨ob,n,ne⟩,r,q,z,d⟩
end
structure Cls (K:Fg) (C:Addr):Prop where
 pg:Qc K C US=true
 hd:Rh K C=true
 po:TB K C=true
 sa:NW K (.ref C) "__setattr__"=some (some (.builtin "object.__setattr__"))
theorem Cls.get {K:Fg} {C:Addr} (c:Cls K C) (f:Str):Qc K C f=true:=c.pg
noncomputable def eh (K:Fg) (C:Addr) (f:Str):Prop:=NW K (.ref C) f=some none
theorem eh.taker {K:Fg} {C:Addr} {f:Str} (n:eh K C f):RV K C f=some none:=by
 unfold RV
 rw [show NW K (.ref C) f=some none from n]
 rfl
structure zy (K:Fg) (C:Addr) (m:Str) (f:Addr):Prop where
 at_:NW K (.ref C) m=some (some (.ref f))
 fn:Ti K (.ref f)=true
 kp:O7 K (.ref f)=true
section
variable {X:Cx} {pins:List (Addr×Obj)} {σ:St} {H:Hp} {s:Shared} {a C dx:Addr} {fs:List (Str×V)} {f:Str} {v:V} {A:Around} {E:Value->Shared->Prop}
theorem Cq {b:Bool} {Q:Value->Shared->Prop} (I:Inv X pins σ H s) (e:H a=some (.ins C dx fs)) (c:Cls X.K C) (n:eh X.K C f) (l:fs.lookup f=some v)
  (h:∀ u s',Inv X pins σ H s'->aJ v u->Q u s'):wpAny (model X.prog X.w) A (getAttr (.ref a) f b) Q E s:=by
 obtain ⟨mA,O,r,_,_,_⟩:=rA I.hok e
 obtain ⟨u,hu,ru⟩:=gS.some_of (v:=v) (o:=mA f) (by rw [<-l]; exact r f)
 exact Ia I.kIn O (c.get f) c.hd n hu (Ek ru) (h u _ (I.tok _) ru)
theorem uj {m:Str} {g:Addr} {pl:Sem Bool} {Q:Value×List Value->Shared->Prop} (I:Inv X pins σ H s) (e:H a=some (.ins C dx fs)) (c:Cls X.K C) (k:zy X.K C m g) (l:fs.lookup m=none)
  (h:Q (.ref g,[.ref a]) s):wpAny (model X.prog X.w) A (QR (.ref a) m pl) Q E s:=by
 obtain ⟨mA,O,r,_,_,_⟩:=rA I.hok e
 have hn:mA m=none:=gS.none_of (by rw [<-l]; exact r m)
 exact FT I.kIn O (c.get m) k.at_ k.fn hn h
theorem Cr {y:V} {u:Value} {Q:Unit->Shared->Prop} (I:Inv X pins σ H s) (e:H a=some (.ins C dx fs)) (c:Cls X.K C) (n:eh X.K C f) (hl:fs.length < 1000) (ry:aJ y u)
  (h:∀ s',Inv X pins σ (upd H a (.ins C dx (gd f y fs))) s'->Q () s'):wpAny (model X.prog X.w) A (setAttr (.ref a) f u) Q E s:=by
 obtain ⟨mA,O,r,wi,_,ho⟩:=rA I.hok e
 have hz:(fs.map (·.1)).length<=LS:=by rw [LF,LP]; omega
 refine Ib I.kIn O c.sa c.po n.taker c.hd wi hz fun h' O' sb=>h _ ?_
 have hd:∃ o,h'.get? dx=some o:=let ⟨o,_,_,e',_⟩:=O'.ns; ⟨o,e'⟩
 refine I.write (x:=a) (e:=dx) (by rw [e]; exact Ov) (.inr ho) (fun b q hb z=>(sb.2 b hb).trans z) hd ?_
 refine ⟨by rw [aS O.ne]; exact ho,?_,O.ne,O'.obj,_,O'.ns,fun g=>?_,fun g hg=>?_⟩
 ·have:=sw f y fs; omega
 ·show gS ((gd f y fs).lookup g) (if g=f then some u else mA g)
  rw [su]
  by_cases q:g=f
  ·rw [if_pos q,if_pos q]; exact ry
  ·rw [if_neg q,if_neg q]; exact r g
 ·by_cases q:g=f
  ·rw [q]; exact (qh f y fs).1
  ·refine (qh f y fs).2 g (wi g fun z=>hg ?_)
   show (if g=f then some u else mA g)=none
   rw [if_neg q]; exact z
theorem Inv.made (I:Inv X pins σ H s):Inv X pins σ (upd (upd H s.heap.objs.size (.own (s.heap.objs.size + 1))) (s.heap.objs.size + 1) (.ins C s.heap.objs.size []))
  { s with heap:=(s.heap.push ND).push (Oi C s.heap.objs.size) }:=by
 have e1:(s.heap.push ND).get? s.heap.objs.size=some ND:=LL s.heap rfl
 have e2:((s.heap.push ND).push (Oi C s.heap.objs.size)).get? (s.heap.objs.size + 1)=some (Oi C s.heap.objs.size):=by
  have:=LL (s.heap.push ND) (o:=Oi C s.heap.objs.size) rfl
  rwa [MF] at this
 have e3:(s.heap.push ND).Ns s.heap.objs.size (fun _=>none):=⟨ND,#[],_,e1,rfl,(fun e he=>absurd he (by simp)),fun _=>rfl⟩
 have I1:=I.laid (a:=s.heap.objs.size) (o:=.own (s.heap.objs.size + 1)) (h':=s.heap.push ND) (t':=s.toks) (fun b u q=>LB _ q) (LH _) ⟨_,e1⟩
 refine I1.laid (a:=s.heap.objs.size + 1) (o:=.ins C s.heap.objs.size []) (t':=s.toks) (fun b u q=>LB _ q) (Qn (MF _ _)) ?_
 have ne:s.heap.objs.size≠s.heap.objs.size + 1:=Mn (Nt _)
 refine ⟨by rw [aS ne,aA],MI _,ne,e2,fun _=>none,(Heap.Ns1.of_empty e3).at fun o q=>LB _ q,fun _=>Ov,fun y hy=>absurd rfl hy⟩
theorem Ic {prog:Program} {w:World} {env:Env} {e:Expr} {f:Str} {pos:Pos} {s:Shared} {Q:Value->Shared->Prop} (hb:Pg e f env (eval e env)=eval e env)
  (h:wpAny (model prog w) A (eval e env) (fun o s₁=>wpAny (model prog w) A (getAttr o f true) Q E s₁) E s):wpAny (model prog w) A (eval (.Attribute e f pos) env) Q E s:=
 Attribute_any_ h (by rw [arm_eval_Attribute,hb])
end
noncomputable def dv (K:Fg) (ta:TE) (f:Str):TE:=fun σ H Q=>ta σ H fun x H1=>∃ a C dx fs v,x=.ref a/\H1 a=some (.ins C dx fs)/\Cls K C/\eh K C f/\fs.lookup f=some v/\Q v H1
noncomputable def mY (K:Fg) (ta tv:TE) (f:Str):TS:=fun D σ H=>tv σ H fun y H1=>ta σ H1 fun x H2=>∃ a C dx fs,x=.ref a/\H2 a=some (.ins C dx fs)/\Cls K C/\eh K C f/\fs.length < 1000/\
 D.nx σ (upd H2 a (.ins C dx (gd f y fs)))
section
variable {X:Cx} {o e value:Expr} {f:Str} {pos pos' tpos:Pos} {ta tv:TE}
theorem b7 (he:PE X e ta) (hb:Pg e f X.env (eval e X.env)=eval e X.env):PE X (.Attribute e f pos) (dv X.K ta f):=by
 intro pins s σ H Q I h
 refine Ic hb (thn (he pins s σ H _ I h) fun u s1 ⟨x,H1,I1,rx,a,C,dx,fs,v,ex,ea,c,n,l,q⟩=>?_)
 subst ex
 obtain rfl:u=Mh a:=rx
 exact Cq I1 ea c n l fun u' s2 I2 ru=>⟨v,H1,I2,ru,q⟩
theorem j0 (ha:PE X o ta) (hv:PE X value tv) (hs:Tf value (some (.Attribute o f pos')) pos.line X.env=pure false):PS X (.Assign [.Attribute o f pos'] value pos) (mY X.K ta tv f):=by
 intro pins s σ H D I h
 refine plainObj_wpAny_Assign_Attribute (thn (hv pins s σ H _ I h) fun u s1 ⟨y,H1,I1,ry,q⟩=>thn (ha pins s1 σ H1 _ I1 q) fun ov s2 ⟨x,H2,I2,rx,a,C,dx,fs,ex,ea,c,n,l,q2⟩=>?_) hs
 subst ex
 obtain rfl:ov=Mh a:=rx
 exact Cr I2 ea c n l ry fun s3 I3=>⟨σ,_,I3,q2⟩
end
section
variable {X:Cx} {pins:List (Addr×Obj)} {σ:St} {H:Hp} {s:Shared} {A:Around} {E:Value->Shared->Prop} {Q:Value->Shared->Prop} {c:Value} {b:Bool}
inductive fo (K:Fg) (H:Hp):V->Value->Prop where
 | non:fo K H .non (.type "NoneType")
 | bl (x:Bool):fo K H (.bl x) (.type "bool")
 | int (i:Int):fo K H (.int i) (.type "int")
 | str (x:Str):fo K H (.str x) (.type "str")
 | flt (x:UInt64):fo K H (.flt x) (.type "float")
 | lst {a:Addr} {xs:List V} (e:H a=some (.lst xs)):fo K H (.ref a) (.type "list")
 | frz {a:Addr} {o:Obj} {xs:List V} (e:H a=some (.frz o (.lst xs))):fo K H (.ref a) (.type "list")
 | tup {a:Addr} {xs:List V} (e:H a=some (.tup xs)):fo K H (.ref a) (.type "tuple")
 | dK {a:Addr} {kvs:List (Key×V)} (e:H a=some (.dK kvs)):fo K H (.ref a) (.type "dict")
 | dT {a:Addr} {kvs:List (List Key×V)} (e:H a=some (.dT kvs)):fo K H (.ref a) (.type "dict")
 | ins {a C dx:Addr} {fs:List (Str×V)} (e:H a=some (.ins C dx fs)) (cl:Cls K C) (ha:NW K (.ref C) "__class__"=some (some (.builtin "object.__class__")))
   (hn:PySem.W.specialIn K (.builtin "object.__class__") "__get__"=some (some (.builtin "getset_descriptor.__get__"))) (htk:PySem.W.takesIn K (.builtin "object.__class__")=some true)
   (hm:PySem.W.mroIn K C (.type "object")=some true):fo K H (.ref a) (.ref C)
theorem El {x:V} {u t:Value} (I:Inv X pins σ H s) (rx:aJ x u) (ty:fo X.K H x t) (e:ML X.K t c=some b) (h:∀ tk,Q (.bool b) { s with toks:=tk }):
  wpAny (model X.prog X.w) A (call (.builtin "isinstance") [u,c]) Q E s:=by
 cases ty with
 | non=>cases (show u=M6 from rx); exact Nw PySem.W.kitx_none I.kIn Ov e (fun z=>nomatch z) h
 | bl y=>cases (show u=Nd y from rx); exact Nw PySem.W.kitx_bool I.kIn Ov e (fun z=>nomatch z) h
 | int i=>obtain ⟨t,q⟩:=(show ∃ t,u=OL i t from rx); cases q; exact Nw PySem.W.kitx_int I.kIn Ov e (fun z=>nomatch z) h
 | str y=>obtain ⟨t,q⟩:=(show ∃ t,u=RU y t from rx); cases q; exact Nw PySem.W.kitx_str I.kIn Ov e (fun z=>nomatch z) h
 | flt y=>obtain ⟨t,q⟩:=(show ∃ t,u=T3 y t from rx); cases q; exact Nw PySem.W.kitx_float I.kIn Ov e (fun z=>nomatch z) h
 | @lst a xs ea=>
  cases (show u=Mh a from rx)
  obtain ⟨_,_,n,_,h1⟩:=(show bJ X.prog X.w H s.heap a (.lst xs) from I.hok a _ ea)
  exact Nw TC I.kIn ⟨_,h1,rfl⟩ e (fun z=>nomatch z) h
 | @frz a ob xs ea=>
  cases (show u=Mh a from rx)
  obtain ⟨_,_,_,n,_,h1⟩:=(show bJ X.prog X.w H s.heap a (.frz ob (.lst xs)) from I.hok a _ ea)
  exact Nw TC I.kIn ⟨_,h1,rfl⟩ e (fun z=>nomatch z) h
 | @tup a xs ea=>
  cases (show u=Mh a from rx)
  obtain ⟨_,_,_,p⟩:=(show bJ X.prog X.w H s.heap a (.tup xs) from I.hok a _ ea)
  obtain ⟨o,h1,h2,_⟩:=p
  exact Nw PySem.W.kitx_tuple I.kIn ⟨o,h1,h2⟩ e (fun z=>nomatch z) h
 | @dK a kvs ea=>
  cases (show u=Mh a from rx)
  obtain ⟨_,_,vs,_,p⟩:=(show bJ X.prog X.w H s.heap a (.dK kvs) from I.hok a _ ea)
  obtain ⟨o,es,ep,h1,h2,_⟩:=p
  exact Nw TF I.kIn ⟨o,h1,h2.1⟩ e (fun z=>nomatch z) h
 | @dT a kvs ea=>
  cases (show u=Mh a from rx)
  obtain ⟨_,_,xs,_,o,es,ep,h1,h2,_⟩:=(show bJ X.prog X.w H s.heap a (.dT kvs) from I.hok a _ ea)
  exact Nw TF I.kIn ⟨o,h1,h2.1⟩ e (fun z=>nomatch z) h
 | @ins a C dx fs ea cl ha hn htk hm=>
  cases (show u=Mh a from rx)
  obtain ⟨mA,O,_⟩:=rA I.hok ea
  obtain ⟨od,J,_⟩:=O.look
  exact Nw (PySem.W.kitx_own (cl.get _) cl.hd ha hn htk hm) I.kIn J e (fun z=>nomatch z) h
end
end L2
namespace L2
open PySem PySem.Spec PyProof.Rows
structure b8 (k:Nat) (A:Around):Prop where
 hd:A.handled=none
 dp:A.depth + 3 * k + 5 < recursionLimit
 un:A.units + 16 * k + 200 < cLine
theorem b8.mono {j k:Nat} {A:Around} (r:b8 k A) (h:j<=k):b8 j A:=⟨r.hd,by have:=r.dp; omega,by have:=r.un; omega⟩
theorem b8.deeper {k:Nat} {A:Around} (r:b8 (k + 1) A) (env:Env):b8 k (A.deeper env):=
 ⟨r.hd,by have:=r.dp; show A.depth + 1 + 3 * k + 5 < _; omega,by have:=r.un; show A.units + 3 + 16 * k + 200 < _; omega⟩
theorem Cs {A:Around} {C:Addr} {us:List Value} {kw:List (Str×Value)}:(A.under (.builtin "type.__call__" ⟨.ref C :: us,kw⟩)).depth=A.depth + 1:=by
 first | rfl | simp [Tj,Code.weight,Code.isCreation,Code.isGuard,Code.isCaller,Code.frames,Tn,guardIds]
theorem Ct {A:Around} {C:Addr} {us:List Value} {kw:List (Str×Value)}:(A.under (.builtin "type.__call__" ⟨.ref C :: us,kw⟩)).units=A.units + 1:=by
 first | rfl | simp [Tj,Code.cUnits,Code.frames,Tn]
theorem b8.make {k:Nat} {A:Around} (r:b8 (k + 1) A) (C:Addr) (us:List Value) (kw:List (Str×Value)):b8 k (A.under (.builtin "type.__call__" ⟨.ref C :: us,kw⟩)):=
 ⟨r.hd,by have:=r.dp; rw [Cs]; omega,by have:=r.un; rw [Ct]; omega⟩
theorem b8.depth {k:Nat} {A:Around} (r:b8 k A):A.depth < recursionLimit:=by have:=r.dp; omega
theorem b8.units0 {k:Nat} {A:Around} (r:b8 k A):A.units < cLine:=by have:=r.un; omega
noncomputable def af:TA:=fun _ H Q=>Q [] H
noncomputable def aa (ta:TE) (tr:TA):TA:=fun σ H Q=>ta σ H fun x H1=>tr σ H1 fun xs H2=>Q (x :: xs) H2
section
variable {X:Cx} {e:Expr} {es:List Expr} {te:TE} {t:TA} {pos:Pos}
theorem ae:PA X [] af:=fun _ _ _ _ H Q I h=>Ri ⟨[],H,I,.nil,h⟩
theorem gz (ha:PE X e te) (hr:PA X es t) (hs:L9 (e :: es) X.env=(false,eval e X.env) :: L9 es X.env:=by rfl):PA X (e :: es) (aa te t):=by
 intro pos pins s σ H Q I h
 rw [hs]
 show wpAny _ _ (spliced ((false,eval e X.env) :: backTo pos (L9 es X.env))) _ _ s
 refine QS (thn (ha pins s σ H _ I h) fun u s1 ⟨x,H1,I1,r1,q1⟩=>?_)
 exact thn (hr pos pins s1 σ H1 _ I1 q1) fun us s2 ⟨xs,H2,I2,r2,q2⟩=>⟨x :: xs,H2,I2,.cons r1 r2,q2⟩
noncomputable def Cu (t:TA):TE:=fun σ H Q=>t σ H fun xs H1=>xs.length<=LS/\∀ p,H1 p=none->Q (.ref p) (upd H1 p (.tup xs))
noncomputable def zz (t:TA):TE:=fun σ H Q=>t σ H fun xs H1=>xs.length<=LS/\∀ p,H1 p=none->Q (.ref p) (upd H1 p (.lst xs))
theorem Em {x1} (h:PA X es t):PE X (.Tuple es x1 pos) (Cu t):=by
 intro pins s σ H Q I hq
 refine S4 (thn (h pos pins s σ H _ I hq) fun us s1 ⟨xs,H1,I1,r,z,q⟩=>⟨by rw [<-r.length]; exact z,?_⟩)
 have hf:H1 s1.heap.objs.size=none:=I1.hok.fresh (LH _)
 refine ⟨.ref s1.heap.objs.size,upd H1 s1.heap.objs.size (.tup xs),I1.laid (t':=s1.toks) (fun b u e=>LB _ e) (LH _) ?_,rfl,q _ hf⟩
 exact ⟨z,us,r,eQ.new _ _⟩
theorem zA (h:PA X es t):PE X (.List es pos) (zz t):=by
 intro pins s σ H Q I hq
 refine To (thn (h pos pins s σ H _ I hq) fun us s1 ⟨xs,H1,I1,r,z,q⟩=>⟨by rw [<-r.length]; exact z,?_⟩)
 have hf:H1 s1.heap.objs.size=none:=I1.hok.fresh (LH _)
 refine ⟨.ref s1.heap.objs.size,upd H1 s1.heap.objs.size (.lst xs),I1.laid (t':=s1.toks) (fun b u e=>LB _ e) (LH _) ?_,rfl,q _ hf⟩
 exact ⟨z,us,0,r,LL _ rfl⟩
end
noncomputable abbrev Sp:=List V->Hp->VK->XK->Prop
noncomputable abbrev CXT:=List Env->Hp->Shared->XK->Value->Shared->Prop
structure sW (P:Program) (w:World) (K:Fg) (mg:Str->Option Value) (base:Heap) (A:Around) (outer:List Env) (s:Shared) (H:Hp):Prop where
 frames:A.frames=some outer
 mod:Mod K mg base
 bs:∀ b o,base.get? b=some o->s.heap.get? b=some o/\H b=none
 bsz:base.objs.size<=s.heap.objs.size
 funs:s.heap.FunFrames base outer
 frf:∀ b∈frs outer,H b=none
 hok:HOk P w H s.heap
 bare:AllBare s.gens
noncomputable def CE (outer:List Env) (P:Program) (w:World) (H:Hp) (s:Shared) (Q:VK) (u:Value) (s':Shared):Prop:=
 ∃ v H',s'.os=s.os/\AllBare s'.gens/\Un (frs outer) [] H H' s.heap s'.heap/\HOk P w H' s'.heap/\aJ v u/\Q v H'
noncomputable def CR (CX:CXT) (outer:List Env) (P:Program) (w:World) (H:Hp) (s:Shared) (Q:VK) (E:XK) (r:Result) (s':Shared):Prop:=
 match r with
 | .ok (.ret u)=>CE outer P w H s Q u s'
 | .ok _=>False
 | .error e=>CX outer H s E e s'
structure gT (P:Program) (w:World) (K:Fg) (mg:Str->Option Value) (base:Heap) (CX:CXT) (k:Nat) (f:Addr) (fd:L6) (ps:List Str) (sp:Sp):Prop where
 len:∀ vs H Q E,sp vs H Q E->vs.length=ps.length
 run:∀ (A:Around) (outer:List Env) (s:Shared) (H:Hp) (args:Args) (us:List Value) (vs:List V) (Q:VK) (E:XK),b8 k A->sW P w K mg base A outer s H->BindsTo s fd args (ps.zip us)->aH vs us->sp vs H Q E->
  codeAny (model P w) A (.call (.ref f) args) (CR CX outer P w H s Q E) s
theorem sW.make {P:Program} {w:World} {K:Fg} {mg:Str->Option Value} {base:Heap} {A:Around} {outer:List Env} {s:Shared} {H:Hp} (e:sW P w K mg base A outer s H) (C:Addr) (us:List Value) (kw:List (Str×Value)):
  sW P w K mg base (A.under (.builtin "type.__call__" ⟨.ref C :: us,kw⟩)) outer s H:=⟨by first | exact e.frames | (simpa [Tj,Code.envs,Tn,pushEnvs] using e.frames),e.mod,e.bs,e.bsz,e.funs,e.frf,e.hok,e.bare⟩
section
variable {X:Cx} {pins:List (Addr×Obj)} {σ:St} {H:Hp} {s s':Shared}
theorem Inv.env0 (I:Inv X pins σ H s):sW X.prog X.w X.K X.mg X.base X.A X.stack s H:=
 ⟨I.ok.frames,I.ok.mod,I.bs,Mq I.ok.bsz I.sz,I.stack,I.stkFree,I.hok,I.bare⟩
theorem Inv.after {Q:VK} {u:Value} (I:Inv X pins σ H s) (h:CE X.stack X.prog X.w H s Q u s'):EP X pins σ Q u s':=by
 obtain ⟨v,H',os,bare,un,hok,r,q⟩:=h
 obtain ⟨hh,g,d,t,os'⟩:=s'
 obtain rfl:os'=s.os:=os
 exact ⟨v,H',I.call (h':=hh) (g':=g) (d':=d) (t':=t) (ch:=[]) un hok bare (fun b z=>absurd z (by simp)),r,q⟩
end
noncomputable def av (sp:Sp) (dvs:List V) (E:XK) (t:TA):TE:=fun σ H Q=>t σ H fun vs H1=>sp (vs++dvs) H1 Q E
noncomputable def ek (C:Addr) (m:Str) (sp:Sp) (dvs:List V) (E:XK) (ta:TE) (t:TA):TE:=fun σ H Q=>ta σ H fun x H1=>∃ a dx fs,x=.ref a/\H1 a=some (.ins C dx fs)/\fs.lookup m=none/\
 t σ H1 fun vs H2=>sp (x :: (vs++dvs)) H2 Q E
noncomputable def uk (C:Addr) (sp:Sp) (dvs:List V) (E:XK) (t:TA):TE:=fun σ H Q=>t σ H fun vs H1=>∀ x dx,H1 x=none->H1 dx=none->dx≠x->
 sp (.ref x :: (vs++dvs)) (upd (upd H1 dx (.own x)) x (.ins C dx [])) (fun v H2=>v=.non/\Q (.ref x) H2) E
noncomputable def fq (K:Fg) (fd:L6) (ps:List Str) (ds:List Value):Prop:=
 ∀ (s:Shared) (us:List Value),K.In s.heap->(us++ds).length=ps.length->BindsTo s fd ⟨us,[]⟩ (ps.zip (us++ds))
theorem fq.all {K:Fg} {fd:L6} {ps:List Str} (h:∀ us:List Value,us.length=ps.length->bindArgs fd ⟨us,[]⟩=pure (ps.zip us)):fq K fd ps []:=fun s us _ hl=>by
 rw [NH] at hl ⊢
 exact .of_eq (h us hl)
noncomputable def lg (CX:CXT) (X:Cx) (E:XK):Prop:=∀ (pins:List (Addr×Obj)) (σ:St) (H:Hp) (s:Shared) (e:Value) (s':Shared),Inv X pins σ H s->CX X.stack H s E e s'->X.xe e s'
section
variable {X:Cx} {CX:CXT} {k:Nat} {f C:Addr} {fd:L6} {ps:List Str} {sp:Sp} {dvs:List V} {ds:List Value} {E:XK} {x m:Str} {p pos apos:Pos} {e o:Expr} {es:List Expr} {ta:TE} {t:TA}
theorem zB {pins:List (Addr×Obj)} {σ:St} {H:Hp} {s:Shared} {Q:VK} {us:List Value} {vs:List V} (F:gT X.prog X.w X.K X.mg X.base CX k f fd ps sp) (hr:b8 k X.A) (hb:fq X.K fd ps ds) (hd:aH dvs ds) (hx:lg CX X E)
  (I:Inv X pins σ H s) (r:aH vs us) (h:sp (vs++dvs) H Q E):wpAny (model X.prog X.w) X.A (call (.ref f) us) (EP X pins σ Q) X.xe s:=by
 have r2:aH (vs++dvs) (us++ds):=r.append hd
 have hl:(us++ds).length=ps.length:=by rw [<-r2.length]; exact F.len _ _ _ _ h
 refine UB (OP (F.run X.A X.stack s H ⟨us,[]⟩ (us++ds) (vs++dvs) Q E hr I.env0 (hb s us I.kIn hl) r2 h) fun r s' hq=>?_)
 cases r with
 | error e=>exact hx pins σ H s e s' I hq
 | ok fl=>
  cases fl with
  | ret u=>exact I.after hq
  | next=>exact Oc hq
  | brk=>exact Oc hq
  | cont=>exact Oc hq
theorem Id (F:gT X.prog X.w X.K X.mg X.base CX k f fd ps sp) (hr:b8 k X.A) (hg:Gl X x) (hm:X.mg x=some (.ref f)) (hk:O7 X.K (.ref f)=true) (hb:fq X.K fd ps ds) (hd:aH dvs ds) (hx:lg CX X E)
  (ha:PA X (e :: es) t) (hdb:(x == ("__debug__":Str))=false:=by decide) (he:L9 (e :: es) X.env=(false,eval e X.env) :: L9 es X.env:=by rfl) (hpl:(backTo pos (L9 es X.env)).any (·.1)=false:=by rfl):
  PE X (.Call (.Name x p) (e :: es) [] pos) (av sp dvs E t):=by
 intro pins s σ H Q I h
 refine NL (ww I hg hm ?_ hdb)
 refine QT (h₀:=X.base) I.ok.mod.kin hk (thn (ha pos pins s σ H _ I h) fun us s1 ⟨vs,H1,I1,r,q⟩=>⟨I1.kIn,?_⟩) he hpl
 exact zB F hr hb hd hx I1 r q
theorem Ie {pl:Sem Bool} (he:PE X o ta) (c:Cls X.K C) (hm:zy X.K C m f) (F:gT X.prog X.w X.K X.mg X.base CX k f fd ps sp) (hr:b8 k X.A) (hb:fq X.K fd ps ds) (hd:aH dvs ds) (hx:lg CX X E) (ha:PA X (e :: es) t)
  (hst:L9 (e :: es) X.env=(false,eval e X.env) :: L9 es X.env:=by rfl) (hpl:(backTo pos (L9 es X.env)).any (·.1)=false:=by rfl)
  (ht:eval (.Call (.Attribute o m apos) (e :: es) [] pos) X.env=(do
   let ov <-eval o X.env
   standAt apos.atName
   let (f,first) <-holding [ov] (QR ov m pl)
   Ug pos f first (backTo pos (L9 (e :: es) X.env)) (Pc pos (Ow [] X.env))):=by rfl):
  PE X (.Call (.Attribute o m apos) (e :: es) [] pos) (ek C m sp dvs E ta t):=by
 intro pins s σ H Q I h
 refine Si (pl:=pl) (thn (he pins s σ H _ I h) fun u s1 ⟨x,H1,I1,rx,a,dx,fs,ex,ea,l,q⟩=>?_) ht
 subst ex
 obtain rfl:u=Mh a:=rx
 refine uj I1 ea c hm l ?_
 refine QT (first:=[.ref a]) (h₀:=X.base) I.ok.mod.kin hm.kp (thn (ha pos pins s1 σ H1 _ I1 q) fun us s2 ⟨vs,H2,I2,r,q2⟩=>⟨I2.kIn,?_⟩) hst hpl
 exact zB (us:=.ref a :: us) (vs:=.ref a :: vs) F hr hb hd hx I2 (.cons rfl r) q2
theorem FV {pl:Sem Bool} (he:PE X o ta) (c:Cls X.K C) (hm:zy X.K C m f) (F:gT X.prog X.w X.K X.mg X.base CX k f fd ps sp) (hr:b8 k X.A) (hb:fq X.K fd ps ds) (hd:aH dvs ds) (hx:lg CX X E)
  (ht:eval (.Call (.Attribute o m apos) [] [] pos) X.env=(do
   let ov <-eval o X.env
   standAt apos.atName
   let (f,first) <-holding [ov] (QR ov m pl)
   Ug pos f first (backTo pos (L9 [] X.env)) (Pc pos (Ow [] X.env))):=by rfl):
  PE X (.Call (.Attribute o m apos) [] [] pos) (ek C m sp dvs E ta af):=by
 intro pins s σ H Q I h
 refine Si (pl:=pl) (thn (he pins s σ H _ I h) fun u s1 ⟨x,H1,I1,rx,a,dx,fs,ex,ea,l,q⟩=>?_) ht
 subst ex
 obtain rfl:u=Mh a:=rx
 refine uj I1 ea c hm l ?_
 exact PySem.W.callWith_K0 (first:=[.ref a]) I1.kIn hm.kp (zB (us:=[.ref a]) (vs:=[.ref a]) F hr hb hd hx I1 (.cons rfl .nil) q)
structure Mk (K:Fg) (C f:Addr):Prop where
 makes:UA K C=true
 init:NW K (.ref C) "__init__"=some (some (.ref f))
 fn:Ti K (.ref f)=true
 kp:O7 K (.ref C)=true
theorem FW {pins:List (Addr×Obj)} {σ:St} {H:Hp} {s:Shared} {Q:VK} {us:List Value} {vs:List V} (M:Mk X.K C f) (F:gT X.prog X.w X.K X.mg X.base CX k f fd ps sp) (hr:b8 (k + 1) X.A) (hb:fq X.K fd ps ds) (hd:aH dvs ds)
  (hx:lg CX X E) (I:Inv X pins σ H s) (r:aH vs us)
  (h:∀ x dx,H x=none->H dx=none->dx≠x->sp (.ref x :: (vs++dvs)) (upd (upd H dx (.own x)) x (.ins C dx [])) (fun v H2=>v=.non/\Q (.ref x) H2) E):
  wpAny (model X.prog X.w) X.A (call (.ref C) us) (EP X pins σ Q) X.xe s:=by
 have hq:=h (s.heap.objs.size + 1) s.heap.objs.size (I.hok.fresh (OM _)) (I.hok.fresh (LH _)) (Mn (Nt _))
 have I2:=Inv.made (C:=C) I
 have r2:aH (V.ref (s.heap.objs.size + 1) :: (vs++dvs)) (Mh (s.heap.objs.size + 1) :: (us++ds)):=.cons rfl (r.append hd)
 have hl:(Mh (s.heap.objs.size + 1) :: us++ds).length=ps.length:=by
  have e:=r2.length
  rw [F.len _ _ _ _ hq] at e
  exact e.symm
 refine UB (FU (f:=f) I.kIn M.makes M.init (beq_iff_eq.mp M.fn) (OP (F.run _ X.stack _ _ ⟨Mh (s.heap.objs.size + 1) :: us,[]⟩ (Mh (s.heap.objs.size + 1) :: (us++ds)) _ _ E (hr.make C us [])
  (I2.env0.make C us []) (hb _ (Mh (s.heap.objs.size + 1) :: us) I2.kIn hl) r2 hq) fun r s' hq'=>?_))
 cases r with
 | error e=>exact hx pins σ _ _ e s' I2 hq'
 | ok fl=>
  cases fl with
  | ret u=>
   obtain ⟨v,H',I3,rv,ev,q3⟩:=I2.after hq'
   subst ev
   exact ⟨rv,⟨V.ref (s.heap.objs.size + 1),H',I3,rfl,q3⟩⟩
  | next=>exact Oc hq'
  | brk=>exact Oc hq'
  | cont=>exact Oc hq'
theorem Ig (M:Mk X.K C f) (F:gT X.prog X.w X.K X.mg X.base CX k f fd ps sp) (hr:b8 (k + 1) X.A) (hg:Gl X x) (hm:X.mg x=some (.ref C)) (hb:fq X.K fd ps ds) (hd:aH dvs ds) (hx:lg CX X E)
  (ha:PA X (e :: es) t) (hdb:(x == ("__debug__":Str))=false:=by decide) (he:L9 (e :: es) X.env=(false,eval e X.env) :: L9 es X.env:=by rfl) (hpl:(backTo pos (L9 es X.env)).any (·.1)=false:=by rfl):
  PE X (.Call (.Name x p) (e :: es) [] pos) (uk C sp dvs E t):=by
 intro pins s σ H Q I h
 refine NL (ww I hg hm ?_ hdb)
 refine QT (h₀:=X.base) I.ok.mod.kin M.kp (thn (ha pos pins s σ H _ I h) fun us s1 ⟨vs,H1,I1,r,q⟩=>⟨I1.kIn,?_⟩) he hpl
 exact FW M F hr hb hd hx I1 r q
end
noncomputable def PK (X:Cx) (kws:List Keyword) (t:TA):Prop:=
 ∀ (pos:Pos) (pins:List (Addr×Obj)) (s:Shared) (σ:St) (H:Hp) (Q:List V->Hp->Prop),Inv X pins σ H s->t σ H Q->wpAny (model X.prog X.w) X.A (evalAll ((Pc pos (Ow kws X.env)).map (·.2))) (AP X pins σ Q) X.xe s
section
variable {X:Cx} {CX:CXT} {k:Nat} {f C:Addr} {fd:L6} {ps ks:List Str} {sp:Sp} {E:XK} {x m:Str} {p pos apos kpos:Pos} {e o:Expr} {es:List Expr} {kws:List Keyword} {te ta:TE} {t tk:TA} {nm:Option Str}
theorem JH:PK X [] af:=fun _ _ _ _ H Q I h=>wpAny_evalAll_nil ⟨[],H,I,.nil,h⟩
theorem Ih (ha:PE X e te) (hr:PK X kws t):PK X (⟨nm,e,kpos⟩ :: kws) (aa te t):=by
 intro pos pins s σ H Q I h
 show wpAny _ _ (evalAll ((do let v <-eval e X.env; standAt pos; pure v) :: (Pc pos (Ow kws X.env)).map (·.2))) _ _ s
 refine wpAny_evalAll_cons (LA (thn (ha pins s σ H _ I h) fun u s1 ⟨x,H1,I1,r1,q1⟩=>LA (Q3 (LC ?_))))
 exact thn (hr pos pins s1 σ H1 _ I1 q1) fun us s2 ⟨xs,H2,I2,r2,q2⟩=>⟨x :: xs,H2,I2,.cons r1 r2,q2⟩
variable {g:List Value->List Value->List Value} {gV:List V->List V->List V}
end
structure aB (N P:List Str) (sc:Scope):Prop where
 kind:sc.kind=.function
 co:sc.isCoroutine=false
 gen:sc.isGenerator=false
 nd:N.Nodup
 pre:N.take P.length=P
 par:∀ x∈P,sc.names.lookup x=some .local\/sc.names.lookup x=some .cell
 nofree:∀ y∈sc.names,y.2≠.free
theorem xH {kindOf:Str->Option MA} {x:Str}:∀ {binds:List (Str×Value)} {m:Str->Option Value},(∀ v,(x,v)∉binds)->bindL kindOf binds m x=m x
 | [],_,_=>rfl
 | (n,v) :: r,m,h=>by
  unfold bindL
  rw [xH fun w hw=>h w (LQ _ hw)]
  split
  ·have:x≠n:=by rintro rfl; exact h v LK
   simp [this]
  ·rfl
theorem xI {kindOf:Str->Option MA} {x:Str}:∀ {binds:List (Str×Value)} {m:Str->Option Value},(∀ v,(x,v)∉binds)->bindC kindOf binds m x=m x
 | [],_,_=>rfl
 | (n,v) :: r,m,h=>by
  unfold bindC
  rw [xI fun w hw=>h w (LQ _ hw)]
  split
  ·rfl
  ·have:x≠n:=by rintro rfl; exact h v LK
   simp [this]
theorem xJ {kindOf:Str->Option MA} {x:Str} {v:Value}:∀ {P:List Str} {vs:List Value} {i:Nat} {m:Str->Option Value},P.Nodup->P[i]?=some x->vs[i]?=some v->kindOf x=some .local->
  bindL kindOf (P.zip vs) m x=some v
 | [],_,_,_,_,h,_,_=>by simp at h
 | _ :: _,[],_,_,_,_,h,_=>by simp at h
 | p :: P,w :: vs,0,m,nd,h1,h2,hk=>by
  simp at h1 h2; subst h1; subst h2
  show bindL kindOf ((p,w) :: P.zip vs) m p=_
  unfold bindL
  rw [xH fun v hv=>(Ol.mp nd).1 (RW hv).1,if_pos hk]
  simp
 | p :: P,w :: vs,i + 1,m,nd,h1,h2,hk=>by
  show bindL kindOf ((p,w) :: P.zip vs) m x=_
  unfold bindL
  exact xJ (i:=i) (Ol.mp nd).2 (by simpa using h1) (by simpa using h2) hk
theorem xK {kindOf:Str->Option MA} {x:Str} {v:Value}:∀ {P:List Str} {vs:List Value} {i:Nat} {m:Str->Option Value},P.Nodup->P[i]?=some x->vs[i]?=some v->kindOf x≠some .local->
  bindC kindOf (P.zip vs) m x=some v
 | [],_,_,_,_,h,_,_=>by simp at h
 | _ :: _,[],_,_,_,_,h,_=>by simp at h
 | p :: P,w :: vs,0,m,nd,h1,h2,hk=>by
  simp at h1 h2; subst h1; subst h2
  show bindC kindOf ((p,w) :: P.zip vs) m p=_
  unfold bindC
  rw [xI fun v hv=>(Ol.mp nd).1 (RW hv).1,if_neg hk]
  simp
 | p :: P,w :: vs,i + 1,m,nd,h1,h2,hk=>by
  show bindC kindOf ((p,w) :: P.zip vs) m x=_
  unfold bindC
  exact xK (i:=i) (Ol.mp nd).2 (by simpa using h1) (by simpa using h2) hk
noncomputable def start (N:List Str) (vs:List V):St:=vs.map some++Mo (N.length - vs.length) none
noncomputable def ow (CX:CXT) (P:Program) (w:World) (K:Fg) (mg:Str->Option Value) (base:Heap) (N:List Str) (qual:Str) (scope:Scope) (f:Addr) (cd:Value) (A:Around) (outer:List Env) (s:Shared) (H:Hp) (E:XK):Cx where
 prog:=P
 w:=w
 K:=K
 mg:=mg
 base:=base
 A:=A.deeper (envOfC qual scope s.heap.objs.size f cd)
 N:=N
 s₀:=s
 H₀:=H
 env:=envOfC qual scope s.heap.objs.size f cd
 outer:=outer
 stack:=envOfC qual scope s.heap.objs.size f cd :: outer
 ex:=[]
 calm:=true
 fn:=fun _=>true
 pn:=[]
 xe:=fun e s'=>wpAny (model P w) (A.deeper (envOfC qual scope s.heap.objs.size f cd)) («leaving» (envOfC qual scope s.heap.objs.size f cd) e) (fun _ s''=>CX outer H s E e s'') (fun e' s''=>CX outer H s E e' s'') s'
theorem zC {sc:Scope} {n:Nat} {x:Str} (h:sc.names.lookup x=some .cell):∃ c,(UT n sc.names []).lookup x=some c:=by
 have q:=Sa sc.names n [] (.inl h)
 exact Rz.mp q
theorem En {CX:CXT} {P:Program} {w:World} {K:Fg} {mg:Str->Option Value} {base:Heap} {N ps:List Str} {qual:Str} {scope:Scope} {f:Addr} {cd:Value} {A:Around} {outer:List Env} {s s1:Shared} {H:Hp} {E:XK} {us:List Value} {vs:List V}
  (S:aB N ps scope) (hd:A.handled=none) (e0:sW P w K mg base A outer s H) (hl:vs.length=ps.length) (r:aH vs us)
  (x:InCallC s s.heap.objs.size (bindL (envOfC qual scope s.heap.objs.size f cd).kindOf (ps.zip us) fun _=>none) (UT (s.heap.objs.size + 1) scope.names []) (bindC (envOfC qual scope s.heap.objs.size f cd).kindOf (ps.zip us) fun _=>none) s1):
  Inv (ow CX P w K mg base N qual scope f cd A outer s H E) [] (start N vs) H s1:=by
 have hpl:ps.length<=N.length:=by have:=congrArg List.length S.pre; rw [NM] at this; omega
 obtain ⟨h1,tk,rfl,hk⟩:=x.done
 have noA:∀ b:Addr,b∉(ow CX P w K mg base N qual scope f cd A outer s H E).ex:=fun b z=>absurd (show b∈([]:List Addr) from z) (by simp)
 refine ⟨⟨e0.mod,S.kind,rfl,rfl,LH _,fun y z c h1 h2=>?_,fun y hy=>?_,fun y c _ h=>?_,fun _=>hd,Around.frames_deeper e0.frames,.inr ⟨rfl,rfl⟩,fun b z=>absurd z (noA b),e0.bs,e0.bsz,fun b _ _=>noA b,fun b z=>absurd z (noA b),e0.funs,e0.frf⟩,
  rfl,e0.bare,Un.kept hk,⟨_,x.toInCall.ns,fun i y v h1 h2 h3=>?_⟩,fun y c h=>⟨_,x.cell y c h⟩,e0.hok.fresh (LH _),fun y c h=>?_,fun p hp=>absurd (show p∈([]:List (Addr×Obj)) from hp) (by simp),e0.hok.kept hk,?_⟩
 ·exact name_of_addr x.apart (M0 h1) (M0 h2)
 ·have hy:scope.names.lookup y=some .cell\/scope.names.lookup y=some .free:=hy
  rcases hy with hy | hy
  ·exact zC hy
  ·exact absurd rfl (S.nofree _ (M0 hy))
 ·exact MP (x.above y c (M0 h))
 ·have hi:i < vs.length:=by
   unfold start at h2
   by_cases hi:i < vs.length
   ·exact hi
   ·rw [OE (by simpa using hi)] at h2
    rw [RL] at h2
    split at h2 <;> cases h2
  have ha:vs[i]?=some v:=by
   unfold start at h2
   rw [Oh (by simpa using hi),LU] at h2
   cases e:vs[i]? with
   | none=>rw [e] at h2; cases h2
   | some a=>rw [e] at h2; cases h2; rfl
  obtain ⟨u,hu,rv⟩:=r.get ha
  have hp:ps[i]?=some y:=by
   rw [<-S.pre,RA (by omega)]; exact h1
  have ndP:ps.Nodup:=by rw [<-S.pre]; exact S.nd.sublist (List.take_sublist _ _)
  refine ⟨u,rv,?_⟩
  rcases S.par y (LX hp) with k | k
  ·exact .inl ⟨k,xJ ndP hp hu k⟩
  ·obtain ⟨c,e⟩:=zC (n:=s.heap.objs.size + 1) k
   refine .inr ⟨.inl k,c,e,?_⟩
   have q:=x.cell y c e
   rw [xK ndP hp hu (by show scope.names.lookup y≠_; rw [k]; decide)] at q
   exact q
 ·exact e0.hok.fresh (MP (x.above y c (M0 h)))
 ·unfold start
  show _=N.length
  rw [L7,LF,Sj]
  omega
theorem KL {CX:CXT} {P:Program} {w:World} {K:Fg} {mg:Str->Option Value} {base:Heap} {k:Nat} {f:Addr} {name qual:Str} {params:Arguments} {body:List Stmt} {scope:Scope} {dV kV doc pm cdv ct oc:Value} {an od:Option Addr}
  {osl:Array (Option Value)} {N ps:List Str} {sp:Sp} (lk:K.lookup f=some ⟨oc,od,.func (Pr name qual params body scope dV kV doc pm an cdv ct),osl⟩) (hcd:Sk K cdv qual=true) (S:aB N ps scope)
  (len:∀ vs H Q E,sp vs H Q E->vs.length=ps.length)
  (hbody:∀ (A:Around) (outer:List Env) (s:Shared) (H:Hp) (vs:List V) (Q:VK) (E:XK),b8 k (A.deeper (envOfC qual scope s.heap.objs.size f cdv))->sp vs H Q E->
   ∃ t,PSs (ow CX P w K mg base N qual scope f cdv A outer s H E) body t/\t { nx:=fun _ H'=>Q .non H',rt:=Q } (start N vs) H):
  gT P w K mg base CX (k + 1) f (Pr name qual params body scope dV kV doc pm an cdv ct) ps sp:=by
 refine ⟨len,fun A outer s H args us vs Q E hr e0 hb r hsp=>?_⟩
 have hl:=len _ _ _ _ hsp
 have KX:K.In s.heap:=e0.mod.kin.keeps fun b o e=>(e0.bs b o e).1
 have lim:s.heap.NoLimit:=e0.mod.nolimit.keeps fun b o e=>(e0.bs b o e).1
 have hkind:∀ y∈ps.zip us,scope.names.lookup y.1=some .local\/(scope.names.lookup y.1=some .cell/\((UT (s.heap.objs.size + 1) scope.names []).lookup y.1).isSome=true):=fun ⟨n,v⟩ hy=>by
  rcases S.par n (RW hy).1 with q | q
  ·exact .inl q
  ·exact .inr ⟨q,Sa _ _ _ (.inl q)⟩
 refine codeAny_call_function hr.depth (KX _ _ lk) rfl S.co S.gen rfl (PySem.W.codeRec_of KX hcd) (hb _ _ _ _ ?_)
 refine wpAny_newFunctionEnv_cells S.kind hkind fun env he s1 x=>?_
 subst he
 refine ⟨lim.keeps x.toInCall.keep,codeAny_func ?_⟩
 obtain ⟨t,ht,hq⟩:=hbody A outer s H vs Q E (hr.deeper _) hsp
 have I:Inv (ow CX P w K mg base N qual scope f cdv A outer s H E) [] (start N vs) H s1:=En S hr.hd e0 hl r x
 refine Nx (ht [] s1 (start N vs) H _ I hq) (fun fl s' hs=>?_) fun e s' hs=>hs
 have fin:∀ {σ':St} {H':Hp} {v:V} {u:Value},Inv (ow CX P w K mg base N qual scope f cdv A outer s H E) [] σ' H' s'->aJ v u->Q v H'->CE outer P w H s Q u s':=
  fun {σ' H' v u} J rv q=>⟨v,H',J.os,J.bare,J.base,J.hok,rv,q⟩
 cases fl with
 | ret u=>
  obtain ⟨v,σ',H',J,rv,q⟩:=hs
  exact fin J rv q
 | next=>
  obtain ⟨σ',H',J,q⟩:=hs
  exact fin (v:=V.non) (u:=M6) J rfl q
 | brk=>
  obtain ⟨_,_,_,q⟩:=hs
  exact Oc q
 | cont=>
  obtain ⟨_,_,_,q⟩:=hs
  exact Oc q
end L2
namespace L2
open PySem PySem.Spec PyProof.Rows
section
variable {X:Cx} {x:Str} {p pos:Pos} {e:Expr} {es:List Expr} {t:TA} {id T:String} {r:List V->Hp->VK->Prop}
noncomputable def tCB (r:List V->Hp->VK->Prop) (t:TA):TE:=fun σ H Q=>t σ H fun vs H1=>r vs H1 Q
theorem az (hc:dc X (.builtin id) r) (hg:Gl X x) (hm:X.mg x=none) (hv:Pq x=some (.builtin id)) (ha:PA X (e :: es) t) (hn:x≠"__name__":=by decide) (hdb:(x == ("__debug__":Str))=false:=by decide)
  (he:L9 (e :: es) X.env=(false,eval e X.env) :: L9 es X.env:=by rfl) (hpl:(backTo pos (L9 es X.env)).any (·.1)=false:=by rfl):PE X (.Call (.Name x p) (e :: es) [] pos) (tCB r t):=by
 intro pins s σ H Q I h
 refine NL (gb I hg hm hv ?_ hn hdb)
 exact Qo (thn (ha pos pins s σ H _ I h) fun us s1 ⟨vs,H1,I1,r1,q1⟩=>hc pins s1 σ H1 vs us Q I1 r1 q1) he hpl
theorem bD (hc:dc X (.type T) r) (hg:Gl X x) (hm:X.mg x=none) (hv:Pq x=some (.type T)) (ha:PA X (e :: es) t) (hn:x≠"__name__":=by decide) (hdb:(x == ("__debug__":Str))=false:=by decide)
  (he:L9 (e :: es) X.env=(false,eval e X.env) :: L9 es X.env:=by rfl) (hpl:(backTo pos (L9 es X.env)).any (·.1)=false:=by rfl):PE X (.Call (.Name x p) (e :: es) [] pos) (tCB r t):=by
 intro pins s σ H Q I h
 refine NL (gb I hg hm hv ?_ hn hdb)
 exact Nf (thn (ha pos pins s σ H _ I h) fun us s1 ⟨vs,H1,I1,r1,q1⟩=>hc pins s1 σ H1 vs us Q I1 r1 q1) he hpl
end
end L2
namespace HT
open PySem PyProof.Rows
section
open PySem.SeqAt
open PySem.AutoSeq1 (wpAny_loadPart')
open PySem.MeetsSeq PySem.MeetsSeq2 PySem.MeetsSeq3
end
section
variable {prog:Program} {w:World} {A:Around} {E:Value->Shared->Prop} {s:Shared}
theorem Ii {t b:Addr} {vs ws:List Value} {Q:Value->Shared->Prop} (ht:IsTup s.heap t vs.toArray) (hb:IsTup s.heap b ws.toArray) (hv:vs≠[])
  (h1:ws=[]->Q (.ref t) s) (h2:ws≠[]->Q (.ref s.heap.objs.size) { s with heap:=s.heap.push { cls:=.type "tuple",data:=.seq (vs++ws).toArray } })
  (hsz:vs.length + ws.length<=LS):wpAny (model prog w) A (OD .Add (.ref t) (.ref b)) Q E s:=by
 obtain ⟨⟨cls,dd,data,sl⟩,ho,hc,n,hd⟩:=id ht
 obtain ⟨⟨cls2,dd2,data2,sl2⟩,ho2,hc2,n2,hd2⟩:=id hb
 simp only at hc hd hc2 hd2
 subst hc hd hc2 hd2
 have e:vs.toArray++ws.toArray=(vs++ws).toArray:=by simp
 by_cases hw:ws=[]
 ·exact Tp ⟨_,ho,rfl⟩ ⟨_,ho2,rfl⟩ RB SX P3 PQ (Pt _ _)
   (tuple_addW1 t b vs.toArray ws.toArray n n2 dd dd2 sl sl2 (by simpa using hv) (by simp [hw])) ⟨ho,ho2,h1 hw⟩
 ·refine Tp ⟨_,ho,rfl⟩ ⟨_,ho2,rfl⟩ RB SX P3 PQ (Pt _ _)
   (tuple_addW2 t b vs.toArray ws.toArray n n2 dd dd2 sl sl2 (by simpa using hv) (by simpa using hw) (by rw [L5,L5]; exact hsz)) ⟨ho,ho2,?_⟩
  rw [e]
  exact h2 hw
noncomputable def sIx (n d:Nat):Option Int->Nat
 | none=>d
 | some v=>if v < 0 then (v + (n:Int)).toNat else min v.toNat n
theorem JI (n d:Nat) (hd:d<=n) (o:Option Int):sIx n d o<=n:=by
 cases o with
 | none=>exact hd
 | some v=>
  show (if v < 0 then (v + (n:Int)).toNat else min v.toNat n)<=n
  by_cases hv:v < 0
  ·rw [if_pos hv]; omega
  ·rw [if_neg hv]; exact Nat.min_le_right _ _
theorem BO (v:Int) (n d:Nat):(if v < 0 then max (v + (n:Int)) 0 else min v (n:Int))=((sIx n d (some v):Nat):Int):=by
 show (if v < 0 then max (v + (n:Int)) 0 else min v (n:Int))=(((if v < 0 then (v + (n:Int)).toNat else min v.toNat n):Nat):Int)
 by_cases hv:v < 0
 ·simp only [if_pos hv]; omega
 ·simp only [if_neg hv]; omega
theorem Cv (lo hi:Option Int) (n:Nat):Pn lo hi 1 (n:Int)=(((sIx n 0 lo:Nat):Int),((sIx n n hi:Nat):Int)):=by
 have h1:¬ ((1:Int) < 0):=by omega
 unfold Pn
 simp only [h1,if_false]
 refine Prod.ext ?_ ?_
 ·cases lo with
  | none=>rfl
  | some v=>exact BO v n 0
 ·cases hi with
  | none=>rfl
  | some v=>exact BO v n n
theorem Cw (i j:Nat):OJ (i:Int) (j:Int) 1=j - i:=by
 unfold OJ
 have h1:(1:Int) > 0:=by omega
 simp only [h1,if_true,Int.ediv_one]
 split <;> omega
theorem ul {v:Value} {o:Option Int} {Q:Option Int->Shared->Prop} (p:IsPart v o) (h:Q o s):wpAny (model prog w) A (Builtin.Slice.slicePartIndex v) Q E s:=by
 cases p with
 | none=>exact slicePart_none h
 | int i t=>exact slicePart_int h
theorem sX {sl:Addr} {vl vu:Value} {lo hi:Option Int} {n:Nat} {Q:Int×Int×Nat->Shared->Prop} (hs:s.heap.IsSliceOf sl vl vu .none) (pl:IsPart vl lo) (pu:IsPart vu hi)
  (h:Q (((sIx n 0 lo:Nat):Int),1,sIx n n hi - sIx n 0 lo) s):wpAny (model prog w) A (Q5 (.ref sl) (pure (n:Int))) Q E s:=by
 obtain ⟨os,hos,hcs,hds⟩:=id hs
 unfold Q5 Builtin.Slice.sliceFields
 refine LA (LA (MS hos hds (x:=vl) rfl (LA (MS hos hds (x:=vu) rfl (LA (MS hos hds (x:=.none) rfl (LC ?_)))))))
 refine LA (slicePart_none ?_)
 show wpAny _ _ (if ((1:Int) == 0)=true then _ else _) _ _ s
 rw [if_neg (by decide)]
 refine LA (ul pl (LA (ul pu (LA (LC ?_)))))
 show wpAny _ _ (match Pn lo hi 1 (n:Int) with | (lo,hi)=>pure (lo,(1:Int),OJ lo hi 1)) _ _ s
 rw [Cv lo hi n]
 show wpAny _ _ (pure (((sIx n 0 lo:Nat):Int),(1:Int),OJ ((sIx n 0 lo:Nat):Int) ((sIx n n hi:Nat):Int) 1)) _ _ s
 rw [Cw]
 exact LC h
theorem FX (xs:Array Value) (i k:Nat):((LV k).filterMap fun (m:Nat)=>xs[((i:Int) + (m:Int) * 1).toNat]?).toArray=((xs.toList.drop i).take k).toArray:=by
 have e:(fun (m:Nat)=>xs[((i:Int) + (m:Int) * 1).toNat]?)=fun m=>xs[i + m]?:=by
  funext m
  have:((i:Int) + (m:Int) * 1).toNat=i + m:=by omega
  rw [this]
 rw [e]
 have:=pick_run xs i k
 rw [List.filterMap_map] at this
 have e2:((fun x=>xs[x]?) ∘ fun x=>i + x)=fun m=>xs[i + m]?:=rfl
 rw [e2] at this
 rw [this]
theorem sg {t sl:Addr} {items:Array Value} {vl vu:Value} {lo hi:Option Int} {Q:Value->Shared->Prop} (ht:IsTup s.heap t items) (hs:s.heap.IsSliceOf sl vl vu .none) (pl:IsPart vl lo) (pu:IsPart vu hi)
  (hw:¬ (sIx items.size 0 lo=0/\sIx items.size items.size hi=items.size))
  (h:Q (.ref s.heap.objs.size) { s with heap:=s.heap.push { cls:=.type "tuple",data:=.seq ((items.toList.drop (sIx items.size 0 lo)).take (sIx items.size items.size hi - sIx items.size 0 lo)).toArray } })
  (hsz:items.size<=LS):wpAny (model prog w) A (getItem (.ref t) (.ref sl)) Q E s:=by
 have htake:sizeOk (.seq ((items.toList.drop (sIx items.size 0 lo)).take (sIx items.size items.size hi - sIx items.size 0 lo)).toArray):=by
  show ((items.toList.drop (sIx items.size 0 lo)).take (sIx items.size items.size hi - sIx items.size 0 lo)).toArray.size<=LS
  rw [L5,NM,Uh,Mp]
  omega
 have hj:sIx items.size items.size hi<=items.size:=JI _ _ (LH _) hi
 obtain ⟨os,hos,hcs,hds⟩:=id hs
 have hTs:s.TypeIs (.ref sl) "slice":=⟨os,hos,hcs⟩
 unfold getItem
 try with_reducible refine MR ?_
 first | refine LA (LC ?_) | skip
 refine LA (wpAny_sequenceKey ht.typeIs (by decide) ?_)
 refine LA (MJ (name:=Nb "__getitem__") ht.typeIs OU
  (Mu OU ht.typeIs entry_tuple_getitem ?_ (args_tuple_getitem _ _)))
 show wpAny _ _ (Q6 (.ref t) >>= _) _ _ s
 refine LA (tupleItemsOf_ ht ?_)
 refine LA (Qp hTs ?_)
 rw [if_pos (by decide)]
 refine LA (sX hs pl pu ?_)
 have hno:¬ ((((sIx items.size 0 lo:Nat):Int) == 0 && (1:Int) == 1 && (sIx items.size items.size hi - sIx items.size 0 lo) == items.size)=true):=by
  intro q
  rw [Nc,Nc] at q
  have q1:((sIx items.size 0 lo:Nat):Int)=0:=eq_of_beq q.1.1
  have q2:sIx items.size items.size hi - sIx items.size 0 lo=items.size:=eq_of_beq q.2
  exact hw ⟨by omega,by omega⟩
 show wpAny _ _ (if (((sIx items.size 0 lo:Nat):Int) == 0 && (1:Int) == 1 && (sIx items.size items.size hi - sIx items.size 0 lo) == items.size)=true then _ else _) _ _ s
 rw [if_neg hno,FX]
 first
  | exact LA (m:=NN _) (ME (LC ⟨_,rfl,LC h⟩) htake)
  | exact LA (m:=NN _) (ME (LA (LC (LC ⟨_,rfl,LC h⟩))) htake)
  | exact LA (LA (m:=NN _) (ME (LC (LC ⟨_,rfl,LC h⟩)) htake))
  | exact LA (LA (m:=NN _) (ME (LC ⟨_,rfl,LC h⟩) htake))
end
end HT
namespace L2
open PySem PySem.Spec PyProof.Rows
noncomputable abbrev TO:=St->Hp->(Option Int->Hp->Prop)->Prop
noncomputable def PO (X:Cx) (e:Option Expr) (t:TO):Prop:=
 ∀ (pins:List (Addr×Obj)) (s:Shared) (σ:St) (H:Hp) (Q:Option Int->Hp->Prop),Inv X pins σ H s->t σ H Q->
  wpAny (model X.prog X.w) X.A (evalPart e X.env) (fun u s'=>∃ o H',Inv X pins σ H' s'/\IsPart u o/\Q o H') X.xe s
noncomputable def ny:TO:=fun _ H Q=>Q none H
noncomputable def um (t:TE):TO:=fun σ H Q=>t σ H fun x H1=>∃ i,x=.int i/\Q (some i) H1
theorem kF {ns:List Int}:∀ {us:List Value},aH (ns.map V.int) us->IntsAre us ns:=by
 induction ns with
 | nil=>intro us r; rw [O8] at r; cases r; exact .nil
 | cons n ns ih=>
  intro us r
  rw [LZ] at r
  cases r with
  | cons r1 r2=>
   obtain ⟨t,e⟩:=r1
   subst e
   exact .cons n t (ih r2)
section
variable {X:Cx} {e:Expr} {te:TE} {lo hi:Option Expr} {tl th:TO} {pos p2:Pos}
theorem wz:PO X none ny:=by
 intro pins s σ H Q I h
 rw [evalPart_none]
 exact LC ⟨none,H,I,.none,h⟩
theorem wA (h:PE X e te):PO X (some e) (um te):=by
 intro pins s σ H Q I hw
 rw [evalPart_some]
 refine thn (h pins s σ H _ I hw) fun u s1 ⟨x,H1,I1,r1,q1⟩=>?_
 obtain ⟨i,rfl,q⟩:=q1
 obtain ⟨t,rfl⟩:=r1
 exact ⟨some i,H1,I1,.int i t,q⟩
noncomputable def SlR (X:Cx) (r:V->Option Int->Option Int->Hp->VK->Prop):Prop:=
 ∀ (pins:List (Addr×Obj)) (s:Shared) (σ:St) (H:Hp) (x:V) (v vl vu:Value) (lo hi:Option Int) (sl:Addr) (Q:VK),Inv X pins σ H s->aJ x v->s.heap.IsSliceOf sl vl vu .none->IsPart vl lo->IsPart vu hi->r x lo hi H Q->
  ∃ T id,SG (.type T) "__getitem__"=pure (some (.builtin id))/\s.TypeIs v T/\wpAny (model X.prog X.w) X.A (getItem v (.ref sl)) (EP X pins σ Q) X.xe s
noncomputable def tSl (r:V->Option Int->Option Int->Hp->VK->Prop) (te:TE) (tl th:TO):TE:=fun σ H Q=>te σ H fun x H1=>tl σ H1 fun l H2=>th σ H2 fun u H3=>r x l u H3 Q
theorem sY {r:V->Option Int->Option Int->Hp->VK->Prop} (hr:SlR X r) (he:PE X e te) (hl:PO X lo tl) (hu:PO X hi th):PE X (.Subscript e (.Slice lo hi none p2) pos) (tSl r te tl th):=by
 intro pins s σ H Q I h
 refine UC (thn (he pins s σ H _ I h) fun v s1 ⟨x,H1,I1,r1,q1⟩=>?_)
 refine wpAny_Slice (thn (hl pins s1 σ H1 _ I1 q1) fun vl s2 ⟨l,H2,I2,pl,q2⟩=>thn (hu pins s2 σ H2 _ I2 q2) fun vu s3 ⟨u,H3,I3,pu,q3⟩=>?_)
 rw [evalPart_none]
 refine LC ?_
 have I4:Inv X pins σ H3 { s3 with heap:=s3.heap.push { cls:=.type "slice",data:=.fields #[vl,vu,.none] } }:=I3.kept (t':=s3.toks) fun b ob q=>LB _ q
 obtain ⟨T,id,hT,ht,hg⟩:=hr pins { s3 with heap:=s3.heap.push { cls:=.type "slice",data:=.fields #[vl,vu,.none] } } σ H3 x v vl vu l u s3.heap.objs.size Q I4 r1 (Heap.IsSliceOf.new ..) pl pu q3
 show wpAny (model X.prog X.w) X.A (SY e (.Slice lo hi none p2) v (.ref s3.heap.objs.size)) (EP X pins σ Q) X.xe { s3 with heap:=s3.heap.push { cls:=.type "slice",data:=.fields #[vl,vu,.none] } }
 exact tail_any (ops:=[.ref s3.heap.objs.size,v]) ht hT hg (by with_unfolding_all rfl)
noncomputable def qj (xs:List V) (lo hi:Option Int):List V:=(xs.drop (HT.sIx xs.length 0 lo)).take (HT.sIx xs.length xs.length hi - HT.sIx xs.length 0 lo)
theorem Bc (xs:List V) (lo hi:Option Int):(qj xs lo hi).length<=xs.length:=by
 unfold qj
 rw [NM,Uh]
 omega
noncomputable def Lk (K:Fg):V->Option Int->Option Int->Hp->VK->Prop:=fun x lo hi H Q=>∃ a xs,x=.ref a/\SqT K H a xs/\
 ¬ (HT.sIx xs.length 0 lo=0/\HT.sIx xs.length xs.length hi=xs.length)/\∀ p,H p=none->Q (.ref p) (upd H p (.tup (qj xs lo hi)))
theorem JJ:SlR X (Lk X.K):=by
 intro pins s σ H x v vl vu lo hi sl Q I rx hs pl pu h
 obtain ⟨a,xs,rfl,hx,hw,q⟩:=h
 cases rx
 obtain ⟨its,r,ht,hz⟩:=I.tuple hx
 have hlen:its.toArray.size=xs.length:=by rw [L5]; exact r.length.symm
 refine ⟨"tuple",_,OU.lookup,ht.typeIs,?_⟩
 refine HT.sg ht hs pl pu (by rw [hlen]; exact hw) ?_ (by rw [hlen]; exact hz)
 rw [hlen]
 refine ⟨.ref s.heap.objs.size,_,I.laid (t':=s.toks) (o:=.tup (qj xs lo hi)) (fun b ob q=>LB _ q) (LH _) ?_,rfl,q _ (I.hok.fresh (LH _))⟩
 exact ⟨Mq (Bc xs lo hi) hz,_,(r.drop (HT.sIx xs.length 0 lo)).take (HT.sIx xs.length xs.length hi - HT.sIx xs.length 0 lo),eQ.new _ _⟩
noncomputable def KO (K:Fg):R2:=fun x y H Q=>∃ a b xs ys,x=.ref a/\y=.ref b/\SqT K H a xs/\SqT K H b ys/\xs≠[]/\xs.length + ys.length<=LS/\
 (ys=[]->Q (.ref a) H)/\(ys≠[]->∀ p,H p=none->Q (.ref p) (upd H p (.tup (xs++ys))))
theorem aH.nil_iff {xs:List V} {us:List Value} (r:aH xs us):us=[]↔xs=[]:=by
 cases r with
 | nil=>simp
 | cons _ _=>simp
theorem Ij:OpR X (OD .Add) (KO X.K):=by
 intro pins s σ H x y v u Q I rx ry h
 obtain ⟨a,b,xs,ys,rfl,rfl,ha,hb,hx,hz,q1,q2⟩:=h
 cases rx
 cases ry
 obtain ⟨its,r1,p1,_⟩:=I.tuple ha
 obtain ⟨its2,r2,p2,_⟩:=I.tuple hb
 refine HT.Ii p1 p2 (fun z=>hx (r1.nil_iff.mp z)) (fun z=>⟨.ref a,H,I,rfl,q1 (r2.nil_iff.mp z)⟩) (fun z=>?_) (by rw [<-r1.length,<-r2.length]; exact hz)
 refine ⟨.ref s.heap.objs.size,_,I.laid (t':=s.toks) (o:=.tup (xs++ys)) (fun b ob q=>LB _ q) (LH _) ?_,rfl,q2 (fun w=>z (r2.nil_iff.mpr w)) _ (I.hok.fresh (LH _))⟩
 exact ⟨by rw [L7]; exact hz,_,r1.append r2,eQ.new _ _⟩
end
end L2
namespace L2
open PySem PySem.Spec PyProof.Rows
noncomputable def ixN (n:Nat) (i:Int):Option Nat:=if 0<=i then (if i < n then some i.toNat else none) else if -(n:Int)<=i then some (i + n).toNat else none
noncomputable def atI {α:Type} (xs:List α) (i:Int):Option α:=(ixN xs.length i).bind fun j=>xs[j]?
theorem BP {n:Nat} {i:Int} {j:Nat} (h:ixN n i=some j):seqIndex? i n=some j/\j < n/\-(n:Int)<=i/\i < n:=by
 unfold ixN at h
 by_cases h0:0<=i
 ·rw [if_pos h0] at h
  by_cases h1:i < n
  ·rw [if_pos h1] at h
   have e:i.toNat=j:=LW h
   exact ⟨by rw [T4 h0 h1,e],by omega,by omega,h1⟩
  ·rw [if_neg h1] at h; cases h
 ·rw [if_neg h0] at h
  by_cases h1:-(n:Int)<=i
  ·rw [if_pos h1] at h
   have e:(i + n).toNat=j:=LW h
   exact ⟨by rw [Tq (by omega) h1,e],by omega,h1,by omega⟩
  ·rw [if_neg h1] at h; cases h
theorem BQ {α:Type} {xs:List α} {i:Int} {v:α} (h:atI xs i=some v):∃ j,seqIndex? i xs.length=some j/\xs[j]?=some v/\j < xs.length/\-(xs.length:Int)<=i/\i < xs.length:=by
 unfold atI at h
 cases e:ixN xs.length i with
 | none=>rw [e] at h; cases h
 | some j=>
  rw [e] at h
  obtain ⟨h1,h2,h3,h4⟩:=BP e
  exact ⟨j,h1,h,h2,h3,h4⟩
theorem ck {α:Type} {xs:List α} {j:Nat} {v:α} (h:xs[j]?=some v):atI xs (j:Int)=some v:=by
 have hj:j < xs.length:=(LJ.mp h).1
 have e:ixN xs.length (j:Int)=some j:=by
  unfold ixN
  rw [if_pos (by omega),if_pos (by omega)]; simp
 unfold atI; rw [e]; exact h
noncomputable def Ik (b:Expr):Prop:=∀ o i,Sb b false o i=operate [o,i] (getItem o i)
noncomputable def IxR (X:Cx) (r:R2):Prop:=
 ∀ (value slice:Expr) (pins:List (Addr×Obj)) (s:Shared) (σ:St) (H:Hp) (x y:V) (v u:Value) (Q:VK),Inv X pins σ H s->aJ x v->aJ y u->r x y H Q->
  Sb slice false v u=operate [v,u] (getItem v u)->wpAny (model X.prog X.w) X.A (SY value slice v u) (EP X pins σ Q) X.xe s
noncomputable def MtR (X:Cx) (id:String) (r:V->List V->Hp->VK->Prop):Prop:=
 ∀ (pins:List (Addr×Obj)) (s:Shared) (σ:St) (H:Hp) (x:V) (xs:List V) (v:Value) (us:List Value) (Q:VK),Inv X pins σ H s->aJ x v->aH xs us->r x xs H Q->
  wpAny (model X.prog X.w) X.A (call (.builtin id) (v :: us)) (EP X pins σ Q) X.xe s
section
variable {X:Cx} {a b:Expr} {ta tb:TE} {pos:Pos}
theorem aR {r:R2} (hr:IxR X r) (ha:PE X a ta) (hb:PE X b tb) (hs:Ik b):PE X (.Subscript a b pos) (tOp r ta tb):=by
 intro pins s σ H Q I h
 exact UC (FQ ha hb I h fun v u s2 x y H2 I2 rx ry q=>hr a b pins s2 σ H2 x y v u Q I2 rx ry q (hs _ _))
noncomputable def bY (K:Fg):R2:=fun x y H Q=>∃ p xs i v,x=.ref p/\y=.int i/\SqL K H p xs/\atI xs i=some v/\Q v H
noncomputable def cV (K:Fg):R2:=fun x y H Q=>∃ p xs i v,x=.ref p/\y=.int i/\SqT K H p xs/\atI xs i=some v/\Q v H
theorem bd:IxR X (bY X.K):=by
 intro value slice pins s σ H x y v u Q I rx ry h hs
 obtain ⟨p,xs,i,z,rfl,rfl,hq,he,q⟩:=h
 cases rx
 obtain ⟨t,rfl⟩:=ry
 obtain ⟨its,r,pl,hz⟩:=I.list hq
 obtain ⟨j,h1,h2,h3,h4,h5⟩:=BQ he
 obtain ⟨w,ew,rw'⟩:=r.get h2
 have hl:=r.length
 have hn:=ui
 have fin:EP X pins σ Q w s:=⟨z,H,I,rw',q⟩
 by_cases h0:0<=i
 ·have hj:i.toNat=j:=by
   rw [T4 h0 h5] at h1
   exact LW h1
  exact item_listR pl.isList h0 (by omega) (by rw [hj]; simpa using ew) fin hs
 ·have hj:(i + (its.toArray.size:Int)).toNat=j:=by
   rw [Tq (by omega) h4] at h1
   rw [L5,<-hl]
   exact LW h1
  exact Sd (x:=w) pl.isList.typeIs slot_list_getitem.lookup
   (wpAny_getItem_list_neg (Q:=fun r s'=>r=w/\EP X pins σ Q r s') pl.isList (by omega) (by rw [L5] <;> omega) (by omega) (by rw [hj]; simpa using ew) ⟨rfl,fin⟩) hs
theorem bS:IxR X (cV X.K):=by
 intro value slice pins s σ H x y v u Q I rx ry h hs
 obtain ⟨p,xs,i,z,rfl,rfl,hq,he,q⟩:=h
 cases rx
 obtain ⟨t,rfl⟩:=ry
 obtain ⟨its,r,pl,hz⟩:=I.tuple hq
 obtain ⟨j,h1,h2,h3,h4,h5⟩:=BQ he
 obtain ⟨w,ew,rw'⟩:=r.get h2
 have hl:=r.length
 have hn:=ui
 have fin:EP X pins σ Q w s:=⟨z,H,I,rw',q⟩
 exact Sd (x:=w) pl.typeIs slot_tuple_getitem.lookup
  (getItem_tuple (j:=j) (Q:=fun r s'=>r=w/\EP X pins σ Q r s') pl (by omega) (by omega) (by rw [L5,<-hl]; exact h1) (by simpa using ew) ⟨rfl,fin⟩) hs
theorem Cy (its:List Value) (n j:Nat) (u:Value):M8 (·.setIfInBounds j u) { cls:=.type "list",data:=.seq its.toArray n }={ cls:=.type "list",data:=.seq (its.set j u).toArray n }:=by
 simp [M8]
theorem Inv.lst {pins:List (Addr×Obj)} {σ:St} {H:Hp} {s:Shared} {p:Addr} {xs:List V} (I:Inv X pins σ H s) (h:H p=some (.lst xs)):
  ∃ (its:List Value) (n:Nat),aH xs its/\s.heap.get? p=some { cls:=.type "list",data:=.seq its.toArray n }/\xs.length<=LS:=by
 obtain ⟨z,its,n,r,e⟩:=I.hok p _ h
 exact ⟨its,n,r,e,z⟩
theorem Inv.lstUpd {pins:List (Addr×Obj)} {σ:St} {H:Hp} {s:Shared} {p:Addr} {xs ys:List V} {its its':List Value} {n n':Nat} {f:Obj->Obj} (I:Inv X pins σ H s) (h:H p=some (.lst xs))
  (ho:s.heap.get? p=some { cls:=.type "list",data:=.seq its.toArray n }) (hf:f { cls:=.type "list",data:=.seq its.toArray n }={ cls:=.type "list",data:=.seq its'.toArray n' }) (r:aH ys its') (hz:ys.length<=LS) (t:Nat):
  Inv X pins σ (upd H p (.lst ys)) { s with heap:=s.heap.update p f,toks:=t }:=by
 have e:(s.heap.update p f).get? p=some { cls:=.type "list",data:=.seq its'.toArray n' }:=by
  rw [Mw f ho (by rw [hf] <;> rfl),hf]
 refine I.write (x:=p) (e:=p) (by rw [h]; trivial) (.inl rfl) (fun b u hb q=>(Mz _ _ (Na hb)).trans q) ⟨_,e⟩ ?_
 exact ⟨hz,its',n',r,e⟩
noncomputable def kG:V->V->V->Hp->(Hp->Prop)->Prop:=fun o i v H Q=>∃ p xs k j,o=.ref p/\i=.int k/\H p=some (.lst xs)/\ixN xs.length k=some j/\Q (upd H p (.lst (xs.set j v)))
theorem js:FO X kG:=by
 intro pins s σ H o i v ov iv u Q I ro ri rv h
 obtain ⟨p,xs,k,j,rfl,rfl,hp,hj,q⟩:=h
 cases ro
 obtain ⟨t,rfl⟩:=ri
 obtain ⟨its,n,r,ho,hz⟩:=I.lst hp
 obtain ⟨h1,h2,h3,h4⟩:=BP hj
 have hl:=r.length
 have hn:=ui
 have I':Inv X pins σ (upd H p (.lst (xs.set j v))) { s with heap:=s.heap.update p (M8 (·.setIfInBounds j u)) }:=
  I.lstUpd hp ho (Cy its n j u) (r.set rv j) (by rw [NI]; exact hz) s.toks
 by_cases h0:0<=k
 ·have hk:k.toNat=j:=by
   rw [T4 h0 h4] at h1
   exact LW h1
  exact PySem.W.ki_setAt ho h0 (by omega) (by rw [L5,<-hl]; exact h4) (by rw [hk]; exact ⟨_,I',q⟩)
 ·have hk:(k + (its.toArray.size:Int)).toNat=j:=by
   rw [Tq (by omega) h3] at h1
   rw [L5,<-hl]
   exact LW h1
  exact PySem.W.ki_setBack ho (by omega) (by rw [L5,<-hl]; exact h3) (by omega) (by rw [hk]; exact ⟨_,I',q⟩)
noncomputable def gA:V->Bool
 | .non=>true
 | .bl _=>true
 | .int _=>true
 | .str _=>true
 | _=>false
noncomputable def eqV:V->V->Bool
 | .non,.non=>true
 | .bl a,.bl b=>a == b
 | .bl a,.int b=>(if a then 1 else 0) == b
 | .int a,.bl b=>a == (if b then 1 else 0)
 | .int a,.int b=>a == b
 | .str a,.str b=>a == b
 | _,_=>false
theorem Eo {A:Around} {s:Shared} {y x:V} {u v:Value} (ry:aJ y u) (rx:aJ x v) (fy:gA y=true) (fx:gA x=true):Mm A s u v (eqV y x):=by
 cases y with
 | non=>
  cases ry
  cases x with
  | non=>cases rx; exact RX _
  | bl b=>cases rx; exact SH b
  | int b=>obtain ⟨t,rfl⟩:=rx; exact S5 b t
  | str b=>obtain ⟨t,rfl⟩:=rx; exact Mm.none_str b t
  | _=>exact absurd (show false=true from fx) LR
 | bl a=>
  cases ry
  cases x with
  | non=>cases rx; exact SI a
  | bl b=>cases rx; exact SJ a b
  | int b=>obtain ⟨t,rfl⟩:=rx; exact S6 a b t
  | str b=>obtain ⟨t,rfl⟩:=rx; exact Mm.bool_str a b t
  | _=>exact absurd (show false=true from fx) LR
 | int a=>
  obtain ⟨t',rfl⟩:=ry
  cases x with
  | non=>cases rx; exact S7 a t'
  | bl b=>cases rx; exact S8 a t' b
  | int b=>obtain ⟨t,rfl⟩:=rx; exact Tr a t' b t
  | str b=>obtain ⟨t,rfl⟩:=rx; exact Td a t' b t
  | _=>exact absurd (show false=true from fx) LR
 | str a=>
  obtain ⟨t',rfl⟩:=ry
  cases x with
  | non=>cases rx; exact Mm.str_none a t'
  | bl b=>cases rx; exact Mm.str_bool a t' b
  | int b=>obtain ⟨t,rfl⟩:=rx; exact Te a t' b t
  | str b=>obtain ⟨t,rfl⟩:=rx; exact Mm.str_str a t' b t
  | _=>exact absurd (show false=true from fx) LR
 | _=>exact absurd (show false=true from fy) LR
noncomputable def eqU (x:V) (u:Value):Bool:=match u with
 | .none=>eqV .non x
 | .bool b=>eqV (.bl b) x
 | .int i _=>eqV (.int i) x
 | .str z _=>eqV (.str z) x
 | _=>false
theorem Ep {x y:V} {u:Value} (r:aJ y u) (f:gA y=true):eqU x u=eqV y x:=by
 cases y with
 | non=>cases r; rfl
 | bl b=>cases r; rfl
 | int i=>obtain ⟨t,rfl⟩:=r; rfl
 | str z=>obtain ⟨t,rfl⟩:=r; rfl
 | _=>exact absurd (show false=true from f) LR
theorem sZ {A:Around} {s:Shared} {x:V} {v:Value} (rx:aJ x v) (fx:gA x=true):∀ {xs:List V} {us:List Value},aH xs us->xs.all gA=true->∀ u∈us,Mm A s u v (eqU x u)
 | _,_,.nil,_=>fun u hu=>by cases hu
 | y :: xs,u :: us,.cons r t,f=>fun u' hu=>by
  rw [Ph,Nc] at f
  rcases LI.mp hu with rfl | hu
  ·rw [Ep r f.1]; exact Eo r rx f.1 fx
  ·exact sZ rx fx t f.2 u' hu
theorem aD:dc X (.builtin "len") (fun xs H Q=>∃ p ys,xs=[.ref p]/\(SqL X.K H p ys\/SqT X.K H p ys)/\Q (.int ys.length) H):=by
 intro pins s σ H xs us Q I r h
 obtain ⟨p,ys,rfl,hq,q⟩:=h
 obtain ⟨u,rfl,rx⟩:=lV r
 cases rx
 have hn:=ui
 rcases hq with hq | hq
 ·obtain ⟨its,r',pl,hz⟩:=I.list hq
  have hlen:=r'.length
  exact Calls.call_len_list pl.isList (by simp only [L5] <;> omega) ⟨.int ys.length,H,I.tok _,⟨s.toks + 1,by rw [L5,hlen]⟩,q⟩
 ·obtain ⟨its,r',pl,hz⟩:=I.tuple hq
  have hlen:=r'.length
  exact len_tuple pl (by simp only [L5] <;> omega) ⟨.int ys.length,H,I.tok _,⟨s.toks + 1,by rw [L5,hlen]⟩,q⟩
theorem zD:dc X (.type "list") (fun xs H Q=>∃ p ys,xs=[.ref p]/\(SqL X.K H p ys\/SqT X.K H p ys)/\∀ l,H l=none->Q (.ref l) (upd H l (.lst ys))):=by
 intro pins s σ H xs us Q I r h
 obtain ⟨p,ys,rfl,hq,q⟩:=h
 obtain ⟨u,rfl,rx⟩:=lV r
 cases rx
 have fin:∀ (its:List Value),aH ys its->ys.length<=LS->∀ (h':Heap) (c':Nat),(∀ b o',s.heap.get? b=some o'->h'.get? b=some o')->
   h'.get? s.heap.objs.size=some { cls:=.type "list",dict:=none,data:=.seq its.toArray c',slots:=#[] }->EP X pins σ Q (.ref s.heap.objs.size) { s with heap:=h' }:=fun its r' hz h' c' kp e=>
  ⟨.ref s.heap.objs.size,_,I.laid (t':=s.toks) kp (LH _) (show bJ X.prog X.w _ h' _ (.lst ys) from ⟨hz,its,c',r',e⟩),rfl,q _ (I.hok.fresh (LH _))⟩
 rcases hq with hq | hq
 ·obtain ⟨its,r',pl,hz⟩:=I.list hq
  have hlen:=r'.length
  obtain ⟨o,ho,hc,n,hd⟩:=pl.isList
  exact call_list_seq p (.inl rfl) ho hc hd (fun h' c' kp e=>fin its r' hz h' c' kp e) (by simp only [L5] <;> omega)
 ·obtain ⟨its,r',pl,hz⟩:=I.tuple hq
  have hlen:=r'.length
  obtain ⟨o,ho,hc,n,hd⟩:=pl
  exact call_list_seq p (.inr rfl) ho hc hd (fun h' c' kp e=>fin its r' hz h' c' kp e) (by simp only [L5] <;> omega)
theorem pH:dc X (.type "tuple") (fun xs H Q=>∃ p ys,xs=[.ref p]/\((SqL X.K H p ys/\∀ l,H l=none->Q (.ref l) (upd H l (.tup ys)))\/(SqT X.K H p ys/\Q (.ref p) H))):=by
 intro pins s σ H xs us Q I r h
 obtain ⟨p,ys,rfl,h⟩:=h
 obtain ⟨u,rfl,rx⟩:=lV r
 cases rx
 rcases h with ⟨hq,q⟩ | ⟨hq,q⟩
 ·obtain ⟨its,r',pl,hz⟩:=I.list hq
  have hlen:=r'.length
  refine call_tuple_list pl.isList (fun h' kp=>?_) (by simp only [L5] <;> omega)
  have I1:Inv X pins σ H { s with heap:=h' }:=I.kept (t':=s.toks) kp
  have I2:Inv X pins σ (upd H h'.objs.size (.tup ys)) { s with heap:=h'.push { cls:=.type "tuple",data:=.seq its.toArray } }:=
   I1.laid (t':=s.toks) (fun b o e=>LB _ e) (LH _) (show bJ X.prog X.w _ _ _ (.tup ys) from ⟨hz,its,r',eQ.new _ _⟩)
  exact ⟨.ref h'.objs.size,_,I2,rfl,q _ (I1.hok.fresh (LH _))⟩
 ·obtain ⟨its,r',pl,hz⟩:=I.tuple hq
  exact call_tuple_same pl ⟨.ref p,H,I,rfl,q⟩
noncomputable def tyV (K:Fg) (T:String) (x:V) (H:Hp):Prop:=match x with
 | .str _=>T="str"
 | .int _=>T="int"
 | .ref p=>(T="list"/\∃ xs,SqL K H p xs)\/(T="tuple"/\∃ o,K.lookup p=some o/\o.cls=.type "tuple"/\o.dict=none)\/
   (T="dict"/\((∃ kvs,H p=some (.dK kvs))\/∃ kvs,H p=some (.dT kvs)))\/(T="set"/\∃ S n,H p=some (.set S n))
 | _=>False
theorem JK {pins:List (Addr×Obj)} {σ:St} {H:Hp} {s:Shared} {T:String} {x:V} {v:Value} (I:Inv X pins σ H s) (r:aJ x v) (ty:tyV X.K T x H):
  s.TypeIs v T/\∀ a,v=.ref a->∃ ob,s.heap.get? a=some ob/\ob.dict=none:=by
 cases x with
 | str z=>
  obtain ⟨t,rfl⟩:=r
  cases (show T="str" from ty)
  exact ⟨typeIs_str s z t,fun _ e=>nomatch e⟩
 | int i=>
  obtain ⟨t,rfl⟩:=r
  cases (show T="int" from ty)
  exact ⟨UD s i t,fun _ e=>nomatch e⟩
 | ref p=>
  cases r
  rcases ty with ⟨rfl,xs,hq⟩ | ⟨rfl,o,hk,hc,hd⟩ | ⟨rfl,hk⟩ | ⟨rfl,S,n,hk⟩
  ·obtain ⟨its,_,pl,_⟩:=I.list hq
   refine ⟨pl.isList.typeIs,fun a e=>?_⟩
   cases e
   obtain ⟨o,n,e,c,hd,_⟩:=pl
   exact ⟨o,e,hd⟩
  ·refine ⟨⟨o,I.kIn p o hk,hc⟩,fun a e=>?_⟩
   cases e
   exact ⟨o,I.kIn _ o hk,hd⟩
  ·have z:∃ o,s.heap.get? p=some o/\o.ExactDict:=by
    rcases hk with ⟨kvs,hk⟩ | ⟨kvs,hk⟩
    ·obtain ⟨_,_,_,_,o,_,_,e,ex,_⟩:=I.hok p _ hk
     exact ⟨o,e,ex⟩
    ·obtain ⟨_,_,_,_,o,_,_,e,ex,_⟩:=I.hok p _ hk
     exact ⟨o,e,ex⟩
   obtain ⟨o,e,ex⟩:=z
   refine ⟨⟨o,e,ex.1⟩,fun a e2=>?_⟩
   cases e2
   exact ⟨o,e,ex.2.1⟩
  ·obtain ⟨o,_,_,_,e,ex,_⟩:=I.hok p _ hk
   refine ⟨⟨o,e,ex.1⟩,fun a e2=>?_⟩
   cases e2
   exact ⟨o,e,ex.2.1⟩
 | _=>exact Oc ty
noncomputable def Ll (K:Fg) (T:String) (r:V->List V->Hp->VK->Prop) (to:TE):TE:=fun σ H Q=>to σ H fun x H1=>tyV K T x H1/\r x [] H1 Q
noncomputable def tBM (K:Fg) (T:String) (r:V->List V->Hp->VK->Prop) (to:TE) (t:TA):TE:=fun σ H Q=>to σ H fun x H1=>tyV K T x H1/\t σ H1 fun xs H2=>r x xs H2 Q
variable {o e:Expr} {es:List Expr} {to:TE} {t:TA} {name:Str} {apos cpos:Pos} {T id:String} {r:V->List V->Hp->VK->Prop}
theorem lW (pa:PlainAttrs T) (slot:Slot T name id) (hty:typeOf (.builtin id)=pure (.type "method_descriptor")) (hm:MtR X id r) (ho:PE X o to) (ha:PA X (e :: es) t)
  (hbase:Pg o name X.env (eval o X.env)=eval o X.env:=by rfl)
  (hfew:((backTo cpos (L9 (e :: es) X.env)).all (fun x=>!x.1) && (Pc cpos (Ow [] X.env)).all (fun x=>x.1.isSome)
   && decide ((e :: es).length + ([]:List Keyword).length + (if ([]:List Keyword).isEmpty then 0 else 1) < 30))=true:=by rfl)
  (hline:(apos.endLine == cpos.line)=true:=by rfl) (hs:L9 (e :: es) X.env=(false,eval e X.env) :: L9 es X.env:=by rfl) (hplain:(backTo cpos (L9 es X.env)).any (·.1)=false:=by rfl):
  PE X (.Call (.Attribute o name apos) (e :: es) [] cpos) (tBM X.K T r to t):=by
 intro pins s σ H Q I h
 refine P4 hbase hfew hline rfl (thn (ho pins s σ H _ I h) fun v s1 ⟨x,H1,I1,r1,ty,q1⟩=>?_)
 obtain ⟨h1,h2⟩:=JK I1 r1 ty
 refine ⟨T,id,pa,slot,hty,h1,h2,?_⟩
 have hA:=ha cpos pins s1 σ H1 _ I1 q1
 rw [hs] at hA ⊢
 refine P7 (by show (false || (backTo cpos (L9 es X.env)).any (·.1))=false; rw [hplain] <;> rfl) (Qq ?_)
 exact thn hA fun us s2 ⟨vs,H2,I2,r2,q2⟩=>hm pins s2 σ H2 x vs v us Q I2 r1 r2 q2
end
end L2
namespace L2
open PySem PySem.Spec PyProof.Rows
noncomputable def MtM (X:Cx) (id:String) (r:V->List V->Hp->VK->Prop):Prop:=
 ∀ (pins:List (Addr×Obj)) (s:Shared) (σ:St) (H:Hp) (x:V) (xs:List V) (v:Value) (us:List Value) (Q:VK),Inv X pins σ H s->aJ x v->aH xs us->r x xs H Q->
  wpAny (model X.prog X.w) X.A (call (.builtin id) (v :: us)) (EP X pins σ Q) X.xe s
theorem aH.one {x:V} {us:List Value} (h:aH [x] us):∃ u,us=[u]/\aJ x u:=by
 cases h with
 | cons r t=>cases t; exact ⟨_,rfl,r⟩
theorem aH.two {x y:V} {us:List Value} (h:aH [x,y] us):∃ u v,us=[u,v]/\aJ x u/\aJ y v:=by
 cases h with
 | cons r t=>cases t with
  | cons q z=>cases z; exact ⟨_,_,rfl,r,q⟩
theorem aH.rep {xs:List V} {us:List Value} (h:aH xs us):∀ k:Nat,aH (Mo k xs).flatten (Mo k us).flatten
 | 0=>.nil
 | k + 1=>by
  rw [N8,N8,O6,O6]
  exact aH.append h (aH.rep h k)
theorem xL (its:List Value):∀ (k:Nat) (acc:List Value),
  UE (fun x1 x2=>x1++x2) acc.toArray (Mo k its.toArray)=(acc++(Mo k its).flatten).toArray
 | 0,acc=>by simp
 | k + 1,acc=>by
  have e:acc.toArray++its.toArray=(acc++its).toArray:=by simp
  have e2:(acc++its)++(Mo k its).flatten=acc++(Mo (k + 1) its).flatten:=by
   rw [N8,O6,Rj]
  rw [<-e2,<-xL its k (acc++its),<-e,N8,UF]
section
variable {X:Cx} {pins:List (Addr×Obj)} {σ:St} {H:Hp} {s:Shared} {l b:Addr} {xs ys zs:List V}
theorem Inv.lset {its its':List Value} {n:Nat} {f:Array Value->Array Value} {t':Nat} (I:Inv X pins σ H s) (hH:H l=some (.lst xs))
  (e:s.heap.get? l=some { cls:=.type "list",data:=.seq its.toArray n }) (hf:f its.toArray=its'.toArray) (hv:aH ys its') (hz:ys.length<=LS):
  Inv X pins σ (upd H l (.lst ys)) { s with heap:=s.heap.update l (M8 f),toks:=t' }:=by
 have q:=PySem.IsL.update e f
 rw [hf] at q
 refine I.write (x:=l) (e:=l) (by rw [hH]; exact trivial) (.inl rfl) (fun b' u hb hu=>(Mz s.heap (M8 f) (Na hb)).trans hu) ⟨_,q⟩ ?_
 exact ⟨hz,its',_,hv,q⟩
theorem Inv.lnew {its:List Value} {t':Nat} (I:Inv X pins σ H s) (hv:aH ys its) (hz:ys.length<=LS):
  Inv X pins σ (upd H s.heap.objs.size (.lst ys)) { s with heap:=s.heap.push { cls:=.type "list",data:=.seq its.toArray },toks:=t' }:=
 I.laid (fun _ _ q=>LB _ q) (LH _) ⟨hz,its,0,hv,LL _ rfl⟩
theorem Inv.fresh (I:Inv X pins σ H s):H s.heap.objs.size=none:=I.hok.fresh (LH _)
theorem Inv.lstM (I:Inv X pins σ H s) (hH:H l=some (.lst xs)):xs.length<=LS/\∃ (its:List Value) (n:Nat),aH xs its/\xs.length=its.length/\s.heap.get? l=some { cls:=.type "list",data:=.seq its.toArray n }:=by
 obtain ⟨z,its,n,r,e⟩:=I.hok l _ hH
 exact ⟨z,its,n,r,r.length,e⟩
theorem zE {n:Nat} (h:n<=LS):OQ n=false:=by
 unfold OQ
 exact decide_eq_false (by omega)
end
section
variable {X:Cx}
noncomputable def iF:V->List V->Hp->VK->Prop:=fun x vs H Q=>∃ l xs y,x=.ref l/\vs=[y]/\H l=some (.lst xs)/\xs.length < LS/\Q .non (upd H l (.lst (xs++[y])))
theorem gf:MtM X "list.append" iF:=by
 intro pins s σ H x vs v us Q I rx rv h
 obtain ⟨l,xs,y,rfl,rfl,hH,hz,q⟩:=h
 cases rx
 obtain ⟨u,rfl,ru⟩:=rv.one
 obtain ⟨z,its,n,r,hl,e⟩:=I.lstM hH
 refine Qr F.slot_list_append ⟨_,e,rfl⟩ F.entry_list_append (F.args_list_append_2 _ _) (PySem.list_append l its.toArray n u (by rw [L5]; omega)) ⟨e,?_⟩
 refine ⟨.non,_,I.lset (its':=its++[u]) hH e (by simp) (r.append (.cons ru .nil)) ?_,rfl,q⟩
 rw [L7,Sl]
 omega
noncomputable def wB:V->List V->Hp->VK->Prop:=fun x vs H Q=>∃ l b xs zs,x=.ref l/\vs=[.ref b]/\H l=some (.lst xs)/\H b=some (.lst zs)/\xs.length + zs.length<=LS/\Q .non (upd H l (.lst (xs++zs)))
theorem Er:MtM X "list.extend" wB:=by
 intro pins s σ H x vs v us Q I rx rv h
 obtain ⟨l,b,xs,zs,rfl,rfl,hH,hB,hz,q⟩:=h
 cases rx
 obtain ⟨u,rfl,ru⟩:=rv.one
 cases ru
 obtain ⟨z,its,n,r,hl,e⟩:=I.lstM hH
 obtain ⟨z2,its2,n2,r2,hl2,e2⟩:=I.lstM hB
 have hsz:its.toArray.size + its2.toArray.size<=LS:=by rw [L5,L5]; omega
 have hlong:¬ (!its.toArray.isEmpty && OQ (its.toArray.size + its2.toArray.size))=true:=by
  rw [zE hsz,Sm]
  exact LR
 refine Qr F.slot_list_extend ⟨_,e,rfl⟩ F.entry_list_extend (F.args_list_extend_2 _ _)
  (AutoSeq1.list_extend_list_list_0 l its.toArray n b its2.toArray n2 hlong (by rw [L5]; omega) (by omega)) ⟨e,e2,?_⟩
 refine ⟨.non,_,I.lset (its':=its++its2) hH e (by simp) (r.append r2) ?_,rfl,q⟩
 rw [L7]
 omega
noncomputable def JL:R2:=fun x y H Q=>∃ l b xs zs,x=.ref l/\y=.ref b/\H l=some (.lst xs)/\H b=some (.lst zs)/\xs.length + zs.length<=LS/\∀ p,H p=none->Q (.ref p) (upd H p (.lst (xs++zs)))
theorem Es:OpR X (OD .Add) JL:=by
 intro pins s σ H x y v u Q I rx ry h
 obtain ⟨l,b,xs,zs,rfl,rfl,hH,hB,hz,q⟩:=h
 cases rx
 cases ry
 obtain ⟨z,its,n,r,hl,e⟩:=I.lstM hH
 obtain ⟨z2,its2,n2,r2,hl2,e2⟩:=I.lstM hB
 refine PySem.P.add_list e e2 ?_ (by rw [L5,L5]; omega)
 have ea:its.toArray++its2.toArray=(its++its2).toArray:=by simp
 rw [ea]
 exact ⟨.ref _,_,I.lnew (t':=s.toks) (r.append r2) (by rw [L7]; omega),rfl,q _ I.fresh⟩
noncomputable def Lm:R2:=fun x y H Q=>∃ l k xs,x=.ref l/\y=.int k/\H l=some (.lst xs)/\-(2 ^ 63)<=k/\k < 2 ^ 63/\xs.length * k.toNat<=LS/\
 ∀ p,H p=none->Q (.ref p) (upd H p (.lst (Mo k.toNat xs).flatten))
theorem Il {α:Type} (xs:List α) (k:Nat):(Mo k xs).flatten.length=k * xs.length:=by
 induction k with
 | zero=>simp
 | succ k ih=>rw [N8,O6,L7,ih,Nat.succ_mul,Nat.add_comm]
theorem JM:OpR X (OD .Mult) Lm:=by
 intro pins s σ H x y v u Q I rx ry h
 obtain ⟨l,k,xs,rfl,rfl,hH,h1,h2,hz,q⟩:=h
 cases rx
 obtain ⟨t,rfl⟩:=ry
 obtain ⟨z,its,n,r,hl,e⟩:=I.lstM hH
 have hlen:its.toArray.size * k.toNat<=LS:=by rw [L5,<-hl]; exact hz
 have hcap:¬ its.toArray.size * k.toNat > (2 ^ 63 - 1) / 8:=by
  have:(LS:Nat)<=(2 ^ 63 - 1) / 8:=by decide
  omega
 have hfit:¬ (!Builtin.List.listFitsIndex k)=true:=by
  rw [fitsIndex_both h1 h2]
  exact LR
 have hlong:¬ OQ (its.toArray.size * k.toNat)=true:=by
  rw [zE hlen]
  exact LR
 have hnew:UE (fun x1 x2=>x1++x2) #[] (Mo (if its.toArray.isEmpty=true then 0 else k.toNat) its.toArray)=(Mo k.toNat its).flatten.toArray:=by
  have f0:∀ m:Nat,UE (fun x1 x2=>x1++x2) #[] (Mo m its.toArray)=(Mo m its).flatten.toArray:=fun m=>by
   have:=xL its m []
   rw [List.nil_append] at this
   exact this
  rw [f0]
  cases its with
  | nil=>simp
  | cons a r'=>rw [if_neg (by simp)]
 refine wpAny_binaryOp_repeat_ref (T:="list") (U:="int") (by decide) ⟨_,e,rfl⟩ (fun s'=>UD s' k t) noFill_list_mul F.fills_int_mul UG repeat_list F.slot_int_index.lookup
  (Qr UG (UD s k t) F.entry_int_rmul (F.args_int_rmul_2 _ _) (int___rmul___int_list k t l its.toArray n)
   ⟨e,rfl,⟨_,e,rfl⟩,Qr F.slot_list_mul ⟨_,e,rfl⟩ F.entry_list_mul (F.args_list_mul_2 _ _) (AutoListH.list___mul___list_int_3 l its.toArray n k t hfit hcap hlong) ⟨e,?_⟩⟩)
 rw [hnew]
 exact ⟨.ref _,_,I.lnew (t':=s.toks) (r.rep k.toNat) (by rw [Il,NO]; exact hz),rfl,q _ I.fresh⟩
end
section
variable {prog:Program} {w:World} {A:Around} {E:Value->Shared->Prop} {s:Shared}
end
section
variable {X:Cx}
end
end L2
namespace Att
open PySem PySem.W PySem.Calls PyProof.Rows
theorem uo {P:Params} {h:Heap}:∀ (ns:List Int) (vs:List Value),WellAll P h vs (ns.map WData.int)->IntsAre vs ns:=by
 intro ns
 induction ns with
 | nil=>
  intro vs w
  rw [O8] at w
  cases w
  exact .nil
 | cons n ns ih=>
  intro vs w
  rw [LZ] at w
  cases w with
  | cons a b=>
   cases a
   exact .cons _ _ (ih _ b)
theorem Et {l:OpenLaw} {n:Nat} (hn:l.most=some n) {P:Params} {h:Heap} {args:List WData} {vals:List Value}
  (hpre:l.row.toRowW.claim.pre args=true) (hwl:WellAll P h vals args):
  ∃ a vs ns,vals=[Mh a]/\args=[WData.list (ns.map WData.int)]/\h.get? a=some { cls:=.type "list",data:=.seq vs.toArray }/\IntsAre vs ns/\ns.length<=n:=by
 have hsh:WShape.hasAll [] args [.list .int]=true:=(pre_splitW hpre).1
 have hc:l.pre.holds [] { args:=args }=true:=(pre_splitW hpre).2
 obtain ⟨d,r,rfl,h1,h2⟩:=hasAllW_cons hsh
 obtain rfl:=hasAllW_nil h2
 obtain ⟨xs,rfl,h3⟩:=hasW_list h1
 obtain ⟨ns,rfl⟩:=items_int h3
 have hlen:ns.length<=n:=by
  unfold OpenLaw.pre at hc
  have h4:(WTm.not (.lt (.lit (.int (n:Int))) (.len (.arg 0)))).holds [] { args:=[.list (ns.map .int)] }=true:=by
   have h4:=(holds_andW hc).1
   rw [hn] at h4
   exact h4
  have h5:=condW_of h4 (w_not (w_lt w_lit (w_len_list (w_arg rfl))))
  rw [LF] at h5
  refine RC fun q=>?_
  have q':(n:Int) < ((ns.length:Nat):Int):=by omega
  first
   | (rw [decide_eq_true q'] at h5; exact absurd h5 (by decide))
   | (simp at h5; omega)
 cases hwl with
 | cons w1 w2=>
  cases w2
  cases w1 with
  | list ho hall=>exact ⟨_,_,ns,rfl,rfl,ho,uo ns _ hall,hlen⟩
theorem Eu (l:OpenLaw) (args:List WData):l.row.toRowW.claim.post args (.bool true) args=true:=
 postW_of (r:=l.row.toRowW) (X:=(true == true))
  (show WShape.has [] (.bool true) .bool=true by first | rfl | decide | simp [WShape.has,WShape.arms,WShape.armsAll])
  (show (WTm.eq .res (.lit (.bool true))).value [] { args:=args,res:=some (.bool true),after:=args }=some (.bool (true == true)) from w_eq_bool (w_res rfl) w_lit) rfl
section
variable {prog:Program} {w:World} {A:Around} {E:Value->Shared->Prop} {s:Shared} {K:Frag}
end
end Att
namespace L2
open PySem PySem.Spec PyProof.Rows
theorem qk:∀ {vs:List Value} {ns:List Int},IntsAre vs ns->aH (ns.map V.int) vs
 | _,_,.nil=>.nil
 | _,_,.cons n t h=>.cons ⟨t,rfl⟩ (qk h)
noncomputable def JN (H:Hp):Prop:=∀ b,H b=none\/∃ o xs,H b=some (.frz o (.lst xs))
theorem FY {P:Program} {w:World} {K:Fg} {mg mb:Str->Option Value} {CX:CXT} {k:Nat} {fa a:Addr} {fd:L6} {x:Str} {sp:Sp} {s₁:Shared} {vs:List Value} {ns:List Int}
  (KX:K.In s₁.heap) (hns:s₁.heap.Ns Mj mg) (hb:s₁.heap.Ns Uy mb) (hbb:∀ x:Str,x≠"__name__"->mb x=Pq x) (hlim:s₁.heap.NoLimit) (hg:s₁.gens=#[])
  (ha:s₁.heap.get? a=some { cls:=.type "list",data:=.seq vs.toArray }) (hi:IntsAre vs ns) (hl:ns.length<=LS) (hr:b8 k callerA)
  (F:∀ base:Heap,K.In base->base.Ns Mj mg->gT P w K mg base CX k fa fd [x] sp) (hbind:∀ (s:Shared) (u:Value),BindsTo s fd ⟨[u],[]⟩ [(x,u)])
  (hsp:∀ H:Hp,JN H->SqL K H a (ns.map V.int)->sp [.ref a] H (fun v _=>v=.bl true) fun _ _ _=>False)
  (hCX:∀ H e s',CX [] H s₁ (fun _ _ _=>False) e s'->False):
  codeAny (model P w) callerA (.call (.ref fa) ⟨[.ref a],[]⟩) (fun r s'=>r=.ok (.ret (.bool true))/\OldK s₁.heap s'.heap/\s'.os=s₁.os/\AllBare s'.gens) s₁:=by
 have rv:=qk hi
 have lenV:=hi.length
 have core:∀ H:Hp,JN H->SqL K H a (ns.map V.int)->HOk P w H s₁.heap->(∀ b,H b≠none->b=a)->(H a≠none->K.lookup a=none)->
   codeAny (model P w) callerA (.call (.ref fa) ⟨[.ref a],[]⟩) (fun r s'=>r=.ok (.ret (.bool true))/\OldK s₁.heap s'.heap/\s'.os=s₁.os/\AllBare s'.gens) s₁:=by
  intro H hO hS hok hA hK
  have base_of:∀ {b:Addr} {o:Obj},s₁.heap.get? b=some o->H b=none->(om s₁.heap H).get? b=some o:=fun e n=>FL e n
  have noA:∀ {b:Addr} {o:Obj} {es:Array Th} {ep:Nat},s₁.heap.get? b=some o->o.data=.dict es ep->H b=none:=fun {b o es ep} e d=>by
   cases q:H b with
   | none=>rfl
   | some u=>
    have e':b=a:=hA b (by rw [q]; simp)
    subst e'
    rw [ha] at e; cases e
    have d':Data.seq vs.toArray _=Data.dict es ep:=d
    cases d'
  have nsK:∀ {b:Addr} {m:Str->Option Value},s₁.heap.Ns b m->(om s₁.heap H).Ns b m:=fun {b m} ⟨o,es,ep,e,d,r⟩=>⟨o,es,ep,base_of e (noA e d),d,r⟩
  have hKb:K.In (om s₁.heap H):=fun b o e=>base_of (KX b o e) (by
   cases q:H b with
   | none=>rfl
   | some u=>
    have e':b=a:=hA b (by rw [q]; simp)
    subst e'
    rw [hK (by rw [q]; simp)] at e; cases e)
  have hM:Mod K mg (om s₁.heap H):=⟨hKb,nsK hns,⟨mb,nsK hb,hbb⟩,let ⟨mc,h1,h2⟩:=hlim; ⟨mc,nsK h1,h2⟩⟩
  have e0:sW P w K mg (om s₁.heap H) callerA [] s₁ H:=⟨rfl,hM,fun b o e=>HX e,Qn (Ea _ _),trivial,fun b hb=>absurd (show b∈([]:List Addr) from hb) (by simp),hok,.of_eq hg⟩
  refine OP ((F _ hKb (nsK hns)).run callerA [] s₁ H ⟨[.ref a],[]⟩ [.ref a] [.ref a] _ _ hr e0 (hbind s₁ (.ref a)) (.cons rfl .nil) (hsp H hO hS)) fun r s' h=>?_
  cases r with
  | error e=>exact (hCX H e s' h).elim
  | ok fl=>
   cases fl with
   | next=>exact Oc h
   | brk=>exact Oc h
   | cont=>exact Oc h
   | ret u=>
    obtain ⟨v,H',os,bare,un,hok',r',q⟩:=h
    have q':v=.bl true:=q
    subst q'
    obtain rfl:u=Nd true:=r'
    refine ⟨rfl,OldK.of_keep fun b o e=>?_,os,bare⟩
    cases q:H b with
    | none=>exact un.keep b o e q (by intro z; exact absurd (show b∈([]:List Addr) from z) (by simp)) (by simp)
    | some u=>
     rcases hO b with z | ⟨ob,xs,z⟩
     ·rw [q] at z; cases z
     ·have z2:=un.frzs b ob _ z
      obtain ⟨e1,_⟩:=hok b _ z
      obtain ⟨e2,_⟩:=hok' b _ z2
      rw [e] at e1; cases e1
      exact e2
 cases hk:K.lookup a with
 | some o=>
  have e:=KX a o hk
  rw [ha] at e
  cases e
  refine core (fun _=>none) (fun _=>.inl rfl) (.inr ⟨_,vs.toArray,_,hk,rfl,rfl,rfl,by rw [L5,lenV]; exact hl,by simpa using rv⟩) (fun b u z=>by have z':(none:Option HO)=some u:=z; cases z') (fun b z=>absurd rfl z) fun z=>absurd rfl z
 | none=>
  refine core (fun b=>if b=a then some (.frz { cls:=.type "list",data:=.seq vs.toArray } (.lst (ns.map V.int))) else none) (fun b=>?_) (.inl (.inr ⟨{ cls:=.type "list",data:=.seq vs.toArray },if_pos rfl⟩)) (fun b u z=>?_) (fun b z=>?_) fun _=>hk
  ·by_cases hb:b=a
   ·exact .inr ⟨_,_,if_pos hb⟩
   ·exact .inl (if_neg hb)
  ·by_cases hb:b=a
   ·have z':=(if_pos hb).symm.trans z
    cases z'
    subst hb
    exact ⟨ha,by rw [LF]; exact hl,vs,_,rv,ha⟩
   ·have z':=(if_neg hb).symm.trans z
    cases z'
  ·by_cases hb:b=a
   ·exact hb
   ·exact absurd (if_neg hb) z
end L2
namespace L2
open PySem PySem.Spec PyProof.Rows
end L2
namespace L2
open PySem PySem.Spec PyProof.Rows
noncomputable def ju (s:Stmt) (j:Nat):Stmt:=match s with
 | .ClassDef _ _ _ body _ _ _ _ _ _ _=>body.getD j (.Pass ⟨0,0,0,0⟩)
 | _=>.Pass ⟨0,0,0,0⟩
noncomputable def jv (s:Stmt):Arguments:=match s with
 | .FunctionDef _ a _ _ _ _ _ _ _ _=>a
 | _=>{ posonlyargs:=[],args:=[],vararg:=none,kwonlyargs:=[],kw_defaults:=[],kwarg:=none,defaults:=[] }
noncomputable def eS (s:Stmt):List Stmt:=match s with
 | .FunctionDef _ _ b _ _ _ _ _ _ _=>b
 | _=>[]
noncomputable def ab (s:Stmt):Scope:=match s with
 | .FunctionDef _ _ _ _ _ _ sc _ _ _=>sc
 | _=>{ kind:=.function,names:=[],isGenerator:=false,isCoroutine:=false }
noncomputable abbrev CX0:CXT:=fun _ _ _ _ _ _=>False
noncomputable abbrev E0:XK:=fun _ _ _=>False
theorem yZ {X:Cx}:lg CX0 X E0:=fun _ _ _ _ _ _ _ h=>h.elim
structure Fun (K:Fg) (x qual:Str) (st:Stmt) (f:Addr) (fd:L6):Prop where
 ex:∃ (oc:Value) (od:Option Addr) (kV doc pm:Value) (an:Option Addr) (cdv ct:Value) (osl:Array (Option Value)),
  fd=Pr x qual (jv st) (eS st) (ab st) .none kV doc pm an cdv ct/\K.lookup f=some ⟨oc,od,.func fd,osl⟩/\Sk K cdv qual=true
 kp:O7 K (.ref f)=true
section
variable {P:Program} {w:World} {K:Fg} {mg:Str->Option Value} {base:Heap}
theorem Fun.ok {x qual:Str} {st:Stmt} {f:Addr} {fd:L6} {N ps:List Str} {k:Nat} {sp:Sp} (F:Fun K x qual st f fd) (S:aB N ps (ab st)) (len:∀ vs H Q E,sp vs H Q E->vs.length=ps.length)
  (hbody:∀ (cdv:Value) (A:Around) (outer:List Env) (s:Shared) (H:Hp) (vs:List V) (Q:VK) (E:XK),b8 k (A.deeper (envOfC qual (ab st) s.heap.objs.size f cdv))->sp vs H Q E->
   ∃ t,PSs (ow CX0 P w K mg base N qual (ab st) f cdv A outer s H E).nox (eS st) t/\t { nx:=fun _ H'=>Q .non H',rt:=Q } (start N vs) H):gT P w K mg base CX0 (k + 1) f fd ps sp:=by
 obtain ⟨oc,od,kV,doc,pm,an,cdv,ct,osl,rfl,lk,hcd⟩:=F.ex
 refine KL lk hcd S len fun A outer s H vs Q E hr hsp=>?_
 obtain ⟨t,h,q⟩:=hbody cdv A outer s H vs Q E hr hsp
 exact ⟨t,h.nox,q⟩
theorem Fun.binds {x qual:Str} {st:Stmt} {f:Addr} {fd:L6} {ps:List Str} (F:Fun K x qual st f fd)
  (h:∀ (kV doc pm:Value) (an:Option Addr) (cdv ct:Value) (us:List Value),us.length=ps.length->bindArgs (Pr x qual (jv st) (eS st) (ab st) .none kV doc pm an cdv ct) ⟨us,[]⟩=pure (ps.zip us)):fq K fd ps []:=by
 obtain ⟨oc,od,kV,doc,pm,an,cdv,ct,osl,rfl,lk,hcd⟩:=F.ex
 exact .all (h kV doc pm an cdv ct)
theorem Ev {x qual:Str} {st:Stmt} {f:Addr} {oc:Value} {od an:Option Addr} {osl:Array (Option Value)} {kV doc pm cdv ct:Value} (l:K.lookup f=some ⟨oc,od,.func (Pr x qual (jv st) (eS st) (ab st) .none kV doc pm an cdv ct),osl⟩)
  (c:Sk K cdv qual=true) (k:O7 K (.ref f)=true):Fun K x qual st f (Pr x qual (jv st) (eS st) (ab st) .none kV doc pm an cdv ct):=⟨⟨oc,od,kV,doc,pm,an,cdv,ct,osl,rfl,l,c⟩,k⟩
end
theorem Ew {n:Nat} (h:n<=1000):n < LS:=OX h (by decide)
section
variable {X:Cx}
theorem pv (i:Nat) {x:Str} {pos:Pos} (hN:X.N[i]?=some x:=by rfl) (hv:Vis X.env.scope x:=by first | exact LN rfl | exact Pi (LN rfl) | exact Pi (Pi rfl)) (hd:(x == ("__debug__":Str))=false:=by decide)
  (hcd:(x == ("__classdict__":Str))=false:=by decide):PE X (.Name x pos) (ac i):=Eb hN hv hd hcd
end
theorem ox {A B:Prop} (h:B):if false=true then A else B:=by
 rw [if_neg LR]
 exact h
theorem ql {A B:Prop} (h:A):if true=true then A else B:=by
 rw [if_pos rfl]
 exact h
noncomputable def am (H H':Hp):Prop:=∀ b o,H b=some o->H' b=some o
theorem am.refl (H:Hp):am H H:=fun _ _ h=>h
theorem am.trans {H H1 H2:Hp} (a:am H H1) (b:am H1 H2):am H H2:=fun c o h=>b c o (a c o h)
theorem am.free {H H':Hp} (e:am H H') {l:Addr} (h:H' l=Option.none):H l=Option.none:=by
 cases q:H l with
 | none=>rfl
 | some o=>
  rw [e l o q] at h
  cases h
theorem am.seq {K:Fg} {H H':Hp} {a:Addr} {xs:List V} (e:am H H') (h:SqL K H a xs):SqL K H' a xs:=by
 rcases h with (h | ⟨o,h⟩) | h
 ·exact .inl (.inl (e _ _ h))
 ·exact .inl (.inr ⟨o,e _ _ h⟩)
 ·exact .inr h
end L2
end
namespace L2
open PySem PyProof.Rows
section
open PySem.Spec
theorem oy {a b:Addr} {n:Nat} (h:a < n) (h':n<=b):a≠b:=Mn (Mb h h')
theorem JO {a b:Addr} {n:Nat} (h:n<=a) (h':b < n):a≠b:=N9 (Mb h' h)
noncomputable def eU (env:Env):List (Str×MA)->List (Str×Addr)->List (Str×Addr)
 | [],acc=>acc
 | (n,k) :: r,acc=>if k=.free then (match env.cells.lookup n with | some c=>eU env r ((n,c) :: acc) | none=>eU env r acc) else eU env r acc
theorem kH {env:Env}:∀ (ns:List (Str×MA)) (acc:List (Str×Addr)),(∀ p∈acc,env.cells.lookup p.1=some p.2)->∀ p∈eU env ns acc,env.cells.lookup p.1=some p.2
 | [],acc,h=>by intro p hp; exact h p hp
 | (n,k) :: r,acc,h=>by
  intro p hp
  rw [eU] at hp
  split at hp
  ·split at hp
   ·rename_i c hc
    refine kH r _ (fun q hq=>?_) p hp
    rcases LI.mp hq with rfl | hq
    ·exact hc
    ·exact h q hq
   ·exact kH r acc h p hp
  ·exact kH r acc h p hp
theorem oz {env:Env}:∀ (ns:List (Str×MA)) (acc:List (Str×Addr)),∀ p∈acc,p∈eU env ns acc
 | [],acc=>fun p hp=>hp
 | (n,k) :: r,acc=>fun p hp=>by
  rw [eU]
  split
  ·split
   ·exact oz r _ p (LQ _ hp)
   ·exact oz r acc p hp
  ·exact oz r acc p hp
theorem oA {env:Env}:∀ (ns:List (Str×MA)) (acc:List (Str×Addr)) (x:Str) (c:Addr),(x,Nl)∈ns->env.cells.lookup x=some c->(x,c)∈eU env ns acc
 | [],acc,x,c=>fun h _=>(nomatch h)
 | (n,k) :: r,acc,x,c=>fun h hc=>by
  rw [eU]
  rcases LI.mp h with e | h
  ·cases e
   rw [if_pos rfl,hc]
   exact oz r _ _ LK
  ·split
   ·split
    ·exact oA r _ x c h hc
    ·exact oA r acc x c h hc
   ·exact oA r acc x c h hc
theorem pI {α:Type} {x:Str} {c:α}:∀ {l:List (Str×α)},(x,c)∈l->∃ d,l.lookup x=some d
 | (y,d) :: r,h=>by
  rw [M4]
  cases e:x == y with
  | true=>exact ⟨d,rfl⟩
  | false=>
   rcases LI.mp h with q | q
   ·cases q
    rw [beq_self_eq_true] at e
    cases e
   ·exact pI q
theorem fM {env:Env} {ns:List (Str×MA)} {x:Str} {c:Addr} (h:(eU env ns []).lookup x=some c):env.cells.lookup x=some c:=
 kH ns [] (fun _ hp=>(nomatch hp)) (x,c) (M0 h)
theorem xM {env:Env} {ns:List (Str×MA)} {x:Str} {c:Addr} (hm:(x,Nl)∈ns) (hc:env.cells.lookup x=some c):(eU env ns []).lookup x=some c:=by
 obtain ⟨d,hd⟩:=pI (oA ns [] x c hm hc)
 have e:=fM hd
 rw [hc] at e
 cases e
 exact hd
theorem uq {scope:Scope} {env:Env} (h:∀ y∈scope.names,y.2=.free->∃ c,env.cells.lookup y.1=some c):SK scope env=pure (eU env scope.names []):=by
 have go:∀ (ns:List (Str×MA)) (acc:List (Str×Addr)),(∀ y∈ns,y.2=.free->∃ c,env.cells.lookup y.1=some c)->
   (forIn ns acc fun (x:Str×MA) (cs:List (Str×Addr))=>(match x with
    | (name,kind)=>if (kind == Nl)=true then (do let c <-cellOf env name; pure (OY ((name,c) :: cs))) else pure (OY cs):Sem (ForInStep (List (Str×Addr)))))=(pure (eU env ns acc):Sem (List (Str×Addr))):=by
  intro ns
  induction ns with
  | nil=>intro acc _; rfl
  | cons y r ih=>
   intro acc hy
   obtain ⟨n,k⟩:=y
   have ih':=fun acc=>ih acc fun z hz=>hy z (LQ _ hz)
   rw [Po,eU]
   by_cases hk:k=.free
   ·subst hk
    obtain ⟨c,hc⟩:=hy (n,.free) LK rfl
    have hc':env.cells.lookup n=some c:=hc
    simp only [beq_self_eq_true,if_true,cellOf,hc',pure_bind]
    exact ih' _
   ·have hb:(k == Nl)=false:=by simpa using hk
    simp only [hb,MM,if_false,pure_bind,if_neg hk]
    exact ih' _
 unfold SK
 have g:=go scope.names [] h
 simp only [bind_pure]
 exact g
structure qm (sc scope:Scope) (NX N:List Str) (ix:List (Option Nat)):Prop where
 kind:scope.kind=.function
 nocell:∀ y∈scope.names,y.2≠.cell
 names:∀ y∈scope.names,y.2=.local->scope.names.lookup y.1=some .local
 free:∀ y∈scope.names,y.2=.free->sc.names.lookup y.1=some .cell\/sc.names.lookup y.1=some .free
 nd:N.Nodup
 len:ix.length=N.length
 at_:∀ p∈N.zip ix,∀ i∈p.2,NX[i]?=some p.1/\scope.names.lookup p.1=some .free
noncomputable def sub (ix:List (Option Nat)) (σ:St):St:=ix.map fun o=>match o with | some i=>(match σ[i]? with | some v=>v | none=>none) | none=>none
noncomputable def cz (X:Cx) (N:List Str) (scope:Scope) (C:Addr) (s:Shared) (H:Hp) (fp:List Addr):Cx where
 prog:=X.prog
 w:=X.w
 K:=X.K
 mg:=X.mg
 base:=X.base
 A:=X.A
 N:=N
 s₀:=s
 H₀:=H
 env:=SL scope (eU X.env scope.names []) C X.env
 outer:=X.stack
 stack:=X.stack
 ex:=fp
 fn:=fun _=>false
 calm:=X.calm
 pn:=[]
 xe:=fun _ _=>False
theorem qo {scope:Scope} {env:Env} {x:Str} {k:MA} (h:(relabel scope env).names.lookup x=some k):scope.names.lookup x=some k\/(k=.cell/\scope.names.lookup x=some .free):=by
 have go:∀ ns:List (Str×MA),(ns.map fun (n,k)=>if (k == Nl && env.scope.kind == .function && env.kindOf n == some .cell) then (n,Qa) else (n,k)).lookup x=some k->
   ns.lookup x=some k\/(k=.cell/\ns.lookup x=some .free):=by
  intro ns
  induction ns with
  | nil=>intro q; simp at q
  | cons y r ih=>
   obtain ⟨n,k'⟩:=y
   intro q
   rw [LZ] at q
   by_cases hc:(k' == Nl && env.scope.kind == .function && env.kindOf n == some .cell)=true
   ·simp only [hc,if_true] at q
    have hk':k'=.free:=by
     have:=(Nc _ _ ▸ hc)
     have h1:=(Nc _ _ ▸ this.1)
     exact eq_of_beq h1.1
    subst hk'
    rw [M4] at q ⊢
    cases e:x == n with
    | true=>
     rw [e] at q
     cases q
     exact .inr ⟨rfl,rfl⟩
    | false=>
     rw [e] at q
     exact ih q
   ·simp only [hc] at q
    rw [if_neg (by simp)] at q
    rw [M4] at q ⊢
    cases e:x == n with
    | true=>rw [e] at q; exact .inl q
    | false=>rw [e] at q; exact ih q
 exact go scope.names h
theorem zF {scope:Scope} {env:Env} {x:Str} (h:scope.names.lookup x=some .free):(relabel scope env).names.lookup x=some .cell\/(relabel scope env).names.lookup x=some .free:=by
 have go:∀ ns:List (Str×MA),ns.lookup x=some .free->
   (ns.map fun (n,k)=>if (k == Nl && env.scope.kind == .function && env.kindOf n == some .cell) then (n,Qa) else (n,k)).lookup x=some .cell\/
   (ns.map fun (n,k)=>if (k == Nl && env.scope.kind == .function && env.kindOf n == some .cell) then (n,Qa) else (n,k)).lookup x=some .free:=by
  intro ns
  induction ns with
  | nil=>intro q; simp at q
  | cons y r ih=>
   obtain ⟨n,k'⟩:=y
   intro q
   rw [LZ]
   rw [M4] at q
   cases e:x == n with
   | true=>
    rw [e] at q
    cases q
    by_cases hc:(Nl == Nl && env.scope.kind == .function && env.kindOf n == some .cell)=true
    ·simp only [hc,if_true]
     rw [M4,e]
     exact .inl rfl
    ·simp only [hc]
     rw [if_neg (by simp),M4,e]
     exact .inr rfl
   | false=>
    rw [e] at q
    have z:=ih q
    by_cases hc:(k' == Nl && env.scope.kind == .function && env.kindOf n == some .cell)=true
    ·simp only [hc,if_true]
     rw [M4,e]
     exact z
    ·simp only [hc]
     rw [if_neg (by simp),M4,e]
     exact z
 exact go scope.names h
theorem Inv.gone {X:Cx} {pins:List (Addr×Obj)} {σ σ₂:St} {H H₂:Hp} {s s₂:Shared} {C:Addr} {h'':Heap} (I:Inv X pins σ H s) (I2:Inv X pins σ₂ H₂ s₂) (hC:s₂.heap.objs.size<=C) (hn:H C=none) (hs:L8 C s.heap h''):Inv X pins σ H { s with heap:=h'' }:=
 I.turned (t':=s.toks) (it:=C) (fun b o hb e=>hs.extBut b o hb e) hn (N9 (Mb I2.lt hC)) (.inr (Mq I2.sz hC))
  (fun x c e=>by
   obtain ⟨v,o,ho,_⟩:=I2.cell x c e
   exact oy (LM ho) hC) fun q hq=>oy (LM (I2.pin q hq).1) hC
noncomputable def PTL (X:Cx) (ifs:List Expr) (t:TT):Prop:=
 ∀ (pins:List (Addr×Obj)) (s:Shared) (σ:St) (H:Hp) (Q:Bool->Hp->Prop),Inv X pins σ H s->t σ H Q->
  wpAny (model X.prog X.w) X.A (forIn ifs true fun c r=>if r=true then do let ok <-isTrue c X.env (eval c X.env); pure (OY ok) else pure (OY r)) (TP X pins σ Q) X.xe s
noncomputable def bB:TT:=fun _ H Q=>Q true H
theorem bQ {X:Cx}:PTL X [] bB:=fun _ _ _ H _ I h=>wpAny_tests_nil ⟨H,I,h⟩
theorem rB {X:Cx} {c:Expr} {t:TT} (h:PT X c t):PTL X [c] t:=fun pins s σ H Q I q=>wpAny_tests_one (h pins s σ H Q I q)
noncomputable def cK (J:It) (g:TG) (tt:TT) (te:TE) (σ₀:St) (p:Addr) (Q:VK) (W:Nat->Nat->List V->Hp->Prop):Prop:=
 ∀ i m acc H,W i m acc H->H p=some (.lst acc)/\
  ((J.stop i H/\Q (.ref p) H)\/(J.go i H/\acc.length < LS/\∃ N:List V->Hp->Prop,(∀ acc' H',N acc' H'->∃ m',m' < m/\W (i + 1) m' acc' H')/\
   ∀ x H1,J.yld i H x H1->g x σ₀ H1 fun σ2 H2=>tt σ2 H2 fun b H3=>if b=true then te σ2 H3 fun y H4=>H4 p=some (.lst acc)/\N (acc++[y]) (upd H4 p (.lst (acc++[y]))) else N acc H3))
noncomputable abbrev CF (α:Type):=Addr->Shared->Hp->List Addr->α
noncomputable def bT (wi:TI) (g:CF TG) (tt:CF TT) (te:CF TE) (ix:List (Option Nat)):TE:=fun σ H Q=>wi σ H fun J H1=>∀ p,H1 p=none->
 ∃ W:Nat->Nat->List V->Hp->Prop,(∃ m,W 0 m [] (upd H1 p (.lst [])))/\∀ C s' H' fp,cK J (g C s' H' fp) (tt C s' H' fp) (te C s' H' fp) (sub ix σ) p Q W
section
variable {X:Cx} {elt tg iter:Expr} {ifs:List Expr} {scope sc:Scope} {pos:Pos} {NX N:List Str} {ix:List (Option Nat)} {wi:TI} {g:CF TG} {tt:CF TT} {te:CF TE}
theorem Ex {prog:Program} {w:World} {A:Around} {R:Result->Shared->Prop} {s:Shared} {it acc:Value} {env:Env} (I:Nat->Shared->Prop)
  (turn:∀ n s,I n s->wpAny (model prog w) A (pyNext it) (fun r s₁=>match r with
   | none=>R (.ok .next) s₁
   | some v=>wpAny (model prog w) A (Qm tg it v) (fun _ s₁'=>wpAny (model prog w) A (assign tg env v) (fun _ s₂=>
     wpAny (model prog w) A (forIn ifs true fun c r=>if r=true then do let ok <-isTrue c env (eval c env); pure (OY ok) else pure (OY r)) (fun ok s₃=>
      if ok=true then wpAny (model prog w) A (eval elt env) (fun x s₄=>
       wpAny (model prog w) A (call (.builtin "list.append") [acc,x]) (fun _ s₅=>∃ m,m < n/\I m s₅) (fun _ _=>False) s₄) (fun _ _=>False) s₃
      else ∃ m,m < n/\I m s₃) (fun _ _=>False) s₂) (fun _ _=>False) s₁') (fun _ _=>False) s₁) (fun _ _=>False) s)
  (n:Nat) (h:I n s):codeAny (model prog w) A (.compLoop (.ListComp elt [⟨tg,iter,ifs,0⟩] scope pos) 0 it acc env) R s:=by
 refine codeAny_loop rfl I (fun n s hI=>?_) n h
 show wpAny _ A ((compTurn (.ListComp elt [⟨tg,iter,ifs,0⟩] scope pos) 0 it acc env).onRaise (fun x=>do noteFrame x env; theTreesLotGoes x)) _ _ s
 refine wpAny_noted ?_
 rw [compTurn_list]
 refine LA (Q3 (LA (Nx (turn n s hI) (fun r s₁ h₁=>?_) fun _ _ z=>z.elim)))
 cases r with
 | none=>exact LC h₁
 | some v=>
  refine LA (Nx h₁ (fun _ s₁' h₁'=>?_) fun _ _ z=>z.elim)
  refine LA (Nx h₁' (fun _ s₂ h₂=>LA (Nx h₂ (fun ok s₃ h₃=>?_) fun _ _ z=>z.elim)) fun _ _ z=>z.elim)
  cases ok with
  | false=>exact LC ⟨rfl,h₃⟩
  | true=>exact LA (LA (Nx h₃ (fun x s₄ h₄=>LA (Nx h₄ (fun _ s₅ h₅=>LC (LC ⟨rfl,h₅⟩)) fun _ _ z=>z.elim)) fun _ _ z=>z.elim))
theorem ur {pins:List (Addr×Obj)} {σ:St} {H:Hp} {s:Shared} {fp:List Addr} {it:Addr} {J:It} {tn:Nat->Heap->Prop} {Q:VK} {E:Value->Shared->Prop} {RR:Value->Addr->Result->Shared->Prop}
  (hc:X.calm=true) (hsc:X.env.scope=sc) (hNX:X.N=NX) (S:qm sc scope NX N ix)
  (hg:∀ C s H fp,PG (cz X N scope C s H fp) tg (g C s H fp)) (ht:∀ C s H fp,PTL (cz X N scope C s H fp) ifs (tt C s H fp)) (he:∀ C s H fp,PE (cz X N scope C s H fp) elt (te C s H fp))
  (I:Inv X pins σ H s) (T:sT X.prog X.w X.K tg J fp it tn) (st:tn 0 s.heap) (hf:∀ b∈fp,kd X pins H b)
  (hq:∀ p,H p=none->∃ W:Nat->Nat->List V->Hp->Prop,(∃ m,W 0 m [] (upd H p (.lst [])))/\∀ C s' H' fp,cK J (g C s' H' fp) (tt C s' H' fp) (te C s' H' fp) (sub ix σ) p Q W)
  (hR:∀ p C s' H' m,s.heap.objs.size<=p->s.heap.objs.size<=C->s'.heap.Ns C m->H' C=none->Q (.ref p) H'->Inv X pins σ H' s'->RR (.ref p) C (.ok .next) s'):
  wpAny (model X.prog X.w) X.A (newList []) (fun acc s₃=>wpAny (model X.prog X.w) X.A (newFunctionEnv scope X.env.globals (eU X.env scope.names []) [] X.env.qual none .none (some X.env)) (fun cenv s₄=>
   codeAny (model X.prog X.w) X.A (.compStart (.ListComp elt [⟨tg,iter,ifs,0⟩] scope pos) 0 (.ref it) acc { cenv with scope:=relabel scope X.env }) (RR acc cenv.locals) s₄) E s₃) E s:=by
 refine ME (wpAny_newFunctionEnv S.nocell (by intro y hy; simp at hy) (fun h₁ hns₁ hsb₁=>?_) S.kind)
 dsimp only at hns₁ hsb₁ ⊢
 have hsz:(s.heap.push { cls:=.type "list",dict:=none,data:=.seq ([]:List Value).toArray }).objs.size=s.heap.objs.size + 1:=MF ..
 generalize hC:(s.heap.push { cls:=.type "list",dict:=none,data:=.seq ([]:List Value).toArray }).objs.size=C at hns₁ hsb₁ ⊢
 rw [hsz] at hC
 generalize hp:s.heap.objs.size=p at hC
 have pC:p≠C:=by omega
 have old:∀ b o,s.heap.get? b=some o->h₁.get? b=some o:=fun b o e=>hsb₁.extBut b o (oy (LM e) (by omega)) (LB _ (LB _ e))
 have hnew:h₁.get? p=some { cls:=.type "list",data:=.seq ([]:List Value).toArray }:=hsb₁.extBut _ _ pC (LB _ (by rw [<-hp]; exact LL _ rfl))
 have hfp:H p=none:=I.hok.fresh (by omega)
 have hfC:H C=none:=I.hok.fresh (by omega)
 have lt:∀ b∈fp,b < p:=fun b hb=>by
  obtain ⟨o,e,_⟩:=T.obj 0 _ st b hb
  rw [<-hp]
  exact LM e
 have hcells:∀ y∈scope.names,y.2=.free->∃ c,X.env.cells.lookup y.1=some c:=fun y hy hk=>by
  refine I.ok.has y.1 ?_
  show X.env.scope.names.lookup y.1=some .cell\/X.env.scope.names.lookup y.1=some .free
  rw [hsc]
  exact S.free y hy hk
 have noown:∀ x,scope.names.lookup x≠some .cell:=fun x e=>S.nocell _ (M0 e) rfl
 have hok:(cz X N scope C s H fp).Ok:=by
  refine ⟨I.ok.mod,S.kind,I.ok.glob,I.ok.blt,by show s.heap.objs.size<=C; omega,fun x y c h1 h2=>I.ok.inj x y c (fM h1) (fM h2),fun x hx=>?_,fun x c z=>(by cases z),I.ok.hd,I.ok.frames,.inl rfl,fun b hb=>?_,I.bs,Mq I.ok.bsz I.sz,fun b o e hb=>?_,fun b hb z=>?_,I.stack,I.stkFree⟩
  ·have hx':scope.names.lookup x=some .free:=by
    rcases hx with hx | hx
    ·rcases qo hx with q | q
     ·exact absurd q (noown x)
     ·exact q.2
    ·rcases qo hx with q | q
     ·exact q
     ·exact q.2
   obtain ⟨c,hc'⟩:=hcells _ (M0 hx') rfl
   exact ⟨c,xM (M0 hx') hc'⟩
  ·refine ⟨?_,fun x c e=>(hf b hb).2.2.2.2.1 x c (fM e)⟩
   show b≠C
   exact oy (lt b hb) (by omega)
  ·rcases (hf b hb).2.2.2.1 with z | z
   ·exact I.ok.noex b o e z
   ·exact absurd (Mb (LM e) (Mq I.ok.bsz z)) (MV _)
  ·rcases LI.mp (I.stkSub b z) with q | q
   ·exact (hf b hb).2.1 q
   ·exact (hf b hb).2.2.1 q
 have locs:∀ h':Heap,(∀ x c o,X.env.cells.lookup x=some c->s.heap.get? c=some o->∃ sl,h'.get? c=some { o with slots:=sl })->
   ∀ (i:Nat) (x:Str) (v:V),N[i]?=some x->(sub ix σ)[i]?=some (some v)->∃ u,aJ v u/\∀ m,JD (SL scope (eU X.env scope.names []) C X.env) h' m x u:=by
  intro h' hk i x v h1 h2
  obtain ⟨k,hk',hv⟩:∃ k,ix[i]?=some (some k)/\σ[k]?=some (some v):=by
   unfold sub at h2
   rw [LU] at h2
   cases e:ix[i]? with
   | none=>rw [e] at h2; cases h2
   | some o=>
    rw [e] at h2
    cases o with
    | none=>cases h2
    | some k=>
     refine ⟨k,rfl,?_⟩
     have h2':(match σ[k]? with | some v=>v | none=>none)=some v:=LW h2
     cases e2:σ[k]? with
     | none=>rw [e2] at h2'; cases h2'
     | some z=>
      rw [e2] at h2'
      rw [show z=some v from h2']
  have hm:(x,some k)∈N.zip ix:=by
   refine LX (i:=i) ?_
   rw [Rq]
   exact ⟨h1,hk'⟩
  obtain ⟨a1,a2⟩:=S.at_ _ hm k (by simp)
  have hX:=S.free _ (M0 a2) rfl
  have hvis:Vis X.env.scope x:=by
   show _\/_\/_
   rw [hsc]
   exact .inr hX
  obtain ⟨m,hn,hl⟩:=I.loc
  obtain ⟨u,r,l⟩:=hl k x v (by rw [hNX]; exact a1) hv hvis
  refine ⟨u,r,fun m'=>.inr ⟨zF a2,?_⟩⟩
  rcases l with ⟨l,_⟩ | ⟨_,c,e,z⟩
  ·have l':X.env.scope.names.lookup x=some .local:=l
   rw [hsc] at l'
   rcases hX with q | q <;> (rw [q] at l'; cases l')
  ·obtain ⟨o,ho,hd⟩:=z
   obtain ⟨sl,e'⟩:=hk x c o e ho
   exact ⟨c,xM (M0 a2) e,_,e',hd⟩
 have hlen:(sub ix σ).length=N.length:=by
  unfold sub
  rw [LF]
  exact S.len
 have I1:Inv (cz X N scope C s H fp) [] (sub ix σ) (upd H p (.lst [])) { s with heap:=h₁,toks:=s.toks + ([]:List (Str×Value)).length }:=by
  refine ⟨hok,rfl,I.bare,Un.laid old (Qn hp) hfp,⟨_,hns₁,fun i x v h1 h2 h3=>?_⟩,fun x c e=>?_,?_,fun x c e=>?_,fun q hq=>(nomatch hq),I.hok.laid old (Qn hp) ⟨MI _,[],0,.nil,hnew⟩,hlen⟩
  ·obtain ⟨u,r,l⟩:=locs h₁ (fun y c o _ ho=>⟨o.slots,old c o ho⟩) i x v h1 h2
   exact ⟨u,r,l _⟩
  ·obtain ⟨v,o,ho,hd⟩:=I.cell x c (fM e)
   exact ⟨v,o,old c o ho,hd⟩
  ·show upd H p _ C=none
   rw [aS (Na pC)]
   exact hfC
  ·have e':=fM e
   obtain ⟨v,o,ho,hd⟩:=I.cell x c e'
   rw [aS (oy (LM ho) (Qn hp))]
   exact I.freeC x c e'
 have back:∀ {pl:List (Addr×Obj)} {σ':St} {H':Hp} {s':Shared},Inv (cz X N scope C s H fp) pl σ' H' s'->Inv (cz X N scope C s H fp) pl (sub ix σ) H' s':=fun {pl σ' H' s'} J=>by
  obtain ⟨m,hn,_⟩:=J.loc
  refine ⟨J.ok,J.os,J.bare,J.base,⟨m,hn,fun i x v h1 h2 h3=>?_⟩,J.cell,J.free,J.freeC,J.pin,J.hok,hlen⟩
  obtain ⟨u,r,l⟩:=locs s'.heap (fun y c o hc' ho=>J.base.any ho (I.freeC y c hc') fun hb=>(hf c hb).2.2.2.2.1 y c hc' rfl) i x v h1 h2
  exact ⟨u,r,l _⟩
 obtain ⟨W,⟨m0,w0⟩,turn⟩:=hq p hfp
 have st1:tn 0 h₁:=T.keep 0 _ _ st fun b _ o e=>old b o e
 have fp1:∀ {H':Hp},(∀ b∈fp,H' b=none)->∀ b∈fp,kd (cz X N scope C s H fp) [] H' b:=fun {H'} hn b hb=>
  ⟨hn b hb,(hok.exf b hb).1,hok.exfs b hb,.inl hb,(hok.exf b hb).2,fun q hq=>(nomatch hq)⟩
 have loop:codeAny (model X.prog X.w) X.A (.compLoop (.ListComp elt [⟨tg,iter,ifs,0⟩] scope pos) 0 (.ref it) (.ref p) (SL scope (eU X.env scope.names []) C X.env)) (RR (.ref p) C) { s with heap:=h₁,toks:=s.toks + ([]:List (Str×Value)).length }:=by
  refine Ex (fun n s'=>∃ i acc H',Inv (cz X N scope C s H fp) [] (sub ix σ) H' s'/\tn i s'.heap/\(∀ b∈fp,H' b=none)/\W i n acc H') ?_ m0
   ⟨0,[],_,I1,st1,fun b hb=>by rw [aS (oy (lt b hb) (LH _))]; exact (hf b hb).1,w0⟩
  rintro n s3 ⟨i,acc,H3,I3,st3,fr3,w3⟩
  obtain ⟨hacc,w4⟩:=turn C s H fp i n acc H3 w3
  rcases w4 with ⟨stop,qn⟩ | ⟨go,hln,N',hN',step⟩
  ·refine thn (T.done (cz X N scope C s H fp) rfl rfl rfl hc i [] s3 _ H3 (fun _ _=>False) I3 (fp1 fr3) st3 stop) fun r s4 ⟨hr,I4⟩=>?_
   subst hr
   obtain ⟨m,hn,_⟩:=I4.loc
   refine hR p C s4 H3 m (by omega) (by omega) hn I4.free qn ?_
   exact I.call' I4.os I4.base I4.hok I4.bare fun b hb=>⟨(hf b hb).2.2.2.1,(hf b hb).2.1,(hf b hb).2.2.2.2.1,(hf b hb).2.2.2.2.2⟩
  ·refine thn (T.item (cz X N scope C s H fp) rfl rfl rfl hc i [] s3 _ H3 (fun _ _=>False) I3 (fp1 fr3) st3 go) fun r s4 ⟨u,hr,h4⟩=>?_
   subst hr
   refine thn h4 fun _ s5 ⟨x,H5,I5,r5,y5,st5,fr5⟩=>?_
   have I5':=I5.pinned (fp1 fr5) (T.obj _ _ st5)
   refine thn (hg C s H fp _ s5 _ H5 x u _ I5' r5 (step x H5 y5)) fun _ s6 ⟨σ6,H6,I6,q6⟩=>?_
   have later:∀ {s7:Shared} {H7:Hp} {acc':List V} {σ7:St},Inv (cz X N scope C s H fp) ([]++qf fp s5.heap) σ7 H7 s7->(∃ m',m' < n/\W (i + 1) m' acc' H7)->
     ∃ m,m < n/\∃ i acc H',Inv (cz X N scope C s H fp) [] (sub ix σ) H' s7/\tn i s7.heap/\(∀ b∈fp,H' b=none)/\W i m acc H':=fun {s7 H7 acc' σ7} I7 ⟨m',hm,w7⟩=>by
    refine ⟨m',hm,i + 1,acc',H7,back (I7.unpinned (pins:=[])),T.keep _ _ _ st5 fun b hb o e=>(I7.pin (b,o) (MD _ (MD _ (kD hb e)))).1,fun b hb=>?_,w7⟩
    obtain ⟨o,e,d⟩:=T.obj _ _ st5 b hb
    exact (I7.pin (b,o) (MD _ (MD _ (kD hb e)))).2.1
   refine thn (ht C s H fp _ s6 σ6 H6 _ I6 q6) fun ok s7 ⟨H7,I7,q7⟩=>?_
   cases ok with
   | false=>exact later I7 (hN' _ _ q7)
   | true=>
    refine thn (he C s H fp _ s7 σ6 H7 _ I7 q7) fun y s8 ⟨v8,H8,I8,r8,hacc8,w8⟩=>?_
    refine thn (gf (X:=cz X N scope C s H fp) _ s8 σ6 H8 (.ref p) [v8] (.ref p) [y] (fun _ H9=>H9=upd H8 p (.lst (acc++[v8]))) I8 rfl (.cons r8 .nil) ⟨p,acc,v8,rfl,rfl,hacc8,hln,rfl⟩) fun _ s9 ⟨_,H9,I9,_,e9⟩=>?_
    subst e9
    exact later I9 (hN' _ _ w8)
 exact codeAny_compStart_list loop (T.self _ 0 _ _ _ st1 loop)
theorem bU (hc:X.calm=true) (S:qm sc scope NX N ix) (hi:PI X tg iter wi)
  (hg:∀ C s H fp,PG (cz X N scope C s H fp) tg (g C s H fp)) (ht:∀ C s H fp,PTL (cz X N scope C s H fp) ifs (tt C s H fp)) (he:∀ C s H fp,PE (cz X N scope C s H fp) elt (te C s H fp))
  (hsc:X.env.scope=sc:=by rfl) (hNX:X.N=NX:=by rfl) (hs:∀ x,Rg iter X.env x=pure x:=by intro _; rfl):
  PE X (.ListComp elt [⟨tg,iter,ifs,0⟩] scope pos) (bT wi g tt te ix):=by
 intro pins s σ H Q I h
 rw [eval_ListComp]
 have hcells:SK scope X.env=pure (eU X.env scope.names []):=uq fun y hy hk=>by
  refine I.ok.has y.1 ?_
  show X.env.scope.names.lookup y.1=some .cell\/X.env.scope.names.lookup y.1=some .free
  rw [hsc]
  exact S.free y hy hk
 refine RD (use:=none) rfl hs hcells S.kind S.names (thn (hi pins s σ H _ I h) fun v s1 h1=>thn h1 fun itv s2 h2=>?_)
 obtain ⟨it,fp,tn,J,H2,e,I2,T,st2,f2,hq⟩:=h2
 subst e
 refine ur (Q:=Q) (RR:=fun acc C=>compPost (model X.prog X.w) X.A X.xe none (EP X pins σ Q) acc C) hc hsc hNX S hg ht he I2 T st2 f2 hq ?_
 intro p C s' H' m hp hC hn hfree q I'
 exact ⟨m,hn,fun h'' hs''=>⟨.ref p,H',I'.gone I2 hC hfree hs'',rfl,q⟩⟩
theorem iJ {i:Nat} {y:Str} {py spos:Pos} (hN:X.N.Nodup) (hy:X.N[i]?=some y) (hl:X.env.scope.names.lookup y=some .local) (hc:X.calm=true) (S:qm sc scope NX N ix) (hi:PI X tg iter wi)
  (hg:∀ C s H fp,PG (cz X N scope C s H fp) tg (g C s H fp)) (ht:∀ C s H fp,PTL (cz X N scope C s H fp) ifs (tt C s H fp)) (he:∀ C s H fp,PE (cz X N scope C s H fp) elt (te C s H fp))
  (hsw:Tf (.ListComp elt [⟨tg,iter,ifs,0⟩] scope pos) (some (.Name y py)) spos.line X.env=pure true:=by rfl)
  (hsc:X.env.scope=sc:=by rfl) (hNX:X.N=NX:=by rfl) (hs:∀ x,Rg iter X.env x=pure x:=by intro _; rfl):
  PS X (.Assign [.Name y py] (.ListComp elt [⟨tg,iter,ifs,0⟩] scope pos) spos) (aE (bT wi g tt te ix) (aj i)):=by
 intro pins s σ H D I h
 rw [exec_Assign_Name_used _ _ _ _ hsw]
 have hcells:SK scope X.env=pure (eU X.env scope.names []):=uq fun z hz hk=>by
  refine I.ok.has z.1 ?_
  show X.env.scope.names.lookup z.1=some .cell\/X.env.scope.names.lookup z.1=some .free
  rw [hsc]
  exact S.free z hz hk
 refine LA (Q3 (LA ?_))
 show wpAny _ X.A (do let _ <-comprehension (.ListComp elt [⟨tg,iter,ifs,0⟩] scope pos) scope X.env _ (newList []) false (eval iter X.env) (some (assign (.Name y py) X.env))) _ _ s
 refine LA (thn (RD (use:=some (assign (.Name y py) X.env)) (Q:=fun _ s'=>SP X pins D .next s') rfl hs hcells S.kind S.names (thn (hi pins s σ H _ I h) fun v s1 h1=>thn h1 fun itv s2 h2=>?_)) fun _ s' q=>LC (LC q))
 obtain ⟨it,fp,tn,J,H2,e,I2,T,st2,f2,hq⟩:=h2
 subst e
 refine ur (Q:=fun x H1=>aj i x σ H1 D.nx) (RR:=fun acc C=>compPost (model X.prog X.w) X.A X.xe (some (assign (.Name y py) X.env)) (fun _ s'=>SP X pins D .next s') acc C) hc hsc hNX S hg ht he I2 T st2 f2 hq ?_
 intro p C s' H' m hp hC hn hfree q I'
 refine Tz (xF (v:=.ref p) I' hN hy (.inl hl) rfl (fun s'' I'' ⟨a,hsb,ha⟩=>?_) (.inr hl))
 have ne:C≠a:=by
  rcases ha with rfl | ha
  ·exact N9 (Mb I2.lt hC)
  ·obtain ⟨v,o,ho,_⟩:=I2.cell y a ha
   exact N9 (Mb (LM ho) hC)
 exact ⟨m,hn.sameBut hsb ne,fun h'' hs''=>⟨_,H',I''.gone I2 hC hfree hs'',q⟩⟩
end
section
variable {g:CF TG} {tt:CF TT} {te:CF TE} {σ₀:St} {p:Addr} {Q:VK} {H:Hp}
theorem nA {J:It} {n:Nat} {Y:Nat->Hp->V->Hp->Prop} (Pv:Nat->List V->Hp->Prop) (h0:Pv 0 [] (upd H p (.lst []))) (hp:∀ i acc H,i<=n->Pv i acc H->H p=some (.lst acc)/\acc.length<=i) (hz:n<=LS)
  (hgo:∀ i acc H,i < n->Pv i acc H->J.go i H) (hst:∀ acc H,Pv n acc H->J.stop n H) (hy:∀ i acc H x H1,i < n->Pv i acc H->J.yld i H x H1->Y i H x H1)
  (hs:∀ C s' H' fp,∀ i x acc H H1,i < n->Pv i acc H->Y i H x H1->g C s' H' fp x σ₀ H1 fun σ2 H2=>tt C s' H' fp σ2 H2 fun b H3=>if b=true then te C s' H' fp σ2 H3 fun y H4=>H4 p=some (.lst acc)/\Pv (i + 1) (acc++[y]) (upd H4 p (.lst (acc++[y]))) else Pv (i + 1) acc H3)
  (hd:∀ acc H,Pv n acc H->Q (.ref p) H):
  ∃ W:Nat->Nat->List V->Hp->Prop,(∃ m,W 0 m [] (upd H p (.lst [])))/\∀ C s' H' fp,cK J (g C s' H' fp) (tt C s' H' fp) (te C s' H' fp) σ₀ p Q W:=by
 refine ⟨fun i m acc H=>m=n - i/\i<=n/\Pv i acc H,⟨n,by simp,MI _,h0⟩,?_⟩
 rintro C s' H' fp i m acc H ⟨rfl,hi,w⟩
 obtain ⟨h1,h2⟩:=hp i acc H hi w
 refine ⟨h1,?_⟩
 by_cases hlt:i < n
 ·exact .inr ⟨hgo i acc H hlt w,by omega,Pv (i + 1),fun acc' H' q=>⟨n - (i + 1),by omega,rfl,hlt,q⟩,fun x H1 y=>hs C s' H' fp i x acc H H1 hlt w (hy i acc H x H1 hlt w y)⟩
 ·have e:i=n:=by omega
  subst e
  exact .inl ⟨hst acc H w,hd acc H w⟩
theorem xN {K:Fg} {a:Addr} {xs:List V} (Pv:Nat->List V->Hp->Prop) (h0:Pv 0 [] (upd H p (.lst []))) (hp:∀ i acc H,i<=xs.length->Pv i acc H->H p=some (.lst acc)/\acc.length<=i) (hl:∀ i acc H,i<=xs.length->Pv i acc H->SqL K H a xs) (hz:xs.length<=LS)
  (hs:∀ C s' H' fp,∀ i x acc H,xs[i]?=some x->Pv i acc H->g C s' H' fp x σ₀ H fun σ2 H2=>tt C s' H' fp σ2 H2 fun b H3=>if b=true then te C s' H' fp σ2 H3 fun y H4=>H4 p=some (.lst acc)/\Pv (i + 1) (acc++[y]) (upd H4 p (.lst (acc++[y]))) else Pv (i + 1) acc H3)
  (hd:∀ acc H,Pv xs.length acc H->Q (.ref p) H):
  ∃ W:Nat->Nat->List V->Hp->Prop,(∃ m,W 0 m [] (upd H p (.lst [])))/\∀ C s' H' fp,cK (Itl K a) (g C s' H' fp) (tt C s' H' fp) (te C s' H' fp) σ₀ p Q W:=
 nA (Y:=fun i H x H1=>H1=H/\xs[i]?=some x) Pv h0 hp hz (fun i acc H hi w=>⟨xs,xs[i],hl i acc H (MP hi) w,by simp [hi]⟩) (fun acc H w=>⟨xs,hl _ acc H (LH _) w,LH _⟩)
  (fun i acc H x H1 hi w y=>⟨y.1,y.2 xs (hl i acc H (MP hi) w)⟩) (fun C s' H' fp i x acc H H1 hi w y=>by
   obtain ⟨e,y⟩:=y
   subst e
   exact hs C s' H' fp i x acc _ y w) hd
theorem FZ {K:Fg} {a:Addr} {xs:List V} (Pv:Nat->List V->Hp->Prop) (h0:Pv 0 [] (upd H p (.lst []))) (hp:∀ i acc H,i<=xs.length->Pv i acc H->H p=some (.lst acc)/\acc.length<=i) (hl:∀ i acc H,i<=xs.length->Pv i acc H->SqT K H a xs) (hz:xs.length<=LS)
  (hs:∀ C s' H' fp,∀ i x acc H,xs[i]?=some x->Pv i acc H->g C s' H' fp x σ₀ H fun σ2 H2=>tt C s' H' fp σ2 H2 fun b H3=>if b=true then te C s' H' fp σ2 H3 fun y H4=>H4 p=some (.lst acc)/\Pv (i + 1) (acc++[y]) (upd H4 p (.lst (acc++[y]))) else Pv (i + 1) acc H3)
  (hd:∀ acc H,Pv xs.length acc H->Q (.ref p) H):
  ∃ W:Nat->Nat->List V->Hp->Prop,(∃ m,W 0 m [] (upd H p (.lst [])))/\∀ C s' H' fp,cK (Itt K a) (g C s' H' fp) (tt C s' H' fp) (te C s' H' fp) σ₀ p Q W:=
 nA (Y:=fun i H x H1=>H1=H/\xs[i]?=some x) Pv h0 hp hz (fun i acc H hi w=>⟨xs,xs[i],hl i acc H (MP hi) w,by simp [hi]⟩) (fun acc H w=>⟨xs,hl _ acc H (LH _) w,LH _⟩)
  (fun i acc H x H1 hi w y=>⟨y.1,y.2 xs (hl i acc H (MP hi) w)⟩) (fun C s' H' fp i x acc H H1 hi w y=>by
   obtain ⟨e,y⟩:=y
   subst e
   exact hs C s' H' fp i x acc _ y w) hd
theorem oB {lo:Int} {n:Nat} (Pv:Nat->List V->Hp->Prop) (h0:Pv 0 [] (upd H p (.lst []))) (hp:∀ i acc H,i<=n->Pv i acc H->H p=some (.lst acc)/\acc.length<=i) (hz:n<=LS)
  (hs:∀ C s' H' fp,∀ i acc H,i < n->Pv i acc H->g C s' H' fp (.int (lo + i)) σ₀ H fun σ2 H2=>tt C s' H' fp σ2 H2 fun b H3=>if b=true then te C s' H' fp σ2 H3 fun y H4=>H4 p=some (.lst acc)/\Pv (i + 1) (acc++[y]) (upd H4 p (.lst (acc++[y]))) else Pv (i + 1) acc H3)
  (hd:∀ acc H,Pv n acc H->Q (.ref p) H):
  ∃ W:Nat->Nat->List V->Hp->Prop,(∃ m,W 0 m [] (upd H p (.lst [])))/\∀ C s' H' fp,cK (Itr lo n) (g C s' H' fp) (tt C s' H' fp) (te C s' H' fp) σ₀ p Q W:=
 nA (Y:=fun i H x H1=>H1=H/\x=.int (lo + i)) Pv h0 hp hz (fun i acc H hi w=>hi) (fun acc H w=>LH _) (fun i acc H x H1 hi w y=>y) (fun C s' H' fp i x acc H H1 hi w y=>by
   obtain ⟨e,e2⟩:=y
   subst e e2
   exact hs C s' H' fp i acc _ hi w) hd
end
end
section
open PySem.Spec
section
variable {prog:Program} {w:World} {A:Around} {E:Value->Shared->Prop} {s:Shared}
theorem ut {jt t:Addr} {i:Nat} {its:Array Value} {y:Value} {Q:Value->Shared->Prop} (h1:s.heap.IsTupleIter jt t i) (h2:s.heap.IsTuple t its) (hy:its[i]?=some y)
  (k:∀ h',h'.IsTupleIter jt t (i + 1)->L8 jt s.heap h'->Q y { s with heap:=h' }):wpAny (model prog w) A (Mv (.ref jt)) Q E s:=by
 obtain ⟨o,ho,hc,hd⟩:=id h1
 obtain ⟨ot,hot,_,nt,hdt⟩:=h2
 unfold Mv
 refine LA (MJ (name:=Nb "__next__") h1.typeIs OF (Mu OF h1.typeIs QU ?_ (QJ _)))
 show wpAny _ _ (field (.ref jt) 0 >>= _) _ _ s
 refine LA (MS ho hd (x:=.ref t) rfl ?_)
 show wpAny _ _ (if (Mh t == M6)=true then _ else _) _ _ s
 rw [if_neg (show ¬ ((Mh t == M6)=true) from LR)]
 show wpAny _ _ (field (.ref jt) 1 >>= _) _ _ s
 refine LA (MS ho hd (x:=.int i 0) rfl ?_)
 show wpAny _ _ (QV (.ref t) >>= _) _ _ s
 refine LA (MG hot hdt ?_)
 simp only [OI,hy]
 refine LA (Ou ho hd (by simp) (LC ⟨y,rfl,LC (k _ ?_ (MO ..))⟩))
 exact ⟨_,Mw _ ho (Qg (Ox hd _)),(Rk ..).trans hc,by rw [Ox hd]; simp [rawInt]⟩
theorem wC {jt t:Addr} {i:Nat} {its:Array Value} {Q:Value->Shared->Prop} (hh:A.handled=none) (h1:s.heap.IsTupleIter jt t i) (h2:s.heap.IsTuple t its) (hy:its[i]?=none)
  (k:∀ h' e,Pl jt s.heap h'->(∃ o,h'.get? e=some o/\o.cls=.type "StopIteration")->E (.ref e) { s with heap:=h' }):wpAny (model prog w) A (Mv (.ref jt)) Q E s:=by
 obtain ⟨o,ho,hc,hd⟩:=id h1
 obtain ⟨ot,hot,_,nt,hdt⟩:=h2
 unfold Mv
 refine LA (MJ (name:=Nb "__next__") h1.typeIs OF (Mu OF h1.typeIs QU ?_ (QJ _)))
 show wpAny _ _ (field (.ref jt) 0 >>= _) _ _ s
 refine LA (MS ho hd (x:=.ref t) rfl ?_)
 show wpAny _ _ (if (Mh t == M6)=true then _ else _) _ _ s
 rw [if_neg (show ¬ ((Mh t == M6)=true) from LR)]
 show wpAny _ _ (field (.ref jt) 1 >>= _) _ _ s
 refine LA (MS ho hd (x:=.int i 0) rfl ?_)
 show wpAny _ _ (QV (.ref t) >>= _) _ _ s
 refine LA (MG hot hdt ?_)
 simp only [OI,hy]
 refine LA (NY (LA (Ou ho hd (by simp) ?_)))
 show wpAny _ _ (newExc (.type "StopIteration") [] >>= _) _ _ _
 refine LA ?_
 simp only [newExc,Ui]
 refine LA (ME ?_ (by size_fits))
 refine LA (m:=firstArgMember _ _) (P8 (a:=M6) (by first | rfl | (simp only [firstArgMember]; rfl)) ?_)
 refine ME ?_ (by size_fits)
 simp only [raiseNew]
 refine LA (SZ ?_)
 first | rw [show A.in1.handled=none from hh] | rw [hh]
 refine LA (LC (T5 ?_))
 exact k _ _ (((MO ..).extBut.push _).push _) ⟨_,LL _ rfl,rfl⟩
end
theorem Bd {prog:Program} {w:World} {A:Around} (hh:A.handled=none) (jt t:Addr) (hne:t≠jt) (its:Array Value):
  Draws prog w A jt [jt,t] its.size (fun i v=>its[i]?=some v) (fun i h=>h.IsTupleIter jt t i/\h.IsTuple t its) where
 live:=fun _ _ st=>let ⟨o,ho,_⟩:=st.1; ⟨o,ho⟩
 frame:=fun _ _ _ st hk=>⟨st.1.at fun o e=>hk jt (by simp) o e,let ⟨o,ho,r⟩:=st.2; ⟨o,hk t (by simp) o ho,r⟩⟩
 item:=fun i s Q E hi st hQ=>ut st.1 st.2 (y:=its[i]) (by simp [hi]) fun h' a b=>hQ _ h' s.toks (by simp [hi]) ⟨a,st.2.extBut b.extBut hne⟩ b
 done:=fun s Q E st hE=>wC hh st.1 st.2 (by simp) hE
theorem Inv.offBase {X:Cx} {pins:List (Addr×Obj)} {σ:St} {H:Hp} {s:Shared} {c:Addr} {o:Obj} (I:Inv X pins σ H s) (f:kd X pins H c) (e:X.base.get? c=some o):False:=by
 rcases f.2.2.2.1 with z | z
 ·exact I.ok.noex c o e z
 ·exact absurd (Mb (LM e) (Mq I.ok.bsz z)) (MV _)
set_option genInjectivity false in
structure Src where
 Sq:Fg->Hp->Addr->List V->Prop
 Is:Heap->Addr->Array Value->Prop
 It:Heap->Addr->Addr->Nat->Prop
 icls:String
 get:∀ {X:Cx} {pins:List (Addr×Obj)} {σ:St} {H:Hp} {s:Shared} {a:Addr} {xs:List V},Inv X pins σ H s->Sq X.K H a xs->∃ its:List Value,aH xs its/\Is s.heap a its.toArray/\xs.length<=LS
 inj:∀ {X:Cx} {pins:List (Addr×Obj)} {σ:St} {H:Hp} {s:Shared} {a:Addr} {xs ys:List V},Inv X pins σ H s->Sq X.K H a xs->Sq X.K H a ys->xs=ys
 off:∀ {X:Cx} {pins:List (Addr×Obj)} {σ:St} {H:Hp} {s:Shared} {a c:Addr} {xs:List V},Inv X pins σ H s->Sq X.K H a xs->kd X pins H c->c≠a
 isSeq:∀ {h:Heap} {a:Addr} {its:Array Value},Is h a its->∃ o n,h.get? a=some o/\o.data=.seq its n
 isIt:∀ {h:Heap} {jt a:Addr} {i:Nat},It h jt a i->∃ o,h.get? jt=some o/\o.cls=.type icls/\o.data=.fields #[.ref a,.int i 0]
 mkI:∀ {h:Heap} {jt a:Addr} {i:Nat} {o:Obj},h.get? jt=some o->o.cls=.type icls->o.data=.fields #[.ref a,.int i 0]->It h jt a i
 itKeep:∀ {h h':Heap} {jt a:Addr} {i:Nat},It h jt a i->(∀ o,h.get? jt=some o->h'.get? jt=some o)->It h' jt a i
 isKeep:∀ {h h':Heap} {a:Addr} {its:Array Value},Is h a its->(∀ o,h.get? a=some o->h'.get? a=some o)->Is h' a its
 draws:∀ {prog:Program} {w:World} {A:Around},A.handled=none->∀ (jt a:Addr),a≠jt->∀ its:Array Value,Draws prog w A jt [jt,a] its.size (fun i v=>its[i]?=some v) (fun i h=>It h jt a i/\Is h a its)
 iter:∀ {prog:Program} {w:World} {A:Around} {E:Value->Shared->Prop} {s:Shared} {a:Addr} {its:Array Value} {Q:Value->Shared->Prop},Is s.heap a its->
  Q (.ref s.heap.objs.size) { s with heap:=s.heap.push { cls:=.type icls,data:=.fields #[.ref a,.int 0 0] } }->wpAny (model prog w) A (pyIter (.ref a)) Q E s
noncomputable def bA:Src where
 Sq:=SqL
 Is:=fun h a its=>h.IsList a its
 It:=fun h jt a i=>h.IsListIter jt a i
 icls:="list_iterator"
 get:=fun I h=>let ⟨its,r,p,z⟩:=I.list h; ⟨its,r,p.isList,z⟩
 inj:=fun I h h'=>I.list_inj h h'
 off:=fun {X pins σ H s a c xs} I h f e=>by
  subst e
  rcases h with (h | ⟨o,h⟩) | ⟨o,its,n,hk,_⟩
  ·rw [f.1] at h; cases h
  ·rw [f.1] at h; cases h
  ·exact I.offBase f (I.ok.mod.kin _ _ hk)
 isSeq:=fun h=>let ⟨o,ho,_,n,hd⟩:=h; ⟨o,n,ho,hd⟩
 isIt:=fun h=>h
 mkI:=fun h1 h2 h3=>⟨_,h1,h2,h3⟩
 itKeep:=fun h k=>h.at k
 isKeep:=fun h k=>h.at k
 draws:=fun hh jt a hne its=>Draws.list hh jt a hne its
 iter:=fun h q=>O5 h q
noncomputable def iq:Src where
 Sq:=SqT
 Is:=fun h a its=>h.IsTuple a its
 It:=fun h jt a i=>h.IsTupleIter jt a i
 icls:="tuple_iterator"
 get:=fun I h=>let ⟨its,r,p,z⟩:=I.tuple h; ⟨its,r,p,z⟩
 inj:=fun I h h'=>I.tuple_inj h h'
 off:=fun {X pins σ H s a c xs} I h f e=>by
  subst e
  rcases h with (h | ⟨o,h⟩) | ⟨o,its,n,hk,_⟩
  ·rw [f.1] at h; cases h
  ·rw [f.1] at h; cases h
  ·exact I.offBase f (I.ok.mod.kin _ _ hk)
 isSeq:=fun h=>let ⟨o,ho,_,n,hd⟩:=h; ⟨o,n,ho,hd⟩
 isIt:=fun h=>h
 mkI:=fun h1 h2 h3=>⟨_,h1,h2,h3⟩
 itKeep:=fun h k=>h.at k
 isKeep:=fun h k=>let ⟨o,ho,r⟩:=h; ⟨o,k o ho,r⟩
 draws:=fun hh jt a hne its=>Bd hh jt a hne its
 iter:=fun h q=>Tg h q
theorem Inv.turns {X:Cx} {pins:List (Addr×Obj)} {σ:St} {H:Hp} {s:Shared} {h':Heap} {t':Nat} {ch:List Addr} {T:Addr} {o:HO} (I:Inv X pins σ H s) (hf:∀ b∈ch,kd X pins H b)
  (k:∀ b ob,b∉ch->s.heap.get? b=some ob->h'.get? b=some ob) (hT:s.heap.objs.size<=T) (new:bJ X.prog X.w (upd H T o) h' T o):Inv X pins σ (upd H T o) { s with heap:=h',toks:=t' }:=by
 have hn:H T=none:=I.hok.fresh hT
 have nc:∀ b u,H b=some u->b∉ch:=fun b u e z=>by
  have:=(hf b z).1
  rw [e] at this
  cases this
 refine I.step (g':=s.gens) (d':=s.drawn) (ch:=ch) (fun b hb=>⟨(hf b hb).2.2.2.1,(hf b hb).2.1,(hf b hb).2.2.2.2.1,(hf b hb).2.2.2.2.2⟩) (fun b ob _ _ hc e _=>k b ob hc e) (fun b ob _ _ hc e _=>⟨ob.slots,k b ob hc e⟩)
  (fun b ob _ e n=>?_) (fun b ob hc e=>⟨ob,k b ob hc e⟩) (fun b xs e=>?_) (fun b ob xs e=>?_) (fun b ps e=>⟨#[],?_⟩) (fun m hm=>?_) (fun b u e=>?_) I.bare
 ·rw [aS (oy (LM e) hT)]
  exact n
 ·rw [aS (aV e hn)]
  exact e
 ·rw [aS (aV e hn)]
  exact e
 ·rw [aS (aV e hn),e]
  simp
 ·obtain ⟨ob,es,ep,ho,r⟩:=hm
  exact ⟨ob,es,ep,k _ ob (fun z=>(hf _ z).2.1 rfl) ho,r⟩
 ·by_cases hb:b=T
  ·subst hb
   rw [aA] at e
   cases e
   exact new
  ·rw [aS hb] at e
   refine (I.hok b u e).stay (fun c v hc q=>k c v ?_ q) (fun c q=>by rw [aS (aV q hn)]; exact q) fun c xs q=>by rw [aS (aV q hn)]; exact q
   rcases hc with z | z
   ·rw [z]; exact nc b u e
   ·exact nc c _ z
theorem Inv.turnsN {X:Cx} {pins:List (Addr×Obj)} {σ:St} {H:Hp} {s:Shared} {h':Heap} {t':Nat} {ch:List Addr} (I:Inv X pins σ H s) (hf:∀ b∈ch,kd X pins H b)
  (k:∀ b ob,b∉ch->s.heap.get? b=some ob->h'.get? b=some ob):Inv X pins σ H { s with heap:=h',toks:=t' }:=by
 have nc:∀ b u,H b=some u->b∉ch:=fun b u e z=>by
  have:=(hf b z).1
  rw [e] at this
  cases this
 refine I.step (g':=s.gens) (d':=s.drawn) (ch:=ch) (fun b hb=>⟨(hf b hb).2.2.2.1,(hf b hb).2.1,(hf b hb).2.2.2.2.1,(hf b hb).2.2.2.2.2⟩) (fun b ob _ _ hc e _=>k b ob hc e) (fun b ob _ _ hc e _=>⟨ob.slots,k b ob hc e⟩)
  (fun b ob _ e n=>n) (fun b ob hc e=>⟨ob,k b ob hc e⟩) (fun b xs e=>e) (fun b ob xs e=>e) (fun b ps e=>⟨#[],by rw [e]; simp⟩) (fun m hm=>?_) (fun b u e=>?_) I.bare
 ·obtain ⟨ob,es,ep,ho,r⟩:=hm
  exact ⟨ob,es,ep,k _ ob (fun z=>(hf _ z).2.1 rfl) ho,r⟩
 ·refine (I.hok b u e).stay (fun c v hc q=>k c v ?_ q) (fun c q=>q) fun c xs q=>q
  rcases hc with z | z
  ·rw [z]; exact nc b u e
  ·exact nc c _ z
noncomputable def Ite (S:Src) (K:Fg) (a:Addr):It:=
 ⟨fun i H=>∃ xs x,S.Sq K H a xs/\xs[i]?=some x,fun i H x H'=>∃ T v,H T=none/\x=.ref T/\H'=upd H T (.tup [.int i,v])/\∀ xs,S.Sq K H a xs->xs[i]?=some v,fun i H=>∃ xs,S.Sq K H a xs/\xs.length=i⟩
theorem Ey {P:Program} {w:World} {K:Fg} {elts:List Expr} {k0:Nat} {pos:Pos} (S:Src) (a e it:Addr) (hl:S.icls≠"enumerate"):
  sT P w K (.Tuple elts k0 pos) (Ite S K a) [e,it] e (fun i h=>(∃ old,IsEnum h e it i old)/\S.It h it a i) where
 mem:=by simp
 obj:=fun i h st b hb=>by
  obtain ⟨⟨old,he⟩,hi⟩:=st
  rcases LI.mp hb with rfl | hb
  ·exact ⟨_,he,fun v z=>nomatch z⟩
  ·obtain rfl:=LG.mp hb
   obtain ⟨o,ho,_,hd⟩:=S.isIt hi
   exact ⟨o,ho,fun v z=>by rw [hd] at z; cases z⟩
 keep:=fun i h h' st k=>by
  obtain ⟨⟨old,he⟩,hi⟩:=st
  exact ⟨⟨old,k e (by simp) _ he⟩,S.itKeep hi fun o q=>k it (by simp) o q⟩
 item:=by
  intro X hP hw hK hc i pins s σ H E I hf st hg
  subst hP hw hK
  obtain ⟨xs,x,hq,hx⟩:=hg
  obtain ⟨its,rv,p,hz⟩:=S.get I hq
  obtain ⟨⟨old,he⟩,hi⟩:=st
  obtain ⟨u,hu,ru⟩:=rv.get hx
  obtain ⟨oa,na,hoa,hda⟩:=S.isSeq p
  obtain ⟨oi,hoi,hci,hdi⟩:=S.isIt hi
  have nei:e≠it:=fun z=>by
   have he':s.heap.get? e=some _:=he
   rw [z,hoi] at he'
   cases he'
   exact hl (by simpa using hci.symm)
  have nae:e≠a:=S.off I hq (hf e (by simp))
  have nai:a≠it:=fun z=>by
   rw [z,hoi] at hoa
   cases hoa
   rw [hdi] at hda
   cases hda
  have hlt:i < its.toArray.size:=by
   have:=(LJ.mp hu).1
   simpa using this
  refine wpAny_pyNext_enum_itemD (S.draws (A:=X.A.in1) (show X.A.in1.handled=none from I.ok.hd hc) it a nai its.toArray) he ⟨hi,p⟩ hlt nei (by simp [nei,nae]) fun y h1 tk hP ho hs1 hT hsz hk=>⟨_,rfl,?_⟩
  have hy:y=u:=by
   have:its.toArray[i]?=some u:=by simpa using hu
   rw [this] at hP
   exact (LW hP).symm
  subst hy
  refine wpAny_letOwnedTupleGo_enum ho fun h2 he2 hs2=>?_
  have elt:e < s.heap.objs.size:=LM he
  have hT2:h2.get? s.heap.objs.size=some { cls:=.type "tuple",data:=.seq #[.int i tk,y] }:=hs2.extBut _ _ (JO (LH _) elt) hT
  have kept:∀ b ob,b∉[e,it]->s.heap.get? b=some ob->h2.get? b=some ob:=fun b ob hb q=>by
   have h1':b≠e:=fun z=>hb (by simp [z])
   exact hs2.extBut _ _ h1' (hk b ob h1' (fun z=>hb (by simp [z])) q)
  refine ⟨.ref s.heap.objs.size,upd H s.heap.objs.size (.tup [.int i,x]),?_,rfl,⟨_,x,I.fresh,rfl,rfl,fun ys hy=>by rw [S.inj I hy hq]; exact hx⟩,⟨⟨_,he2⟩,S.itKeep hs1.1 fun o q=>hs2.extBut _ _ (Na nei) q⟩,fun b hb=>?_⟩
  ·refine I.turns (t':=tk + 1) hf kept (LH _) ⟨(by show 2<=LS; decide),[.int i tk,y],.cons ⟨tk,rfl⟩ (.cons ru .nil),_,hT2,rfl,⟨0,rfl⟩,rfl⟩
  ·have lt:b < s.heap.objs.size:=by
    rcases LI.mp hb with rfl | hb
    ·exact elt
    ·obtain rfl:=LG.mp hb
     exact LM hoi
   rw [aS (oy lt (LH _))]
   exact (hf b hb).1
 done:=by
  intro X hP hw hK hc i pins s σ H E I hf st hg
  subst hP hw hK
  obtain ⟨xs,hq,hx⟩:=hg
  obtain ⟨its,rv,p,hz⟩:=S.get I hq
  obtain ⟨⟨old,he⟩,hi⟩:=st
  obtain ⟨oa,na,hoa,hda⟩:=S.isSeq p
  obtain ⟨oi,hoi,hci,hdi⟩:=S.isIt hi
  have nai:a≠it:=fun z=>by
   rw [z,hoi] at hoa
   cases hoa
   rw [hdi] at hda
   cases hda
  have hsz:i=its.toArray.size:=by
   have:=rv.length
   simp only [L5]
   omega
  subst hsz
  exact wpAny_pyNext_enum_endD (S.draws (A:=X.A.in1) (show X.A.in1.handled=none from I.ok.hd hc) it a nai its.toArray) he ⟨hi,p⟩ fun h' hx'=>⟨rfl,I.turnsN (t':=s.toks) hf fun b ob hb q=>hx' b ob (fun z=>hb (by simp [z])) q⟩
 self:=fun _ _ _ _ _ st h=>by
  obtain ⟨⟨old,he⟩,_⟩:=st
  exact TH he h
section
variable {X:Cx} {elts:List Expr} {k0:Nat} {tpos:Pos}
theorem F0 (S:Src) (l:Addr) (its:Array Value):
  Meets (Builtin.«enumerate.__new__» ⟨[.type "enumerate",.ref l],[]⟩) (fun _ R s=>S.Is s.heap l its/\
   R (.ok (.ret (.ref (s.heap.push { cls:=.type S.icls,data:=.fields #[.ref l,.int 0 0] }).objs.size)))
    { s with heap:=(s.heap.push { cls:=.type S.icls,data:=.fields #[.ref l,.int 0 0] }).push { cls:=.type "enumerate",data:=.fields #[.none,.bool false,.ref s.heap.objs.size,rawInt 0,.none,.none] } }):=
 .of_wp fun prog w A R s h=>by
  obtain ⟨hp,g,d,tk,os⟩:=s
  obtain ⟨hl,h⟩:=h
  have hsub:=sub_enumerate
  have hL:S.Is (T6 ⟨hp,g,d,tk,os⟩) l its:=hl
  wp_walk
  refine wpAny_stack_any fun st=>LC ?_
  split
  ·rename_i c _ _ _ _ _
   cases (c == M7 "enumerate")
   ·wp_walk using S.iter hL
    exact ⟨_,rfl,h⟩
   ·wp_walk using S.iter hL
    exact ⟨_,rfl,h⟩
  ·wp_walk using S.iter hL
   exact ⟨_,rfl,h⟩
theorem Ez (S:Src) {prog:Program} {w:World} {A:Around} {E:Value->Shared->Prop} {s:Shared} {l:Addr} {its:Array Value} {Q:Value->Shared->Prop} (hL:S.Is s.heap l its)
  (h:∀ h',IsEnum h' (s.heap.objs.size + 1) s.heap.objs.size 0 .none->S.It h' s.heap.objs.size l 0->(∀ b o,s.heap.get? b=some o->h'.get? b=some o)->Q (.ref (s.heap.objs.size + 1)) { s with heap:=h' }):
  wpAny (model prog w) A (call (.type "enumerate") [.ref l]) Q E s:=by
 refine Tt F.called_enumerate (by decide) (F.typeCall_enumerate_1 _) (F.newCall_enumerate_1 _) (fun obj=>SM obj _) F.entry_enumerate_new (F0 S l its) ⟨hL,?_⟩
 have hz:(s.heap.push { cls:=.type S.icls,data:=.fields #[.ref l,.int 0 0] }).objs.size=s.heap.objs.size + 1:=MF ..
 show _/\_
 rw [hz]
 have he:=LL (s.heap.push { cls:=.type S.icls,data:=.fields #[.ref l,.int 0 0] }) (o:={ cls:=.type "enumerate",data:=.fields #[.none,.bool false,.ref s.heap.objs.size,rawInt 0,.none,.none] }) rfl
 rw [hz] at he
 exact ⟨⟨_,he,rfl⟩,h _ he (S.mkI (LB _ (LL _ rfl)) rfl rfl) fun b o q=>LB _ (LB _ q)⟩
noncomputable def lX (S:Src) (K:Fg) (ta:TA):TI:=fun σ H R=>ta σ H fun vs H1=>∃ a xs,vs=[.ref a]/\S.Sq K H1 a xs/\R (Ite S K a) H1
theorem kW (S:Src) {a:Expr} {ta:TA} {p pos:Pos} (hg:Gl X "enumerate") (hm:X.mg "enumerate"=none) (hS:S.icls≠"enumerate") (ha:PA X [a] ta) (hs:L9 [a] X.env=[(false,eval a X.env)]:=by rfl):
  PI X (.Tuple elts k0 tpos) (.Call (.Name "enumerate" p) [a] [] pos) (lX S X.K ta):=by
 intro pins s σ H R I h
 refine Call_ (gb I hg hm boot_enumerate (Nf (thn (ha pos pins s σ H _ I h) fun us s1 ⟨vs,H1,I1,r1,q1⟩=>?_) hs rfl))
 obtain ⟨l,xs,e,hq,q⟩:=q1
 subst e
 obtain ⟨u,rfl,ru⟩:=r1.one
 cases ru
 obtain ⟨its,rv,p',hz⟩:=S.get I1 hq
 refine Ez S p' fun h' he hi kp=>TH he ?_
 have I2:Inv X pins σ H1 { s1 with heap:=h' }:=I1.kept (t':=s1.toks) kp
 refine ⟨s1.heap.objs.size + 1,[s1.heap.objs.size + 1,s1.heap.objs.size],_,_,H1,rfl,I2,Ey S l _ _ hS,⟨⟨_,he⟩,hi⟩,fun b hb=>?_,q⟩
 have hb':s1.heap.objs.size<=b:=by
  rcases LI.mp hb with rfl | hb
  ·exact OM _
  ·obtain rfl:=LG.mp hb
   exact LH _
 exact I1.fpOk hb' (I1.hok.fresh hb')
end
end
section
open PySem.Spec
section
variable {X:Cx}
noncomputable def lh (K:Fg):List V->Hp->VK->Prop:=fun xs H Q=>∃ x T t b,xs=[x,.ty T]/\fo K H x t/\ML K t (.type T)=some b/\Q (.bl b) H
theorem fv:dc X (.builtin "isinstance") (lh X.K):=by
 intro pins s σ H xs us Q I r h
 obtain ⟨x,T,t,b,rfl,ty,e,q⟩:=h
 obtain ⟨u,v,rfl,ru,rv⟩:=r.two
 cases (show v=M7 T from rv)
 exact El I ru ty e fun tk=>⟨.bl b,H,I.tok tk,rfl,q⟩
theorem Be (K:Fg):ML K (.type "int") (.type "int")=some true:=by unfold ML; rw [if_pos (beq_self_eq_true _)]
theorem zG (K:Fg):ML K (.type "int") (.type "bool")=some false:=by show (if (M7 "int" == M7 "bool")=true then some true else if RY "bool"=true then (Sn "int").map (·.contains (.type "bool")) else none)=some false; decide +kernel
theorem jJ (K:Fg):ML K (.type "tuple") (.type "tuple")=some true:=by unfold ML; rw [if_pos (beq_self_eq_true _)]
theorem sx (K:Fg):ML K (.type "list") (.type "list")=some true:=by unfold ML; rw [if_pos (beq_self_eq_true _)]
theorem Im:∀ (bs:List Bool),(LV bs.length).all (fun i=>bs.getD i false)=bs.all id:=by
 intro bs
 induction bs with
 | nil=>rfl
 | cons b r ih=>
  rw [Ml,Se,Ph,Qs,Ph]
  show (b && _)=(b && _)
  rw [<-ih]
  rfl
theorem Io {bs:List Bool} {us:List Value} (r:aH (bs.map V.bl) us):us=bs.map Nd:=by
 induction bs generalizing us with
 | nil=>cases r; rfl
 | cons b t ih=>
  cases r with
  | cons q r'=>
   rw [LZ,<-ih r',show _=Nd b from q]
theorem Inv.walked {pins:List (Addr×Obj)} {σ:St} {H:Hp} {s:Shared} {h':Heap} {tk:Nat} {o:Obj} (I:Inv X pins σ H s) (hk:∀ b ob,b∉[s.heap.objs.size]->(s.heap.push o).get? b=some ob->h'.get? b=some ob):Inv X pins σ H { s with heap:=h',toks:=tk }:=
 I.kept fun b ob e=>hk b ob (fun z=>absurd (LG.mp z) (Mn (LM e))) (LB _ e)
theorem lY (hc:X.calm=true):dc X (.builtin "all") (fun xs H Q=>∃ (p:Addr) (bs:List Bool),xs=[.ref p]/\SqL X.K H p (bs.map V.bl)/\Q (.bl (bs.all id)) H):=by
 intro pins s σ H xs us Q I r h
 obtain ⟨p,bs,rfl,hq,q⟩:=h
 obtain ⟨u,rfl,rx⟩:=r.one
 cases rx
 obtain ⟨its,rv,pl,hz⟩:=I.list hq
 have e:=Io rv
 subst e
 refine call_all_walk (O5 pl.isList ⟨s.heap.objs.size,_,_,_,_,_,fun i=>bs.getD i false,rfl,SN (show X.A.in1.handled=none from I.ok.hd hc) _ p (by obtain ⟨o,ho,_⟩:=pl.isList; exact Mn (LM ho)) (bs.map Nd).toArray,
  ⟨⟨_,LL _ rfl,rfl,rfl⟩,pl.isList.push _⟩,?_,fun h' tk hk=>?_⟩)
 ·intro i v s' Q' E' hP hQ
  have hP':(bs.map Nd)[i]?=some v:=by simpa using hP
  rw [LU] at hP'
  cases e:bs[i]? with
  | none=>rw [e] at hP'; cases hP'
  | some b=>
   rw [e] at hP'
   cases hP'
   have:bs.getD i false=b:=by rw [LO,e]; rfl
   have hQ':Q' (bs.getD i false) s':=hQ
   rw [this] at hQ'
   exact NB hQ'
 ·refine ⟨.bl (bs.all id),H,I.walked hk,?_,q⟩
  show Nd _=Nd _
  rw [<-Im]
  simp
theorem Bf (ns:List Int):∀ k,k<=ns.length->preSum (fun i=>ns.getD i 0) k=(ns.take k).sum:=by
 intro k
 induction k with
 | zero=>intro _; simp [preSum]
 | succ k ih=>
  intro hk
  have hlt:k < ns.length:=hk
  rw [preSum,ih (MP hlt),Nv,Nn,LD hlt,LO,LD hlt]
  simp
theorem j3 (hc:X.calm=true):dc X (.builtin "sum") (fun xs H Q=>∃ (p:Addr) (ns:List Int),xs=[.ref p]/\SqL X.K H p (ns.map V.int)/\Q (.int ns.sum) H):=by
 intro pins s σ H xs us Q I r h
 obtain ⟨p,ns,rfl,hq,q⟩:=h
 obtain ⟨u,rfl,rx⟩:=r.one
 cases rx
 obtain ⟨its,rv,pl,hz⟩:=I.list hq
 have hlen:ns.length=its.length:=by have:=rv.length; simpa using this
 have ia:=kF rv
 refine call_sum_walkG (O5 pl.isList ⟨s.heap.objs.size,_,_,_,_,_,fun i=>ns.getD i 0,rfl,SN (show X.A.in1.handled=none from I.ok.hd hc) _ p (by obtain ⟨o,ho,_⟩:=pl.isList; exact Mn (LM ho)) its.toArray,
  ⟨⟨_,LL _ rfl,rfl,rfl⟩,pl.isList.push _⟩,fun b hb=>?_,?_,fun h' tk t' hk=>?_⟩)
 ·have hp:p < s.heap.objs.size:=by
   obtain ⟨o,ho,_⟩:=pl.isList
   exact LM ho
  show b < (s.heap.push _).objs.size
  rw [MF]
  rcases LI.mp hb with rfl | hb
  ·exact Nt _
  ·obtain rfl:=LG.mp hb
   exact Nh hp
 ·intro i v hP
  have hP':its[i]?=some v:=by simpa using hP
  have hlt:i < ns.length:=by
   have:=(LJ.mp hP').1
   omega
  obtain ⟨u',hu',ru'⟩:=rv.get (x:=.int ns[i]) (i:=i) (by rw [LU,LD hlt] <;> rfl)
  rw [hP'] at hu'
  cases hu'
  obtain ⟨t,e⟩:=(show ∃ t,v=OL ns[i] t from ru')
  refine ⟨t,?_⟩
  show v=OL (ns.getD i 0) t
  rw [e,LO,LD hlt]
  rfl
 ·refine ⟨.int ns.sum,H,I.walked hk,⟨t',?_⟩,q⟩
  rw [show its.toArray.size=ns.length by simp; omega,Bf ns _ (LH _),Mx]
noncomputable def EqE (x y:V) (b:Bool):Prop:=(gA x=true/\gA y=true/\b=eqV x y)\/(∃ a,x=.ref a/\y=.ref a/\b=true)
theorem EqE.at {A:Around} {s:Shared} {x y:V} {b:Bool} {u v:Value} (h:EqE x y b) (ru:aJ x u) (rv:aJ y v):Mm A s u v b:=by
 rcases h with ⟨f1,f2,rfl⟩ | ⟨a,rfl,rfl,rfl⟩
 ·exact Eo ru rv f1 f2
 ·cases ru
  cases rv
  exact RX _
noncomputable def F1 (xs ys:List V) (e:Nat->Bool):Prop:=∀ j x y,xs[j]?=some x->ys[j]?=some y->EqE x y (e j)
theorem BR {A:Around} {s:Shared} {xs ys:List V} {e:Nat->Bool} {us vs:List Value} (h:F1 xs ys e) (ru:aH xs us) (rv:aH ys vs):
  ∀ j (h1:j < us.toArray.size) (h2:j < vs.toArray.size),Mm A s us.toArray[j] vs.toArray[j] (e j):=by
 intro j h1 h2
 have h1':j < xs.length:=by rw [ru.length]; simpa using h1
 have h2':j < ys.length:=by rw [rv.length]; simpa using h2
 obtain ⟨u,eu,r1⟩:=ru.get (LD h1')
 obtain ⟨v,ev,r2⟩:=rv.get (LD h2')
 have q:=(h j _ _ (LD h1') (LD h2')).at (A:=A) (s:=s) r1 r2
 have e1:us.toArray[j]=u:=by
  have:=(LJ.mp eu).2
  simpa using this
 have e2:vs.toArray[j]=v:=by
  have:=(LJ.mp ev).2
  simpa using this
 rw [e1,e2]
 exact q
noncomputable def lZ (xs ys:List V) (e:Nat->Bool):Bool:=(LV (min xs.length ys.length)).all e && xs.length == ys.length
noncomputable def qp (Sq:Hp->Addr->List V->Prop) (neg:Bool):R2:=fun x y H Q=>∃ a b xs ys e,x=.ref a/\y=.ref b/\Sq H a xs/\Sq H b ys/\F1 xs ys e/\Q (.bl (if neg then !lZ xs ys e else lZ xs ys e)) H
theorem JP (hu:X.A.units < cLine):OpR X (NC .Eq) (qp (SqT X.K) false):=by
 intro pins s σ H x y v u Q I r1 r2 h
 obtain ⟨a,b,xs,ys,e,rfl,rfl,ha,hb,he,q⟩:=h
 cases r1
 cases r2
 obtain ⟨us,ru,pu,_⟩:=I.tuple ha
 obtain ⟨vs,rv,pv,_⟩:=I.tuple hb
 refine SeqAt.eq_tupleAt (e:=e) pu pv hu (BR he ru rv) ⟨.bl (lZ xs ys e),H,I,?_,q⟩
 show Nd _=Nd _
 unfold lZ
 rw [L5,L5,ru.length,rv.length]
theorem EA (hu:X.A.units < cLine):OpR X (NC .NotEq) (qp (SqT X.K) true):=by
 intro pins s σ H x y v u Q I r1 r2 h
 obtain ⟨a,b,xs,ys,e,rfl,rfl,ha,hb,he,q⟩:=h
 cases r1
 cases r2
 obtain ⟨us,ru,pu,_⟩:=I.tuple ha
 obtain ⟨vs,rv,pv,_⟩:=I.tuple hb
 refine SeqAt.RcNeAt.tuples (e:=e) pu pv hu (BR he ru rv) _ _ _ _ ⟨.bl (!lZ xs ys e),H,I,?_,q⟩
 show Nd _=Nd _
 unfold lZ
 rw [L5,L5,ru.length,rv.length]
end
theorem xO (ns ms:List Int):F1 (ns.map V.int) (ms.map V.int) (fun j=>decide (ns[j]?=ms[j]?)):=by
 intro j x y hx hy
 rw [LU] at hx hy
 cases e1:ns[j]? with
 | none=>rw [e1] at hx; cases hx
 | some n=>
  cases e2:ms[j]? with
  | none=>rw [e2] at hy; cases hy
  | some m=>
   rw [e1] at hx
   rw [e2] at hy
   cases hx
   cases hy
   refine .inl ⟨rfl,rfl,?_⟩
   show decide (ns[j]?=ms[j]?)=(n == m)
   rw [e1,e2]
   by_cases h:n=m
   ·subst h; simp
   ·simp [h]
theorem uu (ns ms:List Int):lZ (ns.map V.int) (ms.map V.int) (fun j=>decide (ns[j]?=ms[j]?))=decide (ns=ms):=by
 unfold lZ
 rw [LF,LF]
 by_cases h:ns=ms
 ·subst h
  simp
 ·rw [decide_eq_false h]
  by_cases hl:ns.length=ms.length
  ·rw [Bool.and_eq_false_iff]
   left
   rw [<-Bool.not_eq_true,Uj]
   intro q
   apply h
   apply Ni
   intro j
   by_cases hj:j < ns.length
   ·have:=q j (by rw [MZ]; omega)
    exact of_decide_eq_true this
   ·rw [Md (by omega),Md (by omega)]
  ·rw [beq_eq_false_iff_ne.mpr hl,Sm]
end
section
open PySem.Spec
noncomputable def FnB (P:Program) (w:World) (K:Fg) (mg:Str->Option Value) (base:Heap) (k:Nat) (x:Str) (ps:List Str) (sp:Sp):Prop:=
 ∃ f fd,gT P w K mg base CX0 k f fd ps sp/\mg x=some (.ref f)/\O7 K (.ref f)=true/\fq K fd ps []
theorem ak {X:Cx} {k:Nat} {x:Str} {ps:List Str} {sp:Sp} {p pos:Pos} {e:Expr} {es:List Expr} {t:TA} (F:FnB X.prog X.w X.K X.mg X.base k x ps sp) (hr:b8 k X.A) (ha:PA X (e :: es) t) (hg:Gl X x:=by rfl)
  (hdb:(x == ("__debug__":Str))=false:=by decide) (he:L9 (e :: es) X.env=(false,eval e X.env) :: L9 es X.env:=by rfl) (hpl:(backTo pos (L9 es X.env)).any (·.1)=false:=by rfl):
  PE X (.Call (.Name x p) (e :: es) [] pos) (av sp [] E0 t):=by
 obtain ⟨f,fd,ok,m,kp,b⟩:=F
 exact Id ok hr hg m kp b .nil yZ ha hdb he hpl
structure Def (K:Fg) (mg:Str->Option Value) (x:Str) (st:Stmt) (ps:List Str) (f:Addr) (fd:L6):Prop where
 fn:Fun K x x st f fd
 m:mg x=some (.ref f)
 b:fq K fd ps []
theorem Def.ok {P:Program} {w:World} {K:Fg} {mg:Str->Option Value} {base:Heap} {x:Str} {st:Stmt} {N ps:List Str} {f:Addr} {fd:L6} {k:Nat} {sp:Sp} (D:Def K mg x st ps f fd) (S:aB N ps (ab st)) (len:∀ vs H Q E,sp vs H Q E->vs.length=ps.length)
  (hbody:∀ (cdv:Value) (A:Around) (outer:List Env) (s:Shared) (H:Hp) (vs:List V) (Q:VK) (E:XK),b8 k (A.deeper (envOfC x (ab st) s.heap.objs.size f cdv))->sp vs H Q E->
   ∃ t,PSs (ow CX0 P w K mg base N x (ab st) f cdv A outer s H E).nox (eS st) t/\t { nx:=fun _ H'=>Q .non H',rt:=Q } (start N vs) H):FnB P w K mg base (k + 1) x ps sp:=
 ⟨f,fd,D.fn.ok S len hbody,D.m,D.fn.kp,D.b⟩
theorem eV {X:Cx}:OpR X (OD .Mult) (rI OR fun i j=>.int (i * j)):=opI fun _ _ _ _ _ _ _ hc q=>mul_int q hc
theorem uv:∀ (ns:List Int),∀ n∈ns,MH n<=RM (ns.map PX)
 | [],n,h=>(nomatch h)
 | m :: r,n,h=>by
  rw [LZ,RM]
  have e:Pd (.int m)=MH m:=by
   rw [Pd]
   rfl
  rw [e]
  rcases LI.mp h with rfl | h
  ·omega
  ·have:=uv r n h
   omega
theorem Bg {ns:List Int} (h:RE [QW (ns.map PX)]=true):∀ n∈ns,MH n<=1048576:=by
 intro n hn
 have h1:So (QW (ns.map PX))=true:=by
  unfold RE at h
  rw [Ph,Nc] at h
  exact h.1
 unfold So at h1
 rw [Nc] at h1
 have h2:Pd (QW (ns.map PX))<=2 ^ 20:=of_decide_eq_true h1.2
 rw [Pd] at h2
 have h3:=uv ns n hn
 have e:(2:Nat) ^ 20=1048576:=by decide
 omega
noncomputable def fw (K:Fg) (H:Hp) (a:Addr) (ns:List Int):Prop:=SqL K H a (ns.map V.int)/\ns.length<=63/\∀ n∈ns,MH n<=1048576
noncomputable def uw (K:Fg):Sp:=fun vs H Q _=>∃ (a:Addr) (ns:List Int),vs=[.ref a]/\fw K H a ns/\∀ H',Q (.bl true) H'
theorem F2 {l:PySem.W.OpenLaw} {k:Nat} {q:Program} {loose:List Str} {XP:(Str->Option Value)->Heap->Prop} {YP:World->Heap->Prop} {d:DefRec} {K:Params->Fg} {x:Str}
  (hn:l.most=some 63) (hdf:d.params.defaults=[]) (hr:b8 k callerA) (hY:∀ (w:World) (h:Heap),YP w h->(K w.params).In h)
  (F:∀ (w:World) (mg:Str->Option Value) (fa:Addr) (h:Heap),(K w.params).In h->h.Ns Mj mg->mg d.name=some (.ref fa)->
   ∃ fd:L6,(∀ (s:Shared) (u:Value),BindsTo s fd ⟨[u],[]⟩ [(x,u)])/\
    ∀ base:Heap,(K w.params).In base->base.Ns Mj mg->gT l.prog w (K w.params) mg base CX0 k fa fd [x] (uw (K w.params))):
  PySem.W.WalkO q loose XP YP l.row.toRowW d [] (fun f vs=>PySem.call f vs):=by
 intro w s₀ s₁ mg mb G Y fa o pm cd doc dV kV ho hd hcd hD hmg hg args vals as hpre hlay hrd hwl hlo
 obtain rfl:dV=.none:=PySem.W.Dflts.none hD hdf
 obtain rfl:kV=.none:=PySem.W.Dflts.noKw hD
 obtain ⟨a,vs,ns,rfl,rfl,hobj,hints,hlen⟩:=Att.Et hn hpre hwl
 have hbits:=Bg hlay
 have KX:=hY w _ Y
 obtain ⟨fd,hb,hF⟩:=F w mg fa _ KX G.T.g hmg
 have c:=FY KX G.T.g G.T.b G.T.builtins G.T.nolimit hg hobj hints (Mq hlen (by decide)) hr hF hb (fun H hO hS=>⟨a,ns,rfl,⟨hS,hlen,hbits⟩,fun _=>rfl⟩) fun H e s' z=>z
 refine PySem.W.enter_call (OP c fun r s' hq=>?_)
 obtain ⟨rfl,h2,h3,h4⟩:=hq
 exact ⟨.inl ⟨.bool true,.bool true,[],rfl,fun _=>rfl,.bool true,Att.Eu l _,fun _=>⟨List.Pairwise.nil,fun _ hm=>(nomatch hm)⟩⟩,h2,h3,h4⟩
theorem EB {J:It} {n:Nat} {g:TG} {tb:TS} {D:jq} {σ:St} {H:Hp} {Y:Nat->Hp->V->Hp->Prop} (Pv:Nat->St->Hp->Prop) (h0:Pv 0 σ H) (hgo:∀ i σ H,i < n->Pv i σ H->J.go i H) (hst:∀ σ H,Pv n σ H->J.stop n H)
  (hy:∀ i σ H x H1,i < n->Pv i σ H->J.yld i H x H1->Y i H x H1) (hs:∀ i x σ H H1,i < n->Pv i σ H->Y i H x H1->g x σ H1 fun σ2 H2=>tb { D with nx:=Pv (i + 1),ct:=Pv (i + 1),bk:=D.nx } σ2 H2) (hd:∀ σ H,Pv n σ H->D.nx σ H):
  ∃ W:Nat->Nat->St->Hp->Prop,(∃ m,W 0 m σ H)/\∀ i m σ H,W i m σ H->
   (J.stop i H/\D.nx σ H)\/(J.go i H/\∃ N:St->Hp->Prop,(∀ σ' H',N σ' H'->∃ m',m' < m/\W (i + 1) m' σ' H')/\∀ x H',J.yld i H x H'->g x σ H' fun σ2 H2=>tb { D with nx:=N,ct:=N,bk:=D.nx } σ2 H2):=by
 refine ⟨fun i m σ H=>m=n - i/\i<=n/\Pv i σ H,⟨n,by simp,MI _,h0⟩,?_⟩
 rintro i m σ H ⟨rfl,hi,p⟩
 by_cases hlt:i < n
 ·exact .inr ⟨hgo i σ H hlt p,Pv (i + 1),fun σ' H' p'=>⟨n - (i + 1),by omega,rfl,hlt,p'⟩,fun x H' y=>hs i x σ H H' hlt p (hy i σ H x H' hlt p y)⟩
 ·have e:i=n:=by omega
  subst e
  exact .inl ⟨hst σ H p,hd σ H p⟩
theorem zH {S:Src} {K:Fg} {a:Addr} {xs:List V} {g:TG} {tb:TS} {D:jq} {σ:St} {H:Hp} (Pv:Nat->St->Hp->Prop) (h0:Pv 0 σ H) (hl:∀ i σ H,i<=xs.length->Pv i σ H->S.Sq K H a xs)
  (hs:∀ i x T σ H,xs[i]?=some x->Pv i σ H->H T=none->g (.ref T) σ (upd H T (.tup [.int i,x])) fun σ2 H2=>tb { D with nx:=Pv (i + 1),ct:=Pv (i + 1),bk:=D.nx } σ2 H2) (hd:∀ σ H,Pv xs.length σ H->D.nx σ H):
  ∃ W:Nat->Nat->St->Hp->Prop,(∃ m,W 0 m σ H)/\∀ i m σ H,W i m σ H->
   ((Ite S K a).stop i H/\D.nx σ H)\/((Ite S K a).go i H/\∃ N:St->Hp->Prop,(∀ σ' H',N σ' H'->∃ m',m' < m/\W (i + 1) m' σ' H')/\∀ x H',(Ite S K a).yld i H x H'->g x σ H' fun σ2 H2=>tb { D with nx:=N,ct:=N,bk:=D.nx } σ2 H2):=
 EB (J:=Ite S K a) (n:=xs.length) (Y:=fun i H x H1=>∃ T v,H T=none/\x=.ref T/\H1=upd H T (.tup [.int i,v])/\xs[i]?=some v) Pv h0 (fun i σ H hi w=>⟨xs,xs[i],hl i σ H (MP hi) w,by simp [hi]⟩) (fun σ H w=>⟨xs,hl _ σ H (LH _) w,rfl⟩)
  (fun i σ H x H1 hi w y=>by
   obtain ⟨T,v,e1,e2,e3,e4⟩:=y
   exact ⟨T,v,e1,e2,e3,e4 xs (hl i σ H (MP hi) w)⟩) (fun i x σ H H1 hi w y=>by
   obtain ⟨T,v,e1,rfl,rfl,e4⟩:=y
   exact hs i v T σ H e4 w e1) hd
theorem EC {S:Src} {K:Fg} {a:Addr} {xs:List V} {g:CF TG} {tt:CF TT} {te:CF TE} {σ₀:St} {p:Addr} {Q:VK} {H:Hp} (Pv:Nat->List V->Hp->Prop) (h0:Pv 0 [] (upd H p (.lst []))) (hp:∀ i acc H,i<=xs.length->Pv i acc H->H p=some (.lst acc)/\acc.length<=i) (hl:∀ i acc H,i<=xs.length->Pv i acc H->S.Sq K H a xs) (hz:xs.length<=LS)
  (hs:∀ C s' H' fp,∀ i x T acc H,xs[i]?=some x->Pv i acc H->H T=none->g C s' H' fp (.ref T) σ₀ (upd H T (.tup [.int i,x])) fun σ2 H2=>tt C s' H' fp σ2 H2 fun b H3=>if b=true then te C s' H' fp σ2 H3 fun y H4=>H4 p=some (.lst acc)/\Pv (i + 1) (acc++[y]) (upd H4 p (.lst (acc++[y]))) else Pv (i + 1) acc H3)
  (hd:∀ acc H,Pv xs.length acc H->Q (.ref p) H):
  ∃ W:Nat->Nat->List V->Hp->Prop,(∃ m,W 0 m [] (upd H p (.lst [])))/\∀ C s' H' fp,cK (Ite S K a) (g C s' H' fp) (tt C s' H' fp) (te C s' H' fp) σ₀ p Q W:=
 nA (Y:=fun i H x H1=>∃ T v,H T=none/\x=.ref T/\H1=upd H T (.tup [.int i,v])/\xs[i]?=some v) Pv h0 hp hz (fun i acc H hi w=>⟨xs,xs[i],hl i acc H (MP hi) w,by simp [hi]⟩) (fun acc H w=>⟨xs,hl _ acc H (LH _) w,rfl⟩)
  (fun i acc H x H1 hi w y=>by
   obtain ⟨T,v,e1,e2,e3,e4⟩:=y
   exact ⟨T,v,e1,e2,e3,e4 xs (hl i acc H (MP hi) w)⟩) (fun C s' H' fp i x acc H H1 hi w y=>by
   obtain ⟨T,v,e1,rfl,rfl,e4⟩:=y
   exact hs C s' H' fp i v T acc H e4 w e1) hd
theorem ba {H:Hp} {p:Addr} (h:H p=none) (o:HO):am H (upd H p o):=fun b u q=>by rw [aS (aV q h)]; exact q
theorem am.upd {H H':Hp} {p:Addr} (s:am H H') (h:H p=none) (o:HO):am H (upd H' p o):=fun b u q=>by rw [aS (aV q h)]; exact s b u q
theorem am.tup {K:Fg} {H H':Hp} {a:Addr} {xs:List V} (e:am H H') (h:SqT K H a xs):SqT K H' a xs:=by
 rcases h with (h | ⟨o,h⟩) | h
 ·exact .inl (.inl (e _ _ h))
 ·exact .inl (.inr ⟨o,e _ _ h⟩)
 ·exact .inr h
theorem small {n:Nat} (h:n<=1000):n<=LS:=MP (Ew h)
theorem zI {ns:List Int} {k:Int} (h0:0<=k) (h1:k < (ns.length:Int)):atI (ns.map V.int) k=some (.int (ns.getD k.toNat 0)):=by
 have hk:k.toNat < ns.length:=by omega
 have e:k=((k.toNat:Nat):Int):=by omega
 have q:atI (ns.map V.int) ((k.toNat:Nat):Int)=some (.int (ns.getD k.toNat 0)):=ck (by rw [LU,LD hk,LO,LD hk] <;> rfl)
 rw [<-e] at q
 exact q
theorem iK {c:Bool} {A B:Prop} (h1:c=true->A) (h2:c=false->B):if c=true then A else B:=by
 cases c with
 | true=>rw [if_pos rfl]; exact h1 rfl
 | false=>rw [if_neg LR]; exact h2 rfl
noncomputable def bE (ns:List Int) (k:Int):Int:=
 if k < (ns.length:Int) then ns.getD k.toNat 0 else
  let n0:=if 0 < (ns.length:Int) then ns.getD ((k * 7) % (ns.length:Int)).toNat 0 * 48271 + k * 7919 else k * 7919 + 5
  let n1:=n0 * n0 % 2147483629
  (n1 + k) * (n1 + 69621) % 2147483587
noncomputable def JQ (K:Fg):Sp:=fun vs H Q _=>∃ (a:Addr) (ns:List Int) (k:Int),vs=[.ref a,.int k]/\fw K H a ns/\0<=k/\k<=1000000/\Q (.int (bE ns k)) H
theorem fw.same {K:Fg} {H H':Hp} {a:Addr} {ns:List Int} (h:fw K H a ns) (s:am H H'):fw K H' a ns:=⟨s.seq h.1,h.2⟩
structure Blt (mg:Str->Option Value):Prop where
 len:mg "len"=none
 range:mg "range"=none
 tuple:mg "tuple"=none
 list:mg "list"=none
 int:mg "int"=none
 bool:mg "bool"=none
 str:mg "str"=none
 dict:mg "dict"=none
 sum:mg "sum"=none
 all:mg "all"=none
 min:mg "min"=none
 max:mg "max"=none
 sorted:mg "sorted"=none
 enumerate:mg "enumerate"=none
 zip:mg "zip"=none
 isinstance:mg "isinstance"=none
theorem ED {ns:List Int} (h:∀ n∈ns,MH n<=1048576) (i:Nat):MH (ns.getD i 0)<=1048576:=by
 rw [LO]
 cases e:ns[i]? with
 | none=>show MH 0<=_; decide
 | some n=>exact h n (LX e)
end
section
open PySem.Spec
structure iL (z TI TO j1 j2:Addr) (fp1 fp2:List Addr):Prop where
 a1:TI≠z
 a2:TO≠z
 a3:j1≠z
 a4:j2≠z
 a5:TI≠TO
 a6:TI≠j1
 a7:TI≠j2
 a8:TO≠j1
 a9:TO≠j2
 b0:j1≠j2
 b1:z∉fp1
 b2:TO∉fp1
 b3:j2∉fp1
 b4:z∉fp2
 b5:TO∉fp2
 b6:j1∉fp2
section
variable {prog:Program} {w:World} {A:Around} {E:Value->Shared->Prop} {s:Shared}
theorem _root_.PySem.Draws.but {it:Addr} {fp:List Addr} {n i:Nat} {P:Nat->Value->Prop} {St:Nat->Heap->Prop} {h h':Heap} {c:Addr} (D:Draws prog w A it fp n P St) (hst:St i h) (hs:L8 c h h') (hc:c∉fp):St i h':=
 D.frame i _ _ hst fun b hb o e=>hs.extBut b o (fun z=>hc (by rw [<-z]; exact hb)) e
theorem xP {z TI TO j1 j2:Addr} {fp1 fp2:List Addr} {n1 n2 k:Nat} {P1 P2:Nat->Value->Prop} {S1 S2:Nat->Heap->Prop} {a b:Value} {Q:Value->Shared->Prop} (Z:iL z TI TO j1 j2 fp1 fp2)
  (D1:Draws prog w A j1 fp1 n1 P1 S1) (D2:Draws prog w A j2 fp2 n2 P2 S2) (hz:IsZip s.heap z TI TO .none) (hTI:IsPair s.heap TI (.ref j1) (.ref j2)) (hTO:IsPair s.heap TO a b) (h1:S1 k s.heap) (h2:S2 k s.heap) (l1:k < n1) (l2:k < n2)
  (hQ:∀ x y h' tk,P1 k x->P2 k y->IsZip h' z TI TO (rawInt s.heap.objs.size)->(∃ a b,IsPair h' TO a b)->S1 (k + 1) h'->S2 (k + 1) h'->IsPair h' s.heap.objs.size x y->
   (∀ c o,c∉[z,TI,TO,j1,j2]->s.heap.get? c=some o->h'.get? c=some o)->IsPair h' TI (.ref j1) (.ref j2)->Q (.ref s.heap.objs.size) { s with heap:=h',toks:=tk }):
  wpAny (model prog w) A (Builtin.«zip.__next__» ⟨[.ref z],[]⟩) (fun fin s'=>∃ v,fin=.done (.ret v)/\Q v s') E s:=by
 obtain ⟨hp,g,d,tk₀,os⟩:=s
 show wpAny _ _ (field (.ref z) 2 >>= _) _ _ _
 refine LA (MS hz rfl (x:=.bool false) rfl ?_)
 show wpAny _ _ (field (.ref z) 3 >>= _) _ _ _
 refine LA (MS hz rfl (x:=.ref TI) rfl ?_)
 refine LA (MG hTI rfl ?_)
 show wpAny _ _ (MB (.ref z) >>= _) _ _ _
 refine LA ?_
 unfold MB
 refine LA (MS hz rfl (x:=.none) rfl (LC ?_))
 simp only [if_true]
 refine LA (NY ?_)
 refine LA (MS hz rfl (x:=.ref TO) rfl ?_)
 refine LA (Oe hz (by simp) fun g1 hz1 hs1=>?_)
 replace hz1:IsZip g1 z TI TO .ellipsis:=hz1
 replace hs1:L8 z hp g1:=hs1
 refine LA ?_
 simp only [Uk,UH,Po,QK]
 refine LA (LA (Q7 ?_))
 show wpAny _ _ (Mv (.ref j1) >>= _) _ _ _
 refine LA (D1.item k ⟨g1,g,d,tk₀,os⟩ _ _ l1 (D1.but h1 hs1 Z.b1) fun x g2 tk1 px st1 hs2=>LC ?_)
 replace hs2:L8 j1 g1 g2:=hs2
 have hTO2:IsPair g2 TO a b:=hs2.extBut _ _ Z.a8 (hs1.extBut _ _ Z.a2 hTO)
 refine LA (MG hTO2 rfl ?_)
 refine LA (Qt hTO2 fun g3 hTO3 hs3=>?_)
 replace hTO3:IsPair g3 TO x b:=hTO3
 replace hs3:L8 TO g2 g3:=hs3
 refine LA (O1 (LC ?_))
 refine LA (LA (Q7 ?_))
 show wpAny _ _ (Mv (.ref j2) >>= _) _ _ _
 refine LA (D2.item k ⟨g3,g,d,tk1,os⟩ _ _ l2 (D2.but (D2.but (D2.but h2 hs1 Z.b4) hs2 Z.b6) hs3 Z.b5) fun y g4 tk2 py st2 hs4=>LC ?_)
 replace hs4:L8 j2 g3 g4:=hs4
 have hTO4:IsPair g4 TO x b:=hs4.extBut _ _ Z.a9 hTO3
 refine LA (MG hTO4 rfl ?_)
 refine LA (Qt hTO4 fun g5 hTO5 hs5=>?_)
 replace hTO5:IsPair g5 TO x y:=hTO5
 replace hs5:L8 TO g4 g5:=hs5
 refine LA (O1 (LC (LC ?_)))
 refine LA (MG hTO5 rfl ?_)
 refine LA (Sr ?_)
 have hsz:g5.objs.size=hp.objs.size:=by rw [hs5.1,hs4.1,hs3.1,hs2.1,hs1.1]
 have hz5:IsZip g5 z TI TO .ellipsis:=hs5.extBut _ _ Z.a2.symm (hs4.extBut _ _ Z.a4.symm (hs3.extBut _ _ Z.a2.symm (hs2.extBut _ _ Z.a3.symm hz1)))
 have k5:∀ c o,c≠z->c≠TO->c≠j1->c≠j2->hp.get? c=some o->g5.get? c=some o:=fun c o c1 c2 c3 c4 e=>
  hs5.extBut _ _ c2 (hs4.extBut _ _ c4 (hs3.extBut _ _ c2 (hs2.extBut _ _ c3 (hs1.extBut _ _ c1 e))))
 have st15:S1 (k + 1) g5:=D1.but (D1.but (D1.but st1 hs3 Z.b2) hs4 Z.b3) hs5 Z.b2
 have st25:S2 (k + 1) g5:=D2.but st2 hs5 Z.b5
 have zlt:z < g5.objs.size:=LM hz5
 show wpAny _ _ (Pu (.ref z) (.ref g5.objs.size) >>= _) _ _ _
 refine LA ?_
 unfold Pu
 have hz6:IsZip (g5.push { cls:=.type "tuple",data:=.seq #[x,y] }) z TI TO .ellipsis:=LB _ hz5
 refine LA (Oe hz6 (by simp) fun g7 hz7 hs7=>?_)
 replace hz7:IsZip g7 z TI TO (rawInt g5.objs.size):=hz7
 refine Oe hz7 (by simp) fun g8 hz8 hs8=>?_
 replace hz8:IsZip g8 z TI TO (rawInt g5.objs.size):=hz8
 have up:∀ c o,c≠z->g5.get? c=some o->g8.get? c=some o:=fun c o c1 e=>hs8.extBut _ _ c1 (hs7.extBut _ _ c1 (LB _ e))
 have hT8:IsPair g8 g5.objs.size x y:=hs8.extBut _ _ (N9 zlt) (hs7.extBut _ _ (N9 zlt) (LL _ rfl))
 rw [hsz] at hz8 hT8
 refine LC ⟨_,rfl,?_⟩
 show Q (.ref g5.objs.size) _
 rw [hsz]
 exact hQ x y g8 tk2 px py hz8 ⟨x,y,up _ _ Z.a2 hTO5⟩ (D1.frame _ _ _ st15 fun c hc o e=>up c o (fun q=>Z.b1 (by rw [<-q]; exact hc)) e) (D2.frame _ _ _ st25 fun c hc o e=>up c o (fun q=>Z.b4 (by rw [<-q]; exact hc)) e) hT8
  (fun c o hc e=>by
   simp only [LI,MQ,or_false,not_or] at hc
   exact up c o hc.1 (k5 c o hc.1 hc.2.2.1 hc.2.2.2.1 hc.2.2.2.2 e)) (up _ _ Z.a1 (k5 _ _ Z.a1 Z.a5 Z.a6 Z.a7 hTI))
theorem zJ {z TI TO j1 j2:Addr} {fp1 fp2:List Addr} {n1 n2 k:Nat} {P1 P2:Nat->Value->Prop} {S1 S2:Nat->Heap->Prop} {a b:Value} {Q:Fin->Shared->Prop} (Z:iL z TI TO j1 j2 fp1 fp2)
  (D1:Draws prog w A j1 fp1 n1 P1 S1) (D2:Draws prog w A j2 fp2 n2 P2 S2) (hz:IsZip s.heap z TI TO .none) (hTI:IsPair s.heap TI (.ref j1) (.ref j2)) (hTO:IsPair s.heap TO a b) (h1:S1 k s.heap) (h2:S2 k s.heap) (l:k=min n1 n2)
  (hE:∀ h' e tk,(∀ c o,c∉[z,TI,TO,j1,j2]->s.heap.get? c=some o->h'.get? c=some o)->(∃ o,h'.get? e=some o/\o.cls=.type "StopIteration")->E (.ref e) { s with heap:=h',toks:=tk }):
  wpAny (model prog w) A (Builtin.«zip.__next__» ⟨[.ref z],[]⟩) Q E s:=by
 obtain ⟨hp,g,d,tk₀,os⟩:=s
 have kp:∀ {h':Heap},(∀ c o,c≠z->c≠TO->c≠j1->c≠j2->hp.get? c=some o->h'.get? c=some o)->∀ c o,c∉[z,TI,TO,j1,j2]->hp.get? c=some o->h'.get? c=some o:=fun {h'} q c o hc e=>by
  simp only [LI,MQ,or_false,not_or] at hc
  exact q c o hc.1 hc.2.2.1 hc.2.2.2.1 hc.2.2.2.2 e
 show wpAny _ _ (field (.ref z) 2 >>= _) _ _ _
 refine LA (MS hz rfl (x:=.bool false) rfl ?_)
 show wpAny _ _ (field (.ref z) 3 >>= _) _ _ _
 refine LA (MS hz rfl (x:=.ref TI) rfl ?_)
 refine LA (MG hTI rfl ?_)
 show wpAny _ _ (MB (.ref z) >>= _) _ _ _
 refine LA ?_
 unfold MB
 refine LA (MS hz rfl (x:=.none) rfl (LC ?_))
 simp only [if_true]
 refine LA (NY ?_)
 refine LA (MS hz rfl (x:=.ref TO) rfl ?_)
 refine LA (Oe hz (by simp) fun g1 hz1 hs1=>?_)
 replace hz1:IsZip g1 z TI TO .ellipsis:=hz1
 replace hs1:L8 z hp g1:=hs1
 refine LA ?_
 simp only [Uk,UH,Po,QK]
 refine LA (LA (Q7 ?_))
 show wpAny _ _ (Mv (.ref j1) >>= _) _ _ _
 by_cases hk:k=n1
 ·subst hk
  refine LA (D1.done ⟨g1,g,d,tk₀,os⟩ _ _ (D1.but h1 hs1 Z.b1) fun g2 e hs2 he=>?_)
  replace hs2:Pl j1 g1 g2:=hs2
  obtain ⟨oe,hoe,hce⟩:=he
  have hz2:IsZip g2 z TI TO .ellipsis:=hs2 _ _ Z.a3.symm hz1
  have nez:e≠z:=fun q=>by
   subst q
   rw [hz2] at hoe
   cases hoe
   simp at hce
  refine Oe hz2 (by simp) fun g3 _ hs3=>hE g3 e tk₀ (kp fun c o c1 _ c3 _ q=>hs3.extBut _ _ c1 (hs2 _ _ c3 (hs1.extBut _ _ c1 q))) ⟨oe,hs3.extBut _ _ nez hoe,hce⟩
 ·have hlt:k < n1:=by omega
  have hk2:k=n2:=by omega
  refine LA (D1.item k ⟨g1,g,d,tk₀,os⟩ _ _ hlt (D1.but h1 hs1 Z.b1) fun x g2 tk1 px st1 hs2=>LC ?_)
  replace hs2:L8 j1 g1 g2:=hs2
  have hTO2:IsPair g2 TO a b:=hs2.extBut _ _ Z.a8 (hs1.extBut _ _ Z.a2 hTO)
  refine LA (MG hTO2 rfl ?_)
  refine LA (Qt hTO2 fun g3 hTO3 hs3=>?_)
  replace hs3:L8 TO g2 g3:=hs3
  refine LA (O1 (LC ?_))
  refine LA (LA (Q7 ?_))
  show wpAny _ _ (Mv (.ref j2) >>= _) _ _ _
  subst hk2
  refine LA (D2.done ⟨g3,g,d,tk1,os⟩ _ _ (D2.but (D2.but (D2.but h2 hs1 Z.b4) hs2 Z.b6) hs3 Z.b5) fun g4 e hs4 he=>?_)
  replace hs4:Pl j2 g3 g4:=hs4
  obtain ⟨oe,hoe,hce⟩:=he
  have hz4:IsZip g4 z TI TO .ellipsis:=hs4 _ _ Z.a4.symm (hs3.extBut _ _ Z.a2.symm (hs2.extBut _ _ Z.a3.symm hz1))
  have nez:e≠z:=fun q=>by
   subst q
   rw [hz4] at hoe
   cases hoe
   simp at hce
  refine Oe hz4 (by simp) fun g5 _ hs5=>hE g5 e tk1 (kp fun c o c1 c2 c3 c4 q=>hs5.extBut _ _ c1 (hs4 _ _ c4 (hs3.extBut _ _ c2 (hs2.extBut _ _ c3 (hs1.extBut _ _ c1 q))))) ⟨oe,hs5.extBut _ _ nez hoe,hce⟩
end
noncomputable abbrev zh1 (S1:Src) (h:Heap) (l1:Addr):Heap:=h.push { cls:=.type S1.icls,data:=.fields #[.ref l1,.int 0 0] }
noncomputable abbrev zh2 (S1 S2:Src) (h:Heap) (l1 l2:Addr):Heap:=(zh1 S1 h l1).push { cls:=.type S2.icls,data:=.fields #[.ref l2,.int 0 0] }
noncomputable abbrev zh3 (S1 S2:Src) (h:Heap) (l1 l2:Addr):Heap:=(zh2 S1 S2 h l1 l2).push { cls:=.type "tuple",data:=.seq #[.ref h.objs.size,.ref (zh1 S1 h l1).objs.size] }
noncomputable abbrev zh4 (S1 S2:Src) (h:Heap) (l1 l2:Addr):Heap:=(zh3 S1 S2 h l1 l2).push { cls:=.type "tuple",data:=.seq #[.none,.none] }
noncomputable abbrev zh5 (S1 S2:Src) (h:Heap) (l1 l2:Addr):Heap:=(zh4 S1 S2 h l1 l2).push { cls:=.type "zip",data:=.fields #[.none,.bool false,.bool false,.ref (zh2 S1 S2 h l1 l2).objs.size,.ref (zh3 S1 S2 h l1 l2).objs.size] }
theorem BS (S1 S2:Src) (l1 l2:Addr) (xs ys:Array Value):
  Meets (Builtin.«zip.__new__» ⟨[.type "zip",.ref l1,.ref l2],[]⟩) (fun _ R s=>S1.Is s.heap l1 xs/\S2.Is s.heap l2 ys/\R (.ok (.ret (.ref (zh4 S1 S2 s.heap l1 l2).objs.size))) { s with heap:=zh5 S1 S2 s.heap l1 l2 }):=
 .of_wp fun prog w A R s h=>by
  obtain ⟨hp,g,d,tk,os⟩:=s
  obtain ⟨q1,q2,h⟩:=h
  have hsub:=sub_zip
  have hL1:S1.Is (T6 ⟨hp,g,d,tk,os⟩) l1 xs:=q1
  have hL2:S2.Is (T6 ⟨zh1 S1 hp l1,g,d,tk,os⟩) l2 ys:=S2.isKeep q2 fun o e=>LB _ e
  wp_walk using S1.iter hL1,S2.iter hL2
  exact ⟨_,rfl,h⟩
noncomputable def Itz (S1 S2 : Src) (K : Fg) (a b : Addr) : It :=
  ⟨fun i H => ∃ xs ys x y, S1.Sq K H a xs ∧ S2.Sq K H b ys ∧ xs[i]? = some x ∧ ys[i]? = some y,
   fun i H x H' => ∃ T u v, H T = none ∧ x = .ref T ∧ H' = upd H T (.tup [u, v]) ∧ ∀ xs ys, S1.Sq K H a xs → S2.Sq K H b ys → xs[i]? = some u ∧ ys[i]? = some v,
   fun i H => ∃ xs ys, S1.Sq K H a xs ∧ S2.Sq K H b ys ∧ min xs.length ys.length = i⟩
theorem zap {z TI TO j1 j2 a b:Addr} (nd:[z,TI,TO,j1,j2].Nodup) (h1:∀ c∈[z,TI,TO,j1,j2],c≠a) (h2:∀ c∈[z,TI,TO,j1,j2],c≠b):iL z TI TO j1 j2 [j1,a] [j2,b]:=by
 simp only [Ol,LI,MQ,or_false,not_or] at nd
 obtain ⟨⟨c1,c2,c3,c4⟩,⟨c5,c6,c7⟩,⟨c8,c9⟩,c10,_⟩:=nd
 have g1:=h1 z (by simp)
 have g2:=h1 TO (by simp)
 have g3:=h1 j2 (by simp)
 have g4:=h2 z (by simp)
 have g5:=h2 TO (by simp)
 have g6:=h2 j1 (by simp)
 exact ⟨Na c1,Na c2,Na c3,Na c4,c5,c6,c7,c8,c9,c10,by simp [c3,g1],by simp [c8,g2],by simp [Na c10,g3],by simp [c4,g4],by simp [c9,g5],by simp [c10,g6]⟩
theorem F3 {P:Program} {w:World} {K:Fg} {elts:List Expr} {k0:Nat} {pos:Pos} (S1 S2:Src) (a b z TI TO j1 j2:Addr) (nd:[z,TI,TO,j1,j2].Nodup):
  sT P w K (.Tuple elts k0 pos) (Itz S1 S2 K a b) [z,TI,TO,j1,j2] z (fun i h=>IsZip h z TI TO .none/\IsPair h TI (.ref j1) (.ref j2)/\(∃ u v,IsPair h TO u v)/\S1.It h j1 a i/\S2.It h j2 b i) where
 mem:=by simp
 obj:=fun i h st c hc=>by
  obtain ⟨q1,q2,⟨u,v,q3⟩,q4,q5⟩:=st
  simp only [LI,MQ,or_false] at hc
  rcases hc with rfl | rfl | rfl | rfl | rfl
  ·exact ⟨_,q1,fun v z=>nomatch z⟩
  ·exact ⟨_,q2,fun v z=>nomatch z⟩
  ·exact ⟨_,q3,fun v z=>nomatch z⟩
  ·obtain ⟨o,ho,_,hd⟩:=S1.isIt q4
   exact ⟨o,ho,fun v z=>by rw [hd] at z; cases z⟩
  ·obtain ⟨o,ho,_,hd⟩:=S2.isIt q5
   exact ⟨o,ho,fun v z=>by rw [hd] at z; cases z⟩
 keep:=fun i h h' st k=>by
  obtain ⟨q1,q2,⟨u,v,q3⟩,q4,q5⟩:=st
  exact ⟨k z (by simp) _ q1,k TI (by simp) _ q2,⟨u,v,k TO (by simp) _ q3⟩,S1.itKeep q4 fun o q=>k j1 (by simp) o q,S2.itKeep q5 fun o q=>k j2 (by simp) o q⟩
 item:=by
  intro X hP hw hK hc i pins s σ H E I hf st hg
  subst hP hw hK
  obtain ⟨xs,ys,x,y,hq1,hq2,hx,hy⟩:=hg
  obtain ⟨us,r1,p1,_⟩:=S1.get I hq1
  obtain ⟨vs,r2,p2,_⟩:=S2.get I hq2
  obtain ⟨q1,q2,⟨u0,v0,q3⟩,q4,q5⟩:=st
  obtain ⟨u,hu,ru⟩:=r1.get hx
  obtain ⟨v,hv,rv⟩:=r2.get hy
  have Z:=zap nd (fun c hc'=>S1.off I hq1 (hf c hc')) (fun c hc'=>S2.off I hq2 (hf c hc'))
  have hh:X.A.in1.handled=none:=I.ok.hd hc
  have n1:a≠j1:=Na (S1.off I hq1 (hf j1 (by simp)))
  have n2:b≠j2:=Na (S2.off I hq2 (hf j2 (by simp)))
  have l1:i < us.toArray.size:=by have:=(LJ.mp hu).1; simpa using this
  have l2:i < vs.toArray.size:=by have:=(LJ.mp hv).1; simpa using this
  have hT:s.TypeIs (.ref z) "zip":=⟨_,q1,rfl⟩
  unfold pyNext
  refine LA (OG (MJ (name:=Nb "__next__") hT Om (Mu Om hT Qd
   (xP (A:=X.A.in1) Z (S1.draws hh j1 a n1 us.toArray) (S2.draws hh j2 b n2 vs.toArray) q1 q2 q3 ⟨q4,p1⟩ ⟨q5,p2⟩ l1 l2 fun x' y' h' tk px py z1 z2 z3 z4 z5 z6 z7=>LC ?_) (PY _))))
  have ex:x'=u:=by
   have:us.toArray[i]?=some u:=by simpa using hu
   rw [this] at px
   exact (LW px).symm
  have ey:y'=v:=by
   have:vs.toArray[i]?=some v:=by simpa using hv
   rw [this] at py
   exact (LW py).symm
  subst ex ey
  refine ⟨_,rfl,wpAny_letOwnedTupleGo_zip z1 fun h2 w1 hs2=>?_⟩
  have nz:∀ c,c∈[TI,TO,j1,j2]->c≠z:=fun c hc' e=>by
   subst e
   exact (Ol.mp nd).1 hc'
  have zlt:z < s.heap.objs.size:=LM q1
  have hT2:h2.get? s.heap.objs.size=some { cls:=.type "tuple",data:=.seq #[x',y'] }:=hs2.extBut _ _ (JO (LH _) zlt) z5
  have kept:∀ c ob,c∉[z,TI,TO,j1,j2]->s.heap.get? c=some ob->h2.get? c=some ob:=fun c ob hc' q=>hs2.extBut _ _ (fun e=>hc' (by simp [e])) (z6 c ob hc' q)
  obtain ⟨u1,v1,z2⟩:=z2
  refine ⟨.ref s.heap.objs.size,upd H s.heap.objs.size (.tup [x,y]),?_,rfl,⟨_,x,y,I.fresh,rfl,rfl,fun xs' ys' h1 h2=>by rw [S1.inj I h1 hq1,S2.inj I h2 hq2]; exact ⟨hx,hy⟩⟩,
   ⟨w1,hs2.extBut _ _ (nz TI (by simp)) z7,⟨u1,v1,hs2.extBut _ _ (nz TO (by simp)) z2⟩,S1.itKeep z3.1 fun o q=>hs2.extBut _ _ (nz j1 (by simp)) q,S2.itKeep z4.1 fun o q=>hs2.extBut _ _ (nz j2 (by simp)) q⟩,fun c hc'=>?_⟩
  ·exact I.turns (t':=tk) hf kept (LH _) ⟨(by show 2<=LS; decide),[x',y'],.cons ru (.cons rv .nil),_,hT2,rfl,⟨0,rfl⟩,rfl⟩
  ·have lt:c < s.heap.objs.size:=by
    have st':IsZip s.heap z TI TO .none/\IsPair s.heap TI (.ref j1) (.ref j2)/\(∃ u v,IsPair s.heap TO u v)/\S1.It s.heap j1 a i/\S2.It s.heap j2 b i:=⟨q1,q2,⟨u0,v0,q3⟩,q4,q5⟩
    simp only [LI,MQ,or_false] at hc'
    rcases hc' with rfl | rfl | rfl | rfl | rfl
    ·exact zlt
    ·exact LM q2
    ·exact LM q3
    ·obtain ⟨o,ho,_⟩:=S1.isIt q4
     exact LM ho
    ·obtain ⟨o,ho,_⟩:=S2.isIt q5
     exact LM ho
   rw [aS (oy lt (LH _))]
   exact (hf c hc').1
 done:=by
  intro X hP hw hK hc i pins s σ H E I hf st hg
  subst hP hw hK
  obtain ⟨xs,ys,hq1,hq2,hi⟩:=hg
  obtain ⟨us,r1,p1,_⟩:=S1.get I hq1
  obtain ⟨vs,r2,p2,_⟩:=S2.get I hq2
  obtain ⟨q1,q2,⟨u0,v0,q3⟩,q4,q5⟩:=st
  have Z:=zap nd (fun c hc'=>S1.off I hq1 (hf c hc')) (fun c hc'=>S2.off I hq2 (hf c hc'))
  have hh:X.A.in1.handled=none:=I.ok.hd hc
  have n1:a≠j1:=Na (S1.off I hq1 (hf j1 (by simp)))
  have n2:b≠j2:=Na (S2.off I hq2 (hf j2 (by simp)))
  have hT:s.TypeIs (.ref z) "zip":=⟨_,q1,rfl⟩
  have hl:i=min us.toArray.size vs.toArray.size:=by
   have:=r1.length
   have:=r2.length
   simp only [L5]
   omega
  unfold pyNext
  refine LA (OG (MJ (name:=Nb "__next__") hT Om (Mu Om hT Qd
   (zJ (A:=X.A.in1) Z (S1.draws hh j1 a n1 us.toArray) (S2.draws hh j2 b n2 vs.toArray) q1 q2 q3 ⟨q4,p1⟩ ⟨q5,p2⟩ hl fun h' e tk kp he=>?_) (PY _))))
  obtain ⟨o,ho,hcl⟩:=he
  refine LA (NP (T:="StopIteration") (b:=true) ⟨o,ho,hcl⟩ PF ?_)
  exact LC ⟨rfl,I.turnsN (t':=tk) hf kp⟩
 self:=fun _ _ _ _ _ st h=>RF st.1 h
section
variable {X:Cx} {elts:List Expr} {k0:Nat} {tpos:Pos}
noncomputable def qq (S1 S2:Src) (K:Fg) (ta:TA):TI:=fun σ H R=>ta σ H fun vs H1=>∃ a b xs ys,vs=[.ref a,.ref b]/\S1.Sq K H1 a xs/\S2.Sq K H1 b ys/\R (Itz S1 S2 K a b) H1
theorem nC (S1 S2:Src) {a b:Expr} {ta:TA} {p pos:Pos} (hg:Gl X "zip") (hm:X.mg "zip"=none) (ha:PA X [a,b] ta) (hs:L9 [a,b] X.env=[(false,eval a X.env),(false,eval b X.env)]:=by rfl) (hs2:L9 [b] X.env=[(false,eval b X.env)]:=by rfl):
  PI X (.Tuple elts k0 tpos) (.Call (.Name "zip" p) [a,b] [] pos) (qq S1 S2 X.K ta):=by
 intro pins s σ H R I h
 refine Call_ (gb I hg hm boot_zip (Nf (thn (ha pos pins s σ H _ I h) fun us s1 ⟨vs,H1,I1,r1,q1⟩=>?_) (by rw [hs,hs2]) (by rw [hs2]; rfl)))
 obtain ⟨l1,l2,xs,ys,e,hq1,hq2,q⟩:=q1
 subst e
 obtain ⟨u,v,rfl,ru,rv⟩:=r1.two
 cases ru
 cases rv
 obtain ⟨us1,_,p1,_⟩:=S1.get I1 hq1
 obtain ⟨us2,_,p2,_⟩:=S2.get I1 hq2
 refine Tt F.called_zip (by decide) (Ul _ _) (UI _ _) (fun obj=>SO obj _ _) UJ (BS S1 S2 l1 l2 us1.toArray us2.toArray) ⟨p1,p2,?_⟩
 generalize hn:s1.heap.objs.size=n
 have z1:(zh1 S1 s1.heap l1).objs.size=n + 1:=by rw [MF,hn]
 have z2:(zh2 S1 S2 s1.heap l1 l2).objs.size=n + 2:=by rw [MF,z1]
 have z3:(zh3 S1 S2 s1.heap l1 l2).objs.size=n + 3:=by rw [MF,z2]
 have z4:(zh4 S1 S2 s1.heap l1 l2).objs.size=n + 4:=by rw [MF,z3]
 have g5:(zh5 S1 S2 s1.heap l1 l2).get? (zh4 S1 S2 s1.heap l1 l2).objs.size=some _:=LL _ rfl
 have g4:(zh5 S1 S2 s1.heap l1 l2).get? (zh3 S1 S2 s1.heap l1 l2).objs.size=some _:=LB _ (LL _ rfl)
 have g3:(zh5 S1 S2 s1.heap l1 l2).get? (zh2 S1 S2 s1.heap l1 l2).objs.size=some _:=LB _ (LB _ (LL _ rfl))
 have g2:(zh5 S1 S2 s1.heap l1 l2).get? (zh1 S1 s1.heap l1).objs.size=some _:=LB _ (LB _ (LB _ (LL _ rfl)))
 have g1:(zh5 S1 S2 s1.heap l1 l2).get? s1.heap.objs.size=some _:=LB _ (LB _ (LB _ (LB _ (LL _ rfl))))
 have kp:∀ c o,s1.heap.get? c=some o->(zh5 S1 S2 s1.heap l1 l2).get? c=some o:=fun c o e=>
  LB _ (LB _ (LB _ (LB _ (LB _ e))))
 show _/\_
 rw [z2,z3,z4] at g5
 rw [z1,z2,hn] at g3
 rw [z3] at g4
 rw [z1] at g2
 rw [hn] at g1
 rw [z4]
 refine ⟨⟨_,g5,rfl⟩,RF g5 ?_⟩
 have I2:Inv X pins σ H1 { s1 with heap:=zh5 S1 S2 s1.heap l1 l2 }:=I1.kept (t':=s1.toks) kp
 refine ⟨n + 4,[n + 4,n + 2,n + 3,n,n + 1],_,_,H1,rfl,I2,F3 S1 S2 l1 l2 _ _ _ _ _ (by simp),⟨g5,g3,⟨_,_,g4⟩,S1.mkI g1 rfl rfl,S2.mkI g2 rfl rfl⟩,fun c hc=>?_,q⟩
 have hc':s1.heap.objs.size<=c:=by
  rw [hn]
  simp only [LI,MQ,or_false] at hc
  rcases hc with rfl | rfl | rfl | rfl | rfl
  ·exact Ny _ _
  ·exact Ny _ _
  ·exact Ny _ _
  ·exact LH _
  ·exact Ny _ _
 exact I1.fpOk hc' (I1.hok.fresh hc')
end
end
section
open PySem.Spec
section
variable {X:Cx}
noncomputable def HG (K:Fg):R2:=fun x y H Q=>∃ a b xs ys,x=.ref a/\y=.ref b/\SqT K H a xs/\SqT K H b ys/\xs.length + ys.length<=LS/\
 (xs=[]->Q (.ref b) H)/\(xs≠[]->ys=[]->Q (.ref a) H)/\(xs≠[]->ys≠[]->∀ p,H p=none->Q (.ref p) (upd H p (.tup (xs++ys))))
theorem Ip:OpR X (OD .Add) (HG X.K):=by
 intro pins s σ H x y v u Q I rx ry h
 obtain ⟨a,b,xs,ys,rfl,rfl,ha,hb,hz,q0,q1,q2⟩:=h
 by_cases hx:xs=[]
 ·cases rx
  cases ry
  obtain ⟨its,r1,p1,_⟩:=I.tuple ha
  obtain ⟨its2,r2,p2,_⟩:=I.tuple hb
  obtain ⟨⟨cls,dd,data,sl⟩,ho,hc,n,hd⟩:=id p1
  obtain ⟨⟨cls2,dd2,data2,sl2⟩,ho2,hc2,n2,hd2⟩:=id p2
  simp only at hc hd hc2 hd2
  subst hc hd hc2 hd2
  have e:its=[]:=r1.nil_iff.mpr hx
  exact Tp ⟨_,ho,rfl⟩ ⟨_,ho2,rfl⟩ RB SX P3 PQ (Pt _ _)
   (tuple_addW0 a b its.toArray its2.toArray n n2 dd dd2 sl sl2 (by simp [e])) ⟨ho,ho2,⟨.ref b,H,I,rfl,q0 hx⟩⟩
 ·exact Ij pins s σ H _ _ v u Q I rx ry ⟨a,b,xs,ys,rfl,rfl,ha,hb,hx,hz,q1 hx,q2 hx⟩
theorem xQ {x:V}:∀ {xs:List V} {us:List Value},aH xs us->xs.all gA=true->us.countP (eqU x)=xs.countP fun y=>eqV y x
 | _,_,.nil,_=>rfl
 | y :: xs,u :: us,.cons r t,f=>by
  rw [Ph,Nc] at f
  rw [Um,Um,Ep r f.1,xQ t f.2]
noncomputable def tBT (r:V->List V->Hp->VK->Prop) (to:TE) (t:TA):TE:=fun σ H Q=>to σ H fun x H1=>(∃ a xs,x=.ref a/\H1 a=some (.tup xs))/\t σ H1 fun xs H2=>r x xs H2 Q
theorem KP {o e:Expr} {es:List Expr} {to:TE} {t:TA} {name:Str} {apos cpos:Pos} {id:String} {r:V->List V->Hp->VK->Prop} (pa:PlainAttrs "tuple") (slot:Slot "tuple" name id) (hty:typeOf (.builtin id)=pure (.type "method_descriptor")) (hm:MtR X id r) (ho:PE X o to) (ha:PA X (e :: es) t)
  (hbase:Pg o name X.env (eval o X.env)=eval o X.env:=by rfl)
  (hfew:((backTo cpos (L9 (e :: es) X.env)).all (fun x=>!x.1) && (Pc cpos (Ow [] X.env)).all (fun x=>x.1.isSome)
   && decide ((e :: es).length + ([]:List Keyword).length + (if ([]:List Keyword).isEmpty then 0 else 1) < 30))=true:=by rfl)
  (hline:(apos.endLine == cpos.line)=true:=by rfl) (hs:L9 (e :: es) X.env=(false,eval e X.env) :: L9 es X.env:=by rfl) (hplain:(backTo cpos (L9 es X.env)).any (·.1)=false:=by rfl):
  PE X (.Call (.Attribute o name apos) (e :: es) [] cpos) (tBT r to t):=by
 intro pins s σ H Q I h
 refine P4 hbase hfew hline rfl (thn (ho pins s σ H _ I h) fun v s1 ⟨x,H1,I1,r1,ty,q1⟩=>?_)
 obtain ⟨a,xs,rfl,hx⟩:=ty
 cases r1
 obtain ⟨_,its,_,o',ho',hc',_,hd'⟩:=I1.hok a _ hx
 refine ⟨"tuple",id,pa,slot,hty,⟨o',ho',hc'⟩,fun b e=>?_,?_⟩
 ·cases e
  exact ⟨o',ho',hd'⟩
 have hA:=ha cpos pins s1 σ H1 _ I1 q1
 rw [hs] at hA ⊢
 refine P7 (by show (false || (backTo cpos (L9 es X.env)).any (·.1))=false; rw [hplain] <;> rfl) (Qq ?_)
 exact thn hA fun us s2 ⟨vs,H2,I2,r2,q2⟩=>hm pins s2 σ H2 (.ref a) vs (.ref a) us Q I2 rfl r2 q2
noncomputable def BT:V->List V->Hp->VK->Prop:=fun x vs H Q=>∃ l xs y,x=.ref l/\vs=[y]/\H l=some (.tup xs)/\gA y=true/\xs.all gA=true/\Q (.int (xs.countP fun z=>eqV z y:Nat)) H
theorem EE:MtR X "tuple.count" BT:=by
 intro pins s σ H x vs v us Q I rx rv h
 obtain ⟨l,xs,y,rfl,rfl,hH,fy,fx,q⟩:=h
 cases rx
 obtain ⟨u,rfl,ru⟩:=rv.one
 obtain ⟨_,its,r,⟨cls,dd,data,sl⟩,ho,hc,⟨n,hd⟩,hdd⟩:=I.hok l _ hH
 simp only at hc hd hdd
 subst hc hd hdd
 refine Qr RG ⟨_,ho,rfl⟩ PySem.F.entry_tuple_count (PySem.F.args_tuple_count_2 _ _) (SeqAt.tuple_countAt l its.toArray n none sl u (eqU y)) ⟨ho,fun z hz=>sZ ru fy r fx z (by simpa using hz),?_⟩
 refine ⟨.int (xs.countP fun z=>eqV z y:Nat),H,I.tok _,⟨s.toks,?_⟩,q⟩
 show OL ((its.toArray.toList.countP (eqU y):Nat):Int) s.toks=_
 rw [show its.toArray.toList=its from rfl,xQ r fx]
theorem qr (hc:X.calm=true):dc X (.builtin "max") (fun xs H Q=>∃ (p:Addr) (ns:List Int),xs=[.ref p]/\SqL X.K H p (ns.map V.int)/\ns≠[]/\∀ M,M∈ns->(∀ a∈ns,a<=M)->Q (.int M) H):=by
 intro pins s σ H xs us Q I r h
 obtain ⟨p,ns,rfl,hq,hne,q⟩:=h
 obtain ⟨u,rfl,rx⟩:=r.one
 cases rx
 obtain ⟨its,rv,pl,hz⟩:=I.list hq
 have hi:=kF rv
 obtain ⟨zs,ez⟩:=(hi.allInts).items
 have hl:s.heap.IsList p (Qe zs):=by rw [<-ez]; exact pl.isList
 have hnum:zs.toList.map (·.1)=ns:=by
  rw [<-nums_intItems,<-ez]
  exact hi.numsOf
 have hsz:zs.size=ns.length:=by rw [<-hnum]; simp
 have hpos:0 < zs.size:=by
  rw [hsz]
  exact QF.mpr hne
 refine max_intList (I.ok.hd hc) hl hpos fun v h' tk hv hk=>?_
 obtain ⟨t,rfl⟩:=T7 hv
 obtain ⟨h1,h2⟩:=argBest_gt (numAt zs) (zs.size - 1)
 refine ⟨.int _,H,I.kept hk,⟨t,rfl⟩,q _ ?_ fun a ha=>?_⟩
 ·rw [Uo,hnum]
  exact getD_mem (by omega)
 ·rw [<-hnum] at ha
  obtain ⟨j,hj,rfl⟩:=mem_getD ha
  rw [LF,Mp] at hj
  rw [<-Uo]
  exact h2 j (by omega)
noncomputable def zK:V->List V->Hp->VK->Prop:=fun x vs H Q=>∃ (l:Addr) (ns:List Int) (m:Int) (j:Nat),x=.ref l/\vs=[.int m]/\H l=some (.lst (ns.map V.int))/\ns[j]?=some m/\(∀ i,i < j->ns[i]?≠some m)/\j<=1000/\Q (.int j) H
theorem F4:MtR X "list.index" zK:=by
 intro pins s σ H x vs v us Q I rx rv h
 obtain ⟨l,ns,m,j,rfl,rfl,hH,hj,hno,h1000,q⟩:=h
 cases rx
 obtain ⟨u,rfl,t,rfl⟩:=rv.one
 obtain ⟨z,its,n,r,hl,e⟩:=I.lstM hH
 have at_:∀ (i:Nat) (hi:i < its.toArray.size),∃ k t',ns[i]?=some k/\its.toArray[i]=.int k t':=fun i hi=>by
  have hi':i < ns.length:=by
   rw [LF] at hl
   have:i < its.length:=by simpa using hi
   omega
  obtain ⟨w',hw,rw'⟩:=r.get (i:=i) (x:=.int ns[i]) (by rw [LU,LD hi'] <;> rfl)
  obtain ⟨t',e'⟩:=(show ∃ t',w'=OL ns[i] t' from rw')
  have:=(LJ.mp hw).2
  exact ⟨ns[i],t',LD hi',by rw [<-e']; simpa using this⟩
 have hjs:j < its.toArray.size:=by
  have:=(LJ.mp hj).1
  rw [LF] at hl
  simp only [L5]
  omega
 refine Qr RN ⟨_,e,rfl⟩ PySem.F.entry_list_index (PySem.F.args_list_index_2 _ _) (SeqAt.list_indexAt l its.toArray n none #[] (.int m t) (eqU (.int m)) j hjs (by omega) ?_ ?_) ⟨e,fun y hy=>?_,?_⟩
 ·obtain ⟨k,t',e1,e2⟩:=at_ j hjs
  rw [e2]
  rw [hj] at e1
  cases e1
  exact beq_self_eq_true m
 ·intro i hi hlt
  obtain ⟨k,t',e1,e2⟩:=at_ i hi
  rw [e2]
  show (k == m)=false
  exact beq_eq_false_iff_ne.mpr fun z=>hno i hlt (by rw [e1,z])
 ·exact sZ (x:=.int m) ⟨t,rfl⟩ rfl r (by rw [Qs]; simp [gA]) y (by simpa using hy)
 ·exact ⟨.int j,H,I.tok _,⟨_,rfl⟩,q⟩
end
end
end L2
section
namespace L2
open PySem
section
variable {σ:St} {H:Hp} {Q:VK} {D:jq} {K:Fg}
theorem bR {t u:TS} (h:t { nx:=u D,rt:=D.rt,bk:=D.bk,ct:=D.ct } σ H):ap t u D σ H:=h
theorem kX {t u:TS} (h:∀ NX:St->Hp->Prop,(∀ σ H,u D σ H->NX σ H)->t { nx:=NX,rt:=D.rt,bk:=D.bk,ct:=D.ct } σ H):ap t u D σ H:=h _ fun _ _ h=>h
theorem EF (h:D.nx σ H):aZ D σ H:=h
theorem kI {te:TE} {g:TG} (h:te σ H fun x H1=>g x σ H1 D.nx):aE te g D σ H:=h
theorem KQ {te:TE} (h:te σ H D.rt):aI te D σ H:=h
theorem JR (h:D.rt .non H):KJ D σ H:=h
theorem JS {te:TE} (h:te σ H fun _ H1=>D.nx σ H1):ee te D σ H:=h
theorem HH {c:TT} {t u:TS} (h:c σ H fun b H1=>if b=true then t D σ H1 else u D σ H1):bq c t u D σ H:=h
theorem Iq (h:D.bk σ H):JE D σ H:=h
theorem JT (h:D.ct σ H):KI D σ H:=h
theorem j4 {i:Nat} {v:V} {R:St->Hp->Prop} (h:R (σ.set i (some v)) H):aj i v σ H R:=h
theorem JU {to ti:TE} {t:Cl} {v:V} {R:St->Hp->Prop} (h:to σ H fun o H1=>ti σ H1 fun i H2=>t o i v H2 fun H3=>R σ H3):oq to ti t v σ H R:=h
theorem nD {p:Addr} {xs:List V} {k:Int} {v:V} {R:Hp->Prop} {j:Nat} (e:H p=some (.lst xs)) (hj:ixN xs.length k=some j) (h:R (upd H p (.lst (xs.set j v)))):kG (.ref p) (.int k) v H R:=⟨p,xs,k,j,rfl,rfl,e,hj,h⟩
theorem oC {i:Nat} {v:V} (e:σ[i]?=some (some v)) (h:Q v H):ac i σ H Q:=⟨v,e,h⟩
theorem r_c {v:V} (h:Q v H):tC v σ H Q:=h
theorem tm {r:R2} {ta tb:TE} (h:ta σ H fun x H1=>tb σ H1 fun y H2=>r x y H2 Q):tOp r ta tb σ H Q:=h
theorem Ln {r:V->Hp->VK->Prop} {ta:TE} (h:ta σ H fun x H1=>r x H1 Q):tUn r ta σ H Q:=h
theorem Lo {g:Int->Int->V} {i j:Int} (h:Q (g i j) H):rI0 g (.int i) (.int j) H Q:=⟨i,j,rfl,rfl,h⟩
theorem r_I {C:Int->Int->Prop} {g:Int->Int->V} {i j:Int} (c:C i j) (h:Q (g i j) H):rI C g (.int i) (.int j) H Q:=⟨i,j,rfl,rfl,c,h⟩
theorem r_U {g:Int->V} {i:Int} (h:Q (g i) H):rU g (.int i) H Q:=⟨i,rfl,h⟩
theorem KR {i j:Int} (h:Q (.bl (decide (i=j))) H):rEq (.int i) (.int j) H Q:=⟨rfl,by rw [show decide (V.int i=V.int j)=decide (i=j) from decide_eq_decide.mpr ⟨fun e=>by injection e,fun e=>by rw [e]⟩]; exact h⟩
theorem KS {i j:Int} (h:Q (.bl (!decide (i=j))) H):rNe (.int i) (.int j) H Q:=⟨rfl,by rw [show decide (V.int i=V.int j)=decide (i=j) from decide_eq_decide.mpr ⟨fun e=>by injection e,fun e=>by rw [e]⟩]; exact h⟩
theorem KT {i j:Bool} (h:Q (.bl (i == j)) H):rEq (.bl i) (.bl j) H Q:=⟨rfl,by rw [show decide (V.bl i=V.bl j)=(i == j) by cases i <;> cases j <;> rfl]; exact h⟩
theorem KU {i j:Bool} (h:Q (.bl (!(i == j))) H):rNe (.bl i) (.bl j) H Q:=⟨rfl,by rw [show decide (V.bl i=V.bl j)=(i == j) by cases i <;> cases j <;> rfl]; exact h⟩
theorem JV {t:TE} {R:Bool->Hp->Prop} (h:t σ H fun x H'=>∃ k,x=.bl k/\R k H'):aX t σ H R:=h
theorem Lp {t:TE} {R:Bool->Hp->Prop} (h:t σ H fun x H'=>∃ k,x=.bl k/\R k H'):tB t σ H R:=h
theorem Lq {b:Bool} {R:Bool->Prop} (h:R b):∃ k,V.bl b=.bl k/\R k:=⟨b,rfl,h⟩
theorem KW {t u:TT} {R:Bool->Hp->Prop} (h:t σ H fun c H1=>if c=true then u σ H1 R else R false H1):qc t u σ H R:=h
theorem Lr {t u:TT} {R:Bool->Hp->Prop} (h:t σ H fun c H1=>if c=true then R true H1 else u σ H1 R):tOr t u σ H R:=h
theorem KY {t:TT} {R:Bool->Hp->Prop} (h:t σ H fun c H1=>R (!c) H1):fS t σ H R:=h
theorem JW {ta tb:TE} (h:ta σ H fun x H1=>∃ c,x=.bl c/\if c=true then tb σ H1 Q else Q (.bl false) H1):on ta tb σ H Q:=h
theorem KZ {ta tb:TE} (h:ta σ H fun x H1=>∃ c,x=.bl c/\if c=true then Q (.bl true) H1 else tb σ H1 Q):FM ta tb σ H Q:=h
theorem JX {ta:TE} (h:ta σ H fun x H1=>∃ c,x=.bl c/\Q (.bl (!c)) H1):yX ta σ H Q:=h
theorem Ls {t:TT} {ta tb:TE} (h:t σ H fun c H1=>if c=true then ta σ H1 Q else tb σ H1 Q):tIf t ta tb σ H Q:=h
theorem Ir {r r':R2} {ta tb tc:TE} (h:ta σ H fun x H1=>tb σ H1 fun y H2=>r x y H2 fun z H3=>∃ k,z=.bl k/\(if k=true then tc σ H3 fun w' H4=>r' y w' H4 Q else Q (.bl false) H3)):zx r r' ta tb tc σ H Q:=h
theorem HI {R:List V->Hp->Prop} (h:R [] H):af σ H R:=h
theorem EG {ta:TE} {tr:TA} {R:List V->Hp->Prop} (h:ta σ H fun x H1=>tr σ H1 fun xs H2=>R (x :: xs) H2):aa ta tr σ H R:=h
theorem JY {sp:Sp} {E:XK} {t:TA} (h:t σ H fun vs H1=>sp vs H1 Q E):av sp [] E t σ H Q:=by
 show t σ H fun vs H1=>sp (vs++[]) H1 Q E
 simpa only [NH] using h
theorem Lu {r:List V->Hp->VK->Prop} {t:TA} (h:t σ H fun vs H1=>r vs H1 Q):tCB r t σ H Q:=h
theorem Lv {T:String} {r:V->List V->Hp->VK->Prop} {to:TE} {t:TA} (h:to σ H fun x H1=>tyV K T x H1/\t σ H1 fun xs H2=>r x xs H2 Q):tBM K T r to t σ H Q:=h
theorem K0 {T:String} {r:V->List V->Hp->VK->Prop} {to:TE} (h:to σ H fun x H1=>tyV K T x H1/\r x [] H1 Q):Ll K T r to σ H Q:=h
theorem Lw {r:V->List V->Hp->VK->Prop} {to:TE} {t:TA} (h:to σ H fun x H1=>(∃ a xs,x=.ref a/\H1 a=some (.tup xs))/\t σ H1 fun xs H2=>r x xs H2 Q):tBT r to t σ H Q:=h
theorem Lx {r:V->Option Int->Option Int->Hp->VK->Prop} {te:TE} {tl th:TO} (h:te σ H fun x H1=>tl σ H1 fun l H2=>th σ H2 fun u H3=>r x l u H3 Q):tSl r te tl th σ H Q:=h
theorem F5 {R:Option Int->Hp->Prop} (h:R none H):ny σ H R:=h
theorem JZ {t:TE} {R:Option Int->Hp->Prop} (h:t σ H fun x H1=>∃ i,x=.int i/\R (some i) H1):um t σ H R:=h
theorem K1 {i:Int} {R:Int->Prop} (h:R i):∃ j,V.int i=.int j/\R j:=⟨i,rfl,h⟩
theorem K2 {wi:TI} {g:TG} {tb:TS} (h:wi σ H fun J H1=>∃ W:Nat->Nat->St->Hp->Prop,(∃ m,W 0 m σ H1)/\∀ i m σ H,W i m σ H->
  (J.stop i H/\D.nx σ H)\/(J.go i H/\∃ N:St->Hp->Prop,(∀ σ' H',N σ' H'->∃ m',m' < m/\W (i + 1) m' σ' H')/\∀ x H',J.yld i H x H'->g x σ H' fun σ2 H2=>tb { D with nx:=N,ct:=N,bk:=D.nx } σ2 H2)):cu wi g tb D σ H:=h
theorem J0 {wi:TI} {g:CF TG} {tt:CF TT} {te:CF TE} {ix:List (Option Nat)} (h:wi σ H fun J H1=>∀ p,H1 p=none->
  ∃ W:Nat->Nat->List V->Hp->Prop,(∃ m,W 0 m [] (upd H1 p (.lst [])))/\∀ C s' H' fp,cK J (g C s' H' fp) (tt C s' H' fp) (te C s' H' fp) (sub ix σ) p Q W):bT wi g tt te ix σ H Q:=h
section
variable {R:It->Hp->Prop}
theorem Iu {tl:TE} (h:tl σ H fun x H1=>∃ a,x=.ref a/\(∃ xs,SqL K H1 a xs)/\R (Itl K a) H1):dt K tl σ H R:=h
theorem J1 {tl:TE} (h:tl σ H fun x H1=>∃ a,x=.ref a/\(∃ xs,SqT K H1 a xs)/\R (Itt K a) H1):wx K tl σ H R:=h
theorem Iv {ta:TA} (h:ta σ H fun vs H1=>∃ j:Int,vs=[.int j]/\-(2 ^ 62)<=j/\j < 2 ^ 62/\R (Itr 0 j.toNat) H1):cD ta σ H R:=h
theorem Iw {ta:TA} (h:ta σ H fun vs H1=>∃ i j:Int,vs=[.int i,.int j]/\(-(2 ^ 62)<=i/\i < 2 ^ 62/\-(2 ^ 62)<=j/\j < 2 ^ 62)/\R (Itr i (j - i).toNat) H1):KK ta σ H R:=h
theorem Ix {S:Src} {ta:TA} (h:ta σ H fun vs H1=>∃ a xs,vs=[.ref a]/\S.Sq K H1 a xs/\R (Ite S K a) H1):lX S K ta σ H R:=h
theorem J2 {S1 S2:Src} {ta:TA} (h:ta σ H fun vs H1=>∃ a b xs ys,vs=[.ref a,.ref b]/\S1.Sq K H1 a xs/\S2.Sq K H1 b ys/\R (Itz S1 S2 K a b) H1):qq S1 S2 K ta σ H R:=h
end
noncomputable def Off (l:Addr) (H H':Hp):Prop:=∀ b,b≠l->H' b=H b
theorem iG {l:Addr} {o:HO}:Off l H (upd H l o):=fun b hb=>aS hb
theorem am.off {H0 H':Hp} {l:Addr} (s:am H0 H) (h:H0 l=none) (o:Off l H H'):am H0 H':=fun b u q=>by rw [o b (aV q h)]; exact s b u q
noncomputable def gU (H H':Hp):Prop:=∀ b xs,H b=some (.tup xs)->H' b=some (.tup xs)
theorem am.keep {H':Hp} (s:am H H'):gU H H':=fun b _ h=>s b _ h
theorem Off.keep {H':Hp} {l:Addr} {xs:List V} (o:Off l H H') (e:H l=some (.lst xs)):gU H H':=fun b ys q=>by
 rw [o b (HD q e (by intro z; cases z))]
 exact q
theorem J3 {t:TA} (h:t σ H fun xs H1=>xs.length<=LS/\∀ p,H1 p=none->Q (.ref p) (upd H1 p (.tup xs))):Cu t σ H Q:=h
theorem J4 {t:TA} (h:t σ H fun xs H1=>xs.length<=LS/\∀ p,H1 p=none->Q (.ref p) (upd H1 p (.lst xs))):zz t σ H Q:=h
theorem li {l:Addr} {xs:List V} {y:V} (e:H l=some (.lst xs)) (hz:xs.length < LS) (h:∀ H',Off l H H'->H' l=some (.lst (xs++[y]))->Q .non H'):iF (.ref l) [y] H Q:=⟨l,xs,y,rfl,rfl,e,hz,h _ iG aA⟩
theorem y6 {l:Addr} {xs:List V} (e:H l=some (.lst xs)):tyV K "list" (.ref l) H:=.inl ⟨rfl,xs,SqL.of e⟩
theorem bK {l:Addr} {xs:List V} {i:Int} {v:V} (e:SqL K H l xs) (hv:atI xs i=some v) (h:Q v H):bY K (.ref l) (.int i) H Q:=⟨l,xs,i,v,rfl,rfl,e,hv,h⟩
theorem bv {l:Addr} {xs:List V} {i:Int} {v:V} (e:SqT K H l xs) (hv:atI xs i=some v) (h:Q v H):cV K (.ref l) (.int i) H Q:=⟨l,xs,i,v,rfl,rfl,e,hv,h⟩
end
theorem bZ {p A B:Prop} [Decidable p] (h1:p->A) (h2:¬ p->B):if decide p=true then A else B:=by
 by_cases h:p
 ·rw [if_pos (decide_eq_true h)]; exact h1 h
 ·rw [if_neg (by rw [decide_eq_false h]; exact LR)]; exact h2 h
theorem tq {p A B:Prop} [Decidable p] (h1:¬ p->A) (h2:p->B):if (!decide p)=true then A else B:=by
 by_cases h:p
 ·rw [if_neg (by rw [decide_eq_true h]; exact LR)]; exact h2 h
 ·rw [if_pos (by rw [decide_eq_false h]; rfl)]; exact h1 h
theorem d4 {p A B:Prop} [Decidable p] (h:p) (h1:A):if decide p=true then A else B:=bZ (fun _=>h1) (fun n=>absurd h n)
theorem aW {p A B:Prop} [Decidable p] (h:¬ p) (h1:B):if decide p=true then A else B:=bZ (fun n=>absurd n h) (fun _=>h1)
theorem Cz {A B:Prop} (h:B):if (!true)=true then A else B:=by exact ox h
theorem K3 {A B:Prop} (h:A):if (!false)=true then A else B:=by exact ql h
theorem F6 {σ:St} {H:Hp} {R:Bool->Hp->Prop} (h:R true H):bB σ H R:=h
theorem y7 {B:(St->Hp->Prop)->Prop} {R:St->Hp->Prop} (h:B R):∃ N:St->Hp->Prop,(∀ σ' H',N σ' H'->R σ' H')/\B N:=⟨R,fun _ _ h=>h,h⟩
theorem y8 {c:TT} {tb:TS} {D:jq} {σ:St} {H:Hp} (W:Nat->St->Hp->Prop) (m:Nat) (h0:W m σ H) (h:∀ m σ H,W m σ H->c σ H fun b H1=>if b=true then ∃ N:St->Hp->Prop,(∀ σ' H',N σ' H'->∃ m',m' < m/\W m' σ' H')/\tb { D with nx:=N,ct:=N,bk:=D.nx } σ H1 else D.nx σ H1):
  lf c tb D σ H:=⟨W,⟨m,h0⟩,h⟩
noncomputable def bV (K:Fg):List V->Hp->VK->Prop:=fun xs H Q=>∃ p ys,xs=[.ref p]/\(SqL K H p ys\/SqT K H p ys)/\Q (.int ys.length) H
noncomputable def tz (K:Fg):List V->Hp->VK->Prop:=fun xs H Q=>∃ (p:Addr) (ns:List Int),xs=[.ref p]/\SqL K H p (ns.map V.int)/\Q (.int ns.sum) H
noncomputable def CA (K:Fg):List V->Hp->VK->Prop:=fun xs H Q=>∃ (p:Addr) (bs:List Bool),xs=[.ref p]/\SqL K H p (bs.map V.bl)/\Q (.bl (bs.all id)) H
noncomputable def wD (K:Fg):List V->Hp->VK->Prop:=fun xs H Q=>∃ (p:Addr) (ns:List Int),xs=[.ref p]/\SqL K H p (ns.map V.int)/\ns≠[]/\∀ M,M∈ns->(∀ a∈ns,a<=M)->Q (.int M) H
noncomputable def CB:List V->Hp->VK->Prop:=fun xs H Q=>∃ i j,xs=[.int i,.int j]/\Q (.int (if j < i then j else i)) H
noncomputable def HJ:List V->Hp->VK->Prop:=fun xs H Q=>∃ i j,xs=[.int i,.int j]/\Q (.int (if j > i then j else i)) H
noncomputable def F7:List V->Hp->VK->Prop:=fun xs H Q=>(∃ i,xs=[.int i]/\Q (.int i) H)\/∃ k,xs=[.bl k]/\Q (.int (if k then 1 else 0)) H
noncomputable def J5 (K:Fg):List V->Hp->VK->Prop:=fun xs H Q=>∃ p ys,xs=[.ref p]/\((SqL K H p ys/\∀ l,H l=none->Q (.ref l) (upd H l (.tup ys)))\/(SqT K H p ys/\Q (.ref p) H))
section
variable {K:Fg} {H:Hp} {Q:VK}
theorem gB {l:Addr} {ys:List V} (e:SqL K H l ys) (h:Q (.int ys.length) H):bV K [.ref l] H Q:=⟨l,ys,rfl,.inl e,h⟩
theorem BU {l:Addr} {ys:List V} (e:SqT K H l ys) (h:Q (.int ys.length) H):bV K [.ref l] H Q:=⟨l,ys,rfl,.inr e,h⟩
theorem CC {l:Addr} {ns:List Int} (e:SqL K H l (ns.map V.int)) (h:Q (.int ns.sum) H):tz K [.ref l] H Q:=⟨l,ns,rfl,e,h⟩
theorem J6 {i j:Int} (h:Q (.int (if j < i then j else i)) H):CB [.int i,.int j] H Q:=⟨i,j,rfl,h⟩
theorem J7 {i j:Int} (h:Q (.int (if j > i then j else i)) H):HJ [.int i,.int j] H Q:=⟨i,j,rfl,h⟩
theorem J8 {i:Int} (h:Q (.int i) H):F7 [.int i] H Q:=.inl ⟨i,rfl,h⟩
theorem J9 {k:Bool} (h:Q (.int (if k then 1 else 0)) H):F7 [.bl k] H Q:=.inr ⟨k,rfl,h⟩
end
noncomputable def New (H:Hp) (o:HO) (Q:Addr->Hp->Prop):Prop:=∀ p H',H p=none->am H H'->H' p=some o->Q p H'
theorem New.upd {H:Hp} {o:HO} {Q:Addr->Hp->Prop} (h:New H o Q):∀ p,H p=none->Q p (upd H p o):=fun p hp=>h p _ hp (ba hp _) aA
noncomputable def cG (t:TA):TE:=fun σ H Q=>t σ H fun xs H1=>xs.length<=LS/\New H1 (.tup xs) fun p H2=>Q (.ref p) H2
noncomputable def fT (t:TA):TE:=fun σ H Q=>t σ H fun xs H1=>xs.length<=LS/\New H1 (.lst xs) fun p H2=>Q (.ref p) H2
noncomputable def tD:R2:=fun x y H Q=>∃ l b xs zs,x=.ref l/\y=.ref b/\H l=some (.lst xs)/\H b=some (.lst zs)/\xs.length + zs.length<=LS/\New H (.lst (xs++zs)) fun p H2=>Q (.ref p) H2
noncomputable def CD:R2:=fun x y H Q=>∃ l k xs,x=.ref l/\y=.int k/\H l=some (.lst xs)/\-(2 ^ 63)<=k/\k < 2 ^ 63/\xs.length * k.toNat<=LS/\New H (.lst (Mo k.toNat xs).flatten) fun p H2=>Q (.ref p) H2
noncomputable def iM (K:Fg):List V->Hp->VK->Prop:=fun xs H Q=>∃ p ys,xs=[.ref p]/\(SqL K H p ys\/SqT K H p ys)/\New H (.lst ys) fun l H2=>Q (.ref l) H2
noncomputable def wE (K:Fg):List V->Hp->VK->Prop:=fun xs H Q=>∃ p ys,xs=[.ref p]/\SqL K H p ys/\New H (.tup ys) fun l H2=>Q (.ref l) H2
section
variable {σ:St} {H:Hp} {Q:VK} {K:Fg}
theorem K4 {t:TA} (h:t σ H fun xs H1=>xs.length<=LS/\New H1 (.tup xs) fun p H2=>Q (.ref p) H2):cG t σ H Q:=h
theorem rC {t:TA} (h:t σ H fun xs H1=>xs.length<=LS/\New H1 (.lst xs) fun p H2=>Q (.ref p) H2):fT t σ H Q:=h
theorem ux {l b:Addr} {xs zs:List V} (h1:H l=some (.lst xs)) (h2:H b=some (.lst zs)) (hz:xs.length + zs.length<=LS) (h:∀ p H',H p=none->am H H'->H' p=some (.lst (xs++zs))->Q (.ref p) H'):tD (.ref l) (.ref b) H Q:=⟨l,b,xs,zs,rfl,rfl,h1,h2,hz,h⟩
theorem lj {p:Addr} {ys:List V} (e:SqL K H p ys) (h:∀ l H',H l=none->am H H'->H' l=some (.lst ys)->Q (.ref l) H'):iM K [.ref p] H Q:=⟨p,ys,rfl,.inl e,h⟩
theorem Iy {p:Addr} {ys:List V} (e:SqL K H p ys) (h:∀ l H',H l=none->am H H'->H' l=some (.tup ys)->Q (.ref l) H'):wE K [.ref p] H Q:=⟨p,ys,rfl,e,h⟩
end
section
variable {g:TG} {tb:TS} {NX:St->Hp->Prop} {RT:VK} {σ:St} {H:Hp} {K:Fg}
theorem eG {j:Int} (n:Nat) (hn:j.toNat=n) (hj:j<=1000000000) (hj0:-1000000000<=j) (Pv:Nat->St->Hp->Prop) (h0:Pv 0 σ H) (hs:∀ i σ H,i < n->Pv i σ H->g (.int i) σ H fun σ2 H2=>tb { nx:=Pv (i + 1),rt:=RT,bk:=NX,ct:=Pv (i + 1) } σ2 H2) (hd:∀ σ H,Pv n σ H->NX σ H):
  ∃ j':Int,[V.int j]=[.int j']/\-(2 ^ 62)<=j'/\j' < 2 ^ 62/\∃ W:Nat->Nat->St->Hp->Prop,(∃ m,W 0 m σ H)/\∀ i m σ H,W i m σ H->
   ((Itr 0 j'.toNat).stop i H/\NX σ H)\/((Itr 0 j'.toNat).go i H/\∃ N:St->Hp->Prop,(∀ σ' H',N σ' H'->∃ m',m' < m/\W (i + 1) m' σ' H')/\∀ x H',(Itr 0 j'.toNat).yld i H x H'->g x σ H' fun σ2 H2=>tb { nx:=N,rt:=RT,bk:=NX,ct:=N } σ2 H2):=by
 refine ⟨j,rfl,by omega,by omega,?_⟩
 subst hn
 exact qg (lo:=0) (D:={ nx:=NX,rt:=RT }) Pv h0 (fun i σ H hi p=>by rw [RH]; exact hs i σ H hi p) hd
theorem nE {a:Addr} (xs:List V) (hx:SqL K H a xs) (Pv:Nat->St->Hp->Prop) (h0:Pv 0 σ H) (hl:∀ i σ H,i<=xs.length->Pv i σ H->SqL K H a xs) (hs:∀ i x σ H,xs[i]?=some x->Pv i σ H->g x σ H fun σ2 H2=>tb { nx:=Pv (i + 1),rt:=RT,bk:=NX,ct:=Pv (i + 1) } σ2 H2) (hd:∀ σ H,Pv xs.length σ H->NX σ H):
  ∃ a',V.ref a=.ref a'/\(∃ xs,SqL K H a' xs)/\∃ W:Nat->Nat->St->Hp->Prop,(∃ m,W 0 m σ H)/\∀ i m σ H,W i m σ H->
   ((Itl K a').stop i H/\NX σ H)\/((Itl K a').go i H/\∃ N:St->Hp->Prop,(∀ σ' H',N σ' H'->∃ m',m' < m/\W (i + 1) m' σ' H')/\∀ x H',(Itl K a').yld i H x H'->g x σ H' fun σ2 H2=>tb { nx:=N,rt:=RT,bk:=NX,ct:=N } σ2 H2):=
 ⟨a,rfl,⟨xs,hx⟩,sU (D:={ nx:=NX,rt:=RT }) Pv h0 hl hs hd⟩
theorem zL {a:Addr} (xs:List V) (hx:SqT K H a xs) (Pv:Nat->St->Hp->Prop) (h0:Pv 0 σ H) (hl:∀ i σ H,i<=xs.length->Pv i σ H->SqT K H a xs) (hs:∀ i x σ H,xs[i]?=some x->Pv i σ H->g x σ H fun σ2 H2=>tb { nx:=Pv (i + 1),rt:=RT,bk:=NX,ct:=Pv (i + 1) } σ2 H2) (hd:∀ σ H,Pv xs.length σ H->NX σ H):
  ∃ a',V.ref a=.ref a'/\(∃ xs,SqT K H a' xs)/\∃ W:Nat->Nat->St->Hp->Prop,(∃ m,W 0 m σ H)/\∀ i m σ H,W i m σ H->
   ((Itt K a').stop i H/\NX σ H)\/((Itt K a').go i H/\∃ N:St->Hp->Prop,(∀ σ' H',N σ' H'->∃ m',m' < m/\W (i + 1) m' σ' H')/\∀ x H',(Itt K a').yld i H x H'->g x σ H' fun σ2 H2=>tb { nx:=N,rt:=RT,bk:=NX,ct:=N } σ2 H2):=
 ⟨a,rfl,⟨xs,hx⟩,HZ (D:={ nx:=NX,rt:=RT }) Pv h0 hl hs hd⟩
theorem rD {S:Src} {a:Addr} (xs:List V) (hx:S.Sq K H a xs) (Pv:Nat->St->Hp->Prop) (h0:Pv 0 σ H) (hl:∀ i σ H,i<=xs.length->Pv i σ H->S.Sq K H a xs)
  (hs:∀ i x T σ H H',xs[i]?=some x->Pv i σ H->H T=none->am H H'->H' T=some (.tup [.int i,x])->g (.ref T) σ H' fun σ2 H2=>tb { nx:=Pv (i + 1),rt:=RT,bk:=NX,ct:=Pv (i + 1) } σ2 H2) (hd:∀ σ H,Pv xs.length σ H->NX σ H):
  ∃ a' xs',[V.ref a]=[.ref a']/\S.Sq K H a' xs'/\∃ W:Nat->Nat->St->Hp->Prop,(∃ m,W 0 m σ H)/\∀ i m σ H,W i m σ H->
   ((Ite S K a').stop i H/\NX σ H)\/((Ite S K a').go i H/\∃ N:St->Hp->Prop,(∀ σ' H',N σ' H'->∃ m',m' < m/\W (i + 1) m' σ' H')/\∀ x H',(Ite S K a').yld i H x H'->g x σ H' fun σ2 H2=>tb { nx:=N,rt:=RT,bk:=NX,ct:=N } σ2 H2):=
 ⟨a,xs,rfl,hx,zH (D:={ nx:=NX,rt:=RT }) Pv h0 hl (fun i x T σ H e p hT=>hs i x T σ H _ e p hT (ba hT _) aA) hd⟩
end
theorem zM {α:Type} [DecidableEq α]:∀ {xs:List α} {m:α},m∈xs->∃ j:Nat,xs[j]?=some m/\∀ i:Nat,i < j->xs[i]?≠some m
 | x :: r,m,h=>by
  by_cases e:x=m
  ·exact ⟨0,by rw [e]; rfl,fun i hi=>absurd hi (by omega)⟩
  ·have hm:m∈r:=by
    rcases LI.mp h with h | h
    ·exact absurd h.symm e
    ·exact h
   obtain ⟨j,h1,h2⟩:=zM hm
   refine ⟨j + 1,h1,fun i hi=>?_⟩
   cases i with
   | zero=>intro z; exact e (LW z)
   | succ i=>exact h2 i (by omega)
theorem gh {K:Fg} {i j:Nat} {a:Addr} {x y:V} {σ:St} {H:Hp} {R:St->Hp->Prop} (e:SqT K H a [x,y]) (h:R ((σ.set i (some x)).set j (some y)) H):ip K 2 (bW (aj i) (bW (aj j) im)) (.ref a) σ H R:=
 ⟨a,[x,y],rfl,e,rfl,x,[y],rfl,y,[],rfl,rfl,h⟩
noncomputable def bn (H:Hp) (p:Addr) (R:Nat->List V->Hp->Prop) (i:Nat) (acc:List V) (H2:Hp):Prop:=am H H2/\H2 p=some (.lst acc)/\acc.length<=i/\R i acc H2
theorem bn.put {H H4:Hp} {p:Addr} {R:Nat->List V->Hp->Prop} {i:Nat} {acc:List V} {y:V} (hp:H p=none) (st:∀ i acc H H',R i acc H->gU H H'->R i acc H') (s:am H H4) (e:H4 p=some (.lst acc)) (l:acc.length<=i) (r:R (i + 1) (acc++[y]) H4):
  H4 p=some (.lst acc)/\bn H p R (i + 1) (acc++[y]) (upd H4 p (.lst (acc++[y]))):=
 ⟨e,s.upd hp _,aA,by rw [L7]; exact SQ l 1,st _ _ _ _ r (iG.keep e)⟩
theorem bn.skip {H H4:Hp} {p:Addr} {R:Nat->List V->Hp->Prop} {i:Nat} {acc:List V} (s:am H H4) (e:H4 p=some (.lst acc)) (l:acc.length<=i) (r:R (i + 1) acc H4):bn H p R (i + 1) acc H4:=⟨s,e,by omega,r⟩
section
variable {g:CF TG} {tt:CF TT} {te:CF TE} {σ₀:St} {Q:VK} {H:Hp} {K:Fg}
theorem oE {j:Int} (n:Nat) (hn:j.toNat=n) (hj:j<=1000000) (hj0:-1000000<=j) (R:Nat->List V->Hp->Prop) (h0:∀ H',am H H'->R 0 [] H')
  (hs:∀ p,H p=none->∀ C s' H' fp,∀ i acc H2,i < n->bn H p R i acc H2->g C s' H' fp (.int i) σ₀ H2 fun σ2 H3=>tt C s' H' fp σ2 H3 fun b H4=>if b=true then te C s' H' fp σ2 H4 fun y H5=>H5 p=some (.lst acc)/\bn H p R (i + 1) (acc++[y]) (upd H5 p (.lst (acc++[y]))) else bn H p R (i + 1) acc H4)
  (hd:∀ p acc H2,H p=none->am H H2->H2 p=some (.lst acc)->R n acc H2->Q (.ref p) H2):
  ∃ j':Int,[V.int j]=[.int j']/\-(2 ^ 62)<=j'/\j' < 2 ^ 62/\∀ p,H p=none->∃ W:Nat->Nat->List V->Hp->Prop,(∃ m,W 0 m [] (upd H p (.lst [])))/\∀ C s' H' fp,cK (Itr 0 j'.toNat) (g C s' H' fp) (tt C s' H' fp) (te C s' H' fp) σ₀ p Q W:=by
 refine ⟨j,rfl,by omega,by omega,fun p hp=>?_⟩
 subst hn
 exact oB (lo:=0) (bn H p R) ⟨ba hp _,aA,LH _,h0 _ (ba hp _)⟩ (fun i acc H2 _ c=>⟨c.2.1,c.2.2.1⟩) (by rw [LP]; omega) (fun C s' H' fp i acc H2 hi c=>by rw [RH]; exact hs p hp C s' H' fp i acc H2 hi c) fun acc H2 c=>hd p acc H2 hp c.1 c.2.1 c.2.2.2
theorem fN {a:Addr} (xs:List V) (hx:SqL K H a xs) (hz:xs.length<=1000000) (R:Nat->List V->Hp->Prop) (h0:∀ H',am H H'->R 0 [] H')
  (hs:∀ p,H p=none->∀ C s' H' fp,∀ i x acc H2,xs[i]?=some x->bn H p R i acc H2->g C s' H' fp x σ₀ H2 fun σ2 H3=>tt C s' H' fp σ2 H3 fun b H4=>if b=true then te C s' H' fp σ2 H4 fun y H5=>H5 p=some (.lst acc)/\bn H p R (i + 1) (acc++[y]) (upd H5 p (.lst (acc++[y]))) else bn H p R (i + 1) acc H4)
  (hd:∀ p acc H2,H p=none->am H H2->H2 p=some (.lst acc)->R xs.length acc H2->Q (.ref p) H2):
  ∃ a',V.ref a=.ref a'/\(∃ xs,SqL K H a' xs)/\∀ p,H p=none->∃ W:Nat->Nat->List V->Hp->Prop,(∃ m,W 0 m [] (upd H p (.lst [])))/\∀ C s' H' fp,cK (Itl K a') (g C s' H' fp) (tt C s' H' fp) (te C s' H' fp) σ₀ p Q W:=
 ⟨a,rfl,⟨xs,hx⟩,fun p hp=>xN (bn H p R) ⟨ba hp _,aA,LH _,h0 _ (ba hp _)⟩ (fun i acc H2 _ c=>⟨c.2.1,c.2.2.1⟩) (fun i acc H2 _ c=>c.1.seq hx) (by rw [LP]; omega) (fun C s' H' fp i x acc H2 hi c=>hs p hp C s' H' fp i x acc H2 hi c) fun acc H2 c=>hd p acc H2 hp c.1 c.2.1 c.2.2.2⟩
end
section
variable {g:TG} {tb:TS} {NX:St->Hp->Prop} {RT:VK} {σ:St} {H:Hp} {K:Fg}
theorem Ka {S1 S2:Src} {a b:Addr} (xs ys:List V) (hx:S1.Sq K H a xs) (hy:S2.Sq K H b ys) (Pv:Nat->St->Hp->Prop) (h0:Pv 0 σ H) (hl:∀ i σ H,Pv i σ H->S1.Sq K H a xs/\S2.Sq K H b ys)
  (hs:∀ i x y T σ H H',xs[i]?=some x->ys[i]?=some y->Pv i σ H->H T=none->am H H'->H' T=some (.tup [x,y])->g (.ref T) σ H' fun σ2 H2=>tb { nx:=Pv (i + 1),rt:=RT,bk:=NX,ct:=Pv (i + 1) } σ2 H2) (hd:∀ σ H,Pv (min xs.length ys.length) σ H->NX σ H):
  ∃ a' b' xs' ys',[V.ref a,V.ref b]=[.ref a',.ref b']/\S1.Sq K H a' xs'/\S2.Sq K H b' ys'/\∃ W:Nat->Nat->St->Hp->Prop,(∃ m,W 0 m σ H)/\∀ i m σ H,W i m σ H->
   ((Itz S1 S2 K a' b').stop i H/\NX σ H)\/((Itz S1 S2 K a' b').go i H/\∃ N:St->Hp->Prop,(∀ σ' H',N σ' H'->∃ m',m' < m/\W (i + 1) m' σ' H')/\∀ x H',(Itz S1 S2 K a' b').yld i H x H'->g x σ H' fun σ2 H2=>tb { nx:=N,rt:=RT,bk:=NX,ct:=N } σ2 H2):=by
 refine ⟨a,b,xs,ys,rfl,hx,hy,EB (J:=Itz S1 S2 K a b) (n:=min xs.length ys.length) (D:={ nx:=NX,rt:=RT }) (Y:=fun i H x H1=>∃ T u v,H T=none/\x=.ref T/\H1=upd H T (.tup [u,v])/\xs[i]?=some u/\ys[i]?=some v) Pv h0 (fun i σ H hi w=>?_) (fun σ H w=>?_) (fun i σ H x H1 hi w y=>?_) (fun i x σ H H1 hi w y=>?_) hd⟩
 ·obtain ⟨q1,q2⟩:=hl i σ H w
  exact ⟨xs,ys,xs[i],ys[i],q1,q2,by simp [show i < xs.length by omega],by simp [show i < ys.length by omega]⟩
 ·obtain ⟨q1,q2⟩:=hl _ σ H w
  exact ⟨xs,ys,q1,q2,rfl⟩
 ·obtain ⟨T,u,v,e1,e2,e3,e4⟩:=y
  obtain ⟨q1,q2⟩:=hl _ σ H w
  obtain ⟨e5,e6⟩:=e4 xs ys q1 q2
  exact ⟨T,u,v,e1,e2,e3,e5,e6⟩
 ·obtain ⟨T,u,v,e1,rfl,rfl,e4,e5⟩:=y
  exact hs i u v T σ H _ e4 e5 w e1 (ba e1 _) aA
end
section
variable {K:Fg} {H:Hp} {Q:VK} {a b:Addr} {ns ms:List Int}
theorem K5 (h1:SqT K H a (ns.map V.int)) (h2:SqT K H b (ms.map V.int)) (h:Q (.bl (decide (ns=ms))) H):qp (SqT K) false (.ref a) (.ref b) H Q:=⟨a,b,_,_,_,rfl,rfl,h1,h2,xO ns ms,by rw [uu]; exact h⟩
theorem K6 (h1:SqT K H a (ns.map V.int)) (h2:SqT K H b (ms.map V.int)) (h:Q (.bl (!decide (ns=ms))) H):qp (SqT K) true (.ref a) (.ref b) H Q:=⟨a,b,_,_,_,rfl,rfl,h1,h2,xO ns ms,by rw [uu]; exact h⟩
theorem kJ {x:V} {T:String} {t:Value} {c:Bool} (ty:fo K H x t) (e:ML K t (.type T)=some c) (h:Q (.bl c) H):lh K [x,.ty T] H Q:=⟨x,T,t,c,rfl,ty,e,h⟩
end
section
variable {g:CF TG} {tt:CF TT} {te:CF TE} {σ₀:St} {Q:VK} {H:Hp} {K:Fg}
theorem qt {S1 S2:Src} {a b:Addr} (xs ys:List V) (hx:S1.Sq K H a xs) (hy:S2.Sq K H b ys) (kx:∀ H',am H H'->S1.Sq K H' a xs) (ky:∀ H',am H H'->S2.Sq K H' b ys) (hz:xs.length<=1000000) (R:Nat->List V->Hp->Prop) (h0:∀ H',am H H'->R 0 [] H')
  (hs:∀ p,H p=none->∀ C s' H' fp,∀ i x y T acc H2 H3,xs[i]?=some x->ys[i]?=some y->bn H p R i acc H2->H2 T=none->am H2 H3->H3 T=some (.tup [x,y])->H3 p=some (.lst acc)->g C s' H' fp (.ref T) σ₀ H3 fun σ2 H3=>tt C s' H' fp σ2 H3 fun b H4=>if b=true then te C s' H' fp σ2 H4 fun y H5=>H5 p=some (.lst acc)/\bn H p R (i + 1) (acc++[y]) (upd H5 p (.lst (acc++[y]))) else bn H p R (i + 1) acc H4)
  (hd:∀ p acc H2,H p=none->am H H2->H2 p=some (.lst acc)->R (min xs.length ys.length) acc H2->Q (.ref p) H2):
  ∃ a' b' xs' ys',[V.ref a,V.ref b]=[.ref a',.ref b']/\S1.Sq K H a' xs'/\S2.Sq K H b' ys'/\∀ p,H p=none->∃ W:Nat->Nat->List V->Hp->Prop,(∃ m,W 0 m [] (upd H p (.lst [])))/\∀ C s' H' fp,cK (Itz S1 S2 K a' b') (g C s' H' fp) (tt C s' H' fp) (te C s' H' fp) σ₀ p Q W:=by
 refine ⟨a,b,xs,ys,rfl,hx,hy,fun p hp=>nA (n:=min xs.length ys.length) (Y:=fun i H x H1=>∃ T u v,H T=none/\x=.ref T/\H1=upd H T (.tup [u,v])/\xs[i]?=some u/\ys[i]?=some v) (bn H p R)
  ⟨ba hp _,aA,LH _,h0 _ (ba hp _)⟩ (fun i acc H2 _ c=>⟨c.2.1,c.2.2.1⟩) (by rw [LP]; omega) (fun i acc H2 hi c=>?_) (fun acc H2 c=>?_) (fun i acc H2 x H3 hi c y=>?_) (fun C s' H' fp i x acc H2 H3 hi c y=>?_) fun acc H2 c=>hd p acc H2 hp c.1 c.2.1 c.2.2.2⟩
 ·exact ⟨xs,ys,xs[i],ys[i],kx _ c.1,ky _ c.1,by simp [show i < xs.length by omega],by simp [show i < ys.length by omega]⟩
 ·exact ⟨xs,ys,kx _ c.1,ky _ c.1,rfl⟩
 ·obtain ⟨T,u,v,e1,e2,e3,e4⟩:=y
  obtain ⟨e5,e6⟩:=e4 xs ys (kx _ c.1) (ky _ c.1)
  exact ⟨T,u,v,e1,e2,e3,e5,e6⟩
 ·obtain ⟨T,u,v,e1,rfl,rfl,e4,e5⟩:=y
  exact hs p hp C s' H' fp i u v T acc H2 _ e4 e5 c e1 (ba e1 _) aA (by rw [aS (aV c.2.1 e1)]; exact c.2.1)
noncomputable def zN (K:Fg):V->Option Int->Option Int->Hp->VK->Prop:=fun x lo hi H Q=>∃ a xs,x=.ref a/\SqT K H a xs/\¬ (HT.sIx xs.length 0 lo=0/\HT.sIx xs.length xs.length hi=xs.length)/\New H (.tup (qj xs lo hi)) fun p H2=>Q (.ref p) H2
theorem CG {a:Addr} {xs:List V} {lo hi:Option Int} (e:SqT K H a xs) (hn:¬ (HT.sIx xs.length 0 lo=0/\HT.sIx xs.length xs.length hi=xs.length)) (h:∀ p H',H p=none->am H H'->H' p=some (.tup (qj xs lo hi))->Q (.ref p) H'):zN K (.ref a) lo hi H Q:=⟨a,xs,rfl,e,hn,h⟩
theorem tE (x:V) (xs:List V):qj (x :: xs) (some 1) none=xs:=by
 unfold qj
 have e:HT.sIx (x :: xs).length 0 (some 1)=min 1 (x :: xs).length:=rfl
 rw [e,show min 1 (x :: xs).length=1 by simp]
 show ((x :: xs).drop 1).take ((x :: xs).length - 1)=xs
 rw [Sf (by simp)]
 rfl
theorem mZ (x:V) (xs:List V):¬ (HT.sIx (x :: xs).length 0 (some 1)=0/\HT.sIx (x :: xs).length (x :: xs).length none=(x :: xs).length):=fun h=>by
 have e:HT.sIx (x :: xs).length 0 (some 1)=min 1 (x :: xs).length:=rfl
 rw [e,show min 1 (x :: xs).length=1 by simp] at h
 exact absurd h.1 (by decide)
theorem K7 {x y:Str} (h:Q (.bl (decide (x=y))) H):rEq (.str x) (.str y) H Q:=⟨rfl,by rw [show decide (V.str x=V.str y)=decide (x=y) from decide_eq_decide.mpr ⟨fun e=>by injection e,fun e=>by rw [e]⟩]; exact h⟩
theorem K8 {x y:Str} (h:Q (.bl (!decide (x=y))) H):rNe (.str x) (.str y) H Q:=⟨rfl,by rw [show decide (V.str x=V.str y)=decide (x=y) from decide_eq_decide.mpr ⟨fun e=>by injection e,fun e=>by rw [e]⟩]; exact h⟩
noncomputable def CH (kvs:List (Str×V)) (a:Addr):R2:=fun x y H Q=>x=.ref a/\∃ k v,y=.str k/\kvs.lookup k=some v/\Q v H
theorem HK {kvs:List (Str×V)} {a:Addr} {k:Str} {v:V} (e:kvs.lookup k=some v) (h:Q v H):CH kvs a (.ref a) (.str k) H Q:=⟨rfl,k,v,rfl,e,h⟩
noncomputable def zO (kvs:List (Str×V)) (a:Addr) (neg:Bool):R2:=fun x y H Q=>y=.ref a/\∃ k,x=.str k/\Q (.bl (if neg then !(kvs.lookup k).isSome else (kvs.lookup k).isSome)) H
end
noncomputable def ke (K:Fg) (a:Addr) (xs:List V):Prop:=∃ (o:Obj) (its:Array Value) (n:Nat),K.lookup a=some o/\o.cls=.type "tuple"/\o.data=.seq its n/\its.size<=LS/\aH xs its.toList
theorem ke.sq {K:Fg} {a:Addr} {xs:List V} (h:ke K a xs) (H:Hp):SqT K H a xs:=.inr h
section
variable {H:Hp} {Q:VK} {K:Fg}
theorem F8 {l b:Addr} {xs zs:List V} (e:H l=some (.lst xs)) (eb:H b=some (.lst zs)) (hz:xs.length + zs.length<=LS) (h:∀ H',Off l H H'->H' l=some (.lst (xs++zs))->Q .non H'):wB (.ref l) [.ref b] H Q:=⟨l,b,xs,zs,rfl,rfl,e,eb,hz,h _ iG aA⟩
end
theorem EH (xs:List V) (z:Int) {m:Nat} (hl:xs.length=m) (hm:0 < m):∃ x,atI xs (z % (m:Int))=some x/\x∈xs:=by
 have m1:=OB z (b:=(m:Int)) (by omega)
 have m2:=Of z (b:=(m:Int)) (by omega)
 have hk:(z % (m:Int)).toNat < xs.length:=by omega
 refine ⟨xs[(z % (m:Int)).toNat],?_,Od hk⟩
 have e:z % (m:Int)=(((z % (m:Int)).toNat:Nat):Int):=by omega
 have q:atI xs (((z % (m:Int)).toNat:Nat):Int)=some xs[(z % (m:Int)).toNat]:=ck (LD hk)
 rw [<-e] at q
 exact q
noncomputable def K9:R2:=fun x y H Q=>∃ a b,x=.bl a/\y=.bl b/\Q (.bl (!(a == b))) H
theorem Kb {a b:Bool} {H:Hp} {Q:VK} (h:Q (.bl (!(a == b))) H):K9 (.bl a) (.bl b) H Q:=⟨a,b,rfl,rfl,h⟩
end L2
end
local macro_rules | `(tactic| walk_at "rb1")=>`(tactic| first
 | ((with_reducible refine' L2.oC (v:=?v) ?e ?h); (case e=>exact rfl))
 | (with_reducible first | refine L2.EF ?_ | refine L2.kI ?_ | refine L2.KQ ?_ | refine L2.JR ?_ | refine L2.JS ?_ | refine L2.Iq ?_ | refine L2.JT ?_ | refine L2.j4 ?_ | refine L2.JU ?_ | refine L2.r_c ?_ | refine L2.tm ?_ | refine L2.Ln ?_ | refine L2.Lo ?_ | refine L2.r_U ?_ | refine L2.KR ?_ | refine L2.KS ?_ | refine L2.K7 ?_ | refine L2.K8 ?_ | refine L2.KT ?_ | refine L2.KU ?_ | refine L2.Kb ?_ | refine L2.JV ?_ | refine L2.Lp ?_ | refine L2.Lq ?_ | refine L2.K1 ?_ | refine L2.KW ?_ | refine L2.Lr ?_ | refine L2.KY ?_ | refine L2.JW ?_ | refine L2.KZ ?_ | refine L2.JX ?_ | refine L2.Ls ?_ | refine L2.Ir ?_ | refine L2.HI ?_ | refine L2.EG ?_ | refine L2.JY ?_ | refine L2.Lu ?_ | refine L2.Lv ?_ | refine L2.K0 ?_ | refine L2.Lw ?_ | refine L2.Lx ?_ | refine L2.F5 ?_ | refine L2.JZ ?_ | refine L2.K2 ?_ | refine L2.J0 ?_ | refine L2.Iu ?_ | refine L2.J1 ?_ | refine L2.Iv ?_ | refine L2.Iw ?_ | refine L2.Ix ?_ | refine L2.J2 ?_ | refine L2.J3 ?_ | refine L2.J4 ?_ | refine L2.K4 ?_ | refine L2.rC ?_ | refine L2.J6 ?_ | refine L2.J7 ?_ | refine L2.J8 ?_ | refine L2.J9 ?_ | refine L2.ql ?_ | refine L2.ox ?_ | refine L2.Cz ?_ | refine L2.K3 ?_ | refine L2.F6 ?_)
 | ((with_reducible refine L2.r_I ?_ ?_); (first | (show (0:Int) < _; omega) | (show (0:Int) < _; decide) | exact ⟨by decide,by decide,by decide⟩ | exact And.intro (by omega) (by omega) | exact (PySem.IntMulOk.of_right (S9 (by omega) (by omega))) | exact (PySem.IntMulOk.of_left (S9 (by omega) (by omega)))))
 | ((with_reducible refine' L2.gB (ys:=?y) ?e ?h); (case e=>first | assumption | exact L2.SqL.of (by assumption)))
 | ((with_reducible refine' L2.BU (ys:=?y) ?e ?h); (case e=>first | assumption | exact L2.SqT.of (by assumption)))
 | dsimp only [NQ,NR,L2.sub,LZ,O8,List.getElem?_cons_zero,List.getElem?_cons_succ])
local macro_rules | `(tactic| walk_at "rd")=>`(tactic| repeat (first | (with_reducible first | refine L2.bR ?_ | refine L2.HH ?_) | walk_at "rb1"))
local macro_rules | `(tactic| walk_at "rs")=>`(tactic| repeat (first | (with_reducible refine L2.HH ?_) | walk_at "rb1"))
local macro_rules | `(tactic| walk_at "ra")=>`(tactic| repeat (walk_at "rb1"))
namespace L2
open PySem PyProof.Rows
noncomputable abbrev IA:=Option Int
noncomputable abbrev IK:=Sum IA (List IA)
noncomputable abbrev MK:=Sum IA (List IK)
noncomputable def iaV:V->Option IA
 | .non=>some none
 | .bl b=>some (some (if b then 1 else 0))
 | .int i=>some (some i)
 | _=>none
noncomputable def l9 (H:Hp) (x:V):IK->Prop
 | .inl a=>iaV x=some a
 | .inr as=>∃ c ys,x=.ref c/\H c=some (.tup ys)/\ys.map iaV=as.map some
noncomputable def dg (H:Hp) (x:V):MK->Prop
 | .inl a=>iaV x=some a
 | .inr is=>∃ c xs,x=.ref c/\H c=some (.tup xs)/\Paired (l9 H) xs is
noncomputable def ma:MK->Bool
 | .inl _=>false
 | .inr _=>true
theorem l9.keep {H H':Hp} {x:V} {k:IK} (h:l9 H x k) (kp:gU H H'):l9 H' x k:=by
 cases k with
 | inl a=>exact h
 | inr as=>obtain ⟨c,ys,e,q,r⟩:=h; exact ⟨c,ys,e,kp _ _ q,r⟩
theorem dg.keep {H H':Hp} {x:V} {k:MK} (h:dg H x k) (kp:gU H H'):dg H' x k:=by
 cases k with
 | inl a=>exact h
 | inr as=>obtain ⟨c,xs,e,q,r⟩:=h; exact ⟨c,xs,e,kp _ _ q,Paired.mapP r fun _ _ z=>l9.keep z kp⟩
theorem xR {H H':Hp} {xs:List V} {ks:List MK} (h:Paired (dg H) xs ks) (kp:gU H H'):Paired (dg H') xs ks:=Paired.mapP h fun _ _ z=>dg.keep z kp
theorem cf {α β:Type} {F:α->β->Prop}:∀ {xs:List α} {ys:List β} {i:Nat} {x:α},Paired F xs ys->xs[i]?=some x->∃ y,ys[i]?=some y/\F x y
 | _,_,_,_,.nil,e=>by simp at e
 | _,_,0,_,.cons r _,e=>by simp at e; subst e; exact ⟨_,rfl,r⟩
 | _,_,i + 1,x,.cons _ t,e=>by
  obtain ⟨u,h1,h2⟩:=cf (i:=i) (x:=x) t (by simpa using e)
  exact ⟨u,by simpa using h1,h2⟩
theorem uy (H:Hp):∀ ns:List Int,Paired (l9 H) (ns.map V.int) (ns.map fun n=>(Oq (some n):IK))
 | []=>.nil
 | n :: r=>.cons rfl (uy H r)
theorem Iz {H:Hp} {c:Addr} {ns:List Int} (e:H c=some (.tup (ns.map V.int))):dg H (.ref c) (.inr (ns.map fun n=>(Oq (some n):IK))):=⟨c,_,rfl,e,uy H ns⟩
theorem Off.keepD {H H':Hp} {l:Addr} (o:Off l H H') (h:∀ xs,H l≠some (.tup xs)):gU H H':=fun b ys q=>by
 rw [o b (fun z=>by subst z; exact h _ q)]
 exact q
noncomputable def bc {α:Type} [DecidableEq α] (ks:List α):List Nat:=ks.map fun k=>ks.idxOf k
theorem dN {α:Type} [DecidableEq α] (ks:List α):(bc ks).length=ks.length:=LF _
theorem CI {α:Type} [DecidableEq α] {ks:List α} {i:Nat} {k:α} (h:k∈ks.take i):(ks.take i).idxOf k=ks.idxOf k:=by
 have:=TJ (l₁:=ks.take i) (l₂:=ks.drop i) (a:=k)
 rw [O9,if_pos h] at this
 exact this.symm
theorem xS {α:Type} [DecidableEq α] {ks:List α} {i:Nat} {k:α} (hk:ks[i]?=some k) (h:k∉ks.take i):ks.idxOf k=i:=by
 obtain ⟨hi,e⟩:=LJ.mp hk
 have e1:ks=ks.take i++(k :: ks.drop (i + 1)):=by
  rw [<-e,List.getElem_cons_drop,O9]
 have:=TJ (l₁:=ks.take i) (l₂:=k :: ks.drop (i + 1)) (a:=k)
 rw [<-e1,if_neg h,List.idxOf_cons_self,NM] at this
 omega
theorem dh {α:Type} {ks:List α} {i:Nat} {k:α} (hk:ks[i]?=some k):ks.take (i + 1)=ks.take i++[k]:=by
 rw [Nv,hk]; rfl
theorem sB {α β:Type} [DecidableEq α] [DecidableEq β] {f:α->β} (inj:∀ a b,f a=f b->a=b) (ks:List α):bc (ks.map f)=bc ks:=by
 unfold bc
 rw [Oy]
 refine NF fun k hk=>?_
 show (ks.map f).idxOf (f k)=ks.idxOf k
 clear hk
 induction ks with
 | nil=>rfl
 | cons a r ih=>
  rw [LZ,UK,UK,ih]
  by_cases e:a=k
  ·rw [e,beq_self_eq_true,beq_self_eq_true]
  ·rw [beq_eq_false_iff_ne.mpr e,beq_eq_false_iff_ne.mpr (fun z=>e (inj _ _ z))]
theorem uz {α:Type} [DecidableEq α] {ks:List α} {i:Nat} {z:Nat} (h:(bc ks)[i]?=some z):∃ k,ks[i]?=some k/\z=ks.idxOf k/\z<=i:=by
 unfold bc at h
 rw [LU] at h
 cases e:ks[i]? with
 | none=>rw [e] at h; cases h
 | some k=>
  rw [e] at h
  refine ⟨k,rfl,(LW h).symm,?_⟩
  rw [<-LW h]
  show ks.idxOf k<=i
  by_cases q:k∈ks.take i
  ·have:=QX q
   rw [CI q,NM] at this
   omega
  ·rw [xS e q]; exact LH _
section
open PySem.Spec
section
variable {κ:Type} [DecidableEq κ]
noncomputable def fU (kvs:List (κ×V)) (k:κ):Option V:=(kvs.find? fun kv=>decide (kv.1=k)).map (·.2)
noncomputable def qu (kvs:List (κ×V)) (k:κ) (v:V):List (κ×V):=
 if (kvs.any fun kv=>decide (kv.1=k))=true then kvs.map (fun kv=>if kv.1=k then (kv.1,v) else kv) else kvs++[(k,v)]
theorem eI {p:κ×V} {r:List (κ×V)} {k:κ} (e:p.1=k):fU (p :: r) k=some p.2:=by simp [fU,Ms,e]
theorem eJ {p:κ×V} {r:List (κ×V)} {k:κ} (e:¬ p.1=k):fU (p :: r) k=fU r k:=by simp [fU,Ms,e]
theorem tF (k:κ):∀ kvs:List (κ×V),(kvs.any fun kv=>decide (kv.1=k))=(fU kvs k).isSome
 | []=>rfl
 | p :: r=>by
  rw [S0]
  by_cases e:p.1=k
  ·simp only [eI e,decide_eq_true e,Bool.true_or,Option.isSome_some]
  ·rw [eJ e,decide_eq_false e,Bool.false_or]; exact tF k r
theorem zP (k j:κ) (y:V):∀ kvs:List (κ×V),fU (kvs.map fun kv=>if kv.1=k then (kv.1,y) else kv) j=(fU kvs j).map fun x=>if j=k then y else x
 | []=>rfl
 | p :: r=>by
  have ih:=zP k j y r
  rw [LZ]
  by_cases h:p.1=k
  ·rw [if_pos h]
   by_cases e:p.1=j
   ·rw [eI (p:=(p.1,y)) e,eI e,Qu,if_pos (e.symm.trans h)]
   ·rw [eJ (p:=(p.1,y)) e,eJ e,ih]
  ·rw [if_neg h]
   by_cases e:p.1=j
   ·rw [eI (p:=p) e,eI e,Qu,if_neg (fun z=>h (e.trans z))]
   ·rw [eJ (p:=p) e,eJ e,ih]
theorem xT (k j:κ) (y:V):∀ kvs:List (κ×V),fU kvs k=none->fU (kvs++[(k,y)]) j=if j=k then some y else fU kvs j
 | [],_=>by
  by_cases e:k=j
  ·rw [if_pos e.symm]; exact eI (p:=(k,y)) e
  ·rw [if_neg (fun z=>e z.symm)]; exact eJ (p:=(k,y)) e
 | p :: r,hn=>by
  rw [Up]
  have hk:¬ p.1=k:=fun z=>by rw [eI z] at hn; cases hn
  rw [eJ hk] at hn
  have ih:=xT k j y r hn
  by_cases e:p.1=j
  ·rw [eI e,eI e,if_neg (fun z=>hk (e.trans z))]
  ·rw [eJ e,eJ e,ih]
theorem F9 (kvs:List (κ×V)) (k j:κ) (y:V):fU (qu kvs k y) j=if j=k then some y else fU kvs j:=by
 unfold qu
 by_cases a:(kvs.any fun kv=>decide (kv.1=k))=true
 ·rw [if_pos a,zP]
  rw [tF] at a
  by_cases e:j=k
  ·obtain ⟨x,hx⟩:=Rz.mp a
   rw [if_pos e,e,hx,Qu,if_pos rfl]
  ·rw [if_neg e]
   cases fU kvs j with
   | none=>rfl
   | some x=>rw [Qu,if_neg e]
 ·rw [if_neg a]
  refine xT k j y kvs ?_
  rw [tF] at a
  cases q:fU kvs k with
  | none=>rfl
  | some x=>rw [q] at a; exact (a rfl).elim
theorem sC (kvs:List (κ×V)) (k:κ) (v:V):(qu kvs k v).length<=kvs.length + 1:=by
 unfold qu
 split
 ·rw [LF]; omega
 ·rw [L7,Ml,UL]; omega
theorem gS.isSome_eq {o:Option V} {u:Option Value} (r:gS o u):o.isSome=u.isSome:=by
 cases o with
 | none=>cases u with
  | none=>rfl
  | some _=>exact (show False from r).elim
 | some _=>cases u with
  | none=>exact (show False from r).elim
  | some _=>rfl
theorem KV.val {kvs:List (κ×V)} {vs:List (κ×Value)} (r:KV kvs vs) (k:κ):gS (fU kvs k) (valueAt vs k):=by
 unfold KV at r
 induction r with
 | nil=>exact Ov
 | @cons p q ps qs h t ih=>
  obtain ⟨h1,h2⟩:=h
  by_cases e:p.1=k
  ·have e':q.1=k:=h1.symm.trans e
   have b:valueAt (q :: qs) k=some q.2:=by simp [valueAt,Ms,e']
   rw [eI e,b]; exact h2
  ·have e':¬ q.1=k:=fun z=>e (h1.trans z)
   have b:valueAt (q :: qs) k=valueAt qs k:=by simp [valueAt,Ms,e']
   rw [eJ e,b]; exact ih
theorem KV.any {kvs:List (κ×V)} {vs:List (κ×Value)} (r:KV kvs vs) (k:κ):(kvs.any fun kv=>decide (kv.1=k))=vs.any fun kv=>decide (kv.1=k):=by
 unfold KV at r
 induction r with
 | nil=>rfl
 | cons h t ih=>rw [S0,S0,ih,h.1]
theorem KV.repl {kvs:List (κ×V)} {vs:List (κ×Value)} (r:KV kvs vs) (k:κ) {y:V} {u:Value} (ry:aJ y u):
  KV (kvs.map fun kv=>if kv.1=k then (kv.1,y) else kv) (vs.map fun kv=>if kv.1=k then (kv.1,u) else kv):=by
 unfold KV at r ⊢
 induction r with
 | nil=>exact .nil
 | @cons p q ps qs h t ih=>
  rw [LZ,LZ]
  refine .cons ?_ ih
  obtain ⟨h1,h2⟩:=h
  by_cases e:p.1=k
  ·rw [if_pos e,if_pos (h1.symm.trans e)]; exact ⟨h1,ry⟩
  ·rw [if_neg e,if_neg (fun z=>e (h1.trans z))]; exact ⟨h1,h2⟩
theorem KV.put {kvs:List (κ×V)} {vs:List (κ×Value)} (r:KV kvs vs) (k:κ) {y:V} {u:Value} (ry:aJ y u):KV (qu kvs k y) (stored vs k u):=by
 unfold qu stored
 rw [r.any k]
 by_cases e:(vs.any fun kv=>decide (kv.1=k))=true
 ·rw [if_pos e,if_pos e]; exact r.repl k ry
 ·rw [if_neg e,if_neg e]; exact Paired.snoc r ⟨rfl,ry⟩
theorem KV.length {kvs:List (κ×V)} {vs:List (κ×Value)} (r:KV kvs vs):kvs.length=vs.length:=My r
end
theorem HL {P:Program} {w:World} {k:Key} {u:Value} (r:aJ (kV k) u):(iE P w).is k u=true:=by
 cases k with
 | inl i=>obtain ⟨t,e⟩:=(show ∃ t,u=OL i t from r); subst e; exact Bb P w i t
 | inr x=>obtain ⟨t,e⟩:=(show ∃ t,u=RU x t from r); subst e; exact bo P w x t
section
variable {P:Program} {w:World} {H:Hp} {h:Heap} {a:Addr}
end
section
variable {X:Cx} {pins:List (Addr×Obj)} {σ:St} {H:Hp} {s:Shared} {a:Addr} {y v:V} {u r:Value} {o:Option V} {A:Around} {E:Value->Shared->Prop}
theorem Inv.big (I:Inv X pins σ H s):NG < s.heap.objs.size:=by
 have h:Mj < s.heap.objs.size:=(I.mod.glob.keeps I.bk).lt
 exact Nat.lt_trans (by decide) h
theorem BV {h':Heap} {t':Nat} {ob:HO} (I:Inv X pins σ H s) (mu:Mut (H a)) (hs:L8 a s.heap h') (he:∃ q,h'.get? a=some q) (new:bJ X.prog X.w (upd H a ob) h' a ob):
  Inv X pins σ (upd H a ob) { s with heap:=h',toks:=t' }:=
 I.write (x:=a) (e:=a) mu (.inl rfl) (fun b q hb z=>(hs.2 b hb).trans z) he new
end
section
variable {X:Cx} {pins:List (Addr×Obj)} {σ:St} {H:Hp} {s:Shared} {a:Addr} {kvs:List (Key×V)} {k:Key} {u:Value} {A:Around} {E:Value->Shared->Prop}
end
noncomputable def Ga (i:Expr):Prop:=∀ ov iv,Sb i false ov iv=operate [ov,iv] (getItem ov iv)
theorem BW {prog:Program} {w:World} {A:Around} {E:Value->Shared->Prop} {s:Shared} {env:Env} {value slice:Expr} {pos:Pos} {T id:String} {Q:Value->Shared->Prop}
  (hl:SG (.type T) "__getitem__"=pure (some (.builtin id))) (hs:Ga slice)
  (h:wpAny (model prog w) A (eval value env) (fun o s₁=>wpAny (model prog w) A (eval slice env) (fun i s₂=>s₂.TypeIs o T/\wpAny (model prog w) A (getItem o i) Q E s₂) E s₁) E s):
  wpAny (model prog w) A (eval (.Subscript value slice pos) env) Q E s:=by
 refine UC (Nx h (fun o s₁ h₁=>Nx h₁ (fun i s₂ h₂=>?_) fun _ _ x=>x) fun _ _ x=>x)
 obtain ⟨hT,h₂⟩:=h₂
 unfold SY
 refine LA ?_
 rw [getitemInPython_of_ne hT.not_modules]
 refine LA (Np hT hl ?_)
 have fin:wpAny (model prog w) A (Sb slice false o i) (fun r s₃=>wpAny (model prog w) A (letTemporaryGo value o r >>= fun _=>pure r) Q E s₃) E s₂:=by
  rw [hs o i]
  exact wpAny_operating (Nx h₂ (fun r s₃ h₃=>LA (wpAny_letTemporaryGo (LC h₃))) fun _ _ x=>x)
 first
  | exact LC (LA fin)
  | exact LA (LC (LA fin))
  | exact LA fin
section
variable {X:Cx} {o i e value:Expr} {pos pos' tpos:Pos} {td ty tv:TE}
end
section
variable {X:Cx} {pos:Pos}
end
structure M2 (X:Cx) (o:Expr) (m:Str) (apos:Pos) (e f:Expr) (cpos:Pos):Prop where
 base:Pg o m X.env (eval o X.env)=eval o X.env
 few:((backTo cpos (L9 [e,f] X.env)).all (fun x=>!x.1) && (Pc cpos (Ow [] X.env)).all (fun x=>x.1.isSome)
  && decide (([e,f]:List Expr).length + ([]:List Keyword).length + (if ([]:List Keyword).isEmpty then 0 else 1) < 30))=true
 line:(apos.endLine == cpos.line)=true
 trees:backTo cpos (L9 [e,f] X.env)=[(false,eval e X.env),(false,eval f X.env)]
section
variable {X:Cx} {pins:List (Addr×Obj)} {σ:St} {H:Hp} {s:Shared} {a:Addr} {y d:V} {u r:Value} {o:Option V} {A:Around} {E:Value->Shared->Prop}
end
section
variable {X:Cx} {o e f:Expr} {apos cpos:Pos} {td ty tx:TE}
end
section
variable {X:Cx} {pins:List (Addr×Obj)} {σ:St} {H:Hp} {s:Shared} {a:Addr} {kvs:List (Key×V)} {A:Around} {E:Value->Shared->Prop}
end
section
variable {X:Cx} {pins:List (Addr×Obj)} {σ:St} {H:Hp} {s:Shared} {a:Addr} {y:V} {u:Value} {A:Around} {E:Value->Shared->Prop}
end
end
section
open PySem.Spec
section
variable {prog:Program} {w:World} {A:Around} {E:Value->Shared->Prop} {s:Shared}
theorem si {b:Bool} {Q:Int->Shared->Prop} (h:Q (hashInt (if b then 1 else 0)) { s with toks:=s.toks + 1 }):wpAny (model prog w) A (pyHash (.bool b)) Q E s:=by
 have hr:=rawHash_range (if b then 1 else 0)
 unfold pyHash
 have hv:[Nd b].any Value.onHeap=false:=rfl
 refine LA ?_
 rw [cRoomFor,if_neg (by rw [hv]; exact LR)]; refine LC ?_
 have hT:s.TypeIs (.bool b) "bool":=rfl
 refine LA (Np hT O2.lookup ?_)
 show wpAny _ _ (if (some (S3 "int.__hash__") == some M6)=true then _ else _) Q E s
 rw [if_neg (by rw [RI]; exact LR)]
 refine LA (Np hT O2.lookup ?_)
 show wpAny _ _ (O4 (.bool b) "__hash__" _ >>= _) Q E s
 refine LA (On hT O2 (Mu O2 hT entry_int_hash ?_ (args_int_hash _)))
 cases b with
 | true=>
  refine (show wpAny _ _ (do ret (<-mkInt (rawHash 1))) _ _ s from Qv ?_)
  show wpAny _ _ (if (decide (-(2:Int) ^ 63<=rawHash 1) && decide (rawHash 1 < 2 ^ 63))=true then _ else _) Q E _
  rw [if_pos (by decide)]
  exact LC h
 | false=>
  refine (show wpAny _ _ (do ret (<-mkInt (rawHash 0))) _ _ s from Qv ?_)
  show wpAny _ _ (if (decide (-(2:Int) ^ 63<=rawHash 0) && decide (rawHash 0 < 2 ^ 63))=true then _ else _) Q E _
  rw [if_pos (by decide)]
  exact LC h
theorem sj {Q:Int->Shared->Prop} (h:Q 4238894112 { s with toks:=s.toks + 1 }):wpAny (model prog w) A (pyHash .none) Q E s:=by
 unfold pyHash
 have hv:[M6].any Value.onHeap=false:=rfl
 refine LA ?_
 rw [cRoomFor,if_neg (by rw [hv]; exact LR)]; refine LC ?_
 have hT:s.TypeIs .none "NoneType":=rfl
 refine LA (Np hT OH.lookup ?_)
 show wpAny _ _ (if (some (S3 "NoneType.__hash__") == some M6)=true then _ else _) Q E s
 rw [if_neg (by rw [RI]; exact LR)]
 refine LA (Np hT OH.lookup ?_)
 show wpAny _ _ (O4 .none "__hash__" _ >>= _) Q E s
 refine LA (On hT OH (Mu OH hT PySem.F.entry_NoneType_hash ?_ (PySem.F.args_NoneType_hash_1 _)))
 refine (show wpAny _ _ (do ret (<-mkInt 4238894112)) _ _ s from Qv ?_)
 show wpAny _ _ (if (decide (-(2:Int) ^ 63<=4238894112) && decide ((4238894112:Int) < 2 ^ 63))=true then _ else _) Q E _
 rw [if_pos (by decide)]
 exact LC h
end
noncomputable def zQ:IA->Int
 | none=>4238894112
 | some i=>hashInt i
noncomputable def oF:IA->Value->Bool
 | none,.none=>true
 | some i,.int j _=>i == j
 | some i,.bool b=>i == (if b then 1 else 0)
 | _,_=>false
theorem dR {k:IA} {v:Value} (h:oF k v=true):(k=none/\v=.none)\/(∃ i t,k=some i/\v=.int i t)\/∃ b,k=some (if b then 1 else 0)/\v=.bool b:=by
 rcases k with _ | i <;> cases v <;> (delta oF at h; simp at h)
 ·exact .inl ⟨rfl,rfl⟩
 ·subst h; exact .inr (.inr ⟨_,rfl,rfl⟩)
 ·subst h; exact .inr (.inl ⟨_,_,rfl,rfl⟩)
noncomputable def dj (prog:Program) (w:World):PySem.KeyKind prog w IA where
 is:=oF
 hash:=zQ
 inj:=fun v a b ha hb=>by
  rcases dR ha with ⟨rfl,rfl⟩ | ⟨i,t,rfl,rfl⟩ | ⟨c,rfl,rfl⟩ <;> rcases dR hb with ⟨rfl,e⟩ | ⟨j,u,rfl,e⟩ | ⟨d,rfl,e⟩ <;> first | rfl | (cases e; rfl) | cases e
 byValue:=fun k v h=>by
  rcases dR h with ⟨rfl,rfl⟩ | ⟨i,t,rfl,rfl⟩ | ⟨c,rfl,rfl⟩ <;> rfl
 pyHash:=fun hv h=>by
  rcases dR hv with ⟨rfl,rfl⟩ | ⟨i,t,rfl,rfl⟩ | ⟨c,rfl,rfl⟩
  ·exact sj h
  ·exact Uc h
  ·exact si h
 eqBool:=fun {A E s a b u v Q} hu hv h=>by
  rcases dR hu with ⟨rfl,rfl⟩ | ⟨i,t,rfl,rfl⟩ | ⟨c,rfl,rfl⟩ <;> rcases dR hv with ⟨rfl,rfl⟩ | ⟨j,u,rfl,rfl⟩ | ⟨d,rfl,rfl⟩
  ·exact RX _ _ _ _ _ (by simpa using h)
  ·exact S5 _ _ _ _ _ _ (by simpa using h)
  ·exact SH _ _ _ _ _ (by simpa using h)
  ·exact S7 _ _ _ _ _ _ (by simpa using h)
  ·exact Tr _ _ _ _ _ _ _ _ (by simpa [Qh] using h)
  ·exact S8 _ _ _ _ _ _ _ (by simpa [Qh] using h)
  ·exact SI _ _ _ _ _ (by simpa using h)
  ·exact S6 _ _ _ _ _ _ _ (by simpa [Qh] using h)
  ·refine SJ _ _ _ _ _ _ ?_
   cases c <;> cases d <;> simpa using h
 «strs»:=fun k x t v h=>by
  rcases dR h with ⟨rfl,e⟩ | ⟨i,u,rfl,e⟩ | ⟨c,rfl,e⟩ <;> cases e
noncomputable def ll:IK->Int
 | .inl a=>zQ a
 | .inr as=>UM (Nu (as.map zQ))
noncomputable def y9 (is:List IK):Int:=UM (Nu (is.map ll))
noncomputable def nG:IK->Nat
 | .inl _=>1
 | .inr as=>as.length + 1
section
variable (prog:Program) (w:World)
noncomputable def cT (h:Heap):IK->Value->Prop
 | .inl a,v=>oF a v=true
 | .inr as,v=>∃ b,v=.ref b/\UN (dj prog w) h as b
noncomputable def gW (h:Heap) (is:List IK) (a:Addr):Prop:=∃ o items n,h.get? a=some o/\o.cls=.type "tuple"/\o.data=.seq items n/\Paired (cT prog w h) is items.toList
end
section
variable {prog:Program} {w:World}
theorem cT.inj {h:Heap} {x y:IK} {v:Value} (hx:cT prog w h x v) (hy:cT prog w h y v):x=y:=by
 cases x with
 | inl a=>cases y with
  | inl b=>rw [(dj prog w).inj v a b hx hy]
  | inr bs=>
   obtain ⟨c,rfl,_⟩:=hy
   rcases dR hx with ⟨_,e⟩ | ⟨_,_,_,e⟩ | ⟨_,_,e⟩ <;> cases e
 | inr as=>cases y with
  | inl b=>
   obtain ⟨c,rfl,_⟩:=hx
   rcases dR hy with ⟨_,e⟩ | ⟨_,_,_,e⟩ | ⟨_,_,e⟩ <;> cases e
  | inr bs=>
   obtain ⟨c,rfl,h1⟩:=hx
   obtain ⟨d,e,h2⟩:=hy
   cases e
   rw [h1.inj h2]
theorem EI {h:Heap} {xs ys:List IK} {vs:List Value} (p:Paired (cT prog w h) xs vs):Paired (cT prog w h) ys vs->xs=ys:=by
 induction p generalizing ys with
 | nil=>intro q; cases q; rfl
 | cons a t ih=>intro q; cases q with
  | cons b u=>rw [a.inj b,ih u]
theorem gW.inj {h:Heap} {a:Addr} {x y:List IK} (hx:gW prog w h x a) (hy:gW prog w h y a):x=y:=by
 obtain ⟨o,items,n,ho,_,hd,hi⟩:=hx
 obtain ⟨o',items',n',ho',_,hd',hi'⟩:=hy
 obtain rfl:o=o':=LW (ho.symm.trans ho')
 rw [hd] at hd'
 injection hd' with h1 _
 subst h1
 exact EI hi hi'
theorem cT.keeps {h h':Heap} {k:IK} {v:Value} {d:Addr} {o:Obj} {es ep} (x:cT prog w h k v) (ho:h.get? d=some o) (hd:o.data=.dict es ep) (hs:L8 d h h'):cT prog w h' k v:=by
 cases k with
 | inl a=>exact x
 | inr as=>obtain ⟨b,e,q⟩:=x; exact ⟨b,e,q.keeps ho hd hs⟩
theorem gW.keeps {h h':Heap} {ks:List IK} {a d:Addr} {o:Obj} {es ep} (x:gW prog w h ks a) (ho:h.get? d=some o) (hd:o.data=.dict es ep) (hs:L8 d h h'):gW prog w h' ks a:=by
 obtain ⟨o',items,n,ho',hc,hd',hi⟩:=x
 have hne:a≠d:=by
  rintro rfl
  obtain rfl:o'=o:=LW (ho'.symm.trans ho)
  rw [hd] at hd'; exact nomatch hd'
 exact ⟨o',items,n,(hs.2 a hne).trans ho',hc,hd',Paired.mapP hi fun _ _ z=>z.keeps ho hd hs⟩
theorem gW.typeIs {s:Shared} {ks:List IK} {a:Addr} (x:gW prog w s.heap ks a):s.TypeIs (.ref a) "tuple":=let ⟨o,_,_,ho,hc,_⟩:=x; ⟨o,ho,hc⟩
theorem uA {h:Heap} {ks:List IA} {a:Addr} (x:UN (dj prog w) h ks a):∃ items,h.IsTuple a items:=let ⟨o,items,n,h1,h2,h3,_⟩:=x; ⟨items,o,h1,h2,n,h3⟩
variable {A:Around} {E:Value->Shared->Prop} {s:Shared}
theorem EJ {k:IK} {v:Value} {Q:Int->Shared->Prop} (hu:A.units < cLine) (hk:cT prog w s.heap k v) (h:Q (ll k) { s with toks:=s.toks + nG k }):wpAny (model prog w) A (pyHash v) Q E s:=by
 cases k with
 | inl a=>exact (dj prog w).pyHash (k:=a) hk h
 | inr as=>
  obtain ⟨b,rfl,q⟩:=hk
  exact wpAny_pyHash_tuple (knd:=dj prog w) hu q h
theorem Gb {a:IA} {v:Value} {b:Addr} {items:Array Value} {Q:Bool->Shared->Prop} (hu:A.units < cLine) (hk:oF a v=true) (ht:s.heap.IsTuple b items) (h:Q false s):wpAny (model prog w) A (Tu v (.ref b)) Q E s:=by
 rcases dR hk with ⟨rfl,rfl⟩ | ⟨i,t,rfl,rfl⟩ | ⟨c,rfl,rfl⟩
 ·exact Mm.none_tuple ht hu _ _ _ _ h
 ·exact Mm.int_tuple _ _ ht hu _ _ _ _ h
 ·exact Mm.bool_tuple _ ht hu _ _ _ _ h
theorem Gc {a:IA} {v:Value} {b:Addr} {items:Array Value} {Q:Bool->Shared->Prop} (hu:A.units < cLine) (hk:oF a v=true) (ht:s.heap.IsTuple b items) (h:Q false s):wpAny (model prog w) A (Tu (.ref b) v) Q E s:=by
 rcases dR hk with ⟨rfl,rfl⟩ | ⟨i,t,rfl,rfl⟩ | ⟨c,rfl,rfl⟩
 ·exact Mm.tuple_none ht hu _ _ _ _ h
 ·exact Mm.tuple_int _ _ ht hu _ _ _ _ h
 ·exact Mm.tuple_bool _ ht hu _ _ _ _ h
theorem IB {x y:IK} {u v:Value} {Q:Bool->Shared->Prop} (hu:A.units < cLine) (hx:cT prog w s.heap x u) (hy:cT prog w s.heap y v) (h:Q (decide (x=y)) s):wpAny (model prog w) A (Tu u v) Q E s:=by
 cases x with
 | inl a=>cases y with
  | inl b=>
   refine (dj prog w).eqBool (a:=a) (b:=b) hx hy ?_
   rw [show decide (a=b)=decide ((Oq a:IK)=Oq b) from decide_eq_decide.mpr ⟨fun e=>by rw [e],fun e=>T2 e⟩]
   exact h
  | inr bs=>
   obtain ⟨c,rfl,q⟩:=hy
   obtain ⟨items,ht⟩:=uA q
   refine Gb hu hx ht ?_
   rw [decide_eq_false (fun e=>nomatch e)] at h
   exact h
 | inr as=>cases y with
  | inl b=>
   obtain ⟨c,rfl,q⟩:=hx
   obtain ⟨items,ht⟩:=uA q
   refine Gc hu hy ht ?_
   rw [decide_eq_false (fun e=>nomatch e)] at h
   exact h
  | inr bs=>
   obtain ⟨c,rfl,q⟩:=hx
   obtain ⟨d,rfl,q'⟩:=hy
   refine wpAny_eqBool_tuple (knd:=dj prog w) hu q q' ?_
   rw [show decide (as=bs)=decide ((NA as:IK)=NA bs) from decide_eq_decide.mpr ⟨fun e=>by rw [e],fun e=>Pk e⟩]
   exact h
noncomputable def zR (ks:List IK):Nat:=(ks.map nG).sum + 1
theorem EK {ks:List IK} {a:Addr} {Q:Int->Shared->Prop} (hu:A.units + 1 < cLine) (hk:gW prog w s.heap ks a) (h:Q (y9 ks) { s with toks:=s.toks + zR ks }):
  wpAny (model prog w) A (pyHash (.ref a)) Q E s:=by
 have hT:=hk.typeIs
 obtain ⟨o,items,n,ho,_,hd,hi⟩:=hk
 have hu0:A.units < cLine:=by omega
 unfold pyHash
 first | unfold pyHashByItsType | skip
 first | refine LA (wpAny_cRoomFor_or (.inr hu0) ?_) | skip
 refine LA (Np hT PZ.lookup ?_)
 show wpAny _ _ (if (some (S3 "tuple.__hash__") == some M6)=true then _ else _) Q E s
 rw [if_neg (by rw [RI]; exact LR)]
 refine LA (Np hT PZ.lookup ?_)
 show wpAny _ _ (O4 (.ref a) "__hash__" _ >>= _) Q E s
 refine LA (On hT PZ (Mu PZ hT F.entry_tuple_hash ?_ (F.args_tuple_hash_1 _)))
 show wpAny _ _ (Q6 (.ref a) >>= _) _ _ s
 refine LA (QY ho hd ?_)
 refine LA ?_
 rw [<-OZ]
 refine Qf _
  (fun cF (b:Array Int) s'=>∃ done left,ks=done++left/\Paired (cT prog w s.heap) left cF/\b.toList=done.map ll/\s'={ s with toks:=s.toks + (done.map nG).sum })
  _ ?_ ?_ _ _ ⟨[],ks,rfl,hi,rfl,rfl⟩
 ·rintro x cF b s' ⟨done,left,rfl,hl,hb,rfl⟩
  cases hl with
  | @cons k _ ks' _ h1 hl'=>
   refine LA (EJ (k:=k) hu h1 ?_)
   have e:(done.map nG).sum + nG k=((done++[k]).map nG).sum:=by simp
   first
    | exact LC ⟨done++[k],ks',by simp,hl',by simp [hb],by rw [<-e]; simp [Q8]⟩
    | exact LA (LC (LC ⟨done++[k],ks',by simp,hl',by simp [hb],by rw [<-e]; simp [Q8]⟩))
 ·rintro b s' ⟨done,left,rfl,hl,hb,rfl⟩
  cases hl
  rw [NH] at h
  show wpAny _ _ (retInt (Nu b.toList)) _ _ _
  rw [hb]
  refine Qv ?_
  show wpAny _ _ (if (decide (-(2:Int) ^ 63<=Nu (done.map ll)) && decide (Nu (done.map ll) < 2 ^ 63))=true then _ else _) Q E _
  unfold y9 UM zR at h
  by_cases hr:(decide (-(2:Int) ^ 63<=Nu (done.map ll)) && decide (Nu (done.map ll) < 2 ^ 63))=true
  ·rw [if_pos hr]
   rw [if_pos hr] at h
   exact LC (by simpa [Q8] using h)
  ·rw [if_neg hr]
   rw [if_neg hr] at h
   exact LA (NY (LC (by simpa [Q8] using h)))
theorem CJ {x y:List IK} {a b:Addr} {P:Fin->Shared->Prop} (hu:A.units < cLine) (hx:gW prog w s.heap x a) (hy:gW prog w s.heap y b) (h:P (.done (.ret (.bool (decide (x=y))))) s):
  wpAny (model prog w) A (Builtin.«tuple.__eq__» ⟨[.ref a,.ref b],[]⟩) P E s:=by
 have hTb:=hy.typeIs
 obtain ⟨oa,xs,na,hoa,_,hda,hia⟩:=hx
 obtain ⟨ob,ys,nb,hob,_,hdb,hib⟩:=hy
 show wpAny _ _ (UO (.ref b) (.type "tuple") >>= _) _ _ s
 refine LA (NP hTb Qi ?_)
 simp only [Pj,MM,if_false]
 refine LA (QY hoa hda ?_)
 refine LA (QY hob hdb ?_)
 refine LA ?_
 refine Qf _
  (fun cF r s'=>r.1=none/\s'=s/\∃ x' y' xs' ys',cF=List.zip xs' ys'/\Paired (cT prog w s.heap) x' xs'/\Paired (cT prog w s.heap) y' ys'/\decide (x'=y')=decide (x=y)/\(xs'.length == ys'.length)=(xs.size == ys.size))
  _ ?_ ?_ _ _ ⟨rfl,rfl,x,y,xs.toList,ys.toList,rfl,hia,hib,rfl,by simp⟩
 ·rintro ⟨u,v⟩ cF r s' ⟨hr,rfl,x',y',xs',ys',hz,hx',hy',hdec,hlen⟩
  cases hx' with
  | nil=>simp at hz
  | @cons k1 u' x'' xs'' h1 hx''=>
   cases hy' with
   | nil=>simp at hz
   | @cons k2 v' y'' ys'' h2 hy''=>
    simp only [Nq,RZ,Prod.mk.injEq] at hz
    obtain ⟨⟨rfl,rfl⟩,rfl⟩:=hz
    refine LA (IB (x:=k1) (y:=k2) hu h1 h2 ?_)
    by_cases hk:k1=k2
    ·subst hk
     rw [decide_eq_true rfl]
     simp only [Pj,MM,if_false]
     refine LC ⟨rfl,rfl,x'',y'',xs'',ys'',rfl,hx'',hy'',?_,by simpa using hlen⟩
     rw [<-hdec]
     by_cases hxy:x''=y''
     ·simp [hxy]
     ·simp [hxy]
    ·rw [decide_eq_false hk]
     simp only [Bool.not_false,if_true]
     have hf:decide (x=y)=false:=by rw [<-hdec]; simp [hk]
     rw [hf] at h
     exact LA (LC (LC (LC h)))
 ·rintro ⟨r1,r2⟩ s' ⟨hr,rfl,x',y',xs',ys',hz,hx',hy',hdec,hlen⟩
  simp only at hr
  subst hr
  refine LC ?_
  have hfin:(xs.size == ys.size)=decide (x=y):=by
   rw [<-hdec,<-hlen]
   cases hx' with
   | nil=>
    cases hy' with
    | nil=>simp
    | cons _ _=>simp
   | cons _ _=>
    cases hy' with
    | nil=>simp
    | cons _ _=>simp at hz
  show P (.done (.ret (.bool (xs.size == ys.size)))) s'
  rw [hfin]; exact h
theorem EL {x y:List IK} {a b:Addr} {Q:Bool->Shared->Prop} (hu:A.units + 1 < cLine) (hx:gW prog w s.heap x a) (hy:gW prog w s.heap y b) (h:Q (decide (x=y)) s):
  wpAny (model prog w) A (eqBool (.ref a) (.ref b)) Q E s:=by
 unfold eqBool
 try with_reducible refine MR ?_
 show wpAny _ _ (if (Mh a == Mh b)=true then _ else _) Q E s
 by_cases hab:(Mh a == Mh b)=true
 ·rw [if_pos hab]
  have e:a=b:=by have:=eq_of_beq hab; injection this
  subst e
  obtain rfl:=hx.inj hy
  exact LA (NY (LC (by simpa using h)))
 ·rw [if_neg hab]
  exact LA (wpAny_richCompare_same_room (op:=.Eq) hx.typeIs hy.typeIs Qw
   (Mu Qw hx.typeIs F.entry_tuple_eq (CJ hu hx hy ⟨_,rfl,(fun e=>nomatch e),NB h⟩) (F.args_tuple_eq_2 _ _)) (by omega))
theorem Bh {n:Nat} {ks:List IA} {a:Addr} {Q:Bool->Shared->Prop} (hk:UN (dj prog w) s.heap ks a) (h:Q true s):wpAny (model prog w) A (R3 (n + 1) (.ref a)) Q E s:=by
 have hT:=hk.typeIs
 obtain ⟨o,items,_,ho,_,hd,hi⟩:=hk
 unfold R3
 refine LA (Np hT Qw.lookup ?_)
 show wpAny _ _ (UO (.ref a) (.type "tuple") >>= _) _ _ s
 refine LA (NP hT Qi ?_)
 simp only [Pj,MM,if_false]
 refine LA (MG ho hd ?_)
 refine LA ?_
 show wpAny _ _ (forIn items _ _) _ _ s
 rw [<-OZ]
 refine Qf _ (fun cF r s'=>r.1=none/\s'=s/\∀ v∈cF,carriedByValue v=true) _ ?_ ?_ _ _ ⟨rfl,rfl,hi.byValue⟩
 ·rintro v cF r s' ⟨hr,rfl,hall⟩
  rw [TK _ (hall v LK)]
  refine LA (LC ?_)
  simp only [Pj,MM,if_false]
  exact LC ⟨rfl,rfl,fun u hu'=>hall u (LQ _ hu')⟩
 ·rintro ⟨r1,r2⟩ s' ⟨hr,rfl,_⟩
  simp only at hr
  subst hr
  exact LC h
theorem Gd {ks:List IK} {a:Addr} {Q:Bool->Shared->Prop} (hk:gW prog w s.heap ks a) (h:Q true s):wpAny (model prog w) A (R3 8 (.ref a)) Q E s:=by
 have hT:=hk.typeIs
 obtain ⟨o,items,n,ho,_,hd,hi⟩:=hk
 unfold R3
 refine LA (Np hT Qw.lookup ?_)
 show wpAny _ _ (UO (.ref a) (.type "tuple") >>= _) _ _ s
 refine LA (NP hT Qi ?_)
 simp only [Pj,MM,if_false]
 refine LA (MG ho hd ?_)
 refine LA ?_
 show wpAny _ _ (forIn items _ _) _ _ s
 rw [<-OZ]
 refine Qf _ (fun cF r s'=>r.1=none/\s'=s/\∃ ks,Paired (cT prog w s.heap) ks cF) _ ?_ ?_ _ _ ⟨rfl,rfl,ks,hi⟩
 ·rintro v cF r s' ⟨hr,rfl,ks,hall⟩
  cases hall with
  | @cons k _ ks' _ h1 hl=>
   refine LA ?_
   have fin:wpAny (model prog w) A (R3 7 v) (fun b s2=>b=true/\s2=s') E s':=by
    cases k with
    | inl a'=>rw [TK _ ((dj prog w).byValue _ _ h1)]; exact LC ⟨rfl,rfl⟩
    | inr as=>obtain ⟨b,rfl,q⟩:=h1; exact Bh (n:=6) q ⟨rfl,rfl⟩
   refine Nx fin (fun b s2 ⟨e1,e2⟩=>?_) fun _ _ x=>x
   subst e1 e2
   simp only [Pj,MM,if_false]
   exact LC ⟨rfl,rfl,ks',hl⟩
 ·rintro ⟨r1,r2⟩ s' ⟨hr,rfl,_⟩
  simp only at hr
  subst hr
  exact LC h
end
noncomputable def qw (prog:Program) (w:World):HeapKind prog w (List IK) where
 is:=gW prog w
 hash:=y9
 draws:=zR
 room:=fun A=>A.units + 1 < cLine
 inj:=fun hx hy=>hx.inj hy
 keeps:=fun x ho hd hs=>x.keeps ho hd hs
 pyHash:=fun hu hk h=>EK hu hk h
 eqBool:=fun hu hx hy h=>EL hu hx hy h
 quiet:=fun hk h=>Gd hk h
noncomputable def DA (a:Addr) (kvs:List (IA×V)) (h:Heap):Prop:=kvs.length<=LS/\(a == NG)=false/\∃ (P:Program) (w:World) (vs:List (IA×Value)),KV kvs vs/\h.DictOf (dj P w) a vs
noncomputable def ZX:List (List IK×Addr×V)->List (List IK×Addr×Value)->Prop:=Paired fun z x=>z.1=x.1/\z.2.1=x.2.1/\aJ z.2.2 x.2.2
noncomputable def DB (a:Addr) (zs:List (List IK×Addr×V)) (h:Heap):Prop:=zs.length<=LS/\(a == NG)=false/\∃ xs:List (List IK×Addr×Value),ZX zs xs/\
 ∃ o es ep,h.get? a=some o/\o.ExactDict/\o.data=.dict es ep/\es.toList=xs.map (fun x=>⟨y9 x.1,.ref x.2.1,x.2.2⟩)/\(xs.map (·.1)).Nodup
noncomputable def dA (a:Addr) (kvs:List (IA×V)):HO:=.ext (DA a kvs)
noncomputable def dB (a:Addr) (zs:List (List IK×Addr×V)):HO:=.ext (DB a zs)
noncomputable def atZ (zs:List (List IK×Addr×V)) (k:List IK):Option V:=(zs.find? fun p=>decide (p.1=k)).map (·.2.2)
noncomputable def Dx (H:Hp) (a:Addr) (s:Bool) (f:MK->Option V) (n:Nat):Prop:=
 (s=false/\∃ kvs,H a=some (dA a kvs)/\(∀ k,fU kvs k=f (.inl k))/\kvs.length<=n)\/
 (s=true/\∃ zs,H a=some (dB a zs)/\(∀ z∈zs,dg H (.ref z.2.1) (.inr z.1))/\(∀ k,atZ zs k=f (.inr k))/\zs.length<=n)
section
variable {H H':Hp} {a b:Addr} {s:Bool} {f g:MK->Option V} {n m:Nat}
theorem Dx.ext (h:Dx H a s f n):∃ φ,H a=some (.ext φ):=by
 rcases h with ⟨_,kvs,e,_⟩ | ⟨_,zs,e,_⟩
 ·exact ⟨_,e⟩
 ·exact ⟨_,e⟩
theorem Dx.keep (h:Dx H a s f n) (e:H' a=H a) (kp:gU H H'):Dx H' a s f n:=by
 rcases h with ⟨hs,kvs,h1,h2⟩ | ⟨hs,zs,h1,h2,h3⟩
 ·exact .inl ⟨hs,kvs,e.trans h1,h2⟩
 ·exact .inr ⟨hs,zs,e.trans h1,fun z hz=>(h2 z hz).keep kp,h3⟩
theorem Dx.same (h:Dx H a s f n) (q:am H H'):Dx H' a s f n:=by
 obtain ⟨φ,h1⟩:=h.ext
 exact h.keep ((q _ _ h1).trans h1.symm) q.keep
theorem Dx.le (h:Dx H a s f n) (e:n<=m):Dx H a s f m:=by
 rcases h with ⟨hs,kvs,h1,h2,h3⟩ | ⟨hs,zs,h1,h2,h3,h4⟩
 ·exact .inl ⟨hs,kvs,h1,h2,Mq h3 e⟩
 ·exact .inr ⟨hs,zs,h1,h2,h3,Mq h4 e⟩
theorem Dx.congr (h:Dx H a s f n) (e:∀ k,f k=g k):Dx H a s g n:=by
 rcases h with ⟨hs,kvs,h1,h2,h3⟩ | ⟨hs,zs,h1,h2,h3,h4⟩
 ·exact .inl ⟨hs,kvs,h1,fun k=>(h2 k).trans (e _),h3⟩
 ·exact .inr ⟨hs,zs,h1,h2,fun k=>(h3 k).trans (e _),h4⟩
end
end
noncomputable def zT:TE:=fun _ H Q=>∃ s,∀ p H',H p=none->am H H'->Dx H' p s (fun _=>none) 0->Q (.ref p) H'
theorem IC {σ:St} {H:Hp} {Q:VK} (s:Bool) (h:∀ p H',H p=none->am H H'->Dx H' p s (fun _=>none) 0->Q (.ref p) H'):zT σ H Q:=⟨s,h⟩
noncomputable def CK:R2:=fun x y H Q=>∃ a s f n k v,x=.ref a/\Dx H a s f n/\dg H y k/\ma k=s/\f k=some v/\Q v H
noncomputable def oG (f:MK->Option V) (k:MK) (v:V):MK->Option V:=fun j=>if j=k then some v else f j
noncomputable def zU:V->List V->Hp->VK->Prop:=fun x ys H Q=>∃ a s f n k y v,x=.ref a/\ys=[y,v]/\Dx H a s f n/\dg H y k/\ma k=s/\n < LS/\(∀ u,f k=some u->Q u H)/\
 (f k=none->∀ H',Off a H H'->Dx H' a s (oG f k v) (n + 1)->Q v H')
noncomputable def tXM (r:V->List V->Hp->VK->Prop) (to:TE) (t:TA):TE:=fun σ H Q=>to σ H fun x H1=>(∃ a s f n,x=.ref a/\Dx H1 a s f n)/\t σ H1 fun ys H2=>r x ys H2 Q
section
variable {σ:St} {H:Hp} {Q:VK} {a:Addr} {s:Bool} {f:MK->Option V} {n:Nat} {k:MK} {y v:V}
theorem Kc (d:Dx H a s f n) (hk:dg H y k) (hs:ma k=s) (e:f k=some v) (h:Q v H):CK (.ref a) y H Q:=⟨a,s,f,n,k,v,rfl,d,hk,hs,e,h⟩
theorem ID (d:Dx H a s f n) (hk:dg H y k) (hs:ma k=s) (hn:n < LS) (h1:∀ u,f k=some u->Q u H) (h2:f k=none->∀ H',Off a H H'->Dx H' a s (oG f k v) (n + 1)->Q v H'):zU (.ref a) [y,v] H Q:=⟨a,s,f,n,k,y,v,rfl,rfl,d,hk,hs,hn,h1,h2⟩
theorem Ly {r:V->List V->Hp->VK->Prop} {to:TE} {t:TA} (h:to σ H fun x H1=>(∃ a s f n,x=.ref a/\Dx H1 a s f n)/\t σ H1 fun ys H2=>r x ys H2 Q):tXM r to t σ H Q:=h
end
section
variable {α:Type} [DecidableEq α] {ks:List α} {i:Nat} {k:α}
noncomputable def gX (ks:List α) (i:Nat):α->Option V:=fun k=>if k∈ks.take i then some (.int (ks.idxOf k:Nat)) else none
theorem CL (hk:ks[i]?=some k) (h:k∈ks.take i) (j:α):gX ks i j=gX ks (i + 1) j:=by
 unfold gX
 rw [dh hk]
 by_cases q:j∈ks.take i
 ·rw [if_pos q,if_pos (NV _ q)]
 ·rw [if_neg q,if_neg]
  intro z
  rcases Mr.mp z with z | z
  ·exact q z
  ·rw [LG.mp z] at q; exact q h
theorem CM (hk:ks[i]?=some k) (h:k∉ks.take i) (j:α):(if j=k then some (V.int (i:Nat)) else gX ks i j)=gX ks (i + 1) j:=by
 unfold gX
 rw [dh hk]
 by_cases q:j=k
 ·subst q
  rw [if_pos rfl,if_pos (by simp),xS hk h]
 ·rw [if_neg q]
  by_cases z:j∈ks.take i
  ·rw [if_pos z,if_pos (NV _ z)]
  ·rw [if_neg z,if_neg]
   intro w
   rcases Mr.mp w with w | w
   ·exact z w
   ·exact q (LG.mp w)
theorem xU (h:k∈ks.take i):gX ks i k=some (.int (ks.idxOf k:Nat)):=if_pos h
theorem Bi (h:k∉ks.take i):gX ks i k=none:=if_neg h
theorem Bj (k:α):none=gX ks 0 k:=(if_neg (by simp)).symm
theorem zV (hk:ks[i]?=some k):(bc ks).take (i + 1)=(bc ks).take i++[ks.idxOf k]:=dh (by unfold bc; rw [LU,hk]; rfl)
end
end L2
section
namespace KM
noncomputable def aU:Nat->Nat
 | 0=>1
 | n + 1=>aU n * (n + 1)
noncomputable def choose:Nat->Nat->Nat
 | _,0=>1
 | 0,_ + 1=>0
 | n + 1,k + 1=>choose n k + choose n (k + 1)
theorem ir:∀ n,0 < aU n
 | 0=>by decide
 | n + 1=>T8 (ir n) (Tv n)
theorem jK (n:Nat):choose n 0=1:=by cases n <;> rfl
theorem md:∀ (n k:Nat),n < k->choose n k=0
 | _,0,h=>absurd h (N4 _)
 | 0,_ + 1,_=>rfl
 | n + 1,k + 1,h=>by rw [choose,md n k (by omega),md n (k + 1) (by omega)]
theorem sD:∀ n,choose n n=1
 | 0=>rfl
 | n + 1=>by rw [choose,sD n,md n (n + 1) (by omega)]
theorem gY:∀ (n k:Nat),k<=n->choose n k * (aU k * aU (n - k))=aU n
 | n,0,_=>by rw [jK,aU,Nat.sub_zero,T9,T9]
 | 0,_ + 1,h=>absurd h (by omega)
 | n + 1,k + 1,h=>by
  rw [choose,Ua]
  by_cases hk:k=n
  ·subst hk
   rw [sD,md k (k + 1) (by omega),Qx]
   simp [aU]
  ·have hk':k + 1<=n:=by omega
   have e1:=gY n k (by omega)
   have e2:=gY n (k + 1) hk'
   have s1:n + 1 - (k + 1)=n - k:=by omega
   have s2:n - k=(n - (k + 1)) + 1:=by omega
   rw [s1]
   have a1:choose n k * (aU (k + 1) * aU (n - k))=(k + 1) * aU n:=by
    rw [<-e1,aU]
    simp only [Nz,NO,Os]
   have a2:choose n (k + 1) * (aU (k + 1) * aU (n - k))=(n - k) * aU n:=by
    have s3:aU (n - k)=aU (n - (k + 1)) * (n - k):=by
     rw [s2,aU,<-s2]
    rw [<-e2,s3]
    simp only [Nz,NO,Os]
   rw [a1,a2,<-Ua,aU,NO]
   congr 1
   omega
theorem Bk (n k:Nat) (h:k + 1<=n):choose n k * (n - k) / (k + 1)=choose n (k + 1):=by
 have e1:=gY n k (by omega)
 have e2:=gY n (k + 1) h
 have s2:n - k=(n - (k + 1)) + 1:=by omega
 have p:0 < aU k * aU (n - (k + 1)):=T8 (ir _) (ir _)
 have q:choose n k * (n - k)=choose n (k + 1) * (k + 1):=by
  have:choose n k * (n - k) * (aU k * aU (n - (k + 1)))=choose n (k + 1) * (k + 1) * (aU k * aU (n - (k + 1))):=by
   have l:choose n k * (n - k) * (aU k * aU (n - (k + 1)))=aU n:=by
    rw [<-e1,show aU (n - k)=aU (n - (k + 1)) * (n - k) by rw [s2,aU,<-s2]]
    simp only [Nz,NO,Os]
   have r:choose n (k + 1) * (k + 1) * (aU k * aU (n - (k + 1)))=aU n:=by
    rw [<-e2,aU]
    simp only [Nz,NO,Os]
   rw [l,r]
  exact Q9 p this
 rw [q,Nat.mul_div_cancel _ (Tv k)]
noncomputable def cE:Nat->List Nat->Nat
 | _,[]=>1
 | n,s :: r=>choose n s * cE (n - s) r
theorem uB:∀ (ss:List Nat) (n:Nat),ss.sum<=n->cE n ss * ((ss.map aU).foldr (· * ·) 1 * aU (n - ss.sum))=aU n
 | [],n,_=>by simp [cE]
 | s :: r,n,h=>by
  rw [Mi] at h
  have ih:=uB r (n - s) (by omega)
  have c:=gY n s (by omega)
  rw [cE,LZ,List.foldr_cons,Mi,<-c,<-ih,Nat.sub_sub]
  simp only [Nz,NO,Os]
end KM
end
section
namespace KM
noncomputable def rE (room:List Nat) (w:List Nat):List Nat:=(LV room.length).filter fun j=>decide (w.count j < room.getD j 0)
noncomputable def grow (room:List Nat) (ws:List (List Nat)):List (List Nat):=ws.flatMap fun w=>(rE room w).map fun j=>w++[j]
noncomputable def cq (room:List Nat):Nat->List (List Nat)
 | 0=>[[]]
 | i + 1=>grow room (cq room i)
noncomputable def words:Nat->List Nat->Nat
 | 0,_=>1
 | n + 1,r=>(((LV r.length).filter fun j=>decide (0 < r.getD j 0)).map fun j=>words n (r.set j (r.getD j 0 - 1))).sum
noncomputable def left (room w:List Nat):List Nat:=(LV room.length).map fun j=>room.getD j 0 - w.count j
theorem ln (room w:List Nat):(left room w).length=room.length:=by unfold left; rw [LF,MX]
theorem zW (room w:List Nat) (j:Nat) (h:j < room.length):(left room w).getD j 0=room.getD j 0 - w.count j:=by
 unfold left
 rw [LO,LU,M1 h]
 rfl
theorem EM (room w:List Nat) (j:Nat) (h:j < room.length):left room (w++[j])=(left room w).set j ((left room w).getD j 0 - 1):=by
 apply Ni
 intro k
 by_cases hk:k < room.length
 ·have e1:(left room (w++[j]))[k]?=some (room.getD k 0 - (w++[j]).count k):=by
   unfold left
   rw [LU,M1 hk]
   rfl
  rw [e1,N1,zW room w j h,ln]
  by_cases hjk:j=k
  ·subst hjk
   rw [if_pos rfl,if_pos h,Rl]
   simp
   omega
  ·rw [if_neg hjk]
   unfold left
   rw [LU,M1 hk,Rl]
   simp [UP,hjk]
 ·rw [Md (by rw [ln]; omega),Md (by rw [NI,ln]; omega)]
theorem CN (room w:List Nat):rE room w=(LV (left room w).length).filter fun j=>decide (0 < (left room w).getD j 0):=by
 unfold rE
 rw [ln]
 apply List.filter_congr
 intro j hj
 rw [MZ] at hj
 rw [zW room w j hj]
 by_cases h:w.count j < room.getD j 0
 ·simp [h]
  omega
 ·simp [h]
  omega
noncomputable def rF (room:List Nat):Nat->List (List Nat)->List (List Nat)
 | 0,ws=>ws
 | n + 1,ws=>rF room n (grow room ws)
theorem m5 (room:List Nat):∀ n i,rF room n (cq room i)=cq room (i + n)
 | 0,i=>rfl
 | n + 1,i=>by
  rw [rF,show grow room (cq room i)=cq room (i + 1) from rfl,m5 room n (i + 1)]
  congr 1
  omega
theorem mh (f:List Nat->Nat) (room:List Nat):∀ ws:List (List Nat),((grow room ws).map f).sum=(ws.map fun w=>((rE room w).map fun j=>f (w++[j])).sum).sum
 | []=>rfl
 | w :: r=>by
  have ih:=mh f room r
  unfold grow at ih ⊢
  rw [Rm,Mf,Nn,ih,LZ,Mi,Oy]
  rfl
theorem qx (room:List Nat):∀ (n:Nat) (ws:List (List Nat)),(rF room n ws).length=(ws.map fun w=>words n (left room w)).sum
 | 0,ws=>by
  rw [rF]
  induction ws with
  | nil=>rfl
  | cons w r ih=>rw [Ml,ih,LZ,Mi,words]; omega
 | n + 1,ws=>by
  rw [rF,qx room n,mh]
  congr 1
  apply NF
  intro w _
  rw [words,CN]
  congr 1
  apply NF
  intro j hj
  have hj':=Oj.mp hj
  rw [MZ,ln] at hj'
  rw [EM room w j hj'.1]
noncomputable def cL (r:List Nat):Nat:=(r.map aU).foldr (· * ·) 1
theorem gC (a:Nat) (r:List Nat):cL (a :: r)=aU a * cL r:=rfl
theorem xV:∀ r,0 < cL r
 | []=>by decide
 | a :: r=>T8 (ir a) (xV r)
theorem xW:∀ (r:List Nat) (j:Nat),j < r.length->0 < r.getD j 0->cL r=cL (r.set j (r.getD j 0 - 1)) * r.getD j 0
 | [],j,h,_=>absurd h (by simp)
 | a :: r,0,_,h=>by
  have h':0 < a:=h
  show cL (a :: r)=cL ((a - 1) :: r) * a
  rw [gC,gC]
  obtain ⟨b,rfl⟩:∃ b,a=b + 1:=⟨a - 1,by omega⟩
  rw [show b + 1 - 1=b by omega,aU]
  simp only [Nz,NO,Os]
 | a :: r,j + 1,h,hp=>by
  have ih:=xW r j (by simpa using h) hp
  show cL (a :: r)=cL (a :: r.set j (r.getD j 0 - 1)) * r.getD j 0
  rw [gC,gC,ih]
  simp only [Nz,NO,Os]
theorem wF:∀ (r:List Nat) (j:Nat),j < r.length->0 < r.getD j 0->(r.set j (r.getD j 0 - 1)).sum + 1=r.sum
 | [],j,h,_=>absurd h (by simp)
 | a :: r,0,_,h=>by
  have h':0 < a:=h
  show ((a - 1) :: r).sum + 1=(a :: r).sum
  rw [Mi,Mi]
  omega
 | a :: r,j + 1,h,hp=>by
  have ih:=wF r j (by simpa using h) hp
  show (a :: r.set j (r.getD j 0 - 1)).sum + 1=(a :: r).sum
  rw [Mi,Mi]
  omega
theorem wG (c:Nat) (f:Nat->Nat):∀ l:List Nat,(l.map f).sum * c=(l.map fun j=>f j * c).sum
 | []=>by simp
 | a :: r=>by rw [LZ,Mi,Ua,wG c f r,LZ,Mi]
theorem zX (r:List Nat):(((LV r.length).filter fun j=>decide (0 < r.getD j 0)).map fun j=>r.getD j 0).sum=r.sum:=by
 have go:∀ (l:List Nat) (g:Nat->Nat),((l.filter fun j=>decide (0 < g j)).map g).sum=(l.map g).sum:=by
  intro l g
  induction l with
  | nil=>rfl
  | cons a t ih=>
   rw [NS]
   by_cases h:0 < g a
   ·rw [if_pos (by simpa using h),LZ,Mi,ih,LZ,Mi]
   ·rw [if_neg (by simpa using h),ih,LZ,Mi]
    omega
 rw [go]
 congr 1
 apply Ni
 intro k
 rw [LU]
 by_cases hk:k < r.length
 ·rw [M1 hk,LD hk]
  show some (r.getD k 0)=some r[k]
  rw [LO,LD hk]
  rfl
 ·rw [Md (by simpa using hk),Md (by simpa using hk)]
  rfl
theorem oH:∀ (n:Nat) (r:List Nat),r.sum=n->words n r * cL r=aU n
 | 0,r,h=>by
  have:cL r=1:=by
   induction r with
   | nil=>rfl
   | cons a t ih=>
    rw [Mi] at h
    have ha:a=0:=by omega
    subst ha
    rw [gC,ih (by omega)]
    rfl
  rw [words,this]
  rfl
 | n + 1,r,h=>by
  rw [words,wG]
  have e:((LV r.length).filter fun j=>decide (0 < r.getD j 0)).map (fun j=>words n (r.set j (r.getD j 0 - 1)) * cL r)=((LV r.length).filter fun j=>decide (0 < r.getD j 0)).map (fun j=>r.getD j 0 * aU n):=by
   apply NF
   intro j hj
   have hj':=Oj.mp hj
   rw [MZ] at hj'
   have hp:0 < r.getD j 0:=of_decide_eq_true hj'.2
   rw [xW r j hj'.1 hp,<-Nz,oH n _ (by have:=wF r j hj'.1 hp; omega),NO]
  rw [e,<-wG,zX,h,aU,NO]
theorem Ge (room:List Nat):left room []=room:=by
 apply Ni
 intro k
 unfold left
 rw [LU]
 by_cases hk:k < room.length
 ·rw [M1 hk,LD hk]
  show some (room.getD k 0 - ([]:List Nat).count k)=some room[k]
  rw [LO,LD hk]
  simp
 ·rw [Md (by simpa using hk),Md (by simpa using hk)]
  rfl
theorem EN (room:List Nat):(cq room room.sum).length * cL room=aU room.sum:=by
 have e:=m5 room room.sum 0
 rw [Nat.zero_add] at e
 rw [<-e,qx]
 show (List.map (fun w=>words room.sum (left room w)) [[]]).sum * cL room=aU room.sum
 rw [LZ,O8,Mi,Pa,Ge,Nat.add_zero]
 exact oH _ _ rfl
structure HM (room:List Nat) (i:Nat) (w:List Nat):Prop where
 len:w.length=i
 all:∀ j∈w,j < room.length
 cnt:∀ j,j < room.length->w.count j<=room.getD j 0
theorem gZ (room:List Nat):∀ i,∀ w∈cq room i,HM room i w
 | 0,w,h=>by
  have:w=[]:=by simpa [cq] using h
  subst this
  exact ⟨rfl,fun _ h=>(nomatch h),fun j _=>by simp⟩
 | i + 1,w,h=>by
  rw [cq,grow,Uq] at h
  obtain ⟨v,hv,h⟩:=h
  obtain ⟨j,hj,rfl⟩:=Nr.mp h
  have b:=gZ room i v hv
  have hj':=Oj.mp hj
  rw [MZ] at hj'
  have hc:v.count j < room.getD j 0:=of_decide_eq_true hj'.2
  refine ⟨by rw [L7,b.len]; rfl,fun k hk=>?_,fun k hk=>?_⟩
  ·rcases Mr.mp hk with hk | hk
   ·exact b.all k hk
   ·rw [LG] at hk
    omega
  ·rw [Rl]
   by_cases e:j=k
   ·subst e
    rw [List.count_singleton_self]
    omega
   ·have:=b.cnt k hk
    rw [List.count_singleton,if_neg (by simpa using e)]
    omega
theorem uC:∀ (n:Nat) (w:List Nat),(∀ j∈w,j < n)->((LV n).map fun j=>w.count j).sum=w.length
 | n,[] , _=>by
  have:((LV n).map fun j=>([]:List Nat).count j)=(LV n).map fun _=>0:=by simp
  rw [this]
  have go:∀ m,((LV m).map fun _=>0).sum=0:=by
   intro m
   induction m with
   | zero=>rfl
   | succ m ih=>rw [N5,Mf,Nn,ih]; rfl
  exact go n
 | n,a :: w,h=>by
  have ih:=uC n w fun j hj=>h j (LQ _ hj)
  have ha:a < n:=h a LK
  rw [Ml,<-ih]
  clear ih h
  have go:∀ m,((LV m).map fun j=>(a :: w).count j).sum=((LV m).map fun j=>w.count j).sum + (if a < m then 1 else 0):=by
   intro m
   induction m with
   | zero=>simp
   | succ m ih=>
    rw [N5,Mf,Nn,Mf,Nn,ih]
    simp only [LZ,O8,Mi,Pa,UP]
    by_cases e:a=m
    ·subst e
     rw [if_neg (MV a),if_pos (Nt a),if_pos (beq_self_eq_true a)]
     omega
    ·rw [if_neg (show ¬ (a == m)=true by simpa using e)]
     by_cases hl:a < m
     ·rw [if_pos hl,if_pos (show a < m + 1 by omega)]
      omega
     ·rw [if_neg hl,if_neg (show ¬ a < m + 1 by omega)]
      omega
  rw [go,if_pos ha]
theorem oI (room:List Nat):(LV room.length).map (fun j=>room.getD j 0)=room:=by
 apply Ni
 intro k
 rw [LU]
 by_cases hk:k < room.length
 ·rw [M1 hk,LD hk]
  show some (room.getD k 0)=some room[k]
  rw [LO,LD hk]
  rfl
 ·rw [Md (by simpa using hk),Md (by simpa using hk)]
  rfl
end KM
end
section
namespace KM
theorem EO (n k:Nat):choose n k<=2 ^ n:=by
 induction n generalizing k with
 | zero=>cases k <;> simp [choose]
 | succ n ih=>
  cases k with
  | zero=>rw [jK]; exact Nat.one_le_two_pow
  | succ k=>
   rw [choose,Nat.pow_succ]
   have:=ih k
   have:=ih (k + 1)
   omega
theorem zY {n i:Nat} (h:i + 1<=n):((choose n i:Nat):Int) * ((n:Int) - (0 + (i:Int))) / (0 + (i:Int) + 1)=((choose n (i + 1):Nat):Int):=by
 have e1:(n:Int) - (0 + (i:Int))=((n - i:Nat):Int):=by omega
 have e2:(0 + (i:Int) + 1)=((i + 1:Nat):Int):=by omega
 rw [e1,e2,<-R5,<-Ur,Bk n i h]
theorem sE (n:Nat) (ss:List Nat) (h:ss.sum<=n):cE n ss * cL (ss++[n - ss.sum])=aU n:=by
 have e:cL (ss++[n - ss.sum])=(ss.map aU).foldr (· * ·) 1 * aU (n - ss.sum):=by
  generalize n - ss.sum=k
  induction ss with
  | nil=>simp [cL]
  | cons a r ih=>
   have hr:r.sum<=n:=by rw [Mi] at h; omega
   show aU a * cL (r++[k])=aU a * (r.map aU).foldr (· * ·) 1 * aU k
   rw [ih hr,Nz]
 rw [e]
 exact uB ss n h
theorem m6 {n:Nat} {ss:List Nat} (h:ss.sum<=n):(cq (ss++[n - ss.sum]) n).length=cE n ss:=by
 have e1:=sE n ss h
 have hs:(ss++[n - ss.sum]).sum=n:=by
  rw [Nn,Mi,Pa]
  omega
 have e2:=EN (ss++[n - ss.sum])
 rw [hs] at e2
 exact Q9 (xV _) (e2.trans e1.symm)
theorem words_pos (n:Nat) (r:List Nat) (h:r.sum=n):0 < words n r:=by
 have e:=oH n r h
 have f:=ir n
 rcases Pw (words n r) with z | z
 ·rw [z,Nat.zero_mul] at e
  omega
 ·exact z
theorem Gf {room w:List Nat} {i:Nat} (h:HM room i w):(left room w).sum + i=room.sum:=by
 have go:∀ m,m<=room.length->((LV m).map fun j=>room.getD j 0 - w.count j).sum + ((LV m).map fun j=>w.count j).sum=((LV m).map fun j=>room.getD j 0).sum:=by
  intro m
  induction m with
  | zero=>intro _; rfl
  | succ m ih=>
   intro hm
   have:=ih (by omega)
   have:=h.cnt m (by omega)
   simp only [N5,Mf,Nn,LZ,O8,Mi,Pa] at *
   omega
 have e:=go room.length (LH _)
 rw [uC room.length w h.all,oI,h.len] at e
 exact e
theorem Gg {room:List Nat} {i:Nat} (h:i<=room.sum):(cq room i).length<=(cq room room.sum).length:=by
 have e:=m5 room (room.sum - i) i
 rw [show i + (room.sum - i)=room.sum by omega] at e
 rw [<-e,qx]
 have hb:=gZ room i
 generalize cq room i=ws at hb
 induction ws with
 | nil=>exact MI _
 | cons w r ih=>
  rw [LZ,Mi,Ml]
  have:=ih fun v hv=>hb v (LQ _ hv)
  have:=words_pos (room.sum - i) (left room w) (by have:=Gf (hb w LK); omega)
  omega
theorem Kd:∀ (rs:List Nat) (m:Nat),rs.foldl (fun f s=>f / aU s) (m * cL rs)=m
 | [],m=>by simp [cL]
 | a :: r,m=>by
  rw [UF,gC]
  have e:m * (aU a * cL r) / aU a=m * cL r:=by
   rw [<-Nz,NO m,Nz,Nat.mul_div_cancel_left _ (ir a)]
  rw [e]
  exact Kd r m
noncomputable def eW (room w:List Nat) (k:Nat):List Nat:=(LV k).filter fun j=>decide (w.count j < room.getD j 0)
theorem sF (room w:List Nat):eW room w room.length=rE room w:=rfl
theorem zZ (room w:List Nat) (k:Nat):eW room w (k + 1)=eW room w k++(if w.count k < room.getD k 0 then [k] else []):=by
 unfold eW
 rw [N5,Px]
 by_cases h:w.count k < room.getD k 0
 ·rw [if_pos h,PR (by simpa using h)]
  rfl
 ·rw [if_neg h,PU (by simpa using h)]
  rfl
theorem EQ (room:List Nat) (ws:List (List Nat)) (i:Nat) (w:List Nat) (h:ws[i]?=some w):grow room (ws.take (i + 1))=grow room (ws.take i)++(rE room w).map fun j=>w++[j]:=by
 unfold grow
 rw [Nv,h,QG]
 simp
theorem Aa (room:List Nat) (ws:List (List Nat)) (i:Nat):(grow room (ws.take i)).length<=(grow room ws).length:=by
 have:grow room ws=grow room (ws.take i)++grow room (ws.drop i):=by
  unfold grow
  rw [<-QG,O9]
 rw [this,L7]
 omega
end KM
end
namespace L2
open PySem PyProof.Rows
section
variable {K:Fg} {vs:List V} {H:Hp} {Q:VK} {E:XK}
noncomputable def ER:V->Bool
 | .int _=>true
 | _=>false
noncomputable def cA:V->Int->Int->Bool
 | .int i,lo,hi=>decide (lo<=i) && decide (i<=hi)
 | _,_,_=>false
noncomputable def eO (K:Fg) (H:Hp) (x:V):Prop:=∃ t b1 b2,fo K H x t/\ML K t (.type "int")=some b1/\ML K t (.type "bool")=some b2/\(b1 && !b2)=ER x
theorem eO.int {K:Fg} {H:Hp} (i:Int):eO K H (.int i):=⟨_,_,_,.int i,Be K,zG K,rfl⟩
theorem ES {K:Fg} {H H':Hp} {x:V} {t:Value} (h:fo K H x t) (s:am H H'):fo K H' x t:=by
 cases h with
 | non=>exact .non
 | bl b=>exact .bl b
 | int i=>exact .int i
 | str x=>exact .str x
 | flt x=>exact .flt x
 | lst e=>exact .lst (s _ _ e)
 | frz e=>exact .frz (s _ _ e)
 | tup e=>exact .tup (s _ _ e)
 | dK e=>exact .dK (s _ _ e)
 | dT e=>exact .dT (s _ _ e)
 | ins e cl ha hn htk hm=>exact .ins (s _ _ e) cl ha hn htk hm
theorem eO.same {K:Fg} {H H':Hp} {x:V} (h:eO K H x) (s:am H H'):eO K H' x:=by
 obtain ⟨t,b1,b2,ty,r⟩:=h
 exact ⟨t,b1,b2,ES ty s,r⟩
noncomputable def IE (K:Fg):Sp:=fun vs H Q _=>∃ x,vs=[x]/\eO K H x/\Q (.bl (ER x)) H
noncomputable abbrev g0 (K:Fg):Sp:=IE K
noncomputable def uD (K:Fg):TS:=(aI (on (tCB (lh K) (aa (ac 0) (aa (tC (.ty "int")) af))) (yX (tCB (lh K) (aa (ac 0) (aa (tC (.ty "bool")) af))))))
theorem Bl (h:g0 K vs H Q E):uD K { nx:=fun _ H'=>Q .non H',rt:=Q } (start ["thing"] vs) H:=by
 obtain ⟨x,rfl,⟨t,b1,b2,ty,k1,k2,e⟩,q⟩:=h
 refine ⟨_,rfl,_,_,_,_,rfl,ty,k1,_,rfl,iK (fun c=>?_) (fun c=>?_)⟩
 ·subst c
  refine ⟨_,rfl,_,_,_,_,rfl,ty,k2,_,rfl,?_⟩
  rw [<-e,Qb] at q
  exact q
 ·subst c
  rw [<-e,QH] at q
  exact q
noncomputable def Gh (K:Fg):Sp:=fun vs H Q _=>∃ x lo hi,vs=[x,.int lo,.int hi]/\eO K H x/\Q (.bl (cA x lo hi)) H
noncomputable abbrev dS (K:Fg):Sp:=Gh K
noncomputable def sG (K:Fg):TS:=(aI (on (av (g0 K) [] E0 (aa (ac 0) af)) (zx (rI0 fun i j=>.bl (decide (i<=j))) (rI0 fun i j=>.bl (decide (i<=j))) (ac 1) (ac 0) (ac 2))))
theorem Ab (h:dS K vs H Q E):sG K { nx:=fun _ H'=>Q .non H',rt:=Q } (start ["thing","least","most"] vs) H:=by
 obtain ⟨x,lo,hi,rfl,pl,q⟩:=h
 refine ⟨_,rfl,x,rfl,pl,_,rfl,iK (fun c=>?_) (fun c=>?_)⟩
 ·cases x with
  | int i=>
   refine ⟨_,rfl,_,rfl,_,_,rfl,rfl,_,rfl,iK (fun d=>?_) (fun d=>?_)⟩
   ·refine ⟨_,rfl,_,_,rfl,rfl,?_⟩
    have q':Q (.bl (decide (lo<=i) && decide (i<=hi))) H:=q
    rw [d,Qb] at q'
    exact q'
   ·have q':Q (.bl (decide (lo<=i) && decide (i<=hi))) H:=q
    rw [d,QH] at q'
    exact q'
  | _=>cases c
 ·cases x with
  | int i=>cases c
  | _=>exact q
noncomputable def m7 (zs:List V):Int:=(zs.map fun z=>match z with | .int i=>i | _=>0).sum
noncomputable def HN (x:V) (zs:List V):Bool:=match x with
 | .int c=>(decide (0<=c) && decide (c<=12)) && (decide (1<=zs.length) && decide (zs.length<=5)) && zs.all (fun z=>cA z 0 c) && decide (m7 zs<=c)
 | _=>false
theorem wH {zs:List V} {lo hi:Int} (h:zs.all (fun z=>cA z lo hi)=true):∃ ns:List Int,zs=ns.map V.int/\m7 zs=ns.sum:=by
 induction zs with
 | nil=>exact ⟨[],rfl,rfl⟩
 | cons z r ih=>
  rw [Ph,Nc] at h
  obtain ⟨ns,e,es⟩:=ih h.2
  cases z with
  | int i=>
   refine ⟨i :: ns,by rw [e]; rfl,?_⟩
   show i + m7 r=(i :: ns).sum
   rw [es,Mi]
  | _=>exact absurd h.1 LR
noncomputable def HP (K:Fg) (H:Hp) (y:V) (zs:Option (List V)):Prop:=match zs with
 | some zs=>∃ a,y=.ref a/\(H a=some (.lst zs)\/∃ o,H a=some (.frz o (.lst zs)))/\zs.length<=1000/\∀ z∈zs,eO K H z
 | none=>∃ t,fo K H y t/\ML K t (.type "list")=some false
noncomputable def uE (x:V):Option (List V)->Bool
 | some zs=>HN x zs
 | none=>false
noncomputable def Ke (K:Fg):Sp:=fun vs H Q _=>∃ x y zs,vs=[x,y]/\eO K H x/\HP K H y zs/\∀ H',am H H'->Q (.bl (uE x zs)) H'
noncomputable abbrev oJ (K:Fg):Sp:=Ke K
noncomputable def xX (K:Fg):TS:=(ap (bq (fS (tB (av (dS K) [] E0 (aa (ac 0) (aa (tC (.int 0)) (aa (tC (.int 12)) af)))))) (aI (tC (.bl false))) aZ)
 (ap (bq (tOr (fS (tB (tCB (lh K) (aa (ac 1) (aa (tC (.ty "list")) af))))) (fS (tB (av (dS K) [] E0 (aa (tCB (bV K) (aa (ac 1) af)) (aa (tC (.int 1)) (aa (tC (.int 5)) af))))))) (aI (tC (.bl false))) aZ)
 (aI (on (tCB (CA K) (aa (bT (dt K (ac 1)) (fun _ _ _ _=>(aj 0)) (fun _ _ _ _=>bB) (fun _ _ _ _=>(av (dS K) [] E0 (aa (ac 0) (aa (tC (.int 0)) (aa (ac 1) af))))) [none,some 0]) af)) (tOp (rI0 fun i j=>.bl (decide (i<=j))) (tCB (tz K) (aa (ac 1) af)) (ac 0))))))
theorem CO (h:oJ K vs H Q E):xX K { nx:=fun _ H'=>Q .non H',rt:=Q } (start ["cards","sizes"] vs) H:=by
 obtain ⟨x,y,zs,rfl,px,hz,q⟩:=h
 refine ⟨_,rfl,x,0,12,rfl,px,_,rfl,iK (fun c=>?_) (fun c=>?_)⟩
 ·
  have e:uE x zs=false:=by
   have c':cA x 0 12=false:=by simpa using c
   cases zs with
   | none=>rfl
   | some zs=>
    cases x with
    | int i=>
     show ((decide (0<=i) && decide (i<=12)) && (decide (1<=zs.length) && decide (zs.length<=5)) && zs.all (fun z=>cA z 0 i) && decide (m7 zs<=i))=false
     rw [show (decide (0<=i) && decide (i<=12))=false from c']
     rfl
    | _=>rfl
  have:=q H (am.refl H)
  rw [e] at this
  exact this
 ·have c':cA x 0 12=true:=by simpa using c
  cases x with
  | int i=>
   cases zs with
   | none=>
    obtain ⟨t,ty,k⟩:=hz
    refine ⟨_,rfl,_,_,_,_,rfl,ty,k,_,rfl,ql (ql ?_)⟩
    exact q H (am.refl H)
   | some zs=>
    obtain ⟨a,rfl,ha,hlen,hp⟩:=hz
    have hS:SqL K H a zs:=ha.elim (fun h=>.inl (.inl h)) (fun h=>.inl (.inr h))
    have ty:fo K H (.ref a) (.type "list"):=ha.elim (fun h=>.lst h) (fun ⟨o,h⟩=>.frz h)
    refine ⟨_,rfl,_,_,_,_,rfl,ty,sx K,_,rfl,ox ?_⟩
    refine ⟨_,rfl,a,_,rfl,.inl hS,_,1,5,rfl,eO.int _,_,rfl,iK (fun d=>?_) (fun d=>?_)⟩
    ·have e:uE (.int i) (some zs)=false:=by
      have d0:cA (.int (zs.length:Int)) 1 5=false:=by simpa using d
      have d':(decide ((1:Int)<=(zs.length:Int)) && decide ((zs.length:Int)<=5))=false:=d0
      show ((decide (0<=i) && decide (i<=12)) && (decide (1<=zs.length) && decide (zs.length<=5)) && zs.all (fun z=>cA z 0 i) && decide (m7 zs<=i))=false
      have e1:decide (1<=zs.length)=decide ((1:Int)<=(zs.length:Int)):=decide_eq_decide.mpr (by omega)
      have e2:decide (zs.length<=5)=decide ((zs.length:Int)<=5):=decide_eq_decide.mpr (by omega)
      rw [e1,e2,d',Sm]
      rfl
     have:=q H (am.refl H)
     rw [e] at this
     exact this
    ·have d0:cA (.int (zs.length:Int)) 1 5=true:=by simpa using d
     have d':(decide ((1:Int)<=(zs.length:Int)) && decide ((zs.length:Int)<=5))=true:=d0
     have e0:uE (.int i) (some zs)=(zs.all (fun z=>cA z 0 i) && decide (m7 zs<=i)):=by
      show ((decide (0<=i) && decide (i<=12)) && (decide (1<=zs.length) && decide (zs.length<=5)) && zs.all (fun z=>cA z 0 i) && decide (m7 zs<=i))=_
      have e1:decide (1<=zs.length)=decide ((1:Int)<=(zs.length:Int)):=decide_eq_decide.mpr (by omega)
      have e2:decide (zs.length<=5)=decide ((zs.length:Int)<=5):=decide_eq_decide.mpr (by omega)
      rw [e1,e2,d',show (decide (0<=i) && decide (i<=12))=true from c',Qb,Qb]
     rw [e0] at q
     refine ⟨_,rfl,a,rfl,⟨_,hS⟩,fun p hp'=>xN (K:=K) (a:=a) (xs:=zs) (fun k acc H2=>acc=((zs.take k).map fun z=>cA z 0 i).map V.bl/\am H H2/\H2 p=some (.lst acc)) ⟨rfl,ba hp' _,aA⟩ ?_ ?_ (small hlen) ?_ ?_⟩
     ·rintro k acc H2 hk ⟨rfl,s2,e2⟩
      exact ⟨e2,by rw [LF,LF,NM]; omega⟩
     ·rintro k acc H2 hk ⟨rfl,s2,e2⟩
      exact s2.seq hS
     ·rintro _ _ _ _ k z acc H2 hzk ⟨rfl,s2,e2⟩
      refine ⟨_,rfl,_,rfl,z,0,i,rfl,(hp z (LX hzk)).same s2,e2,?_,s2.upd hp' _,aA⟩
      rw [Nv,hzk,Mf,Mf]
      rfl
     ·rintro acc H2 ⟨rfl,s2,e2⟩
      rw [Mx] at e2
      refine ⟨p,_,rfl,SqL.of e2,_,rfl,?_⟩
      have ea:(zs.map fun z=>cA z 0 i).all id=zs.all fun z=>cA z 0 i:=by
       rw [Qs]
       rfl
      rw [ea]
      refine iK (fun g=>?_) (fun g=>?_)
      ·obtain ⟨ns,en,es⟩:=wH g
       rw [g,Qb,es] at q
       refine ⟨_,rfl,a,ns,rfl,by rw [<-en]; exact s2.seq hS,_,rfl,_,_,rfl,rfl,?_⟩
       exact q H2 s2
      ·rw [g,QH] at q
       exact q H2 s2
  | _=>exact absurd c' LR
noncomputable def ET:Sp:=fun vs H Q _=>∃ n k:Nat,vs=[.int n,.int k]/\k<=n/\n<=50/\Q (.int (KM.choose n k:Nat)) H
noncomputable abbrev oK (K:Fg):Sp:=ET
noncomputable def xY (K:Fg):TS:=(ap (aE (tC (.int 1)) (aj 2))
 (ap (cu (cD (aa (ac 1) af)) (aj 3) (aE (tOp (rI fm fun i j=>.int (i / j)) (tOp (rI OR fun i j=>.int (i * j)) (ac 2) (tOp (rI0 fun i j=>.int (i - j)) (ac 0) (ac 3))) (tOp (rI0 fun i j=>.int (i + j)) (ac 3) (tC (.int 1)))) (aj 2)))
 (aI (ac 2))))
theorem CP (h:oK K vs H Q E):xY K { nx:=fun _ H'=>Q .non H',rt:=Q } (start ["many","taken","ways","step"] vs) H:=by
 obtain ⟨n,k,rfl,hk,hn,q⟩:=h
 refine ⟨_,rfl,_,rfl,by omega,by omega,qg (lo:=0) (n:=((k:Nat):Int).toNat) (fun i σ H2=>∃ st,σ=[some (.int n),some (.int k),some (.int (KM.choose n i:Nat)),st]/\H2=H) ⟨none,by rw [KM.jK]; rfl,rfl⟩ ?_ ?_⟩
 ·rintro i σ H2 hi ⟨st,rfl,rfl⟩
  have hi':i + 1<=n:=by omega
  refine ⟨_,rfl,_,rfl,_,rfl,_,_,rfl,rfl,_,_,rfl,rfl,.of_right (intBits_le_64 (by omega) (by omega)),_,rfl,_,_,rfl,rfl,_,_,rfl,rfl,⟨by omega,by omega⟩,?_⟩
  dsimp only
  rw [KM.zY hi']
  exact ⟨_,rfl,rfl⟩
 ·rintro σ H2 ⟨st,rfl,rfl⟩
  refine ⟨_,rfl,?_⟩
  rw [show ((k:Nat):Int).toNat=k by omega]
  exact q
structure qy (c:Nat) (ss:List Nat):Prop where
 c12:c<=12
 l1:1<=ss.length
 l5:ss.length<=5
 sum:ss.sum<=c
noncomputable def au (ss:List Nat):List V:=ss.map fun (s:Nat)=>V.int ((s:Nat):Int)
theorem dJ (ss:List Nat):au ss=(ss.map fun (s:Nat)=>((s:Nat):Int)).map V.int:=by unfold au; rw [Oy]; rfl
theorem bh (ss:List Nat):(au ss).length=ss.length:=LF _
theorem iu:∀ ss:List Nat,(ss.map fun (s:Nat)=>((s:Nat):Int)).sum=((ss.sum:Nat):Int)
 | []=>rfl
 | a :: r=>by rw [LZ,Mi,Mi,iu r]; omega
theorem iN:∀ {ss:List Nat} {s:Nat},s∈ss->s<=ss.sum
 | a :: r,s,h=>by
  rw [Mi]
  rcases LI.mp h with rfl | h
  ·omega
  ·have:=iN h
   omega
theorem Gi {c:Nat} {ss:List Nat} (p:qy c ss):HN (.int c) (au ss)=true:=by
 have h1:=p.c12
 have h2:=p.l1
 have h3:=p.l5
 have h4:=p.sum
 show ((decide ((0:Int)<=(c:Int)) && decide ((c:Int)<=12)) && (decide (1<=(au ss).length) && decide ((au ss).length<=5)) && (au ss).all (fun z=>cA z 0 c) && decide (m7 (au ss)<=c))=true
 have e1:(au ss).all (fun z=>cA z 0 c)=true:=by
  unfold au
  rw [Qs,Uj]
  intro s hs
  have:=iN hs
  show (decide ((0:Int)<=(s:Int)) && decide ((s:Int)<=(c:Int)))=true
  rw [decide_eq_true (by omega),decide_eq_true (by omega)]
  rfl
 have e2:m7 (au ss)=((ss.sum:Nat):Int):=by
  rw [<-iu]
  unfold m7 au
  rw [Oy]
  rfl
 rw [e1,e2,bh,decide_eq_true (by omega),decide_eq_true (by omega),decide_eq_true h2,decide_eq_true h3,decide_eq_true (by omega)]
 rfl
theorem Gj {K:Fg} {H:Hp} {a:Addr} {ss:List Nat} (h:H a=some (.lst (au ss))) (hl:ss.length<=1000):HP K H (.ref a) (some (au ss)):=
 ⟨a,rfl,.inl h,by rw [bh]; exact hl,fun z hz=>by
  obtain ⟨s,_,rfl⟩:=Nr.mp hz
  exact eO.int _⟩
noncomputable def La (K:Fg):Sp:=fun vs H Q _=>∃ (c:Nat) (a:Addr) (ss:List Nat),vs=[.int c,.ref a]/\H a=some (.lst (au ss))/\qy c ss/\∀ H',am H H'->Q (.int (KM.cE c ss:Nat)) H'
noncomputable abbrev m8 (K:Fg):Sp:=La K
noncomputable def uF (K:Fg):TS:=(ap (bq (fS (tB (av (oJ K) [] E0 (aa (ac 0) (aa (ac 1) af))))) qe aZ)
 (ap (aE (tC (.int 1)) (aj 2))
 (ap (aE (ac 0) (aj 3))
 (ap (cu (dt K (ac 1)) (aj 4) (ap (aE (tOp (rI OR fun i j=>.int (i * j)) (ac 2) (av (oK K) [] E0 (aa (ac 3) (aa (ac 4) af)))) (aj 2))
 (aE (tOp (rI0 fun i j=>.int (i - j)) (ac 3) (ac 4)) (aj 3))))
 (aI (ac 2))))))
theorem Bm (h:m8 K vs H Q E):uF K { nx:=fun _ H'=>Q .non H',rt:=Q } (start ["cards","sizes","many","left","size"] vs) H:=by
 obtain ⟨c,a,ss,rfl,ha,p,q⟩:=h
 have h12:=p.c12
 have h5:=p.l5
 refine ⟨_,rfl,_,rfl,_,_,some (au ss),rfl,eO.int _,Gj ha (by omega),fun H1 s1=>⟨_,rfl,?_⟩⟩
 rw [show uE (.int c) (some (au ss))=true from Gi p]
 refine ox ?_
 refine ⟨_,rfl,?_⟩
 refine ⟨_,rfl,a,rfl,⟨_,SqL.of (s1 _ _ ha)⟩,sU (K:=K) (a:=a) (xs:=au ss) (fun i σ H2=>∃ (m l:Nat) (st:Option V),σ=[some (.int c),some (.ref a),some (.int m),some (.int l),st]/\H2=H1/\m * KM.cE l (ss.drop i)=KM.cE c ss/\(ss.drop i).sum<=l/\l<=12)
  ⟨1,c,none,rfl,rfl,by rw [T9]; rfl,p.sum,h12⟩ (fun i σ H2 _ ⟨_,_,_,_,e,_⟩=>by subst e; exact SqL.of (s1 _ _ ha)) ?_ ?_⟩
 ·rintro i x σ H2 hx ⟨m,l,st,rfl,rfl,hm,hs,hl⟩
  obtain ⟨z,hz,rfl⟩:∃ z:Nat,ss[i]?=some z/\x=.int (z:Int):=by
   unfold au at hx
   rw [LU] at hx
   cases e:ss[i]? with
   | none=>rw [e] at hx; cases hx
   | some z=>rw [e] at hx; exact ⟨z,rfl,(LW hx).symm⟩
  have hd:ss.drop i=z :: ss.drop (i + 1):=by
   obtain ⟨h1,h2⟩:=LJ.mp hz
   rw [Rr h1,h2]
  rw [hd,Mi] at hs
  rw [hd,KM.cE] at hm
  have hle:=KM.EO l z
  have h2:(2:Nat) ^ l<=2 ^ 12:=Nat.pow_le_pow_right (by decide) hl
  refine ⟨_,rfl,_,rfl,_,rfl,l,z,rfl,by omega,by omega,_,_,rfl,rfl,.of_right (intBits_le_64 (by omega) (by omega)),?_⟩
  refine ⟨_,rfl,_,rfl,_,_,rfl,rfl,m * KM.choose l z,l - z,some (.int (z:Int)),?_,rfl,by rw [Nz]; exact hm,by omega,by omega⟩
  have e1:((m:Nat):Int) * ((KM.choose l z:Nat):Int)=((m * KM.choose l z:Nat):Int):=(R5 _ _).symm
  have e2:((l:Nat):Int) - ((z:Nat):Int)=((l - z:Nat):Int):=by omega
  dsimp only
  rw [e1,e2]
  rfl
 ·rintro σ H2 ⟨m,l,st,rfl,rfl,hm,hs,hl⟩
  refine ⟨_,rfl,?_⟩
  rw [bh,List.drop_length,KM.cE,Nat.mul_one] at hm
  rw [hm]
  exact q _ s1
noncomputable def bG (H:Hp) (p:Addr) (ws:List (List Nat)):Prop:=∃ rs:List Addr,H p=some (.lst (rs.map V.ref))/\Paired (fun (a:Addr) (w:List Nat)=>H a=some (.tup (au w))) rs ws
theorem jL {H H':Hp} {rs:List Addr} {ws:List (List Nat)} (h:Paired (fun (a:Addr) (w:List Nat)=>H a=some (.tup (au w))) rs ws) (s:∀ a xs,H a=some (.tup xs)->H' a=some (.tup xs)):Paired (fun (a:Addr) (w:List Nat)=>H' a=some (.tup (au w))) rs ws:=
 Paired.mapP h fun a w e=>s _ _ e
theorem kK {α β:Type} {F:α->β->Prop}:∀ {l:List α} {m:List β} {i:Nat} {a:α},Paired F l m->l[i]?=some a->∃ b,m[i]?=some b/\F a b
 | _,_,_,_,.nil,h=>by simp at h
 | _,_,0,_,.cons r _,h=>by simp at h; subst h; exact ⟨_,rfl,r⟩
 | _,_,i + 1,a,.cons _ t,h=>by
  obtain ⟨b,h1,h2⟩:=kK (i:=i) (a:=a) t (by simpa using h)
  exact ⟨b,by simpa using h1,h2⟩
theorem oM {α β:Type} {F:α->β->Prop}:∀ {l:List α} {m:List β} {l':List α} {m':List β},Paired F l m->Paired F l' m'->Paired F (l++l') (m++m')
 | _,_,_,_,.nil,h=>h
 | _,_,_,_,.cons r t,h=>.cons r (oM t h)
theorem CQ (w:List Nat) (j:Nat):(au w).countP (fun z=>eqV z (.int (j:Int)))=w.count j:=by
 unfold au
 rw [List.countP_map,List.count_eq_countP]
 congr 1
 funext k
 show ((k:Int) == (j:Int))=(k == j)
 by_cases h:k=j
 ·subst h; simp
 ·rw [beq_eq_false_iff_ne.mpr h,beq_eq_false_iff_ne.mpr (by omega)]
theorem EU (w:List Nat):(au w).all gA=true:=by unfold au; rw [Qs]; simp [gA]
noncomputable def Kf (K:Fg):Sp:=fun vs H Q _=>∃ (b r:Addr) (ws:List (List Nat)) (room:List Nat),vs=[.ref b,.ref r]/\bG H b ws/\H r=some (.lst (au room))/\room.length<=6/\(KM.grow room ws).length<=2000/\(∀ w∈ws,w.length<=12)/\
 ∀ (p:Addr) (H':Hp),am H H'->H p=none->bG H' p (KM.grow room ws)->Q (.ref p) H'
noncomputable abbrev iw (K:Fg):Sp:=Kf K
noncomputable def mi (K:Fg):TS:=(ap (aE (zz af) (aj 2))
 (ap (cu (dt K (ac 0)) (aj 3) (cu (lX bA K (aa (ac 1) af)) (ip K 2 (bW (aj 4) (bW (aj 5) im))) (bq (aX (tOp (rI0 fun i j=>.bl (decide (i < j))) (tBT BT (ac 3) (aa (ac 4) af)) (ac 5))) (ee (tBM K "list" iF (ac 2) (aa (tOp (HG K) (ac 3) (Cu (aa (ac 4) af))) af))) aZ)))
 (aI (ac 2))))
theorem tG (h:iw K vs H Q E):mi K { nx:=fun _ H'=>Q .non H',rt:=Q } (start ["begun","room","longer","deal","who","most"] vs) H:=by
 obtain ⟨b,r,ws,room,rfl,⟨rs,hb,hp⟩,hrm,h6,h2000,h12,q⟩:=h
 refine ⟨(by show 0<=LS; decide),fun l hl=>?_⟩
 have sl:am H (upd H l (.lst [])):=ba hl _
 have hrl:ws.length=rs.length:=hp.length.symm
 refine ⟨_,rfl,b,rfl,⟨_,SqL.of (sl _ _ hb)⟩,sU (K:=K) (a:=b) (xs:=rs.map V.ref)
  (fun i σ H2=>∃ d wh mo:Option V,σ=[some (.ref b),some (.ref r),some (.ref l),d,wh,mo]/\am H H2/\bG H2 l (KM.grow room (ws.take i)))
  ⟨none,none,none,rfl,sl,[],by rw [aA]; rfl,.nil⟩ (fun i σ H2 _ ⟨_,_,_,_,s2,_⟩=>SqL.of (s2 _ _ hb)) ?_ ?_⟩
 ·rintro i x σ H2 hx ⟨d,wh,mo,rfl,s2,D2⟩
  obtain ⟨a,ea,rfl⟩:∃ a,rs[i]?=some a/\x=.ref a:=by
   rw [LU] at hx
   cases e:rs[i]? with
   | none=>rw [e] at hx; cases hx
   | some a=>rw [e] at hx; exact ⟨a,rfl,(LW hx).symm⟩
  obtain ⟨u,hu,ha⟩:=kK hp ea
  have hu12:=h12 u (LX hu)
  have gt:=KM.EQ room ws i u hu
  have gle:=KM.Aa room ws (i + 1)
  refine ⟨_,rfl,r,_,rfl,SqL.of (s2 _ _ hrm),zH (S:=bA) (K:=K) (a:=r) (xs:=au room)
   (fun j σ H3=>∃ wh mo:Option V,σ=[some (.ref b),some (.ref r),some (.ref l),some (.ref a),wh,mo]/\am H H3/\bG H3 l (KM.grow room (ws.take i)++(KM.eW room u j).map fun k=>u++[k]))
   ⟨wh,mo,rfl,s2,by simpa [KM.eW] using D2⟩ (fun j σ H3 _ ⟨_,_,_,s3,_⟩=>SqL.of (s3 _ _ hrm)) ?_ ?_⟩
  ·rintro j x T σ H3 hxj ⟨wh',mo',rfl,s3,qs,hq,pq⟩ hT
   obtain ⟨m,hm,rfl⟩:∃ m:Nat,room[j]?=some m/\x=.int (m:Int):=by
    unfold au at hxj
    rw [LU] at hxj
    cases e:room[j]? with
    | none=>rw [e] at hxj; cases hxj
    | some z=>rw [e] at hxj; exact ⟨z,rfl,(LW hxj).symm⟩
   have hmD:room.getD j 0=m:=by rw [LO,hm]; rfl
   have hjl:j < room.length:=(LJ.mp hm).1
   have nT:H T=none:=s3.free hT
   have s4:am H (upd H3 T (.tup [.int (j:Int),.int (m:Int)])):=s3.upd nT _
   have a4:(upd H3 T (.tup [.int (j:Int),.int (m:Int)])) a=some (.tup (au u)):=s4 _ _ ha
   have nlT:l≠T:=aV hq hT
   have q4:(upd H3 T (.tup [.int (j:Int),.int (m:Int)])) l=some (.lst (qs.map V.ref)):=by rw [aS nlT]; exact hq
   have p4:Paired (fun (a:Addr) (w:List Nat)=>(upd H3 T (.tup [.int (j:Int),.int (m:Int)])) a=some (.tup (au w))) qs (KM.grow room (ws.take i)++(KM.eW room u j).map fun k=>u++[k]):=
    jL pq fun a xs e=>by rw [aS (aV e hT)]; exact e
   have hqlen:qs.length<=2000:=by
    have e1:=pq.length
    rw [L7,LF] at e1
    rw [gt,L7,LF,<-KM.sF] at gle
    have e3:(KM.eW room u j).length<=(KM.eW room u room.length).length:=by
     unfold KM.eW
     have:(LV j).Sublist (LV room.length):=List.range_sublist.mpr (by omega)
     exact (this.filter _).length_le
    omega
   have t4:(upd H3 T (.tup [.int (j:Int),.int (m:Int)])) T=some (.tup [.int (j:Int),.int (m:Int)]):=aA
   generalize upd H3 T (.tup [.int (j:Int),.int (m:Int)])=H4 at s4 a4 q4 p4 t4
   have ns:=KM.zZ room u j
   rw [hmD] at ns
   refine ⟨T,_,rfl,SqT.of t4,rfl,_,_,rfl,_,_,rfl,rfl,?_⟩
   refine ⟨_,rfl,⟨a,_,rfl,a4⟩,_,rfl,a,_,_,rfl,rfl,a4,rfl,EU u,_,rfl,_,_,rfl,rfl,_,rfl,?_⟩
   rw [CQ]
   refine iK (fun c=>?_) (fun c=>?_)
   ·have c':u.count j < m:=by have:=of_decide_eq_true c; omega
    rw [if_pos c'] at ns
    have fin:∀ (d:Addr) (H5:Hp),am H4 H5->H5 d=some (.tup (au (u++[j])))->∃ (l':Addr) (xs:List V) (y:V),V.ref l=.ref l'/\[V.ref d]=[y]/\H5 l'=some (.lst xs)/\xs.length < LS/\
      ∃ wh mo:Option V,([some (.ref b),some (.ref r),some (.ref l),some (.ref a),some (.int (j:Int)),some (.int (m:Int))]:L2.St)=[some (.ref b),some (.ref r),some (.ref l),some (.ref a),wh,mo]/\am H (upd H5 l' (.lst (xs++[y])))/\
       bG (upd H5 l' (.lst (xs++[y]))) l (KM.grow room (ws.take i)++(KM.eW room u (j + 1)).map fun k=>u++[k]):=by
     intro d H5 s5 e5
     refine ⟨l,_,_,rfl,rfl,s5 _ _ q4,OX (by rw [LF]; exact hqlen) (by decide),_,_,rfl,(s4.trans s5).upd hl _,qs++[d],by rw [aA,Mf]; rfl,?_⟩
     have keep:∀ (c:Addr) (xs:List V),H5 c=some (.tup xs)->upd H5 l (.lst (qs.map V.ref++[V.ref d])) c=some (.tup xs):=fun c xs e=>by
      rw [aS (HD e (s5 _ _ q4) (by intro z; cases z))]
      exact e
     rw [ns,Mf,<-Rj]
     exact oM (jL (jL p4 fun c xs e=>s5 _ _ e) keep) (.cons (keep _ _ e5) .nil)
    refine ⟨_,rfl,.inl ⟨rfl,_,SqL.of q4⟩,_,rfl,_,rfl,(by show 1<=LS; decide),fun t ht=>?_⟩
    have st:am H4 (upd H4 t (.tup [.int (j:Int)])):=ba ht _
    have ej:au (u++[j])=au u++[.int (j:Int)]:=by unfold au; rw [Mf]; rfl
    refine ⟨a,t,au u,[.int (j:Int)],rfl,rfl,SqT.of (st _ _ a4),SqT.of aA,small (by rw [bh]; show u.length + 1<=1000; omega),fun e0=>?_,fun _ e0=>(nomatch e0),fun _ _ p hp'=>?_⟩
    ·exact fin t _ st (by rw [aA,ej,e0]; rfl)
    ·exact fin p _ (st.trans (ba hp' _)) (by rw [aA,ej])
   ·have c':¬ u.count j < m:=by have:=of_decide_eq_false c; omega
    rw [if_neg c',NH] at ns
    exact ⟨_,_,rfl,s4,qs,q4,by rw [ns]; exact p4⟩
  ·rintro σ H3 ⟨wh',mo',rfl,s3,D3⟩
   rw [bh,KM.sF,<-gt] at D3
   exact ⟨_,_,_,rfl,s3,D3⟩
 ·rintro σ H2 ⟨d,wh,mo,rfl,s2,D2⟩
  refine ⟨_,rfl,?_⟩
  rw [LF,<-hrl,Mx] at D2
  exact q l H2 s2 hl D2
noncomputable def IF (K:Fg):Sp:=fun vs H Q _=>∃ (c:Nat) (a:Addr) (ss:List Nat),vs=[.int c,.ref a]/\H a=some (.lst (au ss))/\qy c ss/\KM.cE c ss<=2000/\
 ∀ (p:Addr) (H':Hp),am H H'->H p=none->bG H' p (KM.cq (ss++[c - ss.sum]) c)->Q (.ref p) H'
theorem gi (ss:List Nat) (c:Nat):au ss++[.int (c:Int)]=au (ss++[c]):=by unfold au; rw [Mf]; rfl
noncomputable abbrev jM (K:Fg):Sp:=IF K
noncomputable def uG (K:Fg):TS:=(ap (bq (aX (tOp (rI0 fun i j=>.bl (decide (j < i))) (av (m8 K) [] E0 (aa (ac 0) (aa (ac 1) af))) (tC (.int 2000)))) qe aZ)
 (ap (aE (tOp JL (ac 1) (zz (aa (tOp (rI0 fun i j=>.int (i - j)) (ac 0) (tCB (tz K) (aa (ac 1) af))) af))) (aj 2))
 (ap (aE (zz (aa (Cu af) af)) (aj 3))
 (ap (cu (cD (aa (ac 0) af)) (aj 4) (aE (av (iw K) [] E0 (aa (ac 3) (aa (ac 2) af))) (aj 3)))
 (aI (ac 3))))))
theorem Bn (h:jM K vs H Q E):uG K { nx:=fun _ H'=>Q .non H',rt:=Q } (start ["cards","sizes","room","begun","card"] vs) H:=by
 obtain ⟨c,a,ss,rfl,ha,p,hm,q⟩:=h
 have h12:=p.c12
 have h5:=p.l5
 have hsum:=p.sum
 refine ⟨_,rfl,_,rfl,c,a,ss,rfl,ha,p,fun H1 s1=>?_⟩
 refine ⟨_,_,rfl,rfl,_,rfl,iK (fun k=>?_) (fun _=>?_)⟩
 ·have k':(2000:Int) < ((KM.cE c ss:Nat):Int):=of_decide_eq_true k
  omega
 have a1:=s1 _ _ ha
 refine ⟨_,rfl,_,rfl,_,rfl,a,_,rfl,by rw [<-dJ]; exact SqL.of a1,_,_,rfl,rfl,(by show 1<=LS; decide),fun l hl=>?_⟩
 have s2:am H (upd H1 l (.lst [.int ((c:Int) - (ss.map fun (s:Nat)=>((s:Nat):Int)).sum)])):=s1.trans (ba hl _)
 have e2:(upd H1 l (.lst [.int ((c:Int) - (ss.map fun (s:Nat)=>((s:Nat):Int)).sum)])) l=some (.lst [.int ((c:Int) - (ss.map fun (s:Nat)=>((s:Nat):Int)).sum)]):=aA
 rw [show (c:Int) - (ss.map fun (s:Nat)=>((s:Nat):Int)).sum=((c - ss.sum:Nat):Int) by rw [iu]; omega] at s2 e2
 dsimp only
 rw [show (c:Int) - (ss.map fun (s:Nat)=>((s:Nat):Int)).sum=((c - ss.sum:Nat):Int) by rw [iu]; omega]
 generalize upd H1 l (.lst [.int ((c - ss.sum:Nat):Int)])=H2 at s2 e2
 refine ⟨a,l,_,_,rfl,rfl,s2 _ _ ha,e2,small (by rw [bh]; show ss.length + 1<=1000; omega),fun rm hrm=>?_⟩
 rw [gi]
 have hRs:(ss++[c - ss.sum]).sum=c:=by rw [Nn,Mi,Pa]; omega
 have hRl:(ss++[c - ss.sum]).length<=6:=by rw [L7]; show ss.length + 1<=6; omega
 have hlev:=KM.m6 hsum
 have s3:am H (upd H2 rm (.lst (au (ss++[c - ss.sum])))):=s2.trans (ba hrm _)
 have e3:(upd H2 rm (.lst (au (ss++[c - ss.sum])))) rm=some (.lst (au (ss++[c - ss.sum]))):=aA
 generalize ss++[c - ss.sum]=R at *
 generalize upd H2 rm (.lst (au R))=H3 at s3 e3
 refine ⟨(by show 0<=LS; decide),fun t ht=>⟨(by show 1<=LS; decide),fun b hb=>?_⟩⟩
 have s4:am H3 (upd (upd H3 t (.tup [])) b (.lst [.ref t])):=(ba ht _).trans (ba hb _)
 have D4:bG (upd (upd H3 t (.tup [])) b (.lst [.ref t])) b (KM.cq R 0):=⟨[t],aA,.cons (by rw [aS (aV (aA (o:=HO.tup [])) hb)]; exact aA) .nil⟩
 have f4:H b=none:=by
  have:H3 b=none:=(ba ht _).free hb
  exact s3.free this
 generalize upd (upd H3 t (.tup [])) b (.lst [.ref t])=H4 at s4 D4
 refine ⟨_,rfl,_,rfl,by omega,by omega,qg (lo:=0) (n:=((c:Nat):Int).toNat) (fun i σ H5=>∃ (b:Addr) (st:Option V),σ=[some (.int c),some (.ref a),some (.ref rm),some (.ref b),st]/\am H3 H5/\H b=none/\bG H5 b (KM.cq R i)) ⟨b,none,rfl,s4,f4,D4⟩ ?_ ?_⟩
 ·rintro i σ H5 hi ⟨b',st,rfl,s5,f5,D5⟩
  have hi':i + 1<=c:=by omega
  refine ⟨_,rfl,_,rfl,b',rm,_,R,rfl,D5,s5 _ _ e3,hRl,?_,fun u hu=>?_,fun p' H6 s6 f6 D6=>?_⟩
  ·have h1:=KM.Gg (room:=R) (i:=i + 1) (by omega)
   rw [hRs,hlev] at h1
   exact Mq h1 hm
  ·have:=(KM.gZ R i u hu).len
   omega
  ·exact ⟨p',_,rfl,s5.trans s6,(s3.trans s5).free f6,D6⟩
 ·rintro σ H5 ⟨b',st,rfl,s5,f5,D5⟩
  refine ⟨_,rfl,?_⟩
  rw [show ((c:Nat):Int).toNat=c by omega] at D5
  exact q b' H5 (s3.trans s5) f5 D5
noncomputable def qz (xs:List Int) (w:Int) (i:Nat):List Int:=((LV i).filter fun j=>decide (xs[j]?=some w)).map fun (j:Nat)=>((j:Nat):Int)
theorem EV (xs:List Int) (w:Int) (i:Nat):qz xs w (i + 1)=qz xs w i++(if xs[i]?=some w then [(i:Int)] else []):=by
 unfold qz
 rw [N5,Px,Mf]
 by_cases h:xs[i]?=some w
 ·rw [if_pos h,PR (by simpa using h)]
  rfl
 ·rw [if_neg h,PU (by simpa using h)]
  rfl
theorem Gk (xs:List Int) (w:Int) (i:Nat):(qz xs w i).length<=i:=by
 unfold qz
 rw [LF]
 have h:=Ss (fun j=>decide (xs[j]?=some w)) (LV i)
 rw [MX] at h
 exact h
noncomputable def IG (K:Fg):Sp:=fun vs H Q _=>∃ (d:Addr) (xs:List Int) (v:Int),vs=[.ref d,.int v]/\SqT K H d (xs.map V.int)/\xs.length<=1000/\
 ∀ (r:Addr) (H':Hp),am H H'->H' r=some (.tup ((qz xs v xs.length).map V.int))->Q (.ref r) H'
theorem EW {xs:List Int} {i:Nat} {x:V} (h:(xs.map V.int)[i]?=some x):∃ z,xs[i]?=some z/\x=.int z:=by
 rw [LU] at h
 cases e:xs[i]? with
 | none=>rw [e] at h; cases h
 | some z=>rw [e] at h; exact ⟨z,rfl,(LW h).symm⟩
noncomputable abbrev g9 (K:Fg):Sp:=IG K
noncomputable def uH (K:Fg):TS:=(aI (tCB (J5 K) (aa (bT (lX iq K (aa (ac 0) af)) (fun _ _ _ _=>(ip K 2 (bW (aj 0) (bW (aj 1) im)))) (fun _ _ _ _=>(aX (tOp rEq (ac 1) (ac 2)))) (fun _ _ _ _=>(ac 0)) [none,none,some 1]) af)))
theorem Bo (h:g9 K vs H Q E):uH K { nx:=fun _ H'=>Q .non H',rt:=Q } (start ["deal","who"] vs) H:=by
 obtain ⟨d,xs,v,rfl,hd,hlen,q⟩:=h
 have hl:(xs.map V.int).length=xs.length:=LF _
 refine ⟨_,rfl,d,_,rfl,hd,fun p hp=>EC (S:=iq) (K:=K) (a:=d) (xs:=xs.map V.int) (fun i acc H2=>acc=(qz xs v i).map V.int/\am H H2/\H2 p=some (.lst acc)) ⟨rfl,ba hp _,aA⟩ ?_ ?_ ?_ ?_ ?_⟩
 ·rintro i acc H2 hi ⟨rfl,s2,e2⟩
  exact ⟨e2,by rw [LF]; exact Gk _ _ _⟩
 ·rintro i acc H2 hi ⟨rfl,s2,e2⟩
  exact s2.tup hd
 ·rw [hl]
  exact small hlen
 ·rintro _ _ _ _ i x T acc H2 hx ⟨rfl,s2,e2⟩ hT
  obtain ⟨z,hz,rfl⟩:=EW hx
  have nTp:p≠T:=aV e2 hT
  have nT:H T=none:=s2.free hT
  refine ⟨T,_,rfl,SqT.of aA,rfl,_,_,rfl,_,_,rfl,rfl,_,rfl,_,rfl,rfl,_,rfl,?_⟩
  have eu:=EV xs v i
  refine iK (fun c=>?_) (fun c=>?_)
  ·have c':z=v:=by
    have:=of_decide_eq_true c
    injection this
   subst c'
   rw [if_pos hz] at eu
   refine ⟨_,rfl,by rw [aS nTp]; exact e2,?_,(s2.upd nT _).upd hp _,aA⟩
   rw [eu,Mf]
   rfl
  ·have c':¬ xs[i]?=some v:=by
    rw [hz]
    intro e
    have:=of_decide_eq_false c
    exact this (by rw [LW e])
   rw [if_neg c',NH] at eu
   exact ⟨by rw [eu],s2.upd nT _,by rw [aS nTp]; exact e2⟩
 ·rintro acc H2 ⟨rfl,s2,e2⟩
  rw [hl] at e2
  exact ⟨p,_,rfl,.inl ⟨SqL.of e2,fun t ht=>q t _ (s2.trans (ba ht _)) aA⟩⟩
theorem iH {ss:List Nat} {i:Nat} {x:V} (hx:(au ss)[i]?=some x):∃ z:Nat,ss[i]?=some z/\x=.int (z:Int):=by
 unfold au at hx
 rw [LU] at hx
 cases e:ss[i]? with
 | none=>rw [e] at hx; cases hx
 | some z=>rw [e] at hx; exact ⟨z,rfl,(LW hx).symm⟩
end
section
variable {K:Fg} {vs:List V} {H:Hp} {Q:VK} {E:XK}
noncomputable abbrev bm (K:Fg):Sp:=JQ K
noncomputable def jN (K:Fg):TS:=(ap (bq (aX (tOp (rI0 fun i j=>.bl (decide (i < j))) (ac 1) (tCB (bV K) (aa (ac 0) af)))) (aI (tOp (bY K) (ac 0) (ac 1))) aZ)
 (ap (aE (tOp (rI0 fun i j=>.int (i + j)) (tOp (rI OR fun i j=>.int (i * j)) (ac 1) (tC (.int 7919))) (tC (.int 5))) (aj 2))
 (ap (bq (aX (tOp (rI0 fun i j=>.bl (decide (j < i))) (tCB (bV K) (aa (ac 0) af)) (tC (.int 0)))) (aE (tOp (rI0 fun i j=>.int (i + j)) (tOp (rI OR fun i j=>.int (i * j)) (tOp (bY K) (ac 0) (tOp (rI (fun _ j=>0 < j) fun i j=>.int (i % j)) (tOp (rI OR fun i j=>.int (i * j)) (ac 1) (tC (.int 7))) (tCB (bV K) (aa (ac 0) af)))) (tC (.int 48271))) (tOp (rI OR fun i j=>.int (i * j)) (ac 1) (tC (.int 7919)))) (aj 2)) aZ)
 (ap (aE (tOp (rI (fun _ j=>0 < j) fun i j=>.int (i % j)) (tOp (rI OR fun i j=>.int (i * j)) (ac 2) (ac 2)) (tC (.int 2147483629))) (aj 2))
 (aI (tOp (rI (fun _ j=>0 < j) fun i j=>.int (i % j)) (tOp (rI OR fun i j=>.int (i * j)) (tOp (rI0 fun i j=>.int (i + j)) (ac 2) (ac 1)) (tOp (rI0 fun i j=>.int (i + j)) (ac 2) (tC (.int 69621)))) (tC (.int 2147483587))))))))
theorem Ac (h:bm K vs H Q E):jN K { nx:=fun _ H'=>Q .non H',rt:=Q } (start ["_law_script","_law_k","_law_number"] vs) H:=by
 obtain ⟨a,ns,k,rfl,⟨hS,h63,hbits⟩,h0,h1,q⟩:=h
 show jN K _ [some _,some _,none] _
 unfold jN
 have hl:(ns.map V.int).length=ns.length:=LF _
 walk_at "rd"
 rw [hl]
 refine bZ (fun c=>?_) (fun c=>?_)
 ·walk_at "rd"
  refine bK hS (zI h0 c) ?_
  have e:bE ns k=ns.getD k.toNat 0:=by unfold bE; rw [if_pos c]
  rw [e] at q
  exact q
 ·refine EF ?_
  dsimp only
  refine bR ?_
  walk_at "rs"
  refine kX fun NX hNX=>?_
  have last:∀ n0:Int,MH n0<=1048600->bE ns k=((n0 * n0 % 2147483629) + k) * ((n0 * n0 % 2147483629) + 69621) % 2147483587->NX [some (.ref a),some (.int k),some (.int n0)] H:=by
   intro n0 hb e
   refine hNX _ _ ?_
   have z1:0<=n0 * n0 % 2147483629:=OB _ (by decide)
   have z2:n0 * n0 % 2147483629 < 2147483629:=Of _ (by decide)
   refine bR ?_
   refine kI ?_
   refine tm ?_
   refine tm ?_
   refine oC rfl ?_
   refine oC rfl ?_
   refine r_I (.of_le hb hb (by decide)) ?_
   walk_at "rd"
   rw [e] at q
   exact q
  walk_at "rs"
  rw [hl]
  refine bZ (fun d=>?_) (fun d=>?_)
  ·have m1:0<=k * 7 % (ns.length:Int):=OB _ (by omega)
   have m2:k * 7 % (ns.length:Int) < (ns.length:Int):=Of _ d
   walk_at "rs"
   rw [hl]
   refine bK hS (zI m1 m2) ?_
   walk_at "rs"
   refine last _ ?_ ?_
   ·have b1:=ED hbits (k * 7 % (ns.length:Int)).toNat
    have b2:MH (48271:Int)<=16:=by decide
    have b3:MH k<=20:=intBits_le_iff.mpr (by have:(2:Nat) ^ 20=1048576:=(by decide); omega)
    have b4:MH (7919:Int)<=13:=by decide
    exact Mq (intBits_add_le (Su b1 b2) (Su b3 b4)) (by decide)
   ·unfold bE
    rw [if_neg c,if_pos d]
  ·walk_at "rs"
   refine last _ ?_ ?_
   ·have b3:MH k<=20:=intBits_le_iff.mpr (by have:(2:Nat) ^ 20=1048576:=(by decide); omega)
    have b4:MH (7919:Int)<=13:=by decide
    have b5:MH (5:Int)<=3:=by decide
    exact Mq (intBits_add_le (Su b3 b4) b5) (by decide)
   ·unfold bE
    rw [if_neg c,if_neg d]
noncomputable def fV (_:Fg):Sp:=fun vs H Q _=>∃ n:Nat,vs=[.int n]/\n<=12/\Q (.int (KM.aU n:Nat)) H
noncomputable def gD (K:Fg):TS:=(ap (aE (tC (.int 1)) (aj 1))
 (ap (cu (cD (aa (ac 0) af)) (aj 2) (aE (tOp (rI OR fun i j=>.int (i * j)) (ac 1) (tOp (rI0 fun i j=>.int (i + j)) (ac 2) (tC (.int 1)))) (aj 1)))
 (aI (ac 1))))
theorem KM.fact_le {n m : Nat} (h : n ≤ m) : KM.aU n ≤ KM.aU m := by
  induction m with
  | zero => have : n = 0 := by omega
            subst this; exact LH _
  | succ m ih =>
    by_cases e : n = m + 1
    · subst e; exact LH _
    · have := ih (by omega)
      rw [KM.aU]
      exact Mq this (Nat.le_mul_of_pos_right _ (Tv m))
theorem EX {n:Nat} (h:n<=12):KM.aU n<=479001600:=Mq (KM.fact_le h) (by decide)
theorem uI (h:fV K vs H Q E):gD K { nx:=fun _ H'=>Q .non H',rt:=Q } (start ["_law_many","_law_found","_law_k"] vs) H:=by
 obtain ⟨n,rfl,hn,q⟩:=h
 show gD K _ [some _,none,none] _
 unfold gD
 walk_at "rd"
 refine eG n (by omega) (by omega) (by omega) (fun i σ H2=>∃ st,σ=[some (.int n),some (.int (KM.aU i:Nat)),st]/\H2=H) ⟨none,rfl,rfl⟩ ?_ ?_
 ·rintro i σ H2 hi ⟨st,rfl,rfl⟩
  have:=EX (n:=i) (by omega)
  walk_at "rd"
  refine ⟨some (.int i),?_,rfl⟩
  rw [KM.aU,R5,show ((i:Int) + 1)=((i + 1:Nat):Int) by omega]
 ·rintro σ H2 ⟨st,rfl,rfl⟩
  walk_at "rd"
  exact q
noncomputable def hU (_:Fg):Sp:=fun vs H Q _=>∃ (c:Nat) (a:Addr) (ss:List Nat),vs=[.int c,.ref a]/\H a=some (.lst (au ss))/\ss.sum<=c/\c<=12/\ss.length<=100/\∀ H',am H H'->Q (.int (KM.cE c ss:Nat)) H'
noncomputable def iO (K:Fg):TS:=(ap (aE (av (fV K) [] E0 (aa (ac 0) af)) (aj 2))
 (ap (cu (dt K (tOp tD (ac 1) (fT (aa (tOp (rI0 fun i j=>.int (i - j)) (ac 0) (tCB (tz K) (aa (ac 1) af))) af)))) (aj 3) (aE (tOp (rI fm fun i j=>.int (i / j)) (ac 2) (av (fV K) [] E0 (aa (ac 3) af))) (aj 2)))
 (aI (ac 2))))
theorem yj (h:hU K vs H Q E):iO K { nx:=fun _ H'=>Q .non H',rt:=Q } (start ["_law_cards","_law_sizes","_law_found","_law_many"] vs) H:=by
 obtain ⟨c,a,ss,rfl,ha,hs,hc,hl,q⟩:=h
 show iO K _ [some _,some _,none,none] _
 unfold iO
 walk_at "rd"
 refine ⟨c,rfl,hc,?_⟩
 walk_at "rd"
 refine CC (ns:=ss.map fun (s:Nat)=>((s:Nat):Int)) (SqL.of (by rw [<-dJ]; exact ha)) ?_
 walk_at "rd"
 rw [iu,show (c:Int) - ((ss.sum:Nat):Int)=((c - ss.sum:Nat):Int) by omega]
 refine ⟨by simp [LP],fun b H1 hb s1 e1=>ux (s1 _ _ ha) e1 (by rw [bh,LP]; simp; omega) fun p H2 hp s2 e2=>?_⟩
 rw [gi] at e2
 generalize hR:ss++[c - ss.sum]=R at e2
 have hRs:R.sum=c:=by rw [<-hR,Nn,Mi,Pa]; omega
 have hpf:KM.cE c ss * KM.cL R=KM.aU c:=by rw [<-hR]; exact KM.sE c ss hs
 have hdv:R.foldl (fun f s=>f / KM.aU s) (KM.aU c)=KM.cE c ss:=by rw [<-hpf]; exact KM.Kd R _
 have s12:=s1.trans s2
 refine nE (au R) (SqL.of e2) (fun i σ H3=>∃ st,σ=[some (.int c),some (.ref a),some (.int (((R.take i).foldl (fun f s=>f / KM.aU s) (KM.aU c):Nat):Int)),st]/\H3=H2) ⟨none,rfl,rfl⟩ (fun i σ H3 _ ⟨_,_,e⟩=>by subst e; exact SqL.of e2) ?_ ?_
 ·rintro i x σ H3 hx ⟨st,rfl,rfl⟩
  obtain ⟨z,hz,rfl⟩:=iH hx
  have hz12:z<=12:=by
   have:=iN (LX hz)
   omega
  walk_at "rd"
  refine ⟨z,rfl,hz12,?_⟩
  have h1:=KM.ir z
  have h2:=EX hz12
  walk_at "rd"
  refine ⟨some (.int z),?_,rfl⟩
  rw [Nv,hz,TL,<-Ur]
  rfl
 ·rintro σ H3 ⟨st,rfl,rfl⟩
  walk_at "rd"
  rw [bh,Mx,hdv]
  exact q _ s12
noncomputable def lp (K:Fg):Sp:=fun vs H Q _=>∃ (a:Addr) (ns:List Int) (at_ most:Int),vs=[.ref a,.int at_,.int most]/\fw K H a ns/\0<=at_/\at_<=1000/\1<=most/\
 ∀ (c:Nat) (ss:List Nat) (p q:Addr) (H':Hp),am H H'->H p=none->H q=none->H' p=some (.tup [.int c,.ref q])->H' q=some (.lst (au ss))->qy c ss->((KM.cE c ss:Nat):Int)<=most->Q (.ref p) H'
theorem uJ:∀ ss:List Nat,ss.sum<=0->KM.cE 0 ss=1
 | [],_=>rfl
 | a :: r,h=>by
  rw [Mi] at h
  have ha:a=0:=by omega
  subst ha
  rw [KM.cE,KM.jK,uJ r (by omega)]
theorem tH (ss:List Nat) (j m:Nat):(au ss).set j (.int (m:Int))=au (ss.set j m):=by
 unfold au
 rw [List.map_set]
theorem Gm {ss:List Nat} {M:Int} (h:M∈ss.map fun (s:Nat)=>((s:Nat):Int)):∃ m:Nat,m∈ss/\M=(m:Int):=by
 obtain ⟨m,hm,e⟩:=Nr.mp h
 exact ⟨m,hm,e.symm⟩
theorem Gn {ss:List Nat} {j m:Nat} (h:ss[j]?=some m) (hm:0 < m):(ss.set j (m - 1)).sum + 1=ss.sum:=by
 obtain ⟨h1,h2⟩:=LJ.mp h
 have e:ss.getD j 0=m:=by rw [LO,h]; rfl
 have:=KM.wF ss j h1 (by rw [e]; exact hm)
 rw [e] at this
 exact this
noncomputable def BX (K:Fg):TS:=(ap (lf (aX (tOp (rI0 fun i j=>.bl (decide (j < i))) (av (hU K) [] E0 (aa (ac 3) (aa (ac 4) af))) (ac 2))) (ap (bq (aX (tOp (rI0 fun i j=>.bl (decide (j < i))) (tCB (wD K) (aa (ac 4) af)) (tOp (rI0 fun i j=>.int (i - j)) (ac 3) (tCB (tz K) (aa (ac 4) af))))) (aE (tOp (rI0 fun i j=>.int (i - j)) (tCB (wD K) (aa (ac 4) af)) (tC (.int 1))) (oq (ac 4) (tBM K "list" zK (ac 4) (aa (tCB (wD K) (aa (ac 4) af)) af)) kG)) aZ)
 (aE (tOp (rI0 fun i j=>.int (i - j)) (ac 3) (tC (.int 1))) (aj 3))))
 (aI (cG (aa (ac 3) (aa (ac 4) af)))))
theorem EY {K:Fg} {H0 H:Hp} {Q:VK} {NX:St->Hp->Prop} {x y:V} {most:Int} {c:Nat} {q:Addr} {ss:List Nat} {cF:St} (s0:am H0 H) (hq0:H0 q=none) (hq:H q=some (.lst (au ss))) (h1:1<=ss.length) (h5:ss.length<=5) (hs:ss.sum<=c) (hc:c<=12) (hm:1<=most)
  (g:∀ (c:Nat) (ss:List Nat) (p q:Addr) (H':Hp),am H0 H'->H0 p=none->H0 q=none->H' p=some (.tup [.int c,.ref q])->H' q=some (.lst (au ss))->qy c ss->((KM.cE c ss:Nat):Int)<=most->Q (.ref p) H'):
  BX K { nx:=NX,rt:=Q } (some x :: some y :: some (.int most) :: some (.int c) :: some (.ref q) :: cF) H:=by
 unfold BX
 refine bR ?_
 refine y8 (fun m σ H2=>∃ (c:Nat) (ss:List Nat),σ=(some x :: some y :: some (.int most) :: some (.int c) :: some (.ref q) :: cF)/\am H0 H2/\H2 q=some (.lst (au ss))/\1<=ss.length/\ss.length<=5/\ss.sum<=c/\c<=12/\m=c) c ⟨c,ss,rfl,s0,hq,h1,h5,hs,hc,rfl⟩ ?_
 clear s0 hq h1 h5 hs hc
 rintro m σ H2 ⟨c,ss,rfl,s0,hq,h1,h5,hs,hc,hmc⟩
 have hmc':=hmc.symm
 subst hmc'
 walk_at "rd"
 refine ⟨c,q,ss,rfl,hq,hs,hc,by omega,fun H3 s3=>?_⟩
 have s3':=s0.trans s3
 have hq3:=s3 _ _ hq
 have hS:SqL K H3 q ((ss.map fun (s:Nat)=>((s:Nat):Int)).map V.int):=by rw [<-dJ]; exact SqL.of hq3
 walk_at "rd"
 refine bZ (fun hgt=>?_) (fun hle=>?_)
 ·have hc1:1<=c:=by
   rcases Pw c with z | z
   ·subst z
    rw [uJ ss hs] at hgt
    omega
   ·exact z
  refine y7 ?_
  walk_at "rd"
  have hne:(ss.map fun (s:Nat)=>((s:Nat):Int))≠[]:=by
   intro z
   have:=congrArg List.length z
   rw [LF] at this
   simp at this
   subst this
   simp at h1
  refine ⟨q,_,rfl,hS,hne,fun M hM hmax=>?_⟩
  obtain ⟨mx,hmx,rfl⟩:=Gm hM
  have hle:=iN hmx
  walk_at "rd"
  refine CC hS ?_
  walk_at "rd"
  rw [iu]
  refine bZ (fun hbig=>?_) (fun hsm=>?_)
  ·walk_at "rd"
   refine ⟨q,_,rfl,hS,hne,fun M2 hM2 hmax2=>?_⟩
   obtain rfl:M2=((mx:Nat):Int):=UQ (hmax M2 hM2) (hmax2 _ hM)
   walk_at "rd"
   refine ⟨y6 hq3,?_⟩
   walk_at "rd"
   refine ⟨q,_,rfl,hS,hne,fun M3 hM3 hmax3=>?_⟩
   obtain rfl:M3=((mx:Nat):Int):=UQ (hmax M3 hM3) (hmax3 _ hM)
   obtain ⟨j,hj,hfirst⟩:=zM hM
   have hj':ss[j]?=some mx:=by
    rw [LU] at hj
    cases e:ss[j]? with
    | none=>rw [e] at hj; cases hj
    | some z=>rw [e] at hj; have hzz:((z:Nat):Int)=(mx:Int):=LW hj; rw [show z=mx by omega]
   have hjl:j < ss.length:=(LJ.mp hj').1
   walk_at "rd"
   refine ⟨q,_,_,j,rfl,rfl,by rw [<-dJ]; exact hq3,hj,hfirst,by omega,?_⟩
   walk_at "rd"
   refine nD hq3 (j:=j) (by unfold ixN; rw [bh,if_pos (by omega),if_pos (by omega)]; simp) ?_
   walk_at "rd"
   have hss:=Gn hj' (by omega)
   refine ⟨c - 1,by omega,c - 1,ss.set j (mx - 1),?_,s3'.upd hq0 _,?_,by rw [NI]; exact h1,by rw [NI]; exact h5,by omega,by omega,rfl⟩
   ·rw [show (c:Int) - 1=((c - 1:Nat):Int) by omega]
   ·rw [aA,show ((mx:Nat):Int) - 1=((mx - 1:Nat):Int) by omega,tH]
  ·walk_at "rd"
   refine ⟨c - 1,by omega,c - 1,ss,?_,s3',hq3,h1,h5,?_,by omega,rfl⟩
   ·rw [show (c:Int) - 1=((c - 1:Nat):Int) by omega]
   ·by_cases e:ss.sum=c
    ·have z:mx=0:=by omega
     have all0:∀ s∈ss,s=0:=fun s hs'=>by
      have:=hmax _ (Ta (f:=fun (s:Nat)=>((s:Nat):Int)) hs')
      have:(s:Int)<=(mx:Int):=this
      omega
     have:ss.sum=0:=by
      clear hmax hM hq hq3 hS hne hgt hsm hmx hle h1 h5 hs e
      induction ss with
      | nil=>rfl
      | cons b r ih=>rw [Mi,all0 b LK,ih fun s hs=>all0 s (LQ _ hs)]
     omega
    ·omega
 ·walk_at "rd"
  exact ⟨by simp [LP],fun p H4 hp s4 e4=>g c ss p q H4 (s3'.trans s4) (s3'.free hp) hq0 e4 (s4 _ _ hq3) ⟨hc,h1,h5,hs⟩ (by omega)⟩
end
section
variable {K:Fg} {vs:List V} {H:Hp} {Q:VK} {E:XK}
end
section
variable {K:Fg} {vs:List V} {H:Hp} {Q:VK} {E:XK}
end
section
variable {K:Fg} {vs:List V} {H:Hp} {Q:VK} {E:XK}
theorem iz {ss:List Nat} {j z:Nat} (h:ss[j]?=some z):atI (au ss) (j:Int)=some (.int (z:Int)):=ck (by unfold au; rw [LU,h]; rfl)
end
noncomputable def za:V->Bool
 | .non=>true
 | .bl _=>true
 | .int _=>true
 | _=>false
inductive iP (K:Fg) (H:Hp):Nat->V->V->Prop where
 | flat {n:Nat} {x:V} (h:za x=true):iP K H n x x
 | lst {n:Nat} {a b:Addr} {xs ys:List V} (e1:SqL K H a xs) (e2:SqL K H b ys) (hl:xs.length=ys.length) (h:∀ (i:Nat) (x y:V),xs[i]?=some x->ys[i]?=some y->iP K H n x y):iP K H (n + 1) (.ref a) (.ref b)
 | tup {n:Nat} {a b:Addr} {xs ys:List V} (e1:SqT K H a xs) (e2:SqT K H b ys) (hl:xs.length=ys.length) (h:∀ (i:Nat) (x y:V),xs[i]?=some x->ys[i]?=some y->iP K H n x y):iP K H (n + 1) (.ref a) (.ref b)
noncomputable def lv (K:Fg) (neg:Bool):R2:=fun x y H Q=>∃ n,n<=30/\iP K H n x y/\Q (.bl (!neg)) H
section
variable {K:Fg} {H:Hp} {Q:VK}
theorem IH {x y:V} (n:Nat) (hn:n<=30) (h:iP K H n x y) (q:Q (.bl true) H):lv K false x y H Q:=⟨n,hn,h,q⟩
theorem BY {x y:V} (n:Nat) (hn:n<=30) (h:iP K H n x y) (q:Q (.bl false) H):lv K true x y H Q:=⟨n,hn,h,q⟩
theorem oN {a b:Addr} {xs:List V} (e1:SqL K H a xs) (e2:SqL K H b xs) (hf:∀ x∈xs,za x=true):iP K H 1 (.ref a) (.ref b):=
 .lst e1 e2 rfl fun i x y hx hy=>by
  rw [hx] at hy
  cases hy
  exact .flat (hf x (LX hx))
theorem EZ (ns:List Int):∀ x∈ns.map V.int,za x=true:=fun x hx=>by obtain ⟨n,_,rfl⟩:=Nr.mp hx; rfl
end
section
variable {g:CF TG} {tt:CF TT} {te:CF TE} {σ₀:St} {Q:VK} {H:Hp} {K:Fg}
end
section
variable {K:Fg} {vs:List V} {H:Hp} {Q:VK} {E:XK}
noncomputable def em (K:Fg):Sp:=fun vs H Q _=>∃ (a:Addr) (xs:List V) (ks:List MK) (s:Bool),vs=[.ref a]/\H a=some (.lst xs)/\Paired (dg H) xs ks/\(∀ k∈ks,ma k=s)/\ks.length<=100000/\
 ∀ p H',H p=none->am H H'->H' p=some (.lst (au (bc ks)))->Q (.ref p) H'
noncomputable def eP (K:Fg):TS:=(ap (aE zT (aj 1))
 (ap (cu (lX bA K (aa (ac 0) af)) (ip K 2 (bW (aj 2) (bW (aj 3) im))) (ee (tXM zU (ac 1) (aa (ac 3) (aa (ac 2) af)))))
 (aI (bT (dt K (ac 0)) (fun _ _ _ _=>(aj 0)) (fun _ _ _ _=>bB) (fun _ _ _ _=>(tOp CK (ac 1) (ac 0))) [none,some 1]))))
theorem qA (h:em K vs H Q E):eP K { nx:=fun _ H'=>Q .non H',rt:=Q } (start ["marks","firsts","thing","mark"] vs) H:=by
 obtain ⟨a,xs,ks,s,rfl,e,hk,hs,hl,q⟩:=h
 show eP K _ [some _,none,none,none] _
 unfold eP
 have hlen:xs.length=ks.length:=My hk
 walk_at "rd"
 refine IC s fun d H1 hd s1 dx1=>?_
 walk_at "rd"
 refine rD (S:=bA) xs (SqL.of (s1 _ _ e)) (fun i σ H3=>∃ (u v:Option V),σ=[some (.ref a),some (.ref d),u,v]/\am H H3/\Dx H3 d s (gX ks i) i) ?_ ?_ ?_ ?_
 ·exact ⟨none,none,rfl,s1,dx1.congr Bj⟩
 ·rintro i σ H3 hi ⟨u,v,rfl,s3,dx3⟩
  exact SqL.of (s3 _ _ e)
 ·rintro i x T σ H3 H4 hx ⟨u,v,rfl,s3,dx3⟩ hT s4 eT
  obtain ⟨k,hki,hkv⟩:=cf hk hx
  have hks:=hs k (LX hki)
  have hi:i < ks.length:=(LJ.mp hki).1
  refine gh (SqT.of eT) ?_
  have s34:=s3.trans s4
  have hkv4:=hkv.keep s34.keep
  have dx4:=dx3.same s4
  walk_at "rd"
  refine Ly ?_
  walk_at "rd"
  refine ⟨⟨d,s,_,_,rfl,dx4⟩,?_⟩
  walk_at "rd"
  refine ID dx4 hkv4 hks (by rw [LP]; omega) (fun w hw=>?_) (fun hn H5 o5 dx5=>?_)
  ·have hm:k∈ks.take i:=by
    by_cases q:k∈ks.take i
    ·exact q
    ·rw [Bi q] at hw; cases hw
   exact ⟨_,_,rfl,s34,(dx4.congr (CL hki hm)).le (OM i)⟩
  ·have hm:k∉ks.take i:=fun q=>by rw [xU q] at hn; cases hn
   exact ⟨_,_,rfl,s34.off hd o5,dx5.congr (CM hki hm)⟩
 ·rintro σ H3 ⟨u,v,rfl,s3,dx3⟩
  walk_at "rd"
  refine fN xs (SqL.of (s3 _ _ e)) (by omega) (fun i acc _=>acc=au ((bc ks).take i)) (fun H' _=>rfl) ?_ ?_
  ·rintro p hp C s' H' fp i x acc H4 hx ⟨s4,e4,l4,rfl⟩
   obtain ⟨k,hki,hkv⟩:=cf hk hx
   have hks:=hs k (LX hki)
   have hi:i < ks.length:=(LJ.mp hki).1
   walk_at "rd"
   refine Kc (dx3.same s4) (hkv.keep (s3.trans s4).keep) hks (xU (by rw [hlen,Mx]; exact LX hki)) ?_
   refine bn.put hp (fun _ _ _ _ r _=>r) s4 e4 l4 ?_
   rw [zV hki,gi]
  ·rintro p acc H4 hp s4 e4 rfl
   refine q _ _ (s3.free hp) (s3.trans s4) ?_
   rw [e4,Sf (by rw [dN,hlen]; exact LH _)]
noncomputable def gE (w:List Nat) (h:Int):List Int:=qz (w.map fun (s:Nat)=>((s:Nat):Int)) h w.length
noncomputable def Ad (ns:List Int):MK:=.inr (ns.map fun n=>(Oq (some n):IK))
theorem Go (a b:List Int) (e:Ad a=Ad b):a=b:=by
 have h:a.map (fun n=>(Oq (some n):IK))=b.map (fun n=>(Oq (some n):IK)):=Pk e
 clear e
 induction a generalizing b with
 | nil=>cases b with
  | nil=>rfl
  | cons _ _=>simp at h
 | cons x r ih=>cases b with
  | nil=>simp at h
  | cons y t=>
   rw [LZ,LZ] at h
   injection h with h1 h2
   injection h1 with h1
   injection h1 with h1
   rw [h1,ih t h2]
noncomputable def lw (ws:List (List Nat)) (h:Int):List Nat:=bc (ws.map fun w=>gE w h)
theorem Bp (ws:List (List Nat)) (h:Int):bc (ws.map fun w=>Ad (gE w h))=lw ws h:=by
 unfold lw
 rw [<-sB (f:=Ad) Go,Oy]
 rfl
theorem bG.to' {H H':Hp} {p:Addr} {ws:List (List Nat)} (d:bG H p ws) (k:gU H H') (e:∀ rs:List Addr,H p=some (.lst (rs.map V.ref))->H' p=some (.lst (rs.map V.ref))):bG H' p ws:=by
 obtain ⟨rs,h1,h2⟩:=d
 exact ⟨rs,e rs h1,jL h2 fun a xs e=>k _ _ e⟩
theorem bG.same' {H H':Hp} {p:Addr} {ws:List (List Nat)} (d:bG H p ws) (s:am H H'):bG H' p ws:=d.to' s.keep fun rs e=>s _ _ e
theorem uK {rs:List Addr} {i:Nat} {x:V} (hx:(rs.map V.ref)[i]?=some x):∃ a,rs[i]?=some a/\x=.ref a:=by
 rw [LU] at hx
 cases e:rs[i]? with
 | none=>rw [e] at hx; cases hx
 | some z=>rw [e] at hx; exact ⟨z,rfl,(LW hx).symm⟩
noncomputable def kf (K:Fg):Sp:=fun vs H Q _=>∃ (a:Addr) (ws:List (List Nat)) (h:Int),vs=[.ref a,.int h]/\bG H a ws/\(∀ w∈ws,w.length<=1000)/\ws.length<=100000/\
 ∀ p H',H p=none->am H H'->H' p=some (.lst (au (lw ws h)))->Q (.ref p) H'
theorem E1 {H:Hp} {xs:List V} {ks:List MK} {x:V} {k:MK} (h:Paired (dg H) xs ks) (q:dg H x k):Paired (dg H) (xs++[x]) (ks++[k]):=by
 induction h with
 | nil=>exact .cons q .nil
 | cons r _ ih=>exact .cons r ih
noncomputable def iQ (K:Fg):TS:=(aI (av (em K) [] E0 (aa (bT (dt K (ac 0)) (fun _ _ _ _=>(aj 0)) (fun _ _ _ _=>bB) (fun _ _ _ _=>(av (g9 K) [] E0 (aa (ac 0) (aa (ac 1) af)))) [none,some 1]) af)))
theorem yk (h:kf K vs H Q E):iQ K { nx:=fun _ H'=>Q .non H',rt:=Q } (start ["deals","hand"] vs) H:=by
 obtain ⟨a,ws,h,rfl,hD,hw,hl,q⟩:=h
 show iQ K _ [some _,some _] _
 unfold iQ
 obtain ⟨rs,e,hr⟩:=id hD
 have hlr:rs.length=ws.length:=My hr
 walk_at "rd"
 refine fN (rs.map V.ref) (SqL.of e) (by rw [LF]; omega) (fun i acc H'=>Paired (dg H') acc ((ws.take i).map fun w=>Ad (gE w h))) (fun H' _=>.nil) ?_ ?_
 ·rintro p hp C s' H' fp i x acc H2 hx ⟨s2,e2,l2,r2⟩
  obtain ⟨b,hb,rfl⟩:=uK hx
  obtain ⟨w,hwi,ew⟩:=cf hr hb
  walk_at "rd"
  refine ⟨b,w.map fun (s:Nat)=>((s:Nat):Int),h,rfl,by rw [<-dJ]; exact SqT.of (s2 _ _ ew),by rw [LF]; exact hw w (LX hwi),fun r H3 s3 e3=>?_⟩
  rw [LF] at e3
  refine bn.put hp (fun _ _ _ _ r k=>xR r k) (s2.trans s3) (s3 _ _ e2) l2 ?_
  rw [dh hwi,Mf]
  exact E1 (xR r2 s3.keep) (Iz (ns:=gE w h) e3)
 ·rintro p acc H2 hp s2 e2 r2
  rw [LF,hlr,Mx] at r2
  walk_at "rd"
  refine ⟨p,acc,_,true,rfl,e2,r2,?_,by rw [LF]; omega,fun p3 H3 hp3 s3 e3=>?_⟩
  ·intro k hk
   obtain ⟨w,_,rfl⟩:=Nr.mp hk
   rfl
  ·rw [Bp] at e3
   exact q _ _ (s2.free hp3) (s2.trans s3) e3
end
noncomputable def CS:List V->Hp->VK->Prop:=fun xs H Q=>∃ n:Nat,xs=[.int (n:Int)]/\n<=1000000/\New H (.rng 0 (n:Int)) fun p H2=>Q (.ref p) H2
noncomputable def zb:List V->Hp->VK->Prop:=fun xs H Q=>∃ (p:Addr) (n:Nat),xs=[.ref p]/\H p=some (.rng 0 (n:Int))/\n<=1000000/\New H (.lst ((LV n).map fun (i:Nat)=>V.int ((i:Nat):Int))) fun p H2=>Q (.ref p) H2
noncomputable def HQ (ta:TA):TE:=tCB zb (aa (tCB CS ta) af)
theorem Lb {H:Hp} {Q:VK} {n:Nat} (hn:n<=1000000) (h:New H (.lst ((LV n).map fun (i:Nat)=>V.int ((i:Nat):Int))) fun p H2=>Q (.ref p) H2):New H (.rng 0 (n:Int)) fun p H2=>zb [.ref p] H2 Q:=
 fun p H' _ s e=>⟨p,n,rfl,e,hn,fun l H2 hl s2 e2=>h l H2 (s.free hl) (s.trans s2) e2⟩
noncomputable def rG (H:Hp) (ts:List Addr) (ps:List (V×V)):Prop:=Paired (fun (t:Addr) (p:V×V)=>H t=some (.tup [p.1,p.2])) ts ps
noncomputable def CT (S1 S2:Src) (K:Fg) (ta:TA):TE:=fun σ H Q=>ta σ H fun vs H1=>∃ a b xs ys,vs=[.ref a,.ref b]/\S1.Sq K H1 a xs/\S2.Sq K H1 b ys/\xs.length<=1000000/\
 ∀ p H',H1 p=none->am H1 H'->(∃ ts:List Addr,H' p=some (.lst (ts.map V.ref))/\rG H' ts (xs.zip ys))->Q (.ref p) H'
section
variable {σ:St} {H:Hp} {Q:VK} {K:Fg}
theorem Kg {ta:TA} (h:ta σ H fun vs H1=>∃ n:Nat,vs=[.int (n:Int)]/\n<=1000000/\New H1 (.rng 0 (n:Int)) fun p H2=>zb [.ref p] H2 Q):HQ ta σ H Q:=h
theorem Kh {S1 S2:Src} {ta:TA} (h:ta σ H fun vs H1=>∃ a b xs ys,vs=[.ref a,.ref b]/\S1.Sq K H1 a xs/\S2.Sq K H1 b ys/\xs.length<=1000000/\
 ∀ p H',H1 p=none->am H1 H'->(∃ ts:List Addr,H' p=some (.lst (ts.map V.ref))/\rG H' ts (xs.zip ys))->Q (.ref p) H'):CT S1 S2 K ta σ H Q:=h
end
end L2
section
namespace KF
noncomputable def eB (ps:List Nat):Prop:=∀ x y:Nat,ps[x]?=some y->y<=x
inductive bu (ps:List Nat):Nat->Nat->Prop where
 | stop {x:Nat} (h:ps[x]?=some x):bu ps x x
 | step {x y r:Nat} (h:ps[x]?=some y) (hl:y < x) (t:bu ps y r):bu ps x r
theorem bu.inj {ps:List Nat} {x r r':Nat} (a:bu ps x r) (b:bu ps x r'):r=r':=by
 induction a with
 | stop h=>cases b with
  | stop _=>rfl
  | step h' hl _=>rw [h] at h'; cases h'; omega
 | step h hl _ ih=>cases b with
  | stop h'=>rw [h] at h'; cases h'; omega
  | step h' _ t=>rw [h] at h'; cases h'; exact ih t
theorem eB.root {ps:List Nat} (f:eB ps):∀ x,x < ps.length->∃ r,bu ps x r:=by
 intro x
 induction x using Nat.strongRecOn with
 | ind x ih=>
  intro hx
  have e:=LD hx
  have hy:=f x _ e
  rcases Py hy with h | h
  ·obtain ⟨r,hr⟩:=ih _ h (by omega)
   exact ⟨r,.step e h hr⟩
  ·rw [h] at e
   exact ⟨x,.stop e⟩
theorem bu.le {ps:List Nat} {x r:Nat} (a:bu ps x r):r<=x:=by
 induction a with
 | stop _=>exact LH _
 | step _ hl _ ih=>omega
theorem bu.self {ps:List Nat} {x r:Nat} (a:bu ps x r):ps[r]?=some r:=by
 induction a with
 | stop h=>exact h
 | step _ _ _ ih=>exact ih
theorem bu.lt {ps:List Nat} {x r:Nat} (a:bu ps x r):x < ps.length:=by
 cases a with
 | stop h=>exact (LJ.mp h).1
 | step h _ _=>exact (LJ.mp h).1
theorem eB.range (n:Nat):eB (LV n):=fun x y h=>by
 obtain ⟨h1,h2⟩:=LJ.mp h
 rw [QZ] at h2
 omega
theorem bu.range {n x:Nat} (h:x < n):bu (LV n) x x:=.stop (by rw [M1 h])
theorem Ki {ps:List Nat} {e g y z:Nat} (h:(ps.set e g)[y]?=some z):(y=e/\z=g)\/(y≠e/\ps[y]?=some z):=by
 rw [N1] at h
 by_cases q:e=y
 ·rw [if_pos q] at h
  split at h
  ·cases h; exact .inl ⟨q.symm,rfl⟩
  ·cases h
 ·rw [if_neg q] at h
  exact .inr ⟨fun z=>q z.symm,h⟩
theorem nH {ps:List Nat} {e g y:Nat} (h:y≠e):(ps.set e g)[y]?=ps[y]?:=by
 rw [N1,if_neg (fun z=>h z.symm)]
theorem j5 {ps:List Nat} {e g:Nat} (h:e < ps.length):(ps.set e g)[e]?=some g:=by
 rw [N1,if_pos rfl,if_pos h]
theorem eB.set {ps:List Nat} (f:eB ps) {e g:Nat} (h:g<=e):eB (ps.set e g):=fun x y q=>by
 rcases Ki q with ⟨rfl,rfl⟩ | ⟨_,q⟩
 ·exact h
 ·exact f x y q
theorem bu.halve {ps:List Nat} (f:eB ps) {e p g:Nat} (h1:ps[e]?=some p) (h2:ps[p]?=some g) {y r:Nat} (a:bu ps y r):bu (ps.set e g) y r:=by
 have he:e < ps.length:=(LJ.mp h1).1
 induction a with
 | @stop x h=>
  by_cases q:x=e
  ·subst q
   rw [h] at h1
   cases h1
   rw [h] at h2
   cases h2
   exact .stop (j5 he)
  ·exact .stop (by rw [nH q]; exact h)
 | @step x y r h hl t ih=>
  by_cases q:x=e
  ·subst q
   rw [h] at h1
   cases h1
   have e1:(ps.set x g)[p]?=some g:=by rw [nH (by omega)]; exact h2
   cases ih with
   | stop h'=>
    rw [e1] at h'
    cases h'
    exact .step (j5 he) hl (.stop e1)
   | step h' hl' t'=>
    rw [e1] at h'
    cases h'
    exact .step (j5 he) (by omega) t'
  ·exact .step (by rw [nH q]; exact h) hl ih
theorem bu.link {ps:List Nat} {M m:Nat} (hM:ps[M]?=some M) (hm:ps[m]?=some m) (hle:m<=M) {y r:Nat} (a:bu ps y r):bu (ps.set M m) y (if r=M then m else r):=by
 have hMl:M < ps.length:=(LJ.mp hM).1
 induction a with
 | @stop x h=>
  by_cases q:x=M
  ·subst q
   rw [if_pos rfl]
   rcases Py hle with l | l
   ·exact .step (j5 hMl) l (.stop (by rw [nH (by omega)]; exact hm))
   ·subst l
    exact .stop (j5 hMl)
  ·rw [if_neg q]
   exact .stop (by rw [nH q]; exact h)
 | @step x y r h hl t ih=>
  have q:x≠M:=by
   intro q
   subst q
   rw [h] at hM
   cases hM
   omega
  exact .step (by rw [nH q]; exact h) hl ih
inductive eK (P:Nat->Nat->Prop):Nat->Nat->Prop where
 | refl (x:Nat):eK P x x
 | one {x y:Nat} (h:P x y):eK P x y
 | symm {x y:Nat} (h:eK P x y):eK P y x
 | trans {x y z:Nat} (h:eK P x y) (t:eK P y z):eK P x z
theorem eK.mono {P P':Nat->Nat->Prop} (h:∀ x y,P x y->P' x y) {x y:Nat} (c:eK P x y):eK P' x y:=by
 induction c with
 | refl x=>exact .refl x
 | one q=>exact .one (h _ _ q)
 | symm _ ih=>exact .symm ih
 | trans _ _ a b=>exact .trans a b
noncomputable def kL (n:Nat) (vs:List (List Nat)) (x y:Nat):Prop:=∃ v∈vs,x < n/\v[x]?=some y
structure qB (n:Nat) (P:Nat->Nat->Prop) (r:List Nat):Prop where
 len:r.length=n
 le:∀ i x:Nat,r[i]?=some x->x<=i
 conn:∀ i x:Nat,r[i]?=some x->eK P i x
 same:∀ i j:Nat,i < n->j < n->eK P i j->r[i]?=r[j]?
structure dk (n:Nat) (P:Nat->Nat->Prop) (ps:List Nat):Prop where
 len:ps.length=n
 forest:eB ps
 conn:∀ x r,bu ps x r->eK P x r
 same:∀ x y,P x y->∃ r,bu ps x r/\bu ps y r
theorem dk.join {n:Nat} {P:Nat->Nat->Prop} {ps r:List Nat} (t:dk n P ps) (hl:r.length=n) (hr:∀ i x:Nat,r[i]?=some x->bu ps i x):qB n P r where
 len:=hl
 le:=fun i x h=>(hr i x h).le
 conn:=fun i x h=>t.conn _ _ (hr i x h)
 same:=by
  have key:∀ i j,eK P i j->∀ x,(bu ps i x↔bu ps j x):=by
   intro i j c
   induction c with
   | refl x=>intro x; exact Iff.rfl
   | one q=>
    intro x
    obtain ⟨r,h1,h2⟩:=t.same _ _ q
    exact ⟨fun a=>by rw [a.inj h1]; exact h2,fun a=>by rw [a.inj h2]; exact h1⟩
   | symm _ ih=>intro x; exact (ih x).symm
   | trans _ _ a b=>intro x; exact (a x).trans (b x)
  intro i j hi hj c
  have e1:=LD (l:=r) (i:=i) (by rw [hl]; exact hi)
  have e2:=LD (l:=r) (i:=j) (by rw [hl]; exact hj)
  have q1:=(key i j c _).mp (hr _ _ e1)
  rw [e1,e2,q1.inj (hr _ _ e2)]
theorem dk.start (n:Nat):dk n (fun _ _=>False) (LV n) where
 len:=MX
 forest:=eB.range n
 conn:=fun x r h=>by
  have hx:x < n:=by have:=h.lt; rw [MX] at this; exact this
  rw [h.inj (bu.range hx)]
  exact .refl x
 same:=fun _ _ h=>h.elim
theorem dk.moved {n:Nat} {P:Nat->Nat->Prop} {ps ps':List Nat} (t:dk n P ps) (f:eB ps') (hl:ps'.length=n) (h:∀ y r,bu ps y r->bu ps' y r):dk n P ps' where
 len:=hl
 forest:=f
 conn:=fun x r a=>by
  obtain ⟨r',b⟩:=t.forest.root x (by rw [t.len,<-hl]; exact a.lt)
  rw [a.inj (h _ _ b)]
  exact t.conn _ _ b
 same:=fun x y q=>by
  obtain ⟨r,h1,h2⟩:=t.same x y q
  exact ⟨r,h _ _ h1,h _ _ h2⟩
theorem dk.link {n:Nat} {P P':Nat->Nat->Prop} {ps:List Nat} {a b ra rb M m:Nat} (t:dk n P ps) (ha:bu ps a ra) (hb:bu ps b rb) (hM:(M=ra/\m=rb)\/(M=rb/\m=ra)) (hle:m<=M)
  (h1:∀ x y,P x y->P' x y) (h2:∀ x y,P' x y->P x y\/(x=a/\y=b)) (h3:P' a b):dk n P' (ps.set M m):=by
 have sM:ps[M]?=some M:=by
  rcases hM with ⟨rfl,_⟩ | ⟨rfl,_⟩
  ·exact ha.self
  ·exact hb.self
 have sm:ps[m]?=some m:=by
  rcases hM with ⟨_,rfl⟩ | ⟨_,rfl⟩
  ·exact hb.self
  ·exact ha.self
 have cMm:eK P' M m:=by
  have c1:eK P' a ra:=(t.conn _ _ ha).mono h1
  have c2:eK P' b rb:=(t.conn _ _ hb).mono h1
  rcases hM with ⟨rfl,rfl⟩ | ⟨rfl,rfl⟩
  ·exact .trans (.symm c1) (.trans (.one h3) c2)
  ·exact .trans (.symm c2) (.trans (.symm (.one h3)) c1)
 have rt:∀ {y r:Nat},bu ps y r->bu (ps.set M m) y (if r=M then m else r):=fun q=>bu.link sM sm hle q
 refine ⟨by rw [NI]; exact t.len,t.forest.set hle,fun x r q=>?_,fun x y q=>?_⟩
 ·obtain ⟨r',h⟩:=t.forest.root x (by have:=q.lt; rw [NI] at this; exact this)
  rw [q.inj (rt h)]
  have c:eK P' x r':=(t.conn _ _ h).mono h1
  split
  ·rename_i e
   rw [e] at c
   exact .trans c cMm
  ·exact c
 ·rcases h2 x y q with q | ⟨rfl,rfl⟩
  ·obtain ⟨r,q1,q2⟩:=t.same x y q
   exact ⟨_,rt q1,rt q2⟩
  ·refine ⟨m,?_,?_⟩
   ·have:=rt ha
    rcases hM with ⟨e1,e2⟩ | ⟨e1,e2⟩
    ·rw [if_pos e1.symm] at this; exact this
    ·by_cases z:ra=M
     ·rw [if_pos z] at this; exact this
     ·rw [if_neg z,<-e2] at this; exact this
   ·have:=rt hb
    rcases hM with ⟨e1,e2⟩ | ⟨e1,e2⟩
    ·by_cases z:rb=M
     ·rw [if_pos z] at this; exact this
     ·rw [if_neg z,<-e2] at this; exact this
    ·rw [if_pos e1.symm] at this; exact this
end KF
end
namespace L2
open PySem PyProof.Rows
section
variable {K:Fg} {vs:List V} {H:Hp} {Q:VK} {E:XK}
open KF
section
variable {g:CF TG} {tt:CF TT} {te:CF TE} {σ₀:St} {Q:VK} {H:Hp} {K:Fg}
theorem E2 {j:Int} (n:Nat) (hn:j.toNat=n) (hj:j<=1000000) (hj0:-1000000<=j) (R:Addr->Nat->List V->Hp->Prop) (h0:∀ p H',H p=none->am H H'->H' p=some (.lst [])->R p 0 [] H')
  (hp:∀ p i acc H',R p i acc H'->H' p=some (.lst acc)/\acc.length<=i)
  (hs:∀ p,H p=none->∀ C s' H' fp,∀ i acc H2,i < n->R p i acc H2->g C s' H' fp (.int i) σ₀ H2 fun σ2 H3=>tt C s' H' fp σ2 H3 fun b H4=>if b=true then te C s' H' fp σ2 H4 fun y H5=>H5 p=some (.lst acc)/\R p (i + 1) (acc++[y]) (upd H5 p (.lst (acc++[y]))) else R p (i + 1) acc H4)
  (hd:∀ p acc H2,H p=none->R p n acc H2->Q (.ref p) H2):
  ∃ j':Int,[V.int j]=[.int j']/\-(2 ^ 62)<=j'/\j' < 2 ^ 62/\∀ p,H p=none->∃ W:Nat->Nat->List V->Hp->Prop,(∃ m,W 0 m [] (upd H p (.lst [])))/\∀ C s' H' fp,cK (Itr 0 j'.toNat) (g C s' H' fp) (tt C s' H' fp) (te C s' H' fp) σ₀ p Q W:=by
 refine ⟨j,rfl,by omega,by omega,fun p hpn=>?_⟩
 subst hn
 exact oB (lo:=0) (R p) (h0 p _ hpn (ba hpn _) aA) (fun i acc H2 _ c=>hp p i acc H2 c) (by rw [LP]; omega) (fun C s' H' fp i acc H2 hi c=>by rw [RH]; exact hs p hpn C s' H' fp i acc H2 hi c) fun acc H2 c=>hd p acc H2 hpn c
end
theorem wI {n j:Nat} (h:j < n):ixN n (j:Int)=some j:=by unfold ixN; rw [if_pos (by omega),if_pos (by omega)]; simp
theorem CU (n:Nat):(LV n).map (fun (i:Nat)=>V.int ((i:Nat):Int))=au (LV n):=rfl
noncomputable def j6 (_:Fg):Sp:=fun vs H Q _=>∃ (p:Addr) (ps:List Nat) (x r:Nat),vs=[.ref p,.int (x:Int)]/\H p=some (.lst (au ps))/\eB ps/\bu ps x r/\
 ∀ H' ps',Off p H H'->H' p=some (.lst (au ps'))->ps'.length=ps.length->eB ps'->(∀ y s,bu ps y s->bu ps' y s)->Q (.int (r:Int)) H'
noncomputable def oO (K:Fg):TS:=(ap (aE (ac 1) (aj 2))
 (ap (lf (aX (tOp rNe (tOp (bY K) (ac 0) (ac 2)) (ac 2))) (ap (aE (tOp (bY K) (ac 0) (tOp (bY K) (ac 0) (ac 2))) (oq (ac 0) (ac 2) kG))
 (aE (tOp (bY K) (ac 0) (ac 2)) (aj 2))))
 (aI (ac 2))))
theorem Gp {p:Addr} {H:Hp}:Off p H H:=fun _ _=>rfl
theorem qC {p:Addr} {H H1 H2:Hp} (a:Off p H H1) (b:Off p H1 H2):Off p H H2:=fun c hc=>(b c hc).trans (a c hc)
theorem E3 (h:j6 K vs H Q E):oO K { nx:=fun _ H'=>Q .non H',rt:=Q } (start ["points","thing","end"] vs) H:=by
 obtain ⟨p,ps,x,r,rfl,e,hf,hr,q⟩:=h
 show oO K _ [some _,some _,none] _
 unfold oO
 walk_at "rd"
 refine y8 (fun m σ H1=>∃ (ps':List Nat),σ=[some (.ref p),some (.int (x:Int)),some (.int (m:Int))]/\Off p H H1/\H1 p=some (.lst (au ps'))/\ps'.length=ps.length/\eB ps'/\(∀ y s,bu ps y s->bu ps' y s)/\bu ps' m r) x ⟨ps,rfl,Gp,e,rfl,hf,fun _ _ h=>h,hr⟩ ?_
 rintro m σ H1 ⟨ps',rfl,o1,e1,hl,hf1,hk,hr1⟩
 have hm:=hr1.lt
 obtain ⟨y,hy⟩:∃ y,ps'[m]?=some y:=⟨_,LD hm⟩
 walk_at "rd"
 refine bK (SqL.of e1) (iz hy) ?_
 walk_at "rd"
 refine tq (fun c=>?_) (fun c=>?_)
 ·have hym:y < m:=by have:=hf1 m y hy; omega
  obtain ⟨g,hg⟩:∃ g,ps'[y]?=some g:=⟨_,LD (by omega)⟩
  have hgy:=hf1 y g hg
  refine y7 ?_
  walk_at "rd"
  refine bK (SqL.of e1) (iz hy) ?_
  walk_at "rd"
  refine bK (SqL.of e1) (iz hg) ?_
  walk_at "rd"
  refine nD e1 (wI (by rw [bh]; exact hm)) ?_
  rw [tH]
  walk_at "rd"
  refine bK (SqL.of aA) (iz (z:=g) (j5 hm)) ?_
  walk_at "rd"
  refine ⟨g,by omega,ps'.set m g,rfl,qC o1 iG,aA,by rw [NI]; exact hl,hf1.set (by omega),fun a s h=>bu.halve hf1 hy hg (hk a s h),?_⟩
  have:=bu.halve hf1 hy hg hr1
  cases this with
  | stop h=>
   rw [j5 hm] at h
   cases h
   omega
  | step h _ t=>
   rw [j5 hm] at h
   cases h
   exact t
 ·have:y=m:=by omega
  subst this
  walk_at "rd"
  have er:y=r:=(bu.stop hy).inj hr1
  rw [er]
  exact q H1 ps' o1 e1 hl hf1 hk
noncomputable def wJ (_:Fg):Sp:=fun vs H Q _=>∃ (p:Addr) (ps:List Nat) (n:Nat) (P P':Nat->Nat->Prop) (a b:Nat),vs=[.ref p,.int (a:Int),.int (b:Int)]/\H p=some (.lst (au ps))/\dk n P ps/\a < n/\b < n/\
 (∀ x y,P x y->P' x y)/\(∀ x y,P' x y->P x y\/(x=a/\y=b))/\P' a b/\∀ H' ps',Off p H H'->H' p=some (.lst (au ps'))->dk n P' ps'->Q .non H'
noncomputable def uL (K:Fg):TS:=(ap (aE (av (j6 K) [] E0 (aa (ac 0) (aa (ac 1) af))) (aj 3))
 (ap (aE (av (j6 K) [] E0 (aa (ac 0) (aa (ac 2) af))) (aj 4))
 (aE (tCB CB (aa (ac 3) (aa (ac 4) af))) (oq (ac 0) (tCB HJ (aa (ac 3) (aa (ac 4) af))) kG))))
theorem II (h:wJ K vs H Q E):uL K { nx:=fun _ H'=>Q .non H',rt:=Q } (start ["points","one","other","first","second"] vs) H:=by
 obtain ⟨p,ps,n,P,P',a,b,rfl,e,ht,ha,hb,h1,h2,h3,q⟩:=h
 show uL K _ [some _,some _,some _,none,none] _
 unfold uL
 obtain ⟨ra,hra⟩:=ht.forest.root a (by rw [ht.len]; exact ha)
 walk_at "rd"
 refine ⟨p,ps,a,ra,rfl,e,ht.forest,hra,fun H1 ps1 o1 e1 l1 f1 k1=>?_⟩
 have ht1:=ht.moved f1 (by rw [l1]; exact ht.len) k1
 obtain ⟨rb,hrb⟩:=ht1.forest.root b (by rw [ht1.len]; exact hb)
 walk_at "rd"
 refine ⟨p,ps1,b,rb,rfl,e1,f1,hrb,fun H2 ps2 o2 e2 l2 f2 k2=>?_⟩
 have ht2:=ht1.moved f2 (by rw [l2]; exact ht1.len) k2
 have hra2:=k2 _ _ (k1 _ _ hra)
 have hrb2:=k2 _ _ hrb
 walk_at "rd"
 have la:=hra2.le
 have lb:=hrb2.le
 obtain ⟨M,m,hM,hm,hd,hle⟩:∃ M m:Nat,(if (rb:Int) > (ra:Int) then (rb:Int) else (ra:Int))=(M:Int)/\(if (rb:Int) < (ra:Int) then (rb:Int) else (ra:Int))=(m:Int)/\((M=ra/\m=rb)\/(M=rb/\m=ra))/\m<=M:=by
  by_cases c:rb < ra
  ·exact ⟨ra,rb,by rw [if_neg (by omega)],by rw [if_pos (by omega)],.inl ⟨rfl,rfl⟩,by omega⟩
  ·by_cases d:ra < rb
   ·exact ⟨rb,ra,by rw [if_pos (by omega)],by rw [if_neg (by omega)],.inr ⟨rfl,rfl⟩,by omega⟩
   ·exact ⟨ra,ra,by rw [if_neg (by omega)],by rw [if_neg (by omega)],.inr ⟨by omega,rfl⟩,LH _⟩
 rw [hm,hM]
 have hMl:M < ps2.length:=by
  rw [ht2.len]
  rcases hd with ⟨rfl,_⟩ | ⟨rfl,_⟩ <;> omega
 refine nD e2 (wI (by rw [bh]; exact hMl)) ?_
 rw [tH]
 exact q _ _ (qC (qC o1 o2) iG) aA (ht2.link hra2 hrb2 hd hle h1 h2 h3)
noncomputable def cP (H:Hp) (a:Addr) (vs:List (List Nat)):Prop:=∃ rs:List Addr,H a=some (.lst (rs.map V.ref))/\Paired (fun (r:Addr) (v:List Nat)=>H r=some (.lst (au v))) rs vs
theorem cP.same {H H':Hp} {a:Addr} {vs:List (List Nat)} (h:cP H a vs) (s:am H H'):cP H' a vs:=by
 obtain ⟨rs,e,r⟩:=h
 exact ⟨rs,s _ _ e,Paired.mapP r fun _ _ q=>s _ _ q⟩
noncomputable def Within (n:Nat) (v:List Nat):Prop:=v.length=n/\∀ x∈v,x < n
theorem nI {rs:List Addr} {i:Nat} {x:V} (hx:(rs.map V.ref)[i]?=some x):∃ a,rs[i]?=some a/\x=.ref a:=by
 rw [LU] at hx
 cases e:rs[i]? with
 | none=>rw [e] at hx; cases hx
 | some z=>rw [e] at hx; exact ⟨z,rfl,(LW hx).symm⟩
noncomputable def qD (_:Fg):Sp:=fun vs H Q _=>∃ (n:Nat) (a:Addr) (ws:List (List Nat)),vs=[.int (n:Int),.ref a]/\cP H a ws/\(∀ v∈ws,Within n v)/\n<=100000/\
 ∀ r p H',qB n (kL n ws) r->H p=none->am H H'->H' p=some (.lst (au r))->Q (.ref p) H'
noncomputable def oP (K:Fg):TS:=(ap (aE (HQ (aa (ac 0) af)) (aj 2))
 (ap (cu (dt K (ac 1)) (aj 3) (cu (lX bA K (aa (ac 3) af)) (ip K 2 (bW (aj 4) (bW (aj 5) im))) (ee (av (wJ K) [] E0 (aa (ac 2) (aa (ac 4) (aa (ac 5) af)))))))
 (aI (bT (cD (aa (ac 0) af)) (fun _ _ _ _=>(aj 0)) (fun _ _ _ _=>bB) (fun _ _ _ _=>(av (j6 K) [] E0 (aa (ac 1) (aa (ac 0) af)))) [none,some 2]))))
theorem CV {n:Nat} {ws:List (List Nat)} {i:Nat} {v:List Nat} (hv:ws[i]?=some v) {x y:Nat}:kL n (ws.take (i + 1)) x y↔kL n (ws.take i) x y\/(x < n/\v[x]?=some y):=by
 unfold kL
 rw [dh hv]
 constructor
 ·rintro ⟨w,hw,h1,h2⟩
  rcases Mr.mp hw with hw | hw
  ·exact .inl ⟨w,hw,h1,h2⟩
  ·rw [LG.mp hw] at h2; exact .inr ⟨h1,h2⟩
 ·rintro (⟨w,hw,h1,h2⟩ | ⟨h1,h2⟩)
  ·exact ⟨w,NV _ hw,h1,h2⟩
  ·exact ⟨v,MD _ (LG.mpr rfl),h1,h2⟩
theorem _root_.KF.dk.congr {n:Nat} {P P':Nat->Nat->Prop} {ps:List Nat} (t:dk n P ps) (h:∀ x y,P x y↔P' x y):dk n P' ps:=by
 have e:P=P':=by funext x y; exact propext (h x y)
 rw [<-e]; exact t
theorem E4 (h:qD K vs H Q E):oP K { nx:=fun _ H'=>Q .non H',rt:=Q } (start ["many","views","points","view","thing","least"] vs) H:=by
 obtain ⟨n,a,ws,rfl,hV,hw,hn,q⟩:=h
 show oP K _ [some _,some _,none,none,none,none] _
 unfold oP
 obtain ⟨rs,ea,hr⟩:=id hV
 have hlr:rs.length=ws.length:=My hr
 walk_at "rd"
 refine Kg ?_
 walk_at "rd"
 refine ⟨n,rfl,by omega,Lb (by omega) fun p H1 hp s1 e1=>?_⟩
 rw [CU] at e1
 walk_at "rd"
 refine nE (rs.map V.ref) (SqL.of (s1 _ _ ea)) (fun i σ H2=>∃ (u1 u2 u3:Option V) (ps:List Nat),σ=[some (.int (n:Int)),some (.ref a),some (.ref p),u1,u2,u3]/\am H H2/\H2 p=some (.lst (au ps))/\dk n (kL n (ws.take i)) ps) ?_ ?_ ?_ ?_
 ·refine ⟨_,_,_,_,rfl,s1,e1,(dk.start n).congr fun x y=>⟨fun h=>h.elim,fun ⟨w,hw,_⟩=>by simp at hw⟩⟩
 ·rintro i σ H2 hi ⟨u1,u2,u3,ps,rfl,s2,e2,t2⟩
  exact SqL.of (s2 _ _ ea)
 ·rintro i x σ H2 hx ⟨u1,u2,u3,ps,rfl,s2,e2,t2⟩
  obtain ⟨b,hb,rfl⟩:=nI hx
  obtain ⟨v,hv,ev⟩:=cf hr hb
  obtain ⟨hvl,hvx⟩:=hw v (LX hv)
  walk_at "rd"
  refine rD (S:=bA) (au v) (SqL.of (s2 _ _ ev)) (fun j σ H3=>∃ (u2 u3:Option V) (ps:List Nat),σ=[some (.int (n:Int)),some (.ref a),some (.ref p),some (.ref b),u2,u3]/\am H H3/\H3 p=some (.lst (au ps))/\dk n (fun x y=>kL n (ws.take i) x y\/(x < j/\v[x]?=some y)) ps) ?_ ?_ ?_ ?_
  ·exact ⟨_,_,ps,rfl,s2,e2,t2.congr fun x y=>⟨.inl,fun h=>h.elim (fun h=>h) fun h=>absurd h.1 (by omega)⟩⟩
  ·rintro j σ H3 hj ⟨u2,u3,ps,rfl,s3,e3,t3⟩
   exact SqL.of (s3 _ _ ev)
  ·rintro j x T σ H3 H4 hx ⟨u2,u3,ps,rfl,s3,e3,t3⟩ hT s4 eT
   obtain ⟨z,hz,rfl⟩:=iH hx
   have hjl:j < v.length:=(LJ.mp hz).1
   refine gh (SqT.of eT) ?_
   walk_at "rd"
   refine ⟨p,ps,n,_,(fun x y=>kL n (ws.take i) x y\/(x < j + 1/\v[x]?=some y)),j,z,rfl,s4 _ _ e3,t3,by omega,hvx z (LX hz),?_,?_,.inr ⟨by omega,hz⟩,fun H5 ps5 o5 e5 t5=>?_⟩
   ·rintro x y (h | h)
    ·exact .inl h
    ·exact .inr ⟨by omega,h.2⟩
   ·rintro x y (h | ⟨h1,h2⟩)
    ·exact .inl (.inl h)
    ·by_cases c:x=j
     ·subst c
      rw [hz] at h2
      cases h2
      exact .inr ⟨rfl,rfl⟩
     ·exact .inl (.inr ⟨by omega,h2⟩)
   ·exact ⟨_,_,ps5,rfl,(s3.trans s4).off hp o5,e5,t5⟩
  ·rintro σ H3 ⟨u2,u3,ps,rfl,s3,e3,t3⟩
   rw [bh] at t3
   exact ⟨_,_,_,ps,rfl,s3,e3,t3.congr fun x y=>by rw [CV hv,hvl]⟩
 ·rintro σ H2 ⟨u1,u2,u3,ps,rfl,s2,e2,t2⟩
  rw [LF,hlr,Mx] at t2
  walk_at "rd"
  refine E2 n (by omega) (by omega) (by omega) (fun l i acc H3=>∃ (ps' rr:List Nat),acc=au rr/\rr.length=i/\H3 l=some (.lst acc)/\l≠p/\H l=none/\am H H3/\H3 p=some (.lst (au ps'))/\dk n (kL n ws) ps'/\(∀ y s,bu ps y s->bu ps' y s)/\∀ k x:Nat,rr[k]?=some x->bu ps k x) ?_ ?_ ?_ ?_
  ·intro l H3 hl s3 e3
   exact ⟨ps,[],rfl,rfl,e3,(aV e2 hl).symm,s2.free hl,s2.trans s3,s3 _ _ e2,t2,fun _ _ h=>h,fun k x h=>by simp at h⟩
  ·rintro l i acc H3 ⟨ps',rr,rfl,hl,e3,_⟩
   exact ⟨e3,by rw [bh]; omega⟩
  ·rintro l hl C s' H' fp i acc H3 hi ⟨ps',rr,rfl,hlr',e3,nl,hlH,s3,ep3,t3,k3,g3⟩
   obtain ⟨r,hr⟩:=t2.forest.root i (by rw [t2.len]; exact hi)
   walk_at "rd"
   refine ⟨p,ps',i,r,rfl,ep3,t3.forest,k3 _ _ hr,fun H4 ps4 o4 e4 l4 f4 k4=>?_⟩
   refine ⟨by rw [o4 l nl]; exact e3,ps4,rr++[r],gi rr r,by simp [hlr'],aA,nl,hlH,(s3.off hp o4).off hlH iG,by rw [aS nl.symm]; exact e4,t3.moved f4 (by rw [l4]; exact t3.len) k4,fun y s h=>k4 _ _ (k3 _ _ h),fun k x h=>?_⟩
   rw [List.getElem?_append] at h
   by_cases c:k < rr.length
   ·rw [if_pos c] at h
    exact g3 k x h
   ·rw [if_neg c] at h
    have hk:k=i:=by
     by_cases d:k - rr.length=0
     ·omega
     ·rw [Md (by simp; omega)] at h; cases h
    subst hk
    rw [<-hlr',Qx] at h
    cases h
    exact hr
  ·rintro l acc H3 hl ⟨ps',rr,rfl,hlr',e3,nl,hlH,s3,ep3,t3,k3,g3⟩
   exact q rr l H3 (t2.join hlr' g3) hlH s3 e3
end
section
variable {g:CF TG} {tt:CF TT} {te:CF TE} {σ₀:St} {Q:VK} {H:Hp} {K:Fg}
end
theorem oQ {H:Hp} {a:Addr} {fs:List (List Nat)} (h:cP H a fs):∃ rs:List Addr,H a=some (.lst (rs.map V.ref))/\rs.length=fs.length/\∀ (i:Nat) (r:Addr),rs[i]?=some r->∃ v,fs[i]?=some v/\H r=some (.lst (au v)):=by
 obtain ⟨rs,e,p⟩:=h
 exact ⟨rs,e,My p,fun i r hr=>cf p hr⟩
end L2
section
namespace L2
open PySem PyProof.Rows
set_option genInjectivity false in
inductive Sy where
 | holds (w c:Nat) | sees (h:Nat) | not (s:Sy) | and (s t:Sy) | or (s t:Sy) | knows (h:Nat) (s:Sy) | all (g:List Nat) (s:Sy) | common (g:List Nat) (s:Sy)
namespace Sy
noncomputable def words:Sy->Nat
 | .holds _ _=>1 | .sees _=>1 | .not s=>s.words + 1 | .and s t=>s.words + t.words + 1 | .or s t=>s.words + t.words + 1 | .knows _ s=>s.words + 1 | .all _ s=>s.words + 1 | .common _ s=>s.words + 1
noncomputable def subs:Sy->List Sy
 | .holds _ _=>[] | .sees _=>[] | .not s=>[s] | .and s t=>[s,t] | .or s t=>[s,t] | .knows _ s=>[s] | .all _ s=>[s] | .common _ s=>[s]
noncomputable def word:Sy->Str
 | .holds _ _=>"holds" | .sees _=>"sees" | .not _=>"not" | .and _ _=>"and" | .or _ _=>"or" | .knows _ _=>"knows" | .all _ _=>"all" | .common _ _=>"common"
noncomputable def form:Sy->List Str
 | .holds _ _=>["holder","card"] | .sees _=>["hand"] | .not _=>["saying"] | .and _ _=>["saying","saying"] | .or _ _=>["saying","saying"] | .knows _ _=>["hand","saying"] | .all _ _=>["hands","saying"] | .common _ _=>["hands","saying"]
noncomputable def plain:Sy->Bool
 | .holds _ _=>true | .not _=>true | .and _ _=>true | .or _ _=>true | _=>false
noncomputable def Ok (cards hands:Nat):Sy->Prop
 | .holds w c=>w<=hands/\c < cards | .sees h=>h < hands | .not s=>s.Ok cards hands | .and s t=>s.Ok cards hands/\t.Ok cards hands | .or s t=>s.Ok cards hands/\t.Ok cards hands
 | .knows h s=>h < hands/\s.Ok cards hands | .all g s=>(g.Pairwise (· < ·)/\∀ k∈g,k < hands)/\s.Ok cards hands | .common g s=>(g.Pairwise (· < ·)/\∀ k∈g,k < hands)/\s.Ok cards hands
theorem words_pos (s:Sy):1<=s.words:=by cases s <;> simp [words]
theorem words_subs (s:Sy):s.words=1 + (s.subs.map words).sum:=by cases s <;> simp [words,subs] <;> omega
theorem sub_words {s t:Sy} (h:t∈s.subs):t.words + 1<=s.words:=by
 rw [words_subs s]
 have:=iN (Ta (f:=words) h)
 omega
end Sy
noncomputable def aN (H:Hp):V->Sy->Prop
 | v,.holds w c=>∃ a,v=.ref a/\H a=some (.tup [.str "holds",.int w,.int c])
 | v,.sees h=>∃ a,v=.ref a/\H a=some (.tup [.str "sees",.int h])
 | v,.not s=>∃ a x,v=.ref a/\H a=some (.tup [.str "not",x])/\aN H x s
 | v,.and s t=>∃ a x y,v=.ref a/\H a=some (.tup [.str "and",x,y])/\aN H x s/\aN H y t
 | v,.or s t=>∃ a x y,v=.ref a/\H a=some (.tup [.str "or",x,y])/\aN H x s/\aN H y t
 | v,.knows h s=>∃ a x,v=.ref a/\H a=some (.tup [.str "knows",.int h,x])/\aN H x s
 | v,.all g s=>∃ a b x,v=.ref a/\H a=some (.tup [.str "all",.ref b,x])/\H b=some (.tup (au g))/\aN H x s
 | v,.common g s=>∃ a b x,v=.ref a/\H a=some (.tup [.str "common",.ref b,x])/\H b=some (.tup (au g))/\aN H x s
theorem aN.keep {H H':Hp} (k:gU H H'):∀ {s:Sy} {v:V},aN H v s->aN H' v s
 | .holds _ _,_,⟨a,e,h⟩=>⟨a,e,k _ _ h⟩
 | .sees _,_,⟨a,e,h⟩=>⟨a,e,k _ _ h⟩
 | .not _,_,⟨a,x,e,h,r⟩=>⟨a,x,e,k _ _ h,aN.keep k r⟩
 | .and _ _,_,⟨a,x,y,e,h,r,q⟩=>⟨a,x,y,e,k _ _ h,aN.keep k r,aN.keep k q⟩
 | .or _ _,_,⟨a,x,y,e,h,r,q⟩=>⟨a,x,y,e,k _ _ h,aN.keep k r,aN.keep k q⟩
 | .knows _ _,_,⟨a,x,e,h,r⟩=>⟨a,x,e,k _ _ h,aN.keep k r⟩
 | .all _ _,_,⟨a,b,x,e,h,i,r⟩=>⟨a,b,x,e,k _ _ h,k _ _ i,aN.keep k r⟩
 | .common _ _,_,⟨a,b,x,e,h,i,r⟩=>⟨a,b,x,e,k _ _ h,k _ _ i,aN.keep k r⟩
noncomputable def iA (form:List Str) (items:List V):List V:=((form.zip items).filter fun p=>decide (p.1=("saying":Str))).map (·.2)
noncomputable def gF (H:Hp) (xs:List V) (ss:List Sy):Prop:=Paired (aN H) xs ss
theorem gF.keep {H H':Hp} (k:gU H H') {xs:List V} {ss:List Sy} (h:gF H xs ss):gF H' xs ss:=Paired.mapP h fun _ _ r=>r.keep k
theorem ns1:decide (("holder":Str)="saying")=false:=by decide +kernel
theorem ns2:decide (("card":Str)="saying")=false:=by decide +kernel
theorem ns3:decide (("hand":Str)="saying")=false:=by decide +kernel
theorem ns4:decide (("hands":Str)="saying")=false:=by decide +kernel
theorem IJ {H:Hp} {v:V} {s:Sy} (h:aN H v s):∃ a items,v=.ref a/\H a=some (.tup (.str s.word :: items))/\items.length=s.form.length/\gF H (iA s.form items) s.subs:=by
 cases s with
 | holds w c=>obtain ⟨a,e,h⟩:=h; exact ⟨a,_,e,h,rfl,by simp only [iA,Sy.form,Nq,N2,NS,ns1,ns2]; exact .nil⟩
 | sees w=>obtain ⟨a,e,h⟩:=h; exact ⟨a,_,e,h,rfl,by simp only [iA,Sy.form,Nq,N2,NS,ns3]; exact .nil⟩
 | not s=>obtain ⟨a,x,e,h,r⟩:=h; exact ⟨a,_,e,h,rfl,by simp only [iA,Sy.form,Nq,N2,NS,decide_true]; exact .cons r .nil⟩
 | and s t=>obtain ⟨a,x,y,e,h,r,q⟩:=h; exact ⟨a,_,e,h,rfl,by simp only [iA,Sy.form,Nq,N2,NS,decide_true]; exact .cons r (.cons q .nil)⟩
 | or s t=>obtain ⟨a,x,y,e,h,r,q⟩:=h; exact ⟨a,_,e,h,rfl,by simp only [iA,Sy.form,Nq,N2,NS,decide_true]; exact .cons r (.cons q .nil)⟩
 | knows w s=>obtain ⟨a,x,e,h,r⟩:=h; exact ⟨a,_,e,h,rfl,by simp only [iA,Sy.form,Nq,N2,NS,decide_true,ns3]; exact .cons r .nil⟩
 | all g s=>obtain ⟨a,b,x,e,h,i,r⟩:=h; exact ⟨a,_,e,h,rfl,by simp only [iA,Sy.form,Nq,N2,NS,decide_true,ns4]; exact .cons r .nil⟩
 | common g s=>obtain ⟨a,b,x,e,h,i,r⟩:=h; exact ⟨a,_,e,h,rfl,by simp only [iA,Sy.form,Nq,N2,NS,decide_true,ns4]; exact .cons r .nil⟩
set_option genInjectivity false in
structure Glo where
 forms:Addr
 cw:Addr
 f1:Addr
 f2:Addr
 f3:Addr
 f4:Addr
 f5:Addr
 f6:Addr
 f7:Addr
 f8:Addr
noncomputable def Glo.kvs (G:Glo):List (Str×V):=[("holds",.ref G.f1),("not",.ref G.f2),("and",.ref G.f3),("or",.ref G.f4),("knows",.ref G.f5),("all",.ref G.f6),("common",.ref G.f7),("sees",.ref G.f8)]
structure uM (K:Fg) (G:Glo):Prop where
 t1:ke K G.f1 [.str "holder",.str "card"]
 t2:ke K G.f2 [.str "saying"]
 t3:ke K G.f3 [.str "saying",.str "saying"]
 t4:ke K G.f4 [.str "saying",.str "saying"]
 t5:ke K G.f5 [.str "hand",.str "saying"]
 t6:ke K G.f6 [.str "hands",.str "saying"]
 t7:ke K G.f7 [.str "hands",.str "saying"]
 t8:ke K G.f8 [.str "hand"]
theorem uM.form {K:Fg} {G:Glo} (g:uM K G) (s:Sy):∃ f,G.kvs.lookup s.word=some (.ref f)/\ke K f (s.form.map V.str):=by
 cases s with
 | holds w c=>exact ⟨G.f1,rfl,g.t1⟩
 | sees w=>exact ⟨G.f8,rfl,g.t8⟩
 | not s=>exact ⟨G.f2,rfl,g.t2⟩
 | and s t=>exact ⟨G.f3,rfl,g.t3⟩
 | or s t=>exact ⟨G.f4,rfl,g.t4⟩
 | knows w s=>exact ⟨G.f5,rfl,g.t5⟩
 | all g' s=>exact ⟨G.f6,rfl,g.t6⟩
 | common g' s=>exact ⟨G.f7,rfl,g.t7⟩
theorem kY (x:V) (xs:List V):atI (x :: xs) 0=some x:=by
 have:atI (x :: xs) ((0:Nat):Int)=some x:=ck rfl
 exact this
theorem E5 (form:List Str) (items:List V) (i:Nat) (f:Str) (x:V) (hf:form[i]?=some f) (hx:items[i]?=some x):iA (form.take (i + 1)) (items.take (i + 1))=iA (form.take i) (items.take i)++(if f="saying" then [x] else []):=by
 unfold iA
 have e:(form.take (i + 1)).zip (items.take (i + 1))=(form.take i).zip (items.take i)++[(f,x)]:=by
  rw [Nv,Nv,hf,hx]
  rw [List.zip_append (by
   have h1:=(LJ.mp hf).1
   have h2:=(LJ.mp hx).1
   rw [NM,NM]
   omega)]
  rfl
 rw [e,Px,Mf]
 congr 1
 by_cases h:f="saying"
 ·rw [if_pos h,PR (by simpa using h)]
  rfl
 ·rw [if_neg h,PU (by simpa using h)]
  rfl
theorem Gq (form:List Str) (items:List V):(iA form items).length<=form.length:=by
 unfold iA
 rw [LF]
 refine Mq (Ss _ _) ?_
 rw [Qy]
 omega
theorem Sy.form_len (s:Sy):s.form.length<=2:=by cases s <;> simp [Sy.form]
theorem mj {H:Hp} {xs:List V} {ss:List Sy} {i:Nat} {x:V} (h:gF H xs ss) (e:xs[i]?=some x):∃ s,ss[i]?=some s/\aN H x s:=kK h e
theorem gj {H:Hp} {xs:List V} {ss:List Sy} (h:gF H xs ss):xs.length=ss.length:=by
 induction h with
 | nil=>rfl
 | cons _ _ ih=>rw [Ml,Ml,ih]
end L2
end
section
namespace L2
open PySem
noncomputable def Kj (t1 t2:String):Bool:=t1 == t2 || (t1 == "bool" && t2 == "int")
noncomputable def E6:List String:=["NoneType","bool","int","str","tuple","list","dict"]
noncomputable def BZ:List String:=["bool","int","str","tuple","list"]
theorem Ae (K:Fg) (t:String):ML K (.type t) (.type t)=some true:=by unfold ML; rw [if_pos (beq_self_eq_true _)]
theorem Kk {K:Fg} {t1 t2:String} {b:Bool} (h:(if (M7 t1 == M7 t2)=true then some true else if RY t2=true then (Sn t1).map (·.contains (.type t2)) else none)=some b):ML K (.type t1) (.type t2)=some b:=h
theorem B5 (K:Fg):∀ t1∈E6,∀ t2∈BZ,ML K (.type t1) (.type t2)=some (Kj t1 t2):=by
 have go:∀ t1∈E6,∀ t2∈BZ,(if (M7 t1 == M7 t2)=true then some true else if RY t2=true then (Sn t1).map (·.contains (.type t2)) else none)=some (Kj t1 t2):=by decide +kernel
 exact fun t1 h1 t2 h2=>Kk (go t1 h1 t2 h2)
end L2
end
namespace L2
open PySem PyProof.Rows
section
variable {K:Fg} {vs:List V} {H:Hp} {Q:VK} {E:XK}
open KF
open Classical in
noncomputable def blV (n:Nat) (P:Nat->Prop):List V:=(LV n).map fun i=>V.bl (decide (P i))
theorem cdf {p:Prop} (h:¬ p):false=@decide p (NZ p):=(@decide_eq_false p (NZ p) h).symm
theorem cdt {p:Prop} (h:p):true=@decide p (NZ p):=(@decide_eq_true p (NZ p) h).symm
theorem cde {p q:Prop} [i:Decidable p] (h:p↔q):decide p=@decide q (NZ q):=@decide_eq_decide p q i (NZ q) |>.mpr h
section
open Classical
variable {n i:Nat} {P P':Nat->Prop}
theorem cW (n:Nat) (P:Nat->Prop):(blV n P).length=n:=by unfold blV; simp
theorem nJ (h:i < n):(blV n P)[i]?=some (.bl (decide (P i))):=by unfold blV; rw [LU,M1 h]; rfl
theorem uN (h:i < n):atI (blV n P) (i:Int)=some (.bl (decide (P i))):=ck (nJ h)
theorem nK {x:V} (h:(blV n P)[i]?=some x):i < n/\x=.bl (decide (P i)):=by
 have hi:i < n:=by have:=(LJ.mp h).1; rw [cW] at this; exact this
 rw [nJ hi] at h
 exact ⟨hi,(LW h).symm⟩
theorem qE (h:∀ i,i < n->(P i↔P' i)):blV n P=blV n P':=by
 unfold blV
 refine NF fun i hi=>?_
 rw [show P i=P' i from propext (h i (MZ.mp hi))]
theorem fz (n:Nat) (P:Nat->Prop):blV (n + 1) P=blV n P++[.bl (decide (P n))]:=by unfold blV; rw [N5,Mf]; rfl
theorem IL (h:i < n) {b:Bool} (hb:∀ j,j < n->j≠i->(P j↔P' j)) (hi:b=decide (P' i)):(blV n P).set i (.bl b)=blV n P':=by
 refine Ni fun k=>?_
 rw [N1,cW]
 by_cases e:i=k
 ·subst e
  rw [if_pos rfl,if_pos h,nJ h,hi]
 ·rw [if_neg e]
  by_cases hk:k < n
  ·rw [nJ hk,nJ hk,show P k=P' k from propext (hb k hk (fun z=>e z.symm))]
  ·rw [Md (by rw [cW]; omega),Md (by rw [cW]; omega)]
theorem Af (n:Nat) (h:∀ i,P i):(Mo n [V.bl true]).flatten=blV n P:=by
 induction n with
 | zero=>rfl
 | succ n ih=>
  rw [fz,<-ih,Pe,List.flatten_append,decide_eq_true (h n)]
  simp
theorem Ag (n:Nat) (P:Nat->Prop):∀ x∈blV n P,za x=true:=fun x hx=>by
 unfold blV at hx
 obtain ⟨i,_,rfl⟩:=Nr.mp hx
 rfl
end
noncomputable def rH (_:Fg):Sp:=fun vs H Q _=>∃ (a b:Addr) (n:Nat) (P P':Nat->Prop),vs=[.ref a,.ref b]/\H a=some (.lst (blV n P))/\H b=some (.lst (blV n P'))/\n<=100000/\
 ∀ p H',H p=none->am H H'->H' p=some (.lst (blV n fun i=>P i/\P' i))->Q (.ref p) H'
noncomputable def uO (K:Fg):TS:=(aI (bT (qq bA bA K (aa (ac 0) (aa (ac 1) af))) (fun _ _ _ _=>(ip K 2 (bW (aj 0) (bW (aj 1) im)))) (fun _ _ _ _=>bB) (fun _ _ _ _=>(on (ac 0) (ac 1))) [none,none]))
section
open Classical
theorem IM (h:rH K vs H Q E):uO K { nx:=fun _ H'=>Q .non H',rt:=Q } (start ["ones","others"] vs) H:=by
 obtain ⟨a,b,n,P,P',rfl,ea,eb,hn,q⟩:=h
 show uO K _ [some _,some _] _
 unfold uO
 walk_at "rd"
 refine qt (S1:=bA) (S2:=bA) _ _ (SqL.of ea) (SqL.of eb) (fun H' s=>s.seq (SqL.of ea)) (fun H' s=>s.seq (SqL.of eb)) (by rw [cW]; omega) (fun i acc _=>acc=blV i fun i=>P i/\P' i) (fun _ _=>rfl) ?_ ?_
 ·rintro p hp C s' H' fp i x y T acc H2 H3 hx hy ⟨s2,e2,l2,rfl⟩ hT s3 e3 e4
  obtain ⟨hi,rfl⟩:=nK hx
  obtain ⟨_,rfl⟩:=nK hy
  walk_at "rd"
  refine gh (SqT.of e3) ?_
  walk_at "rd"
  by_cases h:P i
  ·rw [decide_eq_true h]
   refine ql ?_
   walk_at "rd"
   refine bn.put hp (fun _ _ _ _ r _=>r) (s2.trans s3) e4 l2 ?_
   rw [fz]
   congr 3
   exact decide_eq_decide.mpr ⟨fun q=>⟨h,q⟩,fun q=>q.2⟩
  ·rw [decide_eq_false h]
   refine ox ?_
   refine bn.put hp (fun _ _ _ _ r _=>r) (s2.trans s3) e4 l2 ?_
   rw [fz]
   congr 3
   exact cdf fun q=>h q.1
 ·rintro p acc H2 hp s2 e2 rfl
  rw [cW,cW,Qz] at e2
  exact q _ _ hp s2 e2
end
noncomputable def qF (_:Fg):Sp:=fun vs H Q _=>∃ (a b:Addr) (n:Nat) (P P':Nat->Prop),vs=[.ref a,.ref b]/\H a=some (.lst (blV n P))/\H b=some (.lst (blV n P'))/\n<=100000/\
 ∀ p H',H p=none->am H H'->H' p=some (.lst (blV n fun i=>P i\/P' i))->Q (.ref p) H'
noncomputable def oR (K:Fg):TS:=(aI (bT (qq bA bA K (aa (ac 0) (aa (ac 1) af))) (fun _ _ _ _=>(ip K 2 (bW (aj 0) (bW (aj 1) im)))) (fun _ _ _ _=>bB) (fun _ _ _ _=>(FM (ac 0) (ac 1))) [none,none]))
section
open Classical
theorem E7 (h:qF K vs H Q E):oR K { nx:=fun _ H'=>Q .non H',rt:=Q } (start ["ones","others"] vs) H:=by
 obtain ⟨a,b,n,P,P',rfl,ea,eb,hn,q⟩:=h
 show oR K _ [some _,some _] _
 unfold oR
 walk_at "rd"
 refine qt (S1:=bA) (S2:=bA) _ _ (SqL.of ea) (SqL.of eb) (fun H' s=>s.seq (SqL.of ea)) (fun H' s=>s.seq (SqL.of eb)) (by rw [cW]; omega) (fun i acc _=>acc=blV i fun i=>P i\/P' i) (fun _ _=>rfl) ?_ ?_
 ·rintro p hp C s' H' fp i x y T acc H2 H3 hx hy ⟨s2,e2,l2,rfl⟩ hT s3 e3 e4
  obtain ⟨hi,rfl⟩:=nK hx
  obtain ⟨_,rfl⟩:=nK hy
  walk_at "rd"
  refine gh (SqT.of e3) ?_
  walk_at "rd"
  by_cases h:P i
  ·rw [decide_eq_true h]
   refine ql ?_
   refine bn.put hp (fun _ _ _ _ r _=>r) (s2.trans s3) e4 l2 ?_
   rw [fz]
   congr 3
   exact cdt (.inl h)
  ·rw [decide_eq_false h]
   refine ox ?_
   walk_at "rd"
   refine bn.put hp (fun _ _ _ _ r _=>r) (s2.trans s3) e4 l2 ?_
   rw [fz]
   congr 3
   exact decide_eq_decide.mpr ⟨.inr,fun q=>q.resolve_left h⟩
 ·rintro p acc H2 hp s2 e2 rfl
  rw [cW,cW,Qz] at e2
  exact q _ _ hp s2 e2
end
noncomputable def KN (n:Nat) (v:List Nat) (P:Nat->Prop) (i:Nat):Prop:=∀ j,j < n->v.getD j 0=v.getD i 0->P j
theorem gG {n:Nat} {v:List Nat} (h:Within n v) {i:Nat} (hi:i < n):v[i]?=some (v.getD i 0)/\v.getD i 0 < n:=by
 have hl:i < v.length:=by rw [h.1]; exact hi
 have e:v[i]?=some (v.getD i 0):=by rw [LO,LD hl]; rfl
 exact ⟨e,h.2 _ (LX e)⟩
noncomputable def jw (_:Fg):Sp:=fun vs H Q _=>∃ (a b:Addr) (n:Nat) (v:List Nat) (P:Nat->Prop),vs=[.ref a,.ref b]/\H a=some (.lst (au v))/\H b=some (.lst (blV n P))/\Within n v/\n<=100000/\
 ∀ p H',H p=none->am H H'->H' p=some (.lst (blV n (KN n v P)))->Q (.ref p) H'
noncomputable def rJ (K:Fg):TS:=(ap (aE (tOp CD (fT (aa (tC (.bl true)) af)) (tCB (bV K) (aa (ac 0) af))) (aj 2))
 (ap (cu (qq bA bA K (aa (ac 0) (aa (ac 1) af))) (ip K 2 (bW (aj 3) (bW (aj 4) im))) (bq (fS (tB (ac 4))) (aE (tC (.bl false)) (oq (ac 2) (ac 3) kG)) aZ))
 (aI (bT (dt K (ac 0)) (fun _ _ _ _=>(aj 0)) (fun _ _ _ _=>bB) (fun _ _ _ _=>(tOp (bY K) (ac 1) (ac 0))) [none,some 2]))))
section
open Classical
theorem Gr (h:jw K vs H Q E):rJ K { nx:=fun _ H'=>Q .non H',rt:=Q } (start ["view","truths","sure","least","truth"] vs) H:=by
 obtain ⟨a,b,n,v,P,rfl,ea,eb,hv,hn,q⟩:=h
 show rJ K _ [some _,some _,none,none,none] _
 unfold rJ
 have hvl:=hv.1
 walk_at "rd"
 refine ⟨by simp [LP],fun l H1 hl s1 e1=>?_⟩
 walk_at "rd"
 refine gB (SqL.of (s1 _ _ ea)) ?_
 walk_at "rd"
 rw [bh,hvl]
 refine ⟨l,(n:Int),[.bl true],rfl,rfl,e1,by omega,by omega,by rw [LP]; simp; omega,fun p H2 hp s2 e2=>?_⟩
 rw [OI,Af (P:=fun x=>∀ j,j < 0->v.getD j 0=x->P j) n (fun _ j h=>absurd h (by omega))] at e2
 have s02:=s1.trans s2
 have hpH:H p=none:=s1.free hp
 walk_at "rd"
 refine Ka (S1:=bA) (S2:=bA) (au v) (blV n P) (SqL.of (s02 _ _ ea)) (SqL.of (s02 _ _ eb)) (fun i σ H3=>∃ (u1 u2:Option V),σ=[some (.ref a),some (.ref b),some (.ref p),u1,u2]/\am H H3/\H3 p=some (.lst (blV n fun x=>∀ j,j < i->v.getD j 0=x->P j))) ?_ ?_ ?_ ?_
 ·exact ⟨_,_,rfl,s02,e2⟩
 ·rintro i σ H3 ⟨u1,u2,rfl,s3,e3⟩
  exact ⟨SqL.of (s3 _ _ ea),SqL.of (s3 _ _ eb)⟩
 ·rintro i x y T σ H3 H4 hx hy ⟨u1,u2,rfl,s3,e3⟩ hT s4 eT
  obtain ⟨hi,rfl⟩:=nK hy
  obtain ⟨z,hz,rfl⟩:=iH hx
  obtain ⟨hz',hzn⟩:=gG hv hi
  rw [hz] at hz'
  have ez:z=v.getD i 0:=LW hz'
  refine gh (SqT.of eT) ?_
  walk_at "rd"
  by_cases h:P i
  ·rw [decide_eq_true h]
   walk_at "rd"
   refine ⟨_,_,rfl,s3.trans s4,?_⟩
   rw [s4 _ _ e3]
   congr 2
   refine qE fun x _=>⟨fun f j hj e=>?_,fun f j hj e=>f j (by omega) e⟩
   by_cases c:j=i
   ·rw [c]; exact h
   ·exact f j (by omega) e
  ·rw [decide_eq_false h]
   walk_at "rd"
   refine nD (s4 _ _ e3) (wI (by rw [cW,ez]; exact hzn)) ?_
   refine ⟨_,_,rfl,(s3.trans s4).off hpH iG,?_⟩
   rw [aA]
   congr 2
   refine IL (by rw [ez]; exact hzn) (fun x _ hxz=>⟨fun f j hj e=>?_,fun f j hj e=>f j (by omega) e⟩) ?_
   ·by_cases c:j=i
    ·subst c
     exact absurd (e.symm.trans ez.symm) hxz
    ·exact f j (by omega) e
   ·exact cdf fun f=>h (f i (by omega) ez.symm)
 ·rintro σ H3 ⟨u1,u2,rfl,s3,e3⟩
  rw [bh,cW,hvl,Qz] at e3
  walk_at "rd"
  refine fN (au v) (SqL.of (s3 _ _ ea)) (by rw [bh]; omega) (fun i acc _=>acc=blV i (KN n v P)) (fun _ _=>rfl) ?_ ?_
  ·rintro r hr C s' H' fp i x acc H4 hx ⟨s4,e4,l4,rfl⟩
   obtain ⟨z,hz,rfl⟩:=iH hx
   have hi:i < n:=by have:=(LJ.mp hz).1; omega
   obtain ⟨hz',hzn⟩:=gG hv hi
   rw [hz] at hz'
   have ez:z=v.getD i 0:=LW hz'
   walk_at "rd"
   refine bK (SqL.of (s4 _ _ e3)) (uN (by rw [ez]; exact hzn)) ?_
   refine bn.put hr (fun _ _ _ _ r _=>r) s4 e4 l4 ?_
   rw [fz]
   congr 3
   rw [ez]
   rfl
  ·rintro r acc H4 hr s4 e4 rfl
   rw [bh,hvl] at e4
   exact q _ _ (s3.free hr) (s3.trans s4) e4
end
noncomputable def iR (_:Fg):Sp:=fun vs H Q _=>∃ (a b:Addr) (n:Nat) (ws:List (List Nat)) (P:Nat->Prop),vs=[.ref a,.ref b]/\cP H a ws/\H b=some (.lst (blV n P))/\(∀ v∈ws,Within n v)/\n<=100000/\
 ∀ p H',H p=none->am H H'->H' p=some (.lst (blV n fun i=>∀ v∈ws,KN n v P i))->Q (.ref p) H'
noncomputable def gH (K:Fg):TS:=(ap (aE (tOp CD (fT (aa (tC (.bl true)) af)) (tCB (bV K) (aa (ac 1) af))) (aj 2))
 (ap (cu (dt K (ac 0)) (aj 3) (aE (av (rH K) [] E0 (aa (ac 2) (aa (av (jw K) [] E0 (aa (ac 3) (aa (ac 1) af))) af))) (aj 2)))
 (aI (ac 2))))
theorem uP (h:iR K vs H Q E):gH K { nx:=fun _ H'=>Q .non H',rt:=Q } (start ["views","truths","answers","view"] vs) H:=by
 obtain ⟨a,b,n,ws,P,rfl,hV,eb,hw,hn,q⟩:=h
 show gH K _ [some _,some _,none,none] _
 unfold gH
 obtain ⟨rs,ea,hlr,hr⟩:=oQ hV
 walk_at "rd"
 refine ⟨by simp [LP],fun l H1 hl s1 e1=>?_⟩
 walk_at "rd"
 refine gB (SqL.of (s1 _ _ eb)) ?_
 walk_at "rd"
 rw [cW]
 refine ⟨l,(n:Int),[.bl true],rfl,rfl,e1,by omega,by omega,by rw [LP]; simp; omega,fun p H2 hp s2 e2=>?_⟩
 rw [OI,Af (P:=fun i=>∀ v∈ws.take 0,KN n v P i) n (fun _ v h=>by simp at h)] at e2
 have s02:=s1.trans s2
 have hpH:H p=none:=s1.free hp
 walk_at "rd"
 refine nE (rs.map V.ref) (SqL.of (s02 _ _ ea)) (fun i σ H3=>∃ (u1:Option V) (p:Addr),σ=[some (.ref a),some (.ref b),some (.ref p),u1]/\H p=none/\am H H3/\H3 p=some (.lst (blV n fun k=>∀ v∈ws.take i,KN n v P k))) ?_ ?_ ?_ ?_
 ·exact ⟨_,p,rfl,hpH,s02,e2⟩
 ·rintro i σ H3 _ ⟨u1,p,rfl,hp,s3,e3⟩
  exact SqL.of (s3 _ _ ea)
 ·rintro i x σ H3 hx ⟨u1,p,rfl,hp,s3,e3⟩
  obtain ⟨c,hc,rfl⟩:=nI hx
  obtain ⟨v,hv,ev⟩:=hr i c hc
  walk_at "rd"
  refine ⟨c,b,n,v,P,rfl,s3 _ _ ev,s3 _ _ eb,hw v (LX hv),hn,fun k H4 hk s4 e4=>?_⟩
  walk_at "rd"
  refine ⟨p,k,n,_,_,rfl,s4 _ _ e3,e4,hn,fun k2 H5 hk2 s5 e5=>?_⟩
  have s35:=s4.trans s5
  refine ⟨_,k2,rfl,s3.free (s4.free hk2),s3.trans s35,?_⟩
  rw [e5]
  congr 2
  refine qE fun i _=>?_
  rw [dh hv]
  exact ⟨fun h w hw=>(Mr.mp hw).elim (h.1 w) fun z=>by rw [LG.mp z]; exact h.2,fun h=>⟨fun w hw=>h w (NV _ hw),h v (by simp)⟩⟩
 ·rintro σ H3 ⟨u1,p,rfl,hp,s3,e3⟩
  rw [LF,hlr,Mx] at e3
  walk_at "rd"
  exact q _ _ hp s3 e3
noncomputable def jx (H:Hp) (a:Addr) (ps:List (List Int)):Prop:=∃ rs:List Addr,H a=some (.lst (rs.map V.ref))/\Paired (fun (r:Addr) (xs:List Int)=>H r=some (.tup (xs.map V.int))) rs ps
noncomputable def uQ (n:Nat) (ps:List (List Int)) (v:List Nat) (j:Nat):Prop:=ps.getD j []=ps.getD (v.getD j 0) []
noncomputable def wK (_:Fg):Sp:=fun vs H Q _=>∃ (a b:Addr) (n:Nat) (v:List Nat) (ps:List (List Int)),vs=[.ref a,.ref b]/\jx H a ps/\ps.length=n/\H b=some (.lst (au v))/\Within n v/\n<=100000/\
 ∀ p H',H p=none->am H H'->H' p=some (.lst (blV n (KN n v (uQ n ps v))))->Q (.ref p) H'
theorem mq {H:Hp} {rs:List Addr} {ps:List (List Int)} (h:Paired (fun (r:Addr) (xs:List Int)=>H r=some (.tup (xs.map V.int))) rs ps) {i:Nat} (hi:i < ps.length):∃ r,rs[i]?=some r/\H r=some (.tup ((ps.getD i []).map V.int)):=by
 have hl:=My h
 obtain ⟨r,hr⟩:∃ r,rs[i]?=some r:=⟨_,LD (by omega)⟩
 obtain ⟨xs,hx,e⟩:=cf h hr
 refine ⟨r,hr,?_⟩
 rw [LO,hx]
 exact e
noncomputable def uR (K:Fg):TS:=(aI (av (jw K) [] E0 (aa (ac 1) (aa (bT (qq bA bA K (aa (ac 0) (aa (ac 1) af))) (fun _ _ _ _=>(ip K 2 (bW (aj 0) (bW (aj 1) im)))) (fun _ _ _ _=>bB) (fun _ _ _ _=>(tOp (qp (SqT K) false) (ac 0) (tOp (bY K) (ac 2) (ac 1)))) [none,none,some 0]) af))))
section
open Classical
theorem IN (h:wK K vs H Q E):uR K { nx:=fun _ H'=>Q .non H',rt:=Q } (start ["piles","view"] vs) H:=by
 obtain ⟨a,b,n,v,ps,rfl,⟨rs,ea,hr⟩,hpl,eb,hv,hn,q⟩:=h
 show uR K _ [some _,some _] _
 unfold uR
 have hlr:rs.length=ps.length:=My hr
 have hvl:=hv.1
 walk_at "rd"
 refine qt (S1:=bA) (S2:=bA) (rs.map V.ref) (au v) (SqL.of ea) (SqL.of eb) (fun H' s=>s.seq (SqL.of ea)) (fun H' s=>s.seq (SqL.of eb)) (by rw [LF]; omega) (fun i acc _=>acc=blV i (uQ n ps v)) (fun _ _=>rfl) ?_ ?_
 ·rintro p hp C s' H' fp i x y T acc H2 H3 hx hy ⟨s2,e2,l2,rfl⟩ hT s3 e3 e4
  obtain ⟨c,hc,rfl⟩:=nI hx
  obtain ⟨z,hz,rfl⟩:=iH hy
  have hi:i < n:=by have:=(LJ.mp hz).1; omega
  obtain ⟨hz',hzn⟩:=gG hv hi
  rw [hz] at hz'
  have ez:z=v.getD i 0:=LW hz'
  obtain ⟨c',hc',ec⟩:=mq hr (i:=i) (by omega)
  rw [hc] at hc'
  cases hc'
  obtain ⟨d,hd,ed⟩:=mq hr (i:=z) (by omega)
  have s23:=s2.trans s3
  walk_at "rd"
  refine gh (SqT.of e3) ?_
  walk_at "rd"
  refine bK (SqL.of (s23 _ _ ea)) (v:=.ref d) (ck (by rw [LU,hd]; rfl)) ?_
  walk_at "rd"
  refine K5 (SqT.of (s23 _ _ ec)) (SqT.of (s23 _ _ ed)) ?_
  refine bn.put hp (fun _ _ _ _ r _=>r) s23 e4 l2 ?_
  rw [fz]
  congr 3
  rw [ez]
  exact cde Iff.rfl
 ·rintro p acc H2 hp s2 e2 rfl
  rw [LF,bh,hlr,hpl,hvl,Qz] at e2
  walk_at "rd"
  exact ⟨b,p,n,v,_,rfl,s2 _ _ eb,e2,hv,hn,fun r H3 hr s3 e3=>q r H3 (s2.free hr) (s2.trans s3) e3⟩
end
end
section
open KF
noncomputable def TR (n:Nat) (ws vs:List (List Nat)):Sy->Nat->Prop
 | .holds w c,i=>(ws.getD i []).getD c 0=w
 | .sees h,i=>KN n (vs.getD h []) (uQ n (ws.map fun w=>gE w (vs.length:Nat)) (vs.getD h [])) i
 | .not s,i=>¬ TR n ws vs s i
 | .and s t,i=>TR n ws vs s i/\TR n ws vs t i
 | .or s t,i=>TR n ws vs s i\/TR n ws vs t i
 | .knows h s,i=>KN n (vs.getD h []) (TR n ws vs s) i
 | .all g s,i=>∀ v∈g.map (fun h=>vs.getD h []),KN n v (TR n ws vs s) i
 | .common g s,i=>∀ j,j < n->eK (kL n (g.map fun h=>vs.getD h [])) i j->TR n ws vs s j
theorem uS {n:Nat} {P:Nat->Nat->Prop} {r:List Nat} (h:qB n P r) {i j:Nat} (hi:i < n) (hj:j < n):r.getD j 0=r.getD i 0↔eK P i j:=by
 have ei:r[i]?=some (r.getD i 0):=by rw [LO,LD (by rw [h.len]; exact hi)]; rfl
 have ej:r[j]?=some (r.getD j 0):=by rw [LO,LD (by rw [h.len]; exact hj)]; rfl
 constructor
 ·intro e
  have c1:=h.conn _ _ ei
  have c2:=h.conn _ _ ej
  rw [e] at c2
  exact .trans c1 (.symm c2)
 ·intro c
  have:=h.same i j hi hj c
  rw [ei,ej] at this
  exact (LW this).symm
theorem Bq {n:Nat} {P:Nat->Nat->Prop} {r:List Nat} (h:qB n P r):Within n r:=⟨h.len,fun x hx=>by
 obtain ⟨i,hi⟩:=Qj.mp hx
 have:=h.le i x hi
 have:=(LJ.mp hi).1
 rw [h.len] at this
 omega⟩
theorem IO {n:Nat} {P:Nat->Nat->Prop} {r:List Nat} (h:qB n P r) {F:Nat->Prop} {i:Nat} (hi:i < n):KN n r F i↔∀ j,j < n->eK P i j->F j:=
 ⟨fun k j hj c=>k j hj ((uS h hi hj).mpr c),fun k j hj e=>k j hj ((uS h hi hj).mp e)⟩
theorem uT:∀ {g:List Nat} {m:Nat},g.Pairwise (· < ·)->(∀ k∈g,k < m)->g.length<=m:=by
 intro g m hp hk
 have go:∀ (l:List Nat) (lo:Nat),l.Pairwise (· < ·)->(∀ k∈l,lo<=k/\k < m)->l.length + lo<=m\/l=[]:=by
  intro l
  induction l with
  | nil=>intro _ _ _; exact .inr rfl
  | cons x r ih=>
   intro lo hp hk
   obtain ⟨h1,h2⟩:=Pz.mp hp
   have hx:=hk x (LK ..)
   rcases ih (x + 1) h2 (fun k hkr=>⟨h1 k hkr,(hk k (LQ _ hkr)).2⟩) with h | h
   ·left; rw [Ml]; omega
   ·left; rw [h]; simp; omega
 rcases go g 0 hp (fun k h=>⟨MI _,hk k h⟩) with h | h
 ·omega
 ·rw [h]; simp
structure Table (H:Hp) (a b:Addr) (c n:Nat) (ws vs:List (List Nat)):Prop where
 deals:bG H a ws
 len:ws.length=n
 cards:∀ w∈ws,w.length=c
 small:n<=100000
 few:c<=1000
 views:cP H b vs
 win:∀ v∈vs,Within n v
 hands:vs.length<=1000
theorem Table.same {H H':Hp} {a b:Addr} {c n:Nat} {ws vs:List (List Nat)} (t:Table H a b c n ws vs) (s:am H H'):Table H' a b c n ws vs:=⟨t.deals.same' s,t.len,t.cards,t.small,t.few,t.views.same s,t.win,t.hands⟩
theorem kZ {ws:List (List Nat)} {i:Nat} {w:List Nat} (h:ws[i]?=some w):ws.getD i []=w:=by rw [LO,h]; rfl
theorem rK {H:Hp} {b:Addr} {vs:List (List Nat)} (h:cP H b vs) {k:Nat} (hk:k < vs.length):∃ (rs:List Addr) (r:Addr),H b=some (.lst (rs.map V.ref))/\atI (rs.map V.ref) (k:Int)=some (.ref r)/\H r=some (.lst (au (vs.getD k [])))/\vs.getD k []∈vs:=by
 obtain ⟨rs,e,hl,hr⟩:=oQ h
 obtain ⟨r,hrk⟩:∃ r,rs[k]?=some r:=⟨_,LD (by omega)⟩
 obtain ⟨v,hv,ev⟩:=hr k r hrk
 refine ⟨rs,r,e,ck (by rw [LU,hrk]; rfl),?_,?_⟩
 ·rw [kZ hv]; exact ev
 ·rw [kZ hv]; exact LX hv
noncomputable def b9 (_:Fg) (m:Nat):Sp:=fun vals H Q _=>∃ (a b:Addr) (x:V) (c n:Nat) (ws vs:List (List Nat)) (s:Sy),vals=[.ref a,.ref b,x]/\Table H a b c n ws vs/\aN H x s/\s.Ok c vs.length/\s.words<=m/\
 ∀ p H',H p=none->am H H'->H' p=some (.lst (blV n (TR n ws vs s)))->Q (.ref p) H'
noncomputable def jO (K:Fg) (n:Nat):TS:=(ap (aE (tOp (cV K) (ac 2) (tC (.int 0))) (aj 3))
 (ap (bq (aX (tOp rEq (ac 3) (tC (.str "holds")))) (aI (bT (dt K (ac 0)) (fun _ _ _ _=>(aj 0)) (fun _ _ _ _=>bB) (fun _ _ _ _=>(tOp rEq (tOp (cV K) (ac 0) (tOp (cV K) (ac 1) (tC (.int 2)))) (tOp (cV K) (ac 1) (tC (.int 1))))) [none,some 2])) aZ)
 (ap (bq (aX (tOp rEq (ac 3) (tC (.str "sees")))) (aI (av (wK K) [] E0 (aa (bT (dt K (ac 0)) (fun _ _ _ _=>(aj 0)) (fun _ _ _ _=>bB) (fun _ _ _ _=>(av (g9 K) [] E0 (aa (ac 0) (aa (tCB (bV K) (aa (ac 1) af)) af)))) [none,some 1]) (aa (tOp (bY K) (ac 1) (tOp (cV K) (ac 2) (tC (.int 1)))) af)))) aZ)
 (ap (bq (aX (tOp rEq (ac 3) (tC (.str "not")))) (aI (bT (dt K (av (b9 K n) [] E0 (aa (ac 0) (aa (ac 1) (aa (tOp (cV K) (ac 2) (tC (.int 1))) af))))) (fun _ _ _ _=>(aj 0)) (fun _ _ _ _=>bB) (fun _ _ _ _=>(yX (ac 0))) [none])) aZ)
 (ap (bq (aX (tOp rEq (ac 3) (tC (.str "and")))) (aI (av (rH K) [] E0 (aa (av (b9 K n) [] E0 (aa (ac 0) (aa (ac 1) (aa (tOp (cV K) (ac 2) (tC (.int 1))) af)))) (aa (av (b9 K n) [] E0 (aa (ac 0) (aa (ac 1) (aa (tOp (cV K) (ac 2) (tC (.int 2))) af)))) af)))) aZ)
 (ap (bq (aX (tOp rEq (ac 3) (tC (.str "or")))) (aI (av (qF K) [] E0 (aa (av (b9 K n) [] E0 (aa (ac 0) (aa (ac 1) (aa (tOp (cV K) (ac 2) (tC (.int 1))) af)))) (aa (av (b9 K n) [] E0 (aa (ac 0) (aa (ac 1) (aa (tOp (cV K) (ac 2) (tC (.int 2))) af)))) af)))) aZ)
 (ap (aE (av (b9 K n) [] E0 (aa (ac 0) (aa (ac 1) (aa (tOp (cV K) (ac 2) (tC (.int 2))) af)))) (aj 4))
 (ap (bq (aX (tOp rEq (ac 3) (tC (.str "knows")))) (aI (av (jw K) [] E0 (aa (tOp (bY K) (ac 1) (tOp (cV K) (ac 2) (tC (.int 1)))) (aa (ac 4) af)))) aZ)
 (ap (aE (bT (wx K (tOp (cV K) (ac 2) (tC (.int 1)))) (fun _ _ _ _=>(aj 0)) (fun _ _ _ _=>bB) (fun _ _ _ _=>(tOp (bY K) (ac 1) (ac 0))) [none,some 1]) (aj 5))
 (ap (bq (aX (tOp rEq (ac 3) (tC (.str "all")))) (aI (av (iR K) [] E0 (aa (ac 5) (aa (ac 4) af)))) aZ)
 (aI (av (jw K) [] E0 (aa (av (qD K) [] E0 (aa (tCB (bV K) (aa (ac 0) af)) (aa (ac 5) af))) (aa (ac 4) af))))))))))))))
noncomputable abbrev Br:List Str:=["deals","views","S","word","inner","some"]
theorem qG {K:Fg} {vs:List V} {H:Hp} {Q:VK} {E:XK} (h:b9 K 0 vs H Q E):False:=by
 obtain ⟨a,b,x,c,n,ws,vs,s,rfl,_,_,_,h,_⟩:=h
 have:=s.words_pos
 omega
theorem uU {H:Hp} {rs:List Addr} {ps:List (List Int)} {r:Addr} {xs:List Int} (h:Paired (fun (r:Addr) (xs:List Int)=>H r=some (.tup (xs.map V.int))) rs ps) (e:H r=some (.tup (xs.map V.int))):Paired (fun (r:Addr) (xs:List Int)=>H r=some (.tup (xs.map V.int))) (rs++[r]) (ps++[xs]):=by
 induction h with
 | nil=>exact .cons e .nil
 | cons a _ ih=>exact .cons a ih
theorem CW {H:Hp} {rs:List Addr} {vs:List (List Nat)} {r:Addr} {v:List Nat} (h:Paired (fun (r:Addr) (v:List Nat)=>H r=some (.lst (au v))) rs vs) (e:H r=some (.lst (au v))):Paired (fun (r:Addr) (v:List Nat)=>H r=some (.lst (au v))) (rs++[r]) (vs++[v]):=by
 induction h with
 | nil=>exact .cons e .nil
 | cons a _ ih=>exact .cons a ih
theorem E8 {K:Fg} {H:Hp} {b e:Addr} {g:List Nat} {vs:List (List Nat)} {Q:VK} {σ₀:St} {gg:CF TG} {tt:CF TT} {te:CF TE} (hV:cP H b vs) (hg:∀ k∈g,k < vs.length) (hgl:g.length<=1000) (eg:H e=some (.tup (au g)))
  (hs:∀ C s' H' fp (k:Nat) (rs:List Addr) (r:Addr) H2 (R:V->Hp->Prop) (N:Hp->Prop),H2 b=some (.lst (rs.map V.ref))->atI (rs.map V.ref) (k:Int)=some (.ref r)->R (.ref r) H2->gg C s' H' fp (.int (k:Int)) σ₀ H2 fun σ2 H3=>tt C s' H' fp σ2 H3 fun c H4=>if c=true then te C s' H' fp σ2 H4 fun y H5=>R y H5 else N H4)
  (q:∀ p H',H p=none->am H H'->cP H' p (g.map fun h=>vs.getD h [])->Q (.ref p) H'):
  ∃ a',V.ref e=.ref a'/\(∃ xs,SqT K H a' xs)/\∀ p,H p=none->∃ W:Nat->Nat->List V->Hp->Prop,(∃ m,W 0 m [] (upd H p (.lst [])))/\∀ C s' H' fp,cK (Itt K a') (gg C s' H' fp) (tt C s' H' fp) (te C s' H' fp) σ₀ p Q W:=by
 obtain ⟨rs,eb,hl,hr⟩:=oQ hV
 refine ⟨e,rfl,⟨_,SqT.of eg⟩,fun p hp=>FZ (xs:=au g) (fun i acc H2=>am H H2/\H2 p=some (.lst acc)/\acc.length<=i/\∃ ts:List Addr,acc=ts.map V.ref/\Paired (fun (r:Addr) (v:List Nat)=>H r=some (.lst (au v))) ts ((g.take i).map fun h=>vs.getD h [])) ⟨ba hp _,aA,LH _,[],rfl,.nil⟩ (fun i acc H2 _ c=>⟨c.2.1,c.2.2.1⟩) (fun i acc H2 _ c=>c.1.tup (SqT.of eg)) (by rw [bh,LP]; omega) (fun C s' H' fp i x acc H2 hx c=>?_) fun acc H2 c=>?_⟩
 ·obtain ⟨k,hk,rfl⟩:=iH hx
  have hkm:=hg k (LX hk)
  obtain ⟨r,hrk⟩:∃ r,rs[k]?=some r:=⟨_,LD (by omega)⟩
  obtain ⟨v,hv,ev⟩:=hr k r hrk
  obtain ⟨s2,e2,l2,ts,rfl,ht⟩:=c
  refine hs C s' H' fp k rs r H2 _ _ (s2 _ _ eb) (ck (by rw [LU,hrk]; rfl)) ⟨e2,s2.upd hp _,aA,by simp at l2 ⊢; omega,ts++[r],by simp,?_⟩
  rw [dh hk,Mf]
  exact CW ht (by show H r=some (.lst (au (vs.getD k []))); rw [kZ hv]; exact ev)
 ·obtain ⟨s2,e2,l2,ts,rfl,ht⟩:=c
  rw [bh,Mx] at ht
  exact q p H2 hp s2 ⟨ts,e2,Paired.mapP ht fun r v h=>s2 _ _ h⟩
section
open Classical
theorem Ah {K:Fg} {m:Nat} {vals:List V} {H:Hp} {Q:VK} {E:XK} (h:b9 K (m + 1) vals H Q E):jO K m { nx:=fun _ H'=>Q .non H',rt:=Q } (start Br vals) H:=by
 obtain ⟨a,b,x,c,n,ws,vs,s,rfl,T,hS,hok,hw,q⟩:=h
 show jO K m _ [some _,some _,some _,none,none,none] _
 unfold jO
 obtain ⟨rs,ea,hr⟩:=id T.deals
 have hlr:rs.length=ws.length:=My hr
 have hn:=T.small
 have hlen:=T.len
 cases s with
 | holds w k=>
  obtain ⟨t,rfl,et⟩:=hS
  obtain ⟨hwh,hkc⟩:=hok
  walk_at "rd"
  refine bv (SqT.of et) (i:=0) rfl ?_
  walk_at "rd"
  refine d4 rfl ?_
  walk_at "rd"
  refine fN (rs.map V.ref) (SqL.of ea) (by rw [LF]; omega) (fun i acc _=>acc=blV i (TR n ws vs (.holds w k))) (fun _ _=>rfl) ?_ ?_
  ·rintro p hp C s' H' fp i x acc H2 hx ⟨s2,e2,l2,rfl⟩
   obtain ⟨d,hd,rfl⟩:=nI hx
   obtain ⟨u,hu,eu⟩:=cf hr hd
   have huc:=T.cards u (LX hu)
   have e1:u[k]?=some (u.getD k 0):=by rw [LO,LD (by omega)]; rfl
   walk_at "rd"
   refine bv (SqT.of (s2 _ _ et)) (i:=2) rfl ?_
   walk_at "rd"
   refine bv (SqT.of (s2 _ _ eu)) (iz e1) ?_
   walk_at "rd"
   refine bv (SqT.of (s2 _ _ et)) (i:=1) rfl ?_
   walk_at "rd"
   refine bn.put hp (fun _ _ _ _ r _=>r) s2 e2 l2 ?_
   rw [fz]
   congr 3
   refine cde ?_
   show _↔(ws.getD i []).getD k 0=w
   rw [kZ hu]
   omega
  ·rintro p acc H2 hp s2 e2 rfl
   rw [LF,hlr,hlen] at e2
   exact q _ _ hp s2 e2
 | sees k=>
  obtain ⟨t,rfl,et⟩:=hS
  have hk:k < vs.length:=hok
  walk_at "rd"
  refine bv (SqT.of et) (i:=0) rfl ?_
  walk_at "rd"
  refine aW (by decide) ?_
  walk_at "rd"
  refine d4 rfl ?_
  walk_at "rd"
  obtain ⟨vrs,evb,hvl,_⟩:=oQ T.views
  refine fN (rs.map V.ref) (SqL.of ea) (by rw [LF]; omega) (fun i acc H2=>∃ ts:List Addr,acc=ts.map V.ref/\Paired (fun (r:Addr) (xs:List Int)=>H2 r=some (.tup (xs.map V.int))) ts ((ws.take i).map fun w=>gE w (vs.length:Nat))) (fun _ _=>⟨[],rfl,.nil⟩) ?_ ?_
  ·rintro p hp C s' H' fp i x acc H2 hx ⟨s2,e2,l2,ts,rfl,ht⟩
   obtain ⟨d,hd,rfl⟩:=nI hx
   obtain ⟨u,hu,eu⟩:=cf hr hd
   have huc:=T.cards u (LX hu)
   have:=T.few
   walk_at "rd"
   refine gB (SqL.of (s2 _ _ evb)) ?_
   walk_at "rd"
   rw [LF,hvl]
   refine ⟨d,u.map fun (s:Nat)=>((s:Nat):Int),(vs.length:Nat),rfl,by rw [<-dJ]; exact SqT.of (s2 _ _ eu),by rw [LF]; omega,fun r H3 s3 e3=>?_⟩
   rw [LF] at e3
   refine bn.put hp (fun _ _ _ _ ⟨ts,e,r⟩ k=>⟨ts,e,Paired.mapP r fun _ _ z=>k _ _ z⟩) (s2.trans s3) (s3 _ _ e2) l2 ⟨ts++[r],by simp,?_⟩
   rw [dh hu,Mf]
   exact uU (Paired.mapP ht fun _ _ z=>s3 _ _ z) e3
  ·rintro p acc H2 hp s2 e2 ⟨ts,rfl,ht⟩
   rw [LF,hlr,Mx] at ht
   walk_at "rd"
   refine bv (SqT.of (s2 _ _ et)) (i:=1) rfl ?_
   walk_at "rd"
   obtain ⟨vr,r,e1,e3,e4,e5⟩:=rK (T.views.same s2) hk
   refine bK (SqL.of e1) e3 ?_
   walk_at "rd"
   exact ⟨p,r,n,vs.getD k [],_,rfl,⟨ts,e2,ht⟩,by rw [LF]; exact hlen,e4,T.win _ e5,hn,fun p2 H3 hp2 s3 e6=>q p2 H3 (s2.free hp2) (s2.trans s3) e6⟩
 | not s=>
  obtain ⟨t,y,rfl,et,hy⟩:=hS
  have hw':s.words<=m:=by simp only [Sy.words] at hw; omega
  walk_at "rd"
  refine bv (SqT.of et) (i:=0) rfl ?_
  walk_at "rd"
  refine aW (by decide) ?_
  walk_at "rd"
  refine aW (by decide) ?_
  walk_at "rd"
  refine d4 rfl ?_
  walk_at "rd"
  refine bv (SqT.of et) (i:=1) rfl ?_
  walk_at "rd"
  refine ⟨a,b,y,c,n,ws,vs,s,rfl,T,hy,hok,hw',fun l H1 hl s1 e1=>?_⟩
  walk_at "rd"
  refine fN _ (SqL.of e1) (by rw [cW]; omega) (fun i acc _=>acc=blV i (TR n ws vs (.not s))) (fun _ _=>rfl) ?_ ?_
  ·rintro p hp C s' H' fp i x acc H2 hx ⟨s2,e2,l2,rfl⟩
   obtain ⟨hi,rfl⟩:=nK hx
   walk_at "rd"
   refine bn.put hp (fun _ _ _ _ r _=>r) s2 e2 l2 ?_
   rw [fz]
   congr 3
   by_cases z:TR n ws vs s i
   ·rw [decide_eq_true z]; exact cdf fun h=>h z
   ·rw [decide_eq_false z]; exact cdt z
  ·rintro p acc H2 hp s2 e2 rfl
   rw [cW] at e2
   exact q _ _ (s1.free hp) (s1.trans s2) e2
 | and s t=>
  obtain ⟨u,y,z,rfl,et,hy,hz⟩:=hS
  have hw1:s.words<=m:=by simp only [Sy.words] at hw; omega
  have hw2:t.words<=m:=by simp only [Sy.words] at hw; omega
  walk_at "rd"
  refine bv (SqT.of et) (i:=0) rfl ?_
  walk_at "rd"
  refine aW (by decide) ?_
  walk_at "rd"
  refine aW (by decide) ?_
  walk_at "rd"
  refine aW (by decide) ?_
  walk_at "rd"
  refine d4 rfl ?_
  walk_at "rd"
  refine bv (SqT.of et) (i:=1) rfl ?_
  walk_at "rd"
  refine ⟨a,b,y,c,n,ws,vs,s,rfl,T,hy,hok.1,hw1,fun l H1 hl s1 e1=>?_⟩
  walk_at "rd"
  refine bv (SqT.of (s1 _ _ et)) (i:=2) rfl ?_
  walk_at "rd"
  refine ⟨a,b,z,c,n,ws,vs,t,rfl,T.same s1,hz.keep s1.keep,hok.2,hw2,fun l2 H2 hl2 s2 e2=>?_⟩
  walk_at "rd"
  exact ⟨l,l2,n,_,_,rfl,s2 _ _ e1,e2,hn,fun p H3 hp s3 e3=>q p H3 (s1.free (s2.free hp)) ((s1.trans s2).trans s3) e3⟩
 | or s t=>
  obtain ⟨u,y,z,rfl,et,hy,hz⟩:=hS
  have hw1:s.words<=m:=by simp only [Sy.words] at hw; omega
  have hw2:t.words<=m:=by simp only [Sy.words] at hw; omega
  walk_at "rd"
  refine bv (SqT.of et) (i:=0) rfl ?_
  walk_at "rd"
  refine aW (by decide) ?_
  walk_at "rd"
  refine aW (by decide) ?_
  walk_at "rd"
  refine aW (by decide) ?_
  walk_at "rd"
  refine aW (by decide) ?_
  walk_at "rd"
  refine d4 rfl ?_
  walk_at "rd"
  refine bv (SqT.of et) (i:=1) rfl ?_
  walk_at "rd"
  refine ⟨a,b,y,c,n,ws,vs,s,rfl,T,hy,hok.1,hw1,fun l H1 hl s1 e1=>?_⟩
  walk_at "rd"
  refine bv (SqT.of (s1 _ _ et)) (i:=2) rfl ?_
  walk_at "rd"
  refine ⟨a,b,z,c,n,ws,vs,t,rfl,T.same s1,hz.keep s1.keep,hok.2,hw2,fun l2 H2 hl2 s2 e2=>?_⟩
  walk_at "rd"
  exact ⟨l,l2,n,_,_,rfl,s2 _ _ e1,e2,hn,fun p H3 hp s3 e3=>q p H3 (s1.free (s2.free hp)) ((s1.trans s2).trans s3) e3⟩
 | knows k s=>
  obtain ⟨t,y,rfl,et,hy⟩:=hS
  have hw':s.words<=m:=by simp only [Sy.words] at hw; omega
  walk_at "rd"
  refine bv (SqT.of et) (i:=0) rfl ?_
  walk_at "rd"
  refine aW (by decide) ?_
  walk_at "rd"
  refine aW (by decide) ?_
  walk_at "rd"
  refine aW (by decide) ?_
  walk_at "rd"
  refine aW (by decide) ?_
  walk_at "rd"
  refine aW (by decide) ?_
  walk_at "rd"
  refine bv (SqT.of et) (i:=2) rfl ?_
  walk_at "rd"
  refine ⟨a,b,y,c,n,ws,vs,s,rfl,T,hy,hok.2,hw',fun l H1 hl s1 e1=>?_⟩
  walk_at "rd"
  refine d4 rfl ?_
  walk_at "rd"
  refine bv (SqT.of (s1 _ _ et)) (i:=1) rfl ?_
  walk_at "rd"
  obtain ⟨vr,r,e2,e3,e4,e5⟩:=rK (T.views.same s1) hok.1
  refine bK (SqL.of e2) e3 ?_
  walk_at "rd"
  exact ⟨r,l,n,vs.getD k [],_,rfl,e4,e1,T.win _ e5,hn,fun p2 H3 hp2 s3 e6=>q p2 H3 (s1.free hp2) (s1.trans s3) e6⟩
 | all g s=>
  obtain ⟨t,u,y,rfl,et,eu,hy⟩:=hS
  have hw':s.words<=m:=by simp only [Sy.words] at hw; omega
  obtain ⟨⟨hpw,hg⟩,hok'⟩:=hok
  walk_at "rd"
  refine bv (SqT.of et) (i:=0) rfl ?_
  walk_at "rd"
  refine aW (by decide) ?_
  walk_at "rd"
  refine aW (by decide) ?_
  walk_at "rd"
  refine aW (by decide) ?_
  walk_at "rd"
  refine aW (by decide) ?_
  walk_at "rd"
  refine aW (by decide) ?_
  walk_at "rd"
  refine bv (SqT.of et) (i:=2) rfl ?_
  walk_at "rd"
  refine ⟨a,b,y,c,n,ws,vs,s,rfl,T,hy,hok',hw',fun l H1 hl s1 e1=>?_⟩
  walk_at "rd"
  refine aW (by decide) ?_
  walk_at "rd"
  refine bv (SqT.of (s1 _ _ et)) (i:=1) rfl ?_
  refine E8 (T.views.same s1) hg (Mq (uT hpw hg) T.hands) (s1 _ _ eu) ?_ ?_
  ·intro C s' H' fp k rs r H2 R N e2 e3 hR
   walk_at "rd"
   exact bK (SqL.of e2) e3 hR
  ·intro p H2 hp s2 V2
   walk_at "rd"
   refine d4 rfl ?_
   walk_at "rd"
   refine ⟨p,l,n,_,_,rfl,V2,s2 _ _ e1,?_,hn,fun p2 H3 hp2 s3 e6=>q p2 H3 (s1.free (s2.free hp2)) ((s1.trans s2).trans s3) e6⟩
   intro v hv
   obtain ⟨k,hk,rfl⟩:=Nr.mp hv
   obtain ⟨_,_,_,_,_,e5⟩:=rK T.views (hg k hk)
   exact T.win _ e5
 | common g s=>
  obtain ⟨t,u,y,rfl,et,eu,hy⟩:=hS
  have hw':s.words<=m:=by simp only [Sy.words] at hw; omega
  obtain ⟨⟨hpw,hg⟩,hok'⟩:=hok
  walk_at "rd"
  refine bv (SqT.of et) (i:=0) rfl ?_
  walk_at "rd"
  refine aW (by decide) ?_
  walk_at "rd"
  refine aW (by decide) ?_
  walk_at "rd"
  refine aW (by decide) ?_
  walk_at "rd"
  refine aW (by decide) ?_
  walk_at "rd"
  refine aW (by decide) ?_
  walk_at "rd"
  refine bv (SqT.of et) (i:=2) rfl ?_
  walk_at "rd"
  refine ⟨a,b,y,c,n,ws,vs,s,rfl,T,hy,hok',hw',fun l H1 hl s1 e1=>?_⟩
  walk_at "rd"
  refine aW (by decide) ?_
  walk_at "rd"
  refine bv (SqT.of (s1 _ _ et)) (i:=1) rfl ?_
  refine E8 (T.views.same s1) hg (Mq (uT hpw hg) T.hands) (s1 _ _ eu) ?_ ?_
  ·intro C s' H' fp k rs r H2 R N e2 e3 hR
   walk_at "rd"
   exact bK (SqL.of e2) e3 hR
  ·intro p H2 hp s2 V2
   have s12:=s1.trans s2
   have hwin:∀ v∈g.map (fun h=>vs.getD h []),Within n v:=by
    intro v hv
    obtain ⟨k,hk,rfl⟩:=Nr.mp hv
    obtain ⟨_,_,_,_,_,e5⟩:=rK T.views (hg k hk)
    exact T.win _ e5
   walk_at "rd"
   refine aW (by decide) ?_
   walk_at "rd"
   refine gB (SqL.of (s12 _ _ ea)) ?_
   walk_at "rd"
   rw [LF,hlr,hlen]
   refine ⟨n,p,_,rfl,V2,hwin,hn,fun r j H3 hj hjn s3 e3=>?_⟩
   walk_at "rd"
   refine ⟨j,l,n,r,_,rfl,e3,s3 _ _ (s2 _ _ e1),Bq hj,hn,fun p2 H4 hp2 s4 e4=>q p2 H4 (s1.free (s2.free (s3.free hp2))) ((s12.trans s3).trans s4) ?_⟩
   rw [e4]
   congr 2
   exact qE fun i hi=>IO hj hi
end
end
section
variable {K:Fg} {vs:List V} {H:Hp} {Q:VK} {E:XK}
noncomputable def eX (v:List Nat) (as:List IA):List Nat:=bc (v.zip as)
noncomputable def Ai (p:Nat×IA):MK:=.inr [.inl (some ((p.1:Nat):Int)),.inl p.2]
theorem Gs (a b:Nat×IA) (e:Ai a=Ai b):a=b:=by
 have h:=Pk e
 injection h with h1 h2
 injection h1 with h1
 injection h1 with h1
 injection h2 with h2 _
 injection h2 with h2
 obtain ⟨a1,a2⟩:=a
 obtain ⟨b1,b2⟩:=b
 simp only at h1 h2
 rw [show a1=b1 by omega,h2]
theorem Bs (v:List Nat) (as:List IA):bc ((v.zip as).map Ai)=eX v as:=sB (f:=Ai) Gs _
noncomputable def tI (_:Fg):Sp:=fun vs H Q _=>∃ (a b:Addr) (v:List Nat) (ys:List V) (as:List IA),vs=[.ref a,.ref b]/\H a=some (.lst (au v))/\H b=some (.lst ys)/\ys.map iaV=as.map some/\v.length=as.length/\v.length<=100000/\
 ∀ p H',H p=none->am H H'->H' p=some (.lst (au (eX v as)))->Q (.ref p) H'
theorem Aj {H:Hp}:∀ {ts:List Addr} {v:List Nat} {ys:List V} {as:List IA},rG H ts ((au v).zip ys)->ys.map iaV=as.map some->Paired (dg H) (ts.map V.ref) ((v.zip as).map Ai)
 | ts,[],ys,as,h,_=>by
  have e:(au []).zip ys=[]:=rfl
  rw [e] at h
  cases h
  rw [show ([]:List Nat).zip as=[] from rfl]
  exact .nil
 | ts,x :: v,[],as,h,e=>by
  have z:(au (x :: v)).zip ([]:List V)=[]:=by simp
  rw [z] at h
  cases h
  have:as=[]:=by
   cases as with
   | nil=>rfl
   | cons _ _=>simp at e
  rw [this]
  simp only [List.zip_nil_right]
  exact .nil
 | ts,x :: v,y :: ys,as,h,e=>by
  cases as with
  | nil=>simp at e
  | cons a as=>
   rw [LZ,LZ] at e
   injection e with e1 e2
   have z:(au (x :: v)).zip (y :: ys)=(.int (x:Int),y) :: (au v).zip ys:=rfl
   rw [z] at h
   cases h with
   | cons h t=>
    rw [Nq,LZ,LZ]
    exact .cons ⟨_,_,rfl,h,.cons rfl (.cons e1 .nil)⟩ (Aj t e2)
noncomputable def rL (K:Fg):TS:=(aI (av (em K) [] E0 (aa (CT bA bA K (aa (ac 0) (aa (ac 1) af))) af)))
theorem Gu (h:tI K vs H Q E):rL K { nx:=fun _ H'=>Q .non H',rt:=Q } (start ["view","values"] vs) H:=by
 obtain ⟨a,b,v,ys,as,rfl,ea,eb,hi,hl,hn,q⟩:=h
 show rL K _ [some _,some _] _
 unfold rL
 walk_at "rd"
 refine Kh ?_
 walk_at "rd"
 refine ⟨a,b,au v,ys,rfl,SqL.of ea,SqL.of eb,by rw [bh]; omega,fun p H1 hp s1 ⟨ts,e1,pt⟩=>?_⟩
 walk_at "rd"
 refine ⟨p,_,_,true,rfl,e1,Aj pt hi,?_,by rw [LF,Qy]; omega,fun p2 H2 hp2 s2 e2=>?_⟩
 ·intro k hk
  obtain ⟨w,_,rfl⟩:=Nr.mp hk
  rfl
 ·rw [Bs] at e2
  exact q _ _ (s1.free hp2) (s1.trans s2) e2
end
end L2
section
namespace L2
open KF
section
variable {α β γ:Type} [DecidableEq α] [DecidableEq β] [DecidableEq γ]
theorem qH {ks:List α} {i:Nat} {k:α} (h:ks[i]?=some k):ks[ks.idxOf k]?=some k:=by
 rw [LD (QX (LX h)),List.getElem_idxOf]
theorem j7 {ks:List α} {i:Nat} {k:α} (h:ks[i]?=some k):(bc ks)[i]?=some (ks.idxOf k):=by unfold bc; rw [LU,h]; rfl
theorem uV {ks:List α} {j:Nat} {k:α} (h:ks[j]?=some k):ks.idxOf k<=j:=by obtain ⟨_,_,_,hle⟩:=uz (j7 h); exact hle
theorem uW {l:List α} {i:Nat} (h:i < l.length):∃ x,l[i]?=some x:=⟨_,LD h⟩
theorem Bt {ks:List α} {ls:List β} (hl:ks.length=ls.length) (h:∀ i j,i < ks.length->j < ks.length->(ks[i]?=ks[j]?↔ls[i]?=ls[j]?)):bc ks=bc ls:=by
 refine Ni fun i=>?_
 by_cases hi:i < ks.length
 ·obtain ⟨k,hk⟩:=uW hi
  obtain ⟨l,hL⟩:=uW (l:=ls) (i:=i) (by omega)
  rw [j7 hk,j7 hL]
  have a1:=qH hk
  have b1:=qH hL
  have la:=uV hk
  have lb:=uV hL
  have e1:ls[ks.idxOf k]?=some l:=by rw [<-hL]; exact ((h _ _ (by omega) hi).mp (a1.trans hk.symm))
  have e2:ks[ls.idxOf l]?=some k:=by rw [<-hk]; exact ((h _ _ (by omega) hi).mpr (b1.trans hL.symm))
  have q1:=uV e1
  have q2:=uV e2
  congr 1
  omega
 ·rw [Md (by rw [dN]; omega),Md (by rw [dN]; omega)]
theorem E9 {ks:List α} {i j:Nat} (hi:i < ks.length) (hj:j < ks.length):(bc ks)[i]?=(bc ks)[j]?↔ks[i]?=ks[j]?:=by
 obtain ⟨k,hk⟩:=uW hi
 obtain ⟨l,hL⟩:=uW hj
 rw [j7 hk,j7 hL,hk,hL]
 constructor
 ·intro e
  rw [<-qH hk,<-qH hL,LW e]
 ·intro e
  rw [LW e]
theorem sH (ks:List α):bc (bc ks)=bc ks:=Bt (dN ks) fun i j hi hj=>by rw [dN] at hi hj; exact E9 hi hj
theorem xZ {ks:List α} {i m:Nat} (h:(bc ks)[i]?=some m):ks[m]?=ks[i]?/\m<=i/\i < ks.length:=by
 obtain ⟨k,hk,rfl,hle⟩:=uz h
 exact ⟨(qH hk).trans hk.symm,hle,(LJ.mp hk).1⟩
end
theorem Fa {v:List Nat} (hv:bc v=v) {x y:Nat} (h:v[x]?=some y):v[x]?=v[y]?/\y<=x:=by
 have h':(bc v)[x]?=some y:=by rw [hv]; exact h
 obtain ⟨q,hle,_⟩:=xZ h'
 exact ⟨q.symm,hle⟩
end L2
end
namespace L2
open PySem PyProof.Rows
section
open KF
open Classical in
noncomputable def blA (n:Nat) (P:Nat->Prop):List IA:=(LV n).map fun i=>some (if decide (P i) then 1 else 0)
theorem B6 (n:Nat) (P:Nat->Prop):(blA n P).length=n:=by unfold blA; simp
theorem Kl (n:Nat) (P:Nat->Prop):(blV n P).map iaV=(blA n P).map some:=by
 unfold blV blA
 rw [Oy,Oy]
 exact NF fun i _=>rfl
open Classical in
theorem qI {α:Type} [DecidableEq α] {ks:List α} {n:Nat} (h:ks.length=n):Within n (bc ks):=⟨by rw [dN,h],fun x hx=>by
 obtain ⟨i,hi⟩:=Qj.mp hx
 obtain ⟨_,h1,h2⟩:=xZ hi
 omega⟩
theorem qJ {n:Nat} {v:List Nat} {as:List IA} (hv:Within n v) (hl:as.length=n):Within n (eX v as):=qI (by rw [Qy,hv.1,hl,Qz])
theorem Fb (v:List Nat) (as:List IA):bc (eX v as)=eX v as:=sH _
noncomputable def lrn (vw:List (List Nat)) (g:List Nat) (as:List IA):List (List Nat):=g.foldl (fun w h=>w.set h (eX (w.getD h []) as)) vw
theorem rM (as:List IA):∀ (g:List Nat) (vw:List (List Nat)),(lrn vw g as).length=vw.length
 | [],_=>rfl
 | h :: g,vw=>by
  show (lrn (vw.set h _) g as).length=_
  rw [rM as g,NI]
theorem Gv (vw:List (List Nat)) (g:List Nat) (h:Nat) (as:List IA):lrn vw (g++[h]) as=(lrn vw g as).set h (eX ((lrn vw g as).getD h []) as):=by
 unfold lrn
 rw [TL]
 rfl
theorem Fc {ws:List (List Nat)} {i j:Nat} {v:List Nat}:(ws.set i v).getD j []=if i=j/\i < ws.length then v else ws.getD j []:=by
 rw [LO,LO,N1]
 by_cases e:i=j
 ·subst e
  by_cases h:i < ws.length
  ·simp [h]
  ·simp [h,Md (RC h)]
 ·simp [e]
theorem B7 (as:List IA):∀ (g:List Nat) (vw:List (List Nat)) (i:Nat),g.Nodup->i < vw.length->(lrn vw g as).getD i []=if i∈g then eX (vw.getD i []) as else vw.getD i []
 | [],vw,i,_,_=>by simp [lrn]
 | h :: g,vw,i,nd,hi=>by
  obtain ⟨n1,n2⟩:=Ol.mp nd
  show (lrn (vw.set h _) g as).getD i []=_
  rw [B7 as g _ i n2 (by rw [NI]; exact hi),Fc]
  by_cases e:i=h
  ·subst e
   rw [if_neg n1,if_pos ⟨rfl,hi⟩,if_pos LK]
  ·have e':¬ h=i:=fun z=>e z.symm
   have e1:(if h=i/\h < vw.length then eX (vw.getD h []) as else vw.getD i [])=vw.getD i []:=if_neg fun z=>e' z.1
   rw [e1]
   by_cases m:i∈g
   ·rw [if_pos m,if_pos (LQ _ m)]
   ·rw [if_neg m,if_neg fun z=>(LI.mp z).elim e m]
theorem Gw {ws vs:List (List Nat)} (hl:ws.length=vs.length) (h:∀ i,i < vs.length->ws.getD i []=vs.getD i []):ws=vs:=by
 refine Ni fun i=>?_
 by_cases hi:i < vs.length
 ·have:=h i hi
  rw [LO,LO,LD hi,LD (by omega)] at this
  rw [LD hi,LD (by omega)]
  exact congrArg some this
 ·rw [Md (by omega),Md (by omega)]
theorem IP (as:List IA) (vw:List (List Nat)):lrn vw (LV vw.length) as=vw.map fun v=>eX v as:=by
 refine Gw (by rw [rM,LF]) fun i hi=>?_
 rw [LF] at hi
 rw [B7 as _ _ i List.nodup_range hi,if_pos (MZ.mpr hi)]
 simp [LO,hi]
theorem rN {as:List IA} {P:List Nat->Prop} (hs:∀ v,P v->P (eX v as)):∀ (g:List Nat) (vw:List (List Nat)),(∀ h∈g,h < vw.length)->(∀ v∈vw,P v)->∀ v∈lrn vw g as,P v
 | [],_,_,h=>h
 | k :: g,vw,hk,h=>by
  show ∀ v∈lrn (vw.set k _) g as,P v
  refine rN hs g _ (fun x hx=>by rw [NI]; exact hk x (LQ _ hx)) fun v hv=>?_
  rcases List.mem_or_eq_of_mem_set hv with z | z
  ·exact h v z
  ·rw [z]
   have hl:=hk k LK
   refine hs _ (h _ ?_)
   rw [LO,LD hl]
   exact Od hl
set_option genInjectivity false in
structure TM where
 c:Nat
 ss:List Nat
 vw:List (List Nat)
 ds:List (List Nat×List V)
noncomputable def TM.ws (T:TM):List (List Nat):=KM.cq (T.ss++[T.c - T.ss.sum]) T.c
noncomputable def TM.n (T:TM):Nat:=T.ws.length
noncomputable def TM.k (T:TM):Nat:=T.ss.length
noncomputable def TM.tr (T:TM) (s:Sy):Nat->Prop:=TR T.n T.ws T.vw s
noncomputable def TM.learn (T:TM) (g:List Nat) (as:List IA) (ys:List V):TM:={ T with vw:=lrn T.vw g as,ds:=T.ds++[(g,ys)] }
noncomputable def TM.word (T:TM) (g:List Nat) (s:Sy):TM:=T.learn g (blA T.n (T.tr s)) (blV T.n (T.tr s))
noncomputable def TM.begun (c:Nat) (ss:List Nat):TM:=⟨c,ss,(LV ss.length).map fun i=>lw (KM.cq (ss++[c - ss.sum]) c) ((i:Nat):Int),[]⟩
structure TM.Ok (T:TM):Prop where
 pk:qy T.c T.ss
 few:KM.cE T.c T.ss<=2000
 len:T.vw.length=T.k
 win:∀ v∈T.vw,Within T.n v
 can:∀ v∈T.vw,bc v=v
theorem TM.Ok.n2 {T:TM} (h:T.Ok):T.n<=2000:=by
 show (KM.cq _ _).length<=_
 rw [KM.m6 h.pk.sum]
 exact h.few
theorem TM.Ok.cards {T:TM} (h:T.Ok):∀ w∈T.ws,w.length=T.c:=fun w hw=>(KM.gZ _ T.c w hw).len
theorem TM.Ok.begun {c:Nat} {ss:List Nat} (pk:qy c ss) (few:KM.cE c ss<=2000):(TM.begun c ss).Ok:=⟨pk,few,by show (List.map _ _).length=ss.length; rw [LF,MX],fun v hv=>by
 obtain ⟨i,_,rfl⟩:=Nr.mp hv
 exact qI (by rw [LF]; rfl),fun v hv=>by
 obtain ⟨i,_,rfl⟩:=Nr.mp hv
 exact sH _⟩
theorem TM.Ok.learn {T:TM} (h:T.Ok) {g:List Nat} {as:List IA} {ys:List V} (hg:∀ x∈g,x < T.k) (hl:as.length=T.n):(T.learn g as ys).Ok:=
 ⟨h.pk,h.few,by show (lrn T.vw g as).length=_; rw [rM]; exact h.len,rN (fun v hv=>qJ hv hl) g T.vw (by rw [h.len]; exact hg) h.win,rN (fun v _=>Fb v as) g T.vw (by rw [h.len]; exact hg) h.can⟩
theorem TM.Ok.word {T:TM} (h:T.Ok) {g:List Nat} {s:Sy} (hg:∀ x∈g,x < T.k):(T.word g s).Ok:=h.learn hg (B6 _ _)
end
section
variable {K:Fg} {vs:List V} {H:Hp} {Q:VK} {E:XK}
theorem IQ {i lo hi:Int} (h1:lo<=i) (h2:i<=hi):cA (.int i) lo hi=true:=by
 show (decide (lo<=i) && decide (i<=hi))=true
 rw [decide_eq_true h1,decide_eq_true h2]
 rfl
noncomputable def de (_:Fg):Sp:=fun vs H Q _=>∃ (i b:Int),vs=[.int i,.int b]/\Q (.bl (decide (0<=i) && decide (i<=b - 1))) H
noncomputable def kM (K:Fg):TS:=(aI (av (dS K) [] E0 (aa (ac 0) (aa (tC (.int 0)) (aa (tOp (rI0 fun i j=>.int (i - j)) (ac 1) (tC (.int 1))) af)))))
theorem Bu (h:de K vs H Q E):kM K { nx:=fun _ H'=>Q .non H',rt:=Q } (start ["thing","bound"] vs) H:=by
 obtain ⟨i,b,rfl,q⟩:=h
 show kM K _ [some _,some _] _
 unfold kM
 walk_at "rd"
 exact ⟨.int i,0,b - 1,rfl,eO.int _,q⟩
theorem gk {i b:Int} (h1:0<=i) (h2:i<=b):(decide (0<=i) && decide (i<=b))=true:=by rw [decide_eq_true h1,decide_eq_true h2]; rfl
noncomputable def iS (_:Fg):Sp:=fun vs H Q _=>∃ (a:Addr) (g:List Nat) (h:Nat),vs=[.ref a,.int h]/\H a=some (.tup (au g))/\g.Pairwise (· < ·)/\(∀ k∈g,k < h)/\Q (.bl true) H
noncomputable def jP (K:Fg):TS:=(ap (bq (fS (tB (tCB (lh K) (aa (ac 0) (aa (tC (.ty "tuple")) af))))) (aI (tC (.bl false))) aZ)
 (ap (aE (tC (.int 0)) (aj 2))
 (ap (cu (wx K (ac 0)) (aj 3) (ap (bq (fS (tB (av (dS K) [] E0 (aa (ac 3) (aa (ac 2) (aa (tOp (rI0 fun i j=>.int (i - j)) (ac 1) (tC (.int 1))) af)))))) (aI (tC (.bl false))) aZ)
 (aE (tOp (rI0 fun i j=>.int (i + j)) (ac 3) (tC (.int 1))) (aj 2))))
 (aI (tC (.bl true))))))
theorem Ak (h:iS K vs H Q E):jP K { nx:=fun _ H'=>Q .non H',rt:=Q } (start ["thing","hands","least","hand"] vs) H:=by
 obtain ⟨a,g,h,rfl,e,pw,hg,q⟩:=h
 show jP K _ [some _,some _,none,none] _
 unfold jP
 walk_at "rd"
 refine kJ (.tup e) (jJ K) ?_
 walk_at "rd"
 refine zL (au g) (SqT.of e) (fun i σ H2=>∃ (lo:Int) (st:Option V),σ=[some (.ref a),some (.int h),some (.int lo),st]/\H2=H/\∀ k∈g.drop i,lo<=(k:Int)) ⟨0,none,rfl,rfl,fun k _=>by omega⟩ (fun i σ H2 _ ⟨_,_,_,eH,_⟩=>by subst eH; exact SqT.of e) ?_ ?_
 ·rintro i y σ H2 hy ⟨lo,st,rfl,rfl,hlo⟩
  obtain ⟨k,hk,rfl⟩:=iH hy
  obtain ⟨h1,h2⟩:=LJ.mp hk
  have hd:g.drop i=k :: g.drop (i + 1):=by rw [Rr h1,h2]
  have hkh:=hg k (LX hk)
  have pd:(g.drop i).Pairwise (· < ·):=pw.sublist (List.drop_sublist i g)
  rw [hd] at hlo pd
  have l1:=hlo k LK
  walk_at "rd"
  refine ⟨.int (k:Int),lo,(h:Int) - 1,rfl,eO.int _,?_⟩
  rw [IQ l1 (show (k:Int)<=(h:Int) - 1 by omega)]
  walk_at "rd"
  refine ⟨_,_,rfl,rfl,fun j hj=>?_⟩
  have:=(Pz.mp pd).1 j hj
  omega
 ·rintro σ H2 ⟨lo,st,rfl,rfl,_⟩
  walk_at "rd"
  exact q
noncomputable def m9 (_:Fg):Sp:=fun vs H Q _=>∃ (v:V) (s:Sy),vs=[v]/\aN H v s/\∀ (p:Addr) (xs:List V) (H':Hp),am H H'->H p=none->H' p=some (.lst xs)->gF H' xs s.subs->xs.length<=2->Q (.ref p) H'
noncomputable def kN (K:Fg) (G:Glo):TS:=(ap (aE (tOp (CH G.kvs G.forms) (tC (.ref G.forms)) (tOp (cV K) (ac 0) (tC (.int 0)))) (aj 1))
 (aI (bT (qq iq iq K (aa (ac 1) (aa (tSl (zN K) (ac 0) (um (tC (.int 1))) ny) af))) (fun _ _ _ _=>(ip K 2 (bW (aj 0) (bW (aj 1) im)))) (fun _ _ _ _=>(aX (tOp rEq (ac 0) (tC (.str "saying"))))) (fun _ _ _ _=>(ac 1)) [none,none])))
theorem Bv {K:Fg} {G:Glo} (g:uM K G) {vs:List V} {H:Hp} {Q:VK} {E:XK} (h:m9 K vs H Q E):kN K G { nx:=fun _ H'=>Q .non H',rt:=Q } (start ["saying","form"] vs) H:=by
 obtain ⟨v,s,rfl,hs,q⟩:=h
 obtain ⟨a,items,rfl,ha,hl,hp⟩:=IJ hs
 obtain ⟨f,hf,tf⟩:=g.form s
 show kN K G _ [some _,none] _
 unfold kN
 walk_at "rd"
 refine bv (SqT.of ha) (kY _ _) ?_
 refine HK hf ?_
 walk_at "rd"
 refine CG (SqT.of ha) (mZ _ _) fun b H1 hb s1 e1=>?_
 rw [tE] at e1
 walk_at "rd"
 have hml:min (s.form.map V.str).length items.length=s.form.length:=by rw [LF,hl]; omega
 refine qt (S1:=iq) (S2:=iq) (s.form.map V.str) items (tf.sq _) (SqT.of e1) (fun H' _=>tf.sq _) (fun H' s'=>SqT.of (s' _ _ e1)) (by rw [LF]; have:=s.form_len; omega) (fun i acc _=>acc=iA (s.form.take i) (items.take i)) (fun _ _=>rfl) ?_ ?_
 ·intro p hp' C s' H' fp i x y T acc H2 H3 hx hy ⟨s2,e2,l2,r2⟩ hT s3 e3 e4
  obtain ⟨z,hz,rfl⟩:∃ z,s.form[i]?=some z/\x=.str z:=by
   rw [LU] at hx
   cases e:s.form[i]? with
   | none=>rw [e] at hx; cases hx
   | some z=>rw [e] at hx; exact ⟨z,rfl,(LW hx).symm⟩
  have pt:=E5 s.form items i z y hz hy
  subst r2
  refine gh (SqT.of e3) ?_
  walk_at "rd"
  refine bZ (fun c=>?_) (fun c=>?_)
  ·walk_at "rd"
   rw [if_pos c] at pt
   exact bn.put hp' (fun _ _ _ _ r _=>r) (s2.trans s3) e4 l2 pt.symm
  ·rw [if_neg c,NH] at pt
   exact bn.skip (s2.trans s3) e4 l2 pt.symm
 ·intro p acc H2 hp' s2 e2 r2
  rw [hml,<-hl,Mx,hl,Mx] at r2
  subst r2
  refine q p _ H2 (s1.trans s2) (s1.free hp') e2 (hp.keep (s1.trans s2).keep) (Mq (Gq _ _) s.form_len)
noncomputable def iT (H:Hp) (c h:Nat) (p:Str) (x:V):Prop:=(p="holder"/\∃ k:Nat,x=.int k/\k<=h)\/(p="card"/\∃ k:Nat,x=.int k/\k < c)\/(p="hand"/\∃ k:Nat,x=.int k/\k < h)\/(p="hands"/\∃ a g,x=.ref a/\H a=some (.tup (au g))/\g.Pairwise (· < ·)/\∀ k∈g,k < h)\/p="saying"
noncomputable def wL (_:Fg):Sp:=fun vs H Q _=>∃ (c h:Nat) (p:Str) (x:V),vs=[.int c,.int h,.str p,x]/\iT H c h p x/\Q (.bl true) H
noncomputable def uX (K:Fg):TS:=(ap (bq (aX (tOp rEq (ac 2) (tC (.str "holder")))) (aI (av (de K) [] E0 (aa (ac 3) (aa (tOp (rI0 fun i j=>.int (i + j)) (ac 1) (tC (.int 1))) af)))) aZ)
 (ap (bq (aX (tOp rEq (ac 2) (tC (.str "card")))) (aI (av (de K) [] E0 (aa (ac 3) (aa (ac 0) af)))) aZ)
 (ap (bq (aX (tOp rEq (ac 2) (tC (.str "hand")))) (aI (av (de K) [] E0 (aa (ac 3) (aa (ac 1) af)))) aZ)
 (ap (bq (aX (tOp rEq (ac 2) (tC (.str "hands")))) (aI (av (iS K) [] E0 (aa (ac 3) (aa (ac 1) af)))) aZ)
 (aI (tC (.bl true)))))))
theorem IR (h:wL K vs H Q E):uX K { nx:=fun _ H'=>Q .non H',rt:=Q } (start ["cards","hands","place","part"] vs) H:=by
 obtain ⟨c,h,p,x,rfl,k,q⟩:=h
 show uX K _ [some _,some _,some _,some _] _
 unfold uX
 rcases k with ⟨rfl,k,rfl,hk⟩ | ⟨rfl,k,rfl,hk⟩ | ⟨rfl,k,rfl,hk⟩ | ⟨rfl,a,g,rfl,e,pw,hg⟩ | rfl
 ·walk_at "rd"
  refine d4 rfl ?_
  walk_at "rd"
  refine ⟨_,_,rfl,?_⟩
  rw [gk (by omega) (by omega)]
  exact q
 ·walk_at "rd"
  refine aW (by decide +kernel) ?_
  walk_at "rd"
  refine d4 rfl ?_
  walk_at "rd"
  refine ⟨_,_,rfl,?_⟩
  rw [gk (by omega) (by omega)]
  exact q
 ·walk_at "rd"
  refine aW (by decide +kernel) ?_
  walk_at "rd"
  refine aW (by decide +kernel) ?_
  walk_at "rd"
  refine d4 rfl ?_
  walk_at "rd"
  refine ⟨_,_,rfl,?_⟩
  rw [gk (by omega) (by omega)]
  exact q
 ·walk_at "rd"
  refine aW (by decide +kernel) ?_
  walk_at "rd"
  refine aW (by decide +kernel) ?_
  walk_at "rd"
  refine aW (by decide +kernel) ?_
  walk_at "rd"
  refine d4 rfl ?_
  walk_at "rd"
  exact ⟨a,g,h,rfl,e,pw,hg,q⟩
 ·walk_at "rd"
  refine aW (by decide +kernel) ?_
  walk_at "rd"
  refine aW (by decide +kernel) ?_
  walk_at "rd"
  refine aW (by decide +kernel) ?_
  walk_at "rd"
  refine aW (by decide +kernel) ?_
  walk_at "rd"
  exact q
theorem Gx {H:Hp} {c h:Nat} {v:V} {s:Sy} (hs:aN H v s) (ok:s.Ok c h):∃ a items,v=.ref a/\H a=some (.tup (.str s.word :: items))/\items.length=s.form.length/\∀ (i:Nat) (p:Str) (x:V),s.form[i]?=some p->items[i]?=some x->iT H c h p x:=by
 have one:∀ {p:Str} {x:V},iT H c h p x->∀ (i:Nat) (p':Str) (x':V),[p][i]?=some p'->[x][i]?=some x'->iT H c h p' x':=fun f i p' x' hp hx=>by
  match i,hp,hx with
  | 0,hp,hx=>cases hp; cases hx; exact f
 have two:∀ {p q:Str} {x y:V},iT H c h p x->iT H c h q y->∀ (i:Nat) (p':Str) (x':V),[p,q][i]?=some p'->[x,y][i]?=some x'->iT H c h p' x':=fun f g i p' x' hp hx=>by
  match i,hp,hx with
  | 0,hp,hx=>cases hp; cases hx; exact f
  | 1,hp,hx=>cases hp; cases hx; exact g
 have sy:∀ {x:V},iT H c h "saying" x:=.inr (.inr (.inr (.inr rfl)))
 cases s with
 | holds w k=>obtain ⟨a,e,q⟩:=hs; exact ⟨a,_,e,q,rfl,two (.inl ⟨rfl,w,rfl,ok.1⟩) (.inr (.inl ⟨rfl,k,rfl,ok.2⟩))⟩
 | sees k=>obtain ⟨a,e,q⟩:=hs; exact ⟨a,_,e,q,rfl,one (.inr (.inr (.inl ⟨rfl,k,rfl,ok⟩)))⟩
 | not s=>obtain ⟨a,x,e,q,r⟩:=hs; exact ⟨a,_,e,q,rfl,one sy⟩
 | and s t=>obtain ⟨a,x,y,e,q,r,r'⟩:=hs; exact ⟨a,_,e,q,rfl,two sy sy⟩
 | or s t=>obtain ⟨a,x,y,e,q,r,r'⟩:=hs; exact ⟨a,_,e,q,rfl,two sy sy⟩
 | knows k s=>obtain ⟨a,x,e,q,r⟩:=hs; exact ⟨a,_,e,q,rfl,two (.inr (.inr (.inl ⟨rfl,k,rfl,ok.1⟩))) sy⟩
 | all g s=>obtain ⟨a,b,x,e,q,j,r⟩:=hs; exact ⟨a,_,e,q,rfl,two (.inr (.inr (.inr (.inl ⟨rfl,b,g,rfl,j,ok.1.1,ok.1.2⟩)))) sy⟩
 | common g s=>obtain ⟨a,b,x,e,q,j,r⟩:=hs; exact ⟨a,_,e,q,rfl,two (.inr (.inr (.inr (.inl ⟨rfl,b,g,rfl,j,ok.1.1,ok.1.2⟩)))) sy⟩
theorem iT.same {H H':Hp} (s:am H H') {c h:Nat} {p:Str} {x:V} (f:iT H c h p x):iT H' c h p x:=by
 rcases f with f | f | f | ⟨e,a,g,e2,q,r⟩ | f
 ·exact .inl f
 ·exact .inr (.inl f)
 ·exact .inr (.inr (.inl f))
 ·exact .inr (.inr (.inr (.inl ⟨e,a,g,e2,s _ _ q,r⟩)))
 ·exact .inr (.inr (.inr (.inr f)))
noncomputable def oS (_:Fg):Sp:=fun vs H Q _=>∃ (c h:Nat) (v:V) (s:Sy),vs=[.int c,.int h,v]/\aN H v s/\s.Ok c h/\∀ H',am H H'->Q (.bl true) H'
noncomputable def mr (K:Fg) (G:Glo):TS:=(ap (bq (tOr (fS (tB (tCB (lh K) (aa (ac 2) (aa (tC (.ty "tuple")) af))))) (aX (tOp rEq (tCB (bV K) (aa (ac 2) af)) (tC (.int 0))))) (aI (tC (.bl false))) aZ)
 (ap (bq (tOr (fS (tB (tCB (lh K) (aa (tOp (cV K) (ac 2) (tC (.int 0))) (aa (tC (.ty "str")) af))))) (aX (tOp (zO G.kvs G.forms true) (tOp (cV K) (ac 2) (tC (.int 0))) (tC (.ref G.forms))))) (aI (tC (.bl false))) aZ)
 (ap (aE (tOp (CH G.kvs G.forms) (tC (.ref G.forms)) (tOp (cV K) (ac 2) (tC (.int 0)))) (aj 3))
 (ap (bq (aX (tOp rNe (tCB (bV K) (aa (ac 2) af)) (tOp (rI0 fun i j=>.int (i + j)) (tC (.int 1)) (tCB (bV K) (aa (ac 3) af))))) (aI (tC (.bl false))) aZ)
 (aI (tCB (CA K) (aa (bT (qq iq iq K (aa (ac 3) (aa (tSl (zN K) (ac 2) (um (tC (.int 1))) ny) af))) (fun _ _ _ _=>(ip K 2 (bW (aj 0) (bW (aj 1) im)))) (fun _ _ _ _=>bB) (fun _ _ _ _=>(av (wL K) [] E0 (aa (ac 2) (aa (ac 3) (aa (ac 0) (aa (ac 1) af)))))) [none,none,some 0,some 1]) af)))))))
theorem Km {H:Hp} {Q:VK} {kvs:List (Str×V)} {a:Addr} {k:Str} {v:V} (e:kvs.lookup k=some v) (h:Q (.bl false) H):zO kvs a true (.str k) (.ref a) H Q:=⟨rfl,k,rfl,by rw [e]; exact h⟩
theorem Gy (K:Fg):ML K (.type "str") (.type "str")=some true:=Ae K "str"
theorem CY {K:Fg} {G:Glo} (g:uM K G) {vs:List V} {H:Hp} {Q:VK} {E:XK} (h:oS K vs H Q E):mr K G { nx:=fun _ H'=>Q .non H',rt:=Q } (start ["cards","hands","thing","form"] vs) H:=by
 obtain ⟨c,h,v,s,rfl,hs,ok,q⟩:=h
 obtain ⟨a,items,rfl,ha,hl,hf⟩:=Gx hs ok
 obtain ⟨f,hk,tf⟩:=g.form s
 have hfl:=s.form_len
 show mr K G _ [some _,some _,some _,none] _
 unfold mr
 walk_at "rd"
 refine kJ (.tup ha) (jJ K) ?_
 walk_at "rd"
 refine aW (by show ¬ (((items.length + 1:Nat):Int)=0); omega) ?_
 walk_at "rd"
 refine bv (SqT.of ha) (kY _ _) ?_
 walk_at "rd"
 refine kJ (.str _) (Gy K) ?_
 walk_at "rd"
 refine bv (SqT.of ha) (kY _ _) ?_
 walk_at "rd"
 refine Km hk ?_
 walk_at "rd"
 refine bv (SqT.of ha) (kY _ _) ?_
 refine HK hk ?_
 walk_at "rd"
 refine BU (tf.sq _) ?_
 walk_at "rd"
 rw [LF]
 refine tq (fun n=>absurd (show ((items.length + 1:Nat):Int)=1 + ((s.form.length:Nat):Int) by omega) n) (fun _=>?_)
 walk_at "rd"
 refine CG (SqT.of ha) (mZ _ _) fun b H1 hb s1 e1=>?_
 rw [tE] at e1
 walk_at "rd"
 refine qt (S1:=iq) (S2:=iq) (s.form.map V.str) items (tf.sq _) (SqT.of e1) (fun H' _=>tf.sq _) (fun H' s'=>SqT.of (s' _ _ e1)) (by rw [LF]; omega) (fun i acc _=>acc=(Mo i true).map V.bl) (fun _ _=>rfl) ?_ ?_
 ·rintro p hp C s' H' fp i x y T acc H2 H3 hx hy ⟨s2,e2,l2,rfl⟩ hT s3 e3 e4
  obtain ⟨z,hz,rfl⟩:∃ z,s.form[i]?=some z/\x=.str z:=by
   rw [LU] at hx
   cases e:s.form[i]? with
   | none=>rw [e] at hx; cases hx
   | some z=>rw [e] at hx; exact ⟨z,rfl,(LW hx).symm⟩
  refine gh (SqT.of e3) ?_
  walk_at "rd"
  refine ⟨c,h,z,y,rfl,(hf i z y hz hy).same ((s1.trans s2).trans s3),?_⟩
  exact bn.put hp (fun _ _ _ _ r _=>r) (s2.trans s3) e4 l2 (by rw [Pe,Mf]; rfl)
 ·rintro p acc H2 hp s2 e2 rfl
  walk_at "rd"
  refine ⟨p,_,rfl,SqL.of e2,?_⟩
  rw [show ∀ n:Nat,(Mo n true).all id=true from fun n=>by simp]
  exact q _ (s1.trans s2)
noncomputable def iU (_:Fg):Sp:=fun vs H Q _=>∃ (l:Addr) (xs:List V) (ss:List Sy),vs=[.ref l]/\H l=some (.lst xs)/\gF H xs ss/\xs.length<=100/\∀ (p:Addr) (ys:List V) (H':Hp),am H H'->H p=none->H' p=some (.lst ys)->gF H' ys (ss.flatMap Sy.subs)->Q (.ref p) H'
noncomputable def gI (K:Fg):TS:=(ap (aE (fT af) (aj 1))
 (ap (cu (dt K (ac 0)) (aj 2) (ee (tBM K "list" wB (ac 1) (aa (av (m9 K) [] E0 (aa (ac 2) af)) af))))
 (aI (ac 1))))
theorem Kn {α β:Type} {F:α->β->Prop} {l l':List α} {m m':List β} (h:Paired F l m) (q:Paired F l' m'):Paired F (l++l') (m++m'):=by
 induction h with
 | nil=>exact q
 | cons x _ ih=>exact .cons x ih
theorem B8:∀ ss:List Sy,(ss.flatMap Sy.subs).length<=2 * ss.length
 | []=>LH _
 | s :: r=>by
  have:=B8 r
  have:s.subs.length<=2:=by cases s <;> simp [Sy.subs]
  rw [Rm,L7,Ml]
  omega
theorem uY (h:iU K vs H Q E):gI K { nx:=fun _ H'=>Q .non H',rt:=Q } (start ["sayings","parts","saying"] vs) H:=by
 obtain ⟨l,xs,ss,rfl,el,hx,h100,q⟩:=h
 show gI K _ [some _,none,none] _
 unfold gI
 have lxs:=gj hx
 walk_at "rd"
 refine ⟨by simp [LP],fun p H1 hp s1 e1=>?_⟩
 walk_at "rd"
 refine nE xs (SqL.of (s1 _ _ el)) (fun i σ H2=>∃ (u:Option V) (ys:List V),σ=[some (.ref l),some (.ref p),u]/\am H H2/\H2 p=some (.lst ys)/\gF H2 ys ((ss.take i).flatMap Sy.subs)) ⟨none,[],rfl,s1,e1,.nil⟩ ?_ ?_ ?_
 ·rintro i σ H2 hi ⟨u,ys,rfl,s2,_⟩
  exact SqL.of (s2 _ _ el)
 ·rintro i x σ H2 hxi ⟨u,ys,rfl,s2,e2,p2⟩
  obtain ⟨s,hs,is⟩:=mj hx hxi
  have lys:=gj p2
  have:=B8 (ss.take i)
  rw [NM] at this
  walk_at "rd"
  refine ⟨.inl ⟨rfl,_,SqL.of e2⟩,?_⟩
  walk_at "rd"
  refine ⟨x,s,rfl,is.keep s2.keep,fun p3 zs H3 s3 hp3 e3 y3 l3=>?_⟩
  walk_at "rd"
  refine F8 (s3 _ _ e2) e3 (by rw [LP]; omega) fun H4 o4 e4=>?_
  have k4:gU H3 H4:=fun b ws e=>(o4 b fun z=>by rw [z,s3 _ _ e2] at e; cases e).trans e
  refine ⟨_,ys++zs,rfl,(s2.trans s3).off hp o4,e4,?_⟩
  rw [Nv,hs,QG]
  refine Kn ((p2.keep s3.keep).keep k4) ?_
  show Paired _ zs (s.subs++[])
  rw [NH]
  exact y3.keep k4
 ·rintro σ H2 ⟨u,ys,rfl,s2,e2,p2⟩
  rw [lxs,Mx] at p2
  walk_at "rd"
  exact q p ys H2 s2 hp e2 p2
theorem Al:∀ ss:List Sy,(ss.map Sy.words).sum=ss.length + ((ss.flatMap Sy.subs).map Sy.words).sum
 | []=>rfl
 | s :: r=>by
  rw [LZ,Mi,Al r,s.words_subs,Rm,Mf,Nn,Ml]
  omega
theorem IS {c h:Nat} {s:Sy} (ok:s.Ok c h):∀ t∈s.subs,t.Ok c h:=by
 cases s with
 | holds w k=>exact fun t ht=>nomatch ht
 | sees k=>exact fun t ht=>nomatch ht
 | not s=>exact fun t ht=>by rw [LG.mp ht]; exact ok
 | and s t=>exact fun u hu=>(LI.mp hu).elim (fun z=>z ▸ ok.1) fun z=>LG.mp z ▸ ok.2
 | or s t=>exact fun u hu=>(LI.mp hu).elim (fun z=>z ▸ ok.1) fun z=>LG.mp z ▸ ok.2
 | knows k s=>exact fun t ht=>by rw [LG.mp ht]; exact ok.2
 | all g s=>exact fun t ht=>by rw [LG.mp ht]; exact ok.2
 | common g s=>exact fun t ht=>by rw [LG.mp ht]; exact ok.2
noncomputable def lx (_:Fg):Sp:=fun vs H Q _=>∃ (c h:Nat) (v:V) (s:Sy),vs=[.int c,.int h,v]/\aN H v s/\s.Ok c h/\s.words<=30/\∀ H',am H H'->Q (.bl true) H'
noncomputable def jQ (K:Fg):TS:=(ap (bq (tOr (fS (tB (av (g0 K) [] E0 (aa (ac 0) af)))) (fS (tB (av (g0 K) [] E0 (aa (ac 1) af))))) (aI (tC (.bl false))) aZ)
 (ap (aE (tC (.int 0)) (aj 3))
 (ap (aE (fT (aa (ac 2) af)) (aj 4))
 (ap (lf (aX (tOp (rI0 fun i j=>.bl (decide (j < i))) (tCB (bV K) (aa (ac 4) af)) (tC (.int 0)))) (ap (aE (tOp (rI0 fun i j=>.int (i + j)) (ac 3) (tCB (bV K) (aa (ac 4) af))) (aj 3))
 (ap (bq (tOr (aX (tOp (rI0 fun i j=>.bl (decide (j < i))) (ac 3) (tC (.int 30)))) (fS (tB (tCB (CA K) (aa (bT (dt K (ac 4)) (fun _ _ _ _=>(aj 0)) (fun _ _ _ _=>bB) (fun _ _ _ _=>(av (oS K) [] E0 (aa (ac 1) (aa (ac 2) (aa (ac 0) af))))) [none,some 0,some 1]) af))))) (aI (tC (.bl false))) aZ)
 (aE (av (iU K) [] E0 (aa (ac 4) af)) (aj 4)))))
 (aI (tC (.bl true)))))))
theorem Am (h:lx K vs H Q E):jQ K { nx:=fun _ H'=>Q .non H',rt:=Q } (start ["cards","hands","thing","words","level"] vs) H:=by
 obtain ⟨c,h,v,s,rfl,hs,ok,hw,q⟩:=h
 show jQ K _ [some _,some _,some _,none,none] _
 unfold jQ
 walk_at "rd"
 refine ⟨_,rfl,eO.int _,?_⟩
 walk_at "rd"
 refine Cz ?_
 walk_at "rd"
 refine ⟨_,rfl,eO.int _,?_⟩
 walk_at "rd"
 refine Cz ?_
 walk_at "rd"
 refine ⟨by simp [LP],fun p H1 hp s1 e1=>?_⟩
 refine j4 ?_
 dsimp only [NQ,NR]
 refine bR ?_
 refine y8 (fun m σ H2=>∃ (W:Nat) (l:Addr) (xs:List V) (ss:List Sy),σ=[some (.int c),some (.int h),some v,some (.int W),some (.ref l)]/\am H H2/\H2 l=some (.lst xs)/\gF H2 xs ss/\(∀ t∈ss,t.Ok c h)/\m=(ss.map Sy.words).sum/\W + m<=30) s.words
  ⟨0,p,[v],[s],rfl,s1,e1,.cons (hs.keep s1.keep) .nil,fun t ht=>by rw [LG.mp ht]; exact ok,by simp,by omega⟩ ?_
 rintro m σ H2 ⟨W,l,xs,ss,rfl,s2,e2,hx,hok,rfl,hW⟩
 have lxs:=gj hx
 have e:=Al ss
 walk_at "rd"
 refine bZ (fun c0=>?_) (fun c0=>?_)
 ·refine y7 ?_
  walk_at "rd"
  refine aW (by omega) ?_
  walk_at "rd"
  refine fN xs (SqL.of e2) (by omega) (fun i acc _=>acc=(Mo i true).map V.bl) (fun _ _=>rfl) ?_ ?_
  ·rintro p' hp' C s' H' fp i x acc H3 hxi ⟨s3,e3,l3,rfl⟩
   obtain ⟨t,ht,it⟩:=mj hx hxi
   walk_at "rd"
   refine ⟨c,h,x,t,rfl,it.keep s3.keep,hok t (LX ht),fun H4 s4=>?_⟩
   exact bn.put hp' (fun _ _ _ _ r _=>r) (s3.trans s4) (s4 _ _ e3) l3 (by rw [Pe,Mf]; rfl)
  ·rintro p' acc H3 hp' s3 e3 rfl
   walk_at "rd"
   refine ⟨p',_,rfl,SqL.of e3,?_⟩
   rw [show ∀ n:Nat,(Mo n true).all id=true from fun n=>by simp]
   walk_at "rd"
   refine ⟨l,xs,ss,rfl,s3 _ _ e2,hx.keep s3.keep,by omega,fun p4 ys H4 s4 hp4 e4 y4=>?_⟩
   walk_at "rd"
   refine ⟨_,by omega,W + xs.length,p4,ys,_,rfl,(s2.trans s3).trans s4,e4,y4,fun t ht=>?_,rfl,by omega⟩
   obtain ⟨u,hu,ht⟩:=Uq.mp ht
   exact IS (hok u hu) t ht
 ·walk_at "rd"
  exact q _ s2
end
section
variable {K:Fg} {vs:List V} {H:Hp} {Q:VK} {E:XK}
noncomputable def jR (K:Fg):TS:=(ap (aE (tOp (rI (fun _ j=>0 < j) fun i j=>.int (i % j)) (av (bm K) [] E0 (aa (ac 0) (aa (ac 1) af))) (tC (.int 8))) (aj 3))
 (ap (bq (aX (tOp rEq (tOp (rI (fun _ j=>0 < j) fun i j=>.int (i % j)) (tOp (rI fm fun i j=>.int (i / j)) (av (bm K) [] E0 (aa (ac 0) (aa (ac 1) af))) (tC (.int 8))) (tC (.int 16))) (tC (.int 5)))) (aE (tOp (rI0 fun i j=>.int (i + j)) (tC (.int 8)) (tOp (rI (fun _ j=>0 < j) fun i j=>.int (i % j)) (tOp (rI fm fun i j=>.int (i / j)) (av (bm K) [] E0 (aa (ac 0) (aa (ac 1) af))) (tC (.int 128))) (tC (.int 5)))) (aj 3)) aZ)
 (ap (aE (fT af) (aj 4))
 (ap (cu (cD (aa (tOp (rI0 fun i j=>.int (i + j)) (tC (.int 1)) (tOp (rI (fun _ j=>0 < j) fun i j=>.int (i % j)) (av (bm K) [] E0 (aa (ac 0) (aa (tOp (rI0 fun i j=>.int (i + j)) (ac 1) (tC (.int 1))) af))) (tC (.int 5)))) af)) (aj 5) (ee (tBM K "list" iF (ac 4) (aa (tOp (rI (fun _ j=>0 < j) fun i j=>.int (i % j)) (av (bm K) [] E0 (aa (ac 0) (aa (tOp (rI0 fun i j=>.int (i + j)) (tOp (rI0 fun i j=>.int (i + j)) (ac 1) (tC (.int 2))) (ac 5)) af))) (tOp (rI0 fun i j=>.int (i + j)) (tCB CB (aa (tC (.int 4)) (aa (tOp (rI0 fun i j=>.int (i - j)) (ac 3) (tCB (tz K) (aa (ac 4) af))) af))) (tC (.int 1)))) af))))
 (ap (lf (aX (tOp (rI0 fun i j=>.bl (decide (j < i))) (av (hU K) [] E0 (aa (ac 3) (aa (ac 4) af))) (ac 2))) (ap (bq (aX (tOp (rI0 fun i j=>.bl (decide (j < i))) (tCB (wD K) (aa (ac 4) af)) (tOp (rI0 fun i j=>.int (i - j)) (ac 3) (tCB (tz K) (aa (ac 4) af))))) (aE (tOp (rI0 fun i j=>.int (i - j)) (tCB (wD K) (aa (ac 4) af)) (tC (.int 1))) (oq (ac 4) (tBM K "list" zK (ac 4) (aa (tCB (wD K) (aa (ac 4) af)) af)) kG)) aZ)
 (aE (tOp (rI0 fun i j=>.int (i - j)) (ac 3) (tC (.int 1))) (aj 3))))
 (aI (cG (aa (ac 3) (aa (ac 4) af)))))))))
theorem An (h:lp K vs H Q E):jR K { nx:=fun _ H'=>Q .non H',rt:=Q } (start ["_law_script","_law_at","_law_most","_law_cards","_law_sizes","_law_k"] vs) H:=by
 obtain ⟨a,ns,at_,most,rfl,hSc,ha0,ha1,hm,g⟩:=h
 show jR K _ [some _,some _,some _,none,none,none] _
 unfold jR
 refine bR ?_
 walk_at "rs"
 refine ⟨a,ns,at_,rfl,hSc,ha0,by omega,?_⟩
 walk_at "rs"
 refine kX fun NX hNX=>?_
 have key:∀ c:Nat,c<=12->NX [some (.ref a),some (.int at_),some (.int most),some (.int c),none,none] H:=by
  intro c hc
  refine hNX _ _ ?_
  refine bR ?_
  walk_at "rs"
  refine ⟨by simp [LP],fun q H1 hq s1 e1=>?_⟩
  walk_at "rs"
  refine kX fun NX hNX=>?_
  have hSc1:=hSc.same s1
  walk_at "rs"
  refine ⟨a,ns,at_ + 1,rfl,hSc1,by omega,by omega,?_⟩
  walk_at "rs"
  refine eG (1 + bE ns (at_ + 1) % 5).toNat rfl (by omega) (by omega) (fun i σ H2=>∃ (ss:List Nat) (st:Option V),σ=[some (.ref a),some (.int at_),some (.int most),some (.int c),some (.ref q),st]/\am H H2/\H2 q=some (.lst (au ss))/\ss.length=i/\ss.sum<=c) ⟨[],none,rfl,s1,e1,rfl,MI _⟩ ?_ ?_
  ·rintro i σ H2 hi ⟨ss,st,rfl,s2,e2,hl,hs⟩
   have hSc2:=hSc.same s2
   walk_at "rd"
   refine ⟨y6 e2,?_⟩
   walk_at "rd"
   refine ⟨a,ns,at_ + 2 + (i:Int),rfl,hSc2,by omega,by omega,?_⟩
   walk_at "rd"
   refine CC (ns:=ss.map fun (s:Nat)=>((s:Nat):Int)) (by rw [<-dJ]; exact SqL.of e2) ?_
   walk_at "rd"
   rw [iu]
   obtain ⟨lst,hlst,hlst2⟩:∃ l:Nat,(if (c:Int) - ((ss.sum:Nat):Int) < 4 then (c:Int) - ((ss.sum:Nat):Int) else 4)=(l:Int)/\l<=c - ss.sum:=by
    by_cases h:(c:Int) - ((ss.sum:Nat):Int) < 4
    ·exact ⟨c - ss.sum,by rw [if_pos h]; omega,LH _⟩
    ·exact ⟨4,by rw [if_neg h]; rfl,by omega⟩
   rw [hlst]
   walk_at "rd"
   obtain ⟨z,hz,hz2⟩:∃ z:Nat,bE ns (at_ + 2 + (i:Int)) % ((lst:Int) + 1)=(z:Int)/\z<=lst:=by
    have m1:=OB (bE ns (at_ + 2 + (i:Int))) (b:=(lst:Int) + 1) (by omega)
    have m2:=Of (bE ns (at_ + 2 + (i:Int))) (b:=(lst:Int) + 1) (by omega)
    exact ⟨(bE ns (at_ + 2 + (i:Int)) % ((lst:Int) + 1)).toNat,by omega,by omega⟩
   rw [hz]
   refine li e2 (by rw [bh,LP]; omega) fun H4 o4 e4=>?_
   rw [gi] at e4
   refine ⟨ss++[z],_,rfl,s2.off hq o4,e4,by rw [L7,hl]; rfl,?_⟩
   rw [Nn,Mi,Pa]
   omega
  ·rintro σ H2 ⟨ss,st,rfl,s2,e2,hl,hs⟩
   exact hNX _ _ (EY s2 hq e2 (by omega) (by omega) hs hc hm g)
 walk_at "rs"
 refine ⟨a,ns,at_,rfl,hSc,ha0,by omega,?_⟩
 walk_at "rs"
 refine bZ (fun hb=>?_) (fun hb=>?_)
 ·walk_at "rs"
  refine ⟨a,ns,at_,rfl,hSc,ha0,by omega,?_⟩
  walk_at "rs"
  have:=key (8 + bE ns at_ / 128 % 5).toNat (by omega)
  rw [show (((8 + bE ns at_ / 128 % 5).toNat:Nat):Int)=8 + bE ns at_ / 128 % 5 by omega] at this
  exact this
 ·walk_at "rs"
  have:=key (bE ns at_ % 8).toNat (by omega)
  rw [show (((bE ns at_ % 8).toNat:Nat):Int)=bE ns at_ % 8 by omega] at this
  exact this
end
theorem bn.putW {H H4:Hp} {p:Addr} {R:Nat->List V->Hp->Prop} {i:Nat} {acc:List V} {y:V} (hp:H p=none) (s:am H H4) (e:H4 p=some (.lst acc)) (l:acc.length<=i) (r:∀ H6,Off p H4 H6->R (i + 1) (acc++[y]) H6):
  H4 p=some (.lst acc)/\bn H p R (i + 1) (acc++[y]) (upd H4 p (.lst (acc++[y]))):=
 ⟨e,s.upd hp _,aA,by rw [L7]; exact SQ l 1,r _ iG⟩
section
variable {g:CF TG} {tt:CF TT} {te:CF TE} {σ₀:St} {Q:VK} {H:Hp} {K:Fg}
theorem qK {j:Int} (n:Nat) (hn:j.toNat=n) (hj:j<=1000000) (hj0:-1000000<=j) (R:Addr->Nat->List V->Hp->Prop) (h0:∀ p H',am H H'->R p 0 [] H')
  (hs:∀ p,H p=none->∀ C s' H' fp,∀ i acc H2,i < n->bn H p (R p) i acc H2->g C s' H' fp (.int i) σ₀ H2 fun σ2 H3=>tt C s' H' fp σ2 H3 fun b H4=>if b=true then te C s' H' fp σ2 H4 fun y H5=>H5 p=some (.lst acc)/\bn H p (R p) (i + 1) (acc++[y]) (upd H5 p (.lst (acc++[y]))) else bn H p (R p) (i + 1) acc H4)
  (hd:∀ p acc H2,H p=none->am H H2->H2 p=some (.lst acc)->R p n acc H2->Q (.ref p) H2):
  ∃ j':Int,[V.int j]=[.int j']/\-(2 ^ 62)<=j'/\j' < 2 ^ 62/\∀ p,H p=none->∃ W:Nat->Nat->List V->Hp->Prop,(∃ m,W 0 m [] (upd H p (.lst [])))/\∀ C s' H' fp,cK (Itr 0 j'.toNat) (g C s' H' fp) (tt C s' H' fp) (te C s' H' fp) σ₀ p Q W:=by
 refine ⟨j,rfl,by omega,by omega,fun p hp=>?_⟩
 subst hn
 exact oB (lo:=0) (bn H p (R p)) ⟨ba hp _,aA,LH _,h0 _ _ (ba hp _)⟩ (fun i acc H2 _ c=>⟨c.2.1,c.2.2.1⟩) (by rw [LP]; omega) (fun C s' H' fp i acc H2 hi c=>by rw [RH]; exact hs p hp C s' H' fp i acc H2 hi c) fun acc H2 c=>hd p acc H2 hp c.1 c.2.1 c.2.2.2
end
section
open PySem.Spec
theorem b8.units64 {k:Nat} {A:Around} (r:b8 k A):A.units + 64 < cLine:=by have:=r.un; omega
section
variable {X:Cx}
theorem OpR.weak {f:Value->Value->Sem Value} {r r':R2} (h:OpR X f r) (w:∀ x y H Q,r' x y H Q->r x y H Q):OpR X f r':=fun pins s σ H x y v u Q I rx ry q=>h pins s σ H x y v u Q I rx ry (w x y H Q q)
theorem dc.weak {f:Value} {r r':List V->Hp->VK->Prop} (h:dc X f r) (w:∀ xs H Q,r' xs H Q->r xs H Q):dc X f r':=fun pins s σ H xs us Q I rx q=>h pins s σ H xs us Q I rx (w xs H Q q)
theorem qL:OpR X (OD .Add) tD:=Es.weak fun _ _ _ _ ⟨l,b,xs,zs,e1,e2,h1,h2,hz,q⟩=>⟨l,b,xs,zs,e1,e2,h1,h2,hz,q.upd⟩
theorem Ao:OpR X (OD .Mult) CD:=JM.weak fun _ _ _ _ ⟨l,k,xs,e1,e2,h1,h2,h3,hz,q⟩=>⟨l,k,xs,e1,e2,h1,h2,h3,hz,q.upd⟩
theorem jy:dc X (.type "list") (iM X.K):=zD.weak fun _ _ _ ⟨p,ys,e,h,q⟩=>⟨p,ys,e,h,q.upd⟩
theorem Gz:dc X (.type "tuple") (wE X.K):=pH.weak fun _ _ _ ⟨p,ys,e,h,q⟩=>⟨p,ys,e,.inl ⟨h,q.upd⟩⟩
end
section
variable {X:Cx} {es:List Expr} {t:TA} {pos:Pos}
theorem bP {x1} (h:PA X es t):PE X (.Tuple es x1 pos) (cG t):=by
 intro pins s σ H Q I hq
 refine S4 (thn (h pos pins s σ H _ I hq) fun us s1 ⟨xs,H1,I1,r,z,q⟩=>⟨by rw [<-r.length]; exact z,?_⟩)
 have hf:H1 s1.heap.objs.size=none:=I1.hok.fresh (LH _)
 refine ⟨.ref s1.heap.objs.size,upd H1 s1.heap.objs.size (.tup xs),I1.laid (t':=s1.toks) (fun b u e=>LB _ e) (LH _) ?_,rfl,q.upd _ hf⟩
 exact ⟨z,us,r,eQ.new _ _⟩
theorem dE (h:PA X es t):PE X (.List es pos) (fT t):=by
 intro pins s σ H Q I hq
 refine To (thn (h pos pins s σ H _ I hq) fun us s1 ⟨xs,H1,I1,r,z,q⟩=>⟨by rw [<-r.length]; exact z,?_⟩)
 have hf:H1 s1.heap.objs.size=none:=I1.hok.fresh (LH _)
 refine ⟨.ref s1.heap.objs.size,upd H1 s1.heap.objs.size (.lst xs),I1.laid (t':=s1.toks) (fun b u e=>LB _ e) (LH _) ?_,rfl,q.upd _ hf⟩
 exact ⟨z,us,0,r,LL _ rfl⟩
end
section
variable {X:Cx} {es:List Expr} {te:TE} {t:TA}
theorem ar {v:Const} {j:Nat} {p:Pos} (ha:PE X (.Constant v j p) te) (hr:PA X es t):PA X (.Constant v j p :: es) (aa te t):=gz ha hr rfl
theorem ad {x:Str} {p:Pos} (ha:PE X (.Name x p) te) (hr:PA X es t):PA X (.Name x p :: es) (aa te t):=gz ha hr rfl
theorem aG {a b:Expr} {o:Operator} {p:Pos} (ha:PE X (.BinOp a o b p) te) (hr:PA X es t):PA X (.BinOp a o b p :: es) (aa te t):=gz ha hr rfl
theorem aQ {f:Expr} {as:List Expr} {ks:List Keyword} {p:Pos} (ha:PE X (.Call f as ks p) te) (hr:PA X es t):PA X (.Call f as ks p :: es) (aa te t):=gz ha hr rfl
theorem bj {as:List Expr} {k:Nat} {p:Pos} (ha:PE X (.Tuple as k p) te) (hr:PA X es t):PA X (.Tuple as k p :: es) (aa te t):=gz ha hr rfl
theorem aP {a b:Expr} {p:Pos} (ha:PE X (.Subscript a b p) te) (hr:PA X es t):PA X (.Subscript a b p :: es) (aa te t):=gz ha hr rfl
theorem Bw {a:Expr} {os:List CmpOp} {bs:List Expr} {p:Pos} (ha:PE X (.Compare a os bs p) te) (hr:PA X es t):PA X (.Compare a os bs p :: es) (aa te t):=gz ha hr rfl
theorem ca {e:Expr} (ha:PE X e te) (hr:PA X es t) (hs:L9 (e :: es) X.env=(false,eval e X.env) :: L9 es X.env:=by rfl):PA X (e :: es) (aa te t):=gz ha hr hs
structure ah (N:List Str) (sc:Scope) (i:Nat) (x:Str):Prop where
 n:N[i]?=some x
 v:Vis sc x
 d:(x == ("__debug__":Str))=false
 c:(x == ("__classdict__":Str))=false
theorem pvQ {N:List Str} {sc:Scope} {i:Nat} {x:Str} {pos:Pos} (h:ah N sc i x) (hN:X.N=N) (hS:X.env.scope=sc):PE X (.Name x pos) (ac i):=by
 subst hN hS
 exact Eb h.n h.v h.d h.c
end
end
section
open PySem.Spec
theorem Ap {X:Cx}:SlR X (zN X.K):=fun pins s σ H x v vl vu lo hi sl Q I rx hs pl pu ⟨a,xs,e,h,n,q⟩=>JJ pins s σ H x v vl vu lo hi sl Q I rx hs pl pu ⟨a,xs,e,h,n,q.upd⟩
noncomputable def uZ (P:Program) (w:World) (K:Fg) (a:Addr) (kvs:List (Str×V)):Prop:=
 (a == NG)=false/\∃ (o:Obj) (es:Array Th) (ep:Nat) (vs:List (Key×Value)),K.lookup a=some o/\o.ExactDict/\o.data=.dict es ep/\KeysOf (iE P w) es/\Pairs (iE P w) es.toList vs/\(vs.map (·.1)).Nodup/\
  Paired (fun (p:Str×V) (q:Key×Value)=>q.1=.inr p.1/\aJ p.2 q.2) kvs vs
theorem kg {k:Str} {v:V}:∀ {kvs:List (Str×V)} {vs:List (Key×Value)},Paired (fun (p:Str×V) (q:Key×Value)=>q.1=.inr p.1/\aJ p.2 q.2) kvs vs->kvs.lookup k=some v->∃ u,valueAt vs (.inr k)=some u/\aJ v u
 | _,_,.nil,h=>by cases h
 | _,_,.cons (a:=p) (b:=q) r t,h=>by
  obtain ⟨x,y⟩:=p
  obtain ⟨kq,u⟩:=q
  obtain ⟨r1,r2⟩:=r
  simp only at r1 r2
  subst r1
  rw [M4] at h
  unfold valueAt
  rw [Ms]
  by_cases e:k=x
  ·subst e
   rw [beq_self_eq_true] at h
   cases h
   rw [show decide ((NA k:Key)=NA k)=true from decide_eq_true rfl]
   exact ⟨u,rfl,r2⟩
  ·rw [show (k == x)=false from beq_eq_false_iff_ne.mpr e] at h
   rw [show decide ((NA x:Key)=NA k)=false from decide_eq_false fun z=>e (Pk z).symm]
   exact kg t h
section
variable {X:Cx} {o i:Expr} {pos:Pos} {td ty:TE} {a:Addr} {kvs:List (Str×V)}
theorem uZ.of {pins:List (Addr×Obj)} {σ:St} {H:Hp} {s:Shared} (D:uZ X.prog X.w X.K a kvs) (I:Inv X pins σ H s):∃ vs,s.heap.DictOf (iE X.prog X.w) a vs/\Paired (fun (p:Str×V) (q:Key×Value)=>q.1=.inr p.1/\aJ p.2 q.2) kvs vs:=by
 obtain ⟨_,o,es,ep,vs,lk,ex,hd,hk,hp,nd,rel⟩:=D
 exact ⟨vs,⟨o,es,ep,I.kIn a o lk,ex,hd,hk,hp,nd⟩,rel⟩
theorem Fd (D:uZ X.prog X.w X.K a kvs) (ho:PE X o td) (hi:PE X i ty) (hs:Ga i):PE X (.Subscript o i pos) (tOp (CH kvs a) td ty):=by
 intro pins s σ H Q I h
 refine BW Rt.lookup hs (thn (ho pins s σ H _ I h) fun u s1 ⟨x,H1,I1,rx,q1⟩=>thn (hi pins s1 σ H1 _ I1 q1) fun iv s2 ⟨y,H2,I2,ry,ex,k,v,ey,el,q2⟩=>?_)
 subst ex ey
 obtain rfl:u=Mh a:=rx
 obtain ⟨vs,dd,rel⟩:=D.of I2
 obtain ⟨w',hw,rw'⟩:=kg rel el
 exact ⟨dd.typeIs,Us (HL (k:=.inr k) ry) dd.mapOf hw ⟨v,H2,I2.tok _,rw',q2⟩⟩
theorem sI {k:Str}:∀ {kvs:List (Str×V)} {vs:List (Key×Value)},Paired (fun (p:Str×V) (q:Key×Value)=>q.1=.inr p.1/\aJ p.2 q.2) kvs vs->kvs.lookup k=none->valueAt vs (.inr k)=none
 | _,_,.nil,_=>rfl
 | _,_,.cons (a:=p) (b:=q) r t,h=>by
  obtain ⟨x,y⟩:=p
  obtain ⟨kq,u⟩:=q
  obtain ⟨r1,r2⟩:=r
  simp only at r1 r2
  subst r1
  rw [M4] at h
  unfold valueAt
  rw [Ms]
  by_cases e:k=x
  ·subst e
   rw [beq_self_eq_true] at h
   cases h
  ·rw [show (k == x)=false from beq_eq_false_iff_ne.mpr e] at h
   rw [show decide ((NA x:Key)=NA k)=false from decide_eq_false fun z=>e (Pk z).symm]
   exact sI t h
theorem Aq (D:uZ X.prog X.w X.K a kvs):OpR X (NC .NotIn) (zO kvs a true):=by
 intro pins s σ H x y v u Q I rx ry h
 obtain ⟨rfl,k,rfl,q⟩:=h
 obtain rfl:u=Mh a:=ry
 obtain ⟨vs,dd,rel⟩:=D.of I
 refine wpAny_notIn_of (HL (k:=.inr k) rx) D.1 dd.mapOf ?_
 refine ⟨.bl (!(kvs.lookup k).isSome),H,I.tok _,?_,q⟩
 cases e:kvs.lookup k with
 | none=>rw [sI rel e]; rfl
 | some v'=>
  obtain ⟨w',hw,_⟩:=kg rel e
  rw [hw]
  rfl
end
end
section
open PySem.Spec
structure GB (P:Program) (w:World) (K:Fg) (mg:Str->Option Value) (G:Glo):Prop where
 ok:uM K G
 mf:mg "FORMS"=some (.ref G.forms)
 df:uZ P w K G.forms G.kvs
theorem iI {K:Fg} {a:Addr} {od:Option Addr} {its:Array Value} {n:Nat} {sl:Array (Option Value)} (l:K.lookup a=some ⟨.type "tuple",od,.seq its n,sl⟩) (xs:List V) (hz:its.size<=LS) (r:aH xs its.toList):ke K a xs:=⟨_,its,n,l,rfl,rfl,hz,r⟩
theorem IT {P:Program} {w:World} {K:Fg} {mg:Str->Option Value} {aF aC f1 f2 f3 f4 f5 f6 f7 f8:Addr} {k1 k2 k3 k4 k5 k6 k7 k8 u1 u2 u3 u4 u5 u6 u7 u8 u9 ua ub uc ud ue:Tok} {ep n1 n2 n3 n4 n5 n6 n7 n8:Nat} {o1 o2 o3 o4 o5 o6 o7 o8:Option Addr} {s1 s2 s3 s4 s5 s6 s7 s8:Array (Option Value)}
  (nF:(aF == NG)=false) (mf:mg "FORMS"=some (.ref aF))
  (lF:K.lookup aF=some ⟨.type "dict",none,.dict #[⟨MU w.params "holds",.str "holds" k1,.ref f1⟩,⟨MU w.params "not",.str "not" k2,.ref f2⟩,⟨MU w.params "and",.str "and" k3,.ref f3⟩,⟨MU w.params "or",.str "or" k4,.ref f4⟩,
   ⟨MU w.params "knows",.str "knows" k5,.ref f5⟩,⟨MU w.params "all",.str "all" k6,.ref f6⟩,⟨MU w.params "common",.str "common" k7,.ref f7⟩,⟨MU w.params "sees",.str "sees" k8,.ref f8⟩] ep,#[]⟩)
  (l1:K.lookup f1=some ⟨.type "tuple",o1,.seq #[.str "holder" u1,.str "card" u2] n1,s1⟩) (l2:K.lookup f2=some ⟨.type "tuple",o2,.seq #[.str "saying" u3] n2,s2⟩) (l3:K.lookup f3=some ⟨.type "tuple",o3,.seq #[.str "saying" u4,.str "saying" u5] n3,s3⟩) (l4:K.lookup f4=some ⟨.type "tuple",o4,.seq #[.str "saying" u6,.str "saying" u7] n4,s4⟩)
  (l5:K.lookup f5=some ⟨.type "tuple",o5,.seq #[.str "hand" u8,.str "saying" u9] n5,s5⟩) (l6:K.lookup f6=some ⟨.type "tuple",o6,.seq #[.str "hands" ua,.str "saying" ub] n6,s6⟩) (l7:K.lookup f7=some ⟨.type "tuple",o7,.seq #[.str "hands" uc,.str "saying" ud] n7,s7⟩) (l8:K.lookup f8=some ⟨.type "tuple",o8,.seq #[.str "hand" ue] n8,s8⟩)
  : GB P w K mg ⟨aF,aC,f1,f2,f3,f4,f5,f6,f7,f8⟩ where
 mf:=mf
 ok:=⟨iI l1 _ (by show 2<=LS; decide) (.cons ⟨_,rfl⟩ (.cons ⟨_,rfl⟩ .nil)),iI l2 _ (by show 1<=LS; decide) (.cons ⟨_,rfl⟩ .nil),iI l3 _ (by show 2<=LS; decide) (.cons ⟨_,rfl⟩ (.cons ⟨_,rfl⟩ .nil)),iI l4 _ (by show 2<=LS; decide) (.cons ⟨_,rfl⟩ (.cons ⟨_,rfl⟩ .nil)),
  iI l5 _ (by show 2<=LS; decide) (.cons ⟨_,rfl⟩ (.cons ⟨_,rfl⟩ .nil)),iI l6 _ (by show 2<=LS; decide) (.cons ⟨_,rfl⟩ (.cons ⟨_,rfl⟩ .nil)),iI l7 _ (by show 2<=LS; decide) (.cons ⟨_,rfl⟩ (.cons ⟨_,rfl⟩ .nil)),iI l8 _ (by show 1<=LS; decide) (.cons ⟨_,rfl⟩ .nil)⟩
 df:=by
  refine ⟨nF,_,_,_,[(.inr "holds",.ref f1),(.inr "not",.ref f2),(.inr "and",.ref f3),(.inr "or",.ref f4),(.inr "knows",.ref f5),(.inr "all",.ref f6),(.inr "common",.ref f7),(.inr "sees",.ref f8)],lF,⟨rfl,rfl,rfl⟩,rfl,?_,?_,?_,?_⟩
  ·intro e he
   simp only [List.mem_toArray,Array.mem_def,LI,MQ,or_false] at he
   rcases he with rfl | rfl | rfl | rfl | rfl | rfl | rfl | rfl
   ·exact ⟨.inr "holds",bo P w _ _,rfl⟩
   ·exact ⟨.inr "not",bo P w _ _,rfl⟩
   ·exact ⟨.inr "and",bo P w _ _,rfl⟩
   ·exact ⟨.inr "or",bo P w _ _,rfl⟩
   ·exact ⟨.inr "knows",bo P w _ _,rfl⟩
   ·exact ⟨.inr "all",bo P w _ _,rfl⟩
   ·exact ⟨.inr "common",bo P w _ _,rfl⟩
   ·exact ⟨.inr "sees",bo P w _ _,rfl⟩
  ·exact .cons (bo P w _ _) rfl (.cons (bo P w _ _) rfl (.cons (bo P w _ _) rfl (.cons (bo P w _ _) rfl (.cons (bo P w _ _) rfl (.cons (bo P w _ _) rfl (.cons (bo P w _ _) rfl (.cons (bo P w _ _) rfl .nil)))))))
  ·show ([.inr "holds",.inr "not",.inr "and",.inr "or",.inr "knows",.inr "all",.inr "common",.inr "sees"]:List Key).Nodup
   decide +kernel
  ·exact .cons ⟨rfl,rfl⟩ (.cons ⟨rfl,rfl⟩ (.cons ⟨rfl,rfl⟩ (.cons ⟨rfl,rfl⟩ (.cons ⟨rfl,rfl⟩ (.cons ⟨rfl,rfl⟩ (.cons ⟨rfl,rfl⟩ (.cons ⟨rfl,rfl⟩ .nil)))))))
end
section
open PySem.Spec
section
variable {P:Program} {w:World} {K:Fg} {mg:Str->Option Value} {base:Heap} {N:List Str} {qual:Str} {scope:Scope} {f:Addr} {cd:Value} {A:Around} {outer:List Env} {s:Shared} {H:Hp} {E:XK}
end
end
section
open PySem.Spec
section
variable {X:Cx} {pins:List (Addr×Obj)} {σ:St} {H:Hp} {s:Shared} {B h':Heap}
end
section
variable {X:Cx} {pins pn pins':List (Addr×Obj)} {σ:St} {H:Hp} {s:Shared} {B:Heap} {E:Value->Shared->Prop} {a:Addr}
end
end
section
open PySem.Spec PySem.W
section
variable {prog:Program} {w:World} {A:Around} {E:Value->Shared->Prop} {h:Heap} {g:Array SD} {d:Drawn} {t:Nat} {os:OsState} {a:Addr} {o:Obj} {C:Addr} {K:Frag}
end
end
section
open PySem.Spec PySem.W
end
section
open PySem.Spec PySem.W
section
variable {P:Program} {w:World} {K:Frag} {mg:Str->Option Value} {base:Heap} {k:Nat} {f:Addr} {fd:L6} {ps:List Str}
end
end
section
open PySem.Spec PySem.W
section
variable {P:Program} {w:World} {K:Frag} {mg:Str->Option Value} {base:Heap}
noncomputable def FnM (P:Program) (w:World) (K:Frag) (mg:Str->Option Value) (base:Heap) (k:Nat) (C:Addr) (m:Str) (ps:List Str) (sp:Sp):Prop:=
 ∃ f fd,gT P w K mg base CX0 k f fd ps sp/\zy K C m f/\fq K fd ps []
structure iB (K:Frag) (C:Addr) (m qual:Str) (st:Stmt) (ps:List Str) (f:Addr) (fd:L6):Prop where
 fn:Fun K m qual st f fd
 mt:zy K C m f
 b:fq K fd ps []
theorem iB.ok {C:Addr} {m qual:Str} {st:Stmt} {N ps:List Str} {f:Addr} {fd:L6} {k:Nat} {sp:Sp} (D:iB K C m qual st ps f fd) (S:aB N ps (ab st)) (len:∀ vs H Q E,sp vs H Q E->vs.length=ps.length)
  (hbody:∀ (cdv:Value) (A:Around) (outer:List Env) (s:Shared) (H:Hp) (vs:List V) (Q:VK) (E:XK),b8 k (A.deeper (envOfC qual (ab st) s.heap.objs.size f cdv))->sp vs H Q E->
   ∃ t,PSs (ow CX0 P w K mg base N qual (ab st) f cdv A outer s H E).nox (eS st) t/\t { nx:=fun _ H'=>Q .non H',rt:=Q } (start N vs) H):FnM P w K mg base (k + 1) C m ps sp:=
 ⟨f,fd,D.fn.ok S len hbody,D.mt,D.b⟩
noncomputable def FnI (P:Program) (w:World) (K:Frag) (mg:Str->Option Value) (base:Heap) (k:Nat) (C:Addr) (ps:List Str) (sp:Sp):Prop:=
 ∃ f fd,gT P w K mg base CX0 k f fd ps sp/\Mk K C f/\fq K fd ps []
structure Ar (K:Frag) (C:Addr) (qual:Str) (st:Stmt) (ps:List Str) (f:Addr) (fd:L6):Prop where
 fn:Fun K "__init__" qual st f fd
 made:Mk K C f
 b:fq K fd ps []
theorem Ar.ok {C:Addr} {qual:Str} {st:Stmt} {N ps:List Str} {f:Addr} {fd:L6} {k:Nat} {sp:Sp} (D:Ar K C qual st ps f fd) (S:aB N ps (ab st)) (len:∀ vs H Q E,sp vs H Q E->vs.length=ps.length)
  (hbody:∀ (cdv:Value) (A:Around) (outer:List Env) (s:Shared) (H:Hp) (vs:List V) (Q:VK) (E:XK),b8 k (A.deeper (envOfC qual (ab st) s.heap.objs.size f cdv))->sp vs H Q E->
   ∃ t,PSs (ow CX0 P w K mg base N qual (ab st) f cdv A outer s H E).nox (eS st) t/\t { nx:=fun _ H'=>Q .non H',rt:=Q } (start N vs) H):FnI P w K mg base (k + 1) C ps sp:=
 ⟨f,fd,D.fn.ok S len hbody,D.made,D.b⟩
end
section
variable {X:Cx} {k:Nat} {C:Addr} {m:Str} {ps:List Str} {sp:Sp} {p pos apos:Pos} {o e:Expr} {es:List Expr} {ta:TE} {t:TA}
theorem be {a:Expr} {f:Str} {p:Pos} {te:TE} (ha:PE X (.Attribute a f p) te) (hr:PA X es t):PA X (.Attribute a f p :: es) (aa te t):=gz ha hr rfl
theorem dU {pl:Sem Bool} (F:FnM X.prog X.w X.K X.mg X.base k C m ps sp) (hr:b8 k X.A) (c:Cls X.K C) (he:PE X o ta) (ha:PA X (e :: es) t)
  (hst:L9 (e :: es) X.env=(false,eval e X.env) :: L9 es X.env:=by rfl) (hpl:(backTo pos (L9 es X.env)).any (·.1)=false:=by rfl)
  (ht:eval (.Call (.Attribute o m apos) (e :: es) [] pos) X.env=(do
   let ov <-eval o X.env
   standAt apos.atName
   let (f,first) <-holding [ov] (QR ov m pl)
   Ug pos f first (backTo pos (L9 (e :: es) X.env)) (Pc pos (Ow [] X.env))):=by rfl):
  PE X (.Call (.Attribute o m apos) (e :: es) [] pos) (ek C m sp [] E0 ta t):=by
 obtain ⟨f,fd,ok,mt,b⟩:=F
 exact Ie he c mt ok hr b .nil yZ ha hst hpl ht
theorem Fe {pl:Sem Bool} (F:FnM X.prog X.w X.K X.mg X.base k C m ps sp) (hr:b8 k X.A) (c:Cls X.K C) (he:PE X o ta)
  (ht:eval (.Call (.Attribute o m apos) [] [] pos) X.env=(do
   let ov <-eval o X.env
   standAt apos.atName
   let (f,first) <-holding [ov] (QR ov m pl)
   Ug pos f first (backTo pos (L9 [] X.env)) (Pc pos (Ow [] X.env))):=by rfl):
  PE X (.Call (.Attribute o m apos) [] [] pos) (ek C m sp [] E0 ta af):=by
 obtain ⟨f,fd,ok,mt,b⟩:=F
 exact FV he c mt ok hr b .nil yZ ht
theorem As {x:Str} (F:FnI X.prog X.w X.K X.mg X.base k C ps sp) (hr:b8 (k + 1) X.A) (hm:X.mg x=some (.ref C)) (ha:PA X (e :: es) t) (hg:Gl X x:=by rfl)
  (hdb:(x == ("__debug__":Str))=false:=by decide) (he:L9 (e :: es) X.env=(false,eval e X.env) :: L9 es X.env:=by rfl) (hpl:(backTo pos (L9 es X.env)).any (·.1)=false:=by rfl):
  PE X (.Call (.Name x p) (e :: es) [] pos) (uk C sp [] E0 t):=by
 obtain ⟨f,fd,ok,mk,b⟩:=F
 exact Ig mk ok hr hg hm b .nil yZ ha hdb he hpl
end
end
section
open PySem.Spec PySem.W
structure oT (K:Frag) (C:Addr):Prop where
 cl:Cls K C
 n1:eh K C "dealt"
 n2:eh K C "cards"
 n3:eh K C "sizes"
 n4:eh K C "hands"
 n5:eh K C "views"
 n6:eh K C "deeds"
set_option genInjectivity false in
structure GF extends Glo where
 Table:Addr
structure dF (P:Program) (w:World) (K:Frag) (mg:Str->Option Value) (G:GF):Prop where
 tb:GB P w K mg G.toGlo
 m_Table:mg "Table"=some (.ref G.Table)
 ct:oT K G.Table
theorem dF.cl_Table {P:Program} {w:World} {K:Frag} {mg:Str->Option Value} {G:GF} (T:dF P w K mg G):Cls K G.Table:=T.ct.cl
theorem GC {P:Program} {w:World} {K:Frag} {mg:Str->Option Value} {G:Glo} {aT:Addr} (t:GB P w K mg G) (m:mg "Table"=some (.ref aT)) (pg:plainGet K aT US=true) (hd:hasDictIn K aT=true) (po:plainOver K aT=true) (sa:findIn K (.ref aT) "__setattr__"=some (some (.builtin "object.__setattr__")))
  (n1:findIn K (.ref aT) "dealt"=some none) (n2:findIn K (.ref aT) "cards"=some none) (n3:findIn K (.ref aT) "sizes"=some none) (n4:findIn K (.ref aT) "hands"=some none) (n5:findIn K (.ref aT) "views"=some none) (n6:findIn K (.ref aT) "deeds"=some none):dF P w K mg ⟨G,aT⟩:=
 ⟨t,m,⟨⟨pg,hd,po,sa⟩,n1,n2,n3,n4,n5,n6⟩⟩
end
end L2
section
namespace L2
open PySem
end L2
end
section
namespace L2
open PySem
noncomputable def tJ (K:Fg) (t:TA):TE:=fun σ H Q=>t σ H fun xs H1=>∃ (p:Addr) (ns:List Int),xs=[.ref p]/\SqL K H1 p (ns.map V.int)/\ns.length < 64/\
 ∀ (q:Addr) (H':Hp) (ms:List Int),H1 q=none->am H1 H'->H' q=some (.lst (ms.map V.int))->ms.Pairwise (· < ·)->(∀ y,y∈ms↔y∈ns)->Q (.ref q) H'
theorem Ff {K:Fg} {t:TA} {σ:St} {H:Hp} {Q:VK} (h:t σ H fun xs H1=>∃ (p:Addr) (ns:List Int),xs=[.ref p]/\SqL K H1 p (ns.map V.int)/\ns.length < 64/\
 ∀ (q:Addr) (H':Hp) (ms:List Int),H1 q=none->am H1 H'->H' q=some (.lst (ms.map V.int))->ms.Pairwise (· < ·)->(∀ y,y∈ms↔y∈ns)->Q (.ref q) H'):tJ K t σ H Q:=h
theorem At {α:Type} [DecidableEq α]:∀ {l m:List α},l.Nodup->(∀ x∈l,x∈m)->l.length<=m.length
 | [],m,_,_=>MI _
 | x :: l,m,nd,h=>by
  have hx:x∈m:=h x LK
  obtain ⟨n1,n2⟩:=Ol.mp nd
  have:=At (m:=m.erase x) n2 fun y hy=>(List.mem_erase_of_ne (fun e:y=x=>n1 (e ▸ hy))).mpr (h y (LQ _ hy))
  rw [List.length_erase_of_mem hx] at this
  have:=List.length_pos_of_mem hx
  rw [Ml]
  omega
end L2
end
namespace L2
open PySem PyProof.Rows
noncomputable def isN:V->Bool
 | .non=>true
 | _=>false
noncomputable def wM:R2:=fun x y H Q=>y=.non/\Q (.bl (isN x)) H
theorem GD {x:V} {H:Hp} {Q:VK} (h:Q (.bl (isN x)) H):wM x .non H Q:=⟨rfl,h⟩
noncomputable def zc (K:Fg) (ta:TA):TE:=fun σ H Q=>ta σ H fun vs H1=>∃ (p:Addr) (ns:List Int),vs=[.ref p]/\SqL K H1 p (ns.map V.int)/\(ns=[]->Q .non H1)/\∀ M,M∈ns->(∀ a∈ns,M<=a)->Q (.int M) H1
theorem Ko {K:Fg} {ta:TA} {σ:St} {H:Hp} {Q:VK} (h:ta σ H fun vs H1=>∃ (p:Addr) (ns:List Int),vs=[.ref p]/\SqL K H1 p (ns.map V.int)/\(ns=[]->Q .non H1)/\∀ M,M∈ns->(∀ a∈ns,M<=a)->Q (.int M) H1):zc K ta σ H Q:=h
noncomputable def GE (P:Hp->V->Prop) (σ:St) (H0:Hp) (te:TE):Prop:=∀ H,am H0 H->∀ Q:VK,(∀ x H',am H H'->P H' x->Q x H')->te σ H Q
noncomputable def GA (P:Hp->V->Prop) (σ:St) (H0:Hp) (n:Nat) (ta:TA):Prop:=∀ H,am H0 H->∀ R:List V->Hp->Prop,(∀ xs H',am H H'->xs.length=n->(∀ x∈xs,P H' x)->R xs H')->ta σ H R
theorem GA.nil {P:Hp->V->Prop} {σ:St} {H0:Hp}:GA P σ H0 0 af:=fun H s R q=>HI (q [] H (am.refl _) rfl fun _ h=>(nomatch h))
theorem GA.cons {P:Hp->V->Prop} (st:∀ H H' x,am H H'->P H x->P H' x) {σ:St} {H0:Hp} {n:Nat} {te:TE} {tr:TA} (b:GE P σ H0 te) (t:GA P σ H0 n tr):GA P σ H0 (n + 1) (aa te tr):=fun H s R q=>
 EG (b H s _ fun x H1 s1 px=>t H1 (s.trans s1) _ fun xs H2 s2 hl hb=>q (x :: xs) H2 (s1.trans s2) (by rw [Ml,hl]) fun y hy=>by
  rcases LI.mp hy with rfl | hy
  ·exact st _ _ _ s2 px
  ·exact hb y hy)
theorem qM {P:Hp->V->Prop} (st:∀ H H' x,am H H'->P H x->P H' x) {σ:St} {H0 H:Hp} {n:Nat} {ta:TA} {R:List V->Hp->Prop} (s:am H0 H) (b:GA P σ H0 n ta) (q:∀ xs H',am H H'->xs.length=n->(∀ x∈xs,P H' x)->R xs H'):ta σ H R:=b H s R q
theorem mw (z:Int) {m:Int} (h:0 < m):∃ k:Nat,z % m=(k:Int)/\(k:Int) < m:=by
 have m1:=OB z (b:=m) (by omega)
 have m2:=Of z h
 exact ⟨(z % m).toNat,by omega,by omega⟩
section
variable {K:Fg} {vs:List V} {H:Hp} {Q:VK} {E:XK}
noncomputable def dw (_:Fg):Sp:=fun vs H Q _=>∃ (z:Int) (h:Nat),vs=[.int z,.int h]/\h<=5/\∀ (p:Addr) (g:List Nat) (H':Hp),am H H'->H' p=some (.tup (au g))->g.Pairwise (· < ·)->(∀ k∈g,k < h)->Q (.ref p) H'
noncomputable def iV (K:Fg):TS:=(aI (tCB (wE K) (aa (bT (cD (aa (ac 1) af)) (fun _ _ _ _=>(aj 0)) (fun _ _ _ _=>(aX (tOp rEq (tOp (rI (fun _ j=>0 < j) fun i j=>.int (i % j)) (tOp (rI fm fun i j=>.int (i / j)) (ac 1) (tOp (bY K) (fT (aa (tC (.int 1)) (aa (tC (.int 2)) (aa (tC (.int 4)) (aa (tC (.int 8)) (aa (tC (.int 16)) af)))))) (ac 0))) (tC (.int 2))) (tC (.int 1))))) (fun _ _ _ _=>(ac 0)) [none,some 0]) af)))
theorem at5 {i:Nat} (h:i < 5):∃ v:Int,atI [V.int 1,V.int 2,V.int 4,V.int 8,V.int 16] (i:Int)=some (.int v)/\0 < v/\v<=16:=by
 match i,h with
 | 0,_=>exact ⟨1,rfl,by decide,by decide⟩
 | 1,_=>exact ⟨2,rfl,by decide,by decide⟩
 | 2,_=>exact ⟨4,rfl,by decide,by decide⟩
 | 3,_=>exact ⟨8,rfl,by decide,by decide⟩
 | 4,_=>exact ⟨16,rfl,by decide,by decide⟩
theorem yl (h:dw K vs H Q E):iV K { nx:=fun _ H'=>Q .non H',rt:=Q } (start ["_law_number","_law_hands"] vs) H:=by
 obtain ⟨z,h,rfl,h5,q⟩:=h
 show iV K _ [some _,some _] _
 unfold iV
 walk_at "rd"
 refine oE h (by omega) (by omega) (by omega) (fun i acc _=>∃ g:List Nat,acc=au g/\g.Pairwise (· < ·)/\∀ k∈g,k < i) (fun _ _=>⟨[],rfl,.nil,fun _ h=>(nomatch h)⟩) ?_ ?_
 ·rintro p hp C s' H' fp i acc H2 hi ⟨s2,e2,l2,g,rfl,pw,hb⟩
  walk_at "rd"
  refine ⟨by simp [LP],fun b H3 hb3 s3 e3=>?_⟩
  walk_at "rd"
  obtain ⟨v,hv,v0,v16⟩:=at5 (i:=i) (by omega)
  refine bK (SqL.of e3) hv ?_
  walk_at "rd"
  have e23:=s3 _ _ e2
  refine bZ (fun c=>?_) (fun c=>?_)
  ·walk_at "rd"
   refine bn.put hp (fun _ _ _ _ r _=>r) (s2.trans s3) e23 l2 ⟨g++[i],by rw [<-gi],?_,fun k hk=>?_⟩
   ·rw [QA]
    exact ⟨pw,RO _ _,fun x hx y hy=>by rw [LG] at hy; have:=hb x hx; omega⟩
   ·rcases Mr.mp hk with hk | hk
    ·have:=hb k hk; omega
    ·rw [LG] at hk; omega
  ·exact bn.skip (s2.trans s3) e23 l2 ⟨g,rfl,pw,fun k hk=>by have:=hb k hk; omega⟩
 ·intro p acc H2 hp s2 e2 ⟨g,hg,pw,hb⟩
  subst hg
  walk_at "rd"
  exact Iy (SqL.of e2) fun t H3 ht s3 e3=>q t g H3 (s2.trans s3) e3 pw hb
noncomputable def va (H:Hp) (x:V):Option Sy->Prop
 | some t=>aN H x t
 | none=>(∃ i,x=.int i)\/∃ b g,x=.ref b/\H b=some (.tup (au g))
theorem va.keep {H H':Hp} (k:gU H H') {x:V} {o:Option Sy} (h:va H x o):va H' x o:=by
 cases o with
 | some t=>exact aN.keep k h
 | none=>
  rcases h with h | ⟨b,g,e,h⟩
  ·exact .inl h
  ·exact .inr ⟨b,g,e,k _ _ h⟩
theorem B9 {H:Hp} {v:V} {s:Sy} (h:aN H v s):∃ a items os,v=.ref a/\H a=some (.tup (.str s.word :: items))/\Paired (va H) items os/\os.filterMap id=s.subs/\items.length<=2:=by
 cases s with
 | holds w c=>obtain ⟨a,e,h⟩:=h; exact ⟨a,_,[none,none],e,h,.cons (.inl ⟨_,rfl⟩) (.cons (.inl ⟨_,rfl⟩) .nil),rfl,by simp⟩
 | sees w=>obtain ⟨a,e,h⟩:=h; exact ⟨a,_,[none],e,h,.cons (.inl ⟨_,rfl⟩) .nil,rfl,by simp⟩
 | not s=>obtain ⟨a,x,e,h,r⟩:=h; exact ⟨a,_,[some s],e,h,.cons r .nil,rfl,by simp⟩
 | and s t=>obtain ⟨a,x,y,e,h,r,q⟩:=h; exact ⟨a,_,[some s,some t],e,h,.cons r (.cons q .nil),rfl,by simp⟩
 | or s t=>obtain ⟨a,x,y,e,h,r,q⟩:=h; exact ⟨a,_,[some s,some t],e,h,.cons r (.cons q .nil),rfl,by simp⟩
 | knows w s=>obtain ⟨a,x,e,h,r⟩:=h; exact ⟨a,_,[none,some s],e,h,.cons (.inl ⟨_,rfl⟩) (.cons r .nil),rfl,by simp⟩
 | all g s=>obtain ⟨a,b,x,e,h,i,r⟩:=h; exact ⟨a,_,[none,some s],e,h,.cons (.inr ⟨b,g,rfl,i⟩) (.cons r .nil),rfl,by simp⟩
 | common g s=>obtain ⟨a,b,x,e,h,i,r⟩:=h; exact ⟨a,_,[none,some s],e,h,.cons (.inr ⟨b,g,rfl,i⟩) (.cons r .nil),rfl,by simp⟩
noncomputable def d5 (_:Fg) (n:Nat):Sp:=fun vs H Q _=>∃ (v:V) (s:Sy),vs=[v]/\aN H v s/\s.words<=n/\∀ H',am H H'->Q (.int (s.words:Nat)) H'
noncomputable def iW (K:Fg) (n:Nat):TS:=(ap (aE (tC (.int 1)) (aj 1))
 (ap (cu (wx K (tSl (zN K) (ac 0) (um (tC (.int 1))) ny)) (aj 2) (bq (qc (tB (tCB (lh K) (aa (ac 2) (aa (tC (.ty "tuple")) af)))) (qc (aX (tOp (qp (SqT K) true) (ac 2) (cG af))) (tB (tCB (lh K) (aa (tOp (cV K) (ac 2) (tC (.int 0))) (aa (tC (.ty "str")) af)))))) (aE (tOp (rI0 fun i j=>.int (i + j)) (ac 1) (av (d5 K n) [] E0 (aa (ac 2) af))) (aj 1)) aZ))
 (aI (ac 1))))
theorem pJ (h:d5 K 0 vs H Q E):False:=by
 obtain ⟨v,s,rfl,_,h,_⟩:=h
 have:=s.words_pos
 omega
theorem Fh {K:Fg} {H:Hp} {Q:VK} {a b:Addr} {xs:List V} (h1:SqT K H a xs) (h2:SqT K H b []) (q:Q (.bl (!xs.isEmpty)) H):qp (SqT K) true (.ref a) (.ref b) H Q:=by
 refine ⟨a,b,xs,[],fun _=>true,rfl,rfl,h1,h2,fun j x y _ hy=>by simp at hy,?_⟩
 cases xs with
 | nil=>exact q
 | cons x r=>exact q
noncomputable def kh (os:List (Option Sy)):Nat:=((os.filterMap id).map Sy.words).sum
noncomputable def Au:Option Sy->Nat
 | some t=>t.words
 | none=>0
theorem Fi (os:List (Option Sy)) (i:Nat) (o:Option Sy) (h:os[i]?=some o):kh (os.take (i + 1))=kh (os.take i) + Au o:=by
 unfold kh
 rw [Nv,h,List.filterMap_append,Mf,Nn]
 cases o with
 | none=>simp [Au]
 | some t=>simp [Au]
theorem ym {K:Fg} {n:Nat} {vs:List V} {H:Hp} {Q:VK} {E:XK} (h:d5 K (n + 1) vs H Q E):iW K n { nx:=fun _ H'=>Q .non H',rt:=Q } (start ["_law_saying_here","_law_found","_law_part"] vs) H:=by
 obtain ⟨v,s,rfl,hs,hw,q⟩:=h
 obtain ⟨a,items,os,rfl,e,hp,hos,h2⟩:=B9 hs
 show iW K n _ [some _,none,none] _
 unfold iW
 walk_at "rd"
 refine CG (SqT.of e) (mZ _ _) fun b H1 hb s1 e1=>?_
 rw [tE] at e1
 have hw':=s.words_subs
 have hol:items.length=os.length:=by
  clear hos h2 e e1
  induction hp with
  | nil=>rfl
  | cons _ _ ih=>rw [Ml,Ml,ih]
 refine zL items (SqT.of e1) (fun i σ H2=>∃ st,σ=[some (.ref a),some (.int (1 + kh (os.take i):Nat)),st]/\am H1 H2) ⟨none,rfl,am.refl _⟩ (fun i σ H2 _ ⟨_,_,s2⟩=>SqT.of (s2 _ _ e1)) ?_ ?_
 ·rintro i x σ H2 hx ⟨st,rfl,s2⟩
  obtain ⟨o,ho,io⟩:=kK hp hx
  have ot:=Fi os i o ho
  have io2:=io.keep (s1.trans s2).keep
  cases o with
  | none=>
   have ot':kh (os.take (i + 1))=kh (os.take i):=ot
   rcases io2 with ⟨j,rfl⟩ | ⟨g,gs,rfl,eg⟩
   ·walk_at "rd"
    refine kJ (.int _) (B5 K "int" (by decide) "tuple" (by decide)) ?_
    walk_at "rd"
    refine ox ?_
    walk_at "rd"
    exact ⟨_,by rw [ot'],s2⟩
   ·walk_at "rd"
    refine kJ (.tup eg) (jJ K) ?_
    walk_at "rd"
    refine ⟨by simp [LP],fun u H3 hu s3 e3=>?_⟩
    refine Fh (SqT.of (s3 _ _ eg)) (SqT.of e3) ?_
    walk_at "rd"
    cases gs with
    | nil=>
     refine ox ?_
     walk_at "rd"
     exact ⟨_,by rw [ot'],s2.trans s3⟩
    | cons k r=>
     refine ql ?_
     walk_at "rd"
     refine bv (SqT.of (s3 _ _ eg)) (kY _ _) ?_
     walk_at "rd"
     refine kJ (.int _) (B5 K "int" (by decide) "str" (by decide)) ?_
     walk_at "rd"
     refine ox ?_
     walk_at "rd"
     exact ⟨_,by rw [ot'],s2.trans s3⟩
  | some t=>
   have ot':kh (os.take (i + 1))=kh (os.take i) + t.words:=ot
   have ts:t∈s.subs:=by rw [<-hos]; exact QQ.mpr ⟨some t,LX ho,rfl⟩
   have hb':=Sy.sub_words ts
   obtain ⟨a2,items2,_,rfl,et,_⟩:=B9 io2
   walk_at "rd"
   refine kJ (.tup et) (jJ K) ?_
   walk_at "rd"
   refine ⟨by simp [LP],fun u H3 hu s3 e3=>?_⟩
   refine Fh (SqT.of (s3 _ _ et)) (SqT.of e3) ?_
   walk_at "rd"
   refine ql ?_
   walk_at "rd"
   refine bv (SqT.of (s3 _ _ et)) (kY _ _) ?_
   walk_at "rd"
   refine kJ (.str _) (Ae K "str") ?_
   walk_at "rd"
   refine ⟨_,t,rfl,aN.keep s3.keep io2,by omega,fun H4 s4=>?_⟩
   walk_at "rd"
   refine ⟨some (.ref a2),?_,(s2.trans s3).trans s4⟩
   rw [ot',show ((1 + kh (os.take i):Nat):Int) + ((t.words:Nat):Int)=((1 + (kh (os.take i) + t.words):Nat):Int) by omega]
 ·rintro σ H2 ⟨st,rfl,s2⟩
  walk_at "rd"
  have e:kh (os.take items.length)=(s.subs.map Sy.words).sum:=by rw [hol,Mx]; unfold kh; rw [hos]
  rw [e,<-hw']
  exact q _ (s1.trans s2)
structure gm (H H2:Hp) (r:Addr) (c h most:Nat) (ss:List Sy):Prop where
 same:am H H2
 new:H r=none
 at_:∃ xs,H2 r=some (.lst xs)/\gF H2 xs ss
 ne:ss≠[]
 ok:∀ s∈ss,s.Ok c h/\s.words<=most
theorem gm.push {H H2 H3:Hp} {r:Addr} {c h most:Nat} {ss:List Sy} {s:Sy} {v:V} {xs:List V} (R:gm H H2 r c h most ss) (e:H2 r=some (.lst xs)) (o:Off r H2 H3) (e3:H3 r=some (.lst (xs++[v]))) (hv:aN H2 v s) (ok:s.Ok c h) (w:s.words<=most):gm H H3 r c h most (ss++[s]) where
 same:=R.same.off R.new o
 new:=R.new
 at_:=by
  obtain ⟨ys,ey,p⟩:=R.at_
  rw [e] at ey
  cases ey
  exact ⟨_,e3,oM (p.keep (o.keep e)) (.cons (hv.keep (o.keep e)) .nil)⟩
 ne:=by simp
 ok:=fun t ht=>by
  rcases Mr.mp ht with ht | ht
  ·exact R.ok t ht
  ·rw [LG] at ht; subst ht; exact ⟨ok,w⟩
theorem gm.to {H H2 H3:Hp} {r:Addr} {c h most:Nat} {ss:List Sy} (R:gm H H2 r c h most ss) (s:am H2 H3):gm H H3 r c h most ss where
 same:=R.same.trans s
 new:=R.new
 at_:=by obtain ⟨xs,e,p⟩:=R.at_; exact ⟨xs,s _ _ e,p.keep s.keep⟩
 ne:=R.ne
 ok:=R.ok
noncomputable def ly (K:Fg):Sp:=fun vs H Q _=>∃ (a:Addr) (ns:List Int) (at_:Int) (c h:Nat),vs=[.ref a,.int at_,.int c,.int h]/\fw K H a ns/\0<=at_/\at_<=1000/\1<=h/\∀ (r:Addr) (ss:List Sy) (H':Hp),gm H H' r c h 1 ss->ss.length<=4->Q (.ref r) H'
noncomputable def jS (K:Fg):TS:=(ap (aE (fT (aa (cG (aa (tC (.str "sees")) (aa (tOp (rI (fun _ j=>0 < j) fun i j=>.int (i % j)) (av (bm K) [] E0 (aa (ac 0) (aa (ac 1) af))) (ac 3)) af))) af)) (aj 4))
 (ap (cu (cD (aa (tOp (rI OR fun i j=>.int (i * j)) (tC (.int 3)) (tCB F7 (aa (tOp (rI0 fun i j=>.bl (decide (j < i))) (ac 2) (tC (.int 0))) af))) af)) (aj 5) (ap (aE (av (bm K) [] E0 (aa (ac 0) (aa (tOp (rI0 fun i j=>.int (i + j)) (tOp (rI0 fun i j=>.int (i + j)) (ac 1) (tC (.int 1))) (ac 5)) af))) (aj 6))
 (ee (tBM K "list" iF (ac 4) (aa (cG (aa (tC (.str "holds")) (aa (tOp (rI (fun _ j=>0 < j) fun i j=>.int (i % j)) (ac 6) (tOp (rI0 fun i j=>.int (i + j)) (ac 3) (tC (.int 1)))) (aa (tOp (rI (fun _ j=>0 < j) fun i j=>.int (i % j)) (tOp (rI fm fun i j=>.int (i / j)) (ac 6) (tC (.int 7))) (ac 2)) af)))) af)))))
 (aI (ac 4))))
theorem Av (h:ly K vs H Q E):jS K { nx:=fun _ H'=>Q .non H',rt:=Q } (start ["_law_script","_law_at","_law_cards","_law_hands","_law_pool_here","_law_k","_law_cell_here"] vs) H:=by
 obtain ⟨a,ns,at_,c,h,rfl,hSc,ha0,ha1,h1,q⟩:=h
 show jS K _ [some _,some _,some _,some _,none,none,none] _
 unfold jS
 walk_at "rd"
 refine ⟨a,ns,at_,rfl,hSc,ha0,by omega,?_⟩
 walk_at "rd"
 obtain ⟨k,hk,hk2⟩:=mw (bE ns at_) (m:=(h:Int)) (by omega)
 rw [hk]
 refine ⟨by simp [LP],fun p1 H1 hp1 s1 e1=>?_⟩
 walk_at "rd"
 refine ⟨by simp [LP],fun r H2 hr s2 e2=>?_⟩
 have R0:gm H H2 r c h 1 [.sees k]:=⟨s1.trans s2,s1.free hr,⟨_,e2,.cons ⟨p1,rfl,s2 _ _ e1⟩ .nil⟩,by simp,fun s hs=>by rw [LG] at hs; subst hs; exact ⟨show k < h by omega,LH _⟩⟩
 walk_at "rd"
 obtain ⟨n,hn,hn3,hnc⟩:∃ n:Nat,((3:Int) * (if decide ((0:Int) < (c:Int))=true then 1 else 0))=(n:Int)/\n<=3/\(c=0->n=0):=by
  by_cases hc:(0:Int) < (c:Int)
  ·exact ⟨3,by rw [if_pos (decide_eq_true hc)]; rfl,LH _,fun z=>by omega⟩
  ·exact ⟨0,by rw [if_neg (by rw [decide_eq_false hc]; exact LR)]; rfl,by decide,fun _=>rfl⟩
 rw [hn]
 refine eG n (by omega) (by omega) (by omega) (fun i σ H3=>∃ (ss:List Sy) (v5 v6:Option V),σ=[some (.ref a),some (.int at_),some (.int c),some (.int h),some (.ref r),v5,v6]/\gm H H3 r c h 1 ss/\ss.length=i + 1) ⟨_,none,none,rfl,R0,rfl⟩ ?_ ?_
 ·rintro i σ H3 hi ⟨ss,v5,v6,rfl,R,hl⟩
  have hc:0 < c:=by
   rcases Pw c with z | z
   ·have:=hnc z; omega
   ·exact z
  obtain ⟨xs,e3,px⟩:=R.at_
  have hxl:=gj px
  walk_at "rd"
  refine ⟨a,ns,at_ + 1 + (i:Int),rfl,hSc.same R.same,by omega,by omega,?_⟩
  walk_at "rd"
  refine ⟨y6 e3,?_⟩
  walk_at "rd"
  obtain ⟨k1,hk1,hk12⟩:=mw (bE ns (at_ + 1 + (i:Int))) (m:=(h:Int) + 1) (by omega)
  obtain ⟨k2,hk2',hk22⟩:=mw (bE ns (at_ + 1 + (i:Int)) / 7) (m:=(c:Int)) (by omega)
  rw [hk1,hk2']
  refine ⟨by simp [LP],fun p4 H4 hp4 s4 e4=>?_⟩
  walk_at "rd"
  refine li (s4 _ _ e3) (by rw [LP]; omega) fun H5 o5 e5=>?_
  exact ⟨_,_,_,rfl,(R.to s4).push (s4 _ _ e3) o5 e5 (s:=.holds k1 k2) ⟨p4,rfl,e4⟩ ⟨by omega,by omega⟩ (LH _),by rw [L7,hl]; rfl⟩
 ·rintro σ H3 ⟨ss,v5,v6,rfl,R,hl⟩
  walk_at "rd"
  exact q r ss H3 R (by omega)
noncomputable def gJ (c h:Nat) (H:Hp) (x:V):Prop:=∃ s:Sy,aN H x s/\s.Ok c h/\s.words<=63
theorem gJ.same {c h:Nat} {H H':Hp} {x:V} (g:gJ c h H x) (s:am H H'):gJ c h H' x:=by
 obtain ⟨t,i,o,w⟩:=g
 exact ⟨t,i.keep s.keep,o,w⟩
theorem qN {H:Hp}:∀ {l:List V} {m:List Sy},gF H l m->l≠[]->∃ x y,atI l (-1)=some x/\y∈m/\aN H x y:=by
 intro l m p hne
 have hl:=gj p
 have hp:0 < l.length:=QF.mpr hne
 obtain ⟨x,hx⟩:∃ x,l[l.length - 1]?=some x:=⟨_,LD (by omega)⟩
 obtain ⟨y,hy,iy⟩:=mj p hx
 refine ⟨x,y,?_,LX hy,iy⟩
 unfold atI ixN
 rw [if_neg (by decide),if_pos (by omega),show (-1 + (l.length:Int)).toNat=l.length - 1 by omega]
 exact hx
noncomputable def gK (K:Fg):Sp:=fun vs H Q _=>∃ (a:Addr) (ns:List Int) (at_:Int) (c h most:Nat),vs=[.ref a,.int at_,.int c,.int h,.int most]/\fw K H a ns/\0<=at_/\at_<=1000/\1<=h/\h<=5/\1<=most/\most<=30/\∀ (v:V) (s:Sy) (H':Hp),am H H'->aN H' v s->s.Ok c h->s.words<=most->Q v H'
noncomputable def hZ (K:Fg):TS:=(ap (aE (av (ly K) [] E0 (aa (ac 0) (aa (ac 1) (aa (ac 2) (aa (ac 3) af))))) (aj 5))
 (ap (cu (cD (aa (tOp (rI (fun _ j=>0 < j) fun i j=>.int (i % j)) (av (bm K) [] E0 (aa (ac 0) (aa (tOp (rI0 fun i j=>.int (i + j)) (ac 1) (tC (.int 4))) af))) (tC (.int 12))) af)) (aj 6) (ap (aE (av (bm K) [] E0 (aa (ac 0) (aa (tOp (rI0 fun i j=>.int (i + j)) (tOp (rI0 fun i j=>.int (i + j)) (ac 1) (tC (.int 5))) (ac 6)) af))) (aj 7))
 (ap (aE (tOp (bY K) (ac 5) (tUn (rU fun i=>.int (-i)) (tC (.int 1)))) (aj 8))
 (ap (aE (tOp (bY K) (ac 5) (tOp (rI (fun _ j=>0 < j) fun i j=>.int (i % j)) (tOp (rI fm fun i j=>.int (i / j)) (ac 7) (tC (.int 12))) (tCB (bV K) (aa (ac 5) af)))) (aj 9))
 (ap (aE (fT (aa (cG (aa (tC (.str "not")) (aa (ac 8) af))) (aa (cG (aa (tC (.str "and")) (aa (ac 8) (aa (ac 9) af)))) (aa (cG (aa (tC (.str "or")) (aa (ac 9) (aa (ac 8) af)))) (aa (cG (aa (tC (.str "not")) (aa (ac 9) af))) af))))) (aj 10))
 (ap (aE (tOp tD (ac 10) (fT (aa (cG (aa (tC (.str "knows")) (aa (tOp (rI (fun _ j=>0 < j) fun i j=>.int (i % j)) (tOp (rI fm fun i j=>.int (i / j)) (ac 7) (tC (.int 7))) (ac 3)) (aa (ac 8) af)))) (aa (cG (aa (tC (.str "knows")) (aa (tOp (rI (fun _ j=>0 < j) fun i j=>.int (i % j)) (tOp (rI fm fun i j=>.int (i / j)) (ac 7) (tC (.int 7))) (ac 3)) (aa (cG (aa (tC (.str "not")) (aa (ac 8) af))) af)))) af)))) (aj 10))
 (ap (aE (tOp tD (ac 10) (fT (aa (cG (aa (tC (.str "all")) (aa (av (dw K) [] E0 (aa (tOp (rI fm fun i j=>.int (i / j)) (ac 7) (tC (.int 36))) (aa (ac 3) af))) (aa (ac 8) af)))) (aa (cG (aa (tC (.str "common")) (aa (av (dw K) [] E0 (aa (tOp (rI fm fun i j=>.int (i / j)) (ac 7) (tC (.int 36))) (aa (ac 3) af))) (aa (ac 9) af)))) af)))) (aj 10))
 (ap (aE (tOp tD (ac 10) (fT (aa (cG (aa (tC (.str "common")) (aa (av (dw K) [] E0 (aa (tOp (rI fm fun i j=>.int (i / j)) (ac 7) (tC (.int 36))) (aa (ac 3) af))) (aa (ac 8) af)))) (aa (cG (aa (tC (.str "knows")) (aa (tOp (rI (fun _ j=>0 < j) fun i j=>.int (i % j)) (tOp (rI fm fun i j=>.int (i / j)) (ac 7) (tC (.int 7))) (ac 3)) (aa (ac 9) af)))) af)))) (aj 10))
 (ap (aE (tOp tD (ac 10) (fT (aa (cG (aa (tC (.str "and")) (aa (ac 9) (aa (cG (aa (tC (.str "not")) (aa (ac 8) af))) af)))) (aa (cG (aa (tC (.str "or")) (aa (ac 8) (aa (cG (aa (tC (.str "knows")) (aa (tOp (rI (fun _ j=>0 < j) fun i j=>.int (i % j)) (tOp (rI fm fun i j=>.int (i / j)) (ac 7) (tC (.int 7))) (ac 3)) (aa (ac 9) af)))) af)))) af)))) (aj 10))
 (bq (aX (tOp (rI0 fun i j=>.bl (decide (i<=j))) (av (d5 K 70) [] E0 (aa (tOp (bY K) (ac 10) (tOp (rI (fun _ j=>0 < j) fun i j=>.int (i % j)) (ac 7) (tC (.int 12)))) af)) (ac 4))) (ee (tBM K "list" iF (ac 5) (aa (tOp (bY K) (ac 10) (tOp (rI (fun _ j=>0 < j) fun i j=>.int (i % j)) (ac 7) (tC (.int 12)))) af))) aZ))))))))))
 (aI (tOp (bY K) (ac 5) (tUn (rU fun i=>.int (-i)) (tC (.int 1)))))))
theorem wN (h:gK K vs H Q E):hZ K { nx:=fun _ H'=>Q .non H',rt:=Q } (start ["_law_script","_law_at","_law_cards","_law_hands","_law_most","_law_pool_here","_law_k","_law_cell_here","_law_one","_law_other","_law_some"] vs) H:=by
 obtain ⟨a,ns,at_,c,h,most,rfl,hSc,ha0,ha1,h1,h5,hm1,hm30,q⟩:=h
 show hZ K _ [some _,some _,some _,some _,some _,none,none,none,none,none,none] _
 unfold hZ
 walk_at "rd"
 refine ⟨a,ns,at_,c,h,rfl,hSc,ha0,ha1,h1,fun r ss0 H1 R0 hl4=>?_⟩
 walk_at "rd"
 refine ⟨a,ns,at_ + 4,rfl,hSc.same R0.same,by omega,by omega,?_⟩
 walk_at "rd"
 have R1:gm H H1 r c h most ss0:=⟨R0.same,R0.new,R0.at_,R0.ne,fun s hs=>⟨(R0.ok s hs).1,by have:=(R0.ok s hs).2; omega⟩⟩
 refine eG (bE ns (at_ + 4) % 12).toNat rfl (by omega) (by omega) (fun i σ H2=>∃ (ss:List Sy) (v6 v7 v8 v9 v10:Option V),σ=[some (.ref a),some (.int at_),some (.int c),some (.int h),some (.int most),some (.ref r),v6,v7,v8,v9,v10]/\gm H H2 r c h most ss/\ss.length<=4 + i) ⟨ss0,none,none,none,none,none,rfl,R1,by omega⟩ ?_ ?_
 ·rintro i σ H2 hi ⟨ss,v6,v7,v8,v9,v10,rfl,R,hl⟩
  obtain ⟨xs,e2,px⟩:=R.at_
  have hxl:=gj px
  have hne:xs≠[]:=fun z=>R.ne (OV.mp (by rw [<-hxl,z]; rfl))
  have hpos:0 < xs.length:=QF.mpr hne
  refine j4 ?_
  dsimp only [NQ,NR]
  refine bR ?_
  walk_at "rs"
  refine ⟨a,ns,at_ + 5 + (i:Int),rfl,hSc.same R.same,by omega,by omega,?_⟩
  generalize bE ns (at_ + 5 + (i:Int))=z
  walk_at "rs"
  refine bR ?_
  walk_at "rs"
  obtain ⟨x1,s1,hx1,hs1,is1⟩:=qN px hne
  obtain ⟨ok1,w1⟩:=R.ok s1 hs1
  refine bK (SqL.of e2) hx1 ?_
  walk_at "rs"
  refine bR ?_
  walk_at "rs"
  obtain ⟨x2,hx2,hm2⟩:=EH xs (z / 12) rfl hpos
  obtain ⟨j2,hj2⟩:=SR hm2
  obtain ⟨s2,hs2,is2⟩:=mj px hj2
  obtain ⟨ok2,w2⟩:=R.ok s2 (LX hs2)
  refine bK (SqL.of e2) hx2 ?_
  walk_at "rs"
  refine bR ?_
  refine kI ?_
  refine rC ?_
  refine qM (P:=gJ c h) (fun _ _ _ s g=>g.same s) (H0:=H2) (n:=4) (am.refl _) ?_ fun ys0 Hy0 sy0 ly0 by0=>?_
  ·skip
   refine GA.cons (fun _ _ _ s g=>g.same s) (n:=3) ?_ ?_
   ·intro H' s' Q q
    have i1:=is1.keep s'.keep
    have i2:=is2.keep s'.keep
    walk_at "rd"
    refine ⟨by simp [LP],fun p1 G1 hp1 t1 e1=>?_⟩
    have I1:aN G1 (.ref p1) (.not s1):=⟨p1,_,rfl,e1,(aN.keep (am.keep t1) i1)⟩
    exact q _ _ t1 ⟨_,I1,ok1,by simp only [Sy.words]; omega⟩
   refine GA.cons (fun _ _ _ s g=>g.same s) (n:=2) ?_ ?_
   ·intro H' s' Q q
    have i1:=is1.keep s'.keep
    have i2:=is2.keep s'.keep
    walk_at "rd"
    refine ⟨by simp [LP],fun p1 G1 hp1 t1 e1=>?_⟩
    have I1:aN G1 (.ref p1) (.and s1 s2):=⟨p1,_,_,rfl,e1,(aN.keep (am.keep t1) i1),(aN.keep (am.keep t1) i2)⟩
    exact q _ _ t1 ⟨_,I1,⟨ok1,ok2⟩,by simp only [Sy.words]; omega⟩
   refine GA.cons (fun _ _ _ s g=>g.same s) (n:=1) ?_ ?_
   ·intro H' s' Q q
    have i1:=is1.keep s'.keep
    have i2:=is2.keep s'.keep
    walk_at "rd"
    refine ⟨by simp [LP],fun p1 G1 hp1 t1 e1=>?_⟩
    have I1:aN G1 (.ref p1) (.or s2 s1):=⟨p1,_,_,rfl,e1,(aN.keep (am.keep t1) i2),(aN.keep (am.keep t1) i1)⟩
    exact q _ _ t1 ⟨_,I1,⟨ok2,ok1⟩,by simp only [Sy.words]; omega⟩
   refine GA.cons (fun _ _ _ s g=>g.same s) (n:=0) ?_ ?_
   ·intro H' s' Q q
    have i1:=is1.keep s'.keep
    have i2:=is2.keep s'.keep
    walk_at "rd"
    refine ⟨by simp [LP],fun p1 G1 hp1 t1 e1=>?_⟩
    have I1:aN G1 (.ref p1) (.not s2):=⟨p1,_,rfl,e1,(aN.keep (am.keep t1) i2)⟩
    exact q _ _ t1 ⟨_,I1,ok2,by simp only [Sy.words]; omega⟩
   exact GA.nil
  refine ⟨by rw [ly0,LP]; decide,fun l0 Hl0 hl0 sl0 el0=>?_⟩
  have sL0:am H2 Hl0:=sy0.trans sl0
  have L0:ys0.length=4:=ly0
  have B0:∀ x∈ys0,gJ c h Hl0 x:=fun x hx=>(by0 x hx).same sl0
  have eL0:=el0
  refine j4 ?_
  dsimp only [NQ,NR]
  generalize hX0:ys0=X0 at *
  refine bR ?_
  refine kI ?_
  refine tm ?_
  refine oC rfl ?_
  refine rC ?_
  refine qM (P:=gJ c h) (fun _ _ _ s g=>g.same s) (H0:=H2) (n:=2) sL0 ?_ fun ys1 Hy1 sy1 ly1 by1=>?_
  ·skip
   refine GA.cons (fun _ _ _ s g=>g.same s) (n:=1) ?_ ?_
   ·intro H' s' Q q
    have i1:=is1.keep s'.keep
    have i2:=is2.keep s'.keep
    walk_at "rd"
    obtain ⟨kk1,hk1,hk21⟩:=mw (z / 7) (m:=(h:Int)) (by omega)
    rw [hk1]
    refine ⟨by simp [LP],fun p1 G1 hp1 t1 e1=>?_⟩
    have I1:aN G1 (.ref p1) (.knows kk1 s1):=⟨p1,_,rfl,e1,(aN.keep (am.keep t1) i1)⟩
    exact q _ _ t1 ⟨_,I1,⟨by omega,ok1⟩,by simp only [Sy.words]; omega⟩
   refine GA.cons (fun _ _ _ s g=>g.same s) (n:=0) ?_ ?_
   ·intro H' s' Q q
    have i1:=is1.keep s'.keep
    have i2:=is2.keep s'.keep
    walk_at "rd"
    refine ⟨by simp [LP],fun p1 G1 hp1 t1 e1=>?_⟩
    have I1:aN G1 (.ref p1) (.not s1):=⟨p1,_,rfl,e1,(aN.keep (am.keep t1) i1)⟩
    walk_at "rd"
    obtain ⟨kk2,hk2,hk22⟩:=mw (z / 7) (m:=(h:Int)) (by omega)
    rw [hk2]
    refine ⟨by simp [LP],fun p2 G2 hp2 t2 e2=>?_⟩
    have I2:aN G2 (.ref p2) (.knows kk2 (.not s1)):=⟨p2,_,rfl,e2,(aN.keep (am.keep t2) I1)⟩
    exact q _ _ (t1.trans t2) ⟨_,I2,⟨by omega,ok1⟩,by simp only [Sy.words]; omega⟩
   exact GA.nil
  refine ⟨by rw [ly1,LP]; decide,fun l1 Hl1 hl1 sl1 el1=>?_⟩
  refine ux (sl1 _ _ (sy1 _ _ eL0)) el1 (by rw [L0,ly1,LP]; decide) fun m1 Hm1 hm1 sm1 em1=>?_
  have sA1:=(sy1.trans sl1).trans sm1
  have sL1:am H2 Hm1:=sL0.trans sA1
  have L1:(X0++ys1).length=6:=by rw [L7,L0,ly1]
  have B1:∀ x∈X0++ys1,gJ c h Hm1 x:=fun x hx=>by
   rcases Mr.mp hx with hx | hx
   ·exact (B0 x hx).same sA1
   ·exact (by1 x hx).same (sl1.trans sm1)
  have eL1:=em1
  refine j4 ?_
  dsimp only [NQ,NR]
  generalize X0++ys1=X1 at L1 B1 eL1
  clear B0 L0 eL0 by1 ly1 el1 em1
  refine bR ?_
  refine kI ?_
  refine tm ?_
  refine oC rfl ?_
  refine rC ?_
  refine qM (P:=gJ c h) (fun _ _ _ s g=>g.same s) (H0:=H2) (n:=2) sL1 ?_ fun ys2 Hy2 sy2 ly2 by2=>?_
  ·skip
   refine GA.cons (fun _ _ _ s g=>g.same s) (n:=1) ?_ ?_
   ·intro H' s' Q q
    have i1:=is1.keep s'.keep
    have i2:=is2.keep s'.keep
    walk_at "rd"
    refine ⟨_,h,rfl,h5,fun g1 gs1 G1 t1 eg1 pw1 hb1=>?_⟩
    walk_at "rd"
    refine ⟨by simp [LP],fun p2 G2 hp2 t2 e2=>?_⟩
    have I2:aN G2 (.ref p2) (.all gs1 s1):=⟨p2,g1,_,rfl,e2,t2 _ _ eg1,(aN.keep (am.keep (t1.trans t2)) i1)⟩
    exact q _ _ (t1.trans t2) ⟨_,I2,⟨⟨pw1,hb1⟩,ok1⟩,by simp only [Sy.words]; omega⟩
   refine GA.cons (fun _ _ _ s g=>g.same s) (n:=0) ?_ ?_
   ·intro H' s' Q q
    have i1:=is1.keep s'.keep
    have i2:=is2.keep s'.keep
    walk_at "rd"
    refine ⟨_,h,rfl,h5,fun g1 gs1 G1 t1 eg1 pw1 hb1=>?_⟩
    walk_at "rd"
    refine ⟨by simp [LP],fun p2 G2 hp2 t2 e2=>?_⟩
    have I2:aN G2 (.ref p2) (.common gs1 s2):=⟨p2,g1,_,rfl,e2,t2 _ _ eg1,(aN.keep (am.keep (t1.trans t2)) i2)⟩
    exact q _ _ (t1.trans t2) ⟨_,I2,⟨⟨pw1,hb1⟩,ok2⟩,by simp only [Sy.words]; omega⟩
   exact GA.nil
  refine ⟨by rw [ly2,LP]; decide,fun l2 Hl2 hl2 sl2 el2=>?_⟩
  refine ux (sl2 _ _ (sy2 _ _ eL1)) el2 (by rw [L1,ly2,LP]; decide) fun m2 Hm2 hm2 sm2 em2=>?_
  have sA2:=(sy2.trans sl2).trans sm2
  have sL2:am H2 Hm2:=sL1.trans sA2
  have L2:(X1++ys2).length=8:=by rw [L7,L1,ly2]
  have B2:∀ x∈X1++ys2,gJ c h Hm2 x:=fun x hx=>by
   rcases Mr.mp hx with hx | hx
   ·exact (B1 x hx).same sA2
   ·exact (by2 x hx).same (sl2.trans sm2)
  have eL2:=em2
  refine j4 ?_
  dsimp only [NQ,NR]
  generalize X1++ys2=X2 at L2 B2 eL2
  clear B1 L1 eL1 by2 ly2 el2 em2
  refine bR ?_
  refine kI ?_
  refine tm ?_
  refine oC rfl ?_
  refine rC ?_
  refine qM (P:=gJ c h) (fun _ _ _ s g=>g.same s) (H0:=H2) (n:=2) sL2 ?_ fun ys3 Hy3 sy3 ly3 by3=>?_
  ·skip
   refine GA.cons (fun _ _ _ s g=>g.same s) (n:=1) ?_ ?_
   ·intro H' s' Q q
    have i1:=is1.keep s'.keep
    have i2:=is2.keep s'.keep
    walk_at "rd"
    refine ⟨_,h,rfl,h5,fun g1 gs1 G1 t1 eg1 pw1 hb1=>?_⟩
    walk_at "rd"
    refine ⟨by simp [LP],fun p2 G2 hp2 t2 e2=>?_⟩
    have I2:aN G2 (.ref p2) (.common gs1 s1):=⟨p2,g1,_,rfl,e2,t2 _ _ eg1,(aN.keep (am.keep (t1.trans t2)) i1)⟩
    exact q _ _ (t1.trans t2) ⟨_,I2,⟨⟨pw1,hb1⟩,ok1⟩,by simp only [Sy.words]; omega⟩
   refine GA.cons (fun _ _ _ s g=>g.same s) (n:=0) ?_ ?_
   ·intro H' s' Q q
    have i1:=is1.keep s'.keep
    have i2:=is2.keep s'.keep
    walk_at "rd"
    obtain ⟨kk1,hk1,hk21⟩:=mw (z / 7) (m:=(h:Int)) (by omega)
    rw [hk1]
    refine ⟨by simp [LP],fun p1 G1 hp1 t1 e1=>?_⟩
    have I1:aN G1 (.ref p1) (.knows kk1 s2):=⟨p1,_,rfl,e1,(aN.keep (am.keep t1) i2)⟩
    exact q _ _ t1 ⟨_,I1,⟨by omega,ok2⟩,by simp only [Sy.words]; omega⟩
   exact GA.nil
  refine ⟨by rw [ly3,LP]; decide,fun l3 Hl3 hl3 sl3 el3=>?_⟩
  refine ux (sl3 _ _ (sy3 _ _ eL2)) el3 (by rw [L2,ly3,LP]; decide) fun m3 Hm3 hm3 sm3 em3=>?_
  have sA3:=(sy3.trans sl3).trans sm3
  have sL3:am H2 Hm3:=sL2.trans sA3
  have L3:(X2++ys3).length=10:=by rw [L7,L2,ly3]
  have B3:∀ x∈X2++ys3,gJ c h Hm3 x:=fun x hx=>by
   rcases Mr.mp hx with hx | hx
   ·exact (B2 x hx).same sA3
   ·exact (by3 x hx).same (sl3.trans sm3)
  have eL3:=em3
  refine j4 ?_
  dsimp only [NQ,NR]
  generalize X2++ys3=X3 at L3 B3 eL3
  clear B2 L2 eL2 by3 ly3 el3 em3
  refine bR ?_
  refine kI ?_
  refine tm ?_
  refine oC rfl ?_
  refine rC ?_
  refine qM (P:=gJ c h) (fun _ _ _ s g=>g.same s) (H0:=H2) (n:=2) sL3 ?_ fun ys4 Hy4 sy4 ly4 by4=>?_
  ·skip
   refine GA.cons (fun _ _ _ s g=>g.same s) (n:=1) ?_ ?_
   ·intro H' s' Q q
    have i1:=is1.keep s'.keep
    have i2:=is2.keep s'.keep
    walk_at "rd"
    refine ⟨by simp [LP],fun p1 G1 hp1 t1 e1=>?_⟩
    have I1:aN G1 (.ref p1) (.not s1):=⟨p1,_,rfl,e1,(aN.keep (am.keep t1) i1)⟩
    walk_at "rd"
    refine ⟨by simp [LP],fun p2 G2 hp2 t2 e2=>?_⟩
    have I2:aN G2 (.ref p2) (.and s2 (.not s1)):=⟨p2,_,_,rfl,e2,(aN.keep (am.keep (t1.trans t2)) i2),(aN.keep (am.keep t2) I1)⟩
    exact q _ _ (t1.trans t2) ⟨_,I2,⟨ok2,ok1⟩,by simp only [Sy.words]; omega⟩
   refine GA.cons (fun _ _ _ s g=>g.same s) (n:=0) ?_ ?_
   ·intro H' s' Q q
    have i1:=is1.keep s'.keep
    have i2:=is2.keep s'.keep
    walk_at "rd"
    obtain ⟨kk1,hk1,hk21⟩:=mw (z / 7) (m:=(h:Int)) (by omega)
    rw [hk1]
    refine ⟨by simp [LP],fun p1 G1 hp1 t1 e1=>?_⟩
    have I1:aN G1 (.ref p1) (.knows kk1 s2):=⟨p1,_,rfl,e1,(aN.keep (am.keep t1) i2)⟩
    walk_at "rd"
    refine ⟨by simp [LP],fun p2 G2 hp2 t2 e2=>?_⟩
    have I2:aN G2 (.ref p2) (.or s1 (.knows kk1 s2)):=⟨p2,_,_,rfl,e2,(aN.keep (am.keep (t1.trans t2)) i1),(aN.keep (am.keep t2) I1)⟩
    exact q _ _ (t1.trans t2) ⟨_,I2,⟨ok1,⟨by omega,ok2⟩⟩,by simp only [Sy.words]; omega⟩
   exact GA.nil
  refine ⟨by rw [ly4,LP]; decide,fun l4 Hl4 hl4 sl4 el4=>?_⟩
  refine ux (sl4 _ _ (sy4 _ _ eL3)) el4 (by rw [L3,ly4,LP]; decide) fun m4 Hm4 hm4 sm4 em4=>?_
  have sA4:=(sy4.trans sl4).trans sm4
  have sL4:am H2 Hm4:=sL3.trans sA4
  have L4:(X3++ys4).length=12:=by rw [L7,L3,ly4]
  have B4:∀ x∈X3++ys4,gJ c h Hm4 x:=fun x hx=>by
   rcases Mr.mp hx with hx | hx
   ·exact (B3 x hx).same sA4
   ·exact (by4 x hx).same (sl4.trans sm4)
  have eL4:=em4
  refine j4 ?_
  dsimp only [NQ,NR]
  generalize X3++ys4=X4 at L4 B4 eL4
  clear B3 L3 eL3 by4 ly4 el4 em4
  obtain ⟨y,hy,my⟩:=EH X4 z (m:=12) L4 (by decide)
  obtain ⟨sy,iy,oky,wy⟩:=B4 y my
  have R4:=R.to sL4
  have e24:=sL4 _ _ e2
  walk_at "rd"
  refine bK (SqL.of eL4) hy ?_
  walk_at "rd"
  refine ⟨y,sy,rfl,iy,by omega,fun H5 s5=>?_⟩
  walk_at "rd"
  refine bZ (fun cm=>?_) (fun cm=>?_)
  ·walk_at "rd"
   refine ⟨y6 (s5 _ _ e24),?_⟩
   walk_at "rd"
   refine bK (SqL.of (s5 _ _ eL4)) hy ?_
   walk_at "rd"
   refine li (s5 _ _ e24) (by rw [LP]; omega) fun H6 o6 e6=>?_
   exact ⟨_,_,_,_,_,_,rfl,(R4.to s5).push (s5 _ _ e24) o6 e6 (iy.keep s5.keep) oky (by omega),by rw [L7]; show ss.length + 1<=_; omega⟩
  ·walk_at "rd"
   exact ⟨_,_,_,_,_,_,rfl,R4.to s5,by omega⟩
 ·rintro σ H2 ⟨ss,v6,v7,v8,v9,v10,rfl,R,hl⟩
  obtain ⟨xs,e2,px⟩:=R.at_
  have hxl:=gj px
  have hne:xs≠[]:=fun z=>R.ne (OV.mp (by rw [<-hxl,z]; rfl))
  obtain ⟨x1,s1,hx1,hs1,is1⟩:=qN px hne
  walk_at "rd"
  exact bK (SqL.of e2) hx1 (q x1 s1 H2 R.same is1 (R.ok s1 hs1).1 (R.ok s1 hs1).2)
end
section
variable {K:Fg} {vs:List V} {H:Hp} {Q:VK} {E:XK}
open KF
noncomputable def iaR:IA->V
 | none=>.non
 | some c=>.int c
theorem Lc (a:IA):iaV (iaR a)=some a:=by cases a <;> rfl
noncomputable def wAt (w:List Nat) (c:Int):Int:=(w.getD c.toNat 0:Nat)
noncomputable def qO (w:List Nat) (h:Int) (cs:List Int) (a:IA):Prop:=
 (a=none/\∀ c∈cs,wAt w c≠h)\/∃ c,a=some c/\c∈cs/\wAt w c=h/\∀ d∈cs,wAt w d=h->c<=d
theorem qO.uniq {w:List Nat} {h:Int} {cs ds:List Int} (m:∀ y,y∈cs↔y∈ds) {a b:IA} (x:qO w h cs a) (y:qO w h ds b):a=b:=by
 rcases x with ⟨rfl,x⟩ | ⟨c,rfl,x1,x2,x3⟩
 ·rcases y with ⟨rfl,_⟩ | ⟨d,rfl,y1,y2,_⟩
  ·rfl
  ·exact absurd y2 (x d ((m d).mpr y1))
 ·rcases y with ⟨rfl,y⟩ | ⟨d,rfl,y1,y2,y3⟩
  ·exact absurd x2 (y c ((m c).mp x1))
  ·have h1:=x3 d ((m d).mpr y1) y2
   have h2:=y3 c ((m c).mp x1) x2
   rw [show c=d by omega]
theorem GG {w:List Nat} {c:Int} (h0:0<=c) (h1:c < w.length):atI (au w) c=some (.int (wAt w c)):=by
 obtain ⟨n,rfl⟩:∃ n:Nat,c=(n:Int):=⟨c.toNat,by omega⟩
 have hn:n < w.length:=by omega
 refine ck ?_
 unfold wAt au
 rw [LU,LD hn]
 simp [LO,LD hn]
noncomputable def ki (_:Fg):Sp:=fun vs H Q _=>∃ (t p:Addr) (w:List Nat) (h:Int) (ms:List Int),vs=[.ref t,.int h,.ref p]/\H t=some (.tup (au w))/\H p=some (.lst (ms.map V.int))/\ms.Pairwise (· < ·)/\(∀ c∈ms,0<=c/\c < w.length)/\
 ∀ a,qO w h ms a->Q (iaR a) H
noncomputable def iX (K:Fg):TS:=(ap (cu (dt K (ac 2)) (aj 3) (bq (aX (tOp rEq (tOp (cV K) (ac 0) (ac 3)) (ac 1))) (aI (ac 3)) aZ))
 (aI (tC .non)))
theorem yn (h:ki K vs H Q E):iX K { nx:=fun _ H'=>Q .non H',rt:=Q } (start ["deal","holder","rising","card"] vs) H:=by
 obtain ⟨t,p,w,h,ms,rfl,et,ep,pw,hb,q⟩:=h
 show iX K _ [some _,some _,some _,none] _
 unfold iX
 walk_at "rd"
 refine nE (ms.map V.int) (SqL.of ep) (fun i σ' H2=>∃ u:Option V,σ'=[some (.ref t),some (.int h),some (.ref p),u]/\H2=H/\∀ c∈ms.take i,wAt w c≠h) ⟨none,rfl,rfl,fun c hc=>by simp at hc⟩ ?_ ?_ ?_
 ·rintro i σ' H2 hi ⟨u,rfl,rfl,_⟩
  exact SqL.of ep
 ·rintro i x σ' H2 hx ⟨u,rfl,rfl,hn⟩
  rw [LU] at hx
  obtain ⟨c,hc,rfl⟩:=Sg.mp hx
  have hm:c∈ms:=LX hc
  walk_at "rd"
  refine bv (SqT.of et) (GG (hb c hm).1 (hb c hm).2) ?_
  walk_at "rd"
  by_cases e:wAt w c=h
  ·rw [if_pos (decide_eq_true e)]
   walk_at "rd"
   refine q (some c) (.inr ⟨c,rfl,hm,e,fun d hd he=>?_⟩)
   obtain ⟨j,hj⟩:=SR hd
   obtain ⟨hi1,hi2⟩:=LJ.mp hc
   obtain ⟨hj1,hj2⟩:=LJ.mp hj
   rcases Rn j i with z | z | z
   ·exact absurd he (hn d (Qj.mpr ⟨j,by rw [RA z]; exact hj⟩))
   ·subst z
    rw [<-hi2,<-hj2]
    exact Int.le_refl _
   ·have:=OK.mp pw i j hi1 hj1 z
    rw [hi2,hj2] at this
    omega
  ·rw [if_neg (by rw [decide_eq_false e]; exact LR)]
   walk_at "rd"
   refine ⟨_,rfl,rfl,fun d hd=>?_⟩
   rw [Nv,hc] at hd
   rcases Mr.mp hd with z | z
   ·exact hn d z
   ·rw [LG.mp z]
    exact e
 ·rintro σ' H2 ⟨u,rfl,rfl,hn⟩
  walk_at "rd"
  rw [LF,Mx] at hn
  exact q none (.inl ⟨rfl,hn⟩)
noncomputable def cv (_:Fg):Sp:=fun vs H Q _=>∃ z:Str,vs=[.bl true,.str z]/\Q .non H
noncomputable def fW (K:Fg):TS:=(bq (fS (tB (ac 0))) qe aZ)
theorem tK (h:cv K vs H Q E):fW K { nx:=fun _ H'=>Q .non H',rt:=Q } (start ["fit","reason"] vs) H:=by
 obtain ⟨z,rfl,q⟩:=h
 show fW K _ [some _,some _] _
 unfold fW
 walk_at "rd"
 exact q
noncomputable def lz (_:Fg):Sp:=fun vs H Q _=>∃ (p:Addr) (ns:List Int) (c:Int),vs=[.ref p,.int c]/\H p=some (.lst (ns.map V.int))/\ns.length<=1000/\(∀ n∈ns,0<=n/\n < c)/\∀ H',am H H'->Q (.bl true) H'
noncomputable def jT (K:Fg):TS:=(aI (on (tCB (lh K) (aa (ac 0) (aa (tC (.ty "list")) af))) (tCB (CA K) (aa (bT (dt K (ac 0)) (fun _ _ _ _=>(aj 0)) (fun _ _ _ _=>bB) (fun _ _ _ _=>(av (de K) [] E0 (aa (ac 0) (aa (ac 1) af)))) [none,some 1]) af))))
theorem Aw (h:lz K vs H Q E):jT K { nx:=fun _ H'=>Q .non H',rt:=Q } (start ["thing","cards"] vs) H:=by
 obtain ⟨p,ns,c,rfl,ep,hl,hb,q⟩:=h
 show jT K _ [some _,some _] _
 unfold jT
 walk_at "rd"
 refine kJ (.lst ep) (sx K) ?_
 walk_at "rd"
 refine fN (ns.map V.int) (SqL.of ep) (by rw [LF]; omega) (fun i acc _=>acc=(Mo i true).map V.bl) (fun _ _=>rfl) ?_ ?_
 ·rintro p' hp' C s' H' fp i x acc H2 hx ⟨s2,e2,l2,rfl⟩
  obtain ⟨z,hz,rfl⟩:=EW hx
  have ⟨b1,b2⟩:=hb z (LX hz)
  walk_at "rd"
  refine ⟨z,c,rfl,?_⟩
  rw [gk b1 (show z<=c - 1 by omega)]
  exact bn.put hp' (fun i acc H H' r k=>r) s2 e2 l2 (by rw [Pe,Mf]; rfl)
 ·rintro p' acc H2 hp' s2 e2 rfl
  walk_at "rd"
  refine ⟨p',Mo ns.length true,rfl,SqL.of (by rw [e2,LF]),?_⟩
  have ha:(Mo ns.length true).all id=true:=by simp
  rw [ha]
  exact q H2 s2
theorem j8 {K:Fg} {ta tv:TE} {f:Str} {D:jq} {σ:St} {H:Hp} (h:tv σ H fun y H1=>ta σ H1 fun x H2=>∃ a C dx fs,x=.ref a/\H2 a=some (.ins C dx fs)/\Cls K C/\eh K C f/\fs.length < 1000/\D.nx σ (upd H2 a (.ins C dx (gd f y fs)))):mY K ta tv f D σ H:=h
theorem cM {K:Fg} {ta:TE} {f:Str} {σ:St} {H:Hp} {Q:VK} (h:ta σ H fun x H1=>∃ a C dx fs v,x=.ref a/\H1 a=some (.ins C dx fs)/\Cls K C/\eh K C f/\fs.lookup f=some v/\Q v H1):dv K ta f σ H Q:=h
theorem Fj {C:Addr} {sp:Sp} {dvs:List V} {E:XK} {t:TA} {σ:St} {H:Hp} {Q:VK} (h:t σ H fun vs H1=>∀ x dx,H1 x=none->H1 dx=none->dx≠x->sp (.ref x :: (vs++dvs)) (upd (upd H1 dx (.own x)) x (.ins C dx [])) (fun v H2=>v=.non/\Q (.ref x) H2) E):uk C sp dvs E t σ H Q:=h
theorem fD {C:Addr} {m:Str} {sp:Sp} {dvs:List V} {E:XK} {ta:TE} {t:TA} {σ:St} {H:Hp} {Q:VK} (h:ta σ H fun x H1=>∃ a dx fs,x=.ref a/\H1 a=some (.ins C dx fs)/\fs.lookup m=none/\t σ H1 fun vs H2=>sp (x :: (vs++dvs)) H2 Q E):ek C m sp dvs E ta t σ H Q:=h
noncomputable def Kx (x:Addr) (H H':Hp):Prop:=∀ b o,b≠x->H b=some o->H' b=some o
theorem Kx.refl (x:Addr) (H:Hp):Kx x H H:=fun _ _ _ e=>e
theorem Kx.same {x:Addr} {H H1 H2:Hp} (k:Kx x H H1) (s:am H1 H2):Kx x H H2:=fun b o n e=>s _ _ (k b o n e)
theorem Kx.upd {x:Addr} {H H1:Hp} {u:HO} (k:Kx x H H1):Kx x H (L2.upd H1 x u):=fun b o n e=>by rw [aS n]; exact k b o n e
theorem gn {H H':Hp} {x p:Addr} {ws:List (List Nat)} {C dx:Addr} {fs:List (Str×V)} (D:bG H p ws) (hx:H x=some (.ins C dx fs)) (k:Kx x H H'):bG H' p ws:=by
 obtain ⟨rs,e,hr⟩:=D
 refine ⟨rs,k _ _ (fun z=>by rw [z,hx] at e; cases e) e,Paired.mapP hr fun a w e=>k _ _ (fun z=>by rw [z,hx] at e; cases e) e⟩
theorem iY {H:Hp} {x b:Addr} {C dx:Addr} {fs:List (Str×V)} {xs:List V} (hx:H x=some (.ins C dx fs)) (e:H b=some (.lst xs)):b≠x:=fun z=>by rw [z,hx] at e; cases e
theorem mz {R:Hp->Prop} {H:Hp} {a C dx:Addr} {fs:List (Str×V)} (h:∀ H3,Kx a H H3->H3 a=some (.ins C dx fs)->R H3):R (upd H a (.ins C dx fs)):=h _ (Kx.upd (Kx.refl _ _)) aA
structure Kp (M:List Addr) (H H':Hp):Prop where
 k:∀ b o,H b=some o->(b∉M\/∀ xs,o≠.lst xs)->H' b=some o
 f:∀ b,H' b=none->H b=none
theorem Kp.of {M:List Addr} {H H':Hp} (s:am H H'):Kp M H H':=⟨fun b o e _=>s b o e,fun b h=>s.free h⟩
theorem Kp.trans {M:List Addr} {H H1 H2:Hp} (a:Kp M H H1) (b:Kp M H1 H2):Kp M H H2:=⟨fun x o e h=>b.k x o (a.k x o e h) h,fun x h=>a.f x (b.f x h)⟩
theorem Kp.mono {M N:List Addr} {H H':Hp} (a:Kp M H H') (h:∀ b∈M,b∈N):Kp N H H':=⟨fun x o e q=>a.k x o e (q.imp (fun n m=>n (h x m)) id),a.f⟩
theorem Kp.keep {M:List Addr} {H H':Hp} (a:Kp M H H'):gU H H':=fun b xs e=>a.k b _ e (.inr fun _ z=>nomatch z)
theorem Kp.tup {M:List Addr} {H H':Hp} (a:Kp M H H') {b:Addr} {xs:List V} (e:H b=some (.tup xs)):H' b=some (.tup xs):=a.keep _ _ e
theorem Kp.ins {M:List Addr} {H H':Hp} (a:Kp M H H') {b C dx:Addr} {fs:List (Str×V)} (e:H b=some (.ins C dx fs)):H' b=some (.ins C dx fs):=a.k b _ e (.inr fun _ z=>nomatch z)
theorem Kp.lst {M:List Addr} {H H':Hp} (a:Kp M H H') {b:Addr} {o:HO} (n:b∉M) (e:H b=some o):H' b=some o:=a.k b _ e (.inl n)
theorem Kp.new {M:List Addr} {H0 H H':Hp} (s:am H0 H) (a:Kp M H H') (h:∀ b∈M,H0 b=none):am H0 H':=fun b o e=>a.lst (fun m=>by rw [h b m] at e; cases e) (s b o e)
theorem Kp.upd {M:List Addr} {H H':Hp} {l:Addr} {xs ys:List V} (a:Kp M H H') (e:H' l=some (.lst xs)) (hl:l∈M):Kp M H (L2.upd H' l (.lst ys)):=⟨fun b o q n=>by
 by_cases z:b=l
 ·subst z
  have:=a.k _ _ q n
  rw [e] at this
  cases this
  rcases n with n | n
  ·exact absurd hl n
  ·exact absurd rfl (n _)
 ·rw [aS z]
  exact a.k b o q n,fun b h=>by
 by_cases z:b=l
 ·subst z
  rw [aA] at h
  cases h
 ·rw [aS z] at h
  exact a.f b h⟩
theorem Kp.off {M:List Addr} {H H1 H2:Hp} {l:Addr} {xs ys:List V} (a:Kp M H H1) (e:H1 l=some (.lst xs)) (hl:l∈M) (o:Off l H1 H2) (e2:H2 l=some (.lst ys)):Kp M H H2:=by
 have:H2=L2.upd H1 l (.lst ys):=by
  funext b
  by_cases z:b=l
  ·subst z; rw [aA]; exact e2
  ·rw [aS z]; exact o b z
 rw [this]
 exact a.upd e hl
noncomputable def vc (M:List Addr) (H:Hp) (d:V) (m:List Nat×List V):Prop:=∃ t h v,d=.ref t/\H t=some (.tup [.ref h,.ref v])/\H h=some (.tup (au m.1))/\H v=some (.lst m.2)/\v∉M
theorem vc.kp {M N:List Addr} {H H':Hp} {d:V} {m:List Nat×List V} (h:vc M H d m) (a:Kp N H H') (hn:∀ b∈N,b∈M):vc M H' d m:=by
 obtain ⟨t,x,v,e,h1,h2,h3,h4⟩:=h
 exact ⟨t,x,v,e,a.tup h1,a.tup h2,a.lst (fun z=>h4 (hn _ z)) h3,h4⟩
noncomputable def tL (pd ps pv pe:Addr) (T:TM):List (Str×V):=[("dealt",.ref pd),("cards",.int T.c),("sizes",.ref ps),("hands",.int T.k),("views",.ref pv),("deeds",.ref pe)]
structure TbX (G:GF) (M:List Addr) (H:Hp) (x pv pe:Addr) (T:TM) (dx pd ps:Addr) (qs:List Addr) (es:List V):Prop where
 hx:H x=some (.ins G.Table dx (tL pd ps pv pe T))
 dl:bG H pd T.ws
 nd:pd∉M
 sz:H ps=some (.lst (au T.ss))
 ns:ps∉M
 vs:H pv=some (.lst (qs.map V.ref))
 qv:Paired (fun (q:Addr) (v:List Nat)=>H q=some (.lst (au v))/\q∉M) qs T.vw
 pes:H pe=some (.lst es)
 ed:Paired (vc M H) es T.ds
structure Tb (G:GF) (M:List Addr) (H:Hp) (x pv pe:Addr) (T:TM):Prop where
 ok:T.Ok
 ex:∃ dx pd ps qs es,TbX G M H x pv pe T dx pd ps qs es
 ne:pv≠pe
 mv:pv∈M
 me:pe∈M
 al:∀ b∈M,H b≠none
theorem bG.kp {M:List Addr} {H H':Hp} {p:Addr} {ws:List (List Nat)} (d:bG H p ws) (a:Kp M H H') (n:p∉M):bG H' p ws:=d.to' a.keep fun rs e=>a.lst n e
theorem Tb.kp {G:GF} {M N:List Addr} {H H':Hp} {x pv pe:Addr} {T:TM} (t:Tb G M H x pv pe T) (a:Kp N H H') (hn:∀ b∈N,b∈M) (n1:pv∉N) (n2:pe∉N):Tb G M H' x pv pe T:=by
 obtain ⟨dx,pd,ps,qs,es,X⟩:=t.ex
 exact ⟨t.ok,⟨dx,pd,ps,qs,es,a.ins X.hx,X.dl.kp a fun z=>X.nd (hn _ z),X.nd,a.lst (fun z=>X.ns (hn _ z)) X.sz,X.ns,a.lst n1 X.vs,Paired.mapP X.qv fun _ _ ⟨e,n⟩=>⟨a.lst (fun z=>n (hn _ z)) e,n⟩,a.lst n2 X.pes,Paired.mapP X.ed fun _ _ h=>h.kp a hn⟩,t.ne,t.mv,t.me,fun b hb z=>t.al b hb (a.f b z)⟩
theorem Tb.same {G:GF} {M:List Addr} {H H':Hp} {x pv pe:Addr} {T:TM} (t:Tb G M H x pv pe T) (s:am H H'):Tb G M H' x pv pe T:=t.kp (N:=[]) (Kp.of s) (fun _ z=>nomatch z) (fun z=>nomatch z) (fun z=>nomatch z)
theorem Tb.grow {G:GF} {M N:List Addr} {H:Hp} {x pv pe:Addr} {T:TM} (t:Tb G M H x pv pe T) {H':Hp} (s:am H H') (hn:∀ b∈N,H b=none) (ha:∀ b∈N,H' b≠none):Tb G (N++M) H' x pv pe T:=by
 obtain ⟨dx,pd,ps,qs,es,X⟩:=t.ex
 have go:∀ {b:Addr} {o:HO},H b=some o->b∉M->b∉N++M:=fun e n z=>by
  rcases Mr.mp z with z | z
  ·rw [hn _ z] at e; cases e
  ·exact n z
 have hd:pd∉N++M:=by
  obtain ⟨rs,e,_⟩:=X.dl
  exact go e X.nd
 exact ⟨t.ok,⟨dx,pd,ps,qs,es,s _ _ X.hx,X.dl.same' s,hd,s _ _ X.sz,go X.sz X.ns,s _ _ X.vs,Paired.mapP X.qv fun _ _ ⟨e,n⟩=>⟨s _ _ e,go e n⟩,s _ _ X.pes,Paired.mapP X.ed fun _ _ ⟨t,h,v,e,h1,h2,h3,h4⟩=>⟨t,h,v,e,s _ _ h1,s _ _ h2,s _ _ h3,go h3 h4⟩⟩,t.ne,MD _ t.mv,MD _ t.me,fun b hb=>by
  rcases Mr.mp hb with z | z
  ·exact ha b z
  ·intro y
   exact t.al b z (s.free y)⟩
theorem Tb.off {G:GF} {M:List Addr} {H:Hp} {x pv pe:Addr} {T:TM} (t:Tb G M H x pv pe T) {p:Addr} (h:H p=none):p∉M:=fun z=>t.al p z h
theorem Tb.at {G:GF} {M:List Addr} {H:Hp} {x pv pe:Addr} {T:TM} (t:Tb G M H x pv pe T) (m:Str) (h1:(m == "dealt")=false) (h2:(m == "cards")=false) (h3:(m == "sizes")=false) (h4:(m == "hands")=false) (h5:(m == "views")=false) (h6:(m == "deeds")=false):∃ dx fs,H x=some (.ins G.Table dx fs)/\fs.lookup m=none:=by
 obtain ⟨dx,pd,ps,qs,es,X⟩:=t.ex
 refine ⟨dx,_,X.hx,?_⟩
 simp only [tL,O0,h1,h2,h3,h4,h5,h6]
noncomputable def dy (_:Fg) (G:GF):Sp:=fun vs H Q _=>∃ (M:List Addr) (x dx a:Addr) (c:Nat) (ss:List Nat),vs=[.ref x,.int c,.ref a]/\H x=some (.ins G.Table dx [])/\H a=some (.lst (au ss))/\qy c ss/\KM.cE c ss<=2000/\(∀ b∈M,H b≠none)/\x∉M/\
 ∀ (H':Hp) (pv pe:Addr),Kx x H H'->H pv=none->H pe=none->Tb G (pv :: pe :: M) H' x pv pe (TM.begun c ss)->Q .non H'
noncomputable def iZ (K:Fg) (G:GF):TS:=(ap (mY K (ac 0) (av (jM K) [] E0 (aa (ac 1) (aa (ac 2) af))) "dealt")
 (ap (mY K (ac 0) (ac 1) "cards")
 (ap (mY K (ac 0) (tCB (iM K) (aa (ac 2) af)) "sizes")
 (ap (mY K (ac 0) (tCB (bV K) (aa (ac 2) af)) "hands")
 (ap (mY K (ac 0) (bT (cD (aa (dv K (ac 0) "hands") af)) (fun _ _ _ _=>(aj 0)) (fun _ _ _ _=>bB) (fun _ _ _ _=>(av (kf K) [] E0 (aa (dv K (ac 1) "dealt") (aa (ac 0) af)))) [none,some 0]) "views")
 (mY K (ac 0) (fT af) "deeds"))))))
noncomputable abbrev Ax:List Str:=["self","cards","sizes"]
theorem Ay {α β:Type} {F:α->β->Prop} {l:List α} {m:List β} {a:α} {b:β} (h:Paired F l m) (q:F a b):Paired F (l++[a]) (m++[b]):=by
 induction h with
 | nil=>exact .cons q .nil
 | cons x _ ih=>exact .cons x ih
theorem Az {R:Addr->List Nat->Prop}:∀ {acc:List V} {f:Nat->List Nat},(∀ j:Nat,j < acc.length->∃ q,acc[j]?=some (.ref q)/\R q (f j))->∃ qs:List Addr,acc=qs.map V.ref/\Paired R qs ((LV acc.length).map f)
 | [],_,_=>⟨[],rfl,.nil⟩
 | x :: acc,f,h=>by
  obtain ⟨qs,e,p⟩:=Az (acc:=acc) (f:=fun j=>f (j + 1)) fun j hj=>by
   obtain ⟨q,h1,h2⟩:=h (j + 1) (by rw [Ml]; omega)
   exact ⟨q,by simpa using h1,h2⟩
  obtain ⟨q,h1,h2⟩:=h 0 (by simp)
  refine ⟨q :: qs,by rw [LZ,<-e]; exact congrArg (· :: acc) (by simpa using h1),?_⟩
  rw [Ml,Se,LZ,Oy]
  exact .cons h2 p
theorem yo {K:Fg} {G:GF} (ct:oT K G.Table) {vs:List V} {H:Hp} {Q:VK} {E:XK} (h:dy K G vs H Q E):iZ K G { nx:=fun _ H'=>Q .non H',rt:=Q } (start Ax vs) H:=by
 obtain ⟨M,x,dx,a,c,ss,rfl,hx,e,pk,hm,hM,hxM,q⟩:=h
 have nk:∀ {H1:Hp} {b:Addr} {fs:List (Str×V)},Kx x H H1->H1 x=some (.ins G.Table dx fs)->H1 b=none->H b=none:=fun {H1 b fs} kk ex eb=>by
  cases e:H b with
  | none=>rfl
  | some o=>
   by_cases z:b=x
   ·rw [z,ex] at eb; cases eb
   ·rw [kk _ _ z e] at eb; cases eb
 have h5:=pk.l5
 have nxa:a≠x:=fun z=>by rw [z,hx] at e; cases e
 show iZ K G _ [some _,some _,some _] _
 unfold iZ
 refine bR (j8 ?_)
 walk_at "rd"
 refine ⟨c,a,ss,rfl,e,pk,hm,fun p H1 s1 hp D1=>?_⟩
 have okT:=TM.Ok.begun pk hm
 have hws:∀ w∈KM.cq (ss++[c - ss.sum]) c,w.length<=1000:=fun w hw=>by
  have:=(KM.gZ _ c w hw).len
  have:=pk.c12
  omega
 have hwl:(KM.cq (ss++[c - ss.sum]) c).length<=2000:=by rw [KM.m6 pk.sum]; exact hm
 obtain ⟨ws,hWs⟩:∃ ws,ws=KM.cq (ss++[c - ss.sum]) c:=⟨_,rfl⟩
 rw [<-hWs] at hws hwl D1
 walk_at "rd"
 refine ⟨x,G.Table,dx,[],rfl,s1 _ _ hx,ct.cl,ct.n1,by simp,mz fun H2 l2 x2=>?_⟩
 have k2:Kx x H H2:=fun b o n e=>l2 _ _ n (s1 _ _ e)
 have D2:=gn D1 (s1 _ _ hx) l2
 refine bR (j8 ?_)
 walk_at "rd"
 refine ⟨x,G.Table,dx,_,rfl,x2,ct.cl,ct.n2,Og rfl,mz fun H3 l3 x3=>?_⟩
 have k3:Kx x H H3:=fun b o n e=>l3 _ _ n (k2 _ _ n e)
 have D3:=gn D2 x2 l3
 refine bR (j8 ?_)
 walk_at "rd"
 refine lj (SqL.of (k3 _ _ nxa e)) fun l4 H4 hl4 s4 e4=>?_
 have nxl:l4≠x:=iY (s4 _ _ x3) e4
 walk_at "rd"
 refine ⟨x,G.Table,dx,_,rfl,s4 _ _ x3,ct.cl,ct.n3,Og rfl,mz fun H5 l5 x5=>?_⟩
 have k5:Kx x H H5:=fun b o n e=>l5 _ _ n (s4 _ _ (k3 _ _ n e))
 have D5:=gn (D3.same' s4) (s4 _ _ x3) l5
 have a5:=k5 _ _ nxa e
 refine bR (j8 ?_)
 walk_at "rd"
 rw [bh]
 refine ⟨x,G.Table,dx,_,rfl,x5,ct.cl,ct.n4,Og rfl,mz fun H6 l6 x6=>?_⟩
 have k6:Kx x H H6:=fun b o n e=>l6 _ _ n (k5 _ _ n e)
 have D6:=gn D5 x5 l6
 have e46:H6 l4=some (.lst (au ss)):=l6 _ _ nxl (l5 _ _ nxl e4)
 refine bR (j8 ?_)
 walk_at "rd"
 refine cM ?_
 walk_at "rd"
 refine ⟨x,G.Table,dx,_,_,rfl,x6,ct.cl,ct.n4,rfl,?_⟩
 walk_at "rd"
 refine qK ss.length (by omega) (by omega) (by omega) (fun p' i acc H2=>acc.length=i/\∀ j:Nat,j < i->∃ q,acc[j]?=some (.ref q)/\(q≠p'/\q∉M)/\H2 q=some (.lst (au (lw ws (j:Int))))) (fun _ _ _=>⟨rfl,fun j hj=>absurd hj (N4 _)⟩) ?_ ?_
 ·intro p' hp' C s' H' fp i acc H7 hi ⟨s7,e7,l7,r7⟩
  walk_at "rd"
  refine cM ?_
  walk_at "rd"
  refine ⟨x,G.Table,dx,_,_,rfl,s7 _ _ x6,ct.cl,ct.n1,rfl,?_⟩
  walk_at "rd"
  refine ⟨p,ws,(i:Int),rfl,D6.same' s7,hws,by omega,fun q8 H8 hq8 s8 e8=>?_⟩
  obtain ⟨r1,r2⟩:=r7
  refine bn.putW hp' (s7.trans s8) (s8 _ _ e7) l7 fun H9 o9=>⟨by rw [L7,r1]; rfl,fun j hj=>?_⟩
  by_cases hj2:j < i
  ·obtain ⟨q,h1,h2,h3⟩:=r2 j hj2
   exact ⟨q,by rw [Oh (by omega)]; exact h1,h2,(o9 _ h2.1).trans (s8 _ _ h3)⟩
  ·have ej:j=i:=by omega
   subst ej
   have hqp:q8≠p':=fun z=>by rw [z,e7] at hq8; cases hq8
   exact ⟨q8,by rw [OE (by omega),r1,Qx]; rfl,⟨hqp,fun z=>hM _ z (nk (k6.same s7) (s7 _ _ x6) hq8)⟩,(o9 _ hqp).trans e8⟩
 ·intro pv acc H7 hpv s7 e7 ⟨r1,r2⟩
  walk_at "rd"
  refine ⟨x,G.Table,dx,_,rfl,s7 _ _ x6,ct.cl,ct.n5,Og rfl,mz fun H8 kk x8=>?_⟩
  have k8:Kx x H H8:=fun b o n e=>kk _ _ n (s7 _ _ (k6 _ _ n e))
  have D8:=gn (D6.same' s7) (s7 _ _ x6) kk
  have v8:=kk _ _ (iY (s7 _ _ x6) e7) e7
  refine j8 ?_
  walk_at "rd"
  refine ⟨by simp [LP],fun pe H9 hpe s9 e9=>?_⟩
  walk_at "rd"
  refine ⟨x,G.Table,dx,_,rfl,s9 _ _ x8,ct.cl,ct.n6,Og rfl,mz fun HA kz xA=>?_⟩
  have kA:Kx x H HA:=fun b o n e=>kz _ _ n (s9 _ _ (k8 _ _ n e))
  have gv:=nk k6 x6 hpv
  have ge:=nk k8 x8 hpe
  have npv:pv≠pe:=aV v8 hpe
  have npd:p∉pv :: pe :: M:=fun z=>by
   obtain ⟨rs6,er6,_⟩:=id D6
   rcases LI.mp z with z | z
   ·rw [z] at er6; rw [er6] at hpv; cases hpv
   ·rcases LI.mp z with z | z
    ·obtain ⟨rs8,er8,_⟩:=id D8
     rw [z] at er8; rw [er8] at hpe; cases hpe
    ·exact hM _ z hp
  have e48:=kk _ _ nxl (s7 _ _ e46)
  have nps:l4∉pv :: pe :: M:=fun z=>by
   rcases LI.mp z with z | z
   ·rw [z] at e46; rw [e46] at hpv; cases hpv
   ·rcases LI.mp z with z | z
    ·rw [z] at e48; rw [e48] at hpe; cases hpe
    ·exact hM _ z (nk k3 x3 hl4)
  have rr:=Az (R:=fun q v=>(q≠pv/\q∉M)/\H8 q=some (.lst (au v))) (f:=fun j=>lw ws ((j:Nat):Int)) (fun j hj=>by
   obtain ⟨q,h1,h2,h3⟩:=r2 j (by rw [<-r1]; exact hj)
   exact ⟨q,h1,h2,kk _ _ (iY (s7 _ _ x6) h3) h3⟩)
  rw [r1] at rr
  obtain ⟨qs,rfl,hqs⟩:=rr
  have up:∀ {b:Addr} {xs:List V},H8 b=some (.lst xs)->HA b=some (.lst xs):=fun e=>kz _ _ (iY (s9 _ _ x8) (s9 _ _ e)) (s9 _ _ e)
  have pe9:=kz _ _ (iY (s9 _ _ x8) e9) e9
  refine q HA pv pe kA gv ge ⟨okT,⟨dx,p,l4,qs,[],xA,?_,npd,up e48,nps,up v8,?_,pe9,.nil⟩,npv,LK,LQ _ LK,fun b hb y=>?_⟩
  ·show bG _ p (KM.cq (ss++[c - ss.sum]) c)
   rw [<-hWs]
   exact gn (D8.same' s9) (s9 _ _ x8) kz
  ·show Paired _ qs ((LV ss.length).map fun i=>lw (KM.cq (ss++[c - ss.sum]) c) ((i:Nat):Int))
   rw [<-hWs]
   refine Paired.mapP hqs fun a' v ⟨h2,h3⟩=>⟨up h3,fun z=>?_⟩
   rcases LI.mp z with z | z
   ·exact h2.1 z
   ·rcases LI.mp z with z | z
    ·rw [z] at h3; rw [h3] at hpe; cases hpe
    ·exact h2.2 z
  ·rcases LI.mp hb with z | z
   ·rw [z,up v8] at y; cases y
   ·rcases LI.mp z with z | z
    ·rw [z,pe9] at y; cases y
    ·cases eb:H b with
     | none=>exact hM b z eb
     | some o=>rw [kA b o (fun w=>hxM (w ▸ z)) eb] at y; cases y
end
section
open KF
theorem TbX.view {G:GF} {M:List Addr} {H:Hp} {x pv pe:Addr} {T:TM} {dx pd ps:Addr} {qs:List Addr} {es:List V} (X:TbX G M H x pv pe T dx pd ps qs es) {i:Nat} (hi:i < T.vw.length):∃ qi,qs[i]?=some qi/\H qi=some (.lst (au (T.vw.getD i [])))/\qi∉M:=by
 have lq:qs.length=T.vw.length:=My X.qv
 have hq:qs[i]?=some (qs[i]'(by omega)):=LD _
 obtain ⟨v,hv,h1,h2⟩:=cf X.qv hq
 exact ⟨_,hq,by rw [kZ hv]; exact h1,h2⟩
noncomputable def fE (_:Fg) (G:GF):Sp:=fun vs H Q _=>∃ (M:List Addr) (x pv pe:Addr) (T:TM) (i:Nat),vs=[.ref x,.int i]/\Tb G M H x pv pe T/\i < T.k/\∀ (p:Addr) (H':Hp),H p=none->am H H'->H' p=some (.lst (au (T.vw.getD i [])))->Q (.ref p) H'
noncomputable def i3 (K:Fg) (G:GF):TS:=(ap (ee (av (cv K) [] E0 (aa (av (de K) [] E0 (aa (ac 1) (aa (dv K (ac 0) "hands") af))) (aa (tC (.str "this is no hand")) af))))
 (aI (tCB (iM K) (aa (tOp (bY K) (dv K (ac 0) "views") (ac 1)) af))))
noncomputable abbrev AA:List Str:=["self","hand"]
theorem yp {K:Fg} {G:GF} (ct:oT K G.Table) {vs:List V} {H:Hp} {Q:VK} {E:XK} (h:fE K G vs H Q E):i3 K G { nx:=fun _ H'=>Q .non H',rt:=Q } (start AA vs) H:=by
 obtain ⟨M,x,pv,pe,T,i,rfl,t,hi,q⟩:=h
 obtain ⟨dx,pd,ps,qs,es,X⟩:=t.ex
 show i3 K G _ [some _,some _] _
 unfold i3
 walk_at "rd"
 refine cM ?_
 walk_at "rd"
 refine ⟨x,G.Table,dx,_,_,rfl,X.hx,ct.cl,ct.n4,rfl,?_⟩
 walk_at "rd"
 refine ⟨(i:Int),(T.k:Int),rfl,?_⟩
 rw [gk (by omega) (by omega)]
 walk_at "rd"
 refine ⟨_,rfl,?_⟩
 walk_at "rd"
 refine cM ?_
 walk_at "rd"
 refine ⟨x,G.Table,dx,_,_,rfl,X.hx,ct.cl,ct.n5,rfl,?_⟩
 walk_at "rd"
 obtain ⟨qi,hq,h2,_⟩:=X.view (i:=i) (by rw [t.ok.len]; exact hi)
 refine bK (SqL.of X.vs) (ck (v:=.ref qi) (by rw [LU,hq]; rfl)) ?_
 walk_at "rd"
 refine lj (SqL.of h2) fun p H1 hp s1 e1=>?_
 exact q p H1 hp s1 e1
noncomputable def Tld (G:GF) (M:List Addr) (H:Hp) (x pv pe:Addr) (T:TM) (ys:List V) (Q:VK):Prop:=∀ p Hm H',Kp [pv,pe] H Hm->Tb G M Hm x pv pe T->Hm p=none->am Hm H'->H' p=some (.lst ys)->Q (.ref p) H'
theorem vd {G:GF} {M:List Addr} {H:Hp} {x pv pe:Addr} {T:TM} {ys:List V} {Q:VK} (h:∀ p H',H p=none->Kp [pv,pe] H H'->H' p=some (.lst ys)->Tb G M H' x pv pe T->Q (.ref p) H'):Tld G M H x pv pe T ys Q:=fun p _ H' k t hp s e=>h p H' (k.f _ hp) (k.trans (Kp.of s)) e (t.same s)
theorem Tld.up {G:GF} {M:List Addr} {H H0:Hp} {x pv pe:Addr} {T:TM} {ys:List V} {Q:VK} (h:Tld G M H0 x pv pe T ys Q) (s:am H0 H):Tld G M H x pv pe T ys Q:=fun p Hm H' k t hp s' e=>h p Hm H' ((Kp.of s).trans k) t hp s' e
noncomputable def gL (_:Fg) (G:GF):Sp:=fun vs H Q _=>∃ (M:List Addr) (x pv pe tp vp:Addr) (T:TM) (g:List Nat) (as:List IA) (ys:List V),vs=[.ref x,.ref tp,.ref vp]/\Tb G M H x pv pe T/\H tp=some (.tup (au g))/\(∀ h∈g,h < T.k)/\H vp=some (.lst ys)/\vp∉M/\ys.map iaV=as.map some/\as.length=T.n/\T.ds.length < 1000/\
 Tld G M H x pv pe (T.learn g as ys) ys Q
noncomputable def h7 (K:Fg) (G:GF):TS:=(ap (cu (wx K (ac 1)) (aj 3) (aE (av (tI K) [] E0 (aa (tOp (bY K) (dv K (ac 0) "views") (ac 3)) (aa (ac 2) af))) (oq (dv K (ac 0) "views") (ac 3) kG)))
 (ap (ee (tBM K "list" iF (dv K (ac 0) "deeds") (aa (cG (aa (ac 1) (aa (ac 2) af))) af)))
 (aI (tCB (iM K) (aa (ac 2) af)))))
noncomputable abbrev yq:List Str:=["self","hands","values","hand"]
theorem HR {n j:Nat} (h:j < n):ixN n (j:Int)=some j:=by
 unfold ixN
 rw [if_pos (by omega),if_pos (by omega)]
 simp
theorem CZ {α β:Type} {F:α->β->Prop} {l:List α} {m:List β} (h:Paired F l m) {a:α} {b:β} (r:F a b):∀ i:Nat,Paired F (l.set i a) (m.set i b):=by
 induction h with
 | nil=>exact fun i=>.nil
 | cons r' t ih=>
  intro i
  cases i with
  | zero=>exact .cons r t
  | succ i=>exact .cons r' (ih i)
theorem wO {K:Fg} {G:GF} (ct:oT K G.Table) {vs:List V} {H:Hp} {Q:VK} {E:XK} (h:gL K G vs H Q E):h7 K G { nx:=fun _ H'=>Q .non H',rt:=Q } (start yq vs) H:=by
 obtain ⟨M,x,pv,pe,tp,vp,T,g,as,ys,rfl,t,et,hg,evp,nvp,hia,hla,hds,q⟩:=h
 obtain ⟨dx,pd,ps,qs,es,X⟩:=t.ex
 have n2:=t.ok.n2
 show h7 K G _ [some _,some _,some _,none] _
 unfold h7
 walk_at "rd"
 have me1:pv∈[pv,pe]:=LK
 have me2:pe∈[pv,pe]:=LQ _ LK
 have sub:∀ b∈[pv,pe],b∈M:=fun b hb=>by
  rcases LI.mp hb with z | z
  ·rw [z]; exact t.mv
  ·rw [LG.mp z]; exact t.me
 have nvp':vp∉[pv,pe]:=fun z=>nvp (sub _ z)
 refine zL (au g) (SqT.of et) (fun j σ' H2=>∃ (u:Option V) (qs2:List Addr),σ'=[some (.ref x),some (.ref tp),some (.ref vp),u]/\Kp [pv] H H2/\H2 pv=some (.lst (qs2.map V.ref))/\Paired (fun (q:Addr) (v:List Nat)=>H2 q=some (.lst (au v))/\q∉M) qs2 (lrn T.vw (g.take j) as)) ⟨none,qs,rfl,Kp.of (am.refl _),X.vs,X.qv⟩ ?_ ?_ ?_
 ·rintro j σ' H2 hj ⟨u,qs2,rfl,k2,_⟩
  exact SqT.of (k2.tup et)
 ·rintro j y σ' H2 hy ⟨u,qs2,rfl,k2,e2,p2⟩
  obtain ⟨hd,hh,rfl⟩:=iH hy
  have hk:=hg hd (LX hh)
  have hx2:=k2.ins X.hx
  have lq:qs2.length=T.vw.length:=by rw [My p2,rM]
  have hdl:hd < qs2.length:=by rw [lq,t.ok.len]; exact hk
  have hq:qs2[hd]?=some (qs2[hd]'hdl):=LD _
  generalize qs2[hd]'hdl=qi at hq
  obtain ⟨v,hv,h1,h2⟩:=cf p2 hq
  have hvw:Within T.n v:=rN (P:=Within T.n) (fun v hv=>qJ hv hla) (g.take j) T.vw (fun h hh=>by rw [t.ok.len]; exact hg h (List.mem_of_mem_take hh)) t.ok.win v (LX hv)
  walk_at "rd"
  refine cM ?_
  walk_at "rd"
  refine ⟨x,G.Table,dx,_,_,rfl,hx2,ct.cl,ct.n5,rfl,?_⟩
  walk_at "rd"
  refine bK (SqL.of e2) (ck (v:=.ref qi) (by rw [LU,hq]; rfl)) ?_
  walk_at "rd"
  refine ⟨qi,vp,v,ys,as,rfl,h1,k2.lst (fun z=>nvp' (by rw [LG.mp z]; exact me1)) evp,hia,by rw [hvw.1,hla],by rw [hvw.1]; omega,fun q' H3 hq' s3 e3=>?_⟩
  walk_at "rd"
  refine cM ?_
  walk_at "rd"
  refine ⟨x,G.Table,dx,_,_,rfl,s3 _ _ hx2,ct.cl,ct.n5,rfl,?_⟩
  walk_at "rd"
  refine nD (s3 _ _ e2) (HR (by rw [LF]; exact hdl)) ?_
  have nq:q'≠pv:=(aV e2 hq').symm
  have nqM:q'∉M:=fun z=>t.al _ z (k2.f _ hq')
  refine ⟨_,qs2.set hd q',rfl,(k2.trans (Kp.of s3)).upd (s3 _ _ e2) (LG.mpr rfl),by rw [aA,List.map_set],?_⟩
  rw [dh hh,Gv,kZ hv]
  refine CZ (Paired.mapP p2 fun a w ⟨z1,z2⟩=>⟨?_,z2⟩) ⟨by rw [aS nq]; exact e3,nqM⟩ hd
  rw [aS (show a≠pv from fun z=>z2 (by rw [z]; exact t.mv))]
  exact s3 _ _ z1
 ·rintro σ' H2 ⟨u,qs2,rfl,k2,e2,p2⟩
  rw [bh,Mx] at p2
  have hx2:=k2.ins X.hx
  have ee2:=k2.lst (fun z=>t.ne (LG.mp z).symm) X.pes
  walk_at "rd"
  refine cM ?_
  walk_at "rd"
  refine ⟨x,G.Table,dx,_,_,rfl,hx2,ct.cl,ct.n6,rfl,?_⟩
  refine ⟨.inl ⟨rfl,_,SqL.of ee2⟩,?_⟩
  walk_at "rd"
  refine ⟨by simp [LP],fun p3 H3 hp3 s3 e3=>?_⟩
  walk_at "rd"
  have les:es.length=T.ds.length:=My X.ed
  refine li (s3 _ _ ee2) (by rw [LP]; omega) fun H4 o4 e4=>?_
  have k4:Kp [pv,pe] H H4:=((k2.mono fun b hb=>by rw [LG.mp hb]; exact me1).trans (Kp.of s3)).off (s3 _ _ ee2) me2 o4 e4
  walk_at "rd"
  refine lj (SqL.of (k4.lst nvp' evp)) fun p5 H5 hp5 s5 e5=>?_
  have keep4:∀ {b:Addr} {o:HO},b≠pe->H2 b=some o->H4 b=some o:=fun nb e=>(o4 _ nb).trans (s3 _ _ e)
  refine q p5 H4 H5 k4 ⟨t.ok.learn hg hla,⟨dx,pd,ps,qs2,es++[.ref p3],k4.ins X.hx,X.dl.kp k4 fun z=>X.nd (sub _ z),X.nd,k4.lst (fun z=>X.ns (sub _ z)) X.sz,X.ns,keep4 t.ne e2,Paired.mapP p2 fun a w ⟨z1,z2⟩=>⟨keep4 (show a≠pe from fun z=>z2 (by rw [z]; exact t.me)) z1,z2⟩,e4,?_⟩,t.ne,t.mv,t.me,fun b hb z=>t.al b hb (k4.f b z)⟩ hp5 s5 e5
  refine Ay (Paired.mapP X.ed fun _ _ h=>h.kp k4 sub) ⟨p3,tp,vp,rfl,?_,k4.tup et,k4.lst nvp' evp,nvp⟩
  exact (o4 _ (fun z=>by rw [z] at hp3; rw [ee2] at hp3; cases hp3)).trans e3
noncomputable def i4 (_:Fg) (G:GF):Sp:=fun vs H Q _=>∃ (M:List Addr) (x pv pe:Addr) (T:TM) (v:V) (s:Sy),vs=[.ref x,v]/\Tb G M H x pv pe T/\aN H v s/\s.Ok T.c T.k/\s.words<=30/\
 ∀ p H',H p=none->am H H'->H' p=some (.lst (blV T.n (T.tr s)))->Q (.ref p) H'
noncomputable def gM (K:Fg) (G:GF):TS:=(ap (bq (fS (tB (av (lx K) [] E0 (aa (dv K (ac 0) "cards") (aa (dv K (ac 0) "hands") (aa (ac 1) af)))))) qe aZ)
 (aI (av (b9 K 35) [] E0 (aa (dv K (ac 0) "dealt") (aa (dv K (ac 0) "views") (aa (ac 1) af))))))
noncomputable abbrev wP:List Str:=["self","S"]
theorem Tb.tab {G:GF} {M:List Addr} {H:Hp} {x pv pe:Addr} {T:TM} {dx pd ps:Addr} {qs:List Addr} {es:List V} (ok:T.Ok) (X:TbX G M H x pv pe T dx pd ps qs es):Table H pd pv T.c T.n T.ws T.vw:=
 ⟨X.dl,rfl,ok.cards,by have:=ok.n2; omega,by have:=ok.pk.c12; omega,⟨qs,X.vs,Paired.mapP X.qv fun _ _ h=>h.1⟩,ok.win,by rw [ok.len]; have:=ok.pk.l5; show T.ss.length<=1000; omega⟩
theorem ve {K:Fg} {G:GF} (ct:oT K G.Table) {vs:List V} {H:Hp} {Q:VK} {E:XK} (h:i4 K G vs H Q E):gM K G { nx:=fun _ H'=>Q .non H',rt:=Q } (start wP vs) H:=by
 obtain ⟨M,x,pv,pe,T,v,s,rfl,t,hS,hok,hw,q⟩:=h
 obtain ⟨dx,pd,ps,qs,es,X⟩:=t.ex
 show gM K G _ [some _,some _] _
 unfold gM
 walk_at "rd"
 refine cM ?_
 walk_at "rd"
 refine ⟨x,G.Table,dx,_,_,rfl,X.hx,ct.cl,ct.n2,rfl,?_⟩
 walk_at "rd"
 refine cM ?_
 walk_at "rd"
 refine ⟨x,G.Table,dx,_,_,rfl,X.hx,ct.cl,ct.n4,rfl,?_⟩
 walk_at "rd"
 refine ⟨T.c,T.k,v,s,rfl,hS,hok,hw,fun H1 s1=>?_⟩
 have x1:=s1 _ _ X.hx
 walk_at "rd"
 refine cM ?_
 walk_at "rd"
 refine ⟨x,G.Table,dx,_,_,rfl,x1,ct.cl,ct.n1,rfl,?_⟩
 walk_at "rd"
 refine cM ?_
 walk_at "rd"
 refine ⟨x,G.Table,dx,_,_,rfl,x1,ct.cl,ct.n5,rfl,?_⟩
 walk_at "rd"
 refine ⟨pd,pv,v,T.c,T.n,T.ws,T.vw,s,rfl,(Tb.tab t.ok X).same s1,hS.keep s1.keep,by rw [t.ok.len]; exact hok,by omega,fun p H2 hp2 s2 e2=>?_⟩
 walk_at "rd"
 exact q p H2 (s1.free hp2) (s1.trans s2) e2
noncomputable def d6 (_:Fg) (G:GF):Sp:=fun vs H Q _=>∃ (M:List Addr) (x pv pe tp:Addr) (T:TM) (g:List Nat) (v:V) (s:Sy),vs=[.ref x,.ref tp,v]/\Tb G M H x pv pe T/\H tp=some (.tup (au g))/\g.Pairwise (· < ·)/\(∀ h∈g,h < T.k)/\aN H v s/\s.Ok T.c T.k/\s.words<=30/\T.ds.length < 1000/\
 Tld G M H x pv pe (T.word g s) (blV T.n (T.tr s)) Q
noncomputable def i5 (K:Fg) (G:GF):TS:=(ap (ee (av (cv K) [] E0 (aa (av (iS K) [] E0 (aa (ac 1) (aa (dv K (ac 0) "hands") af))) (aa (tC (.str "this is no tuple of hands")) af))))
 (aI (ek G.Table "learn" (gL K G) [] E0 (ac 0) (aa (ac 1) (aa (ek G.Table "truths" (i4 K G) [] E0 (ac 0) (aa (ac 2) af)) af)))))
noncomputable abbrev AB:List Str:=["self","hands","S"]
theorem yr {K:Fg} {G:GF} (ct:oT K G.Table) {vs:List V} {H:Hp} {Q:VK} {E:XK} (h:d6 K G vs H Q E):i5 K G { nx:=fun _ H'=>Q .non H',rt:=Q } (start AB vs) H:=by
 obtain ⟨M,x,pv,pe,tp,T,g,v,s,rfl,t,et,pw,hg,hS,hok,hw,hds,q⟩:=h
 obtain ⟨dx,pd,ps,qs,es,X⟩:=t.ex
 show i5 K G _ [some _,some _,some _] _
 unfold i5
 walk_at "rd"
 refine cM ?_
 walk_at "rd"
 refine ⟨x,G.Table,dx,_,_,rfl,X.hx,ct.cl,ct.n4,rfl,?_⟩
 walk_at "rd"
 refine ⟨tp,g,T.k,rfl,et,pw,hg,?_⟩
 walk_at "rd"
 refine ⟨_,rfl,?_⟩
 walk_at "rd"
 obtain ⟨dx1,fs1,hx1,hl1⟩:=t.at "learn" (by decide +kernel) (by decide +kernel) (by decide +kernel) (by decide +kernel) (by decide +kernel) (by decide +kernel)
 refine fD ?_
 walk_at "rd"
 refine ⟨x,dx1,fs1,rfl,hx1,hl1,?_⟩
 walk_at "rd"
 obtain ⟨dx2,fs2,hx2,hl2⟩:=t.at "truths" (by decide +kernel) (by decide +kernel) (by decide +kernel) (by decide +kernel) (by decide +kernel) (by decide +kernel)
 refine fD ?_
 walk_at "rd"
 refine ⟨x,dx2,fs2,rfl,hx2,hl2,?_⟩
 walk_at "rd"
 refine ⟨M,x,pv,pe,T,v,s,rfl,t,hS,hok,hw,fun p1 H1 hp1 s1 e1=>?_⟩
 walk_at "rd"
 refine ⟨M,x,pv,pe,tp,p1,T,g,_,_,rfl,t.same s1,s1 _ _ et,hg,e1,t.off hp1,Kl _ _,B6 _ _,hds,fun p2 Hm H2 k2 t2 hp2 s2 e2=>?_⟩
 walk_at "rd"
 exact q p2 Hm H2 ((Kp.of s1).trans k2) t2 hp2 s2 e2
noncomputable def vf (w:List Nat) (h:Int) (ns:List Int):IA:=(ns.filter fun c=>decide (wAt w c=h)).min?
theorem Fk (w:List Nat) (h:Int) (ns:List Int):qO w h ns (vf w h ns):=by
 unfold vf
 cases e:(ns.filter fun c=>decide (wAt w c=h)).min? with
 | none=>
  rw [List.min?_eq_none_iff] at e
  refine .inl ⟨rfl,fun c hc z=>?_⟩
  have:c∈ns.filter fun c=>decide (wAt w c=h):=Oj.mpr ⟨hc,decide_eq_true z⟩
  rw [e] at this
  cases this
 | some m=>
  rw [List.min?_eq_some_iff] at e
  obtain ⟨h1,h2⟩:=e
  obtain ⟨h3,h4⟩:=Oj.mp h1
  exact .inr ⟨m,rfl,h3,of_decide_eq_true h4,fun d hd z=>h2 d (Oj.mpr ⟨hd,decide_eq_true z⟩)⟩
noncomputable def j9 (ws:List (List Nat)) (h:Int) (ns:List Int):List IA:=ws.map fun w=>vf w h ns
noncomputable def TM.show (T:TM) (i:Nat) (h:Int) (ns:List Int):TM:=T.learn [i] (j9 T.ws h ns) ((j9 T.ws h ns).map iaR)
noncomputable def kj (_:Fg) (G:GF):Sp:=fun vs H Q _=>∃ (M:List Addr) (x pv pe l:Addr) (T:TM) (i:Nat) (h:Int) (ns:List Int),vs=[.ref x,.int i,.int h,.ref l]/\Tb G M H x pv pe T/\H l=some (.lst (ns.map V.int))/\i < T.k/\0<=h/\h<=T.k/\ns.length < 64/\(∀ n∈ns,0<=n/\n < T.c)/\T.ds.length < 1000/\
 Tld G M H x pv pe (T.show i h ns) ((j9 T.ws h ns).map iaR) Q
noncomputable def i6 (K:Fg) (G:GF):TS:=(ap (ee (av (cv K) [] E0 (aa (av (de K) [] E0 (aa (ac 1) (aa (dv K (ac 0) "hands") af))) (aa (tC (.str "this is no hand")) af))))
 (ap (ee (av (cv K) [] E0 (aa (av (de K) [] E0 (aa (ac 2) (aa (tOp (rI0 fun i j=>.int (i + j)) (dv K (ac 0) "hands") (tC (.int 1))) af))) (aa (tC (.str "this is no holder")) af))))
 (ap (ee (av (cv K) [] E0 (aa (av (lz K) [] E0 (aa (ac 3) (aa (dv K (ac 0) "cards") af))) (aa (tC (.str "this is no list of cards")) af))))
 (ap (aE (tJ K (aa (ac 3) af)) (aj 4))
 (aI (ek G.Table "learn" (gL K G) [] E0 (ac 0) (aa (cG (aa (ac 1) af)) (aa (bT (dt K (dv K (ac 0) "dealt")) (fun _ _ _ _=>(aj 0)) (fun _ _ _ _=>bB) (fun _ _ _ _=>(av (ki K) [] E0 (aa (ac 0) (aa (ac 1) (aa (ac 2) af))))) [none,some 2,some 4]) af))))))))
noncomputable abbrev AC:List Str:=["self","hand","holder","some","rising"]
theorem yt {K:Fg} {G:GF} (ct:oT K G.Table) {vs:List V} {H:Hp} {Q:VK} {E:XK} (h:kj K G vs H Q E):i6 K G { nx:=fun _ H'=>Q .non H',rt:=Q } (start AC vs) H:=by
 obtain ⟨M,x,pv,pe,l,T,i,h,ns,rfl,t,el,hi,h0,h1,hns,hnb,hds,q⟩:=h
 obtain ⟨dx,pd,ps,qs,es,X⟩:=t.ex
 have n2:=t.ok.n2
 show i6 K G _ [some _,some _,some _,some _,none] _
 unfold i6
 walk_at "rd"
 refine cM ?_
 walk_at "rd"
 refine ⟨x,G.Table,dx,_,_,rfl,X.hx,ct.cl,ct.n4,rfl,?_⟩
 walk_at "rd"
 refine ⟨(i:Int),(T.k:Int),rfl,?_⟩
 rw [gk (by omega) (by omega)]
 walk_at "rd"
 refine ⟨_,rfl,?_⟩
 walk_at "rd"
 refine cM ?_
 walk_at "rd"
 refine ⟨x,G.Table,dx,_,_,rfl,X.hx,ct.cl,ct.n4,rfl,?_⟩
 walk_at "rd"
 refine ⟨h,(T.k:Int) + 1,rfl,?_⟩
 rw [gk (by omega) (by omega)]
 walk_at "rd"
 refine ⟨_,rfl,?_⟩
 walk_at "rd"
 refine cM ?_
 walk_at "rd"
 refine ⟨x,G.Table,dx,_,_,rfl,X.hx,ct.cl,ct.n2,rfl,?_⟩
 walk_at "rd"
 refine ⟨l,ns,(T.c:Int),rfl,el,by omega,hnb,fun H1 s1=>?_⟩
 walk_at "rd"
 refine ⟨_,rfl,?_⟩
 walk_at "rd"
 refine Ff ?_
 walk_at "rd"
 refine ⟨l,ns,rfl,SqL.of (s1 _ _ el),hns,fun rp H2 ms hrp s2 e2 pw mm=>?_⟩
 have s12:=s1.trans s2
 have t2:=t.same s12
 walk_at "rd"
 obtain ⟨dx1,fs1,hx1,hl1⟩:=t2.at "learn" (by decide +kernel) (by decide +kernel) (by decide +kernel) (by decide +kernel) (by decide +kernel) (by decide +kernel)
 refine fD ?_
 walk_at "rd"
 refine ⟨x,dx1,fs1,rfl,hx1,hl1,?_⟩
 walk_at "rd"
 refine ⟨by simp [LP],fun tp H3 htp s3 e3=>?_⟩
 walk_at "rd"
 refine cM ?_
 walk_at "rd"
 have s13:=s12.trans s3
 refine ⟨x,G.Table,dx,_,_,rfl,s13 _ _ X.hx,ct.cl,ct.n1,rfl,?_⟩
 obtain ⟨rs,er,hr⟩:=X.dl.same' s13
 have lr:rs.length=T.n:=My hr
 refine fN (rs.map V.ref) (SqL.of er) (by rw [LF]; omega) (fun j acc _=>acc=(j9 (T.ws.take j) h ns).map iaR) (fun H' _=>rfl) ?_ ?_
 ·rintro p' hp' C s' H' fp j xx acc H6 hxx ⟨s6,e6,l6,rfl⟩
  obtain ⟨b',hb',rfl⟩:=uK hxx
  obtain ⟨w,hwi,ew⟩:=cf hr hb'
  have hw1:=t.ok.cards w (LX hwi)
  walk_at "rd"
  refine ⟨b',rp,w,h,ms,rfl,s6 _ _ ew,s6 _ _ (s3 _ _ e2),pw,fun c hc=>by rw [hw1]; exact hnb c ((mm c).mp hc),fun a ha=>?_⟩
  have ea:a=vf w h ns:=ha.uniq mm (Fk w h ns)
  subst ea
  refine bn.put hp' (fun _ _ _ _ r _=>r) s6 e6 l6 ?_
  rw [dh hwi]
  unfold j9
  rw [Mf,Mf]
  rfl
 ·rintro pl acc H6 hpl s6 e6 rfl
  rw [LF,lr,show T.n=T.ws.length from rfl,Mx] at e6
  walk_at "rd"
  have s16:=s13.trans s6
  refine ⟨M,x,pv,pe,tp,pl,T,[i],j9 T.ws h ns,_,rfl,t.same s16,s6 _ _ e3,fun k hk=>by rw [LG.mp hk]; exact hi,e6,t.off (s13.free hpl),by rw [Oy]; exact NF fun a _=>Lc a,by unfold j9; rw [LF]; rfl,hds,fun p2 Hm H7 k7 t7 hp2 s7 e7=>?_⟩
  walk_at "rd"
  exact q p2 Hm H7 ((Kp.of s16).trans k7) t7 hp2 s7 e7
noncomputable def jz (_:Fg) (G:GF):Sp:=fun vs H Q _=>∃ (M:List Addr) (x pv pe:Addr) (T:TM),vs=[.ref x]/\Tb G M H x pv pe T/\
 ∀ (x' pv' pe':Addr) H',H x'=none->H pv'=none->H pe'=none->am H H'->Tb G (pv' :: pe' :: M) H' x' pv' pe' T->Q (.ref x') H'
noncomputable def h8 (K:Fg) (G:GF):TS:=(ap (aE (uk G.Table (dy K G) [] E0 (aa (dv K (ac 0) "cards") (aa (dv K (ac 0) "sizes") af))) (aj 1))
 (ap (mY K (ac 1) (tCB (iM K) (aa (dv K (ac 0) "views") af)) "views")
 (ap (mY K (ac 1) (tCB (iM K) (aa (dv K (ac 0) "deeds") af)) "deeds")
 (aI (ac 1)))))
noncomputable abbrev yu:List Str:=["self","other"]
theorem wQ {K:Fg} {G:GF} (ct:oT K G.Table) {vs:List V} {H:Hp} {Q:VK} {E:XK} (h:jz K G vs H Q E):h8 K G { nx:=fun _ H'=>Q .non H',rt:=Q } (start yu vs) H:=by
 obtain ⟨M,x,pv,pe,T,rfl,t,q⟩:=h
 obtain ⟨dx,pd,ps,qs,es,X⟩:=t.ex
 show h8 K G _ [some _,none] _
 unfold h8
 refine bR (kI (Fj ?_))
 walk_at "rd"
 refine cM ?_
 walk_at "rd"
 refine ⟨x,G.Table,dx,_,_,rfl,X.hx,ct.cl,ct.n2,rfl,?_⟩
 walk_at "rd"
 refine cM ?_
 walk_at "rd"
 refine ⟨x,G.Table,dx,_,_,rfl,X.hx,ct.cl,ct.n3,rfl,?_⟩
 walk_at "rd"
 intro x' dx' hx' hdx' hne
 have st:am H (upd (upd H dx' (.own x')) x' (.ins G.Table dx' [])):=((am.refl H).upd hdx' _).upd hx' _
 have x'M:x'∉M:=fun z=>t.al _ z hx'
 refine ⟨M,x',dx',ps,T.c,T.ss,rfl,aA,st _ _ X.sz,t.ok.pk,t.ok.few,fun b hb z=>t.al b hb (st.free z),x'M,fun H1 pv0 pe0 k1 hpv0 hpe0 t1=>?_⟩
 have s1:am H H1:=fun b o e=>k1 _ _ (aV e hx') (st _ _ e)
 obtain ⟨dx1,pd1,ps1,qs1,es1,X1⟩:=t1.ex
 refine ⟨rfl,?_⟩
 walk_at "rd"
 refine j8 ?_
 walk_at "rd"
 refine cM ?_
 walk_at "rd"
 refine ⟨x,G.Table,dx,_,_,rfl,s1 _ _ X.hx,ct.cl,ct.n5,rfl,?_⟩
 walk_at "rd"
 refine lj (SqL.of (s1 _ _ X.vs)) fun pv' H2 hpv' s2 e2=>?_
 walk_at "rd"
 refine ⟨x',G.Table,dx1,_,rfl,s2 _ _ X1.hx,ct.cl,ct.n5,by simp [tL],mz fun H3 kx3 x3=>?_⟩
 have nxv:pv'≠x':=iY (s2 _ _ X1.hx) e2
 have s3:am H H3:=fun b o e=>kx3 _ _ (aV e hx') (s2 _ _ (s1 _ _ e))
 have e3:=kx3 _ _ nxv e2
 have dl3:=gn (X1.dl.same' s2) (s2 _ _ X1.hx) kx3
 have sz3:=kx3 _ _ (iY (s2 _ _ X1.hx) (s2 _ _ X1.sz)) (s2 _ _ X1.sz)
 walk_at "rd"
 refine j8 ?_
 walk_at "rd"
 refine cM ?_
 walk_at "rd"
 refine ⟨x,G.Table,dx,_,_,rfl,s3 _ _ X.hx,ct.cl,ct.n6,rfl,?_⟩
 walk_at "rd"
 refine lj (SqL.of (s3 _ _ X.pes)) fun pe' H4 hpe' s4 e4=>?_
 walk_at "rd"
 refine ⟨x',G.Table,dx1,_,rfl,s4 _ _ x3,ct.cl,ct.n6,Og rfl,mz fun H5 kx5 x5=>?_⟩
 have s5:am H H5:=fun b o e=>kx5 _ _ (aV e hx') (s4 _ _ (s3 _ _ e))
 have e5:=kx5 _ _ (iY (s4 _ _ x3) e4) e4
 have v5:=kx5 _ _ nxv (s4 _ _ e3)
 have dl5:=gn (dl3.same' s4) (s4 _ _ x3) kx5
 have sz5:=kx5 _ _ (iY (s4 _ _ x3) (s4 _ _ sz3)) (s4 _ _ sz3)
 walk_at "rd"
 have gv:H pv'=none:=s1.free hpv'
 have ge:H pe'=none:=s3.free hpe'
 have nve:pv'≠pe':=aV e3 hpe'
 have nM:∀ {b:Addr} {o:HO},H b=some o->b∉M->b∉pv' :: pe' :: M:=fun e n z=>by
  rcases LI.mp z with z | z
  ·rw [z,gv] at e; cases e
  ·rcases LI.mp z with z | z
   ·rw [z,ge] at e; cases e
   ·exact n z
 have nd1:pd1∉pv' :: pe' :: M:=fun z=>by
  obtain ⟨rs1,er1,_⟩:=X1.dl
  obtain ⟨rs3,er3,_⟩:=dl3
  rcases LI.mp z with z | z
  ·rw [z,hpv'] at er1; cases er1
  ·rcases LI.mp z with z | z
   ·rw [z,hpe'] at er3; cases er3
   ·exact X1.nd (LQ _ (LQ _ z))
 have ns1:ps1∉pv' :: pe' :: M:=fun z=>by
  have er1:=X1.sz
  rcases LI.mp z with z | z
  ·rw [z,hpv'] at er1; cases er1
  ·rcases LI.mp z with z | z
   ·rw [z,hpe'] at sz3; cases sz3
   ·exact X1.ns (LQ _ (LQ _ z))
 refine q x' pv' pe' H5 hx' gv ge s5 ⟨t.ok,⟨dx1,pd1,ps1,qs,es,x5,dl5,nd1,sz5,ns1,v5,Paired.mapP X.qv fun _ _ ⟨e,n⟩=>⟨s5 _ _ e,nM e n⟩,e5,Paired.mapP X.ed fun _ _ ⟨t,h,v,e,h1,h2,h3,h4⟩=>⟨t,h,v,e,s5 _ _ h1,s5 _ _ h2,s5 _ _ h3,nM h3 h4⟩⟩,nve,LK,LQ _ LK,fun b hb z=>?_⟩
 rcases LI.mp hb with y | y
 ·rw [y,v5] at z; cases z
 ·rcases LI.mp y with y | y
  ·rw [y,e5] at z; cases z
  ·exact t.al b y (s5.free z)
end
section
open KF
noncomputable def fX (sys:List Sy) (j:Nat):Sy:=sys.getD (j % sys.length) (.sees 0)
noncomputable def TM.turn (T:TM) (sys:List Sy):Nat->TM
 | 0=>T
 | j + 1=>(T.turn sys j).word (LV T.k) (fX sys j)
noncomputable def TM.told (T:TM) (sys:List Sy) (j:Nat):Nat->Prop:=(T.turn sys j).tr (fX sys j)
noncomputable def TM.still (T:TM) (sys:List Sy):Nat->Nat
 | 0=>0
 | j + 1=>if (T.turn sys (j + 1)).vw=(T.turn sys j).vw then T.still sys j + 1 else 0
structure TM.Len (T:TM) (sys:List Sy) (turns L:Nat):Prop where
 le:L<=turns
 go:∀ i,i < L->T.still sys i < sys.length
 st:L=turns\/sys.length<=T.still sys L
theorem qP (T:TM) (sys:List Sy):∀ j,(T.turn sys j).c=T.c/\(T.turn sys j).ss=T.ss
 | 0=>⟨rfl,rfl⟩
 | j + 1=>qP T sys j
theorem rO (T:TM) (sys:List Sy) (j:Nat):(T.turn sys j).ws=T.ws:=by unfold TM.ws; rw [(qP T sys j).1,(qP T sys j).2]
theorem lB (T:TM) (sys:List Sy) (j:Nat):(T.turn sys j).n=T.n:=by unfold TM.n; rw [rO]
theorem eY (T:TM) (sys:List Sy) (j:Nat):(T.turn sys j).k=T.k:=by unfold TM.k; rw [(qP T sys j).2]
theorem rP (T:TM) (sys:List Sy):∀ j,(T.turn sys j).ds.length=T.ds.length + j
 | 0=>rfl
 | j + 1=>by
  show ((T.turn sys j).ds++[_]).length=_
  rw [L7,rP T sys j]
  rfl
theorem rQ {T:TM} (h:T.Ok) (sys:List Sy):∀ j,(T.turn sys j).Ok
 | 0=>h
 | j + 1=>(rQ h sys j).word fun x hx=>by rw [eY]; exact MZ.mp hx
theorem GH {T:TM} (h:T.Ok) (s:Sy):(T.word (LV T.k) s).vw=T.vw.map fun v=>eX v (blA T.n (T.tr s)):=by
 show lrn T.vw (LV T.k) _=_
 rw [<-h.len,IP]
theorem Ca {T:TM} (h:T.Ok) (sys:List Sy) (j:Nat):(T.turn sys (j + 1)).vw=(T.turn sys j).vw.map fun v=>eX v (blA T.n (T.told sys j)):=by
 have:=GH (rQ h sys j) (fX sys j)
 rw [eY,lB] at this
 exact this
theorem Len.uniq {T:TM} {sys:List Sy} {a b L M:Nat} (h1:T.Len sys a L) (h2:T.Len sys b M):M<=L\/(L=a/\a<=M):=by
 by_cases z:M<=L
 ·exact .inl z
 ·rcases h1.st with e | e
  ·exact .inr ⟨e,by omega⟩
  ·have:=h2.go L (by omega)
   omega
theorem GI {T U:TM} (h1:T.ws=U.ws) (h2:T.vw=U.vw) (s:Sy):T.tr s=U.tr s:=by
 unfold TM.tr TM.n
 rw [h1,h2]
end
noncomputable def GJ:R2:=fun x y H Q=>∃ a b vs ws,x=.ref a/\y=.ref b/\cP H a vs/\cP H b ws/\Q (.bl (decide (vs=ws))) H
theorem Ld {a b:Addr} {vs ws:List (List Nat)} {H:Hp} {Q:VK} (h1:cP H a vs) (h2:cP H b ws) (q:Q (.bl (decide (vs=ws))) H):GJ (.ref a) (.ref b) H Q:=⟨a,b,vs,ws,rfl,rfl,h1,h2,q⟩
noncomputable def zd:List V->Hp->VK->Prop:=fun xs H Q=>∃ (p:Addr) (n:Nat),xs=[.ref p]/\H p=some (.rng 0 (n:Int))/\n<=1000000/\New H (.tup ((LV n).map fun (i:Nat)=>V.int ((i:Nat):Int))) fun p H2=>Q (.ref p) H2
noncomputable def ze (ta:TA):TE:=tCB zd (aa (tCB CS ta) af)
theorem C0 {H:Hp} {Q:VK} {n:Nat} (hn:n<=1000000) (h:New H (.tup ((LV n).map fun (i:Nat)=>V.int ((i:Nat):Int))) fun p H2=>Q (.ref p) H2):New H (.rng 0 (n:Int)) fun p H2=>zd [.ref p] H2 Q:=
 fun p H' _ s e=>⟨p,n,rfl,e,hn,fun l H2 hl s2 e2=>h l H2 (s.free hl) (s.trans s2) e2⟩
theorem AD {σ:St} {H:Hp} {Q:VK} {ta:TA} (h:ta σ H fun vs H1=>∃ n:Nat,vs=[.int (n:Int)]/\n<=1000000/\New H1 (.rng 0 (n:Int)) fun p H2=>zd [.ref p] H2 Q):ze ta σ H Q:=h
section
variable {g:CF TG} {tt:CF TT} {te:CF TE} {σ₀:St} {Q:VK} {H:Hp} {K:Fg}
end
section
open KF
noncomputable def C1 (H:Hp) (p:Addr) (sys:List Sy):Prop:=∃ xs:List V,H p=some (.lst xs)/\Paired (aN H) xs sys
theorem C1.same {H H':Hp} {p:Addr} {sys:List Sy} (h:C1 H p sys) (s:am H H'):C1 H' p sys:=let ⟨xs,e,q⟩:=h; ⟨xs,s _ _ e,Paired.mapP q fun _ _ z=>z.keep s.keep⟩
theorem ya {sys:List Sy} {j:Nat} (h:0 < sys.length):sys[j % sys.length]?=some (fX sys j):=by
 unfold fX
 rw [LO,LD (PH _ h)]
 rfl
theorem sJ {α β:Type} {F:α->β->Prop}:∀ {xs:List α} {ys:List β} {i:Nat} {y:β},Paired F xs ys->ys[i]?=some y->∃ x,xs[i]?=some x/\F x y
 | _,_,_,_,.nil,e=>by simp at e
 | _,_,0,_,.cons r _,e=>by simp at e; subst e; exact ⟨_,rfl,r⟩
 | _,_,i + 1,y,.cons _ t,e=>by
  obtain ⟨u,h1,h2⟩:=sJ (i:=i) (y:=y) t (by simpa using e)
  exact ⟨u,by simpa using h1,h2⟩
noncomputable def Kq (H0 H:Hp) (p:Addr) (n:Nat) (f:Nat->Nat->Prop) (L:Nat):Prop:=∃ rs:List Addr,H p=some (.lst (rs.map V.ref))/\Paired (fun (r:Addr) (i:Nat)=>H r=some (.lst (blV n (f i)))/\r≠p/\H0 r=none) rs (LV L)
noncomputable def wR (_:Fg) (G:GF):Sp:=fun vs H Q _=>∃ (M:List Addr) (x pv pe sl:Addr) (T:TM) (sys:List Sy) (turns:Nat),vs=[.ref x,.ref sl,.int turns]/\Tb G M H x pv pe T/\C1 H sl sys/\0 < sys.length/\(∀ s∈sys,s.Ok T.c T.k/\s.words<=30)/\turns<=100/\T.ds.length<=500/\
 ∀ (p:Addr) (L:Nat) H',H p=none->am H H'->Kq H H' p T.n (T.told sys) L->T.Len sys turns L->Q (.ref p) H'
noncomputable def vg (K:Fg) (G:GF):TS:=(ap (aE (ek G.Table "again" (jz K G) [] E0 (ac 0) af) (aj 3))
 (ap (aE (ze (aa (dv K (ac 3) "hands") af)) (aj 4))
 (ap (aE (fT af) (aj 5))
 (ap (aE (tC (.int 0)) (aj 6))
 (ap (lf (qc (aX (tOp (rI0 fun i j=>.bl (decide (i < j))) (tCB (bV K) (aa (ac 5) af)) (ac 2))) (aX (tOp (rI0 fun i j=>.bl (decide (i < j))) (ac 6) (tCB (bV K) (aa (ac 1) af))))) (ap (aE (tCB (iM K) (aa (dv K (ac 3) "views") af)) (aj 7))
 (ap (ee (tBM K "list" iF (ac 5) (aa (ek G.Table "word" (d6 K G) [] E0 (ac 3) (aa (ac 4) (aa (tOp (bY K) (ac 1) (tOp (rI (fun _ j=>0 < j) fun i j=>.int (i % j)) (tCB (bV K) (aa (ac 5) af)) (tCB (bV K) (aa (ac 1) af)))) af))) af)))
 (aE (tIf (aX (tOp GJ (dv K (ac 3) "views") (ac 7))) (tOp (rI0 fun i j=>.int (i + j)) (ac 6) (tC (.int 1))) (tC (.int 0))) (aj 6)))))
 (aI (ac 5)))))))
noncomputable abbrev Kr:List Str:=["table","sayings","turns","own","everyone","told","still","before"]
theorem IU {K:Fg} {G:GF} (ct:oT K G.Table) {vs:List V} {H:Hp} {Q:VK} {E:XK} (h:wR K G vs H Q E):vg K G { nx:=fun _ H'=>Q .non H',rt:=Q } (start Kr vs) H:=by
 obtain ⟨M,x,pv,pe,sl,T,sys,turns,rfl,t,hsl,h0,hsys,ht,hds,q⟩:=h
 have hk5:T.k<=5:=t.ok.pk.l5
 show vg K G _ [some _,some _,some _,none,none,none,none,none] _
 unfold vg
 walk_at "rd"
 obtain ⟨dx1,fs1,hx1,hl1⟩:=t.at "again" (by decide +kernel) (by decide +kernel) (by decide +kernel) (by decide +kernel) (by decide +kernel) (by decide +kernel)
 refine fD ?_
 walk_at "rd"
 refine ⟨x,dx1,fs1,rfl,hx1,hl1,?_⟩
 walk_at "rd"
 refine ⟨M,x,pv,pe,T,rfl,t,fun x' pv' pe' H1 hx' hpv' hpe' s1 t1=>?_⟩
 walk_at "rd"
 refine AD ?_
 walk_at "rd"
 refine cM ?_
 walk_at "rd"
 obtain ⟨dx,pd,ps,qs,es,X⟩:=t1.ex
 refine ⟨x',G.Table,dx,_,_,rfl,X.hx,ct.cl,ct.n4,rfl,?_⟩
 walk_at "rd"
 refine ⟨T.k,rfl,by omega,C0 (by omega) fun tp H2 htp s2 e2=>?_⟩
 have e2':H2 tp=some (.tup (au (LV T.k))):=e2
 walk_at "rd"
 refine ⟨by simp [LP],fun p H3 hp s3 e3=>?_⟩
 walk_at "rd"
 have t3:Tb G (p :: pv' :: pe' :: M) H3 x' pv' pe' T:=(t1.same s2).grow (N:=[p]) s3 (fun b hb=>by rw [LG.mp hb]; exact hp) (fun b hb=>by rw [LG.mp hb,e3]; exact fun z=>nomatch z)
 have s13:=(s1.trans s2).trans s3
 have hp0:H p=none:=s1.free (s2.free hp)
 have npv:pv'≠p:=fun z=>by
  have:=(t1.same s2).al pv' LK
  rw [z] at this
  exact this hp
 have npe:pe'≠p:=fun z=>by
  have:=(t1.same s2).al pe' (LQ _ LK)
  rw [z] at this
  exact this hp
 obtain ⟨xs,exs,hxs⟩:=hsl
 have lxs:xs.length=sys.length:=My hxs
 have new3:∀ b∈[p,pv',pe'],H b=none:=fun b hb=>by
  rcases LI.mp hb with z | z
  ·rw [z]; exact hp0
  ·rcases LI.mp z with z | z
   ·rw [z]; exact hpv'
   ·rw [LG.mp z]; exact hpe'
 refine y8 (fun m σ H4=>∃ (j:Nat) (u:Option V) (rs:List Addr),m=turns - j/\j<=turns/\σ=[some (.ref x),some (.ref sl),some (.int turns),some (.ref x'),some (.ref tp),some (.ref p),some (.int (T.still sys j:Nat)),u]/\am H H4/\H4 tp=some (.tup (au (LV T.k)))/\Tb G (p :: pv' :: pe' :: M) H4 x' pv' pe' (T.turn sys j)/\H4 p=some (.lst (rs.map V.ref))/\Paired (fun (r:Addr) (i:Nat)=>H4 r=some (.lst (blV T.n (T.told sys i)))/\r∉p :: pv' :: pe' :: M/\H r=none) rs (LV j)/\∀ i,i < j->T.still sys i < sys.length) turns ⟨0,none,[],by omega,MI _,rfl,s13,s3 _ _ e2',t3,e3,.nil,fun i hi=>absurd hi (N4 _)⟩ ?_
 rintro m σ H4 ⟨j,u,rs,rfl,hj,rfl,s4,e4,t4,ep4,p4,hgo⟩
 have lrs:rs.length=j:=by rw [My p4,MX]
 walk_at "rd"
 rw [LF,lrs]
 have fin:(j=turns\/sys.length<=T.still sys j)->Q (.ref p) H4:=fun z=>q p j H4 hp0 s4 ⟨rs,ep4,Paired.mapP p4 fun r i ⟨z1,z2,z3⟩=>⟨z1,fun y=>z2 (by rw [y]; exact LK),z3⟩⟩ ⟨hj,hgo,z⟩
 refine bZ (fun c1=>?_) (fun c1=>?_)
 ·walk_at "rd"
  refine gB (ys:=xs) (SqL.of (s4 _ _ exs)) ?_
  walk_at "rd"
  rw [lxs]
  refine bZ (fun c2=>?_) (fun c2=>?_)
  ·refine y7 ?_
   have hjt:j < turns:=by omega
   have hst:T.still sys j < sys.length:=by omega
   walk_at "rd"
   refine cM ?_
   walk_at "rd"
   obtain ⟨dx4,pd4,ps4,qs4,es4,X4⟩:=t4.ex
   refine ⟨x',G.Table,dx4,_,_,rfl,X4.hx,ct.cl,ct.n5,rfl,?_⟩
   walk_at "rd"
   refine lj (SqL.of X4.vs) fun b H5 hb s5 e5=>?_
   have t5:=t4.same s5
   walk_at "rd"
   refine ⟨.inl ⟨rfl,_,SqL.of (s5 _ _ ep4)⟩,?_⟩
   walk_at "rd"
   obtain ⟨dx5,fs5,hx5,hl5⟩:=t5.at "word" (by decide +kernel) (by decide +kernel) (by decide +kernel) (by decide +kernel) (by decide +kernel) (by decide +kernel)
   refine fD ?_
   walk_at "rd"
   refine ⟨x',dx5,fs5,rfl,hx5,hl5,?_⟩
   walk_at "rd"
   refine gB (ys:=rs.map V.ref) (SqL.of (s5 _ _ ep4)) ?_
   walk_at "rd"
   refine gB (ys:=xs) (SqL.of (s5 _ _ (s4 _ _ exs))) ?_
   walk_at "rd"
   rw [LF,lrs,lxs]
   obtain ⟨v,hv,iv⟩:=sJ hxs (ya (sys:=sys) (j:=j) h0)
   rw [show ((j:Int) % (sys.length:Int))=((j % sys.length:Nat):Int) from rfl]
   refine bK (SqL.of (s5 _ _ (s4 _ _ exs))) (ck hv) ?_
   walk_at "rd"
   obtain ⟨ok1,ok2⟩:=hsys (fX sys j) (LX (ya h0))
   have hdj:=rP T sys j
   refine ⟨_,x',pv',pe',tp,T.turn sys j,LV T.k,v,fX sys j,rfl,t5,s5 _ _ e4,Oa,fun h hh=>by rw [eY]; exact MZ.mp hh,iv.keep (s4.trans s5).keep,by rw [eY,(qP T sys j).1]; exact ok1,ok2,by omega,vd fun p6 H6 hp6 k6 e6 t6=>?_⟩
   rw [lB] at e6
   walk_at "rd"
   have n6:p∉[pv',pe']:=fun z=>by
    rcases LI.mp z with z | z
    ·exact npv z.symm
    ·exact npe (LG.mp z).symm
   have ep6:=k6.lst n6 (s5 _ _ ep4)
   refine li ep6 (by rw [LF,LP]; omega) fun H7 o7 e7=>?_
   have k7:Kp [p] H6 H7:=(Kp.of (am.refl H6)).off ep6 (LG.mpr rfl) o7 e7
   have t7:=t6.kp k7 (fun b hb=>by rw [LG.mp hb]; exact LK) (fun z=>npv (LG.mp z)) (fun z=>npe (LG.mp z))
   have p6M:p6∉p :: pv' :: pe' :: M:=t5.off hp6
   have k57:Kp [p,pv',pe'] H5 H7:=(k6.mono fun b hb=>LQ _ hb).trans (k7.mono fun b hb=>by rw [LG.mp hb]; exact LK)
   have sub3:∀ b∈[p,pv',pe'],b∈p :: pv' :: pe' :: M:=fun b hb=>by
    rcases LI.mp hb with z | z
    ·rw [z]; exact LK
    ·rcases LI.mp z with z | z
     ·rw [z]; exact LQ _ LK
     ·rw [LG.mp z]; exact LQ _ (LQ _ LK)
   have bM:b∉p :: pv' :: pe' :: M:=t4.off hb
   walk_at "rd"
   refine cM ?_
   walk_at "rd"
   obtain ⟨dx7,pd7,ps7,qs7,es7,X7⟩:=t7.ex
   refine ⟨x',G.Table,dx7,_,_,rfl,X7.hx,ct.cl,ct.n5,rfl,?_⟩
   walk_at "rd"
   have vb:cP H7 b (T.turn sys j).vw:=⟨qs4,k57.lst (fun z=>bM (sub3 _ z)) e5,Paired.mapP X4.qv fun _ _ ⟨z1,z2⟩=>k57.lst (fun z=>z2 (sub3 _ z)) (s5 _ _ z1)⟩
   have vn:cP H7 pv' (T.turn sys (j + 1)).vw:=⟨qs7,X7.vs,Paired.mapP X7.qv fun _ _ z=>z.1⟩
   refine Ld vn vb ?_
   have s7:am H H7:=k57.new (s4.trans s5) new3
   have done:∀ z:Nat,z=T.still sys (j + 1)->∃ m',m' < turns - j/\∃ (j':Nat) (u:Option V) (rs:List Addr),m'=turns - j'/\j'<=turns/\[some (.ref x),some (.ref sl),some (.int turns),some (.ref x'),some (.ref tp),some (.ref p),some (.int (z:Nat)),some (.ref b)]=[some (.ref x),some (.ref sl),some (.int turns),some (.ref x'),some (.ref tp),some (.ref p),some (.int (T.still sys j':Nat)),u]/\am H H7/\H7 tp=some (.tup (au (LV T.k)))/\Tb G (p :: pv' :: pe' :: M) H7 x' pv' pe' (T.turn sys j')/\H7 p=some (.lst (rs.map V.ref))/\Paired (fun (r:Addr) (i:Nat)=>H7 r=some (.lst (blV T.n (T.told sys i)))/\r∉p :: pv' :: pe' :: M/\H r=none) rs (LV j')/\∀ i,i < j'->T.still sys i < sys.length:=by
    intro z hz
    refine ⟨turns - (j + 1),by omega,j + 1,some (.ref b),rs++[p6],rfl,hjt,by rw [hz],s7,k57.tup (s5 _ _ e4),t7,by rw [e7,Mf]; rfl,?_,fun i hi=>?_⟩
    ·rw [N5]
     refine Ay (Paired.mapP p4 fun r i ⟨z1,z2,z3⟩=>⟨k57.lst (fun y=>z2 (sub3 _ y)) (s5 _ _ z1),z2,z3⟩) ⟨k7.lst (fun y=>p6M (by rw [LG.mp y]; exact LK)) e6,p6M,(s4.trans s5).free hp6⟩
    ·by_cases y:i=j
     ·rw [y]; exact hst
     ·exact hgo i (by omega)
   by_cases c3:(T.turn sys (j + 1)).vw=(T.turn sys j).vw
   ·rw [decide_eq_true c3]
    walk_at "rd"
    refine done (T.still sys j + 1) ?_
    show _=if _ then _ else _
    rw [if_pos c3]
   ·rw [decide_eq_false c3]
    walk_at "rd"
    refine done 0 ?_
    show _=if _ then _ else _
    rw [if_neg c3]
  ·walk_at "rd"
   exact fin (.inr (by omega))
 ·walk_at "rd"
  exact fin (.inl (by omega))
end
section
variable {K:Fg} {vs:List V} {H:Hp} {Q:VK} {E:XK}
open KF
set_option genInjectivity false in
inductive Dd where
 | word (g:List Nat) (s:Sy)
 | show (i:Nat) (h:Int) (ns:List Int)
noncomputable def vh (N:Addr->Prop) (H:Hp) (v:V):Dd->Prop
 | .word g s=>∃ a b x,v=.ref a/\H a=some (.tup [.str "word",.ref b,x])/\H b=some (.tup (au g))/\aN H x s
 | .show i h ns=>∃ a l,v=.ref a/\H a=some (.tup [.str "show",.int i,.int h,.ref l])/\H l=some (.lst (ns.map V.int))/\N l
noncomputable def Dd.Ok (c k:Nat):Dd->Prop
 | .word g s=>g.Pairwise (· < ·)/\(∀ h∈g,h < k)/\s.Ok c k/\s.words<=14
 | .show i h ns=>i < k/\0<=h/\h<=k/\ns.length < 6/\∀ n∈ns,0<=n/\n < c
noncomputable def TM.deed (T:TM):Dd->TM
 | .word g s=>T.word g s
 | .show i h ns=>T.show i h ns
noncomputable def TM.dtold (T:TM):Dd->List V
 | .word g s=>blV T.n (T.tr s)
 | .show i h ns=>(j9 T.ws h ns).map iaR
theorem vh.to {N N':Addr->Prop} {H H':Hp} {v:V} {d:Dd} (h:vh N H v d) (k:gU H H') (f:∀ l xs,N l->H l=some (.lst xs)->H' l=some (.lst xs)/\N' l):vh N' H' v d:=by
 cases d with
 | word g s=>obtain ⟨a,b,x,e,h1,h2,h3⟩:=h; exact ⟨a,b,x,e,k _ _ h1,k _ _ h2,h3.keep k⟩
 | «show» i hh ns=>obtain ⟨a,l,e,h1,h2,h3⟩:=h; exact ⟨a,l,e,k _ _ h1,(f _ _ h3 h2).1,(f _ _ h3 h2).2⟩
theorem Fl (T:TM) (d:Dd):(T.deed d).c=T.c/\(T.deed d).ss=T.ss:=by cases d <;> exact ⟨rfl,rfl⟩
theorem IV (T:TM) (d:Dd):(T.deed d).ds.length=T.ds.length + 1:=by
 cases d <;> (show (T.ds++[_]).length=_; rw [L7]; rfl)
noncomputable def lC (K:Fg):Sp:=fun vs H Q _=>∃ (a:Addr) (ns:List Int) (at_:Int) (c k:Nat),vs=[.ref a,.int at_,.int c,.int k]/\fw K H a ns/\0<=at_/\at_<=900/\1<=k/\k<=5/\
 ∀ (v:V) (d:Dd) H',am H H'->vh (fun l=>H l=none) H' v d->d.Ok c k->Q v H'
noncomputable def jU (K:Fg):TS:=(ap (aE (av (bm K) [] E0 (aa (ac 0) (aa (ac 1) af))) (aj 4))
 (ap (bq (tOr (aX (tOp (rI0 fun i j=>.bl (decide (j < i))) (tOp (rI (fun _ j=>0 < j) fun i j=>.int (i % j)) (ac 4) (tC (.int 3))) (tC (.int 0)))) (aX (tOp rEq (ac 2) (tC (.int 0))))) (aI (cG (aa (tC (.str "word")) (aa (av (dw K) [] E0 (aa (tOp (rI fm fun i j=>.int (i / j)) (ac 4) (tC (.int 3))) (aa (ac 3) af))) (aa (av (gK K) [] E0 (aa (ac 0) (aa (tOp (rI0 fun i j=>.int (i + j)) (ac 1) (tC (.int 1))) (aa (ac 2) (aa (ac 3) (aa (tC (.int 14)) af)))))) af))))) aZ)
 (ap (aE (bT (cD (aa (tOp (rI (fun _ j=>0 < j) fun i j=>.int (i % j)) (av (bm K) [] E0 (aa (ac 0) (aa (tOp (rI0 fun i j=>.int (i + j)) (ac 1) (tC (.int 2))) af))) (tC (.int 6))) af)) (fun _ _ _ _=>(aj 0)) (fun _ _ _ _=>bB) (fun _ _ _ _=>(tOp (rI (fun _ j=>0 < j) fun i j=>.int (i % j)) (av (bm K) [] E0 (aa (ac 2) (aa (tOp (rI0 fun i j=>.int (i + j)) (tOp (rI0 fun i j=>.int (i + j)) (ac 3) (tC (.int 3))) (ac 0)) af))) (ac 1))) [none,some 2,some 0,some 1]) (aj 5))
 (aI (cG (aa (tC (.str "show")) (aa (tOp (rI (fun _ j=>0 < j) fun i j=>.int (i % j)) (tOp (rI fm fun i j=>.int (i / j)) (ac 4) (tC (.int 3))) (ac 3)) (aa (tOp (rI (fun _ j=>0 < j) fun i j=>.int (i % j)) (tOp (rI fm fun i j=>.int (i / j)) (ac 4) (tC (.int 21))) (tOp (rI0 fun i j=>.int (i + j)) (ac 3) (tC (.int 1)))) (aa (ac 5) af)))))))))
theorem AE (h:lC K vs H Q E):jU K { nx:=fun _ H'=>Q .non H',rt:=Q } (start ["_law_script","_law_at","_law_cards","_law_hands","_law_cell_here","_law_some"] vs) H:=by
 obtain ⟨a,ns,at_,c,k,rfl,hSc,ha0,ha1,hk1,hk5,q⟩:=h
 show jU K _ [some _,some _,some _,some _,none,none] _
 unfold jU
 refine bR ?_
 walk_at "rs"
 refine ⟨a,ns,at_,rfl,hSc,by omega,by omega,?_⟩
 walk_at "rs"
 refine kX fun NX hNX=>?_
 have wordy:aI (cG (aa (tC (.str "word")) (aa (av (dw K) [] E0 (aa (tOp (rI fm fun i j=>.int (i / j)) (ac 4) (tC (.int 3))) (aa (ac 3) af))) (aa (av (gK K) [] E0 (aa (ac 0) (aa (tOp (rI0 fun i j=>.int (i + j)) (ac 1) (tC (.int 1))) (aa (ac 2) (aa (ac 3) (aa (tC (.int 14)) af)))))) af)))) { nx:=NX,rt:=Q } [some (.ref a),some (.int at_),some (.int c),some (.int k),some (.int (bE ns at_)),none] H:=by
  walk_at "rd"
  refine ⟨_,k,rfl,hk5,fun tp g H1 s1 e1 pw hb=>?_⟩
  walk_at "rd"
  refine ⟨a,ns,at_ + 1,c,k,14,rfl,hSc.same s1,by omega,by omega,hk1,hk5,by decide,by decide,fun v s H2 s2 hS hok hw=>?_⟩
  walk_at "rd"
  refine ⟨by simp [LP],fun t3 H3 ht3 s3 e3=>?_⟩
  exact q _ (.word g s) H3 ((s1.trans s2).trans s3) ⟨t3,tp,v,rfl,e3,s3 _ _ (s2 _ _ e1),hS.keep s3.keep⟩ ⟨pw,hb,hok,hw⟩
 walk_at "rs"
 refine bZ (fun c1=>?_) (fun c1=>?_)
 ·exact wordy
 ·walk_at "rs"
  refine bZ (fun c2=>?_) (fun c2=>?_)
  ·exact wordy
  ·have c0:0 < c:=by omega
   walk_at "rs"
   refine hNX _ _ ?_
   walk_at "rd"
   refine ⟨a,ns,at_ + 2,rfl,hSc,by omega,by omega,?_⟩
   walk_at "rd"
   obtain ⟨mn,hmn,hmn6⟩:∃ mn:Nat,bE ns (at_ + 2) % 6=(mn:Int)/\mn < 6:=⟨(bE ns (at_ + 2) % 6).toNat,by omega,by omega⟩
   rw [hmn]
   refine oE mn (by omega) (by omega) (by omega) (fun j acc _=>∃ ms:List Int,acc=ms.map V.int/\ms.length=j/\∀ n∈ms,0<=n/\n < (c:Int)) (fun _ _=>⟨[],rfl,rfl,fun _ z=>nomatch z⟩) ?_ ?_
   ·rintro p' hp' C s' H' fp j acc H8 hj ⟨s8,e8,l8,ms,rfl,lm,hms⟩
    walk_at "rd"
    refine ⟨a,ns,at_ + 3 + (j:Int),rfl,hSc.same s8,by omega,by omega,?_⟩
    walk_at "rd"
    refine bn.put hp' (fun _ _ _ _ r _=>r) s8 e8 l8 ⟨ms++[bE ns (at_ + 3 + (j:Int)) % (c:Int)],by rw [Mf]; rfl,by simp [lm],fun n hn=>?_⟩
    rcases Mr.mp hn with z | z
    ·exact hms n z
    ·rw [LG.mp z]
     exact ⟨OB _ (by omega),Of _ (by omega)⟩
   ·rintro l acc H2 hl s2 e2 ⟨ms,rfl,lm,hms⟩
    walk_at "rd"
    obtain ⟨i,hi,hik⟩:=mw (bE ns at_ / 3) (m:=(k:Int)) (by omega)
    rw [hi]
    refine ⟨by simp [LP],fun t3 H3 ht3 s3 e3=>?_⟩
    exact q _ (.show i (bE ns at_ / 21 % ((k:Int) + 1)) ms) H3 (s2.trans s3) ⟨t3,l,rfl,e3,s3 _ _ e2,hl⟩ ⟨by omega,OB _ (by omega),by have:=Of (bE ns at_ / 21) (show 0 < (k:Int) + 1 by omega); omega,by omega,hms⟩
noncomputable def lD (_:Fg) (G:GF):Sp:=fun vs H Q _=>∃ (M:List Addr) (x pv pe:Addr) (T:TM) (v:V) (d:Dd),vs=[.ref x,v]/\Tb G M H x pv pe T/\vh (fun l=>l∉M) H v d/\d.Ok T.c T.k/\T.ds.length < 1000/\
 Tld G M H x pv pe (T.deed d) (T.dtold d) Q
noncomputable def jV (K:Fg) (G:GF):TS:=(ap (bq (aX (tOp rEq (tOp (cV K) (ac 1) (tC (.int 0))) (tC (.str "word")))) (aI (ek G.Table "word" (d6 K G) [] E0 (ac 0) (aa (tOp (cV K) (ac 1) (tC (.int 1))) (aa (tOp (cV K) (ac 1) (tC (.int 2))) af)))) aZ)
 (aI (ek G.Table "show" (kj K G) [] E0 (ac 0) (aa (tOp (cV K) (ac 1) (tC (.int 1))) (aa (tOp (cV K) (ac 1) (tC (.int 2))) (aa (tCB (iM K) (aa (tOp (cV K) (ac 1) (tC (.int 3))) af)) af))))))
noncomputable abbrev Bx:List Str:=["_law_table","_law_deed_here"]
theorem AF {K:Fg} {G:GF} {vs:List V} {H:Hp} {Q:VK} {E:XK} (h:lD K G vs H Q E):jV K G { nx:=fun _ H'=>Q .non H',rt:=Q } (start Bx vs) H:=by
 obtain ⟨M,x,pv,pe,T,v,d,rfl,t,hd,ok,hds,q⟩:=h
 show jV K G _ [some _,some _] _
 unfold jV
 cases d with
 | word g s=>
  obtain ⟨a,b,y,rfl,h1,h2,h3⟩:=hd
  obtain ⟨o1,o2,o3,o4⟩:=ok
  walk_at "rd"
  refine bv (SqT.of h1) (i:=0) rfl ?_
  walk_at "rd"
  refine d4 rfl ?_
  walk_at "rd"
  obtain ⟨dx1,fs1,hx1,hl1⟩:=t.at "word" (by decide +kernel) (by decide +kernel) (by decide +kernel) (by decide +kernel) (by decide +kernel) (by decide +kernel)
  refine fD ?_
  walk_at "rd"
  refine ⟨x,dx1,fs1,rfl,hx1,hl1,?_⟩
  walk_at "rd"
  refine bv (SqT.of h1) (i:=1) rfl ?_
  walk_at "rd"
  refine bv (SqT.of h1) (i:=2) rfl ?_
  walk_at "rd"
  exact ⟨M,x,pv,pe,b,T,g,y,s,rfl,t,h2,o1,o2,h3,o3,by omega,hds,q⟩
 | «show» i hh ns=>
  obtain ⟨a,l,rfl,h1,h2,h3⟩:=hd
  obtain ⟨o1,o2,o3,o4,o5⟩:=ok
  walk_at "rd"
  refine bv (SqT.of h1) (i:=0) rfl ?_
  walk_at "rd"
  refine aW (by decide) ?_
  walk_at "rd"
  obtain ⟨dx1,fs1,hx1,hl1⟩:=t.at "show" (by decide +kernel) (by decide +kernel) (by decide +kernel) (by decide +kernel) (by decide +kernel) (by decide +kernel)
  refine fD ?_
  walk_at "rd"
  refine ⟨x,dx1,fs1,rfl,hx1,hl1,?_⟩
  walk_at "rd"
  refine bv (SqT.of h1) (i:=1) rfl ?_
  walk_at "rd"
  refine bv (SqT.of h1) (i:=2) rfl ?_
  walk_at "rd"
  refine bv (SqT.of h1) (i:=3) rfl ?_
  walk_at "rd"
  refine lj (SqL.of h2) fun l1 H1 hl1' s1 e1=>?_
  walk_at "rd"
  exact ⟨M,x,pv,pe,l1,T,i,hh,ns,rfl,t.same s1,e1,o1,o2,o3,by omega,o5,hds,fun p Hm H2 k2 t2 hp s2 e2=>q p Hm H2 ((Kp.of s1).trans k2) t2 hp s2 e2⟩
end
section
open KF
open Classical in
noncomputable def kl (f:Nat->Nat->Prop) (n k:Nat):List Nat:=(LV n).filter fun i=>decide (f i k)
open Classical in
theorem qQ (f:Nat->Nat->Prop) (n k:Nat):kl f (n + 1) k=kl f n k++if f n k then [n] else []:=by
 unfold kl
 rw [N5,Px]
 by_cases h:f n k
 ·rw [if_pos h]; simp [h]
 ·rw [if_neg h]; simp [h]
theorem Fm (f:Nat->Nat->Prop) (n k:Nat):(kl f n k).Pairwise (· < ·):=Oa.sublist (List.filter_sublist)
noncomputable def hdV:List Nat->V
 | []=>.non
 | i :: _=>.int (i:Int)
theorem Ks (l:List Nat):isN (hdV l)=decide (l=[]):=by cases l <;> rfl
theorem Kt {l:List Nat} (h:l≠[]) (r:List Nat):hdV (l++r)=hdV l:=by cases l with | nil=>exact absurd rfl h | cons a l=>rfl
noncomputable def ftL (f:Nat->Nat->Prop) (many i j:Nat):List V:=(LV many).map fun k=>hdV (kl f (if k < j then i + 1 else i) k)
section
variable {f:Nat->Nat->Prop} {many i j k:Nat}
theorem jA (f:Nat->Nat->Prop) (many i j:Nat):(ftL f many i j).length=many:=by unfold ftL; simp
theorem jB (h:k < many):(ftL f many i j)[k]?=some (hdV (kl f (if k < j then i + 1 else i) k)):=by unfold ftL; rw [LU,M1 h]; rfl
theorem Cb {v:V} (h:j < many) (hv:v=hdV (kl f (i + 1) j)):(ftL f many i j).set j v=ftL f many i (j + 1):=by
 refine Ni fun k=>?_
 rw [N1,jA]
 by_cases e:j=k
 ·subst e
  rw [if_pos rfl,if_pos h,jB h,if_pos (by omega),hv]
 ·rw [if_neg e]
  by_cases hk:k < many
  ·rw [jB hk,jB hk]
   by_cases q:k < j
   ·rw [if_pos q,if_pos (by omega)]
   ·rw [if_neg q,if_neg (by omega)]
  ·rw [Md (by rw [jA]; omega),Md (by rw [jA]; omega)]
theorem AG (h:j < many) (hv:hdV (kl f i j)=hdV (kl f (i + 1) j)):ftL f many i j=ftL f many i (j + 1):=by
 rw [<-Cb h hv]
 refine Ni fun k=>?_
 rw [N1,jA]
 by_cases e:j=k
 ·subst e
  rw [if_pos rfl,if_pos h,jB h,if_neg (by omega)]
 ·rw [if_neg e]
theorem GK:ftL f many i many=ftL f many (i + 1) 0:=by
 unfold ftL
 refine NF fun k hk=>?_
 rw [if_pos (MZ.mp hk),if_neg (by omega)]
theorem GL (f:Nat->Nat->Prop) (many:Nat):(Mo many [V.non]).flatten=ftL f many 0 0:=by
 have e:∀ n:Nat,(Mo n [V.non]).flatten=Mo n V.non:=by
  intro n
  induction n with
  | zero=>rfl
  | succ n ih=>rw [N8,N8,O6,ih]; rfl
 rw [e]
 refine Ni fun k=>?_
 by_cases hk:k < many
 ·rw [jB hk,RL,if_pos hk]
  rfl
 ·rw [Md (by rw [Sj]; omega),Md (by rw [jA]; omega)]
end
theorem fA (T:TM) (sys:List Sy):∀ (m L:Nat),m<=T.still sys L->m<=L/\(T.turn sys (L - m)).vw=(T.turn sys L).vw
 | 0,L,_=>⟨MI _,rfl⟩
 | m + 1,0,h=>absurd h (Nat.not_succ_le_zero _)
 | m + 1,L + 1,h=>by
  have e:T.still sys (L + 1)=if (T.turn sys (L + 1)).vw=(T.turn sys L).vw then T.still sys L + 1 else 0:=rfl
  rw [e] at h
  by_cases z:(T.turn sys (L + 1)).vw=(T.turn sys L).vw
  ·rw [if_pos z] at h
   obtain ⟨h1,h2⟩:=fA T sys m L (by omega)
   exact ⟨by omega,by rw [show L + 1 - (m + 1)=L - m by omega,h2,z]⟩
  ·rw [if_neg z] at h
   omega
theorem IW {T:TM} (ok:T.Ok) {sys:List Sy} (h0:0 < sys.length) {L:Nat} (h:sys.length<=T.still sys L):∀ j,j<=sys.length->(T.turn sys (L + j)).vw=(T.turn sys L).vw/\(j < sys.length->T.told sys (L + j)=T.told sys (L + j - sys.length)):=by
 have tl:∀ j,j < sys.length->(T.turn sys (L + j)).vw=(T.turn sys L).vw->T.told sys (L + j)=T.told sys (L + j - sys.length):=by
  intro j hj e
  obtain ⟨h1,h2⟩:=fA T sys (sys.length - j) L (by omega)
  obtain ⟨h3,_⟩:=fA T sys sys.length L h
  unfold TM.told
  rw [show L + j - sys.length=L - (sys.length - j) by omega]
  have es:fX sys (L + j)=fX sys (L - (sys.length - j)):=by
   rw [show L + j=sys.length * 1 + (L - (sys.length - j)) by omega]
   unfold fX
   rw [Nat.mul_add_mod]
  rw [es]
  exact GI (by rw [rO,rO]) (e.trans h2.symm) _
 intro j
 induction j with
 | zero=>exact fun _=>⟨rfl,fun hj=>tl 0 hj rfl⟩
 | succ j ih=>
  intro hj
  obtain ⟨e,t⟩:=ih (by omega)
  have e1:(T.turn sys (L + (j + 1))).vw=(T.turn sys L).vw:=by
   obtain ⟨h1,h2⟩:=fA T sys (sys.length - j) L (by omega)
   obtain ⟨h3,h4⟩:=fA T sys (sys.length - j - 1) L (by omega)
   have a:=Ca ok sys (L + j)
   have b:=Ca ok sys (L - (sys.length - j))
   rw [show L - (sys.length - j) + 1=L - (sys.length - j - 1) by omega,h4,h2] at b
   rw [show L + (j + 1)=L + j + 1 from rfl,a,e,t (by omega),show L + j - sys.length=L - (sys.length - j) by omega]
   exact b.symm
  exact ⟨e1,fun hj'=>tl (j + 1) hj' e1⟩
noncomputable def Dbt (n:Nat) (ps:List (List Int)) (v:List Nat) (i:Nat):Prop:=∃ o,o < n/\v.getD o 0=v.getD i 0/\ps.getD o []≠ps.getD i []
theorem IX {n:Nat} {v:List Nat} (hw:Within n v) (hc:bc v=v) {i:Nat} (hi:i < n):v.getD (v.getD i 0) 0=v.getD i 0/\v.getD i 0 < n:=by
 obtain ⟨h1,h2⟩:=gG hw hi
 have:=(Fa hc h1).1
 rw [h1] at this
 refine ⟨?_,h2⟩
 rw [LO (i:=v.getD i 0),<-this]
 rfl
theorem GM {n:Nat} {ps:List (List Int)} {v:List Nat} (hw:Within n v) (hc:bc v=v) {i:Nat} (hi:i < n):KN n v (uQ n ps v) i↔¬ Dbt n ps v i:=by
 constructor
 ·rintro h ⟨o,ho,e,ne⟩
  have a:ps.getD o []=ps.getD (v.getD o 0) []:=h o ho e
  have b:ps.getD i []=ps.getD (v.getD i 0) []:=h i hi rfl
  rw [e] at a
  exact ne (a.trans b.symm)
 ·intro h o ho e
  obtain ⟨r1,r2⟩:=IX hw hc hi
  have nd:∀ o,o < n->v.getD o 0=v.getD i 0->ps.getD o []=ps.getD i []:=fun o ho e=>Classical.byContradiction fun z=>h ⟨o,ho,e,z⟩
  show ps.getD o []=ps.getD (v.getD o 0) []
  rw [nd o ho e,e,nd _ r2 r1]
noncomputable def aO (k:Nat):List Sy:=(LV k).map Sy.sees
theorem qR (k:Nat):(aO k).length=k:=by unfold aO; rw [LF,MX]
theorem lE {k:Nat} (h:0 < k) (j:Nat):fX (aO k) j=.sees (j % k):=by
 unfold fX
 rw [qR,LO]
 unfold aO
 rw [LU,M1 (PH _ h)]
 rfl
end
section
variable {K:Fg} {vs:List V} {H:Hp} {Q:VK} {E:XK}
open KF
noncomputable def Ts (N:Addr->Prop) (H:Hp) (xs:List V) (n:Nat) (f:Nat->Nat->Prop):Prop:=∀ (i:Nat) (x:V),xs[i]?=some x->∃ r,x=.ref r/\H r=some (.lst (blV n (f i)))/\N r
theorem Ts.same {N:Addr->Prop} {H H':Hp} {xs:List V} {n:Nat} {f:Nat->Nat->Prop} (h:Ts N H xs n f) (s:am H H'):Ts N H' xs n f:=fun i x hx=>let ⟨r,e,q,m⟩:=h i x hx; ⟨r,e,s _ _ q,m⟩
theorem Ts.kp {M P:List Addr} {H H':Hp} {xs:List V} {n:Nat} {f:Nat->Nat->Prop} (h:Ts (fun r=>r∉M) H xs n f) (k:Kp P H H') (hp:∀ b∈P,b∈M):Ts (fun r=>r∉M) H' xs n f:=fun i x hx=>let ⟨r,e,q,m⟩:=h i x hx; ⟨r,e,k.lst (fun z=>m (hp _ z)) q,m⟩
section
open Classical
noncomputable def jC (K:Fg):Sp:=fun vs H Q _=>∃ (many:Nat) (a:Addr) (xs:List V) (f:Nat->Nat->Prop),vs=[.int (many:Int),.ref a]/\H a=some (.lst xs)/\Ts (fun _=>True) H xs many f/\many<=2000/\xs.length<=1000/\
 ∀ p H',H p=none->am H H'->H' p=some (.lst (ftL f many xs.length 0))->Q (.ref p) H'
noncomputable def h9 (K:Fg):TS:=(ap (aE (tOp CD (fT (aa (tC .non) af)) (ac 0)) (aj 2))
 (ap (cu (lX bA K (aa (ac 1) af)) (ip K 2 (bW (aj 3) (bW (aj 4) im))) (cu (cD (aa (ac 0) af)) (aj 5) (bq (qc (aX (tOp wM (tOp (bY K) (ac 2) (ac 5)) (tC .non))) (tB (tOp (bY K) (ac 4) (ac 5)))) (aE (ac 3) (oq (ac 2) (ac 5) kG)) aZ)))
 (aI (ac 2))))
theorem wS (h:jC K vs H Q E):h9 K { nx:=fun _ H'=>Q .non H',rt:=Q } (start ["many","answers","firsts","turn","truths","deal"] vs) H:=by
 obtain ⟨many,a,xs,f,rfl,ea,er,hm1,hr1,q⟩:=h
 show h9 K _ [some _,some _,none,none,none,none] _
 unfold h9
 walk_at "rd"
 refine ⟨by simp [LP],fun l1 H1 hl1 s1 e1=>?_⟩
 walk_at "rd"
 refine ⟨l1,many,_,rfl,rfl,e1,by omega,by omega,by simp [LP]; omega,fun p H2 hp s2 e2=>?_⟩
 rw [OI,GL f] at e2
 have s12:=s1.trans s2
 have hp0:H p=none:=s1.free hp
 walk_at "rd"
 refine rD (S:=bA) xs (SqL.of (s12 _ _ ea)) (fun i σ H3=>∃ (u1 u2 u3:Option V),σ=[some (.int many),some (.ref a),some (.ref p),u1,u2,u3]/\am H H3/\H3 p=some (.lst (ftL f many i 0))) ⟨_,_,_,rfl,s12,e2⟩ ?_ ?_ ?_
 ·rintro i σ H3 hi ⟨u1,u2,u3,rfl,s3,e3⟩
  exact SqL.of (s3 _ _ ea)
 ·rintro i x T σ H3 H4 hx ⟨u1,u2,u3,rfl,s3,e3⟩ hT s4 e4
  obtain ⟨r,rfl,erow,_⟩:=er i x hx
  walk_at "rd"
  refine gh (SqT.of e4) ?_
  walk_at "rd"
  refine eG many (by omega) (by omega) (by omega) (fun j σ H5=>∃ (u3:Option V),σ=[some (.int many),some (.ref a),some (.ref p),some (.int i),some (.ref r),u3]/\am H H5/\H5 p=some (.lst (ftL f many i j))) ⟨_,rfl,s3.trans s4,s4 _ _ e3⟩ ?_ ?_
  ·rintro j σ H5 hj ⟨u3,rfl,s5,e5⟩
   have hsel:=qQ f i j
   walk_at "rd"
   refine bK (SqL.of e5) (ck (jB hj)) ?_
   rw [if_neg (MV j)]
   walk_at "rd"
   refine GD ?_
   rw [Ks]
   walk_at "rd"
   refine bZ (fun c=>?_) (fun c=>?_)
   ·walk_at "rd"
    refine bK (SqL.of (s5 _ _ erow)) (uN hj) ?_
    walk_at "rd"
    refine bZ (fun d=>?_) (fun d=>?_)
    ·walk_at "rd"
     refine nD e5 (HR (by rw [jA]; exact hj)) ?_
     refine ⟨_,rfl,s5.upd hp0 _,?_⟩
     rw [aA,Cb hj]
     rw [hsel,c,if_pos d]
     rfl
    ·walk_at "rd"
     refine ⟨_,rfl,s5,?_⟩
     rw [<-AG hj (by rw [hsel,if_neg d,NH])]
     exact e5
   ·walk_at "rd"
    refine ⟨_,rfl,s5,?_⟩
    rw [<-AG hj (by rw [hsel,Kt c])]
    exact e5
  ·rintro σ H5 ⟨u3,rfl,s5,e5⟩
   rw [GK] at e5
   exact ⟨_,_,_,rfl,s5,e5⟩
 ·rintro σ H3 ⟨u1,u2,u3,rfl,s3,e3⟩
  walk_at "rd"
  exact q _ _ hp0 s3 e3
noncomputable def jD (K:Fg):Sp:=fun vs H Q _=>∃ (a b:Addr) (n i:Nat) (v:List Nat) (ps:List (List Int)),vs=[.ref a,.ref b,.int (i:Int)]/\jx H a ps/\ps.length=n/\H b=some (.lst (au v))/\Within n v/\n<=2000/\i < n/\Q (.bl (decide (Dbt n ps v i))) H
noncomputable def ib (K:Fg):TS:=(ap (cu (cD (aa (tCB (bV K) (aa (ac 0) af)) af)) (aj 3) (bq (qc (aX (tOp rEq (tOp (bY K) (ac 1) (ac 3)) (tOp (bY K) (ac 1) (ac 2)))) (aX (tOp (qp (SqT K) true) (tOp (bY K) (ac 0) (ac 3)) (tOp (bY K) (ac 0) (ac 2))))) (aI (tC (.bl true))) aZ))
 (aI (tC (.bl false))))
theorem wT (h:jD K vs H Q E):ib K { nx:=fun _ H'=>Q .non H',rt:=Q } (start ["_law_piles","_law_view","_law_place","_law_other"] vs) H:=by
 obtain ⟨a,b,n,i,v,ps,rfl,⟨rs,ea,hr⟩,hpl,eb,hv,hn,hi,q⟩:=h
 show ib K _ [some _,some _,some _,none] _
 unfold ib
 have lrs:rs.length=n:=by rw [My hr,hpl]
 walk_at "rd"
 rw [LF,lrs]
 refine eG n (by omega) (by omega) (by omega) (fun j σ H2=>∃ u:Option V,σ=[some (.ref a),some (.ref b),some (.int i),u]/\H2=H/\∀ o,o < j->¬ (v.getD o 0=v.getD i 0/\ps.getD o []≠ps.getD i [])) ⟨none,rfl,rfl,fun o ho=>absurd ho (N4 _)⟩ ?_ ?_
 ·rintro j σ H2 hj ⟨u,rfl,rfl,hno⟩
  obtain ⟨r,hrj,ej⟩:=mq hr (i:=j) (by omega)
  obtain ⟨r',hri,ei⟩:=mq hr (i:=i) (by omega)
  have next:¬ (v.getD j 0=v.getD i 0/\ps.getD j []≠ps.getD i [])->∀ o,o < j + 1->¬ (v.getD o 0=v.getD i 0/\ps.getD o []≠ps.getD i []):=fun z o ho=>by
   by_cases e:o=j
   ·rw [e]; exact z
   ·exact hno o (by omega)
  walk_at "rd"
  refine bK (SqL.of eb) (iz (gG hv hj).1) ?_
  walk_at "rd"
  refine bK (SqL.of eb) (iz (gG hv hi).1) ?_
  walk_at "rd"
  refine bZ (fun c1=>?_) (fun c1=>?_)
  ·walk_at "rd"
   refine bK (SqL.of ea) (v:=.ref r) (ck (by rw [LU,hrj]; rfl)) ?_
   walk_at "rd"
   refine bK (SqL.of ea) (v:=.ref r') (ck (by rw [LU,hri]; rfl)) ?_
   walk_at "rd"
   refine K6 (SqT.of ej) (SqT.of ei) ?_
   walk_at "rd"
   refine tq (fun c2=>?_) (fun c2=>?_)
   ·walk_at "rd"
    rw [decide_eq_true (show Dbt n ps v i from ⟨j,hj,by omega,c2⟩)] at q
    exact q
   ·walk_at "rd"
    exact ⟨_,rfl,rfl,next fun z=>z.2 c2⟩
  ·walk_at "rd"
   exact ⟨_,rfl,rfl,next fun z=>c1 (by rw [z.1])⟩
 ·rintro σ H2 ⟨u,rfl,rfl,hno⟩
  walk_at "rd"
  rw [decide_eq_false (show ¬ Dbt n ps v i from fun ⟨o,ho,z⟩=>hno o ho z)] at q
  exact q
end
theorem IY {M:List Addr} {H H':Hp} {a:Addr} {ps:List (List Int)} (h:jx H a ps) (k:Kp M H H') (n:a∉M):jx H' a ps:=let ⟨rs,e,q⟩:=h; ⟨rs,k.lst n e,Paired.mapP q fun _ _ z=>k.tup z⟩
theorem GN {T:TM} (ok:T.Ok) {k:Nat} (hk:T.k=k) (j:Nat) {i:Nat} (hi:i < T.n):T.told (aO k) j i↔¬ Dbt T.n (T.ws.map fun w=>gE w (k:Int)) ((T.turn (aO k) j).vw.getD (j % k) []) i:=by
 have h1:1<=T.k:=ok.pk.l1
 have okj:=rQ ok (aO k) j
 have hl:(T.turn (aO k) j).vw.length=k:=by rw [okj.len,eY,hk]
 have hm:(T.turn (aO k) j).vw.getD (j % k) []∈(T.turn (aO k) j).vw:=by
  rw [LO,LD (by rw [hl]; exact PH _ (by omega))]
  exact Od _
 have hw:=okj.win _ hm
 have hc:=okj.can _ hm
 rw [lB] at hw
 unfold TM.told
 rw [lE (by omega)]
 show KN (T.turn (aO k) j).n ((T.turn (aO k) j).vw.getD (j % k) []) (uQ (T.turn (aO k) j).n ((T.turn (aO k) j).ws.map fun w=>gE w (((T.turn (aO k) j).vw.length:Nat):Int)) ((T.turn (aO k) j).vw.getD (j % k) [])) i↔_
 rw [lB,rO,hl]
 exact GM hw hc hi
noncomputable def jE (_:Fg) (G:GF):Sp:=fun vs H Q _=>∃ (M:List Addr) (x pv pe a pl:Addr) (T:TM) (xs:List V) (k:Nat),vs=[.ref x,.ref a,.ref pl,.int (k:Int)]/\Tb G M H x pv pe T/\T.k=k/\H a=some (.lst xs)/\a∉M/\Ts (fun r=>r∉M) H xs T.n (T.told (aO k))/\jx H pl (T.ws.map fun w=>gE w (k:Int))/\pl∉M/\xs.length<=100/\T.ds.length<=500/\
 ∀ H',Kp [pv,pe] H H'->Tb G M H' x pv pe (T.turn (aO k) xs.length)->Q (.bl true) H'
noncomputable def ic (K:Fg) (G:GF):TS:=(ap (aE (ze (aa (ac 3) af)) (aj 4))
 (ap (cu (lX bA K (aa (ac 1) af)) (ip K 2 (bW (aj 5) (bW (aj 6) im))) (ap (aE (ek G.Table "view" (fE K G) [] E0 (ac 0) (aa (tOp (rI (fun _ j=>0 < j) fun i j=>.int (i % j)) (ac 5) (ac 3)) af)) (aj 7))
 (ap (cu (cD (aa (tCB (bV K) (aa (ac 2) af)) af)) (aj 8) (bq (aX (tOp rEq (av (jD K) [] E0 (aa (ac 2) (aa (ac 7) (aa (ac 8) af)))) (tOp (bY K) (ac 6) (ac 8)))) (aI (tC (.bl false))) aZ))
 (bq (aX (tOp (lv K true) (ek G.Table "word" (d6 K G) [] E0 (ac 0) (aa (ac 4) (aa (cG (aa (tC (.str "sees")) (aa (tOp (rI (fun _ j=>0 < j) fun i j=>.int (i % j)) (ac 5) (ac 3)) af))) af))) (ac 6))) (aI (tC (.bl false))) aZ))))
 (aI (tC (.bl true)))))
noncomputable abbrev yv:List Str:=["_law_table","_law_answers","_law_piles","_law_hands","_law_whole","_law_turn","_law_truths","_law_view","_law_place"]
section
open Classical
theorem wU {K:Fg} {G:GF} {vs:List V} {H:Hp} {Q:VK} {E:XK} (h:jE K G vs H Q E):ic K G { nx:=fun _ H'=>Q .non H',rt:=Q } (start yv vs) H:=by
 obtain ⟨M,x,pv,pe,a,pl,T,xs,k,rfl,t,hk,ea,na,hT,hP,npl,hx1,hds,q⟩:=h
 have hk1:1<=T.k:=t.ok.pk.l1
 have hk5:T.k<=5:=t.ok.pk.l5
 have n2:=t.ok.n2
 have sub:∀ b∈[pv,pe],b∈M:=fun b hb=>by
  rcases LI.mp hb with z | z
  ·rw [z]; exact t.mv
  ·rw [LG.mp z]; exact t.me
 show ic K G _ [some _,some _,some _,some _,none,none,none,none,none] _
 unfold ic
 walk_at "rd"
 refine AD ?_
 walk_at "rd"
 refine ⟨k,rfl,by omega,C0 (by omega) fun tp H2 htp s2 e2=>?_⟩
 have e2':H2 tp=some (.tup (au (LV T.k))):=by rw [hk]; exact e2
 walk_at "rd"
 refine rD (S:=bA) xs (SqL.of (s2 _ _ ea)) (fun i σ H3=>∃ (u5 u6 u7 u8:Option V),σ=[some (.ref x),some (.ref a),some (.ref pl),some (.int k),some (.ref tp),u5,u6,u7,u8]/\Kp [pv,pe] H H3/\H3 tp=some (.tup (au (LV T.k)))/\Tb G M H3 x pv pe (T.turn (aO k) i)) ⟨none,none,none,none,rfl,Kp.of s2,e2',t.same s2⟩ ?_ ?_ ?_
 ·rintro i σ H3 hi ⟨u5,u6,u7,u8,rfl,k3,_,_⟩
  exact SqL.of (k3.lst (fun z=>na (sub _ z)) ea)
 ·rintro i y TT σ H3 H4 hy ⟨u5,u6,u7,u8,rfl,k3,e3,t3⟩ hTT s4 e4
  obtain ⟨r,rfl,er,nr⟩:=hT i y hy
  have hi:i < xs.length:=(LJ.mp hy).1
  have k4:=k3.trans (Kp.of s4)
  have t4:=t3.same s4
  have er4:=k4.lst (fun z=>nr (sub _ z)) er
  walk_at "rd"
  refine gh (SqT.of e4) ?_
  walk_at "rd"
  obtain ⟨dx1,fs1,hx1',hl1⟩:=t4.at "view" (by decide +kernel) (by decide +kernel) (by decide +kernel) (by decide +kernel) (by decide +kernel) (by decide +kernel)
  refine fD ?_
  walk_at "rd"
  refine ⟨x,dx1,fs1,rfl,hx1',hl1,?_⟩
  walk_at "rd"
  rw [show ((i:Int) % (k:Int))=((i % k:Nat):Int) from rfl]
  have hik:i % k < k:=PH _ (by omega)
  refine ⟨M,x,pv,pe,T.turn (aO k) i,i % k,rfl,t4,by rw [eY,hk]; exact hik,fun pw H5 hpw s5 e5=>?_⟩
  have t5:=t4.same s5
  have k5:=k4.trans (Kp.of s5)
  have P5:=IY hP k5 fun z=>npl (sub _ z)
  have er5:=s5 _ _ er4
  have okj:=rQ t.ok (aO k) i
  have hw:Within T.n ((T.turn (aO k) i).vw.getD (i % k) []):=by
   have:=okj.win ((T.turn (aO k) i).vw.getD (i % k) []) (by
    rw [LO,LD (by rw [okj.len,eY,hk]; exact hik)]
    exact Od _)
   rw [lB] at this
   exact this
  walk_at "rd"
  obtain ⟨rs5,ea5,hr5⟩:=id P5
  refine gB (ys:=rs5.map V.ref) (SqL.of ea5) ?_
  walk_at "rd"
  have lrs:(rs5.map V.ref).length=T.n:=by rw [LF,My hr5,LF]; rfl
  rw [lrs]
  refine eG T.n (by omega) (by omega) (by omega) (fun j σ H6=>∃ u8:Option V,σ=[some (.ref x),some (.ref a),some (.ref pl),some (.int k),some (.ref tp),some (.int i),some (.ref r),some (.ref pw),u8]/\H6=H5) ⟨u8,rfl,rfl⟩ ?_ ?_
  ·rintro j σ H6 hj ⟨u8,rfl,rfl⟩
   walk_at "rd"
   refine ⟨pl,pw,T.n,j,_,_,rfl,P5,by rw [LF]; rfl,e5,hw,n2,hj,?_⟩
   walk_at "rd"
   refine bK (SqL.of er5) (uN hj) ?_
   walk_at "rd"
   have tj:=GN t.ok hk i hj
   by_cases d:Dbt T.n (T.ws.map fun w=>gE w (k:Int)) ((T.turn (aO k) i).vw.getD (i % k) []) j
   ·rw [decide_eq_true d,decide_eq_false (show ¬ T.told (aO k) i j from fun z=>tj.mp z d)]
    walk_at "rd"
    exact ⟨_,rfl,rfl⟩
   ·rw [decide_eq_false d,decide_eq_true (show T.told (aO k) i j from tj.mpr d)]
    walk_at "rd"
    exact ⟨_,rfl,rfl⟩
  ·rintro σ H6 ⟨u8,rfl,rfl⟩
   walk_at "rd"
   obtain ⟨dx2,fs2,hx2,hl2⟩:=t5.at "word" (by decide +kernel) (by decide +kernel) (by decide +kernel) (by decide +kernel) (by decide +kernel) (by decide +kernel)
   refine fD ?_
   walk_at "rd"
   refine ⟨x,dx2,fs2,rfl,hx2,hl2,?_⟩
   walk_at "rd"
   rw [show ((i:Int) % (k:Int))=((i % k:Nat):Int) from rfl]
   refine ⟨by simp [LP],fun tw H7 htw s7 e7=>?_⟩
   walk_at "rd"
   have hdj:=rP T (aO k) i
   refine ⟨M,x,pv,pe,tp,T.turn (aO k) i,LV T.k,.ref tw,.sees (i % k),rfl,t5.same s7,s7 _ _ (s5 _ _ (s4 _ _ e3)),Oa,fun h hh=>by rw [eY]; exact MZ.mp hh,⟨tw,rfl,e7⟩,by rw [eY,hk]; exact hik,(show 1<=30 by decide),by omega,vd fun p8 H8 hp8 k8 e8 t8=>?_⟩
   have es:(T.turn (aO k) i).tr (.sees (i % k))=T.told (aO k) i:=by unfold TM.told; rw [lE (by omega)]
   rw [lB,es] at e8
   have k58:=(k5.trans (Kp.of s7)).trans k8
   have er8:=k8.lst (fun z=>nr (sub _ z)) (s7 _ _ er5)
   walk_at "rd"
   refine BY 1 (by decide) (oN (SqL.of e8) (SqL.of er8) (Ag _ _)) ?_
   walk_at "rd"
   refine ⟨_,_,_,_,rfl,k58,k8.tup (s7 _ _ (s5 _ _ (s4 _ _ e3))),?_⟩
   show Tb G M H8 x pv pe ((T.turn (aO k) i).word (LV T.k) (fX (aO k) i))
   rw [lE (by omega)]
   exact t8
 ·rintro σ H3 ⟨u5,u6,u7,u8,rfl,k3,e3,t3⟩
  walk_at "rd"
  exact q H3 k3 t3
end
noncomputable def km (_:Fg) (G:GF):Sp:=fun vs H Q _=>∃ (M:List Addr) (x pv pe a:Addr) (T:TM) (xs:List V) (k:Nat),vs=[.ref x,.ref a,.int (k:Int)]/\Tb G M H x pv pe (T.turn (aO k) xs.length)/\T.Ok/\T.k=k/\H a=some (.lst xs)/\a∉M/\Ts (fun r=>r∉M) H xs T.n (T.told (aO k))/\k<=T.still (aO k) xs.length/\xs.length<=100/\T.ds.length<=500/\
 ∀ H',Kp [pv,pe] H H'->Q (.bl true) H'
noncomputable def i7 (K:Fg) (G:GF):TS:=(ap (aE (bT (cD (aa (ac 2) af)) (fun _ _ _ _=>(aj 0)) (fun _ _ _ _=>bB) (fun _ _ _ _=>(ek G.Table "view" (fE K G) [] E0 (ac 1) (aa (ac 0) af))) [none,some 0]) (aj 3))
 (ap (cu (cD (aa (ac 2) af)) (aj 4) (ap (aE (tOp (rI0 fun i j=>.int (i + j)) (tCB (bV K) (aa (ac 1) af)) (ac 4)) (aj 5))
 (ap (aE (ek G.Table "word" (d6 K G) [] E0 (ac 0) (aa (ze (aa (ac 2) af)) (aa (cG (aa (tC (.str "sees")) (aa (tOp (rI (fun _ j=>0 < j) fun i j=>.int (i % j)) (ac 5) (ac 2)) af))) af))) (aj 6))
 (bq (aX (tOp (lv K true) (ac 6) (tOp (bY K) (ac 1) (tOp (rI0 fun i j=>.int (i - j)) (ac 5) (ac 2))))) (aI (tC (.bl false))) aZ))))
 (aI (tOp (lv K false) (bT (cD (aa (ac 2) af)) (fun _ _ _ _=>(aj 0)) (fun _ _ _ _=>bB) (fun _ _ _ _=>(ek G.Table "view" (fE K G) [] E0 (ac 1) (aa (ac 0) af))) [none,some 0]) (ac 3)))))
noncomputable abbrev AH:List Str:=["_law_table","_law_answers","_law_hands","_law_ahead","_law_k","_law_turn","_law_truths"]
theorem yw {K:Fg} {G:GF} {vs:List V} {H:Hp} {Q:VK} {E:XK} (h:km K G vs H Q E):i7 K G { nx:=fun _ H'=>Q .non H',rt:=Q } (start AH vs) H:=by
 obtain ⟨M,x,pv,pe,a,T,xs,k,rfl,t,ok,hk,ea,na,hT,hst,hx1,hds,q⟩:=h
 have hk1:1<=T.k:=ok.pk.l1
 have hk5:T.k<=5:=ok.pk.l5
 have sub:∀ b∈[pv,pe],b∈M:=fun b hb=>by
  rcases LI.mp hb with z | z
  ·rw [z]; exact t.mv
  ·rw [LG.mp z]; exact t.me
 have sL:=qR k
 have h0:0 < (aO k).length:=by omega
 have cF:=IW ok h0 (L:=xs.length) (by rw [sL]; exact hst)
 have hL:=(fA T (aO k) k xs.length hst).1
 show i7 K G _ [some _,some _,some _,none,none,none,none] _
 unfold i7
 walk_at "rd"
 refine qK k (by omega) (by omega) (by omega) (fun p' i acc H2=>acc.length=i/\∀ j:Nat,j < i->∃ q,acc[j]?=some (.ref q)/\(q≠p'/\q∉M)/\H2 q=some (.lst (au ((T.turn (aO k) xs.length).vw.getD j [])))) (fun _ _ _=>⟨rfl,fun j hj=>absurd hj (N4 _)⟩) ?_ ?_
 ·intro p' hp' C s' H' fp i acc H7 hi ⟨s7,e7,l7,r1,r2⟩
  walk_at "rd"
  obtain ⟨dx1,fs1,hx1',hl1⟩:=(t.same s7).at "view" (by decide +kernel) (by decide +kernel) (by decide +kernel) (by decide +kernel) (by decide +kernel) (by decide +kernel)
  refine fD ?_
  walk_at "rd"
  refine ⟨x,dx1,fs1,rfl,hx1',hl1,?_⟩
  walk_at "rd"
  refine ⟨M,x,pv,pe,_,i,rfl,t.same s7,by rw [eY,hk]; exact hi,fun q8 H8 hq8 s8 e8=>?_⟩
  walk_at "rd"
  refine bn.putW hp' (s7.trans s8) (s8 _ _ e7) l7 fun H9 o9=>⟨by rw [L7,r1]; rfl,fun j hj=>?_⟩
  by_cases hj2:j < i
  ·obtain ⟨q,h1,h2,h3⟩:=r2 j hj2
   exact ⟨q,by rw [Oh (by omega)]; exact h1,h2,(o9 _ h2.1).trans (s8 _ _ h3)⟩
  ·have ej:j=i:=by omega
   subst ej
   have hqp:q8≠p':=fun z=>by rw [z,e7] at hq8; cases hq8
   exact ⟨q8,by rw [OE (by omega),r1,Qx]; rfl,⟨hqp,(t.same s7).off hq8⟩,(o9 _ hqp).trans e8⟩
 ·intro ph acc H2 hph s2 e2 ⟨r1,r2⟩
  walk_at "rd"
  have nph:ph∉M:=t.off hph
  refine eG k (by omega) (by omega) (by omega) (fun j σ H3=>∃ (u4 u5 u6:Option V),σ=[some (.ref x),some (.ref a),some (.int k),some (.ref ph),u4,u5,u6]/\Kp [pv,pe] H2 H3/\Tb G M H3 x pv pe (T.turn (aO k) (xs.length + j))) ⟨none,none,none,rfl,Kp.of (am.refl _),t.same s2⟩ ?_ ?_
  ·rintro j σ H3 hj ⟨u4,u5,u6,rfl,k3,t3⟩
   have k03:=(Kp.of s2).trans k3
   have ea3:=k03.lst (fun z=>na (sub _ z)) ea
   walk_at "rd"
   obtain ⟨dx2,fs2,hx2,hl2⟩:=t3.at "word" (by decide +kernel) (by decide +kernel) (by decide +kernel) (by decide +kernel) (by decide +kernel) (by decide +kernel)
   refine fD ?_
   walk_at "rd"
   refine ⟨x,dx2,fs2,rfl,hx2,hl2,?_⟩
   walk_at "rd"
   refine AD ?_
   walk_at "rd"
   refine ⟨k,rfl,by omega,C0 (by omega) fun tp H4 htp s4 e4=>?_⟩
   have e4':H4 tp=some (.tup (au (LV T.k))):=by rw [hk]; exact e4
   walk_at "rd"
   rw [show (((xs.length:Nat):Int) + (j:Int)) % (k:Int)=(((xs.length + j) % k:Nat):Int) from rfl]
   have hik:(xs.length + j) % k < k:=PH _ (by omega)
   refine ⟨by simp [LP],fun tw H7 htw s7 e7=>?_⟩
   walk_at "rd"
   have hdj:=rP T (aO k) (xs.length + j)
   have s47:=s4.trans s7
   refine ⟨M,x,pv,pe,tp,T.turn (aO k) (xs.length + j),LV T.k,.ref tw,.sees ((xs.length + j) % k),rfl,t3.same s47,s7 _ _ e4',Oa,fun h hh=>by rw [eY]; exact MZ.mp hh,⟨tw,rfl,e7⟩,by rw [eY,hk]; exact hik,(show 1<=30 by decide),by omega,vd fun p8 H8 hp8 k8 e8 t8=>?_⟩
   have es:(T.turn (aO k) (xs.length + j)).tr (.sees ((xs.length + j) % k))=T.told (aO k) (xs.length + j):=by unfold TM.told; rw [lE (by omega)]
   rw [lB,es,(cF j (by omega)).2 (by omega),sL] at e8
   have k38:=(k3.trans (Kp.of s47)).trans k8
   walk_at "rd"
   have hxj:xs[xs.length + j - k]?=some (xs[xs.length + j - k]'(by omega)):=LD _
   generalize xs[xs.length + j - k]'(by omega)=xj at hxj
   obtain ⟨r,rfl,er,nr⟩:=hT _ _ hxj
   have k08:=(Kp.of s2).trans k38
   rw [show ((xs.length:Nat):Int) + (j:Int) - (k:Int)=((xs.length + j - k:Nat):Int) by omega]
   refine bK (SqL.of (k08.lst (fun z=>na (sub _ z)) ea)) (ck hxj) ?_
   walk_at "rd"
   refine BY 1 (by decide) (oN (SqL.of e8) (SqL.of (k08.lst (fun z=>nr (sub _ z)) er)) (Ag _ _)) ?_
   walk_at "rd"
   refine ⟨_,_,_,rfl,k38,?_⟩
   show Tb G M H8 x pv pe ((T.turn (aO k) (xs.length + j)).word (LV T.k) (fX (aO k) (xs.length + j)))
   rw [lE (by omega)]
   exact t8
  ·rintro σ H3 ⟨u4,u5,u6,rfl,k3,t3⟩
   walk_at "rd"
   have ev:(T.turn (aO k) (xs.length + k)).vw=(T.turn (aO k) xs.length).vw:=by
    have:=(cF (aO k).length (LH _)).1
    rw [sL] at this
    exact this
   refine qK k (by omega) (by omega) (by omega) (fun p' i acc H2=>acc.length=i/\∀ j:Nat,j < i->∃ q,acc[j]?=some (.ref q)/\(q≠p'/\q∉M)/\H2 q=some (.lst (au ((T.turn (aO k) (xs.length + k)).vw.getD j [])))) (fun _ _ _=>⟨rfl,fun j hj=>absurd hj (N4 _)⟩) ?_ ?_
   ·intro p' hp' C s' H' fp i acc H7 hi ⟨s7,e7,l7,r1,r2⟩
    walk_at "rd"
    obtain ⟨dx1,fs1,hx1',hl1⟩:=(t3.same s7).at "view" (by decide +kernel) (by decide +kernel) (by decide +kernel) (by decide +kernel) (by decide +kernel) (by decide +kernel)
    refine fD ?_
    walk_at "rd"
    refine ⟨x,dx1,fs1,rfl,hx1',hl1,?_⟩
    walk_at "rd"
    refine ⟨M,x,pv,pe,_,i,rfl,t3.same s7,by rw [eY,hk]; exact hi,fun q8 H8 hq8 s8 e8=>?_⟩
    walk_at "rd"
    refine bn.putW hp' (s7.trans s8) (s8 _ _ e7) l7 fun H9 o9=>⟨by rw [L7,r1]; rfl,fun j hj=>?_⟩
    by_cases hj2:j < i
    ·obtain ⟨q,h1,h2,h3⟩:=r2 j hj2
     exact ⟨q,by rw [Oh (by omega)]; exact h1,h2,(o9 _ h2.1).trans (s8 _ _ h3)⟩
    ·have ej:j=i:=by omega
     subst ej
     have hqp:q8≠p':=fun z=>by rw [z,e7] at hq8; cases hq8
     exact ⟨q8,by rw [OE (by omega),r1,Qx]; rfl,⟨hqp,(t3.same s7).off hq8⟩,(o9 _ hqp).trans e8⟩
   ·intro pg bcc H4 hpg s4 e4 ⟨b1,b2⟩
    walk_at "rd"
    refine IH 2 (by decide) (.lst (SqL.of e4) (SqL.of (s4 _ _ (k3.lst (fun z=>nph (sub _ z)) e2))) (by rw [b1,r1]) fun i y z hy hz=>?_) ?_
    ·have hi:i < k:=by rw [<-r1]; exact (LJ.mp hz).1
     obtain ⟨q1,h1,h2,h3⟩:=r2 i hi
     obtain ⟨q2,g1,g2,g3⟩:=b2 i hi
     rw [h1] at hz
     rw [g1] at hy
     cases hz
     cases hy
     rw [ev] at g3
     refine oN (SqL.of g3) (SqL.of (s4 _ _ (k3.lst (fun z=>h2.2 (sub _ z)) h3))) ?_
     rw [dJ]
     exact EZ _
    ·walk_at "rd"
     exact q H4 (((Kp.of s2).trans k3).trans (Kp.of s4))
theorem GO {l:List Nat} {M:Int} {z:Nat} {r:List Nat} (e:l=z :: r) (hp:l.Pairwise (· < ·)) (hM:M∈l.map fun (s:Nat)=>((s:Nat):Int)) (hm:∀ a∈l.map (fun (s:Nat)=>((s:Nat):Int)),M<=a):M=(z:Int):=by
 subst e
 obtain ⟨m,h1,rfl⟩:=Nr.mp hM
 have h2:=hm (z:Int) (Nr.mpr ⟨z,LK,rfl⟩)
 rcases LI.mp h1 with w | w
 ·rw [w]
 ·have:=(Pz.mp hp).1 m w
  omega
noncomputable abbrev Ku (K:Fg):Sp:=uw K
noncomputable def zf (K:Fg) (G:GF):TS:=(ap (aE (av (lp K) [] E0 (aa (ac 0) (aa (tC (.int 0)) (aa (tC (.int 60)) af)))) (ip K 2 (bW (aj 1) (bW (aj 2) im))))
 (ap (aE (tCB (bV K) (aa (ac 2) af)) (aj 3))
 (ap (aE (av (jM K) [] E0 (aa (ac 1) (aa (ac 2) af))) (aj 4))
 (ap (aE (bT (dt K (ac 4)) (fun _ _ _ _=>(aj 0)) (fun _ _ _ _=>bB) (fun _ _ _ _=>(av (g9 K) [] E0 (aa (ac 0) (aa (ac 1) af)))) [none,some 3]) (aj 5))
 (ap (aE (uk G.Table (dy K G) [] E0 (aa (ac 1) (aa (ac 2) af))) (aj 6))
 (ap (cu (cD (aa (tOp (rI (fun _ j=>0 < j) fun i j=>.int (i % j)) (av (bm K) [] E0 (aa (ac 0) (aa (tC (.int 7)) af))) (tC (.int 3))) af)) (aj 7) (ee (av (lD K G) [] E0 (aa (ac 6) (aa (av (lC K) [] E0 (aa (ac 0) (aa (tOp (rI0 fun i j=>.int (i + j)) (tC (.int 10)) (tOp (rI OR fun i j=>.int (i * j)) (tC (.int 18)) (ac 7))) (aa (ac 1) (aa (ac 3) af))))) af)))))
 (ap (aE (tOp (rI (fun _ j=>0 < j) fun i j=>.int (i % j)) (av (bm K) [] E0 (aa (ac 0) (aa (tC (.int 8)) af))) (tC (.int 61))) (aj 8))
 (ap (aE (av (wR K G) [] E0 (aa (ac 6) (aa (bT (cD (aa (ac 3) af)) (fun _ _ _ _=>(aj 0)) (fun _ _ _ _=>bB) (fun _ _ _ _=>(cG (aa (tC (.str "sees")) (aa (ac 0) af)))) [none]) (aa (ac 8) af)))) (aj 9))
 (ap (aE (av (jC K) [] E0 (aa (tCB (bV K) (aa (ac 4) af)) (aa (ac 9) af))) (aj 10))
 (ap (bq (tOr (aX (tOp (rI0 fun i j=>.bl (decide (j < i))) (tCB (bV K) (aa (ac 9) af)) (ac 8))) (fS (tB (av (jE K G) [] E0 (aa (ac 6) (aa (ac 9) (aa (ac 5) (aa (ac 3) af)))))))) (aI (tC (.bl false))) aZ)
 (ap (bq (qc (aX (tOp (rI0 fun i j=>.bl (decide (i < j))) (tCB (bV K) (aa (ac 9) af)) (ac 8))) (tOr (aX (tOp (rI0 fun i j=>.bl (decide (i < j))) (tCB (bV K) (aa (ac 9) af)) (ac 3))) (fS (tB (av (km K G) [] E0 (aa (ac 6) (aa (ac 9) (aa (ac 3) af)))))))) (aI (tC (.bl false))) aZ)
 (ap (cu (cD (aa (tCB (bV K) (aa (ac 4) af)) af)) (aj 11) (ap (aE (bT (cD (aa (tCB (bV K) (aa (ac 9) af)) af)) (fun _ _ _ _=>(aj 0)) (fun _ _ _ _=>(tB (tOp (bY K) (tOp (bY K) (ac 2) (ac 0)) (ac 1)))) (fun _ _ _ _=>(ac 0)) [none,some 11,some 9]) (aj 12))
 (bq (aX (tOp rNe (tOp (bY K) (ac 10) (ac 11)) (zc K (aa (ac 12) af)))) (aI (tC (.bl false))) aZ)))
 (aI (tOp rEq (tCB (bV K) (aa (ac 10) af)) (tCB (bV K) (aa (ac 4) af))))))))))))))))
noncomputable abbrev Le:List Str:=["_law_script","_law_cards","_law_sizes","_law_hands","_law_deals","_law_piles","_law_table","_law_k","_law_turns","_law_answers","_law_found","_law_place","_law_some"]
section
open Classical
theorem Kv {K : Fg} {G : GF} {vs : List V} {H : Hp} {Q : VK} {E : XK} (h : Ku K vs H Q E) : zf K G { nx := fun _ H' => Q .non H', rt := Q } (start Le vs) H := by
  obtain ⟨a, ns, rfl, hSc, g⟩ := h
  show zf K G _ [some _, none, none, none, none, none, none, none, none, none, none, none, none] _
  unfold zf
  refine bR ?_
  walk_at "rs"
  refine ⟨a, ns, 0, 60, rfl, hSc, by decide, by decide, by decide, fun c ss tp q H1 s1 htp hq e1 eq1 pk hm => ?_⟩
  refine gh (SqT.of e1) ?_
  have h1 := pk.l1
  have h5 := pk.l5
  have c12 := pk.c12
  walk_at "rs"
  refine bR ?_
  walk_at "rs"
  rw [bh]
  refine bR ?_
  walk_at "rs"
  refine ⟨c, q, ss, rfl, eq1, pk, by omega, fun pdl Hd sd hpdl Dd' => ?_⟩
  have okB := TM.Ok.begun pk (show KM.cE c ss ≤ 2000 by omega)
  have nB := okB.n2
  walk_at "rs"
  refine bR ?_
  walk_at "rs"
  obtain ⟨rd, erd, hrd⟩ := id Dd'
  have lrd : rd.length = (TM.begun c ss).n := My hrd
  refine fN (rd.map V.ref) (SqL.of erd) (by rw [LF]; omega) (fun i acc H2 => ∃ ts : List Addr, acc = ts.map V.ref ∧ Paired (fun (r : Addr) (xs : List Int) => H2 r = some (.tup (xs.map V.int))) ts (((TM.begun c ss).ws.take i).map fun w => gE w (ss.length : Nat))) (fun _ _ => ⟨[], rfl, .nil⟩) ?_ ?_
  · rintro p' hp' C s' H' fp i y acc H2 hy ⟨s2, e2, l2, ts, rfl, ht⟩
    obtain ⟨d, hd, rfl⟩ := uK hy
    obtain ⟨u, hu, eu⟩ := cf hrd hd
    have huc := okB.cards u (LX hu)
    have : (TM.begun c ss).c = c := rfl
    walk_at "rd"
    refine ⟨d, u.map fun (s : Nat) => ((s : Nat) : Int), (ss.length : Nat), rfl, by rw [← dJ]; exact SqT.of (s2 _ _ eu), by rw [LF]; omega, fun r H3 s3 e3 => ?_⟩
    rw [LF] at e3
    refine bn.put hp' (fun _ _ _ _ ⟨ts, e, r⟩ k => ⟨ts, e, Paired.mapP r fun _ _ z => k _ _ z⟩) (s2.trans s3) (s3 _ _ e2) l2 ⟨ts ++ [r], by simp, ?_⟩
    show Paired _ _ (((KM.cq (ss ++ [c - ss.sum]) c).take (i + 1)).map _)
    rw [dh hu, Mf]
    exact uU (Paired.mapP ht fun _ _ z => s3 _ _ z) e3
  rintro pl acc Hp hpl sp ep ⟨ts, rfl, ht⟩
  rw [LF, lrd, show (TM.begun c ss).n = (TM.begun c ss).ws.length from rfl, Mx] at ht
  have PP : jx Hp pl ((TM.begun c ss).ws.map fun w => gE w (ss.length : Nat)) := ⟨ts, ep, ht⟩
  have s1p := sd.trans sp
  walk_at "rs"
  refine bR (kI (Fj ?_))
  walk_at "rd"
  intro x dx hx hdx hne
  have st : am Hp (upd (upd Hp dx (.own x)) x (.ins G.Table dx [])) := ((am.refl Hp).upd hdx _).upd hx _
  refine ⟨[], x, dx, q, c, ss, rfl, aA, st _ _ (s1p _ _ eq1), pk, by omega, (fun b hb => nomatch hb), (fun hb => nomatch hb), fun H2 pv pe kx hpv hpe t2 => ?_⟩
  have s2 : am Hp H2 := fun b o e => kx _ _ (aV e hx) (st _ _ e)
  have hpv1 := st.free hpv
  have hpe1 := st.free hpe
  have new2 : ∀ b ∈ [pv, pe], Hp b = none := fun b hb => by
    rcases LI.mp hb with z | z
    · rw [z]; exact hpv1
    · rw [LG.mp z]; exact hpe1
  have hScp := (hSc.same s1).same s1p
  have off2 : ∀ {b : Addr} {o : HO}, Hp b = some o → b ∉ [pv, pe] := fun e z => by rw [new2 _ z] at e; cases e
  refine ⟨rfl, ?_⟩
  walk_at "rs"
  refine kX fun NX hNX => ?_
  walk_at "rd"
  refine ⟨a, ns, 7, rfl, hScp.same s2, by decide, by decide, ?_⟩
  walk_at "rd"
  obtain ⟨m, hm7, hm3⟩ : ∃ m : Nat, bE ns 7 % 3 = (m : Int) ∧ m < 3 := ⟨(bE ns 7 % 3).toNat, by omega, by omega⟩
  rw [hm7]
  refine eG m (by omega) (by omega) (by omega) (fun i σ H3 => ∃ (u5 : Option V) (T : TM), σ = [some (.ref a), some (.int c), some (.ref q), some (.int ss.length), some (.ref pdl), some (.ref pl), some (.ref x), u5, none, none, none, none, none] ∧ am Hp H3 ∧ Tb G [pv, pe] H3 x pv pe T ∧ T.c = c ∧ T.ss = ss ∧ T.ds.length = i) ⟨none, _, rfl, s2, t2, rfl, rfl, rfl⟩ ?_ ?_
  · rintro i σ H3 hi ⟨u5, T, rfl, s3, t3, hc, hss, hds⟩
    walk_at "rd"
    refine ⟨a, ns, 10 + 18 * (i : Int), c, ss.length, rfl, hScp.same s3, by omega, by omega, h1, h5, fun v d H4 s4 hd ok => ?_⟩
    walk_at "rd"
    have hk : T.k = ss.length := by unfold TM.k; rw [hss]
    refine ⟨[pv, pe], x, pv, pe, T, v, d, rfl, t3.same s4, hd.to (fun _ _ e => e) (fun l xs hl e => ⟨e, t3.off hl⟩), by rw [hc, hk]; exact ok, by omega, vd fun p5 H5 hp5 k5 e5 t5 => ?_⟩
    walk_at "rd"
    exact ⟨_, T.deed d, rfl, k5.new (s3.trans s4) new2, t5, (Fl T d).1.trans hc, (Fl T d).2.trans hss, by rw [IV, hds]⟩
  · rintro σ H3 ⟨u5, T, rfl, s3, t3, hc, hss, hds⟩
    refine hNX _ _ ?_
    clear hNX
    have hk : T.k = ss.length := by unfold TM.k; rw [hss]
    have hws : T.ws = (TM.begun c ss).ws := by unfold TM.ws; rw [hc, hss]; rfl
    have hn : T.n = (TM.begun c ss).n := by unfold TM.n; rw [hws]
    have n2 := t3.ok.n2
    refine bR ?_
    walk_at "rs"
    refine ⟨a, ns, 8, rfl, hScp.same s3, by decide, by decide, ?_⟩
    walk_at "rs"
    obtain ⟨tu, htu, htul⟩ : ∃ m : Nat, bE ns 8 % 61 = (m : Int) ∧ m ≤ 60 := ⟨(bE ns 8 % 61).toNat, by omega, by omega⟩
    rw [htu]
    refine bR ?_
    walk_at "rs"
    refine oE ss.length (by omega) (by omega) (by omega) (fun j acc H' => Paired (aN H') acc (aO j)) (fun _ _ => .nil) ?_ ?_
    · rintro p' hp' C s' H' fp j acc H4 hj ⟨s4, e4, l4, hsy⟩
      walk_at "rd"
      refine ⟨by simp [LP], fun t5 H5 ht5 s5 e5 => ?_⟩
      refine bn.put hp' (fun _ _ _ _ z k => Paired.mapP z fun _ _ z => z.keep k) (s4.trans s5) (s5 _ _ e4) l4 ?_
      unfold aO
      rw [N5, Mf]
      exact Ay (Paired.mapP hsy fun _ _ z => z.keep s5.keep) ⟨t5, rfl, e5⟩
    · rintro sl acc H4 hsl s4 e4 hsy
      have t4 := t3.same s4
      walk_at "rs"
      have sL := qR ss.length
      refine ⟨[pv, pe], x, pv, pe, sl, T, aO ss.length, tu, rfl, t4, ⟨acc, e4, hsy⟩, by omega, fun s hs => ?_, by omega, by omega, fun pa L H5 hpa s5 P5 len5 => ?_⟩
      · obtain ⟨k, hk', rfl⟩ := Nr.mp hs
        exact ⟨by rw [hk]; exact MZ.mp hk', (show 1 ≤ 30 by decide)⟩
      obtain ⟨ra, ea5, qa5⟩ := P5
      have lra : ra.length = L := by rw [My qa5, MX]
      have t5 := t4.same s5
      have Ts5 : Ts (fun r => r ∉ [pv, pe]) H5 (ra.map V.ref) T.n (T.told (aO ss.length)) := fun i y hy => by
        obtain ⟨r, hr, rfl⟩ := uK hy
        obtain ⟨j, hj, h1, _, h3⟩ := cf qa5 hr
        have hi : i < L := by rw [← lra]; exact (LJ.mp hr).1
        rw [M1 hi] at hj
        cases hj
        exact ⟨r, rfl, h1, t4.off h3⟩
      have hLe := len5.le
      have lxa : (ra.map V.ref).length = L := by rw [LF, lra]
      have na : pa ∉ [pv, pe] := t4.off hpa
      generalize ra.map V.ref = xa at *
      have s35 := s4.trans s5
      have sp5 := s3.trans s35
      have D5 := (Dd'.same' sp).same' sp5
      obtain ⟨rd5, erd5, hrd5⟩ := id D5
      have lrd5 : (rd5.map V.ref).length = T.n := by rw [LF, My hrd5, hn]; rfl
      walk_at "rs"
      refine bR ?_
      walk_at "rs"
      rw [lrd5]
      refine ⟨T.n, pa, xa, _, rfl, ea5, (fun i y hy => let ⟨r, e, q, _⟩ := Ts5 i y hy; ⟨r, e, q, trivial⟩), n2, by omega, fun pf H6 hpf s6 e6 => ?_⟩
      have t6 := t5.same s6
      have nf : pf ∉ [pv, pe] := t5.off hpf
      walk_at "rs"
      refine bR ?_
      walk_at "rs"
      refine gB (ys := xa) (SqL.of (s6 _ _ ea5)) ?_
      walk_at "rs"
      refine aW (by omega) ?_
      walk_at "rs"
      have P6 : jx H6 pl (T.ws.map fun w => gE w (ss.length : Nat)) := by
        rw [hws]
        obtain ⟨z1, z2, z3⟩ := PP
        exact ⟨z1, s6 _ _ (sp5 _ _ z2), Paired.mapP z3 fun _ _ z => s6 _ _ (sp5 _ _ z)⟩
      refine ⟨[pv, pe], x, pv, pe, pa, pl, T, xa, ss.length, rfl, t6, hk, s6 _ _ ea5, na, Ts5.same s6, P6, off2 ep, by omega, by omega, fun H7 k7 t7 => ?_⟩
      have s7 : am Hp H7 := k7.new (sp5.trans s6) new2
      have ea7 := k7.lst na (s6 _ _ ea5)
      have ef7 := k7.lst nf e6
      have Ts7 := (Ts5.same s6).kp k7 fun b hb => hb
      have fin : ∀ H8, Kp [pv, pe] H7 H8 → am Hp H8 → (ap (cu (cD (aa (tCB (bV K) (aa (ac 4) af)) af)) (aj 11) (ap (aE (bT (cD (aa (tCB (bV K) (aa (ac 9) af)) af)) (fun _ _ _ _ => (aj 0)) (fun _ _ _ _ => (tB (tOp (bY K) (tOp (bY K) (ac 2) (ac 0)) (ac 1)))) (fun _ _ _ _ => (ac 0)) [none, some 11, some 9]) (aj 12))
  (bq (aX (tOp rNe (tOp (bY K) (ac 10) (ac 11)) (zc K (aa (ac 12) af)))) (aI (tC (.bl false))) aZ)))
  (aI (tOp rEq (tCB (bV K) (aa (ac 10) af)) (tCB (bV K) (aa (ac 4) af))))) { nx := fun _ H' => Q .non H', rt := Q } [some (.ref a), some (.int c), some (.ref q), some (.int ss.length), some (.ref pdl), some (.ref pl), some (.ref x), u5, some (.int tu), some (.ref pa), some (.ref pf), none, none] H8 := by
        intro H8 k8 s8
        have ea8 := k8.lst na ea7
        have ef8 := k8.lst nf ef7
        have Ts8 := Ts7.kp k8 fun b hb => hb
        obtain ⟨rd8, erd8, hrd8⟩ := (Dd'.same' sp).same' s8
        have lrd8 : (rd8.map V.ref).length = T.n := by rw [LF, My hrd8, hn]; rfl
        walk_at "rd"
        rw [lrd8]
        refine eG T.n (by omega) (by omega) (by omega) (fun j σ H9 => ∃ (u11 u12 : Option V), σ = [some (.ref a), some (.int c), some (.ref q), some (.int ss.length), some (.ref pdl), some (.ref pl), some (.ref x), u5, some (.int tu), some (.ref pa), some (.ref pf), u11, u12] ∧ am H8 H9) ⟨none, none, rfl, am.refl _⟩ ?_ ?_
        · rintro j σ H9 hj ⟨u11, u12, rfl, s9⟩
          walk_at "rd"
          refine gB (ys := xa) (SqL.of (s9 _ _ ea8)) ?_
          walk_at "rd"
          refine oE xa.length (by omega) (by omega) (by omega) (fun i acc _ => acc = au (kl (T.told (aO ss.length)) i j)) (fun _ _ => rfl) ?_ ?_
          · rintro p' hp' C s' H' fp i acc HA hi ⟨sA, eA, lA, rfl⟩
            have hxi : xa[i]? = some (xa[i]'hi) := LD _
            generalize xa[i]'hi = xi at hxi
            obtain ⟨r, rfl, er, _⟩ := Ts8 i xi hxi
            have s8A := s9.trans sA
            walk_at "rd"
            refine bK (SqL.of (s8A _ _ ea8)) (ck hxi) ?_
            walk_at "rd"
            refine bK (SqL.of (s8A _ _ er)) (uN hj) ?_
            walk_at "rd"
            refine bZ (fun d => ?_) (fun d => ?_)
            · walk_at "rd"
              refine bn.put hp' (fun _ _ _ _ r _ => r) sA eA lA ?_
              rw [qQ, if_pos d, ← gi]
            · refine bn.skip sA eA lA ?_
              rw [qQ, if_neg d, NH]
          · rintro pm acc HA hpm sA eA rfl
            have s8A := s9.trans sA
            walk_at "rd"
            refine bK (SqL.of (s8A _ _ ef8)) (ck (jB hj)) ?_
            rw [if_neg (N4 j)]
            walk_at "rd"
            refine Ko ?_
            walk_at "rd"
            have rise := Fm (T.told (aO ss.length)) xa.length j
            refine ⟨pm, _, rfl, by rw [← dJ]; exact SqL.of eA, fun z => ?_, fun M hM hm' => ?_⟩
            · have z' : kl (T.told (aO ss.length)) xa.length j = [] := List.map_eq_nil_iff.mp z
              rw [z']
              refine ⟨rfl, ?_⟩
              walk_at "rd"
              exact ⟨_, _, rfl, s8A⟩
            · cases e : kl (T.told (aO ss.length)) xa.length j with
              | nil => rw [e] at hM; cases hM
              | cons z r =>
                rw [GO e rise hM hm']
                refine ⟨rfl, ?_⟩
                rw [decide_eq_true (show hdV (z :: r) = V.int (z : Int) from rfl)]
                walk_at "rd"
                exact ⟨_, _, rfl, s8A⟩
        · rintro σ H9 ⟨u11, u12, rfl, s9⟩
          walk_at "rd"
          refine gB (ys := ftL _ T.n xa.length 0) (SqL.of (s9 _ _ ef8)) ?_
          walk_at "rd"
          refine gB (ys := rd8.map V.ref) (SqL.of (s9 _ _ erd8)) ?_
          walk_at "rd"
          rw [jA, lrd8, decide_eq_true rfl]
          exact g _
      walk_at "rs"
      refine kX fun NX hNX => ?_
      walk_at "rs"
      refine bZ (fun cl => ?_) (fun cl => ?_)
      · have hst : ss.length ≤ T.still (aO ss.length) xa.length := by
          rcases len5.st with z | z
          · omega
          · rw [lxa, ← sL]; rw [sL]; rw [sL] at z; exact z
        have hLk := (fA T (aO ss.length) ss.length xa.length hst).1
        walk_at "rs"
        refine aW (by omega) ?_
        walk_at "rs"
        refine ⟨[pv, pe], x, pv, pe, pa, T, xa, ss.length, rfl, t7, t3.ok, hk, ea7, na, Ts7, hst, by omega, by omega, fun H8 k8 => ?_⟩
        walk_at "rs"
        exact hNX _ _ (fin H8 k8 (k8.new s7 new2))
      · walk_at "rs"
        exact hNX _ _ (fin H7 (Kp.of (am.refl _)) s7)
end
end
section
open PySem.Spec
theorem DA.stay {a:Addr} {kvs:List (IA×V)} {h1 h2:Heap} (d:DA a kvs h1) (k:∀ o,h1.get? a=some o->h2.get? a=some o):DA a kvs h2:=by
 obtain ⟨z,y,P,w,vs,r,o,es,ep,e,c⟩:=d
 exact ⟨z,y,P,w,vs,r,o,es,ep,k _ e,c⟩
theorem DB.stay {a:Addr} {zs:List (List IK×Addr×V)} {h1 h2:Heap} (d:DB a zs h1) (k:∀ o,h1.get? a=some o->h2.get? a=some o):DB a zs h2:=by
 obtain ⟨z,y,xs,r,o,es,ep,e,c⟩:=d
 exact ⟨z,y,xs,r,o,es,ep,k _ e,c⟩
theorem DA.ok {P:Program} {w:World} {H:Hp} {h:Heap} {a:Addr} {kvs:List (IA×V)} (d:DA a kvs h):bJ P w H h a (dA a kvs):=by
 obtain ⟨_,_,_,_,_,_,o,_,_,e,_⟩:=id d
 exact ⟨d,⟨o,e⟩,fun _ _ d k=>d.stay k⟩
theorem DB.ok {P:Program} {w:World} {H:Hp} {h:Heap} {a:Addr} {zs:List (List IK×Addr×V)} (d:DB a zs h):bJ P w H h a (dB a zs):=by
 obtain ⟨_,_,_,_,o,_,_,e,_⟩:=id d
 exact ⟨d,⟨o,e⟩,fun _ _ d k=>d.stay k⟩
theorem ZX.length {zs:List (List IK×Addr×V)} {xs:List (List IK×Addr×Value)} (r:ZX zs xs):zs.length=xs.length:=My r
theorem ZX.val {zs:List (List IK×Addr×V)} {xs:List (List IK×Addr×Value)} (r:ZX zs xs) (k:List IK):gS (atZ zs k) ((atKey xs k).map (·.2)):=by
 unfold ZX at r
 induction r with
 | nil=>exact Ov
 | @cons p q ps qs h t ih=>
  obtain ⟨h1,_,h2⟩:=h
  by_cases e:p.1=k
  ·have e':q.1=k:=h1.symm.trans e
   have b:atKey (q :: qs) k=some q.2:=by simp [atKey,Ms,e']
   have c:atZ (p :: ps) k=some p.2.2:=by simp [atZ,Ms,e]
   rw [c,b]; exact h2
  ·have e':¬ q.1=k:=fun z=>e (h1.trans z)
   have b:atKey (q :: qs) k=atKey qs k:=by simp [atKey,Ms,e']
   have c:atZ (p :: ps) k=atZ ps k:=by simp [atZ,Ms,e]
   rw [c,b]; exact ih
noncomputable def lG (zs:List (List IK×Addr×V)) (k:List IK) (b:Addr) (v:V):List (List IK×Addr×V):=
 if (atZ zs k).isSome then zs.map (fun x=>if x.1=k then (x.1,x.2.1,v) else x) else zs++[(k,b,v)]
theorem ZX.repl {zs:List (List IK×Addr×V)} {xs:List (List IK×Addr×Value)} (r:ZX zs xs) (k:List IK) {v:V} {u:Value} (rv:aJ v u):ZX (zs.map fun x=>if x.1=k then (x.1,x.2.1,v) else x) (xs.map (putAt k u)):=by
 unfold ZX at r ⊢
 induction r with
 | nil=>exact .nil
 | @cons p q ps qs h t ih=>
  rw [LZ,LZ]
  refine .cons ?_ ih
  obtain ⟨h1,h2,h3⟩:=h
  unfold putAt
  by_cases e:p.1=k
  ·rw [if_pos e,if_pos (h1.symm.trans e)]; exact ⟨h1,h2,rv⟩
  ·rw [if_neg e,if_neg (fun z=>e (h1.trans z))]; exact ⟨h1,h2,h3⟩
theorem ZX.put {zs:List (List IK×Addr×V)} {xs:List (List IK×Addr×Value)} (r:ZX zs xs) (k:List IK) {b:Addr} {v:V} {u:Value} (rv:aJ v u):ZX (lG zs k b v) (storedH xs k b u):=by
 have e:(atZ zs k).isSome=(atKey xs k).isSome:=by
  rw [(r.val k).isSome_eq,Option.isSome_map]
 unfold lG storedH
 rw [e]
 by_cases q:(atKey xs k).isSome=true
 ·rw [if_pos q,if_pos q]; exact r.repl k rv
 ·rw [if_neg q,if_neg q]; exact Paired.snoc r ⟨rfl,rfl,rv⟩
theorem IZ (zs:List (List IK×Addr×V)) (k j:List IK) (b:Addr) (v:V):atZ (lG zs k b v) j=if j=k then some v else atZ zs j:=by
 have hm:∀ ys:List (List IK×Addr×V),atZ (ys.map fun x=>if x.1=k then (x.1,x.2.1,v) else x) j=(atZ ys j).map fun y=>if j=k then v else y:=by
  intro ys
  induction ys with
  | nil=>rfl
  | cons p r ih=>
   rw [LZ]
   unfold atZ at ih ⊢
   by_cases h:p.1=k
   ·rw [if_pos h]
    by_cases e:p.1=j
    ·simp [Ms,e,e.symm.trans h]
    ·simp [Ms,e]; simpa using ih
   ·rw [if_neg h]
    by_cases e:p.1=j
    ·have:¬ j=k:=fun z=>h (e.trans z)
     simp [Ms,e,this]
    ·simp [Ms,e]; simpa using ih
 have ha:∀ ys:List (List IK×Addr×V),atZ ys k=none->atZ (ys++[(k,b,v)]) j=if j=k then some v else atZ ys j:=by
  intro ys
  induction ys with
  | nil=>
   intro _
   by_cases e:k=j
   ·simp [atZ,Ms,e]
   ·have:¬ j=k:=fun z=>e z.symm
    simp [atZ,Ms,e,this]
  | cons p r ih=>
   intro hn
   have hk:¬ p.1=k:=fun z=>by simp [atZ,Ms,z] at hn
   have hn':atZ r k=none:=by simpa [atZ,Ms,hk] using hn
   have ih':=ih hn'
   by_cases e:p.1=j
   ·have:¬ j=k:=fun z=>hk (e.trans z)
    simp [atZ,Ms,e,this]
   ·have c:atZ (p :: (r++[(k,b,v)])) j=atZ (r++[(k,b,v)]) j:=by simp [atZ,Ms,e]
    have c':atZ (p :: r) j=atZ r j:=by simp [atZ,Ms,e]
    rw [Up,c,c',ih']
 unfold lG
 cases q:atZ zs k with
 | some y=>
  rw [if_pos (show (some y).isSome=true from rfl),hm]
  by_cases e:j=k
  ·subst e; rw [q,if_pos rfl]; simp
  ·rw [if_neg e]; cases atZ zs j <;> simp [e]
 | none=>rw [if_neg (show ¬ (none:Option V).isSome=true by decide)]; exact ha zs q
theorem sK (zs:List (List IK×Addr×V)) (k:List IK) (b:Addr) (v:V):(lG zs k b v).length<=zs.length + 1:=by
 unfold lG
 split
 ·rw [LF]; omega
 ·rw [L7,Ml,UL]; omega
theorem GP {zs:List (List IK×Addr×V)} {k:List IK} {b:Addr} {v:V} {z:List IK×Addr×V} (h:z∈lG zs k b v):(∃ z0∈zs,z.1=z0.1/\z.2.1=z0.2.1)\/(z.1=k/\z.2.1=b):=by
 unfold lG at h
 split at h
 ·obtain ⟨z0,h0,rfl⟩:=Nr.mp h
  refine .inl ⟨z0,h0,?_⟩
  split <;> exact ⟨rfl,rfl⟩
 ·rcases Mr.mp h with h | h
  ·exact .inl ⟨z,h,rfl,rfl⟩
  ·rw [LG.mp h]; exact .inr ⟨rfl,rfl⟩
section
variable {X:Cx} {pins:List (Addr×Obj)} {σ:St} {H:Hp} {s:Shared} {a:Addr} {y v:V} {u r:Value} {A:Around} {E:Value->Shared->Prop} {srt:Bool} {f:MK->Option V} {n:Nat} {k:MK}
theorem zg {k:IA} (h:iaV y=some k) (ry:aJ y u):oF k u=true:=by
 cases y with
 | non=>cases h; cases ry; rfl
 | bl b=>cases h; cases ry; simp [oF]
 | int i=>cases h; obtain ⟨t,rfl⟩:=ry; simp [oF]
 | _=>cases h
theorem Cc {P:Program} {w:World}:∀ {ks:List IA} {ys:List V} {us:List Value},ys.map iaV=ks.map some->aH ys us->ItemsAre (dj P w) ks us
 | [],[],_,_,.nil=>.nil
 | k :: ks,y :: ys,_,e,.cons h t=>by
  rw [LZ,LZ] at e
  injection e with e1 e2
  exact .cons (zg e1 h) (Cc e2 t)
 | [],_ :: _,_,e,_=>by simp at e
 | _ :: _,[],_,e,_=>by simp at e
theorem Fn (ok:HOk X.prog X.w H s.heap) {c:Addr} {xs:List V} (e:H c=some (.tup xs)):∃ its,aH xs its/\∃ o n,s.heap.get? c=some o/\o.cls=.type "tuple"/\o.data=.seq its.toArray n:=by
 obtain ⟨_,its,r,o,h1,h2,⟨n,h3⟩,_⟩:=(show bJ X.prog X.w H s.heap c (.tup xs) from ok c _ e)
 exact ⟨its,r,o,n,h1,h2,h3⟩
theorem I0 (ok:HOk X.prog X.w H s.heap) {k:IK} (h:l9 H y k) (ry:aJ y u):cT X.prog X.w s.heap k u:=by
 cases k with
 | inl a=>exact zg h ry
 | inr as=>
  obtain ⟨c,ys,rfl,e,q⟩:=h
  cases ry
  obtain ⟨its,rv,o,n,h1,h2,h3⟩:=Fn ok e
  exact ⟨c,rfl,o,its.toArray,n,h1,h2,h3,by simpa using Cc q rv⟩
theorem GQ (ok:HOk X.prog X.w H s.heap) {xs:List V} {ks:List IK} {us:List Value} (p:Paired (l9 H) xs ks):aH xs us->Paired (cT X.prog X.w s.heap) ks us:=by
 induction p generalizing us with
 | nil=>intro q; cases q; exact .nil
 | cons h t ih=>intro q; cases q with
  | cons r q=>exact .cons (I0 ok h r) (ih q)
theorem C2 (ok:HOk X.prog X.w H s.heap) {c:Addr} {ks:List IK} (h:dg H (.ref c) (.inr ks)):gW X.prog X.w s.heap ks c:=by
 obtain ⟨c',xs,e,ec,q⟩:=h
 cases e
 obtain ⟨its,rv,o,n,h1,h2,h3⟩:=Fn ok ec
 exact ⟨o,its.toArray,n,h1,h2,h3,by simpa using GQ ok q rv⟩
theorem Cd (h:dg H y k) (hs:ma k=true):∃ c ks,y=.ref c/\k=.inr ks:=by
 cases k with
 | inl _=>cases hs
 | inr ks=>obtain ⟨c,xs,e,_⟩:=h; exact ⟨c,ks,e,rfl⟩
theorem Fo {P P':Program} {w w':World} {es:List Th} {vs:List (IA×Value)} (h:Pairs (dj P w) es vs):Pairs (dj P' w') es vs:=by
 induction h with
 | nil=>exact .nil
 | cons a b _ ih=>exact .cons a b ih
theorem C3 {kvs:List (IA×V)} (ok:HOk X.prog X.w H s.heap) (e:H a=some (dA a kvs)):kvs.length<=LS/\(a == NG)=false/\∃ vs,KV kvs vs/\s.heap.DictOf (dj X.prog X.w) a vs:=by
 obtain ⟨⟨z,y,P,w,vs,r,o,es,ep,h1,h2,h3,h4,h5,h6⟩,_⟩:=(show bJ X.prog X.w H s.heap a (dA a kvs) from ok a _ e)
 exact ⟨z,y,vs,r,o,es,ep,h1,h2,h3,h4,Fo h5,h6⟩
theorem C4 {zs:List (List IK×Addr×V)} (ok:HOk X.prog X.w H s.heap) (e:H a=some (dB a zs)) (hk:∀ z∈zs,dg H (.ref z.2.1) (.inr z.1)):zs.length<=LS/\(a == NG)=false/\∃ xs,ZX zs xs/\s.heap.DictOfH (qw X.prog X.w) a xs:=by
 obtain ⟨⟨z,y,xs,r,o,es,ep,h1,h2,h3,h4,h5⟩,_⟩:=(show bJ X.prog X.w H s.heap a (dB a zs) from ok a _ e)
 refine ⟨z,y,xs,r,o,es,ep,h1,h2,h3,h4,?_,h5⟩
 have all:∀ {l:List (List IK×Addr×V)} {m:List (List IK×Addr×Value)},ZX l m->(∀ z∈l,dg H (.ref z.2.1) (.inr z.1))->∀ x∈m,(qw X.prog X.w).is s.heap x.1 x.2.1:=by
  intro l m q
  unfold ZX at q
  induction q with
  | nil=>intro _ x hx; exact nomatch hx
  | @cons p q ps qs hq t ih=>
   intro hk x hx
   rcases LI.mp hx with e | hx
   ·subst e
    have:=hk p (LK ..)
    rw [hq.1,hq.2.1] at this
    exact C2 ok this
   ·exact ih (fun z hz=>hk z (LQ _ hz)) x hx
 exact all r hk
theorem Lf {Q:Value->Shared->Prop} (hu:A.units + 2 < cLine) (I:Inv X pins σ H s) (d:Dx H a srt f n) (hk:dg H y k) (hs:ma k=srt) (ry:aJ y u) (ev:f k=some v) (h:∀ w' s',Inv X pins σ H s'->aJ v w'->Q w' s'):
  wpAny (model X.prog X.w) A (getItem (.ref a) u) Q E s:=by
 rcases d with ⟨rfl,kvs,e,hf,_⟩ | ⟨rfl,zs,e,hz,hf,_⟩
 ·cases k with
  | inr _=>cases hs
  | inl k=>
   obtain ⟨z,hd,vs,rel,dd⟩:=C3 I.hok e
   obtain ⟨w',hw,rw'⟩:=gS.some_of (v:=v) (o:=valueAt vs k) (by rw [<-ev,<-hf k]; exact rel.val k)
   exact Us (knd:=dj X.prog X.w) (zg hk ry) dd.mapOf hw (h w' _ (I.tok _) rw')
 ·obtain ⟨c,ks,rfl,rfl⟩:=Cd hk hs
  cases ry
  obtain ⟨z,hd,xs,rel,dd⟩:=C4 I.hok e hz
  obtain ⟨w',hw,rw'⟩:=gS.some_of (v:=v) (o:=(atKey xs ks).map (·.2)) (by rw [<-ev,<-hf ks]; exact rel.val ks)
  obtain ⟨p,hp,hp2⟩:=Sg.mp hw
  refine wpAny_getItem_heap (knd:=qw X.prog X.w) hu (C2 I.hok hk) dd hp ?_
  rw [hp2]
  exact h w' _ (I.tok _) rw'
theorem tM {o:HO}:Off a H (upd H a o):=fun b hb=>aS hb
theorem Kw {h':Heap} {t':Nat} {kvs kvs':List (IA×V)} {vs':List (IA×Value)} (I:Inv X pins σ H s) (e:H a=some (dA a kvs)) (hs:L8 a s.heap h') (z:kvs'.length<=LS) (hd:(a == NG)=false) (rel:KV kvs' vs') (dd:h'.DictOf (dj X.prog X.w) a vs'):
  Inv X pins σ (upd H a (dA a kvs')) { s with heap:=h',toks:=t' }:=by
 have he:∃ q,h'.get? a=some q:=let ⟨q,_,_,hq,_⟩:=dd; ⟨q,hq⟩
 exact BV I (by rw [e]; exact Ov) hs he (DA.ok ⟨z,hd,X.prog,X.w,vs',rel,dd⟩)
theorem Ky {h':Heap} {t':Nat} {zs zs':List (List IK×Addr×V)} {xs':List (List IK×Addr×Value)} (I:Inv X pins σ H s) (e:H a=some (dB a zs)) (hs:L8 a s.heap h') (z:zs'.length<=LS) (hd:(a == NG)=false) (rel:ZX zs' xs') (dd:h'.DictOfH (qw X.prog X.w) a xs'):
  Inv X pins σ (upd H a (dB a zs')) { s with heap:=h',toks:=t' }:=by
 obtain ⟨o,es,ep,h1,h2,h3,h4,_,h5⟩:=dd
 exact BV I (by rw [e]; exact Ov) hs ⟨o,h1⟩ (DB.ok ⟨z,hd,xs',rel,o,es,ep,h1,h2,h3,h4,h5⟩)
theorem Ja {kvs:List (IA×V)} {k:IA} (e:H a=some (dA a kvs)) (hf:∀ k,fU kvs k=f (.inl k)) (hn:kvs.length<=n):Dx (upd H a (dA a (qu kvs k v))) a false (oG f (.inl k) v) (n + 1):=by
 refine .inl ⟨rfl,_,aA,fun j=>?_,?_⟩
 ·rw [F9]
  unfold oG
  by_cases q:j=k
  ·rw [if_pos q,if_pos (by rw [q])]
  ·rw [if_neg q,if_neg (fun z=>q (T2 z)),hf j]
 ·have:=sC kvs k v; omega
theorem Jb {zs:List (List IK×Addr×V)} {k:List IK} {c:Addr} (e:H a=some (dB a zs)) (hz:∀ z∈zs,dg H (.ref z.2.1) (.inr z.1)) (hk:dg H (.ref c) (.inr k)) (hf:∀ k,atZ zs k=f (.inr k)) (hn:zs.length<=n):
  Dx (upd H a (dB a (lG zs k c v))) a true (oG f (.inr k) v) (n + 1):=by
 have kp:gU H (upd H a (dB a (lG zs k c v))):=tM.keepD fun xs q=>by rw [e] at q; cases q
 refine .inr ⟨rfl,_,aA,fun z h=>?_,fun j=>?_,?_⟩
 ·rcases GP h with ⟨z0,h0,e1,e2⟩ | ⟨e1,e2⟩
  ·rw [e1,e2]; exact (hz z0 h0).keep kp
  ·rw [e1,e2]; exact hk.keep kp
 ·rw [IZ]
  unfold oG
  by_cases q:j=k
  ·rw [if_pos q,if_pos (by rw [q])]
  ·rw [if_neg q,if_neg (fun z=>q (Pk z)),hf j]
 ·have:=sK zs k c v; omega
theorem vi {d a:Addr} {knd:HeapKind X.prog X.w (List IK)} {xs:List (List IK×Addr×Value)} {k:List IK} {v:Value} {Q:Value->Shared->Prop} (hu:knd.room A) (hkey:knd.is s.heap k a) (hm:s.heap.DictOfH knd d xs)
  (h1:∀ p,atKey xs k=some p->Q p.2 { s with toks:=s.toks + knd.draws k })
  (h2:atKey xs k=none->∀ h',h'.DictOfH knd d (storedH xs k a v)->L8 d s.heap h'->Q v { s with heap:=h',toks:=s.toks + knd.draws k })
  (hsz:xs.length<=LS):wpAny (model X.prog X.w) A (QL d (.ref a) v) Q E s:=by
 obtain ⟨o,es,ep,ho,hc,hd,he,his,hn⟩:=hm
 unfold QL
 try with_reducible refine MR ?_
 refine LA (knd.pyHash hu hkey ?_)
 refine LA (wpAny_dictFind_heap (s:={ s with toks:=s.toks + knd.draws k }) hu hkey ho hd he his hn ?_ ?_)
 ·intro hno
  have hnot:k∉xs.map (·.1):=not_mem_keys_of_get hno
  refine LA (NY (LA (wpAny_updateDictKeys (hz:=by have e:=size_of_entries he; omega) (s:={ s with toks:=s.toks + knd.draws k }) ho hd (LC (h2 (P0 hno) _ ⟨_,_,ep + 1,Mw _ ho (Obj.isFreed_of_dict (SS hd _)),
   hc.mapDictKeys _,SS hd _,?_,?_,?_⟩ (MO ..))))))
  ·rw [Ub (P0 hno)]
   simp [he,entryOfKey]
  ·rw [Ub (P0 hno)]
   intro x hx
   rcases Mr.mp hx with hx | hx
   ·exact knd.keeps (his x hx) ho hd (MO ..)
   ·simp only [LG] at hx
    subst hx
    exact knd.keeps hkey ho hd (MO ..)
  ·rw [Ub (P0 hno)]
   rw [Mf,TN]
   refine ⟨hn,by simp,?_⟩
   intro x hx y hy
   simp only [LZ,O8,LG] at hy
   subst hy
   exact fun e=>hnot (e ▸ hx)
 ·intro j p hj
  refine LA (wpAny_dictEntries (s:={ s with toks:=s.toks + knd.draws k }) ho hd ?_)
  rw [entry_at he j,hj]
  exact LA (NY (LC (h1 p (atKey_of_get hn hj))))
theorem mB {d:Addr} {key dflt:Value} {Q:Fin->Shared->Prop} (hT:s.TypeIs (.ref d) "dict") (hd:(d == NG)=false) (h:wpAny (model X.prog X.w) A (QL d key dflt) (fun v s'=>Q (.done (.ret v)) s') E s):
  wpAny (model X.prog X.w) A (Builtin.«dict.setdefault» ⟨[.ref d,key,dflt],[]⟩) Q E s:=by
 unfold Builtin.«dict.setdefault»
 refine LA ?_
 unfold Builtin.Dict.keyAndDefault
 refine LA (wpAny_notOrdered_dict hT ?_)
 show wpAny _ _ (pure (d,key,some dflt)) _ _ s
 refine LC ?_
 show wpAny _ _ (if (d == NG)=true then _ else (QL d key dflt >>= _)) _ _ s
 rw [if_neg (by rw [hd]; exact LR)]
 exact LA (Nx h (fun v s' q=>LC q) fun _ _ x=>x)
theorem AI (I:Inv X pins σ H s) (d:Dx H a srt f n):s.TypeIs (.ref a) "dict"/\∀ b,Mh a=.ref b->∃ ob,s.heap.get? b=some ob/\ob.dict=none:=by
 rcases d with ⟨_,kvs,e,_,_⟩ | ⟨_,zs,e,hz,_,_⟩
 ·obtain ⟨_,_,vs,_,dd⟩:=C3 I.hok e
  refine ⟨dd.typeIs,fun b q=>?_⟩
  cases q
  obtain ⟨ob,_,_,h1,h2,_⟩:=dd
  exact ⟨ob,h1,h2.2.1⟩
 ·obtain ⟨_,_,xs,_,dd⟩:=C4 I.hok e hz
  refine ⟨dd.typeIs,fun b q=>?_⟩
  cases q
  obtain ⟨ob,_,_,h1,h2,_⟩:=dd
  exact ⟨ob,h1,h2.2.1⟩
theorem Kz {Q:Value->Shared->Prop} (hu:A.units + 2 < cLine) (I:Inv X pins σ H s) (d:Dx H a srt f n) (hk:dg H y k) (hs:ma k=srt) (hn:n < LS) (ry:aJ y u) (rv:aJ v r)
  (h1:∀ x w' s',f k=some x->aJ x w'->Inv X pins σ H s'->Q w' s')
  (h2:f k=none->∀ H' s',Off a H H'->Dx H' a srt (oG f k v) (n + 1)->Inv X pins σ H' s'->Q r s'):wpAny (model X.prog X.w) A (call (.builtin "dict.setdefault") [.ref a,u,r]) Q E s:=by
 have hT:=(AI I d).1
 refine Mu QM hT PySem.F.entry_dict_setdefault ?_ (PySem.F.args_dict_setdefault_3 _ _ _)
 rcases d with ⟨rfl,kvs,e,hf,hl⟩ | ⟨rfl,zs,e,hz,hf,hl⟩
 ·cases k with
  | inr _=>cases hs
  | inl k=>
   obtain ⟨z,hd,vs,rel,dd⟩:=C3 I.hok e
   have hvz:vs.length<=LS:=by rw [<-rel.length]; exact z
   have hl':(qu kvs k v).length<=LS:=by have:=sC kvs k v; omega
   refine mB hT hd (kt_dictSetDefault_pairs (knd:=dj X.prog X.w) (hsz:=hvz) (zg hk ry) dd (fun w' hw=>?_) fun hno h' dd' hs'=>?_)
   ·have q:=rel.val k
    rw [hf k,hw] at q
    cases ef:f (.inl k) with
    | none=>rw [ef] at q; exact (show False from q).elim
    | some x=>rw [ef] at q; exact ⟨w',rfl,h1 x w' _ ef q (I.tok _)⟩
   ·have q:=rel.val k
    rw [hf k,hno] at q
    have ef:f (.inl k)=none:=by
     cases ef:f (.inl k) with
     | none=>rfl
     | some x=>rw [ef] at q; exact (show False from q).elim
    exact ⟨r,rfl,h2 ef _ _ tM (Ja e hf hl) (Kw I e hs' hl' hd (rel.put k rv) dd')⟩
 ·obtain ⟨c,ks,rfl,rfl⟩:=Cd hk hs
  cases ry
  obtain ⟨z,hd,xs,rel,dd⟩:=C4 I.hok e hz
  have hvz:xs.length<=LS:=by rw [<-rel.length]; exact z
  have hl':(lG zs ks c v).length<=LS:=by have:=sK zs ks c v; omega
  refine mB hT hd (vi (X:=X) (knd:=qw X.prog X.w) hu (C2 I.hok hk) dd (fun p hp=>?_) (fun hno h' dd' hs'=>?_) hvz)
  ·have q:=rel.val ks
   rw [hf ks,hp] at q
   cases ef:f (.inr ks) with
   | none=>rw [ef] at q; exact (show False from q).elim
   | some x=>rw [ef] at q; exact ⟨p.2,rfl,h1 x p.2 _ ef q (I.tok _)⟩
  ·have q:=rel.val ks
   rw [hf ks,hno] at q
   have ef:f (.inr ks)=none:=by
    cases ef:f (.inr ks) with
    | none=>rfl
    | some x=>rw [ef] at q; exact (show False from q).elim
   exact ⟨r,rfl,h2 ef _ _ tM (Jb (c:=c) e hz hk hf hl) (Ky I e hs' hl' hd (rel.put ks rv) dd')⟩
end
section
variable {X:Cx}
theorem Jc {o i:Expr} {pos:Pos} {td ty:TE} (hu:X.A.units + 64 < cLine) (ho:PE X o td) (hi:PE X i ty) (hs:Ga i):PE X (.Subscript o i pos) (tOp CK td ty):=by
 intro pins s σ H Q I h
 refine BW Rt.lookup hs (thn (ho pins s σ H _ I h) fun u s1 ⟨x,H1,I1,rx,q1⟩=>thn (hi pins s1 σ H1 _ I1 q1) fun iv s2 ⟨y,H2,I2,ry,a,srt,f,n,k,v,ex,d,hk,hs',ev,q2⟩=>?_)
 subst ex
 obtain rfl:u=Mh a:=rx
 exact ⟨(AI I2 d).1,Lf (by omega) I2 d hk hs' ry ev fun w' s3 I3 rw'=>⟨v,H2,I3,rw',q2⟩⟩
theorem GR {pos:Pos}:PE X (.Dict [] [] pos) zT:=fun pins s σ H Q I h=>by
 obtain ⟨srt,h⟩:=h
 have hd:(s.heap.objs.size == NG)=false:=beq_eq_false_iff_ne.mpr (Na (Mn I.big))
 have hp:=I.hok.fresh (LH s.heap.objs.size)
 cases srt with
 | false=>
  refine Ut ⟨.ref s.heap.objs.size,_,I.laid (a:=s.heap.objs.size) (o:=dA s.heap.objs.size []) (t':=s.toks) (fun _ _ q=>LB _ q) (LH _) (DA.ok ⟨MI _,hd,X.prog,X.w,[],.nil,Heap.DictOf.new s.heap⟩),rfl,?_⟩
  exact h _ _ hp (ba hp _) (.inl ⟨rfl,[],aA,fun _=>rfl,LH _⟩)
 | true=>
  refine Ut ⟨.ref s.heap.objs.size,_,I.laid (a:=s.heap.objs.size) (o:=dB s.heap.objs.size []) (t':=s.toks) (fun _ _ q=>LB _ q) (LH _) (DB.ok ⟨MI _,hd,[],.nil,_,#[],0,LL _ rfl,⟨rfl,rfl,rfl⟩,rfl,rfl,List.nodup_nil⟩),rfl,?_⟩
  exact h _ _ hp (ba hp _) (.inr ⟨rfl,[],aA,fun z hz=>(nomatch hz),fun _=>rfl,LH _⟩)
noncomputable def MtX (X:Cx) (id:String) (r:V->List V->Hp->VK->Prop):Prop:=
 ∀ (pins:List (Addr×Obj)) (s:Shared) (σ:St) (H:Hp) (x:V) (ys:List V) (u:Value) (us:List Value) (Q:VK),Inv X pins σ H s->aJ x u->aH ys us->r x ys H Q->
  wpAny (model X.prog X.w) X.A (call (.builtin id) (u :: us)) (EP X pins σ Q) X.xe s
theorem wV (hu:X.A.units + 64 < cLine):MtX X "dict.setdefault" zU:=by
 intro pins s σ H x ys u us Q I rx rys h
 obtain ⟨a,srt,f,n,k,y,v,rfl,rfl,d,hk,hs,hn,q1,q2⟩:=h
 cases rx
 cases rys with
 | cons r1 t1=>cases t1 with
  | cons r2 t2=>
   cases t2
   exact Kz (by omega) I d hk hs hn r1 r2 (fun x w' s' ef rw' I'=>⟨x,H,I',rw',q1 x ef⟩) fun ef H' s' o' d' I'=>⟨v,H',I',r2,q2 ef H' o' d'⟩
theorem Lg {o e:Expr} {es:List Expr} {name:Str} {id:String} {r:V->List V->Hp->VK->Prop} {to:TE} {t:TA} {apos cpos:Pos} (slot:Slot "dict" name id) (hty:typeOf (.builtin id)=pure (.type "method_descriptor")) (hm:MtX X id r) (ho:PE X o to) (ha:PA X (e :: es) t)
  (hbase:Pg o name X.env (eval o X.env)=eval o X.env:=by rfl)
  (hfew:((backTo cpos (L9 (e :: es) X.env)).all (fun x=>!x.1) && (Pc cpos (Ow [] X.env)).all (fun x=>x.1.isSome)
   && decide ((e :: es).length + ([]:List Keyword).length + (if ([]:List Keyword).isEmpty then 0 else 1) < 30))=true:=by rfl)
  (hline:(apos.endLine == cpos.line)=true:=by rfl) (hs:L9 (e :: es) X.env=(false,eval e X.env) :: L9 es X.env:=by rfl) (hplain:(backTo cpos (L9 es X.env)).any (·.1)=false:=by rfl):
  PE X (.Call (.Attribute o name apos) (e :: es) [] cpos) (tXM r to t):=by
 intro pins s σ H Q I h
 refine P4 hbase hfew hline rfl (thn (ho pins s σ H _ I h) fun v s1 ⟨x,H1,I1,r1,⟨a,srt,f,n,ex,d⟩,q1⟩=>?_)
 subst ex
 obtain rfl:v=Mh a:=r1
 obtain ⟨h1,h2⟩:=AI I1 d
 refine ⟨"dict",id,PySem.F.plainAttrs_dict,slot,hty,h1,h2,?_⟩
 have hA:=ha cpos pins s1 σ H1 _ I1 q1
 rw [hs] at hA ⊢
 refine P7 (by show (false || (backTo cpos (L9 es X.env)).any (·.1))=false; rw [hplain] <;> rfl) (Qq ?_)
 exact thn hA fun us s2 ⟨vs,H2,I2,r2,q2⟩=>hm pins s2 σ H2 (.ref a) vs (.ref a) us Q I2 rfl r2 q2
end
end
section
open PySem.Spec
section
variable {X:Cx}
end
end
section
open PySem.Spec
mutual
inductive Dat (K:Fg) (H:Hp):V->PyData->Prop where
 | non:Dat K H .non .none
 | bl (b:Bool):Dat K H (.bl b) (.bool b)
 | int (i:Int):Dat K H (.int i) (.int i)
 | str (x:Str):Dat K H (.str x) (.str x)
 | lst {a:Addr} {xs:List V} {ds:List PyData} (e:SqL K H a xs) (h:i8 K H xs ds):Dat K H (.ref a) (.list ds)
 | tup {a:Addr} {xs:List V} {ds:List PyData} (e:SqT K H a xs) (h:i8 K H xs ds):Dat K H (.ref a) (.tuple ds)
inductive i8 (K:Fg) (H:Hp):List V->List PyData->Prop where
 | nil:i8 K H [] []
 | cons {x:V} {xs:List V} {d:PyData} {ds:List PyData} (h:Dat K H x d) (t:i8 K H xs ds):i8 K H (x :: xs) (d :: ds)
end
section
variable {X:Cx} {pins:List (Addr×Obj)} {σ:St} {H:Hp} {s:Shared}
mutual
theorem Dat.reads (I:Inv X pins σ H s):∀ {x:V} {d:PyData} {u:Value},Dat X.K H x d->aJ x u->∃ as,Reads s.heap u d as
 | _,_,_,.non,r=>by cases r; exact ⟨_,.none⟩
 | _,_,_,.bl b,r=>by cases r; exact ⟨_,.bool b⟩
 | _,_,_,.int i,r=>by obtain ⟨t,rfl⟩:=r; exact ⟨_,.int i t⟩
 | _,_,_,.str x,r=>by obtain ⟨t,rfl⟩:=r; exact ⟨_,.str x t⟩
 | _,_,_,.lst e h,r=>by
  cases r
  obtain ⟨its,rv,⟨o,n,h1,h2,h3,h4⟩,_⟩:=I.list e
  obtain ⟨as,ra⟩:=i8.reads I h rv
  exact ⟨_,.list h1 h2 h4 (by simpa using ra)⟩
 | _,_,_,.tup e h,r=>by
  cases r
  obtain ⟨its,rv,⟨o,h1,h2,n,h3⟩,_⟩:=I.tuple e
  obtain ⟨as,ra⟩:=i8.reads I h rv
  exact ⟨_,.tuple h1 h2 h3 (by simpa using ra)⟩
theorem i8.reads (I:Inv X pins σ H s):∀ {xs:List V} {ds:List PyData} {us:List Value},i8 X.K H xs ds->aH xs us->∃ as,ReadsAll s.heap us ds as
 | _,_,_,.nil,.nil=>⟨_,.nil⟩
 | _,_,_,.cons h t,.cons r q=>by
  obtain ⟨as,ra⟩:=Dat.reads I h r
  obtain ⟨bs,rb⟩:=i8.reads I t q
  exact ⟨_,.cons ra rb⟩
end
end
noncomputable def Lz (K:Fg) (neg:Bool):R2:=fun x y H Q=>∃ d e,Dat K H x d/\Dat K H y e/\OS d=true/\OS e=true/\Q (.bl (if neg then !PyData.eqv d e else PJ d e)) H
section
variable {X:Cx}
theorem KA (hu:X.A.units + 64 < cLine):OpR X (NC .Eq) (Lz X.K false):=by
 intro pins s σ H x y v u Q I rx ry h
 obtain ⟨d,e,hd,he,sd,se,q⟩:=h
 obtain ⟨as,ra⟩:=hd.reads I rx
 obtain ⟨bs,rb⟩:=he.reads I ry
 exact eq_dataH ra rb sd se hu ⟨.bl (PJ d e),H,I,rfl,q⟩
end
end
section
open PySem.Spec
mutual
theorem GS {K:Fg} {H:Hp}:∀ {n:Nat} {x y:V},iP K H n x y->∃ d,Dat K H x d/\Dat K H y d/\d.canLay0=true/\d.depth<=n
 | n,x,_,.flat h=>by
  cases x with
  | non=>exact ⟨_,.non,.non,rfl,MI _⟩
  | bl b=>exact ⟨_,.bl b,.bl b,rfl,MI _⟩
  | int i=>exact ⟨_,.int i,.int i,rfl,MI _⟩
  | _=>cases h
 | _,_,_,.lst (xs:=xs) (ys:=ys) e1 e2 hl h=>by
  obtain ⟨ds,h1,h2,h3,h4⟩:=C5 xs ys hl h
  exact ⟨_,.lst e1 h1,.lst e2 h2,h3,Uu h4⟩
 | _,_,_,.tup (xs:=xs) (ys:=ys) e1 e2 hl h=>by
  obtain ⟨ds,h1,h2,h3,h4⟩:=C5 xs ys hl h
  exact ⟨_,.tup e1 h1,.tup e2 h2,h3,Uu h4⟩
theorem C5 {K:Fg} {H:Hp} {n:Nat}:∀ (xs ys:List V),xs.length=ys.length->(∀ (i:Nat) (x y:V),xs[i]?=some x->ys[i]?=some y->iP K H n x y)->∃ ds,i8 K H xs ds/\i8 K H ys ds/\N3 ds=true/\Oo ds<=n
 | [],[],_,_=>⟨[],.nil,.nil,rfl,MI _⟩
 | x :: xs,y :: ys,hl,h=>by
  obtain ⟨d,a1,a2,a3,a4⟩:=GS (h 0 x y rfl rfl)
  obtain ⟨ds,b1,b2,b3,b4⟩:=C5 xs ys (by simpa using hl) (fun i x y hx hy=>h (i + 1) x y hx hy)
  refine ⟨d :: ds,.cons a1 b1,.cons a2 b2,?_,?_⟩
  ·show (d.canLay0 && N3 ds)=true
   rw [a3,b3]; rfl
  ·show max d.depth (Oo ds)<=n
   omega
 | [],_ :: _,hl,_=>by simp at hl
 | _ :: _,[],hl,_=>by simp at hl
end
section
variable {X:Cx}
theorem GT (hu:X.A.units + 64 < cLine):OpR X (NC .Eq) (lv X.K false):=by
 intro pins s σ H x y v u Q I rx ry h
 obtain ⟨n,hn,hd,q⟩:=h
 obtain ⟨d,h1,h2,h3,h4⟩:=GS hd
 obtain ⟨as,ra⟩:=h1.reads I rx
 obtain ⟨bs,rb⟩:=h2.reads I ry
 have sh:OS d=true:=by unfold OS; rw [h3,decide_eq_true (by omega)]; rfl
 refine eq_dataH ra rb sh sh hu ⟨.bl true,H,I,?_,q⟩
 rw [SeqAt.eqv_refl d h3]; rfl
theorem AJ (hu:X.A.units + 64 < cLine):OpR X (NC .NotEq) (lv X.K true):=by
 intro pins s σ H x y v u Q I rx ry h
 obtain ⟨n,hn,hd,q⟩:=h
 obtain ⟨d,h1,h2,h3,h4⟩:=GS hd
 obtain ⟨as,ra⟩:=h1.reads I rx
 obtain ⟨bs,rb⟩:=h2.reads I ry
 have sh:OS d=true:=by unfold OS; rw [h3,decide_eq_true (by omega)]; rfl
 refine ne_dataH ra rb sh sh hu ⟨.bl false,H,I,?_,q⟩
 rw [SeqAt.eqv_refl d h3]; rfl
end
end
section
open PySem.Spec
theorem AK {scope:Scope} {env:Env} {x:Str} (h:scope.names.lookup x=some .cell\/scope.names.lookup x=some .free):(relabel scope env).names.lookup x=some .cell\/(relabel scope env).names.lookup x=some .free:=by
 have go:∀ ns:List (Str×MA),(ns.lookup x=some .cell\/ns.lookup x=some .free)->
   (ns.map fun (n,k)=>if (k == Nl && env.scope.kind == .function && env.kindOf n == some .cell) then (n,Qa) else (n,k)).lookup x=some .cell\/
   (ns.map fun (n,k)=>if (k == Nl && env.scope.kind == .function && env.kindOf n == some .cell) then (n,Qa) else (n,k)).lookup x=some .free:=by
  intro ns
  induction ns with
  | nil=>intro q; rcases q with q | q <;> simp at q
  | cons y r ih=>
   obtain ⟨n,k'⟩:=y
   intro q
   rw [LZ]
   rw [M4] at q
   by_cases hc:(k' == Nl && env.scope.kind == .function && env.kindOf n == some .cell)=true
   ·simp only [hc,if_true]
    rw [M4]
    cases e:x == n with
    | true=>exact .inl rfl
    | false=>rw [e] at q; exact ih q
   ·simp only [hc]
    rw [if_neg (by simp),M4]
    cases e:x == n with
    | true=>rw [e] at q; exact q
    | false=>rw [e] at q; exact ih q
 exact go scope.names h
theorem Fp {inner outer:Scope} {cl:List (Str×Addr)} {C:Addr} {env:Env} (h:∀ y∈inner.names,y.2=.free->outer.names.lookup y.1=some .cell\/outer.names.lookup y.1=some .free):
  ∀ y∈inner.names,y.2=.free->(SL outer cl C env).scope.names.lookup y.1=some .cell\/(SL outer cl C env).scope.names.lookup y.1=some .free:=fun y hy hk=>AK (h y hy hk)
end
end L2
section
namespace L2
open PySem
noncomputable def Rs (xs:List Nat):Prop:=xs.Pairwise (· < ·)
theorem yb (xs:Array Nat) (i d:Nat) (h:i < xs.size):xs.getD i d=xs.toList[i]'(by simpa using h):=by
 rw [SU,dif_pos h]
 simp
theorem wW (xs:Array Nat) (j:Nat) (hr:Rs xs.toList):∀ (fuel lo hi:Nat),hi - lo<=fuel->lo<=hi->hi<=xs.size->(∀ i (h:i < xs.toList.length),i < lo->xs.toList[i] < j)->(∀ i (h:i < xs.toList.length),hi<=i->j<=xs.toList[i])->
  lo<=Ot xs j fuel lo hi/\Ot xs j fuel lo hi<=hi/\(∀ i (h:i < xs.toList.length),i < Ot xs j fuel lo hi->xs.toList[i] < j)/\(∀ i (h:i < xs.toList.length),Ot xs j fuel lo hi<=i->j<=xs.toList[i])
 | 0,lo,hi,hf,hl,hs,h1,h2=>by
  have e:hi=lo:=by omega
  subst e
  exact ⟨LH _,LH _,h1,h2⟩
 | fuel + 1,lo,hi,hf,hl,hs,h1,h2=>by
  have eq:Ot xs j (fuel + 1) lo hi=(if lo < hi then (if xs.getD ((lo + hi) / 2) j < j then Ot xs j fuel ((lo + hi) / 2 + 1) hi else Ot xs j fuel lo ((lo + hi) / 2)) else lo):=rfl
  by_cases hlt:lo < hi
  ·have hm:(lo + hi) / 2 < xs.size:=by omega
   have hm':(lo + hi) / 2 < xs.toList.length:=by simpa using hm
   have pw:=OK.mp hr
   rw [if_pos hlt,yb xs _ _ hm] at eq
   by_cases hc:xs.toList[(lo + hi) / 2] < j
   ·rw [if_pos hc] at eq
    obtain ⟨a,b,c,d⟩:=wW xs j hr fuel ((lo + hi) / 2 + 1) hi (by omega) (by omega) hs (fun i h hi'=>by
     rcases Tw i ((lo + hi) / 2) with z | z
     ·have:=pw i ((lo + hi) / 2) h hm' z
      omega
     ·have e:i=(lo + hi) / 2:=by omega
      subst e
      exact hc) h2
    rw [eq]
    exact ⟨by omega,b,c,d⟩
   ·rw [if_neg hc] at eq
    obtain ⟨a,b,c,d⟩:=wW xs j hr fuel lo ((lo + hi) / 2) (by omega) (by omega) (by omega) h1 (fun i h hi'=>by
     rcases Tw ((lo + hi) / 2) i with z | z
     ·have:=pw ((lo + hi) / 2) i hm' h z
      omega
     ·have e:i=(lo + hi) / 2:=by omega
      subst e
      omega)
    rw [eq]
    exact ⟨a,by omega,c,d⟩
  ·rw [if_neg hlt] at eq
   have e:hi=lo:=by omega
   subst e
   rw [eq]
   exact ⟨LH _,LH _,h1,h2⟩
theorem kO (xs:Array Nat) (j:Nat) (hr:Rs xs.toList):Mg xs j<=xs.size/\(∀ i (h:i < xs.toList.length),i < Mg xs j->xs.toList[i] < j)/\(∀ i (h:i < xs.toList.length),Mg xs j<=i->j<=xs.toList[i]):=by
 obtain ⟨_,b,c,d⟩:=wW xs j hr xs.size 0 xs.size (by omega) (MI _) (LH _) (fun i h z=>absurd z (N4 _)) (fun i h z=>absurd (by simpa using h) (Ru.mpr z))
 exact ⟨b,c,d⟩
theorem C6 (xs:Array Nat) (hr:Rs xs.toList) {i:Nat} (h:i < xs.toList.length):Mg xs (xs.toList[i] + 1)=i + 1:=by
 obtain ⟨b,c,d⟩:=kO xs (xs.toList[i] + 1) hr
 have pw:=OK.mp hr
 rcases Rn (Mg xs (xs.toList[i] + 1)) (i + 1) with z | z | z
 ·have:=d i h (by omega)
  omega
 ·exact z
 ·have hi:i + 1 < xs.toList.length:=by simp at *; omega
  have:=c (i + 1) hi (by omega)
  have:=pw i (i + 1) h hi (by omega)
  omega
theorem C7 (xs:Array Nat) (hr:Rs xs.toList):Mg xs 0=0:=by
 obtain ⟨b,c,_⟩:=kO xs 0 hr
 rcases Pw (Mg xs 0) with z | z
 ·exact z
 ·have h0:0 < xs.toList.length:=by simp; omega
  have:=c 0 h0 z
  omega
theorem KB (xs:Array Nat) (hr:Rs xs.toList) {j:Nat} (hj:j∉xs.toList):Rs (Ma.insertAt xs (Mg xs j) j).toList:=by
 obtain ⟨b,c,d⟩:=kO xs j hr
 rw [Ma.toList_insertAt]
 have hr':(xs.toList.take (Mg xs j)++xs.toList.drop (Mg xs j)).Pairwise (· < ·):=by rw [O9]; exact hr
 rw [QA] at hr'
 obtain ⟨p1,p2,p3⟩:=hr'
 have lo:∀ a∈xs.toList.take (Mg xs j),a < j:=fun a ha=>by
  obtain ⟨i,hi,rfl⟩:=QB.mp ha
  rw [List.getElem_take]
  have hi':i < min (Mg xs j) xs.toList.length:=by simpa using hi
  exact c i (by omega) (by omega)
 have hi:∀ a∈xs.toList.drop (Mg xs j),j < a:=fun a ha=>by
  obtain ⟨i,hi,rfl⟩:=QB.mp ha
  rw [List.getElem_drop]
  have hl:i < xs.toList.length - Mg xs j:=by simpa using hi
  have h1:Mg xs j + i < xs.toList.length:=by omega
  have:=d _ h1 (Ny _ _)
  rcases Py this with z | z
  ·exact z
  ·exact absurd (z ▸ Od h1) hj
 refine QA.mpr ⟨p1,Pz.mpr ⟨hi,p2⟩,fun a ha x hx=>?_⟩
 rcases LI.mp hx with rfl | hx
 ·exact lo a ha
 ·exact p3 a ha x hx
theorem GU {xs:Array Nat} (hr:Rs xs.toList) {j:Nat} (h:¬ (xs[Mg xs j]? == some j)=true):j∉xs.toList:=fun hm=>by
 obtain ⟨b,c,d⟩:=kO xs j hr
 obtain ⟨k,hk,e⟩:=QB.mp hm
 have pw:=OK.mp hr
 have h1:Mg xs j<=k:=RC fun z=>by
  have:=c k hk z
  omega
 have h2:Mg xs j=k:=by
  rcases Py h1 with z | z
  ·have hl:Mg xs j < xs.toList.length:=by omega
   have:=d _ hl (LH _)
   have:=pw _ k hl hk z
   omega
  ·exact z
 refine h ?_
 rw [h2,<-OC,LD hk,e]
 exact beq_self_eq_true _
theorem Fq {t:Ma} (hr:Rs t.place.toList) {j:Nat} (h:∀ i,t.slot j≠.live i):j∉t.place.toList:=by
 refine GU hr fun z=>?_
 have:=h (Mg t.place j)
 unfold Ma.slot at this
 rw [if_pos z] at this
 exact this rfl
theorem oU {t:Ma} {f:Nat->Int} {h:Int}:∀ (fuel:Nat) (p:Ma.Probe) {j:Nat} {d:Option Nat},(∀ x,p.dummy=some x->∀ i,t.slot x≠.live i)->TQ t f h fuel p=some (.empty j d)->∀ i,t.slot (d.getD j)≠.live i
 | 0,_,_,_,_,e=>by cases e
 | fuel + 1,p,j,d,hd,e=>by
  have ha:∀ q:Ma.Probe,(t.advance q).dummy=q.dummy:=fun q=>by
   unfold Ma.advance
   split <;> rfl
  unfold TQ at e
  cases hs:t.slot p.j with
  | empty=>
   rw [hs] at e
   injection e with e
   injection e with e1 e2
   subst e1 e2
   intro i
   cases hx:p.dummy with
   | none=>show t.slot p.j≠_; rw [hs]; intro z; cases z
   | some x=>exact hd x hx i
  | dummy=>
   rw [hs] at e
   refine oU fuel _ (fun x hx i=>?_) e
   rw [ha] at hx
   cases hx
   rw [hs]; intro z; cases z
  | live k=>
   rw [hs] at e
   dsimp only at e
   split at e
   ·cases e
   ·exact oU fuel _ (fun x hx=>hd x (by rw [ha] at hx; exact hx)) e
theorem C8 {t:Ma} (hr:Rs t.place.toList) {h:Int} {j:Nat} {b:Bool} (e:t.freeSlot h=some (j,b)):j∉t.place.toList:=by
 unfold Ma.freeSlot at e
 split at e
 ·rename_i j' d' he
  cases e
  exact Fq hr (oU _ _ (fun x hx=>by cases hx) he)
 ·cases e
theorem GV (n:Nat):Rs (Array.range n).toList:=by
 rw [Array.toList_range]
 exact Oa
theorem kP (t:Ma) (n:Nat):Rs (t.standIn n).place.toList:=GV n
theorem Fr {t:Ma} (hr:Rs t.place.toList) (es:Array (Int×Value)) (h:Int) (x:Value):Rs (layNew t es h x).2.1.place.toList/\(layNew t es h x).2.1.led=t.led:=by
 unfold layNew
 split
 ·rename_i slot wd he
  dsimp only
  unfold Ma.orStandIn
  split
  ·exact ⟨KB _ hr (C8 hr he),rfl⟩
  ·exact ⟨kP _ _,rfl⟩
 ·exact ⟨kP _ _,rfl⟩
theorem Jd {mask finger moves:Nat} {led plain:Bool} {hs:Array Int} {t:Ma} {o:Array Nat} (e:Ma.laid mask finger moves led plain hs=some (t,o)):Rs t.place.toList/\t.led=led:=by
 unfold Ma.laid at e
 obtain ⟨owner,_,e⟩:=Option.bind_eq_some_iff.mp e
 cases e
 refine ⟨?_,rfl⟩
 show ((((LV (mask + 1)).filterMap fun j=>(owner.getD j none).map (j,·)).map (·.1)).toArray).toList.Pairwise (· < ·)
 have sub:List.Sublist (((LV (mask + 1)).filterMap fun j=>(owner.getD j none).map (j,·)).map (·.1)) (LV (mask + 1)):=by
  rw [List.map_filterMap]
  have:∀ l:List Nat,List.Sublist (l.filterMap fun j=>((owner.getD j none).map (j,·)).map (·.1)) l:=by
   intro l
   induction l with
   | nil=>exact .slnil
   | cons a l ih=>
    rw [Pm]
    cases owner.getD a none with
    | none=>exact .cons _ ih
    | some v=>exact .cons₂ _ ih
  exact this _
 exact Oa.sublist sub
theorem By {t:Ma} (hr:Rs t.place.toList) (es:Array (Int×Value)) (wanted:Nat):Rs (QN t es wanted).2.1.place.toList/\(QN t es wanted).2.1.led=t.led:=by
 unfold QN
 split
 ·rename_i t' order he
  dsimp only
  split
  ·exact Jd he
  ·exact ⟨kP _ _,rfl⟩
 ·exact ⟨kP _ _,rfl⟩
end L2
end
section
namespace L2
open PySem
section
variable {prog:Program} {w:World} {K:Type} [DecidableEq K] {knd:KeyKind prog w K} {A:Around} {E:Value->Shared->Prop} {s:Shared}
noncomputable def Ent (knd:KeyKind prog w K) (k:K) (e:Int×Value):Prop:=knd.is k e.2=true/\e.1=knd.hash k/\e.2.scannable=true
inductive cg {α β:Type} (F:α->β->Prop):List α->List β->Prop
 | nil:cg F [] []
 | cons {a b l m}:F a b->cg F l m->cg F (a :: l) (b :: m)
theorem cg.len {α β:Type} {F:α->β->Prop} {l:List α} {m:List β} (h:cg F l m):l.length=m.length:=by
 induction h with
 | nil=>rfl
 | cons _ _ ih=>rw [Ml,Ml,ih]
theorem cg.app {α β:Type} {F:α->β->Prop} {l l':List α} {m m':List β} (h:cg F l m) (h':cg F l' m'):cg F (l++l') (m++m'):=by
 induction h with
 | nil=>exact h'
 | cons r _ ih=>exact .cons r ih
theorem cg.right {α β:Type} {F:α->β->Prop} {l:List α} {m:List β} (h:cg F l m):∀ b∈m,∃ a∈l,F a b:=by
 induction h with
 | nil=>intro b hb; cases hb
 | cons r _ ih=>
  intro b hb
  rcases LI.mp hb with rfl | hb
  ·exact ⟨_,LK,r⟩
  ·obtain ⟨a,ha,f⟩:=ih b hb
   exact ⟨a,LQ _ ha,f⟩
theorem cg.perm {α β:Type} {F:α->β->Prop} {m m':List β} (p:Ng m m'):∀ {l:List α},cg F l m->∃ l',Ng l l'/\cg F l' m':=by
 induction p with
 | nil=>intro l h; cases h; exact ⟨[],.nil,.nil⟩
 | cons b _ ih=>
  intro l h
  cases h with
  | cons r t=>
   obtain ⟨l',p,q⟩:=ih t
   exact ⟨_ :: l',.cons _ p,.cons r q⟩
 | swap b c m=>
  intro l h
  cases h with
  | cons r t=>cases t with
   | cons r' t'=>exact ⟨_,.swap _ _ _,.cons r' (.cons r t')⟩
 | trans _ _ ih1 ih2=>
  intro l h
  obtain ⟨l1,p1,q1⟩:=ih1 h
  obtain ⟨l2,p2,q2⟩:=ih2 q1
  exact ⟨l2,p1.trans p2,q2⟩
noncomputable def dz (knd:KeyKind prog w K) (h:Heap) (a:Addr) (ks:List K) (led:Bool):Prop:=
 ∃ o es ep t,h.get? a=some o/\o.ExactSet/\o.data=.set es ep t/\cg (Ent knd) ks es.toList/\ks.Nodup/\es.size < PB/\t.fits es.size=true/\Rs t.place.toList/\t.led=led
theorem KC {ks:List K} {l:List (Int×Value)} (h:cg (Ent knd) ks l):ElemsOf knd l:=fun e he=>by
 obtain ⟨k,_,f1,f2,f3⟩:=h.right e he
 exact ⟨⟨k,f1,f2⟩,f3⟩
theorem stored {h:Heap} {a:Addr} {o:Obj} {es es':Array (Int×Value)} {ep:Nat} {t t':Ma} {ks':List K} {led:Bool} (g1:h.get? a=some o) (g2:o.ExactSet) (g3:o.data=.set es ep t) (pr:cg (Ent knd) ks' es'.toList) (nd:ks'.Nodup) (sb:es'.size < PB) (ft:t'.fits es'.size=true) (rs:Rs t'.place.toList) (ld:t'.led=led):
  (h.update a (Rv es' t')).get? a=some { o with data:=.set es' (ep + 1) t' }/\dz knd (h.update a (Rv es' t')) a ks' led:=by
 have hg:(h.update a (Rv es' t')).get? a=some { o with data:=.set es' (ep + 1) t' }:=by
  have z:=Mw (Rv es' t') g1 (by rw [putSet_of _ _ g3]; rfl)
  rw [z,putSet_of _ _ g3]
 exact ⟨hg,_,es',ep + 1,t',hg,g2,rfl,pr,nd,sb,ft,rs,ld⟩
theorem GW {ks:List K} {l:List (Int×Value)} {k:K} (h:cg (Ent knd) ks l) {j:Nat} (e:l.findIdx? (fun e=>knd.is k e.2)=some j):k∈ks:=by
 obtain ⟨hj,hp,_⟩:=Ob.mp e
 obtain ⟨k',hk',f1,_⟩:=h.right _ (Od hj)
 exact knd.inj _ _ _ hp f1 ▸ hk'
theorem Fs {ks:List K} {l:List (Int×Value)} {k:K} (h:cg (Ent knd) ks l) (e:l.findIdx? (fun e=>knd.is k e.2)=none):k∉ks:=by
 have n:=Pp.mp e
 induction h with
 | nil=>intro z; cases z
 | cons r _ ih=>
  intro z
  rcases LI.mp z with rfl | z
  ·have:=n _ LK
   rw [r.1] at this
   cases this
  ·exact ih (Pp.mpr fun e he=>n e (LQ _ he)) (fun e he=>n e (LQ _ he)) z
theorem yc {g:Bool->Sem Unit} (hg:∀ (b:Bool) (z:Shared) (P:Unit->Shared->Prop),P () z->wpAny (model prog w) A (g b) P E z) {a:Addr} {o:Obj} {es fs:Array (Int×Value)} {ep:Nat} {t u:Ma} {ks:List K} {led wd:Bool}
  (g1:s.heap.get? a=some o) (g2:o.ExactSet) (g3:o.data=.set es ep t) (kq:cg (Ent knd) ks fs.toList) (nd:ks.Nodup) (sb:fs.size < PB) (fu:u.fits fs.size=true) (ru:Rs u.place.toList) (lu:u.led=led) {R:Option Bool->Shared->Prop}
  (q:∀ h' ks',L8 a s.heap h'->dz knd h' a ks' led->Ng ks' ks->R (some true) { s with heap:=h' }):
  wpAny (model prog w) A (storeSet a fs u >>= fun _=>if (!wd && u.tooFull)=true then (g (QN u fs (OO fs.size)).2.2 >>= fun _=>storeSet a (QN u fs (OO fs.size)).1 (QN u fs (OO fs.size)).2.1 >>= fun _=>pure (some true)) else pure (some true)) R E s:=by
 apply LA
 refine TU g1 g3 ?_ (TV sb)
 obtain ⟨g4,R1⟩:=stored (knd:=knd) g1 g2 g3 kq nd sb fu ru lu
 have b1:=MO s.heap a (Rv fs u)
 split
 ·have pm:=relayAll_perm u fs (OO fs.size)
  have pf:=relayAll_fits u fs (OO fs.size)
  have ⟨pr,pl⟩:=By ru fs (OO fs.size)
  generalize QN u fs (OO fs.size)=L at *
  obtain ⟨fs',u',gv⟩:=L
  dsimp only at pm pf pr pl ⊢
  obtain ⟨ks',kp,kq'⟩:=cg.perm pm.symm kq
  have hz:fs'.size=fs.size:=by rw [<-Mp,pm.length_eq,Mp]
  apply LA
  apply hg
  apply LA
  refine TU g4 rfl ?_ (TV (by rw [hz]; exact sb))
  obtain ⟨_,R2⟩:=stored (knd:=knd) g4 g2 rfl kq' (kp.nodup_iff.mp nd) (by rw [hz]; exact sb) pf pr (pl.trans lu)
  exact LC (q _ ks' (b1.trans (MO _ a _)) R2 kp.symm)
 ·exact LC (q _ ks b1 R1 (Ng.refl _))
theorem Je {a:Addr} {ks:List K} {led:Bool} {k:K} {x:Value} {Q:Bool->Shared->Prop} (hk:knd.is k x=true) (hx:x.scannable=true) (R:dz knd s.heap a ks led) (room:ks.length + 1 < PB)
  (q:∀ h' ks' b,L8 a s.heap h'->dz knd h' a ks' led->(∀ y,y∈ks'↔y∈ks\/y=k)->ks'.length<=ks.length + 1->Q b { s with heap:=h' }):wpAny (model prog w) A (setAddHashed a x (knd.hash k)) Q E s:=by
 obtain ⟨o,es,ep,t,g1,g2,g3,pr,nd,sb,ft,rs,ld⟩:=id R
 have el:=KC pr
 have hlen:ks.length=es.size:=by rw [pr.len,Mp]
 unfold setAddHashed setAddHashedIn
 apply MR
 apply LA
 apply Nj g1 g3 ft
 dsimp only
 rw [if_pos (byScan_of hx sb el)]
 unfold setAddByScan
 apply LA
 apply LA
 apply NY
 apply LA
 apply wpAny_setScan_of hk g1 g3 ft el
 cases fe:List.findIdx? (fun e=>knd.is k e.2) es.toList with
 | some j=>
  dsimp only
  apply LC
  apply LC
  have z:=q s.heap ks false (TX a s.heap) R (fun y=>⟨.inl,fun h=>h.elim id fun e=>e ▸ GW pr fe⟩) (OM _)
  cases s
  exact z
 | none=>
  dsimp only
  have hk0:=Fs pr fe
  have pm:=layNew_perm t es (knd.hash k) x
  have pf:=layNew_fits t es (knd.hash k) x
  have ⟨pr1,pl1⟩:=Fr rs es (knd.hash k) x
  generalize layNew t es (knd.hash k) x=L at *
  obtain ⟨es1,t1,wd,gv⟩:=L
  dsimp only at pm pf pr1 pl1 ⊢
  rw [Ro] at pm
  obtain ⟨ks1,kp,kq⟩:=cg.perm pm.symm (pr.app (.cons (⟨hk,rfl,hx⟩:Ent knd k (knd.hash k,x)) .nil))
  have hz:es1.size=es.size + 1:=by rw [<-Mp,pm.length_eq,L7,Mp]; rfl
  have sb1:es1.size < PB:=by rw [hz,<-hlen]; exact room
  have nd1:ks1.Nodup:=kp.nodup_iff.mp (TN.mpr ⟨nd,RO _ _,fun y hy z hz' e=>hk0 (by rw [LG] at hz'; rw [<-hz',<-e]; exact hy)⟩)
  have fin:∀ h' ks',L8 a s.heap h'->dz knd h' a ks' led->Ng ks' ks1->Q true { s with heap:=h' }:=fun h' ks' b R' pp=>
   q h' ks' true b R' (fun y=>by rw [pp.mem_iff,<-kp.mem_iff,Mr,LG]) (by rw [pp.length_eq,<-kp.length_eq,L7]; exact LH _)
  apply LA
  have gw:∀ (b:Bool) (z:Shared) (P:Unit->Shared->Prop),P () z->wpAny (model prog w) A (match b with | true=>rule "set.scan.the-table-gave-way" | false=>pure ()) P E z:=fun b z P hP=>by cases b <;> first | exact LC hP | exact NY hP
  refine gw gv _ _ ?_
  split
  ·apply LA
   rw [hashByValue_scannable 8 hx]
   apply LC
   refine yc (led:=led) (fun b z P hP=>by cases b <;> first | exact LC hP | exact NY hP) g1 g2 g3 kq nd1 sb1 ?_ ?_ ?_ fun h' ks' b R' pp=>?_
   ·split
    ·exact pf
    ·exact Ma.fits_plain_off pf
   ·split <;> exact pr1
   ·split <;> exact pl1.trans ld
   ·exact LC (fin h' ks' b R' pp)
  ·apply LA
   apply LC
   simp only [↓reduceIte]
   refine yc (led:=led) (fun b z P hP=>by cases b <;> first | exact LC hP | exact NY hP) g1 g2 g3 kq nd1 sb1 pf pr1 (pl1.trans ld) fun h' ks' b R' pp=>?_
   exact LC (fin h' ks' b R' pp)
end
end L2
end
namespace L2
open PySem PyProof.Rows
section
open PySem.Spec
section
variable {prog:Program} {w:World} {K:Type} [DecidableEq K] {knd:KeyKind prog w K} {A:Around} {R:Result->Shared->Prop} {I:Addr} {fp wr:List Addr} {G:Array SD->Array SD->Prop} {n:Nat} {P:Nat->Value->Prop} {St:Nat->Shared->Prop}
theorem dz.at {h h':Heap} {a:Addr} {ks:List K} {led:Bool} (r:dz knd h a ks led) (k:∀ o,h.get? a=some o->h'.get? a=some o):dz knd h' a ks led:=by
 obtain ⟨o,es,ep,t,e,z⟩:=r
 exact ⟨o,es,ep,t,k o e,z⟩
theorem GX (W:WalksS prog w A.in1 I fp wr G n P St) (S:Addr) (free:S∉fp) (key:Nat->K) (hkey:∀ i v,P i v->knd.is (key i) v=true/\v.scannable=true) (room:n + 1 < PB) {led:Bool}:
  ∀ (m i:Nat) (s:Shared) (ks:List K),n - i=m->i<=n->St i s->dz knd s.heap S ks led->(∀ y,y∈ks↔∃ j,j < i/\key j=y)->ks.length<=i->
   (∀ s' ks',Moved (S :: wr) G s s'->dz knd s'.heap S ks' led->(∀ y,y∈ks'↔∃ j,j < n/\key j=y)->R (.ok (.ret .none)) s')->
   codeAny (model prog w) A (.builtin "set.update.loop" ⟨[.ref S,.ref I],[]⟩) R s:=by
 have nw:S∉wr:=fun z=>free (W.sub _ z)
 have up:∀ b∈wr,b∈S :: wr:=fun b z=>LQ _ z
 intro m
 induction m with
 | zero=>
  intro i s ks hm hi st r mem len done
  obtain rfl:i=n:=by omega
  apply MT RP
  rw [MC PV _]
  show wpAny _ A.in1 (pyNext (.ref I) >>= _) _ _ s
  apply LA
  refine W.done s _ _ st fun z mv=>?_
  show wpAny _ A.in1 (ret M6) _ _ z
  exact LC (done z ks (mv.mono up) (r.at fun o e=>mv.heap S _ nw e) mem)
 | succ m ih=>
  intro i s ks hm hi st r mem len done
  have lt:i < n:=by omega
  apply MT RP
  rw [MC PV _]
  show wpAny _ A.in1 (pyNext (.ref I) >>= _) _ _ s
  apply LA
  refine W.item i s _ _ lt st fun v z pv stz mv=>?_
  obtain ⟨kv,sv⟩:=hkey i v pv
  have rz:dz knd z.heap S ks led:=r.at fun o e=>mv.heap S _ nw e
  show wpAny _ A.in1 (holding [v] (setAdd S v) >>= _) _ _ z
  apply LA
  apply MR
  unfold setAdd
  apply MR
  apply LA
  refine knd.pyHash kv ?_
  refine Je (s:={ z with toks:=z.toks + 1 }) kv sv rz (by omega) fun h' ks' b sb r' mem' len'=>?_
  refine LC ⟨Nm PV _,ih (i + 1) _ ks' (by omega) lt (W.frame _ z _ _ stz (OM _) fun c hc o e=>?_) r' (fun y=>?_) (by omega) fun z' ks2 mv2 r2 mem2=>?_⟩
  ·rw [sb.2 c (fun e':c=S=>free (by rw [<-e']; exact hc))]
   exact e
  ·rw [mem',mem]
   constructor
   ·rintro (⟨j,hj,e⟩ | e)
    ·exact ⟨j,by omega,e⟩
    ·exact ⟨i,by omega,e.symm⟩
   ·rintro ⟨j,hj,e⟩
    rcases Tw j i with q | q
    ·exact .inl ⟨j,q,e⟩
    ·have:j=i:=by omega
     subst this
     exact .inr e.symm
  ·refine done z' ks2 (Moved.trans W.gtrans ((mv.mono up).then_heap (OM _) fun c o hc e=>?_) mv2) r2 mem2
   rw [sb.2 c (fun e':c=S=>hc (by rw [e']; exact LK))]
   exact e
end
end
section
open PySem.Spec
section
variable {prog:Program} {w:World} {A:Around} {E:Value->Shared->Prop} {s:Shared}
noncomputable def d2 (w:World):Bool:=w.params.followText "set-order"
noncomputable abbrev ng (w:World):Obj:={ cls:=.type "set",dict:=none,data:=.set #[] 0 (.fresh 0 0 (!d2 w)) }
theorem GY (x:Value) {Q:Value->Shared->Prop} (q:Q (.ref s.heap.objs.size) { s with heap:=s.heap.push (ng w) }):codeAny (model prog w) A (.call (.builtin "set.__new__") ⟨[.type "set",x],[]⟩) (wants Q E) s:=by
 apply R6
 show wpAny _ A.in1 (do Uv "set.__new__" ⟨[.type "set",x],[]⟩; again (.builtin "set.__new__" ⟨[.type "set",x],[]⟩)) _ _ s
 apply LA
 apply P8 (PySem.F.newCall_set_1 x)
 refine LC ⟨Nm Sv _,?_⟩
 apply MT PySem.F.entry_set_new
 rw [MC Sv _]
 unfold Builtin.«set.__new__»
 unfold Builtin.Frozenset.newClass
 have self_:=sub_set_self
 obtain ⟨hp,g,d,tk,os⟩:=s
 dsimp only
 wp_walk
 apply RJ
 apply LC
 dsimp only
 simp only [newObj]
 apply LA
 apply wpAny_alloc
 apply LC
 exact LC q
theorem dz.new {K:Type} [DecidableEq K] {knd:KeyKind prog w K} {h:Heap} {a:Addr} (e:h.get? a=some (ng w)):dz knd h a [] (!d2 w):=
 ⟨_,#[],0,_,e,⟨rfl,rfl,rfl⟩,rfl,.nil,.nil,by decide,rfl,.nil,rfl⟩
end
end
section
open PySem.Spec
section
variable {prog:Program} {w:World} {K:Type} [DecidableEq K] {knd:KeyKind prog w K} {A:Around} {E:Value->Shared->Prop} {s:Shared}
theorem Jf {l:Addr} {xs:Array Value} (key:Nat->K) {Q:Value->Shared->Prop} (calm:A.handled=none) (hl:s.heap.IsList l xs) (hkey:∀ i v,xs[i]?=some v->knd.is (key i) v=true/\v.scannable=true) (room:xs.size + 1 < PB)
  (q:∀ (h':Heap) (tk:Nat) (ks:List K),dz knd h' s.heap.objs.size ks (!d2 w)->(∀ y,y∈ks↔∃ j,j < xs.size/\key j=y)->(∀ b o,b < s.heap.objs.size->s.heap.get? b=some o->h'.get? b=some o)->Q (.ref s.heap.objs.size) { s with heap:=h',toks:=tk }):
  wpAny (model prog w) A (call (.type "set") [.ref l]) Q E s:=by
 have ft:=PySem.F.called_set
 obtain ⟨c0,tl0,mro0⟩:=ft.mro
 have made0:=ft.made
 have sub0:=ft.sub
 have not0:=ft.notType
 have can0:=ft.canCreate
 have chk0:=PySem.F.typeCall_set_1 (.ref l)
 apply UB
 apply R6
 show wpAny _ _ (callAny (.type "set") _) _ _ _
 refine LC ⟨Code.quiet_builtin _ (by decide +kernel),?_⟩
 apply MT PySem.F.entry_type_call
 rw [Around.under_plain (weight_type_call_type "set" [.ref l] []) rfl]
 repeat (any_goals (first | assumption | wp_step))
 refine OP (GY (.ref l) (E:=E) (Q:=fun ob z=>ob=.ref s.heap.objs.size/\z={ s with heap:=s.heap.push (ng w) }) ⟨rfl,rfl⟩) fun r z hz=>?_
 cases r with
 | error e=>exact hz
 | ok fl=>
  cases fl with
  | next=>exact hz.elim
  | brk=>exact hz.elim
  | cont=>exact hz.elim
  | ret ob=>
   obtain ⟨rfl,rfl⟩:=hz
   have got:(s.heap.push (ng w)).get? s.heap.objs.size=some (ng w):=LL _ rfl
   have isT:Ra { s with heap:=s.heap.push (ng w) } (.ref s.heap.objs.size) "set":=⟨_,got,rfl⟩
   have look0:=ft.init.lookup
   have bind0:=ft.init.bind (.ref s.heap.objs.size)
   repeat (any_goals (first | assumption | wp_step))
   refine OP (codeAny_call_builtin (R:=wants (fun r z=>r=.none/\∃ h' tk ks,z={ s with heap:=h',toks:=tk }/\dz knd h' s.heap.objs.size ks (!d2 w)/\(∀ y,y∈ks↔∃ j,j < xs.size/\key j=y)/\∀ b o,b < s.heap.objs.size->s.heap.get? b=some o->h'.get? b=some o) E) ft.init.plain PySem.F.entry_set_init (check_set_init_1 isT ?_)) fun r z hz=>?_
   ·obtain ⟨ob,gl,cl,nl,dl⟩:=hl
    obtain ⟨a1,a2,a3,a4⟩:=ob
    simp only at cl dl
    subst cl dl
    have gl1:(s.heap.push (ng w)).get? l=some { cls:=.type "list",dict:=a2,data:=.seq xs nl,slots:=a4 }:=LB _ gl
    have sls:=PySem.F.sub_list_set
    have slf:=PySem.F.sub_list_frozenset
    have nd0:(M7 "list" == M7 "dict")=false:=by decide
    have il:(s.heap.push (ng w)).IsList l xs:=⟨_,gl1,rfl,nl,rfl⟩
    unfold Builtin.«set.__init__»
    unfold noKeywords
    unfold Builtin.Frozenset.updateFrom
    generalize gPI:pyIter=PI
    wp_walk
    subst gPI
    apply O5 il
    apply LA
    apply Sw
    have lt:l < s.heap.objs.size:=LM gl
    have sz:(s.heap.push (ng w)).objs.size=s.heap.objs.size + 1:=MF _ _
    have fr:s.heap.objs.size∉[(s.heap.push (ng w)).objs.size,l]:=by
     rw [sz]
     intro hm
     rcases LI.1 hm with e | hm
     ·exact absurd e (Mn (Nt _))
     ·rcases LI.1 hm with e | hm
      ·exact absurd e.symm (Mn lt)
      ·exact nomatch hm
    refine GX (knd:=knd) ((SN (by simp [calm]) _ l (by rw [sz]; exact Mn (Nh lt)) xs).toS) s.heap.objs.size fr key (fun i v hv=>hkey i v hv) room (led:=!d2 w) (xs.size - 0) 0 _ [] (by omega) (MI _) ⟨⟨_,LL _ rfl,rfl,rfl⟩,il.push _⟩ (dz.new (LB _ got)) (fun y=>⟨fun z=>(nomatch z),fun ⟨j,hj,_⟩=>absurd hj (N4 _)⟩) (LH _) fun z ks mv r mem=>?_
    obtain ⟨h',g',d',tk',os'⟩:=z
    obtain rfl:g'=s.gens:=mv.gens
    obtain rfl:d'=s.drawn:=mv.drawn
    obtain rfl:os'=s.os:=mv.os
    show wpAny _ _ _ _ _ _
    refine LC ?_
    show wpAny _ _ (ret M6) _ _ _
    refine LC ⟨rfl,h',tk',ks,rfl,r,mem,fun b o hb e=>mv.heap b o (fun hm=>?_) (LB _ (LB _ e))⟩
    rcases LI.1 hm with e | hm
    ·exact absurd e (Mn hb)
    ·rcases LI.1 hm with e | hm
     ·rw [sz] at e
      exact absurd e (Mn (Nh hb))
     ·exact nomatch hm
   ·cases r with
    | error e=>exact hz
    | ok fl=>
     cases fl with
     | next=>exact hz.elim
     | brk=>exact hz.elim
     | cont=>exact hz.elim
     | ret r=>
      obtain ⟨rfl,h',tk,ks,rfl,r1,r2,r3⟩:=hz
      repeat (any_goals (first | assumption | wp_step))
      exact q _ _ ks r1 r2 r3
end
end
section
open PySem.Spec
theorem eZ:Slot "set_iterator" "__next__" "set_iterator.__next__":=by
 refine Slot.of (owner:="set_iterator") (n:="__next__") ?_ ?_ ?_ ?_ ?_ ?_
 ·rw [QC,Pb]
  kernel_rfl
 ·decide +kernel
 ·decide +kernel
 ·decide +kernel
 ·first
   | exact .inl (by decide +kernel)
   | exact .inr (by decide +kernel)
 ·rw [Sx]
  kernel_rfl
theorem Ce:Slot "set_iterator" "__iter__" "set_iterator.__iter__":=by
 refine Slot.of (owner:="set_iterator") (n:="__iter__") ?_ ?_ ?_ ?_ ?_ ?_
 ·rw [QC,Pb]
  kernel_rfl
 ·decide +kernel
 ·decide +kernel
 ·decide +kernel
 ·first
   | exact .inl (by decide +kernel)
   | exact .inr (by decide +kernel)
 ·rw [Sx]
  kernel_rfl
theorem oV:entryFor table "set_iterator.__next__"=some Builtin.«set_iterator.__next__»:=by
 apply entryFor_of_tree
 kernel_rfl
theorem GZ:entryFor table "set_iterator.__iter__"=some Builtin.«dict_keyiterator.__iter__»:=by
 refine entryFor_alias (id':="dict_keyiterator.__iter__") ?_ rfl ?_ ?_
 ·kernel_rfl
 ·decide +kernel
 ·kernel_rfl
theorem Jg:entryFor table "set.__iter__"=some Builtin.«frozenset.__iter__»:=by
 refine entryFor_alias (id':="frozenset.__iter__") ?_ rfl ?_ ?_
 ·kernel_rfl
 ·decide +kernel
 ·kernel_rfl
theorem AL:Manifest.owners.lookup (String.ofList ['r','o','t','a','r','e','t','i','_','t','e','s'].reverse)=some Manifest.sig_set_iterator:=by kernel_rfl
theorem oW (a:Value):argsOk "set_iterator.__next__" ⟨[a],[]⟩:=by
 unfold argsOk
 rw [signature?_of (id:="set_iterator.__next__") (n:=['_','_','t','x','e','n','_','_']) (o:=['r','o','t','a','r','e','t','i','_','t','e','s']) (by kernel_rfl) AL]
 kernel_rfl
theorem G0 (a:Value):argsOk "set_iterator.__iter__" ⟨[a],[]⟩:=by
 unfold argsOk
 rw [signature?_of (id:="set_iterator.__iter__") (n:=['_','_','r','e','t','i','_','_']) (o:=['r','o','t','a','r','e','t','i','_','t','e','s']) (by kernel_rfl) AL]
 kernel_rfl
end
section
open PySem.Spec
noncomputable def SAt (h:Heap) (a:Addr) (es:Array (Int×Value)) (ep:Nat) (t:Ma):Prop:=∃ o,h.get? a=some o/\o.data=.set es ep t/\t.fits es.size=true
noncomputable def dG (h:Heap) (I a:Addr) (f:Value) (i n ep:Nat):Prop:=∃ o,h.get? I=some o/\o.cls=.type "set_iterator"/\o.data=.fields #[f,.int i 0,.ref a,.int n 0,.int ep 0]
theorem SAt.at {h h':Heap} {a:Addr} {es:Array (Int×Value)} {ep:Nat} {t:Ma} (x:SAt h a es ep t) (k:∀ o,h.get? a=some o->h'.get? a=some o):SAt h' a es ep t:=by
 obtain ⟨o,e,r⟩:=x
 exact ⟨o,k o e,r⟩
theorem dG.at {h h':Heap} {I a:Addr} {f:Value} {i n ep:Nat} (x:dG h I a f i n ep) (k:∀ o,h.get? I=some o->h'.get? I=some o):dG h' I a f i n ep:=by
 obtain ⟨o,e,r⟩:=x
 exact ⟨o,k o e,r⟩
theorem dG.type {s:Shared} {I a:Addr} {f:Value} {i n ep:Nat} (x:dG s.heap I a f i n ep):s.TypeIs (.ref I) "set_iterator":=by
 obtain ⟨o,e,c,_⟩:=x
 exact ⟨o,e,c⟩
theorem dG.set {h:Heap} {I a:Addr} {f g:Value} {i n ep:Nat} (x:dG h I a f i n ep):dG (h.update I (Rb (·.setIfInBounds 0 g))) I a g i n ep:=by
 obtain ⟨o,e,c,d⟩:=x
 refine ⟨_,Mw _ e (Qg (Ox d _)),(Rk ..).trans c,?_⟩
 rw [Ox d]
 simp
theorem dG.step {h:Heap} {I a:Addr} {f:Value} {i n ep:Nat} (x:dG h I a f i n ep):dG (h.update I (Rb (·.setIfInBounds 1 (rawInt ((i:Int) + 1))))) I a f (i + 1) n ep:=by
 obtain ⟨o,e,c,d⟩:=x
 refine ⟨_,Mw _ e (Qg (Ox d _)),(Rk ..).trans c,?_⟩
 rw [Ox d]
 simp [rawInt]
section
variable {prog:Program} {w:World} {A:Around} {E:Value->Shared->Prop} {s:Shared} {I a:Addr} {es:Array (Int×Value)} {ep:Nat} {t:Ma} {i:Nat}
theorem rR {Q:Bool->Shared->Prop} (q:Q (d2 w) s):wpAny (model prog w) A setsByText Q E s:=by
 unfold setsByText
 apply LA
 apply RJ
 exact LC q
theorem Cf {slot:Nat} {Q:Option (Value×Nat)->Shared->Prop} (b:d2 w=true) (hs:SAt s.heap a es ep t) (q:Q ((PC (w.params.setOrder a ep) es)[i]?.map fun e=>(e.2,slot)) s):wpAny (model prog w) A (setNext a slot i ep) Q E s:=by
 obtain ⟨o,g1,g3,ft⟩:=hs
 unfold setNext
 apply LA
 apply Nj g1 g3 ft
 dsimp only
 apply LA
 apply rR
 rw [if_pos b,if_neg (by simp)]
 apply LA
 unfold setWalk
 apply LA
 apply Nj g1 g3 ft
 dsimp only
 apply LA
 apply rR
 rw [if_pos b]
 apply LA
 apply RJ
 apply LC
 exact LC q
theorem Cg {slot:Nat} {Q:Option (Value×Nat)->Shared->Prop} (b:d2 w=false) (pl:(!t.plain && decide (es.size > 1))=false) (ld:t.led=true) (hs:SAt s.heap a es ep t)
  (q:Q (match es[Mg t.place slot]?,t.place[Mg t.place slot]? with | some (_,x),some j=>some (x,j + 1) | _,_=>none) s):wpAny (model prog w) A (setNext a slot i ep) Q E s:=by
 obtain ⟨o,g1,g3,ft⟩:=hs
 unfold setNext
 apply LA
 apply Nj g1 g3 ft
 dsimp only
 apply LA
 apply rR
 rw [if_neg (by rw [b]; exact LR)]
 show wpAny _ _ (if (!t.plain && decide (es.size > 1))=true then _ else _) _ _ _
 rw [if_neg (by rw [pl]; exact LR)]
 apply LA
 show wpAny _ _ (if (!t.led && !es.isEmpty)=true then _ else _) _ _ _
 rw [if_neg (by rw [ld]; simp)]
 apply LC
 exact LC q
theorem Jh {p:Nat} {x:Int×Value} {Q:Value->Shared->Prop} (hs:SAt s.heap a es ep t) (hx:es[p]?=some x) (q:Q x.2 s):wpAny (model prog w) A (setNextDrawn a p ep) Q E s:=by
 obtain ⟨o,g1,g3,ft⟩:=hs
 unfold setNextDrawn
 apply LA
 apply Nj g1 g3 ft
 dsimp only
 rw [if_neg (by simp),hx]
 exact LC q
theorem Ch {slot nx:Nat} {x:Value} {Q:Option Value->Shared->Prop} (hit:dG s.heap I a (.int slot 0) i es.size ep) (hs:SAt s.heap a es ep t)
  (hx:∀ (A:Around) (E:Value->Shared->Prop) (Q:Option (Value×Nat)->Shared->Prop),Q (some (x,nx)) s->wpAny (model prog w) A (setNext a slot i ep) Q E s)
  (q:∀ h',dG h' I a (.int nx 0) (i + 1) es.size ep->L8 I s.heap h'->Q (some x) { s with heap:=h' }):wpAny (model prog w) A (pyNext (.ref I)) Q E s:=by
 obtain ⟨o,g1,g3,ft⟩:=id hs
 obtain ⟨u,e1,e2,e3⟩:=id hit
 unfold pyNext
 apply LA
 apply OG
 refine MJ (name:=Nb "__next__") hit.type eZ ?_
 refine Mu eZ hit.type oV ?_ (oW _)
 refine LA (LC ?_)
 refine LA (QO e1 e3 ?_)
 dsimp only
 apply LA
 unfold Rw
 apply LA
 apply Nj g1 g3 ft
 apply LC
 rw [if_neg (by simp)]
 apply LA
 refine hx _ _ _ ?_
 dsimp only
 refine LA (Ou e1 e3 (by simp) ?_)
 have it1:dG (s.heap.update I (Rb (·.setIfInBounds 0 (rawInt (nx:Int))))) I a (.int nx 0) i es.size ep:=hit.set
 obtain ⟨u',e1',e2',e3'⟩:=id it1
 refine LA (Ou e1' e3' (by simp) ?_)
 exact LC ⟨_,rfl,LC (q _ it1.step ((MO _ I _).trans (MO _ I _)))⟩
theorem Ft {slot:Nat} {Q:Option Value->Shared->Prop} (calm:A.handled=none) (hit:dG s.heap I a (.int slot 0) i es.size ep) (hs:SAt s.heap a es ep t)
  (hx:∀ (A:Around) (E:Value->Shared->Prop) (Q:Option (Value×Nat)->Shared->Prop),Q none s->wpAny (model prog w) A (setNext a slot i ep) Q E s)
  (q:∀ h',Pl I s.heap h'->Q none { s with heap:=h' }):wpAny (model prog w) A (pyNext (.ref I)) Q E s:=by
 obtain ⟨o,g1,g3,ft⟩:=id hs
 obtain ⟨u,e1,e2,e3⟩:=id hit
 unfold pyNext
 apply LA
 apply OG
 refine MJ (name:=Nb "__next__") hit.type eZ ?_
 refine Mu eZ hit.type oV ?_ (oW _)
 refine LA (LC ?_)
 refine LA (QO e1 e3 ?_)
 dsimp only
 apply LA
 unfold Rw
 apply LA
 apply Nj g1 g3 ft
 apply LC
 rw [if_neg (by simp)]
 apply LA
 refine hx _ _ _ ?_
 dsimp only
 refine LA (Ou e1 e3 (by simp) ?_)
 show wpAny _ _ (newExc (.type "StopIteration") [] >>= _) _ _ _
 apply LA
 simp only [newExc,Ui]
 apply LA
 refine ME ?_ (by size_fits)
 apply LA
 refine P8 (a:=M6) (by rfl) ?_
 refine ME ?_ (by size_fits)
 simp only [raiseNew]
 refine LA (SZ ?_)
 rw [show A.in1.handled=none from calm]
 refine T5 ?_
 apply LA
 refine NP (T:="StopIteration") (b:=true) ?_ PF ?_
 ·exact ⟨_,LL _ rfl,rfl⟩
 ·exact LC (q _ (((MO _ I _).extBut.push _).push _))
theorem G3 {d:Addr} {ps:Array Value} {p:Nat} {x:Int×Value} {Q:Option Value->Shared->Prop} (hit:dG s.heap I a (.ref d) i es.size ep) (hs:SAt s.heap a es ep t) (ht:s.heap.IsTuple d ps) (hp:ps[i]?=some (.int p 0)) (hx:es[p]?=some x)
  (q:∀ h',dG h' I a (.ref d) (i + 1) es.size ep->L8 I s.heap h'->Q (some x.2) { s with heap:=h' }):wpAny (model prog w) A (pyNext (.ref I)) Q E s:=by
 obtain ⟨o,g1,g3,ft⟩:=id hs
 obtain ⟨u,e1,e2,e3⟩:=id hit
 unfold pyNext
 apply LA
 apply OG
 refine MJ (name:=Nb "__next__") hit.type eZ ?_
 refine Mu eZ hit.type oV ?_ (oW _)
 refine LA (LC ?_)
 refine LA (QO e1 e3 ?_)
 dsimp only
 apply LA
 unfold Rw
 apply LA
 apply Nj g1 g3 ft
 apply LC
 rw [if_neg (by simp)]
 obtain ⟨v,f1,f2,n,f3⟩:=id ht
 apply LA
 refine MG f1 f3 ?_
 dsimp only
 rw [show ((i:Int)).toNat=i from rfl,hp]
 dsimp only
 apply LA
 refine Jh hs hx ?_
 refine LA (Ou e1 e3 (by simp) ?_)
 exact LC ⟨_,rfl,LC (q _ hit.step (MO _ I _))⟩
theorem Ji {d:Addr} {ps:Array Value} {Q:Option Value->Shared->Prop} (calm:A.handled=none) (hit:dG s.heap I a (.ref d) i es.size ep) (hs:SAt s.heap a es ep t) (ht:s.heap.IsTuple d ps) (hp:ps[i]?=none)
  (q:∀ h',Pl I s.heap h'->Q none { s with heap:=h' }):wpAny (model prog w) A (pyNext (.ref I)) Q E s:=by
 obtain ⟨o,g1,g3,ft⟩:=id hs
 obtain ⟨u,e1,e2,e3⟩:=id hit
 unfold pyNext
 apply LA
 apply OG
 refine MJ (name:=Nb "__next__") hit.type eZ ?_
 refine Mu eZ hit.type oV ?_ (oW _)
 refine LA (LC ?_)
 refine LA (QO e1 e3 ?_)
 dsimp only
 apply LA
 unfold Rw
 apply LA
 apply Nj g1 g3 ft
 apply LC
 rw [if_neg (by simp)]
 obtain ⟨v,f1,f2,n,f3⟩:=id ht
 apply LA
 refine MG f1 f3 ?_
 dsimp only
 rw [show ((i:Int)).toNat=i from rfl,hp]
 dsimp only
 refine LA (Ou e1 e3 (by simp) ?_)
 have it1:dG (s.heap.update I (Rb (·.setIfInBounds 0 (rawInt 0)))) I a (rawInt 0) i es.size ep:=hit.set
 obtain ⟨u',e1',e2',e3'⟩:=id it1
 refine LA (Ou e1' e3' (by simp) ?_)
 show wpAny _ _ (newExc (.type "StopIteration") [] >>= _) _ _ _
 apply LA
 simp only [newExc,Ui]
 apply LA
 refine ME ?_ (by size_fits)
 apply LA
 refine P8 (a:=M6) (by rfl) ?_
 refine ME ?_ (by size_fits)
 simp only [raiseNew]
 refine LA (SZ ?_)
 rw [show A.in1.handled=none from calm]
 refine T5 ?_
 apply LA
 refine NP (T:="StopIteration") (b:=true) ?_ PF ?_
 ·exact ⟨_,LL _ rfl,rfl⟩
 ·exact LC (q _ ((((MO _ I _).trans (MO _ I _)).extBut.push _).push _))
theorem wX {f:Value} {n:Nat} {Q:Value->Shared->Prop} (hit:dG s.heap I a f i n ep) (q:Q (.ref I) s):wpAny (model prog w) A (pyIter (.ref I)) Q E s:=by
 refine TY hit.type Ce ?_
 refine Mu Ce hit.type GZ ?_ (G0 _)
 show wpAny _ _ (ret (.ref I)) _ _ s
 exact LC ⟨_,rfl,"set_iterator",_,hit.type,eZ.lookup,q⟩
end
end
section
open PySem.Spec
theorem wY {α:Type}:∀ (l:List α) (i:Nat) (h:i < l.length),Ng (l[i] :: l.eraseIdx i) l
 | x :: l,0,_=>.refl _
 | x :: l,i + 1,h=>(Ng.swap x _ _).trans (.cons x (wY l i (Nat.lt_of_succ_lt_succ h)))
theorem Ci {α:Type} (next:Nat->Nat):∀ (fuel k:Nat) (left:List α) (out:Array α),left.length=fuel->Ng (PC.go next fuel k left out).toList (out.toList++left)
 | 0,k,left,out,h=>by
  obtain rfl:=OV.mp h
  rw [NH]
  exact .refl _
 | fuel + 1,k,left,out,h=>by
  have hl:next k % left.length < left.length:=PH _ (by omega)
  show Ng (match left[next k % left.length]? with | some x=>PC.go next fuel (k + 1) (left.eraseIdx (next k % left.length)) (out.push x) | none=>out).toList _
  rw [LD hl]
  refine (Ci next fuel (k + 1) _ _ (by rw [Rc hl,h]; rfl)).trans ?_
  rw [Ro,Rj]
  exact Ng.append_left _ (wY _ _ hl)
theorem qS {α:Type} (next:Nat->Nat) (xs:Array α):Ng (PC next xs).toList xs.toList:=Ci next xs.size 0 xs.toList #[] (by simp)
section
variable {prog:Program} {w:World} {A:Around} {E:Value->Shared->Prop} {s:Shared} {I a:Addr} {es:Array (Int×Value)} {ep:Nat} {t:Ma} {i:Nat}
theorem G4 {src:Source} {n:Nat} {Q:Nat->Shared->Prop} (hn:n≠0) (q:∀ i dr,i < n->Q i { s with drawn:=dr }):wpAny (model prog w) A (choose src n) Q E s:=fun _ _ _=>⟨hn,q _ _ (PH _ (Q0 hn))⟩
theorem yd {α:Type}:∀ (n:Nat) (xs:List α) (s:Shared) (Q:List α->Shared->Prop),xs.length=n->(∀ ys dr,Ng ys xs->Q ys { s with drawn:=dr })->wpAny (model prog w) A (drawOrder n xs) Q E s
 | 0,xs,s,Q,h,q=>by
  obtain rfl:=OV.mp h
  exact LC (q [] s.drawn .nil)
 | n + 1,[],s,Q,h,q=>nomatch h
 | n + 1,x :: xs,s,Q,h,q=>by
  unfold drawOrder
  apply LA
  refine G4 (by simp) fun i dr hi=>?_
  rw [LD hi]
  dsimp only
  apply LA
  refine yd n _ _ _ (by rw [Rc hi,h]; rfl) fun ys dr' p=>?_
  exact LC (q _ _ ((Ng.cons _ p).trans (wY _ _ hi)))
noncomputable abbrev Ord (ord:List (Int×Value)) (i:Nat) (v:Value):Prop:=∃ e,ord[i]?=some e/\e.2=v
theorem Jj (calm:A.handled=none) (b:d2 w=true) (hne:a≠I):
  Walks prog w A I [I,a] [I] es.size (Ord (PC (w.params.setOrder a ep) es).toList) (fun i h=>(∃ slot:Nat,dG h I a (.int slot 0) i es.size ep)/\SAt h a es ep t) where
 sub:=fun b hb=>by
  rw [LG.mp hb]
  exact LK
 frame:=fun i h h' st k=>⟨st.1.elim fun n z=>⟨n,z.at (k I LK)⟩,st.2.at (k a (LQ _ LK))⟩
 item:=fun i s Q E hi st q=>by
  obtain ⟨⟨slot,it⟩,hs⟩:=st
  have len:=(qS (w.params.setOrder a ep) es).length_eq
  have hl:i < (PC (w.params.setOrder a ep) es).size:=by
   rw [<-Mp,len,Mp]
   exact hi
  refine Ch (x:=(PC (w.params.setOrder a ep) es)[i].2) (nx:=slot) it hs (fun A E Q h=>Cf b hs ?_) fun h' it' sb=>?_
  ·rw [NJ hl]
   exact h
  ·refine q _ h' s.toks ⟨_,?_,rfl⟩ ⟨⟨slot,it'⟩,hs.at fun o e=>?_⟩ fun c o hc e=>?_
   ·rw [OC,NJ hl]
   ·exact sb.extBut a o hne e
   ·exact sb.extBut c o (fun z=>hc (by rw [z]; exact LK)) e
 done:=fun s Q E st q=>by
  obtain ⟨⟨slot,it⟩,hs⟩:=st
  have len:=(qS (w.params.setOrder a ep) es).length_eq
  have hl:(PC (w.params.setOrder a ep) es).size<=es.size:=by
   rw [<-Mp,len,Mp]
   exact LH _
  refine Ft calm it hs (fun A E Q h=>Cf b hs ?_) fun h' xb=>q h' s.toks fun c o hc e=>?_
  ·rw [P9 hl]
   exact h
  ·exact xb c o (fun z=>hc (by rw [z]; exact LK)) e
 self:=fun i s Q E st q=>st.1.elim fun n z=>wX z q
noncomputable def tN (t:Ma):Nat->Nat
 | 0=>0
 | j + 1=>t.place.getD j 0 + 1
theorem vj (rs:Rs t.place.toList):∀ i,i<=t.place.size->Mg t.place (tN t i)=i
 | 0,_=>C7 _ rs
 | j + 1,h=>by
  have hj:j < t.place.size:=h
  have hj':j < t.place.toList.length:=by simpa using hj
  have e:tN t (j + 1)=t.place.toList[j] + 1:=by rw [tN,yb _ _ _ hj]
  rw [e]
  exact C6 _ rs hj'
theorem Jk (calm:A.handled=none) (b:d2 w=false) (pl:(!t.plain && decide (es.size > 1))=false) (ld:t.led=true) (rs:Rs t.place.toList) (sz:t.place.size=es.size) (hne:a≠I):
  Walks prog w A I [I,a] [I] es.size (Ord es.toList) (fun i h=>dG h I a (.int (tN t i:Nat) 0) i es.size ep/\SAt h a es ep t) where
 sub:=fun b hb=>by
  rw [LG.mp hb]
  exact LK
 frame:=fun i h h' st k=>⟨st.1.at (k I LK),st.2.at (k a (LQ _ LK))⟩
 item:=fun i s Q E hi st q=>by
  obtain ⟨it,hs⟩:=st
  have hp:i < t.place.size:=by rw [sz]; exact hi
  refine Ch (x:=es[i].2) (nx:=tN t (i + 1)) it hs (fun A E Q h=>Cg b pl ld hs ?_) fun h' it' sb=>?_
  ·rw [vj rs i (MP hp),NJ hi,NJ hp]
   have e:tN t (i + 1)=t.place[i] + 1:=by
    rw [tN,SU,dif_pos hp]
    rfl
   rw [e] at h
   exact h
  ·refine q _ h' s.toks ⟨_,?_,rfl⟩ ⟨it',hs.at fun o e=>?_⟩ fun c o hc e=>?_
   ·rw [OC,NJ hi]
   ·exact sb.extBut a o hne e
   ·exact sb.extBut c o (fun z=>hc (by rw [z]; exact LK)) e
 done:=fun s Q E st q=>by
  obtain ⟨it,hs⟩:=st
  refine Ft calm it hs (fun A E Q h=>Cg b pl ld hs ?_) fun h' xb=>q h' s.toks fun c o hc e=>?_
  ·rw [vj rs es.size (by rw [sz]; exact LH _),P9 (LH _)]
   exact h
  ·exact xb c o (fun z=>hc (by rw [z]; exact LK)) e
 self:=fun i s Q E st q=>wX st.1 q
theorem oI (es:Array (Int×Value)):((LV es.size).map fun p=>es.getD p (0,.none))=es.toList:=by
 apply List.ext_getElem
 ·simp
 ·intro i h1 h2
  have hi:i < es.size:=by simpa using h2
  rw [List.getElem_map,QZ,SU,dif_pos hi]
  simp
theorem Jl (calm:A.handled=none) {d:Addr} {ps:List Nat} (pm:Ng ps (LV es.size)) (hne:a≠I) (hd:d≠I):
  Walks prog w A I [I,a,d] [I] es.size (Ord (ps.map fun p=>es.getD p (0,.none))) (fun i h=>dG h I a (.ref d) i es.size ep/\SAt h a es ep t/\h.IsTuple d (ps.map fun p=>OL (p:Nat) 0).toArray) where
 sub:=fun b hb=>by
  rw [LG.mp hb]
  exact LK
 frame:=fun i h h' st k=>⟨st.1.at (k I LK),st.2.1.at (k a (LQ _ LK)),st.2.2.at (k d (LQ _ (LQ _ LK)))⟩
 item:=fun i s Q E hi st q=>by
  obtain ⟨it,hs,ht⟩:=st
  have len:=pm.length_eq
  rw [MX] at len
  have hl:i < ps.length:=by rw [len]; exact hi
  have lt:ps[i] < es.size:=MZ.mp (pm.mem_iff.mp (Od hl))
  refine G3 (p:=ps[i]) (x:=es[ps[i]]) it hs ht ?_ (NJ lt) fun h' it' sb=>?_
  ·rw [Sz,LU,LD hl]
   rfl
  ·refine q _ h' s.toks ⟨_,?_,rfl⟩ ⟨it',hs.at fun o e=>?_,ht.at fun o e=>?_⟩ fun c o hc e=>?_
   ·rw [LU,LD hl]
    show some (es.getD ps[i] (0,.none))=_
    rw [SU,dif_pos lt]
    rfl
   ·exact sb.extBut a o hne e
   ·exact sb.extBut d o hd e
   ·exact sb.extBut c o (fun z=>hc (by rw [z]; exact LK)) e
 done:=fun s Q E st q=>by
  obtain ⟨it,hs,ht⟩:=st
  have len:=pm.length_eq
  refine Ji calm it hs ht ?_ fun h' xb=>q h' s.toks fun c o hc e=>?_
  ·apply P9
   simp [len]
  ·exact xb c o (fun z=>hc (by rw [z]; exact LK)) e
 self:=fun i s Q E st q=>wX st.1 q
end
end
section
open PySem.Spec
theorem cg.get {α β:Type} {F:α->β->Prop} {l:List α} {m:List β} (h:cg F l m):∀ {i:Nat} {b:β},m[i]?=some b->∃ a,l[i]?=some a/\F a b:=by
 induction h with
 | nil=>intro i b e; cases e
 | cons r _ ih=>
  intro i b e
  cases i with
  | zero=>
   obtain rfl:_=b:=LW e
   exact ⟨_,rfl,r⟩
  | succ i=>exact ih e
section
variable {prog:Program} {w:World} {K:Type} [DecidableEq K] {knd:KeyKind prog w K} {A:Around} {E:Value->Shared->Prop} {s:Shared} {I a:Addr} {es:Array (Int×Value)} {ep:Nat} {t:Ma} {i:Nat}
theorem tO {fp wr:List Addr} {n:Nat} {P P':Nat->Value->Prop} {St:Nat->Heap->Prop} (W:Walks prog w A I fp wr n P St) (f:∀ i v,P i v->P' i v):Walks prog w A I fp wr n P' St where
 sub:=W.sub
 frame:=W.frame
 item:=fun i s Q E hi st q=>W.item i s Q E hi st fun v h' tk pv=>q v h' tk (f i v pv)
 done:=W.done
 self:=W.self
noncomputable abbrev dk (knd:KeyKind prog w K) (ord:List K) (i:Nat) (v:Value):Prop:=∃ k,ord[i]?=some k/\knd.is k v=true
theorem wZ {ks:List K} {l m:List (Int×Value)} (pr:cg (Ent knd) ks m) (p:Ng l m):∃ ord,Ng ord ks/\∀ i v,Ord l i v->dk knd ord i v:=by
 obtain ⟨ord,q,pr'⟩:=cg.perm p.symm pr
 refine ⟨ord,q.symm,fun i v h=>?_⟩
 obtain ⟨e,he,rfl⟩:=h
 obtain ⟨k,hk,r⟩:=pr'.get he
 exact ⟨k,hk,r.1⟩
noncomputable abbrev itO (f:Value) (a:Addr) (n ep:Nat):Obj:={ cls:=.type "set_iterator",data:=.fields #[f,.int (0:Nat) 0,.ref a,.int n 0,.int ep 0] }
theorem Cj {f:Value} {F:Fin->Shared->Prop} (hs:SAt s.heap a es ep t) (q:F (.done (.ret (.ref s.heap.objs.size))) { s with heap:=s.heap.push (itO f a es.size ep) }):
  wpAny (model prog w) A (do ret (<-newFields "set_iterator" [f,rawInt 0,.ref a,rawInt es.size,rawInt (<-setEpoch a)])) F E s:=by
 obtain ⟨o,g1,g3,ft⟩:=hs
 apply LA
 refine wpAny_setEpoch_of g1 g3 ft ?_
 apply LA
 unfold newFields
 refine ME ?_
 exact LC q
theorem G5 {ks:List K} {Q:Value->Shared->Prop} (calm:A.handled=none) (r:dz knd s.heap a ks (!d2 w))
  (q:∀ (I:Addr) (h':Heap) (dr) (fp:List Addr) (St:Nat->Heap->Prop) (ord:List K),Ng ord ks->Walks prog w A I fp [I] ks.length (dk knd ord) St->St 0 h'->(∀ b∈fp,b < h'.objs.size)->(∀ b∈fp,b=a\/s.heap.objs.size<=b)->s.heap.objs.size<=I->I∈fp->(∀ b o,s.heap.get? b=some o->h'.get? b=some o)->Q (.ref I) { s with heap:=h',drawn:=dr }):
  wpAny (model prog w) A (pyIter (.ref a)) Q E s:=by
 obtain ⟨o,es,ep,t,g1,g2,g3,pr,nd,sb,ft,rs,ld⟩:=id r
 have hs:SAt s.heap a es ep t:=⟨o,g1,g3,ft⟩
 have ty:s.TypeIs (.ref a) "set":=⟨o,g1,g2.1⟩
 have len:es.size=ks.length:=by rw [pr.len,Mp]
 have lt:a < s.heap.objs.size:=LM g1
 rw [<-len] at q
 have sz:t.place.size=es.size:=by
  simp only [Ma.fits,Nc,beq_iff_eq] at ft
  exact ft.1
 refine TY ty SA ?_
 refine Mu SA ty Jg ?_ (PySem.F.args_set_iter_1 _)
 unfold Builtin.«frozenset.__iter__»
 refine LA (LC ?_)
 apply LA
 unfold Builtin.Frozenset.sizeOf
 apply LA
 unfold Rw
 apply LA
 apply Nj g1 g3 ft
 apply LC
 apply LC
 apply LA
 unfold setDrawn
 apply LA
 apply Nj g1 g3 ft
 dsimp only
 apply LA
 apply rR
 apply LC
 show wpAny _ _ (if (!d2 w && (!t.plain && decide (es.size > 1)))=true then _ else _) _ _ _
 by_cases c:(!d2 w && (!t.plain && decide (es.size > 1)))=true
 ·rw [if_pos c]
  apply LA
  refine yd _ _ _ _ MX fun ps dr pm=>?_
  apply LA
  refine Sr ?_ (by rw [LF,pm.length_eq,MX]; exact Mq (MP sb) (by decide))
  have pz:=MF s.heap { cls:=.type "tuple",data:=.seq (ps.map fun (i:Nat)=>rawInt i).toArray }
  have hs1:=hs.at (h':=s.heap.push { cls:=.type "tuple",data:=.seq (ps.map fun (i:Nat)=>rawInt i).toArray }) fun o e=>LB _ e
  have tu:(s.heap.push { cls:=.type "tuple",data:=.seq (ps.map fun (i:Nat)=>rawInt i).toArray }).IsTuple s.heap.objs.size (ps.map fun p=>OL (p:Nat) 0).toArray:=⟨_,LL _ rfl,rfl,0,rfl⟩
  have kp0:∀ b o,s.heap.get? b=some o->(s.heap.push { cls:=.type "tuple",data:=.seq (ps.map fun (i:Nat)=>rawInt i).toArray }).get? b=some o:=fun b o e=>LB _ e
  generalize s.heap.push { cls:=.type "tuple",data:=.seq (ps.map fun (i:Nat)=>rawInt i).toArray }=hp at *
  have lt1:a < hp.objs.size:=by rw [pz]; exact Nh lt
  have kp:∀ b o,s.heap.get? b=some o->hp.get? b=some o:=kp0
  refine Cj (s:={ s with drawn:=dr,heap:=hp }) hs1 ⟨_,rfl,"set_iterator",_,⟨_,LL _ rfl,rfl⟩,eZ.lookup,?_⟩
  obtain ⟨ord,p1,p2⟩:=wZ pr (l:=ps.map fun p=>es.getD p (0,.none)) (by rw [<-oI es]; exact pm.map _)
  refine q hp.objs.size _ dr [hp.objs.size,a,s.heap.objs.size] _ ord p1 (tO (Jl (A:=A) (es:=es) (ep:=ep) (t:=t) calm pm (Mn lt1) (d:=s.heap.objs.size) (Mn (by rw [pz]; exact Nt _))) p2) ⟨⟨_,LL _ rfl,rfl,rfl⟩,hs1.at fun o e=>LB _ e,tu.push _⟩ (fun b hb=>?_) (fun b hb=>?_) (by rw [pz]; exact OM _) LK fun b o e=>LB _ (kp b o e)
  ·rw [MF]
   rcases LI.mp hb with e | hb
   ·rw [e]
    exact Nt _
   ·rcases LI.mp hb with e | hb
    ·rw [e]
     exact Nh lt1
    ·rw [LG.mp hb,pz]
     exact Nh (Nt _)
  ·rcases LI.mp hb with e | hb
   ·exact .inr (by rw [e,pz]; exact OM _)
   ·rcases LI.mp hb with e | hb
    ·exact .inl e
    ·exact .inr (by rw [LG.mp hb]; exact LH _)
 ·rw [if_neg c]
  apply LA
  apply LC
  refine Cj hs ⟨_,rfl,"set_iterator",_,⟨_,LL _ rfl,rfl⟩,eZ.lookup,?_⟩
  have it0:dG (s.heap.push (itO (rawInt 0) a es.size ep)) s.heap.objs.size a (.int (0:Nat) 0) 0 es.size ep:=⟨_,LL _ rfl,rfl,rfl⟩
  have hs0:SAt (s.heap.push (itO (rawInt 0) a es.size ep)) a es ep t:=hs.at fun o e=>LB _ e
  have inb:∀ b∈[s.heap.objs.size,a],b < (s.heap.push (itO (rawInt 0) a es.size ep)).objs.size:=fun b hb=>by
   rw [MF]
   rcases LI.mp hb with e | hb
   ·rw [e]
    exact Nt _
   ·rw [LG.mp hb]
    exact Nh lt
  have out:∀ b∈[s.heap.objs.size,a],b=a\/s.heap.objs.size<=b:=fun b hb=>by
   rcases LI.mp hb with e | hb
   ·exact .inr (by rw [e]; exact LH _)
   ·exact .inl (LG.mp hb)
  cases b:d2 w with
  | true=>
   obtain ⟨ord,p1,p2⟩:=wZ pr (qS (w.params.setOrder a ep) es)
   refine q s.heap.objs.size _ s.drawn _ _ ord p1 (tO (Jj (A:=A) (es:=es) (ep:=ep) (t:=t) calm b (Mn lt)) p2) ⟨⟨0,it0⟩,hs0⟩ inb out (LH _) LK fun b o e=>LB _ e
  | false=>
   have pl:(!t.plain && decide (es.size > 1))=false:=by
    rw [b] at c
    simpa using c
   have l1:t.led=true:=by rw [ld,b]; rfl
   obtain ⟨ord,p1,p2⟩:=wZ pr (Ng.refl es.toList)
   refine q s.heap.objs.size _ s.drawn _ _ ord p1 (tO (Jk (A:=A) (es:=es) (ep:=ep) (t:=t) calm b pl l1 rs sz (Mn lt)) p2) ⟨it0,hs0⟩ inb out (LH _) LK fun b o e=>LB _ e
end
end
section
open PySem.Spec PySem.W
section
variable {prog:Program} {w:World} {K:Type} [DecidableEq K] {knd:KeyKind prog w K} {A:Around} {E:Value->Shared->Prop} {s:Shared} {a:Addr}
theorem G6 {Q:Bool->Shared->Prop} (ty:s.TypeIs (.ref a) "set") (q:Q false s):wpAny (model prog w) A (Oz (.ref a)) Q E s:=by
 unfold Oz
 apply LA
 refine Np ty PySem.F.slot_set_len.lookup ?_
 generalize hid:("set.__len__":String)=nm
 wp_delta
 rw [show splitId nm=some ("set","__len__") from by subst hid; decide +kernel]
 subst hid
 apply LA
 refine NP (T:="set") (b:=true) ty (by rw [Sx]; kernel_rfl) ?_
 refine R7 (fun z=>absurd z (by decide)) fun _=>?_
 refine R7 (fun _=>?_) fun z=>absurd (by decide +kernel) z
 apply LA
 refine Qp ty ?_
 exact LC q
theorem dz.type {ks:List K} {led:Bool} (r:dz knd s.heap a ks led):s.TypeIs (.ref a) "set":=by
 obtain ⟨o,es,ep,t,g1,g2,_⟩:=r
 exact ⟨o,g1,g2.1⟩
theorem dz.small {h:Heap} {ks:List K} {led:Bool} (r:dz knd h a ks led):ks.length < PB:=by
 obtain ⟨o,es,ep,t,g1,g2,g3,pr,nd,sb,_⟩:=r
 rw [pr.len,Mp]
 exact sb
theorem C9 {ks:List K} {R:Result->Shared->Prop} (calm:A.handled=none) (r:dz knd s.heap a ks (!d2 w)) (S:Addr) (ne:S≠a) (hS:s.heap.get? S=some { cls:=.type "list",data:=.seq #[] })
  (q:∀ (s':Shared) h' dr tk ord acc c,s'={ s with heap:=h',drawn:=dr,toks:=tk }->Ng ord ks->(∀ b o,b≠S->s.heap.get? b=some o->h'.get? b=some o)->h'.get? S=some { cls:=.type "list",dict:=none,data:=.seq acc c,slots:=#[] }->ItemsOf (dk knd ord) acc ks.length->R (.ok (.ret (.ref S))) s'):
  wpAny (model prog w) A.in1 (MY (.ref S) (.ref a) (.ref S)) (fun fin s'=>match fin with | .done f=>R (.ok f) s' | .again c'=>c'.quiet=true/\codeAny (model prog w) A c' R s') (fun e s'=>R (.error e) s') s:=by
 have hn:ks.length<=LS:=Mq (MP r.small) (by decide)
 unfold MY
 apply LA
 refine Qp (T:="set") r.type ?_
 have h1:OT (.ref S) (.ref a)=false:=by simp [OT,ne]
 have h2:(M7 "set" == M7 "list")=false:=by decide
 have h3:(M7 "set" == M7 "tuple")=false:=by decide
 simp only [h1,h2,h3,Bool.or_false,MM,if_false]
 apply LA
 refine G5 (A:=A.in1) calm r fun I h' dr fp St ord pm W st inb out ge Ifp kp=>?_
 have hS1:=kp _ _ hS
 have lS:S < s.heap.objs.size:=LM hS
 have r1:dz knd h' a ks (!d2 w):=r.at fun o e=>kp a o e
 have nS:S∉fp:=fun hm=>by
  rcases out S hm with z | z
  ·exact ne z
  ·exact absurd lS (Ru.mpr z)
 have loop:∀ (h2:Heap) (c:Nat),(∀ b o,b≠S->h'.get? b=some o->h2.get? b=some o)->h2.get? S=some { cls:=.type "list",dict:=none,data:=.seq #[] c,slots:=#[] }->codeAny (model prog w) A (.builtin "list.extend.loop" ⟨[.ref S,.ref I,.ref S],[]⟩) R { s with heap:=h2,drawn:=dr }:=fun h2 c k2 e2=>by
  refine codeAny_extend_loopS W.toS hn S nS (.ref S) ks.length 0 _ #[] c rfl (MI _) (W.frame 0 _ _ st fun b hb o e=>k2 b o (fun z=>nS (z ▸ hb)) e) e2 (ItemsOf.nil _) fun s' acc c' mv e3 it=>?_
  rw [Moved.eq_with mv]
  refine q _ s'.heap dr s'.toks ord acc c' rfl pm (fun b o hb e=>mv.heap b o (fun hm=>?_) (k2 b o hb (kp b o e))) e3 it
  rcases LI.mp hm with z | hm
  ·exact hb z
  ·rw [LG.mp hm] at e
   exact absurd (LM e) (Ru.mpr ge)
 apply LA
 apply MR
 refine G6 (s:={ s with heap:=h',drawn:=dr }) r1.type ?_
 refine R7 (fun _=>?_) fun _=>?_
 ·apply LA
  apply NY
  apply LA
  show wpAny _ _ (PD S (·.push .none) >>= fun _=>PD S (·.pop)) _ _ _
  apply LA
  refine N6 hS1 rfl ?_
  have hS2:=Mw (M8 (·.push M6)) hS1 rfl
  refine N6 (hz:=by seq_fits) hS2 rfl ?_
  have hS3:=Mw (M8 (·.pop)) hS2 rfl
  refine LC ⟨Nm NK _,loop _ _ (fun b o hb e=>?_) hS3⟩
  rw [Mz _ _ (Na hb),Mz _ _ (Na hb)]
  exact e
 ·exact LC ⟨Nm NK _,loop _ _ (fun b o hb e=>e) hS1⟩
theorem Bz {ks:List K} {R:List Value->Shared->Prop} (calm:A.handled=none) (r:dz knd s.heap a ks (!d2 w))
  (q:∀ h' dr tk ord (acc:Array Value),Ng ord ks->(∀ b o,s.heap.get? b=some o->h'.get? b=some o)->s.heap.objs.size < h'.objs.size->ItemsOf (dk knd ord) acc ks.length->R acc.toList { s with heap:=h',drawn:=dr,toks:=tk }):
  wpAny (model prog w) A (collect (.ref a)) R E s:=by
 have lt:a < s.heap.objs.size:=by
  obtain ⟨o,es,ep,t,g1,_⟩:=r
  exact LM g1
 unfold collect
 apply LA
 apply Sw
 apply MT entry_proto_collect'
 rw [MC PySem.F.plain_proto_collect _]
 show wpAny _ A.in1 (newList [] >>= fun l=>again (.builtin "list.__iadd__" ⟨[l,.ref a],[]⟩)) _ _ s
 apply LA
 refine ME ?_
 refine LC ⟨Nm RQ _,?_⟩
 apply MT entry_list_iadd'
 rw [MC RQ _]
 show wpAny _ A.in1 (MY (.ref s.heap.objs.size) (.ref a) (.ref s.heap.objs.size)) _ _ _
 have key:=C9 (A:=A) (s:={ s with heap:=s.heap.push { cls:=.type "list",data:=.seq ([]:List Value).toArray } })
  (R:=fun (u:Result) (s':Shared)=>∃ h' dr tk ord acc c,u=.ok (.ret (.ref s.heap.objs.size))/\s'={ s with heap:=h',drawn:=dr,toks:=tk }/\Ng ord ks/\(∀ b o,s.heap.get? b=some o->h'.get? b=some o)/\
   h'.get? s.heap.objs.size=some { cls:=.type "list",dict:=none,data:=.seq acc c,slots:=#[] }/\ItemsOf (dk knd ord) acc ks.length)
  calm (r.at fun o e=>LB _ e) s.heap.objs.size (N9 lt) (LL _ rfl)
  fun s' h' dr tk ord acc c e pm kp e3 it=>⟨h',dr,tk,ord,acc,c,rfl,e,pm,fun b o eb=>kp b o (Mn (LM eb)) (LB _ eb),e3,it⟩
 refine Nx key (fun fin s' x=>?_) fun e s' x=>?_
 ·cases fin with
  | done f=>
   obtain ⟨h',dr,tk,ord,acc,c,e,rfl,pm,kp,e3,it⟩:=x
   cases e
   show wpAny _ A (load s.heap.objs.size >>= _) _ _ _
   apply LA
   refine SF e3 ?_
   exact LC (q h' dr tk ord acc pm kp (LM e3) it)
  | again c1=>
   refine ⟨x.1,OP x.2 fun u s2 y=>?_⟩
   obtain ⟨h',dr,tk,ord,acc,c,rfl,rfl,pm,kp,e3,it⟩:=y
   show wpAny _ A (load s.heap.objs.size >>= _) _ _ _
   apply LA
   refine SF e3 ?_
   exact LC (q h' dr tk ord acc pm kp (LM e3) it)
 ·obtain ⟨h',dr,tk,ord,acc,c,e',_⟩:=x
  cases e'
end
end
section
open PySem.Spec
section
variable {X:Cx}
theorem Fu:OpR X (NC .Is) wM:=by
 intro pins s σ H x y v u Q I rx ry h
 obtain ⟨rfl,q⟩:=h
 cases ry
 refine wpAny_is_plain (by cases x <;> (first | (obtain ⟨t,rfl⟩:=rx; rfl) | (cases rx; rfl))) ⟨.bl (isN x),H,I,?_,q⟩
 cases x <;> (first | (obtain ⟨t,rfl⟩:=rx; rfl) | (cases rx; rfl))
end
end
section
open PySem.Spec
section
variable {prog:Program} {w:World} {A:Around} {R:Result->Shared->Prop} {I:Addr} {fp wr:List Addr} {n:Nat} {P:Nat->Value->Prop} {St:Nat->Heap->Prop} {kw:List (Str×Value)}
theorem Fv (W:Walks prog w A.in1 I fp wr n P St) (S:Addr) (hSf:S∉fp) (hn:n=0) {s:Shared} {c:Nat} {k:Str} {d:Value} (hst:St 0 s.heap) (hS:s.heap.get? S=some ⟨.type "list",none,.seq #[] c,#[]⟩)
  (hR:∀ h' tk,(∀ b o,b∉wr->b≠S->s.heap.get? b=some o->h'.get? b=some o)->R (.ok (.ret d)) { s with heap:=h',toks:=tk }):
  codeAny (model prog w) A (.builtin "min.loop" ⟨[.ref I,.none,.ref S],[(k,d)]⟩) R s:=by
 have hSw:S∉wr:=fun h=>hSf (W.sub _ h)
 refine MT O3 ?_
 rw [MC M9 _]
 (show wpAny _ A.in1 (QV (.ref S) >>= _) _ _ s); refine LA (MG hS rfl ?_)
 (show wpAny _ A.in1 (tryCatch (pyNext (.ref I)) _ >>= _) _ _ s)
 refine LA (PL (W.done s _ _ (hn ▸ hst) fun h' tk hk'=>?_))
 refine LA (NY (LC ?_))
 exact hR _ _ fun b o hb hbS e=>hk' b o hb e
theorem Fw (W:Walks prog w A.in1 I fp wr n P St) (bt:Nat->Nat->Bool) (hcmp:CmpOf prog w A.in1 .Lt P bt) (S:Addr) (hSf:S∉fp):
  ∀ (k j:Nat) (s:Shared) (vb:Value) (c:Nat),n - (j + 1)=k->j + 1<=n->St (j + 1) s.heap->P (argBest bt j) vb->s.heap.get? S=some ⟨.type "list",none,.seq #[vb,vb] c,#[]⟩->
  (∀ v h' tk,P (argBest bt (n - 1)) v->(∀ b o,b∉wr->b≠S->s.heap.get? b=some o->h'.get? b=some o)->R (.ok (.ret v)) { s with heap:=h',toks:=tk })->
  codeAny (model prog w) A (.builtin "min.loop" ⟨[.ref I,.none,.ref S],kw⟩) R s:=by
 have hSw:S∉wr:=fun h=>hSf (W.sub _ h)
 have nm:(toString "min"++toString ".loop":String)="min.loop":=by decide
 intro k
 induction k with
 | zero=>
  intro j s vb c hk hj hst hPb hS hR
  have hin:j + 1=n:=by omega
  refine MT O3 ?_
  rw [MC M9 _]
  (show wpAny _ A.in1 (QV (.ref S) >>= _) _ _ s); refine LA (MG hS rfl ?_)
  (show wpAny _ A.in1 (tryCatch (pyNext (.ref I)) _ >>= _) _ _ s)
  refine (LA (PL (W.done s _ _ (hin ▸ hst) fun h' tk hk'=>?_)))
  have hT:=hk' S _ hSw hS
  (show wpAny _ A.in1 (PD S (fun _=>#[]) >>= _) _ _ _); refine LA ?_
  refine (N6 hT rfl (LA (O1 (LC ?_))))
  exact hR vb _ tk (by rw [<-hin]; exact hPb) fun b o hbw hbS e=>(Mz _ _ (Na hbS)).trans (hk' b o hbw e)
 | succ k ih=>
  intro j s vb c hk hj hst hPb hS hR
  have hlt:j + 1 < n:=by omega
  refine MT O3 ?_
  rw [MC M9 _]
  (show wpAny _ A.in1 (QV (.ref S) >>= _) _ _ s); refine LA (MG hS rfl ?_)
  (show wpAny _ A.in1 (tryCatch (pyNext (.ref I)) _ >>= _) _ _ s)
  refine (LA (PL (W.item (j + 1) s _ _ hlt hst fun v h' tk hP hst' hk'=>?_)))
  have hT:=hk' S _ hSw hS
  (show wpAny _ A.in1 (tryCatch (holding [v,v] (richCompare .Lt v vb >>= _)) _ >>= _) _ _ _)
  refine (LA (PL (MR (LA (hcmp (j + 1) (argBest bt j) v vb _ _ _ hP hPb ?_)))))
  refine (LA (MR (NB ?_))); refine (LA (O1 (LC ?_)))
  cases hb:bt (j + 1) (argBest bt j) with
  | true=>
   simp only [if_true]
   refine LA ?_
   refine (N6 hT rfl (LA (O1 ?_)))
   rw [nm]
   refine LC ⟨Nm M9 _,ih (j + 1) _ v _ (by omega) hlt (W.frame _ _ _ hst' fun b hbf o e=>?_) (by (simp only [argBest,hb,if_true]); exact hP) (Mw _ hT rfl) fun v' h'' tk'' hP' hk''=>?_⟩
   ·exact (Mz _ _ (fun z:S=b=>hSf (by rw [z]; exact hbf))).trans e
   ·exact hR v' h'' tk'' hP' fun b o hbw hbS e=>hk'' b o hbw hbS ((Mz _ _ (Na hbS)).trans (hk' b o hbw e))
  | false=>
   simp only [MM,if_false]
   refine LA (O1 ?_)
   rw [nm]
   refine LC ⟨Nm M9 _,ih (j + 1) _ vb c (by omega) hlt hst' (by (simp only [argBest,hb,MM,if_false]); exact hPb) hT fun v' h'' tk'' hP' hk''=>?_⟩
   exact hR v' h'' tk'' hP' fun b o hbw hbS e=>hk'' b o hbw hbS (hk' b o hbw e)
theorem Da (W:Walks prog w A.in1 I fp wr n P St) (bt:Nat->Nat->Bool) (hcmp:CmpOf prog w A.in1 .Lt P bt) (S:Addr) (hSf:S∉fp) (hn:0 < n) {s:Shared} {c:Nat} (hst:St 0 s.heap) (hS:s.heap.get? S=some ⟨.type "list",none,.seq #[] c,#[]⟩)
  (hR:∀ v h' tk,P (argBest bt (n - 1)) v->(∀ b o,b∉wr->b≠S->s.heap.get? b=some o->h'.get? b=some o)->R (.ok (.ret v)) { s with heap:=h',toks:=tk }):
  codeAny (model prog w) A (.builtin "min.loop" ⟨[.ref I,.none,.ref S],kw⟩) R s:=by
 have hSw:S∉wr:=fun h=>hSf (W.sub _ h)
 have nm:(toString "min"++toString ".loop":String)="min.loop":=by decide
 refine MT O3 ?_
 rw [MC M9 _]
 (show wpAny _ A.in1 (QV (.ref S) >>= _) _ _ s); refine LA (MG hS rfl ?_)
 (show wpAny _ A.in1 (tryCatch (pyNext (.ref I)) _ >>= _) _ _ s)
 refine (LA (PL (W.item 0 s _ _ hn hst fun v h' tk hP hst' hk'=>?_)))
 have hT:=hk' S _ hSw hS
 (show wpAny _ A.in1 (PD S (fun _=>#[v,v]) >>= _) _ _ _); refine LA ?_
 refine (N6 hT rfl ?_)
 rw [nm]
 refine LC ⟨Nm M9 _,Fw W bt hcmp S hSf _ 0 _ v _ rfl hn (W.frame _ _ _ hst' fun b hbf o e=>?_) hP (Mw _ hT rfl) fun v' h'' tk'' hP' hk''=>?_⟩
 ·exact (Mz _ _ (fun z:S=b=>hSf (by rw [z]; exact hbf))).trans e
 ·exact hR v' h'' tk'' hP' fun b o hbw hbS e=>hk'' b o hbw hbS ((Mz _ _ (Na hbS)).trans (hk' b o hbw e))
end
end
section
open PySem.Spec
section
variable {prog:Program} {w:World} {A:Around} {E:Value->Shared->Prop} {s:Shared}
theorem Fx (a v:Value):argsOk "min" ⟨[a],[(Nb "default",v)]⟩:=by unfold argsOk; kernel_rfl
theorem Fy {l:Addr} {zs:Array (Int×Tok)} {Q:Value->Shared->Prop} (hh:A.handled=none) (hl:s.heap.IsList l (Qe zs))
  (h0:zs.size=0->∀ h' tk,(∀ b o,s.heap.get? b=some o->h'.get? b=some o)->Q .none { s with heap:=h',toks:=tk })
  (h:0 < zs.size->∀ v h' tk,(Qe zs)[argBest (fun i j=>decide (numAt zs i < numAt zs j)) (zs.size - 1)]?=some v->(∀ b o,s.heap.get? b=some o->h'.get? b=some o)->Q v { s with heap:=h',toks:=tk }):
  wpAny (model prog w) A (call (.builtin "min") [.ref l] [(Nb "default",.none)]) Q E s:=by
 have nm:(toString "min"++toString ".loop":String)="min.loop":=by decide
 refine PyProof.Rows.kmb_tree PySem.F.kind_min PySem.F.plain_min PySem.F.entry_min (Fx _ _) ?_
 (show wpAny _ A.in1 (Q1 "min" ["key","default"] 0 ⟨[],[(Nb "default",.none)]⟩ >>= _) _ _ s)
 refine LA (P8 (show Q1 "min" ["key","default"] 0 ⟨[],[(Nb "default",.none)]⟩=pure [none,some .none] from rfl) ?_)
 refine LA (LC ?_)
 refine LA (iter_intList hl fun s₂ e st hfp hlI=>?_)
 subst e
 refine LA (ME ?_)
 have hW:=SN (A:=A.in1) (prog:=prog) (w:=w) hh s.heap.objs.size l hlI (Qe zs)
 rw [nm]
 by_cases hz:zs.size=0
 ·refine LC ⟨Nm M9 _,Fv hW _ (fun hm=>MV _ (hfp _ hm)) (by simpa [Qe] using hz) (hW.frame _ _ _ st fun b _ o e=>LB _ e) (LL _ rfl) fun h' tk hk=>?_⟩
  refine h0 hz _ _ (old_kept (l:=l) fun b o hb e=>?_)
  exact hk b o hb (fun z=>MV _ (z ▸ LM e)) (LB _ e)
 ·refine LC ⟨Nm M9 _,Da hW _ (CmpOf.ints_lt (numAt zs) (fun _ _=>T7)) _ (fun hm=>MV _ (hfp _ hm)) (by simpa [Qe] using Q0 hz) (hW.frame _ _ _ st fun b _ o e=>LB _ e) (LL _ rfl) fun v h' tk hP hk=>?_⟩
  refine h (Q0 hz) v _ _ (by simpa [Qe] using hP) (old_kept (l:=l) fun b o hb e=>?_)
  exact hk b o hb (fun z=>MV _ (z ▸ LM e)) (LB _ e)
end
end
section
open PySem.Spec
section
variable {X:Cx}
theorem Jm {e:Expr} {p pos kp kp2:Pos} {j:Nat} {t:TA} (hc:X.calm=true) (hm:X.mg "min"=none) (ha:PA X [e] t) (hg:Gl X "min":=by rfl)
  (he:backTo pos (L9 [e] X.env)=(false,eval e X.env) :: backTo pos (L9 [] X.env):=by rfl) (hpl:(backTo pos (L9 [e] X.env)).any (·.1)=false:=by rfl):
  PE X (.Call (.Name "min" p) [e] [⟨some "default",.Constant .none j kp2,kp⟩] pos) (zc X.K t):=by
 intro pins s σ H Q I h
 refine NL (gb I hg hm boot_min ?_ (by decide) (by decide))
 refine PyProof.Rows.callWith_kw (thn (ha pos pins s σ H _ I h) fun us s1 ⟨vs,H1,I1,r1,q1⟩=>?_) he hpl
 obtain ⟨l,ns,rfl,hq,h0,h1⟩:=q1
 obtain ⟨u,rfl,rx⟩:=r1.one
 cases rx
 refine thn ((Ih ug JH) pos pins s1 σ H1 (fun zs H2=>zs=[.non]/\H2=H1) I1 ⟨rfl,rfl⟩) fun ws s2 ⟨zs,H2,I2,rz,ez,eH⟩=>?_
 subst ez eH
 obtain ⟨wv,rfl,rw'⟩:=rz.one
 cases rw'
 obtain ⟨its,rv,pl,hz⟩:=I2.list hq
 have hi:=kF rv
 obtain ⟨zs,ez⟩:=(hi.allInts).items
 have hl:s2.heap.IsList l (Qe zs):=by rw [<-ez]; exact pl.isList
 have hnum:zs.toList.map (·.1)=ns:=by rw [<-nums_intItems,<-ez]; exact hi.numsOf
 have hsz:zs.size=ns.length:=by rw [<-hnum]; simp
 refine Fy (I.ok.hd hc) hl (fun hz h' tk hk=>⟨.non,H2,I2.kept hk,rfl,h0 (List.eq_nil_of_length_eq_zero (by omega))⟩) fun hpos v h' tk hv hk=>?_
 obtain ⟨t,rfl⟩:=T7 hv
 obtain ⟨b1,b2⟩:=argBest_lt (numAt zs) (zs.size - 1)
 refine ⟨.int _,H2,I2.kept hk,⟨t,rfl⟩,h1 _ ?_ fun a ha=>?_⟩
 ·rw [Uo,hnum]
  exact getD_mem (by omega)
 ·rw [<-hnum] at ha
  obtain ⟨j,hj,rfl⟩:=mem_getD ha
  rw [LF,Mp] at hj
  rw [<-Uo]
  exact b2 j (by omega)
end
end
section
open PySem.Calls
section
variable {X:Cx}
end
end
section
open PySem.Spec PySem.Calls
section
variable {prog:Program} {w:World} {A:Around} {E:Value->Shared->Prop} {s:Shared} {a:Addr}
theorem ye:∀ {ord:List Int} {l:List Value},l.length=ord.length->(∀ i v,l[i]?=some v->dk (intKind prog w) ord i v)->IntsAre l ord
 | [],[],_,_=>.nil
 | [],_ :: _,h,_=>nomatch h
 | _ :: _,[],h,_=>nomatch h
 | k :: ord,v :: l,h,t=>by
  obtain ⟨k',hk,hv⟩:=t 0 v rfl
  obtain rfl:k=k':=LW hk
  obtain ⟨tk,rfl⟩:=Tx hv
  exact .cons k tk (ye (Nat.succ.inj h) fun i u hu=>t (i + 1) u hu)
theorem Db {ks:List Int} {Q:Value->Shared->Prop} (calm:A.handled=none) (r:dz (intKind prog w) s.heap a ks (!d2 w)) (h64:ks.length < 64)
  (q:∀ (p:Addr) (h':Heap) (dr) (tk:Nat) (out:Array Value) (e:Nat) (ms:List Int),(∀ b o,s.heap.get? b=some o->h'.get? b=some o)->s.heap.objs.size<=p->h'.get? p=some (seqObj "list" out e)->IntsAre out.toList ms->ms.Perm ks->ms.Pairwise (·<=·)->Q (.ref p) { s with heap:=h',drawn:=dr,toks:=tk }):
  wpAny (model prog w) A (call (.builtin "sorted") [.ref a]) Q E s:=by
 refine call_function_entry kind_sorted plain_sorted entry_sorted (args_sorted1 _) ?_
 unfold Builtin.«sorted»
 refine LA (m:=checkCount "sorted" 1 1 _) (LC ?_)
 apply LA
 refine Bz (A:=A.in1) calm r fun h' dr tk ord acc pm kp gt it=>?_
 have len:acc.toList.length=ks.length:=by rw [Mp]; exact it.1
 have ia:IntsAre acc.toList ord:=ye (by rw [len,pm.length_eq]) fun i v e=>it.2 i v (by rw [<-OC]; exact e)
 apply LA
 refine wpAny_newList ?_ (by rw [len]; exact Mq (MP h64) (by decide))
 have hoL:(h'.push (seqObj "list" acc.toList.toArray 0)).get? h'.objs.size=some (seqObj "list" acc.toList.toArray 0):=LL _ rfl
 have ge:s.heap.objs.size<=h'.objs.size:=MP gt
 apply LA
 apply MR
 refine Mu slot_list_sort ⟨_,hoL,rfl⟩ entry_list_sort ?_ (args_list_sort _)
 refine list_sort_tree hoL ia (by rw [len]; exact h64) fun out ms a1 a2 a3=>⟨_,rfl,?_⟩
 obtain ⟨e,he⟩:=sortedHeap_at (n:=0) (vs:=acc.toList) (out:=out) hoL
 refine LC ⟨_,rfl,q _ _ dr tk out e ms (fun b o eb=>?_) ge he a1 (a2.trans pm) a3⟩
 have hb:=LM eb
 rw [sortedHeap_old (Mn (Mb hb ge)) (by rw [size_push']; exact Nh (Mb hb ge))]
 exact LB _ (kp b o eb)
end
section
variable {X:Cx}
theorem Inv.drew {pins:List (Addr×Obj)} {σ:St} {H:Hp} {s:Shared} (I:Inv X pins σ H s) (dr):Inv X pins σ H { s with drawn:=dr }:=by
 cases I
 constructor <;> assumption
end
end
section
open PySem.Spec PySem.Calls
theorem Ck:∀ {l:List Value} {ns:List Int} {i:Nat} {v:Value},IntsAre l ns->l[i]?=some v->∃ t,v=.int (ns.getD i 0) t
 | _,_,_,_,.nil,e=>nomatch e
 | _,_,0,_,.cons n t _,e=>⟨t,(LW e).symm⟩
 | _,_,i + 1,_,.cons n t h,e=>by
  obtain ⟨t',e'⟩:=Ck (i:=i) h e
  exact ⟨t',e'⟩
section
variable {X:Cx}
theorem Dc {e:Expr} {p p2 pos pos2:Pos} {t:TA} (hc:X.calm=true) (hm:X.mg "sorted"=none) (hm2:X.mg "set"=none) (ha:PA X [e] t) (hg:Gl X "sorted":=by rfl) (hg2:Gl X "set":=by rfl)
  (he:L9 [e] X.env=(false,eval e X.env) :: L9 [] X.env:=by rfl) (hpl:(backTo pos2 (L9 [] X.env)).any (·.1)=false:=by rfl)
  (he1:L9 [.Call (.Name "set" p2) [e] [] pos2] X.env=(false,eval (.Call (.Name "set" p2) [e] [] pos2) X.env) :: L9 [] X.env:=by rfl) (hpl1:(backTo pos (L9 [] X.env)).any (·.1)=false:=by rfl):
  PE X (.Call (.Name "sorted" p) [.Call (.Name "set" p2) [e] [] pos2] [] pos) (tJ X.K t):=by
 intro pins s σ H Q I h
 refine NL (gb I hg hm boot_sorted ?_ (by decide) (by decide))
 refine Qo ?_ he1 hpl1
 rw [he1]
 show wpAny _ _ (spliced ((false,eval (.Call (.Name "set" p2) [e] [] pos2) X.env) :: backTo pos (L9 [] X.env))) _ _ s
 refine QS ?_
 refine NL (gb I hg2 hm2 boot_set ?_ (by decide) (by decide))
 refine Nf (thn (ha pos2 pins s σ H _ I h) fun us s1 ⟨vs,H1,I1,r1,q1⟩=>?_) he hpl
 obtain ⟨l,ns,rfl,hq,hl,q⟩:=q1
 obtain ⟨u,rfl,rx⟩:=r1.one
 cases rx
 obtain ⟨its,rv,pl,hz⟩:=I1.list hq
 have hi:=kF rv
 have hlen:its.length=ns.length:=by have:=rv.length; rw [LF] at this; omega
 have calm:X.A.handled=none:=I.ok.hd hc
 refine Jf (knd:=intKind X.prog X.w) (fun i=>ns.getD i 0) calm pl.isList (fun i v hv=>?_) (by rw [L5,hlen]; exact OX (Nat.succ_le_of_lt hl) (by decide)) fun h' tk ks r mem kp=>?_
 ·rw [Sz] at hv
  obtain ⟨tk,rfl⟩:=Ck hi hv
  exact ⟨by first | simp [intKind,R8] | (unfold intKind; simp [R8]),rfl⟩
 have memI:∀ y,y∈ks↔y∈ns:=fun y=>by
  rw [mem,L5,hlen]
  constructor
  ·rintro ⟨j,hj,rfl⟩
   rw [LO,LD hj]
   exact Od hj
  ·intro hy
   obtain ⟨j,hj,rfl⟩:=List.getElem_of_mem hy
   refine ⟨j,hj,?_⟩
   rw [LO,LD hj]
   rfl
 have nd:ks.Nodup:=by
  obtain ⟨o,es,ep,t,g1,g2,g3,pr,nd,_⟩:=r
  exact nd
 refine Ri ?_
 refine Db calm r (OX (At nd fun y hy=>(memI y).mp hy) hl) fun q' h2 dr tk2 out ex ms kp2 ge hx a1 a2 a3=>?_
 have kk:∀ b o,s1.heap.get? b=some o->h2.get? b=some o:=fun b o eb=>kp2 b o (kp b o (LM eb) eb)
 have ge1:s1.heap.objs.size<=q':=by
  obtain ⟨o,es,ep,t,g1,_⟩:=r
  exact MP (Mb (LM g1) ge)
 have hf:H1 q'=none:=I1.hok.fresh ge1
 have nm:ms.Nodup:=a2.nodup_iff.mpr nd
 have ml:ms.length < 64:=by
  rw [a2.length_eq]
  exact OX (At nd fun y hy=>(memI y).mp hy) hl
 refine ⟨.ref q',_,(I1.laid (t':=tk2) (o:=.lst (ms.map V.int)) kk ge1 ?_).drew dr,rfl,q _ _ ms hf (ba hf _) aA ?_ fun y=>?_⟩
 ·exact ⟨by rw [LF,LP]; omega,out.toList,ex,qk a1,by rw [hx,Array.toArray_toList]⟩
 ·exact (a3.and nm).imp fun ⟨z1,z2⟩=>by omega
 ·rw [a2.mem_iff,memI]
end
end
section
variable {σ:St} {H:Hp} {Q:VK} {a:Addr} {kvs:List (Key×V)} {i:Int} {v:V}
end
section
variable {g:CF TG} {tt:CF TT} {te:CF TE} {σ₀:St} {Q:VK} {H:Hp}
end
section
open PySem.Spec
section
variable {X:Cx}
end
end
section
open PySem.Spec
section
variable {X:Cx}
end
end
section
open PySem.Spec
section
variable {X:Cx}
theorem mC:dc X (.type "range") CS:=by
 intro pins s σ H xs us Q I r h
 obtain ⟨n,rfl,hn,q⟩:=h
 obtain ⟨u,rfl,rx⟩:=lV r
 obtain ⟨t,rfl⟩:=rx
 exact call_range_1 ⟨.ref s.heap.objs.size,_,I.laid (a:=s.heap.objs.size) (o:=.rng 0 (n:Int)) (t':=s.toks + 1 + 1) (fun _ _ q=>LB _ q) (LH _) ⟨_,_,_,LL _ rfl⟩,rfl,q.upd _ (I.hok.fresh (LH _))⟩
theorem yf {n:Nat} {acc:Array Value} (h:ItemsOf (fun i v=>∃ t,v=.int ((0:Int) + i * 1) t) acc n):aH ((LV n).map fun (i:Nat)=>V.int ((i:Nat):Int)) acc.toList:=by
 obtain ⟨hl,hi⟩:=h
 have go:∀ (xs:List V) (us:List Value),xs.length=us.length->(∀ (j:Nat) (x:V) (u:Value),xs[j]?=some x->us[j]?=some u->aJ x u)->aH xs us:=by
  intro xs
  induction xs with
  | nil=>intro us hl _; cases us with
   | nil=>exact .nil
   | cons _ _=>simp at hl
  | cons x r ih=>intro us hl h; cases us with
   | nil=>simp at hl
   | cons u t=>exact .cons (h 0 x u rfl rfl) (ih t (by simpa using hl) fun j x u hx hu=>h (j + 1) x u hx hu)
 refine go _ _ (by simp [hl]) fun j x u hx hu=>?_
 rw [LU] at hx
 cases e:(LV n)[j]? with
 | none=>rw [e] at hx; cases hx
 | some z=>
  rw [e] at hx
  cases hx
  obtain ⟨h1,h2⟩:=LJ.mp e
  rw [QZ] at h2
  subst h2
  obtain ⟨t,rfl⟩:=hi j u (by rw [<-OC]; exact hu)
  exact ⟨t,by simp⟩
theorem Fz (hc:X.calm=true):dc X (.type "list") zb:=by
 intro pins s σ H xs us Q I r h
 obtain ⟨p,n,rfl,e,hn,q⟩:=h
 obtain ⟨u,rfl,rx⟩:=lV r
 cases rx
 obtain ⟨t,u,v,hr⟩:=(show bJ X.prog X.w H s.heap p (.rng 0 (n:Int)) from I.hok p _ e)
 refine call_list_range (n:=n) (show X.A.handled=none from I.ok.hd hc) hr (UR (by omega) (by omega) (by omega) (by omega)) ?_ (by omega) fun h' tk acc' c' kp e' it=>?_
 ·rw [SW]; split <;> omega
 ·exact ⟨.ref s.heap.objs.size,_,I.laid (t':=tk) kp (LH _) (show bJ X.prog X.w _ h' _ (.lst _) from ⟨by rw [LF,MX,LP]; omega,acc'.toList,c',yf it,by simpa using e'⟩),rfl,q.upd _ (I.hok.fresh (LH _))⟩
end
end
section
open PySem.Spec
noncomputable abbrev lH (h:Heap) (z TI TO:Addr) (f0:Value) (f:Bool):Prop:=
 h.get? z=some { cls:=.type "zip",dict:=none,data:=.fields #[f0,.bool f,.bool false,.ref TI,.ref TO],slots:=#[] }
section
variable {prog:Program} {w:World} {A:Around} {E:Value->Shared->Prop} {s:Shared}
theorem vk {z TI TO a:Addr} {f:Bool} {oa:Obj} {Q:Bool->Shared->Prop} (hz:lH s.heap z TI TO (rawInt a) f) (ha:s.heap.get? a=some oa) (h:∀ g1,lH g1 z TI TO (rawInt a) true->L8 z s.heap g1->Q false { s with heap:=g1 }):
  wpAny (model prog w) A (MB (.ref z)) Q E s:=by
 obtain ⟨hp,g,d,tk₀,os⟩:=s
 unfold MB
 refine LA (MS hz rfl (x:=rawInt a) rfl ?_)
 show wpAny _ _ (loadIfAlive ((a:Int).toNat) >>= _) _ _ _
 rw [OI]
 refine LA (PySem.W.kdx_alive ha ?_)
 simp only [Option.isNone_some,MM,if_false]
 refine LA (MS hz rfl (x:=.bool f) rfl ?_)
 cases f with
 | true=>
  rw [if_neg (show ¬ ((Nd true != Nd true)=true) from LR)]
  exact LC (h hp hz (TX _ _))
 | false=>
  rw [if_pos (show (Nd false != Nd true)=true from rfl)]
  exact LA (Oe hz (by simp) fun h₃ he₃ hs₃=>LC (h h₃ he₃ hs₃))
theorem FA {z TI TO j1 j2 a:Addr} {f:Bool} {oa:Obj} {fp1 fp2:List Addr} {n1 n2 k:Nat} {P1 P2:Nat->Value->Prop} {S1 S2:Nat->Heap->Prop} {Q:Value->Shared->Prop} (Z:iL z TI TO j1 j2 fp1 fp2)
  (D1:Draws prog w A j1 fp1 n1 P1 S1) (D2:Draws prog w A j2 fp2 n2 P2 S2) (hz:lH s.heap z TI TO (rawInt a) f) (ha:s.heap.get? a=some oa) (hTI:IsPair s.heap TI (.ref j1) (.ref j2)) (h1:S1 k s.heap) (h2:S2 k s.heap) (l1:k < n1) (l2:k < n2)
  (hQ:∀ x y h' tk,P1 k x->P2 k y->lH h' z TI TO (rawInt a) true->S1 (k + 1) h'->S2 (k + 1) h'->IsPair h' s.heap.objs.size x y->
   (∀ c o,c∉[z,j1,j2]->s.heap.get? c=some o->h'.get? c=some o)->Q (.ref s.heap.objs.size) { s with heap:=h',toks:=tk }):
  wpAny (model prog w) A (Builtin.«zip.__next__» ⟨[.ref z],[]⟩) (fun fin s'=>∃ v,fin=.done (.ret v)/\Q v s') E s:=by
 obtain ⟨hp,g,d,tk₀,os⟩:=s
 show wpAny _ _ (field (.ref z) 2 >>= _) _ _ _
 refine LA (MS hz rfl (x:=.bool false) rfl ?_)
 show wpAny _ _ (field (.ref z) 3 >>= _) _ _ _
 refine LA (MS hz rfl (x:=.ref TI) rfl ?_)
 refine LA (MG hTI rfl ?_)
 show wpAny _ _ (MB (.ref z) >>= _) _ _ _
 refine LA (vk hz ha fun g1 hz1 hs1=>?_)
 replace hs1:L8 z hp g1:=hs1
 simp only [MM,if_false]
 refine LA ?_
 rw [<-OZ]
 simp only [Po,QK]
 refine LA ?_
 refine LA (MR ?_)
 show wpAny _ _ (Mv (.ref j1) >>= _) _ _ _
 refine LA (D1.item k ⟨g1,g,d,tk₀,os⟩ _ _ l1 (D1.but h1 hs1 Z.b1) fun x g2 tk1 px st1 hs2=>LC ?_)
 replace hs2:L8 j1 g1 g2:=hs2
 refine LC ?_
 refine LA ?_
 refine LA (MR ?_)
 show wpAny _ _ (Mv (.ref j2) >>= _) _ _ _
 refine LA (D2.item k ⟨g2,g,d,tk1,os⟩ _ _ l2 (D2.but (D2.but h2 hs1 Z.b4) hs2 Z.b6) fun y g3 tk2 py st2 hs3=>LC ?_)
 replace hs3:L8 j2 g2 g3:=hs3
 refine LC ?_
 refine LC ?_
 show wpAny _ _ (Ui [x,y] >>= fun r=>ret r) _ _ _
 have hsz:g3.objs.size=hp.objs.size:=by rw [hs3.1,hs2.1,hs1.1]
 refine LA (Sr (LC ⟨_,rfl,?_⟩))
 have up:∀ c o,g3.get? c=some o->(g3.push { cls:=.type "tuple",data:=.seq #[x,y] }).get? c=some o:=fun c o e=>LB _ e
 have hz3:lH g3 z TI TO (rawInt a) true:=hs3.extBut _ _ Z.a4.symm (hs2.extBut _ _ Z.a3.symm hz1)
 have hT:IsPair (g3.push { cls:=.type "tuple",data:=.seq #[x,y] }) hp.objs.size x y:=by rw [<-hsz]; exact LL _ rfl
 show Q (.ref g3.objs.size) _
 rw [hsz]
 refine hQ x y _ tk2 px py (up _ _ hz3) (D1.frame _ _ _ (D1.but st1 hs3 Z.b3) fun c _ o e=>up c o e) (D2.frame _ _ _ st2 fun c _ o e=>up c o e) hT fun c o hc e=>?_
 simp only [LI,MQ,or_false,not_or] at hc
 exact up c o (hs3.extBut _ _ hc.2.2 (hs2.extBut _ _ hc.2.1 (hs1.extBut _ _ hc.1 e)))
theorem G7 {z TI TO j1 j2 a:Addr} {f:Bool} {oa:Obj} {fp1 fp2:List Addr} {n1 n2 k:Nat} {P1 P2:Nat->Value->Prop} {S1 S2:Nat->Heap->Prop} {Q:Fin->Shared->Prop} (Z:iL z TI TO j1 j2 fp1 fp2)
  (D1:Draws prog w A j1 fp1 n1 P1 S1) (D2:Draws prog w A j2 fp2 n2 P2 S2) (hz:lH s.heap z TI TO (rawInt a) f) (ha:s.heap.get? a=some oa) (hTI:IsPair s.heap TI (.ref j1) (.ref j2)) (h1:S1 k s.heap) (h2:S2 k s.heap) (l:k=min n1 n2)
  (hE:∀ h' e tk,(∀ c o,c∉[z,TI,TO,j1,j2]->s.heap.get? c=some o->h'.get? c=some o)->(∃ o,h'.get? e=some o/\o.cls=.type "StopIteration")->E (.ref e) { s with heap:=h',toks:=tk }):
  wpAny (model prog w) A (Builtin.«zip.__next__» ⟨[.ref z],[]⟩) Q E s:=by
 obtain ⟨hp,g,d,tk₀,os⟩:=s
 have kp:∀ {h':Heap},(∀ c o,c≠z->c≠j1->c≠j2->hp.get? c=some o->h'.get? c=some o)->∀ c o,c∉[z,TI,TO,j1,j2]->hp.get? c=some o->h'.get? c=some o:=fun {h'} q c o hc e=>by
  simp only [LI,MQ,or_false,not_or] at hc
  exact q c o hc.1 hc.2.2.2.1 hc.2.2.2.2 e
 show wpAny _ _ (field (.ref z) 2 >>= _) _ _ _
 refine LA (MS hz rfl (x:=.bool false) rfl ?_)
 show wpAny _ _ (field (.ref z) 3 >>= _) _ _ _
 refine LA (MS hz rfl (x:=.ref TI) rfl ?_)
 refine LA (MG hTI rfl ?_)
 show wpAny _ _ (MB (.ref z) >>= _) _ _ _
 refine LA (vk hz ha fun g1 hz1 hs1=>?_)
 replace hs1:L8 z hp g1:=hs1
 simp only [MM,if_false]
 refine LA ?_
 rw [<-OZ]
 simp only [Po,QK]
 refine LA ?_
 refine LA (MR ?_)
 show wpAny _ _ (Mv (.ref j1) >>= _) _ _ _
 by_cases hk:k=n1
 ·subst hk
  refine LA (D1.done ⟨g1,g,d,tk₀,os⟩ _ _ (D1.but h1 hs1 Z.b1) fun g2 e hs2 he=>?_)
  replace hs2:Pl j1 g1 g2:=hs2
  exact hE g2 e tk₀ (kp fun c o c1 c2 _ q=>hs2 _ _ c2 (hs1.extBut _ _ c1 q)) he
 ·have hlt:k < n1:=by omega
  have hk2:k=n2:=by omega
  refine LA (D1.item k ⟨g1,g,d,tk₀,os⟩ _ _ hlt (D1.but h1 hs1 Z.b1) fun x g2 tk1 px st1 hs2=>LC ?_)
  replace hs2:L8 j1 g1 g2:=hs2
  refine LC ?_
  refine LA ?_
  refine LA (MR ?_)
  show wpAny _ _ (Mv (.ref j2) >>= _) _ _ _
  subst hk2
  refine LA (D2.done ⟨g2,g,d,tk1,os⟩ _ _ (D2.but (D2.but h2 hs1 Z.b4) hs2 Z.b6) fun g3 e hs3 he=>?_)
  replace hs3:Pl j2 g2 g3:=hs3
  exact hE g3 e tk1 (kp fun c o c1 c2 c3 q=>hs3 _ _ c3 (hs2.extBut _ _ c2 (hs1.extBut _ _ c1 q))) he
noncomputable def ZSt (h:Heap) (z TI TO S:Addr) (i:Nat) (far:Addr->Prop):Prop:=(i=0/\IsZip h z TI TO .none/\∃ u v,IsPair h TO u v)\/∃ (a:Addr) (f:Bool) (oa:Obj),lH h z TI TO (rawInt a) f/\h.get? a=some oa/\far a/\a≠S
noncomputable def ZTs (P1 P2:Nat->Value->Prop) (lo:Addr) (h:Heap) (ts:List Addr):Prop:=∀ (j:Nat) (t:Addr),ts[j]?=some t->lo<=t/\∃ x y,P1 j x/\P2 j y/\IsPair h t x y
end
section
variable {prog:Program} {w:World} {A:Around} {s:Shared} {R:Result->Shared->Prop}
theorem G8 {z TI TO j1 j2 S lo:Addr} {fp1 fp2:List Addr} {n1 n2:Nat} {P1 P2:Nat->Value->Prop} {S1 S2:Nat->Heap->Prop} (hh:A.handled=none) (Z:iL z TI TO j1 j2 fp1 fp2)
  (D1:Draws prog w A.in1.in1 j1 fp1 n1 P1 S1) (D2:Draws prog w A.in1.in1 j2 fp2 n2 P2 S2) (hn:min n1 n2<=LS) (hS:S∉[z,TI,TO,j1,j2]) (hS1:S∉fp1) (hS2:S∉fp2) (hlo:∀ c∈[z,TI,TO,j1,j2,S],c < lo) (hlo1:∀ c∈fp1,c < lo) (hlo2:∀ c∈fp2,c < lo) (res:Value) {h₁:Heap}
  (hR:∀ h' tk acc c ts,(∀ b o,b∉[z,TI,TO,j1,j2]->b≠S->h₁.get? b=some o->h'.get? b=some o)->h'.get? S=some { cls:=.type "list",dict:=none,data:=.seq acc c,slots:=#[] }->ts.length=min n1 n2->ZTs P1 P2 lo h' ts->
   acc.toList=ts.map Mh->R (.ok (.ret res)) { s with heap:=h',toks:=tk }):
  ∀ (m i:Nat) (h:Heap) (tk c:Nat) (acc:Array Value) (ts:List Addr),min n1 n2 - i=m->i<=min n1 n2->ZSt h z TI TO S i (fun a=>lo<=a)->IsPair h TI (.ref j1) (.ref j2)->S1 i h->S2 i h->(∀ b o,b∉[z,TI,TO,j1,j2]->b≠S->h₁.get? b=some o->h.get? b=some o)->
   h.get? S=some { cls:=.type "list",dict:=none,data:=.seq acc c,slots:=#[] }->acc.toList=ts.map Mh->ts.length=i->ZTs P1 P2 lo h ts->lo<=h.objs.size->
   codeAny (model prog w) A (.builtin "list.extend.loop" ⟨[.ref S,.ref z,res],[]⟩) R { s with heap:=h,toks:=tk }:=by
 have notin:∀ t,lo<=t->t∉[z,TI,TO,j1,j2]/\t≠S/\t∉fp1/\t∉fp2:=fun t ht=>⟨fun hm=>by
  have:=hlo t (show t∈[z,TI,TO,j1,j2]++[S] from NV _ hm)
  exact absurd ht (QD.mpr this),fun e=>by
  have:=hlo S (by simp)
  rw [e] at ht
  exact absurd ht (QD.mpr this),fun hm=>absurd ht (QD.mpr (hlo1 t hm)),fun hm=>absurd ht (QD.mpr (hlo2 t hm))⟩
 intro m
 induction m with
 | zero=>
  intro i h tk c acc ts hk hi hst hTI st1 st2 hkeep hSS hacc hal hG hls
  have hin:i=min n1 n2:=by omega
  refine MT Rx ?_
  rw [MC NK _]
  show wpAny _ A.in1 (pyNext (.ref z) >>= _) _ _ _
  have done:∀ h':Heap,∀ tk',(∀ c o,c∉[z,TI,TO,j1,j2]->h.get? c=some o->h'.get? c=some o)->R (.ok (.ret res)) { s with heap:=h',toks:=tk' }:=fun h' tk' kp=>by
   refine hR h' tk' acc c ts (fun b o h1 h2 e=>kp b o h1 (hkeep b o h1 h2 e)) (kp S _ hS hSS) (by omega) (fun j t hj=>?_) hacc
   obtain ⟨hlt,x,y,p1,p2,e⟩:=hG j t hj
   exact ⟨hlt,x,y,p1,p2,kp t _ (notin t hlt).1 e⟩
  have hT:Ra { s with heap:=h,toks:=tk } (.ref z) "zip":=by
   rcases hst with ⟨_,hz,_⟩ | ⟨a,f,oa,hz,_⟩
   ·exact ⟨_,hz,rfl⟩
   ·exact ⟨_,hz,rfl⟩
  unfold pyNext
  refine LA (LA (OG (MJ (name:=Nb "__next__") hT Om (Mu Om hT Qd ?_ (PY _)))))
  rcases hst with ⟨_,hz,u,v,hTO⟩ | ⟨a,f,oa,hz,ha,_,_⟩
  ·refine zJ (s:={ s with heap:=h,toks:=tk }) Z D1 D2 hz hTI hTO st1 st2 hin fun h' e tk' kp he=>?_
   obtain ⟨o,ho,hcl⟩:=he
   exact LA (NP (T:="StopIteration") (b:=true) ⟨o,ho,hcl⟩ PF (LC (LC (done h' tk' kp))))
  ·refine G7 (s:={ s with heap:=h,toks:=tk }) Z D1 D2 hz ha hTI st1 st2 hin fun h' e tk' kp he=>?_
   obtain ⟨o,ho,hcl⟩:=he
   exact LA (NP (T:="StopIteration") (b:=true) ⟨o,ho,hcl⟩ PF (LC (LC (done h' tk' kp))))
 | succ m ih=>
  intro i h tk c acc ts hk hi hst hTI st1 st2 hkeep hSS hacc hal hG hls
  have hlt:i < min n1 n2:=by omega
  have hsz:acc.size=i:=by rw [<-Mp,hacc,LF,hal]
  refine MT Rx ?_
  rw [MC NK _]
  show wpAny _ A.in1 (pyNext (.ref z) >>= _) _ _ _
  have hT:Ra { s with heap:=h,toks:=tk } (.ref z) "zip":=by
   rcases hst with ⟨_,hz,_⟩ | ⟨a,f,oa,hz,_⟩
   ·exact ⟨_,hz,rfl⟩
   ·exact ⟨_,hz,rfl⟩
  have item:∀ (h':Heap) (tk':Nat) (x y:Value),P1 i x->P2 i y->ZSt h' z TI TO S (i + 1) (fun a=>lo<=a)->S1 (i + 1) h'->S2 (i + 1) h'->IsPair h' h.objs.size x y->(∀ c o,c∉[z,TO,j1,j2]->h.get? c=some o->h'.get? c=some o)->
    wpAny (model prog w) A.in1 (RS (.ref S) (·.push (Mh h.objs.size)) >>= fun _=>again (.builtin "list.extend.loop" ⟨[.ref S,.ref z,res],[]⟩)) (fun fin s'=>match fin with | .done f=>R (.ok f) s' | .again c'=>c'.quiet=true/\codeAny (model prog w) A c' R s') (fun e s'=>R (.error e) s') { s with heap:=h',toks:=tk' }:=by
   intro h' tk' x y px py hst' st1' st2' ht kp
   have sub:∀ c,c∉[z,TI,TO,j1,j2]->c∉[z,TO,j1,j2]:=fun c hc hm=>hc (by
    simp only [LI,MQ,or_false] at hm ⊢
    rcases hm with e | e | e | e
    ·exact .inl e
    ·exact .inr (.inr (.inl e))
    ·exact .inr (.inr (.inr (.inl e)))
    ·exact .inr (.inr (.inr (.inr e))))
   have hS':=kp S _ (sub S hS) hSS
   have up:∀ b o,b≠S->h'.get? b=some o->(h'.update S (M8 (·.push (Mh h.objs.size)))).get? b=some o:=fun b o hb e=>(Mz _ _ (Na hb)).trans e
   have hSl:S < h.objs.size:=LM hSS
   have zS:∀ c∈[z,TI,TO,j1,j2],c≠S:=fun c hc e=>hS (by rw [<-e]; exact hc)
   have hTI':IsPair h' TI (.ref j1) (.ref j2):=kp TI _ (by
    simp only [LI,MQ,or_false,not_or]
    exact ⟨Z.a1,Z.a5,Z.a6,Z.a7⟩) hTI
   show wpAny _ A.in1 (PD S (·.push (Mh h.objs.size)) >>= _) _ _ _
   refine LA ?_
   refine N6 hS' rfl (LC ⟨Nm NK _,ih (i + 1) _ tk' _ (acc.push (Mh h.objs.size)) (ts++[h.objs.size]) (by omega) hlt ?_ (up TI _ (zS TI (by simp)) hTI')
    (D1.frame _ _ _ st1' fun b hb o e=>up b o (fun q=>hS1 (by rw [<-q]; exact hb)) e) (D2.frame _ _ _ st2' fun b hb o e=>up b o (fun q=>hS2 (by rw [<-q]; exact hb)) e)
    (fun b o h1 h2 e=>up b o h2 (kp b o (sub b h1) (hkeep b o h1 h2 e))) (Mw _ hS' rfl) (by rw [Ro,hacc,Mf]; rfl) (by rw [L7,hal]; rfl) ?_ ?_⟩) (by rw [hsz]; omega) (by show (acc.push (Mh h.objs.size)).size<=LS + 1; rw [Array.size_push,hsz]; omega)
   ·rcases hst' with ⟨e,_⟩ | ⟨a,f,oa,hz,ha,hfar,haS⟩
    ·omega
    ·exact .inr ⟨a,f,oa,up _ _ (zS z (by simp)) hz,up _ _ haS ha,hfar,haS⟩
   ·intro j t hj
    rcases Rn j ts.length with c | c | c
    ·rw [Oh c] at hj
     obtain ⟨hl,x',y',p1,p2,e⟩:=hG j t hj
     obtain ⟨n1',n2',_,_⟩:=notin t hl
     exact ⟨hl,x',y',p1,p2,up t _ n2' (kp t _ (sub t n1') e)⟩
    ·subst c
     have hb:h.objs.size=t:=by simpa using hj
     subst hb
     rw [hal]
     exact ⟨hls,x,y,px,py,up _ _ (N9 hSl) ht⟩
    ·rw [Md (by rw [L7,Sl]; omega)] at hj
     cases hj
   ·have e:(h'.update S (M8 (·.push (Mh h.objs.size)))).get? h.objs.size=_:=up _ _ (N9 hSl) ht
    exact Mq hls (MP (LM e))
  unfold pyNext
  refine LA (LA (OG (MJ (name:=Nb "__next__") hT Om (Mu Om hT Qd ?_ (PY _)))))
  have hSl:S < h.objs.size:=LM hSS
  rcases hst with ⟨_,hz,u,v,hTO⟩ | ⟨a,f,oa,hz,ha,hfar,haS⟩
  ·refine xP (s:={ s with heap:=h,toks:=tk }) Z D1 D2 hz hTI hTO st1 st2 (by omega) (by omega) fun x y h' tk' px py z1 z2 z3 z4 z5 z6 z7=>LC ?_
   refine item h' tk' x y px py (.inr ⟨_,false,_,z1,z5,hls,N9 hSl⟩) z3 z4 z5 fun c o hc e=>?_
   by_cases q:c=TI
   ·rw [q] at e ⊢
    have:o=_:=LW (e.symm.trans hTI)
    rw [this]
    exact z7
   ·refine z6 c o ?_ e
    simp only [LI,MQ,or_false,not_or] at hc ⊢
    exact ⟨hc.1,q,hc.2⟩
  ·refine FA (s:={ s with heap:=h,toks:=tk }) Z D1 D2 hz ha hTI st1 st2 (by omega) (by omega) fun x y h' tk' px py z1 z3 z4 z5 z6=>LC ?_
   have na:=(notin a hfar).1
   refine item h' tk' x y px py (.inr ⟨a,true,oa,z1,z6 a oa ?_ ha,hfar,haS⟩) z3 z4 z5 fun c o hc e=>z6 c o ?_ e
   ·simp only [LI,MQ,or_false,not_or] at na ⊢
    exact ⟨na.1,na.2.2.2.1,na.2.2.2.2⟩
   ·simp only [LI,MQ,or_false,not_or] at hc ⊢
    exact ⟨hc.1,hc.2.2.1,hc.2.2.2⟩
end
end
section
open PySem.Spec
theorem Inv.news {X:Cx} {pins:List (Addr×Obj)} {σ:St} {H H':Hp} {s:Shared} {h':Heap} {t':Nat} (I:Inv X pins σ H s) (k:∀ b u,s.heap.get? b=some u->h'.get? b=some u) (hH:∀ b,b < s.heap.objs.size->H' b=H b)
  (new:∀ a o,s.heap.objs.size<=a->H' a=some o->bJ X.prog X.w H' h' a o):Inv X pins σ H' { s with heap:=h',toks:=t' }:=by
 have same:∀ b o,H b=some o->H' b=some o:=fun b o e=>(hH b (I.hok.lt e)).trans e
 refine I.un ⟨fun b o q _ _ _=>k b o q,fun b o q _ _ _=>⟨o.slots,k b o q⟩,fun b o q n _=>(hH b (LM q)).trans n,fun b o q _=>⟨o,k b o q⟩,fun b xs e=>same b _ e,fun b o u e=>same b _ e,fun b ps e=>⟨#[],by rw [same b _ e]; simp⟩⟩ fun a o e=>?_
 by_cases c:a < s.heap.objs.size
 ·rw [hH a c] at e
  exact (I.hok a o e).stay (fun b u _ q=>k b u q) (fun b q=>same b _ q) fun b xs q=>same b _ q
 ·exact new a o (Ru.mp c) e
theorem G9 {prog:Program} {w:World} {A:Around} {E:Value->Shared->Prop} {s:Shared} {z:Addr} {Q:Bool->Shared->Prop} (hT:s.TypeIs (.ref z) "zip") (h:Q true s):wpAny (model prog w) A (Oz (.ref z)) Q E s:=by
 unfold Oz
 refine LA (Np hT (show SG (.type "zip") "__len__"=pure none by rw [QC,Pb]; kernel_rfl) ?_)
 show wpAny _ _ (specialOf (Mh z) (Nb "__length_hint__") >>= _) _ _ _
 refine LA (Np hT (show SG (.type "zip") "__length_hint__"=pure none by rw [QC,Pb]; kernel_rfl) ?_)
 exact LC h
section
variable {prog:Program} {w:World} {A:Around} {E:Value->Shared->Prop} {s:Shared}
theorem De {z TI TO j1 j2 S:Addr} {fp1 fp2:List Addr} {n1 n2:Nat} {P1 P2:Nat->Value->Prop} {S1 S2:Nat->Heap->Prop} {R:Result->Shared->Prop} (hh:A.handled=none) (Z:iL z TI TO j1 j2 fp1 fp2)
  (D1:Draws prog w A.in1.in1 j1 fp1 n1 P1 S1) (D2:Draws prog w A.in1.in1 j2 fp2 n2 P2 S2) (hn:min n1 n2<=LS) (hS:S∉[z,TI,TO,j1,j2]) (hS1:S∉fp1) (hS2:S∉fp2) (hlo:∀ c∈[z,TI,TO,j1,j2,S],c < s.heap.objs.size) (hlo1:∀ c∈fp1,c < s.heap.objs.size) (hlo2:∀ c∈fp2,c < s.heap.objs.size)
  (hz:IsZip s.heap z TI TO .none) {u v:Value} (hTO:IsPair s.heap TO u v) (hTI:IsPair s.heap TI (.ref j1) (.ref j2)) (st1:S1 0 s.heap) (st2:S2 0 s.heap) {c₀:Nat} (hSS:s.heap.get? S=some { cls:=.type "list",data:=.seq #[] c₀ })
  (hR:∀ h' tk acc c ts,(∀ b o,b∉[z,TI,TO,j1,j2]->b≠S->s.heap.get? b=some o->h'.get? b=some o)->h'.get? S=some { cls:=.type "list",dict:=none,data:=.seq acc c,slots:=#[] }->ts.length=min n1 n2->ZTs P1 P2 s.heap.objs.size h' ts->
   acc.toList=ts.map Mh->R (.ok (.ret .none)) { s with heap:=h',toks:=tk }):
  wpAny (model prog w) A.in1 (MY (.ref S) (.ref z) .none)
   (fun fin s'=>match fin with | .done f=>R (.ok f) s' | .again c'=>c'.quiet=true/\codeAny (model prog w) A c' R s') (fun e s'=>R (.error e) s') s:=by
 have zS:∀ c∈[z,TI,TO,j1,j2],c≠S:=fun c hc e=>hS (by rw [<-e]; exact hc)
 have hT:s.TypeIs (.ref z) "zip":=⟨_,hz,rfl⟩
 unfold MY
 refine LA (Qp (T:="zip") hT ?_)
 have h1:OT (.ref S) (.ref z)=false:=by simp [OT,(zS z (by simp)).symm]
 have h2:(M7 "zip" == M7 "list")=false:=by decide
 have h3:(M7 "zip" == M7 "tuple")=false:=by decide
 simp only [h1,h2,h3,Bool.or_false,MM,if_false]
 refine LA (RF hz ?_)
 refine LA (MR (G9 hT ?_))
 rw [if_pos (by simp)]
 refine LA (NY ?_)
 refine LA ?_
 show wpAny _ _ (PD S (·.push .none) >>= fun _=>PD S (·.pop)) _ _ _
 refine LA (N6 hSS rfl ?_)
 have hS₂:=Mw (M8 (·.push M6)) hSS rfl
 refine N6 (hz:=by seq_fits) hS₂ rfl ?_
 have hS₃:=Mw (M8 (·.pop)) hS₂ rfl
 have oth:∀ b o,b≠S->s.heap.get? b=some o->((s.heap.update S (M8 (·.push M6))).update S (M8 (·.pop))).get? b=some o:=fun b o hb e=>
  (Mz _ _ (Na hb)).trans ((Mz _ _ (Na hb)).trans e)
 refine LC ⟨Nm NK _,G8 (s:=s) (lo:=s.heap.objs.size) (h₁:=s.heap) hh Z D1 D2 hn hS hS1 hS2 hlo hlo1 hlo2 .none hR (min n1 n2) 0 _ _ _ #[] [] (Nat.sub_zero _) (MI _) (.inl ⟨rfl,oth z _ (zS z (by simp)) hz,u,v,oth TO _ (zS TO (by simp)) hTO⟩) (oth TI _ (zS TI (by simp)) hTI)
  (D1.frame _ _ _ st1 fun b hb o e=>oth b o (fun q=>hS1 (by rw [<-q]; exact hb)) e) (D2.frame _ _ _ st2 fun b hb o e=>oth b o (fun q=>hS2 (by rw [<-q]; exact hb)) e) (fun b o _ hb e=>oth b o hb e) hS₃ rfl rfl (fun j t hj=>by simp at hj) ?_⟩
 rw [RK,RK]
 exact LH _
theorem Ha {z TI TO j1 j2:Addr} {fp1 fp2:List Addr} {n1 n2:Nat} {P1 P2:Nat->Value->Prop} {S1 S2:Nat->Heap->Prop} {Q:Value->Shared->Prop} (hh:A.handled=none) (Z:iL z TI TO j1 j2 fp1 fp2)
  (D1:∀ A':Around,A'.handled=none->Draws prog w A' j1 fp1 n1 P1 S1) (D2:∀ A':Around,A'.handled=none->Draws prog w A' j2 fp2 n2 P2 S2) (hn:min n1 n2<=LS) (hlo:∀ c∈[z,TI,TO,j1,j2],c < s.heap.objs.size) (hlo1:∀ c∈fp1,c < s.heap.objs.size) (hlo2:∀ c∈fp2,c < s.heap.objs.size)
  (hz:IsZip s.heap z TI TO .none) {u v:Value} (hTO:IsPair s.heap TO u v) (hTI:IsPair s.heap TI (.ref j1) (.ref j2)) (st1:S1 0 s.heap) (st2:S2 0 s.heap)
  (hQ:∀ h' tk acc c ts,(∀ b o,b∉[z,TI,TO,j1,j2]->s.heap.get? b=some o->h'.get? b=some o)->h'.get? s.heap.objs.size=some { cls:=.type "list",dict:=none,data:=.seq acc c,slots:=#[] }->ts.length=min n1 n2->ZTs P1 P2 (s.heap.objs.size + 1) h' ts->
   acc.toList=ts.map Mh->Q (.ref s.heap.objs.size) { s with heap:=h',toks:=tk }):
  wpAny (model prog w) A (call (.type "list") [.ref z]) Q E s:=by
 refine callType_codes (Q₁:=fun obj s₁=>obj=.ref s.heap.objs.size/\s₁={ s with heap:=s.heap.push { cls:=.type "list",data:=.seq #[] } }) PySem.F.called_list (PySem.F.typeCall_list_1 _) PySem.F.entry_list_init
  (code_list_new _ ⟨rfl,rfl⟩) fun obj s₁ h₁=>?_
 obtain ⟨rfl,rfl⟩:=h₁
 have hS:(s.heap.push { cls:=.type "list",data:=.seq #[] }).get? s.heap.objs.size=some { cls:=.type "list",data:=.seq #[] }:=LL _ rfl
 refine ⟨⟨_,hS,rfl⟩,PySem.F.args_list_init_2 _ _,?_⟩
 show wpAny _ _ (do let old <-Sh (.ref s.heap.objs.size); RS (.ref s.heap.objs.size) (fun _=>#[]); letGo old.toList.reverse; MY (.ref s.heap.objs.size) (.ref z) .none) _ _ _
 refine LA ?_
 unfold Sh
 refine LA (MG hS rfl (LC ?_))
 show wpAny _ _ (PD s.heap.objs.size (fun _=>#[]) >>= fun _=>letGo (#[]:Array Value).toList.reverse >>= fun _=>MY (.ref s.heap.objs.size) (.ref z) .none) _ _ _
 refine LA (N6 hS rfl ?_)
 have hS₂:=Mw (M8 (fun _=>(#[]:Array Value))) hS rfl
 have oth:∀ b o,b≠s.heap.objs.size->(s.heap.push { cls:=.type "list",data:=.seq #[] }).get? b=some o->((s.heap.push { cls:=.type "list",data:=.seq #[] }).update s.heap.objs.size (M8 (fun _=>(#[]:Array Value)))).get? b=some o:=
  fun b o hb e=>(Mz _ _ (Na hb)).trans e
 have oth':∀ b o,s.heap.get? b=some o->((s.heap.push { cls:=.type "list",data:=.seq #[] }).update s.heap.objs.size (M8 (fun _=>(#[]:Array Value)))).get? b=some o:=fun b o e=>oth b o (Mn (LM e)) (LB _ e)
 have sz:((s.heap.push { cls:=.type "list",data:=.seq #[] }).update s.heap.objs.size (M8 (fun _=>(#[]:Array Value)))).objs.size=s.heap.objs.size + 1:=by rw [RK,MF]
 refine LA (O1 ?_)
 refine De (A:=A.in1) hh Z (D1 _ hh) (D2 _ hh) hn (fun hm=>MV _ (hlo _ hm)) (fun hm=>MV _ (hlo1 _ hm)) (fun hm=>MV _ (hlo2 _ hm)) (fun c hc=>?_) (fun c hc=>?_) (fun c hc=>?_) (oth' _ _ hz) (oth' _ _ hTO) (oth' _ _ hTI)
  ((D1 _ hh).frame _ _ _ st1 fun b _ o e=>oth' b o e) ((D2 _ hh).frame _ _ _ st2 fun b _ o e=>oth' b o e) hS₂ (fun h' tk acc c ts hk hS' hl hG hacc=>?_)
 ·show c < ((s.heap.push { cls:=.type "list",data:=.seq #[] }).update s.heap.objs.size (M8 (fun _=>(#[]:Array Value)))).objs.size
  rw [sz]
  rcases Mr.mp (show c∈[z,TI,TO,j1,j2]++[s.heap.objs.size] from hc) with hc | hc
  ·exact Nh (hlo c hc)
  ·rw [LG.mp hc]; exact Nt _
 ·show c < ((s.heap.push { cls:=.type "list",data:=.seq #[] }).update s.heap.objs.size (M8 (fun _=>(#[]:Array Value)))).objs.size
  rw [sz]
  exact Nh (hlo1 c hc)
 ·show c < ((s.heap.push { cls:=.type "list",data:=.seq #[] }).update s.heap.objs.size (M8 (fun _=>(#[]:Array Value)))).objs.size
  rw [sz]
  exact Nh (hlo2 c hc)
 ·have hG':ZTs P1 P2 (s.heap.objs.size + 1) h' ts:=by rw [<-sz]; exact hG
  exact ⟨rfl,hQ h' tk acc c ts (fun b o hb e=>hk b o hb (Mn (LM e)) (oth' b o e)) hS' hl hG' hacc⟩
end
section
variable {X:Cx}
theorem Jn {h:Heap} {us vs:List Value} {xs ys:List V} {lo:Addr} {ts:List Addr} (ru:aH xs us) (rv:aH ys vs) (hl:ts.length=min us.length vs.length) (G:ZTs (fun i v=>us.toArray[i]?=some v) (fun i v=>vs.toArray[i]?=some v) lo h ts):
  ∀ (i:Nat) (t:Addr),ts[i]?=some t->lo<=t/\∃ x y u v,xs[i]?=some x/\ys[i]?=some y/\aJ x u/\aJ y v/\IsPair h t u v:=fun i t ht=>by
 obtain ⟨h1,u,v,p1,p2,e⟩:=G i t ht
 have hi:i < ts.length:=(LJ.mp ht).1
 have l1:=ru.length
 have l2:=rv.length
 obtain ⟨x,hx⟩:∃ x,xs[i]?=some x:=⟨_,LD (by omega)⟩
 obtain ⟨y,hy⟩:∃ y,ys[i]?=some y:=⟨_,LD (by omega)⟩
 obtain ⟨u',hu',ru'⟩:=ru.get hx
 obtain ⟨v',hv',rv'⟩:=rv.get hy
 have eu:u=u':=by
  have:us.toArray[i]?=some u':=by simpa using hu'
  rw [this] at p1
  exact (LW p1).symm
 have ev:v=v':=by
  have:vs.toArray[i]?=some v':=by simpa using hv'
  rw [this] at p2
  exact (LW p2).symm
 subst eu ev
 exact ⟨h1,x,y,u,v,hx,hy,ru',rv',e⟩
theorem AM {x y:V} {u:Value} (a:aJ x u) (b:aJ y u):x=y:=by
 cases x <;> cases y <;> simp only [aJ] at a b <;> first
  | rfl
  | (subst a; cases b; rfl)
  | (subst a; cases b; done)
  | (obtain ⟨t,rfl⟩:=a; obtain ⟨t',e⟩:=b; cases e; rfl)
  | (obtain ⟨t,rfl⟩:=a; obtain ⟨t',e⟩:=b; cases e; done)
  | (obtain ⟨t,rfl⟩:=a; cases b; done)
  | (subst a; obtain ⟨t',e⟩:=b; cases e; done)
theorem Jo (S1 S2:Src) {a b:Expr} {ta:TA} {p pos p2 pos2:Pos} (hc:X.calm=true) (hgl:Gl X "list") (hml:X.mg "list"=none) (hg:Gl X "zip") (hm:X.mg "zip"=none) (ha:PA X [a,b] ta)
  (hs:L9 [a,b] X.env=[(false,eval a X.env),(false,eval b X.env)]:=by rfl) (hs2:L9 [b] X.env=[(false,eval b X.env)]:=by rfl)
  (hs3:L9 [.Call (.Name "zip" p2) [a,b] [] pos2] X.env=[(false,eval (.Call (.Name "zip" p2) [a,b] [] pos2) X.env)]:=by rfl):
  PE X (.Call (.Name "list" p) [.Call (.Name "zip" p2) [a,b] [] pos2] [] pos) (CT S1 S2 X.K ta):=by
 intro pins s σ H Q I h
 refine NL (gb I hgl hml ON (Nf ?_ hs3 rfl))
 rw [hs3]
 show wpAny _ _ (spliced [(false,eval (.Call (.Name "zip" p2) [a,b] [] pos2) X.env)]) _ _ s
 refine QS ?_
 refine Call_ (gb I hg hm boot_zip (Nf (thn (ha pos2 pins s σ H _ I h) fun us s1 ⟨vs,H1,I1,r1,q1⟩=>?_) (by rw [hs,hs2]) (by rw [hs2]; rfl)))
 obtain ⟨l1,l2,xs,ys,e,hq1,hq2,hxl,q⟩:=q1
 subst e
 obtain ⟨u,v,rfl,ru,rv⟩:=r1.two
 cases ru
 cases rv
 obtain ⟨us1,rv1,p1,_⟩:=S1.get I1 hq1
 obtain ⟨us2,rv2,p2',_⟩:=S2.get I1 hq2
 refine Tt F.called_zip (by decide) (Ul _ _) (UI _ _) (fun obj=>SO obj _ _) UJ (BS S1 S2 l1 l2 us1.toArray us2.toArray) ⟨p1,p2',?_⟩
 generalize hn:s1.heap.objs.size=n
 have z1:(zh1 S1 s1.heap l1).objs.size=n + 1:=by rw [MF,hn]
 have z2:(zh2 S1 S2 s1.heap l1 l2).objs.size=n + 2:=by rw [MF,z1]
 have z3:(zh3 S1 S2 s1.heap l1 l2).objs.size=n + 3:=by rw [MF,z2]
 have z4:(zh4 S1 S2 s1.heap l1 l2).objs.size=n + 4:=by rw [MF,z3]
 have z5:(zh5 S1 S2 s1.heap l1 l2).objs.size=n + 5:=by rw [MF,z4]
 have g5:(zh5 S1 S2 s1.heap l1 l2).get? (zh4 S1 S2 s1.heap l1 l2).objs.size=some _:=LL _ rfl
 have g4:(zh5 S1 S2 s1.heap l1 l2).get? (zh3 S1 S2 s1.heap l1 l2).objs.size=some _:=LB _ (LL _ rfl)
 have g3:(zh5 S1 S2 s1.heap l1 l2).get? (zh2 S1 S2 s1.heap l1 l2).objs.size=some _:=LB _ (LB _ (LL _ rfl))
 have g2:(zh5 S1 S2 s1.heap l1 l2).get? (zh1 S1 s1.heap l1).objs.size=some _:=LB _ (LB _ (LB _ (LL _ rfl)))
 have g1:(zh5 S1 S2 s1.heap l1 l2).get? s1.heap.objs.size=some _:=LB _ (LB _ (LB _ (LB _ (LL _ rfl))))
 have kp:∀ c o,s1.heap.get? c=some o->(zh5 S1 S2 s1.heap l1 l2).get? c=some o:=fun c o e=>
  LB _ (LB _ (LB _ (LB _ (LB _ e))))
 show _/\_
 rw [z2,z3,z4] at g5
 rw [z1,z2,hn] at g3
 rw [z3] at g4
 rw [z1] at g2
 rw [hn] at g1
 rw [z4]
 refine ⟨⟨_,g5,rfl⟩,Ri ?_⟩
 have lt1:l1 < n:=by
  obtain ⟨o,_,ho,_⟩:=S1.isSeq p1
  rw [<-hn]; exact LM ho
 have lt2:l2 < n:=by
  obtain ⟨o,_,ho,_⟩:=S2.isSeq p2'
  rw [<-hn]; exact LM ho
 have five:∀ c:Nat,c∈[n + 4,n + 2,n + 3,n,n + 1]->n<=c/\c < n + 5:=fun c hc=>by
  simp only [LI,MQ,or_false] at hc
  omega
 have nel:∀ l c:Nat,l < n->n<=c->c≠l:=fun l c h1 h2=>by omega
 have Z:iL (n + 4) (n + 2) (n + 3) n (n + 1) [n,l1] [n + 1,l2]:=zap (by simp) (fun c hc=>nel l1 c lt1 (five c hc).1) (fun c hc=>nel l2 c lt2 (five c hc).1)
 have is1:S1.Is (zh5 S1 S2 s1.heap l1 l2) l1 us1.toArray:=S1.isKeep p1 fun o e=>kp _ _ e
 have is2:S2.Is (zh5 S1 S2 s1.heap l1 l2) l2 us2.toArray:=S2.isKeep p2' fun o e=>kp _ _ e
 refine Ha (s:={ s1 with heap:=zh5 S1 S2 s1.heap l1 l2 }) (n1:=us1.toArray.size) (n2:=us2.toArray.size) (I1.ok.hd hc) Z (fun A' hA=>S1.draws hA n l1 (nel l1 n lt1 (LH _)).symm us1.toArray) (fun A' hA=>S2.draws hA (n + 1) l2 (nel l2 (n + 1) lt2 (OM _)).symm us2.toArray) ?_ ?_ ?_ ?_ g5 g4 g3 ⟨S1.mkI g1 rfl rfl,is1⟩ ⟨S2.mkI g2 rfl rfl,is2⟩ ?_
 ·have:=rv1.length
  simp only [L5]
  rw [LP]
  omega
 ·intro c hc
  show c < (zh5 S1 S2 s1.heap l1 l2).objs.size
  rw [z5]
  exact (five c hc).2
 ·intro c hc
  show c < (zh5 S1 S2 s1.heap l1 l2).objs.size
  rw [z5]
  rcases LI.mp hc with rfl | hc
  ·exact Nat.lt_add_of_pos_right (by decide)
  ·rw [LG.mp hc]; exact Mb lt1 (Ny _ _)
 ·intro c hc
  show c < (zh5 S1 S2 s1.heap l1 l2).objs.size
  rw [z5]
  rcases LI.mp hc with rfl | hc
  ·exact Nat.add_lt_add_left (by decide) n
  ·rw [LG.mp hc]; exact Mb lt2 (Ny _ _)
 intro h' tk acc c ts hk hS' hl hG hacc
 have hS'':h'.get? (n + 5)=some { cls:=.type "list",dict:=none,data:=.seq acc c,slots:=#[] }:=by rw [<-z5]; exact hS'
 have hG':ZTs (fun i v=>us1.toArray[i]?=some v) (fun i v=>us2.toArray[i]?=some v) (n + 5 + 1) h' ts:=by rw [<-z5]; exact hG
 have hl':ts.length=min us1.length us2.length:=by simpa using hl
 have G:=Jn rv1 rv2 hl' hG'
 have old:∀ b o,s1.heap.get? b=some o->h'.get? b=some o:=fun b o e=>hk b o (fun hm=>by
  have:=LM e
  rw [hn] at this
  exact absurd (five b hm).1 (QD.mpr this)) (kp b o e)
 have l1':=rv1.length
 have l2':=rv2.length
 let H':Hp:=fun b=>if b=n + 5 then some (.lst (ts.map V.ref)) else match ts.findIdx? (· == b) with
  | some i=>(match xs[i]?,ys[i]? with | some x,some y=>some (.tup [x,y]) | _,_=>H1 b)
  | none=>H1 b
 have big:∀ (i:Nat) (t:Addr),ts[i]?=some t->n + 6<=t:=fun i t ht=>(G i t ht).1
 have Hts:∀ (i:Nat) (t:Addr),ts[i]?=some t->∃ x y u v,H' t=some (.tup [x,y])/\xs[i]?=some x/\ys[i]?=some y/\aJ x u/\aJ y v/\IsPair h' t u v:=by
  intro i t ht
  obtain ⟨hlo,x,y,u,v,hx,hy,rx,ry,e⟩:=G i t ht
  refine ⟨x,y,u,v,?_,hx,hy,rx,ry,e⟩
  have net:t≠n + 5:=fun q=>by rw [q] at hlo; exact absurd hlo (QD.mpr (Nt _))
  show (if t=n + 5 then _ else _)=_
  rw [if_neg net]
  cases hf:ts.findIdx? (· == t) with
  | none=>
   have:=Pp.mp hf t (LX ht)
   simp at this
  | some i0=>
   obtain ⟨h0,h1,_⟩:=Ob.mp hf
   have ht0:ts[i0]?=some t:=by rw [LD h0]; congr 1; exact eq_of_beq h1
   obtain ⟨_,x0,y0,u0,v0,hx0,hy0,rx0,ry0,e0⟩:=G i0 t ht0
   have eq:=LW (e0.symm.trans e)
   have eu:u0=u/\v0=v:=by
    injection eq with _ _ eq
    injection eq with eq _
    simp at eq
    exact eq
   rw [eu.1] at rx0
   rw [eu.2] at ry0
   simp only [hx0,hy0]
   rw [AM rx0 rx,AM ry0 ry]
 have hH:∀ b,b < s1.heap.objs.size->H' b=H1 b:=by
  intro b hb
  rw [hn] at hb
  have ne5:b≠n + 5:=fun q=>by rw [q] at hb; exact absurd hb (Ru.mpr (Ny _ _))
  show (if b=n + 5 then _ else _)=_
  rw [if_neg ne5]
  cases hf:ts.findIdx? (· == b) with
  | none=>rfl
  | some i0=>
   obtain ⟨h0,h1,_⟩:=Ob.mp hf
   have ht0:ts[i0]?=some b:=by rw [LD h0]; congr 1; exact eq_of_beq h1
   have:=big i0 b ht0
   exact absurd (Mb hb (Mq (Ny _ _) this)) (MV _)
 have e5:H' (n + 5)=some (.lst (ts.map V.ref)):=if_pos rfl
 have hvals:aH (ts.map V.ref) acc.toList:=by
  have go:∀ l:List Addr,aH (l.map V.ref) (l.map Mh):=fun l=>by
   induction l with
   | nil=>exact .nil
   | cons t r ih=>exact .cons rfl ih
  rw [hacc]
  exact go ts
 have I2:Inv X pins σ H' { s1 with heap:=h',toks:=tk }:=I1.news old hH fun a o ha eo=>by
  by_cases c5:a=n + 5
  ·subst c5
   rw [e5] at eo
   cases eo
   refine ⟨?_,acc.toList,c,hvals,by simpa using hS''⟩
   rw [LF,hl',LP]
   omega
  ·have eo':(match ts.findIdx? (· == a) with
    | some i=>(match xs[i]?,ys[i]? with | some x,some y=>some (HO.tup [x,y]) | _,_=>H1 a)
    | none=>H1 a)=some o:=by
    have:H' a=some o:=eo
    rw [show H' a=(if a=n + 5 then some (.lst (ts.map V.ref)) else match ts.findIdx? (· == a) with
     | some i=>(match xs[i]?,ys[i]? with | some x,some y=>some (.tup [x,y]) | _,_=>H1 a)
     | none=>H1 a) from rfl,if_neg c5] at this
    exact this
   have hfr:H1 a=none:=I1.hok.fresh ha
   cases hf:ts.findIdx? (· == a) with
   | none=>rw [hf] at eo'; rw [show H1 a=some o from eo'] at hfr; cases hfr
   | some i0=>
    obtain ⟨h0,h1,_⟩:=Ob.mp hf
    have ht0:ts[i0]?=some a:=by rw [LD h0]; congr 1; exact eq_of_beq h1
    obtain ⟨_,x0,y0,u0,v0,hx0,hy0,rx0,ry0,e0⟩:=G i0 a ht0
    rw [hf] at eo'
    simp only [hx0,hy0] at eo'
    cases eo'
    exact ⟨(by show 2<=LS; decide),[u0,v0],.cons rx0 (.cons ry0 .nil),_,e0,rfl,⟨0,rfl⟩,rfl⟩
 have hp5:H1 (n + 5)=none:=I1.hok.fresh (by rw [hn]; exact Ny _ _)
 have hsame:am H1 H':=fun b o eb=>by
  rw [hH b (I1.hok.lt eb)]
  exact eb
 show ∃ v H',_/\_/\_
 refine ⟨.ref (n + 5),H',I2,by rw [<-z5]; rfl,q _ _ hp5 hsame ⟨ts,e5,?_⟩⟩
 have go:∀ (l:List Addr) (m:List (V×V)),l.length=m.length->(∀ (i:Nat) (t:Addr) (pq:V×V),l[i]?=some t->m[i]?=some pq->H' t=some (.tup [pq.1,pq.2]))->rG H' l m:=by
  intro l
  induction l with
  | nil=>intro m hl _; cases m with
   | nil=>exact .nil
   | cons _ _=>simp at hl
  | cons t r ih=>intro m hl hh; cases m with
   | nil=>simp at hl
   | cons pq m=>exact .cons (hh 0 t pq rfl rfl) (ih m (by simpa using hl) fun i t pq h1 h2=>hh (i + 1) t pq h1 h2)
 refine go _ _ (by rw [Qy]; omega) fun i t pq ht hpq=>?_
 obtain ⟨x,y,u,v,e,hx,hy,_⟩:=Hts i t ht
 rw [e]
 have:(xs.zip ys)[i]?=some (x,y):=by rw [Rq]; exact ⟨hx,hy⟩
 rw [this] at hpq
 cases hpq
 rfl
end
end
section
open PySem.Spec
section
variable {prog:Program} {w:World} {A:Around} {E:Value->Shared->Prop} {s:Shared}
theorem yx {Q:List Value->Shared->Prop} {r:Addr} {a b c:Int} {t u v:Tok} {n:Nat} (hh:A.handled=none) (hr:IsRange s.heap r a b c t u v) (hsmall:Tc a b c=true) (hn:PN a b c=n) (hlen:n<=2 ^ 24)
  (hQ:∀ (h':Heap) (tk:Nat) (acc':Array Value),(∀ b o,s.heap.get? b=some o->h'.get? b=some o)->ItemsOf (fun i v=>∃ t,v=.int (a + i * c) t) acc' n->Q acc'.toList { s with heap:=h',toks:=tk }):
  wpAny (model prog w) A (collect (.ref r)) Q E s:=by
 unfold collect
 refine LA (Sw (MT F.entry_proto_collect ?_))
 rw [MC F.plain_proto_collect _]
 show wpAny _ A.in1 (newList [] >>= fun l=>again (.builtin "list.__iadd__" ⟨[l,.ref r],[]⟩)) _ _ s
 refine LA (ME ?_)
 refine LC ⟨Nm TZ _,MT F.entry_list_iadd ?_⟩
 rw [MC TZ _]
 show wpAny _ A.in1 (MY (.ref s.heap.objs.size) (.ref r) (.ref s.heap.objs.size)) _ _ _
 have hS:(s.heap.push { cls:=.type "list",data:=.seq ([]:List Value).toArray }).get? s.heap.objs.size=some { cls:=.type "list",data:=.seq #[] 0 }:=LL _ rfl
 have fin':∀ (h':Heap) (tk c':Nat) (acc':Array Value),(∀ b o,b≠s.heap.objs.size->(s.heap.push { cls:=.type "list",data:=.seq ([]:List Value).toArray }).get? b=some o->h'.get? b=some o)->h'.get? s.heap.objs.size=some { cls:=.type "list",dict:=none,data:=.seq acc' c',slots:=#[] }->ItemsOf (fun i v=>∃ t,v=.int (a + i * c) t) acc' n->wpAny (model prog w) A (match Mh s.heap.objs.size with
   | Mh a=>do
    match (<-load a).data with
     | Data.seq xs _=>pure xs.toList
     | _=>unsupported "internal:collect"
   | _=>unsupported "internal:collect") Q E { s with heap:=h',toks:=tk }:=by
  intro h' tk c' acc' hk hS' hacc
  show wpAny _ A (load s.heap.objs.size >>= _) _ _ _
  refine LA (SF hS' ?_)
  refine LC ?_
  exact hQ h' tk acc' (fun b o e=>hk b o (Mn (LM e)) (LB _ e)) hacc
 refine Nx (wpAny_extend_range (A:=A) (R:=fun r s'=>r=.ok (.ret (.ref s.heap.objs.size))/\∃ (h':Heap) (tk c':Nat) (acc':Array Value),s'={ s with heap:=h',toks:=tk }/\(∀ b o,b≠s.heap.objs.size->(s.heap.push { cls:=.type "list",data:=.seq ([]:List Value).toArray }).get? b=some o->h'.get? b=some o)/\h'.get? s.heap.objs.size=some { cls:=.type "list",dict:=none,data:=.seq acc' c',slots:=#[] }/\ItemsOf (fun i v=>∃ t,v=.int (a + i * c) t) acc' n)
  (s:={ s with heap:=s.heap.push { cls:=.type "list",data:=.seq ([]:List Value).toArray } }) hh (LB _ hr) hsmall hn hlen s.heap.objs.size (.ref s.heap.objs.size) 0 hS fun h' tk acc' c' hk hS' hacc=>⟨rfl,h',tk,c',acc',rfl,hk,hS',hacc⟩) (fun fin s' h=>?_) (fun e s' h=>?_)
 ·cases fin with
  | done f=>
   obtain ⟨e,h',tk,c',acc',rfl,h1,h2,h3⟩:=h
   cases e
   exact fin' h' tk c' acc' h1 h2 h3
  | again c'=>exact ⟨h.1,OP h.2 fun r s'' hr=>by obtain ⟨rfl,h',tk,c',acc',rfl,h1,h2,h3⟩:=hr; exact fin' h' tk c' acc' h1 h2 h3⟩
 ·exact absurd h.1 (by simp)
theorem tP {Q:Value->Shared->Prop} {r:Addr} {a b c:Int} {t u v:Tok} {n:Nat} (hh:A.handled=none) (hr:IsRange s.heap r a b c t u v) (hsmall:Tc a b c=true) (hn:PN a b c=n) (hlen:n<=2 ^ 24)
  (hQ:∀ (h':Heap) (tk:Nat) (acc':Array Value),(∀ b o,s.heap.get? b=some o->h'.get? b=some o)->ItemsOf (fun i v=>∃ t,v=.int (a + i * c) t) acc' n->Q (.ref h'.objs.size) { s with heap:=h'.push { cls:=.type "tuple",data:=.seq acc' },toks:=tk }):
  wpAny (model prog w) A (call (.type "tuple") [.ref r]) Q E s:=by
 refine callType_codes (Q₁:=fun obj s₁=>s₁.TypeIs obj "tuple"/\Q obj s₁) SB (F.typeCall_tuple_1 _) F.entry_object_init ?_ fun obj s₁ h₁=>?_
 ·refine R6 ?_
  show wpAny _ A.in1.in1 (do Uv "tuple.__new__" ⟨[.type "tuple",.ref r],[]⟩; again (.builtin "tuple.__new__" ⟨[.type "tuple",.ref r],[]⟩)) _ _ s
  refine LA (P8 (F.newCall_tuple_1 _) (LC ⟨Nm T1 _,MT F.entry_tuple_new ?_⟩))
  rw [MC T1 _]
  have hsub:=sub_tuple_self
  have hinit:=init_tuple_lookup
  have hmh:=madeHere_tuple
  have hTI:Ra s (.ref r) "range":=⟨_,hr,rfl⟩
  wp_walk using Qp hTI,yx (A:=A.in1.in1) (show A.in1.in1.handled=none from hh) hr hsmall hn hlen
  intro h' tk acc hk hacc
  show wpAny _ _ (NN acc.toList.toArray >>= fun v=>ret v) _ _ _
  unfold NN
  have hz:acc.size<=LS:=by rw [hacc.1,LP]; omega
  refine LA (ME ?_ (by show acc.toList.toArray.size<=LS; simpa using hz))
  refine LC ?_
  have e:acc.toList.toArray=acc:=by simp
  rw [e]
  exact ⟨⟨_,LL _ rfl,rfl⟩,hQ h' tk acc hk hacc⟩
 ·exact ⟨h₁.1,SM obj _,object_init_meets SB.init.lookup SB.made (by decide) prog w A.in1 _ s₁ ⟨h₁.1,rfl,h₁.2⟩⟩
end
section
variable {X:Cx} {tg:Expr}
theorem qT (hc:X.calm=true):dc X (.type "tuple") zd:=by
 intro pins s σ H xs us Q I r h
 obtain ⟨p,n,rfl,e,hn,q⟩:=h
 obtain ⟨u,rfl,rx⟩:=lV r
 cases rx
 obtain ⟨t,u,v,hr⟩:=(show bJ X.prog X.w H s.heap p (.rng 0 (n:Int)) from I.hok p _ e)
 refine tP (n:=n) (show X.A.handled=none from I.ok.hd hc) hr (UR (by omega) (by omega) (by omega) (by omega)) ?_ (by omega) fun h' tk acc' kp it=>?_
 ·rw [SW]; split <;> omega
 ·have I1:Inv X pins σ H { s with heap:=h',toks:=tk }:=I.kept (t':=tk) kp
  have I2:Inv X pins σ (upd H h'.objs.size (.tup ((LV n).map fun (i:Nat)=>V.int ((i:Nat):Int)))) { s with heap:=h'.push { cls:=.type "tuple",data:=.seq acc' },toks:=tk }:=
   I1.laid (t':=tk) (fun b o e=>LB _ e) (LH _) (show bJ X.prog X.w _ _ _ (.tup _) from ⟨by rw [LF,MX,LP]; omega,acc'.toList,yf it,by simpa using eQ.new h' acc'⟩)
  exact ⟨.ref h'.objs.size,_,I2,rfl,q.upd _ (I1.hok.fresh (LH _))⟩
end
end
section
open PySem.Spec
noncomputable def vwD (v:List Nat):PyData:=.list (v.map fun (k:Nat)=>.int (k:Int))
theorem yg:∀ v w:List Nat,Re (v.map fun (k:Nat)=>PM (k:Int)) (w.map fun (k:Nat)=>PM (k:Int))=decide (v=w)
 | [],[]=>rfl
 | [],_ :: _=>rfl
 | _ :: _,[]=>rfl
 | a :: v,b :: w=>by
  rw [LZ,LZ,Re,yg v w,PJ,OW,Nc,decide_eq_true_iff,decide_eq_true_iff,RZ,beq_iff_eq,Int.ofNat_inj]
theorem vm:∀ v w:List (List Nat),Re (v.map vwD) (w.map vwD)=decide (v=w)
 | [],[]=>rfl
 | [],_ :: _=>rfl
 | _ :: _,[]=>rfl
 | a :: v,b :: w=>by
  rw [LZ,LZ,Re,vm v w]
  have:PJ (vwD a) (vwD b)=decide (a=b):=by
   unfold vwD
   rw [PJ]
   exact yg a b
  rw [this,OW,Nc,decide_eq_true_iff,decide_eq_true_iff,decide_eq_true_iff,RZ]
theorem yh:∀ w:List Nat,N3 (w.map fun (k:Nat)=>PM (k:Int))=true
 | []=>rfl
 | k :: g=>by show (true && N3 _)=true; rw [yh g]; rfl
theorem vo:∀ w:List (List Nat),N3 (w.map vwD)=true
 | []=>rfl
 | k :: g=>by show (N3 (k.map fun (k:Nat)=>PM (k:Int)) && N3 _)=true; rw [yh k,vo g]; rfl
theorem vq:∀ g:List Nat,Oo (g.map fun (k:Nat)=>PM (k:Int))=0
 | []=>rfl
 | k :: g=>by show max 0 (Oo _)=0; rw [vq g]; rfl
theorem sN:∀ g:List (List Nat),Oo (g.map vwD)<=1
 | []=>MI _
 | k :: g=>by
  show max (Oo (k.map fun (k:Nat)=>PM (k:Int)) + 1) (Oo _)<=1
  rw [vq k]
  have:=sN g
  omega
theorem pK (g:List (List Nat)):OS (.list (g.map vwD))=true:=by
 unfold OS
 rw [show PyData.canLay0 (.list (g.map vwD))=N3 (g.map vwD) from rfl,vo g,decide_eq_true ?_]
 ·rfl
 ·show Oo (g.map vwD) + 1<=64
  have:=sN g
  omega
theorem yi {K:Fg} {H:Hp}:∀ v:List Nat,i8 K H (au v) (v.map fun (k:Nat)=>PM (k:Int))
 | []=>.nil
 | k :: v=>.cons (.int _) (yi v)
theorem vt {K:Fg} {H:Hp} {rs:List Addr} {vs:List (List Nat)} (h:Paired (fun (r:Addr) (v:List Nat)=>H r=some (.lst (au v))) rs vs):i8 K H (rs.map V.ref) (vs.map vwD):=by
 induction h with
 | nil=>exact .nil
 | cons r _ ih=>exact .cons (.lst (SqL.of r) (yi _)) ih
theorem KD {X:Cx} (hu:X.A.units + 64 < cLine):OpR X (NC .Eq) GJ:=by
 intro pins s σ H x y v u Q I rx ry h
 obtain ⟨a,b,vs,ws,rfl,rfl,⟨rs,e1,p1⟩,⟨ts,e2,p2⟩,q⟩:=h
 refine KA hu pins s σ H _ _ v u Q I rx ry ⟨_,_,.lst (SqL.of e1) (vt p1),.lst (SqL.of e2) (vt p2),pK vs,pK ws,?_⟩
 show Q (.bl (PJ (.list (vs.map vwD)) (.list (ws.map vwD)))) H
 rw [PJ,vm]
 exact q
end
end L2
section
namespace L2
open PySem
end L2
end
namespace L2
open PySem PyProof.Rows
section
open PySem.Spec PySem.Calls
section
variable {X:Cx}
end
end
end L2
section
namespace L2
open PySem PySem.Spec PySem.W PyProof.Rows
noncomputable def FnA (K:Frag) (x q:Str) (st:Stmt) (f:Addr):Prop:=∃ (oc:Value) (od:Option Addr) (kV doc pm:Value) (an:Option Addr) (cd ct:Value) (sl:Array (Option Value)),K.lookup f=some ⟨oc,od,.func (fnOf x q (jv st) (eS st) (ab st) .none kV doc pm an cd ct),sl⟩/\codeIn K cd q=true/\keepIn K (.ref f)=true
noncomputable def DfA (K:Frag) (x:Str) (st:Stmt):Prop:=∃ f,nsIn K Mj x=some (some (.ref f))/\FnA K x x st f
noncomputable def MtA (K:Frag) (C:Addr) (m q:Str) (st:Stmt):Prop:=∃ f,findIn K (.ref C) m=some (some (.ref f))/\isFn K (.ref f)=true/\FnA K m q st f
theorem FnA.fn {K:Frag} {x q:Str} {st:Stmt} {f:Addr} (h:FnA K x q st f):∃ fd,Fun K x q st f fd:=let ⟨_,_,_,_,_,_,_,_,_,l,c,k⟩:=h; ⟨_,Ev l c k⟩
noncomputable abbrev BdA (x q:Str) (st:Stmt) (ps:List Str):Prop:=∀ (kV doc pm:Value) (an:Option Addr) (cdv ct:Value) (us:List Value),us.length=ps.length->bindArgs (fnOf x q (jv st) (eS st) (ab st) .none kV doc pm an cdv ct) ⟨us,[]⟩=pure (ps.zip us)
theorem DfA.df {K:Frag} {mg:Str->Option Value} {h:Heap} {x:Str} {st:Stmt} {ps:List Str} (X:K.In h) (G:h.Ns Mj mg) (q:DfA K x st) (b:BdA x x st ps):∃ f fd,Def K mg x st ps f fd:=
 let ⟨f,a,l⟩:=q; let ⟨fd,F⟩:=l.fn; ⟨f,fd,F,mg_of X G a,F.binds b⟩
theorem MtA.df {K:Frag} {C:Addr} {m q:Str} {st:Stmt} {ps:List Str} (h:MtA K C m q st) (b:BdA m q st ps):∃ f fd,iB K C m q st ps f fd:=
 let ⟨f,a,i,l⟩:=h; let ⟨fd,F⟩:=l.fn; ⟨f,fd,F,⟨a,i,F.kp⟩,F.binds b⟩
theorem MtA.di {K:Frag} {C:Addr} {q:Str} {st:Stmt} {ps:List Str} (h:MtA K C "__init__" q st) (mk:makesIn K C=true) (kc:keepIn K (.ref C)=true) (b:BdA "__init__" q st ps):∃ f fd,Ar K C q st ps f fd:=
 let ⟨f,a,i,l⟩:=h; let ⟨fd,F⟩:=l.fn; ⟨f,fd,F,⟨mk,a,i,kc⟩,F.binds b⟩
theorem DfA.law {K:Frag} {mg:Str->Option Value} {h:Heap} {x p:Str} {st:Stmt} {fa:Addr} (X:K.In h) (G:h.Ns Mj mg) (q:DfA K x st) (b:BdA x x st [p]) (hf:mg x=some (.ref fa))
  (bb:∀ (kV doc pm:Value) (an:Option Addr) (cdv ct:Value) (s:Shared) (v:Value),BindsTo s (fnOf x x (jv st) (eS st) (ab st) .none kV doc pm an cdv ct) ⟨[v],[]⟩ [(p,v)]):∃ fd,Def K mg x st [p] fa fd/\∀ (s:Shared) (v:Value),BindsTo s fd ⟨[v],[]⟩ [(p,v)]:=by
 obtain ⟨f,a,_,_,kV,doc,pm,an,cdv,ct,_,l,c,k⟩:=q
 have e:=hf.symm.trans (mg_of X G a)
 cases e
 have F:=Ev l c k
 exact ⟨_,⟨F,mg_of X G a,F.binds b⟩,bb kV doc pm an cdv ct⟩
end L2
end
namespace Kc_k42
open PySem L2 PyProof.Rows
local macro_rules | `(tactic| walk_at "v")=>`(tactic| exact ⟨rfl,by first | exact LN rfl | exact Pi (LN rfl) | exact Pi (Pi rfl),by decide,by decide⟩)
local macro_rules | `(tactic| walk_at "w")=>`(tactic| exact ⟨rfl,rfl,rfl,by decide +kernel,rfl,by decide +kernel,by decide +kernel⟩)
local macro_rules | `(tactic| walk_at "l")=>`(tactic| (intro _ _ _ _ h; first | (obtain ⟨_,e,_⟩:=h; subst e; rfl) | (obtain ⟨_,_,e,_⟩:=h; subst e; rfl) | (obtain ⟨_,_,_,e,_⟩:=h; subst e; rfl) | (obtain ⟨_,_,_,_,e,_⟩:=h; subst e; rfl) | (obtain ⟨_,_,_,_,_,e,_⟩:=h; subst e; rfl) | (obtain ⟨_,_,_,_,_,_,e,_⟩:=h; subst e; rfl) | (obtain ⟨_,_,_,_,_,_,_,e,_⟩:=h; subst e; rfl) | (obtain ⟨_,_,_,_,_,_,_,_,e,_⟩:=h; subst e; rfl) | (obtain ⟨_,_,_,_,_,_,_,_,_,e,_⟩:=h; subst e; rfl) | (obtain ⟨_,_,_,_,_,_,_,_,_,_,e,_⟩:=h; subst e; rfl) | (obtain ⟨_,_,_,_,_,_,_,_,_,_,_,e,_⟩:=h; subst e; rfl) | (obtain ⟨_,_,_,_,_,_,_,_,_,_,_,_,e,_⟩:=h; subst e; rfl) | (obtain ⟨_,_,_,_,_,_,_,_,_,_,_,_,_,e,_⟩:=h; subst e; rfl) | (obtain ⟨_,_,_,_,_,_,_,_,_,_,_,_,_,_,e,_⟩:=h; subst e; rfl) | (obtain ⟨_,_,_,_,_,_,_,_,_,_,_,_,_,_,_,e,_⟩:=h; subst e; rfl) | (obtain ⟨_,_,_,_,_,_,_,_,_,_,_,_,_,_,_,_,e,_⟩:=h; subst e; rfl)))
local macro_rules | `(tactic| walk_at "c")=>`(tactic| (refine ⟨rfl,?_,?_,?_,?_,rfl,?_⟩ <;> decide +kernel))
local macro_rules | `(tactic| walk_at "e")=>`(tactic| (refine ⟨rfl,?_,?_,?_,?_,rfl,?_⟩ <;> first | decide +kernel | exact Fp (by decide +kernel)))
theorem pvA {X:Cx} {N:List Str} {sc:Scope} {i:Nat} {x:Str} {pos:Pos} (h:ah N sc i x) (hN:X.N=N:=by exact rfl) (hS:X.env.scope=sc:=by exact rfl):PE X (.Name x pos) (ac i):=pvQ h hN hS
theorem rmD {n k:Nat} {A:Around} (h:b8 k A) (e:n<=k:=by decide):b8 n A:=h.mono e
noncomputable abbrev gp:List Str:=["_law_script","_law_cards","_law_sizes","_law_hands","_law_deals","_law_piles","_law_table","_law_k","_law_turns","_law_answers","_law_found","_law_place","_law_some"]
noncomputable abbrev kn:List Str:=["_law_script","_law_at","_law_cards","_law_hands","_law_most","_law_pool_here","_law_k","_law_cell_here","_law_one","_law_other","_law_some"]
noncomputable abbrev nh:List Str:=["_law_table","_law_answers","_law_piles","_law_hands","_law_whole","_law_turn","_law_truths","_law_view","_law_place"]
noncomputable abbrev ni:List Str:=["_law_table","_law_answers","_law_hands","_law_ahead","_law_k","_law_turn","_law_truths"]
noncomputable abbrev qU:List Str:=["_law_script","_law_at","_law_cards","_law_hands","_law_pool_here","_law_k","_law_cell_here"]
noncomputable abbrev nj:List Str:=["_law_script","_law_at","_law_cards","_law_hands"]
noncomputable abbrev qV:List Str:=["_law_script","_law_at","_law_cards","_law_hands","_law_cell_here","_law_some"]
noncomputable abbrev oX:List Str:=["table","sayings","turns","own","everyone","told","still","before"]
noncomputable abbrev tQ:List Str:=["_law_script","_law_at","_law_most","_law_cards","_law_sizes","_law_k"]
noncomputable abbrev lI:List Str:=["deals","views","S","word","inner","some"]
noncomputable abbrev vv:List Str:=["_law_script","_law_at","_law_cards","_law_hands","_law_most"]
noncomputable abbrev dH:List Str:=["cards","sizes"]
noncomputable abbrev mD:List Str:=["many","views","points","view","thing","least"]
noncomputable abbrev jW:List Str:=["cards","hands","place","part"]
noncomputable abbrev d3:List Str:=["ones","others"]
noncomputable abbrev vx:List Str:=["_law_table","_law_answers","_law_piles","_law_hands"]
noncomputable abbrev oY:List Str:=["many","answers","firsts","turn","truths","deal"]
noncomputable abbrev jX:List Str:=["cards","hands","thing"]
noncomputable abbrev oZ:List Str:=["begun","room","longer","deal","who","most"]
noncomputable abbrev mE:List Str:=["_law_number","_law_hands"]
noncomputable abbrev kQ:List Str:=["thing","least","most"]
noncomputable abbrev gN:List Str:=["self","cards","sizes"]
noncomputable abbrev mF:List Str:=["_law_table","_law_deed_here"]
noncomputable abbrev o0:List Str:=["cards","hands","thing","words","level"]
noncomputable abbrev pb:List Str:=["view","truths","sure","least","truth"]
noncomputable abbrev vy:List Str:=["_law_table","_law_answers","_law_hands"]
noncomputable abbrev kR:List Str:=["self","hands","S"]
noncomputable abbrev rS:List Str:=["self","hand","holder","some","rising"]
noncomputable abbrev vz:List Str:=["_law_piles","_law_view","_law_place"]
noncomputable abbrev vA:List Str:=["_law_script","_law_k"]
noncomputable abbrev vB:List Str:=["_law_cards","_law_sizes","_law_found","_law_many"]
noncomputable abbrev vC:List Str:=["_law_piles","_law_view","_law_place","_law_other"]
noncomputable abbrev vD:List Str:=["_law_script","_law_at","_law_most"]
noncomputable abbrev rT:List Str:=["points","one","other","first","second"]
noncomputable abbrev vE:List Str:=["cards","sizes","room","begun","card"]
noncomputable abbrev rV:List Str:=["cards","sizes","many","left","size"]
noncomputable abbrev pc:List Str:=["deal","holder","rising"]
noncomputable abbrev vF:List Str:=["self","hand","holder","some"]
noncomputable abbrev mG:List Str:=["thing","bound"]
noncomputable abbrev rW:List Str:=["marks","firsts","thing","mark"]
noncomputable abbrev vG:List Str:=["self","hands","values"]
noncomputable abbrev zh:List Str:=["cards","hands","thing","form"]
noncomputable abbrev pi:List Str:=["fit","reason"]
noncomputable abbrev vH:List Str:=["table","sayings","turns"]
noncomputable abbrev mH:List Str:=["thing","cards"]
noncomputable abbrev vI:List Str:=["_law_cards","_law_sizes"]
noncomputable abbrev mI:List Str:=["deal","who"]
noncomputable abbrev vJ:List Str:=["views","truths","answers","view"]
noncomputable abbrev zi:List Str:=["_law_saying_here","_law_found","_law_part"]
noncomputable abbrev mJ:List Str:=["deals","hand"]
noncomputable abbrev kS:List Str:=["piles","view"]
noncomputable abbrev vK:List Str:=["points","one","other"]
noncomputable abbrev mK:List Str:=["view","values"]
noncomputable abbrev vL:List Str:=["deal","holder","rising","card"]
noncomputable abbrev mL:List Str:=["self","hand"]
noncomputable abbrev vM:List Str:=["thing","hands","least","hand"]
noncomputable abbrev vN:List Str:=["self","hands","values","hand"]
noncomputable abbrev vO:List Str:=["many","taken","ways","step"]
noncomputable abbrev vP:List Str:=["view","truths"]
noncomputable abbrev rX:List Str:=["deals","views","S"]
noncomputable abbrev zj:List Str:=["_law_script","_law_k","_law_number"]
noncomputable abbrev vQ:List Str:=["points","thing"]
noncomputable abbrev zk:List Str:=["_law_many","_law_found","_law_k"]
noncomputable abbrev vR:List Str:=["thing","hands"]
noncomputable abbrev rY:List Str:=["_law_saying_here"]
noncomputable abbrev vS:List Str:=["many","answers"]
noncomputable abbrev vT:List Str:=["views","truths"]
noncomputable abbrev mM:List Str:=["self","S"]
noncomputable abbrev zl:List Str:=["sayings","parts","saying"]
noncomputable abbrev vU:List Str:=["many","taken"]
noncomputable abbrev vV:List Str:=["begun","room"]
noncomputable abbrev vW:List Str:=["many","views"]
noncomputable abbrev zm:List Str:=["_law_hand","_law_table"]
noncomputable abbrev Df:List Str:=["place","part","cards","hands"]
noncomputable abbrev zn:List Str:=["points","thing","end"]
noncomputable abbrev HS:List Str:=["_law_k","_law_cards","_law_script","_law_at"]
noncomputable abbrev rZ:List Str:=["one","other"]
noncomputable abbrev vX:List Str:=["_law_many"]
noncomputable abbrev pj:List Str:=["thing"]
noncomputable abbrev r0:List Str:=["_law_script"]
noncomputable abbrev HU:List Str:=["_law_turn","_law_place","_law_answers"]
noncomputable abbrev Dg:List Str:=["pile","least","piles"]
noncomputable abbrev vY:List Str:=["sayings"]
noncomputable abbrev Dh:List Str:=["card","holder","who"]
noncomputable abbrev zo:List Str:=["saying","form"]
noncomputable abbrev vZ:List Str:=["saying"]
noncomputable abbrev Hb (P:Program) (w:World) (K:Fg) (mg:Str->Option Value) (base:Heap) (G:GF) (k:Nat):Prop:=FnB P w K mg base k "play" vH (wR K G)
noncomputable abbrev Hc (P:Program) (w:World) (K:Fg) (mg:Str->Option Value) (base:Heap) (k:Nat):Prop:=FnB P w K mg base k "first_turns" vS (jC K)
noncomputable abbrev Di (P:Program) (w:World) (K:Fg) (mg:Str->Option Value) (base:Heap) (k:Nat):Prop:=FnB P w K mg base k "is_whole" pj (g0 K)
noncomputable abbrev AN (P:Program) (w:World) (K:Fg) (mg:Str->Option Value) (base:Heap) (k:Nat):Prop:=FnB P w K mg base k "is_within" kQ (dS K)
noncomputable abbrev w5 (P:Program) (w:World) (K:Fg) (mg:Str->Option Value) (base:Heap) (k:Nat):Prop:=FnB P w K mg base k "is_below" mG (de K)
noncomputable abbrev Dj (P:Program) (w:World) (K:Fg) (mg:Str->Option Value) (base:Heap) (k:Nat):Prop:=FnB P w K mg base k "are_hands" vR (iS K)
noncomputable abbrev He (P:Program) (w:World) (K:Fg) (mg:Str->Option Value) (base:Heap) (k:Nat):Prop:=FnB P w K mg base k "is_pack" dH (oJ K)
noncomputable abbrev Hf (P:Program) (w:World) (K:Fg) (mg:Str->Option Value) (base:Heap) (k:Nat):Prop:=FnB P w K mg base k "choices" vU (oK K)
noncomputable abbrev Hg (P:Program) (w:World) (K:Fg) (mg:Str->Option Value) (base:Heap) (k:Nat):Prop:=FnB P w K mg base k "how_many" dH (m8 K)
noncomputable abbrev Hh (P:Program) (w:World) (K:Fg) (mg:Str->Option Value) (base:Heap) (k:Nat):Prop:=FnB P w K mg base k "with_one_more" vV (iw K)
noncomputable abbrev zp (P:Program) (w:World) (K:Fg) (mg:Str->Option Value) (base:Heap) (k:Nat):Prop:=FnB P w K mg base k "deals_of" dH (jM K)
noncomputable abbrev v2 (P:Program) (w:World) (K:Fg) (mg:Str->Option Value) (base:Heap) (k:Nat):Prop:=FnB P w K mg base k "cards_of" mI (g9 K)
noncomputable abbrev Dk (P:Program) (w:World) (K:Fg) (mg:Str->Option Value) (base:Heap) (k:Nat):Prop:=FnB P w K mg base k "is_word" jX (oS K)
noncomputable abbrev Dl (P:Program) (w:World) (K:Fg) (mg:Str->Option Value) (base:Heap) (k:Nat):Prop:=FnB P w K mg base k "parts_of_all" vY (iU K)
noncomputable abbrev Dm (P:Program) (w:World) (K:Fg) (mg:Str->Option Value) (base:Heap) (k:Nat):Prop:=FnB P w K mg base k "is_saying" jX (lx K)
noncomputable abbrev Dn (P:Program) (w:World) (K:Fg) (mg:Str->Option Value) (base:Heap) (k:Nat):Prop:=FnB P w K mg base k "fits" jW (wL K)
noncomputable abbrev Do (P:Program) (w:World) (K:Fg) (mg:Str->Option Value) (base:Heap) (k:Nat):Prop:=FnB P w K mg base k "parts_of" vZ (m9 K)
noncomputable abbrev zq (P:Program) (w:World) (K:Fg) (mg:Str->Option Value) (base:Heap) (k:Nat):Prop:=FnB P w K mg base k "least_with_same" ["marks"] (em K)
noncomputable abbrev Dp (P:Program) (w:World) (K:Fg) (mg:Str->Option Value) (base:Heap) (k:Nat):Prop:=FnB P w K mg base k "first_view" mJ (kf K)
noncomputable abbrev Dq (P:Program) (w:World) (K:Fg) (mg:Str->Option Value) (base:Heap) (k:Nat):Prop:=FnB P w K mg base k "split" mK (tI K)
noncomputable abbrev zr (P:Program) (w:World) (K:Fg) (mg:Str->Option Value) (base:Heap) (k:Nat):Prop:=FnB P w K mg base k "end_of" vQ (j6 K)
noncomputable abbrev Dr (P:Program) (w:World) (K:Fg) (mg:Str->Option Value) (base:Heap) (k:Nat):Prop:=FnB P w K mg base k "link" vK (wJ K)
noncomputable abbrev Ds (P:Program) (w:World) (K:Fg) (mg:Str->Option Value) (base:Heap) (k:Nat):Prop:=FnB P w K mg base k "joined" vW (qD K)
noncomputable abbrev zt (P:Program) (w:World) (K:Fg) (mg:Str->Option Value) (base:Heap) (k:Nat):Prop:=FnB P w K mg base k "both" d3 (rH K)
noncomputable abbrev Dt (P:Program) (w:World) (K:Fg) (mg:Str->Option Value) (base:Heap) (k:Nat):Prop:=FnB P w K mg base k "either" d3 (qF K)
noncomputable abbrev v3 (P:Program) (w:World) (K:Fg) (mg:Str->Option Value) (base:Heap) (k:Nat):Prop:=FnB P w K mg base k "known" vP (jw K)
noncomputable abbrev Du (P:Program) (w:World) (K:Fg) (mg:Str->Option Value) (base:Heap) (k:Nat):Prop:=FnB P w K mg base k "known_to_all" vT (iR K)
noncomputable abbrev Dv (P:Program) (w:World) (K:Fg) (mg:Str->Option Value) (base:Heap) (k:Nat):Prop:=FnB P w K mg base k "seen" kS (wK K)
noncomputable abbrev v4 (P:Program) (w:World) (K:Fg) (mg:Str->Option Value) (base:Heap) (k:Nat):Prop:=FnB P w K mg base k "refuse_unless" pi (cv K)
noncomputable abbrev Dw (P:Program) (w:World) (K:Fg) (mg:Str->Option Value) (base:Heap) (k:Nat):Prop:=FnB P w K mg base k "are_cards" mH (lz K)
noncomputable abbrev Dy (P:Program) (w:World) (K:Fg) (mg:Str->Option Value) (base:Heap) (k:Nat):Prop:=FnB P w K mg base k "least_held" pc (ki K)
noncomputable abbrev pA (P:Program) (w:World) (K:Fg) (mg:Str->Option Value) (base:Heap) (k:Nat):Prop:=FnB P w K mg base k "_law_cell" vA (bm K)
noncomputable abbrev Dz (P:Program) (w:World) (K:Fg) (mg:Str->Option Value) (base:Heap) (k:Nat):Prop:=FnB P w K mg base k "_law_product" vX (fV K)
noncomputable abbrev DC (P:Program) (w:World) (K:Fg) (mg:Str->Option Value) (base:Heap) (k:Nat):Prop:=FnB P w K mg base k "_law_count" vI (hU K)
noncomputable abbrev DD (P:Program) (w:World) (K:Fg) (mg:Str->Option Value) (base:Heap) (k:Nat):Prop:=FnB P w K mg base k "_law_pack" vD (lp K)
noncomputable abbrev zu (P:Program) (w:World) (K:Fg) (mg:Str->Option Value) (base:Heap) (k:Nat):Prop:=FnB P w K mg base k "_law_group" mE (dw K)
noncomputable abbrev DE (P:Program) (w:World) (K:Fg) (mg:Str->Option Value) (base:Heap) (k:Nat):Prop:=FnB P w K mg base k "_law_pool" nj (ly K)
noncomputable abbrev HV (P:Program) (w:World) (K:Fg) (mg:Str->Option Value) (base:Heap) (k:Nat):Prop:=FnB P w K mg base k "_law_words" rY (d5 K 70)
noncomputable abbrev DF (P:Program) (w:World) (K:Fg) (mg:Str->Option Value) (base:Heap) (k:Nat):Prop:=FnB P w K mg base k "_law_saying" vv (gK K)
noncomputable abbrev DG (P:Program) (w:World) (K:Fg) (mg:Str->Option Value) (base:Heap) (k:Nat):Prop:=FnB P w K mg base k "_law_deed" nj (lC K)
noncomputable abbrev DH (P:Program) (w:World) (K:Fg) (mg:Str->Option Value) (base:Heap) (G:GF) (k:Nat):Prop:=FnB P w K mg base k "_law_done" mF (lD K G)
noncomputable abbrev DI (P:Program) (w:World) (K:Fg) (mg:Str->Option Value) (base:Heap) (k:Nat):Prop:=FnB P w K mg base k "_law_doubts" vz (jD K)
noncomputable abbrev DJ (P:Program) (w:World) (K:Fg) (mg:Str->Option Value) (base:Heap) (G:GF) (k:Nat):Prop:=FnB P w K mg base k "_law_walked" vx (jE K G)
noncomputable abbrev DK (P:Program) (w:World) (K:Fg) (mg:Str->Option Value) (base:Heap) (G:GF) (k:Nat):Prop:=FnB P w K mg base k "_law_rests" vy (km K G)
noncomputable abbrev HW (P:Program) (w:World) (K:Fg) (mg:Str->Option Value) (base:Heap) (k:Nat):Prop:=FnB P w K mg base k "truths_of" rX (b9 K 35)
noncomputable abbrev Hi (P:Program) (w:World) (K:Fg) (mg:Str->Option Value) (base:Heap) (G:GF) (k:Nat):Prop:=FnM P w K mg base k G.Table "again" ["self"] (jz K G)
noncomputable abbrev w6 (P:Program) (w:World) (K:Fg) (mg:Str->Option Value) (base:Heap) (G:GF) (k:Nat):Prop:=FnM P w K mg base k G.Table "word" kR (d6 K G)
noncomputable abbrev Hj (P:Program) (w:World) (K:Fg) (mg:Str->Option Value) (base:Heap) (G:GF) (k:Nat):Prop:=FnM P w K mg base k G.Table "show" vF (kj K G)
noncomputable abbrev DL (P:Program) (w:World) (K:Fg) (mg:Str->Option Value) (base:Heap) (G:GF) (k:Nat):Prop:=FnM P w K mg base k G.Table "view" mL (fE K G)
noncomputable abbrev DM (P:Program) (w:World) (K:Fg) (mg:Str->Option Value) (base:Heap) (G:GF) (k:Nat):Prop:=FnM P w K mg base k G.Table "learn" vG (gL K G)
noncomputable abbrev Hk (P:Program) (w:World) (K:Fg) (mg:Str->Option Value) (base:Heap) (G:GF) (k:Nat):Prop:=FnM P w K mg base k G.Table "truths" mM (i4 K G)
seal L2.PE L2.PA L2.PS L2.PSs L2.PT L2.PW L2.PI L2.PG L2.PGs L2.PO L2.PTL L2.OpR L2.UnR L2.dc L2.SlR L2.IxR L2.FO
noncomputable def top (i:Nat):Stmt:=PySem.Challenge.pw_knowcards_k42_whole_plays_walked.main.body.getD i (.Pass ⟨0,0,0,0⟩)
noncomputable abbrev fF:Stmt:=top 2
theorem jF:aB oX vH (ab fF):=by walk_at "w"
theorem Hl:ah oX (ab fF) 0 "table":=by walk_at "v"
theorem tR:ah oX (ab fF) 1 "sayings":=by walk_at "v"
theorem Hn:ah oX (ab fF) 2 "turns":=by walk_at "v"
theorem pB:ah oX (ab fF) 3 "own":=by walk_at "v"
theorem Ho:ah oX (ab fF) 4 "everyone":=by walk_at "v"
theorem pD:ah oX (ab fF) 5 "told":=by walk_at "v"
theorem AO:ah oX (ab fF) 6 "still":=by walk_at "v"
theorem Hq:ah oX (ab fF) 7 "before":=by walk_at "v"
noncomputable abbrev cb:Stmt:=top 3
theorem fb:aB oY vS (ab cb):=by walk_at "w"
theorem mN:ah oY (ab cb) 0 "many":=by walk_at "v"
theorem wa:ah oY (ab cb) 1 "answers":=by walk_at "v"
theorem i9:ah oY (ab cb) 2 "firsts":=by walk_at "v"
theorem wb:ah oY (ab cb) 3 "turn":=by walk_at "v"
theorem wc:ah oY (ab cb) 4 "truths":=by walk_at "v"
theorem ja:ah oY (ab cb) 5 "deal":=by walk_at "v"
noncomputable abbrev jb:Stmt:=top 11
theorem BA:aB pj pj (ab jb):=by walk_at "w"
theorem qW:ah pj (ab jb) 0 "thing":=by walk_at "v"
noncomputable abbrev eL:Stmt:=top 12
theorem AQ:aB kQ kQ (ab eL):=by walk_at "w"
theorem pL:ah kQ (ab eL) 0 "thing":=by walk_at "v"
theorem yy:ah kQ (ab eL) 1 "least":=by walk_at "v"
theorem yz:ah kQ (ab eL) 2 "most":=by walk_at "v"
noncomputable abbrev gO:Stmt:=top 13
theorem BB:aB mG mG (ab gO):=by walk_at "w"
theorem AR:ah mG (ab gO) 0 "thing":=by walk_at "v"
theorem AS:ah mG (ab gO) 1 "bound":=by walk_at "v"
noncomputable abbrev dL:Stmt:=top 14
theorem jc:aB vM vR (ab dL):=by walk_at "w"
theorem pM:ah vM (ab dL) 0 "thing":=by walk_at "v"
theorem yA:ah vM (ab dL) 1 "hands":=by walk_at "v"
theorem yB:ah vM (ab dL) 2 "least":=by walk_at "v"
theorem pN:ah vM (ab dL) 3 "hand":=by walk_at "v"
noncomputable abbrev gq:Stmt:=top 19
theorem DN:aB dH dH (ab gq):=by walk_at "w"
theorem sO:ah dH (ab gq) 0 "cards":=by walk_at "v"
theorem jY:ah dH (ab gq) 1 "sizes":=by walk_at "v"
noncomputable abbrev dI:Stmt:=top 20
theorem fO:aB rV dH (ab dI):=by walk_at "w"
theorem qX:ah rV (ab dI) 0 "cards":=by walk_at "v"
theorem qY:ah rV (ab dI) 1 "sizes":=by walk_at "v"
theorem qZ:ah rV (ab dI) 2 "many":=by walk_at "v"
theorem rc:ah rV (ab dI) 3 "left":=by walk_at "v"
theorem re:ah rV (ab dI) 4 "size":=by walk_at "v"
noncomputable abbrev fk:Stmt:=top 21
theorem kT:aB vO vU (ab fk):=by walk_at "w"
theorem BC:ah vO (ab fk) 0 "many":=by walk_at "v"
theorem BD:ah vO (ab fk) 1 "taken":=by walk_at "v"
theorem sP:ah vO (ab fk) 2 "ways":=by walk_at "v"
theorem sQ:ah vO (ab fk) 3 "step":=by walk_at "v"
noncomputable abbrev eC:Stmt:=top 22
theorem hJ:aB vE dH (ab eC):=by walk_at "w"
theorem lJ:ah vE (ab eC) 0 "cards":=by walk_at "v"
theorem lK:ah vE (ab eC) 1 "sizes":=by walk_at "v"
theorem AT:ah vE (ab eC) 2 "room":=by walk_at "v"
theorem rf:ah vE (ab eC) 3 "begun":=by walk_at "v"
noncomputable abbrev bL:Stmt:=top 23
theorem dW:aB oZ vV (ab bL):=by walk_at "w"
theorem sk:ah oZ (ab bL) 0 "begun":=by walk_at "v"
theorem sn:ah oZ (ab bL) 1 "room":=by walk_at "v"
theorem ku:ah oZ (ab bL) 2 "longer":=by walk_at "v"
theorem kB:ah oZ (ab bL) 3 "deal":=by walk_at "v"
theorem kC:ah oZ (ab bL) 4 "who":=by walk_at "v"
theorem so:ah oZ (ab bL) 5 "most":=by walk_at "v"
noncomputable abbrev gP:Stmt:=top 24
theorem BE:aB mI mI (ab gP):=by walk_at "w"
theorem AU:ah mI (ab gP) 0 "deal":=by walk_at "v"
noncomputable abbrev cH:Stmt:=top 28
theorem gr:aB o0 jX (ab cH):=by walk_at "w"
theorem yC:ah o0 (ab cH) 0 "cards":=by walk_at "v"
theorem yD:ah o0 (ab cH) 1 "hands":=by walk_at "v"
theorem yE:ah o0 (ab cH) 2 "thing":=by walk_at "v"
theorem pO:ah o0 (ab cH) 3 "words":=by walk_at "v"
theorem ie:ah o0 (ab cH) 4 "level":=by walk_at "v"
noncomputable abbrev gu:Stmt:=top 29
theorem we:aB zh jX (ab gu):=by walk_at "w"
theorem eM:ah zh (ab gu) 2 "thing":=by walk_at "v"
theorem sR:ah zh (ab gu) 3 "form":=by walk_at "v"
noncomputable abbrev ka:Stmt:=top 30
theorem Jp:aB jW jW (ab ka):=by walk_at "w"
theorem Hr:ah jW (ab ka) 0 "cards":=by walk_at "v"
theorem tS:ah jW (ab ka) 1 "hands":=by walk_at "v"
theorem pE:ah jW (ab ka) 2 "place":=by walk_at "v"
theorem pF:ah jW (ab ka) 3 "part":=by walk_at "v"
noncomputable abbrev fB:Stmt:=top 31
theorem sS:aB zo vZ (ab fB):=by walk_at "w"
theorem rg:ah zo (ab fB) 0 "saying":=by walk_at "v"
theorem AV:ah zo (ab fB) 1 "form":=by walk_at "v"
noncomputable abbrev cX:Stmt:=top 32
theorem jd:aB zl vY (ab cX):=by walk_at "w"
theorem tT:ah zl (ab cX) 0 "sayings":=by walk_at "v"
theorem lL:ah zl (ab cX) 1 "parts":=by walk_at "v"
theorem tU:ah zl (ab cX) 2 "saying":=by walk_at "v"
noncomputable abbrev fc:Stmt:=top 34
theorem yF:aB mJ mJ (ab fc):=by walk_at "w"
theorem w9:ah mJ (ab fc) 0 "deals":=by walk_at "v"
noncomputable abbrev k9:Stmt:=top 35
theorem Hs:aB mK mK (ab k9):=by walk_at "w"
theorem FB:ah mK (ab k9) 0 "view":=by walk_at "v"
theorem FC:ah mK (ab k9) 1 "values":=by walk_at "v"
noncomputable abbrev bF:Stmt:=top 36
theorem eD:aB rW ["marks"] (ab bF):=by walk_at "w"
theorem jp:ah rW (ab bF) 0 "marks":=by walk_at "v"
theorem p9:ah rW (ab bF) 1 "firsts":=by walk_at "v"
theorem qa:ah rW (ab bF) 2 "thing":=by walk_at "v"
theorem qb:ah rW (ab bF) 3 "mark":=by walk_at "v"
noncomputable abbrev dX:Stmt:=top 37
theorem kb:aB mD vW (ab dX):=by walk_at "w"
theorem wf:ah mD (ab dX) 0 "many":=by walk_at "v"
theorem DO:ah mD (ab dX) 1 "views":=by walk_at "v"
theorem DP:ah mD (ab dX) 2 "points":=by walk_at "v"
theorem DQ:ah mD (ab dX) 3 "view":=by walk_at "v"
theorem DR:ah mD (ab dX) 4 "thing":=by walk_at "v"
theorem DS:ah mD (ab dX) 5 "least":=by walk_at "v"
noncomputable abbrev je:Stmt:=top 38
theorem xc:aB rT vK (ab je):=by walk_at "w"
theorem tV:ah rT (ab je) 0 "points":=by walk_at "v"
theorem Ht:ah rT (ab je) 1 "one":=by walk_at "v"
theorem Hu:ah rT (ab je) 2 "other":=by walk_at "v"
theorem AW:ah rT (ab je) 3 "first":=by walk_at "v"
theorem AX:ah rT (ab je) 4 "second":=by walk_at "v"
noncomputable abbrev iC:Stmt:=top 39
theorem rh:aB zn vQ (ab iC):=by walk_at "w"
theorem jf:ah zn (ab iC) 0 "points":=by walk_at "v"
theorem DT:ah zn (ab iC) 1 "thing":=by walk_at "v"
theorem gQ:ah zn (ab iC) 2 "end":=by walk_at "v"
noncomputable abbrev bN:Stmt:=top 41
theorem gx:aB lI rX (ab bN):=by walk_at "w"
theorem cr:ah lI (ab bN) 0 "deals":=by walk_at "v"
theorem cQ:ah lI (ab bN) 1 "views":=by walk_at "v"
theorem cc:ah lI (ab bN) 2 "S":=by walk_at "v"
theorem dC:ah lI (ab bN) 3 "word":=by walk_at "v"
theorem ko:ah lI (ab bN) 4 "inner":=by walk_at "v"
theorem pP:ah lI (ab bN) 5 "some":=by walk_at "v"
noncomputable abbrev lM:Stmt:=top 42
theorem Jq:aB d3 d3 (ab lM):=by walk_at "w"
theorem Hv:ah d3 (ab lM) 0 "ones":=by walk_at "v"
theorem Hw:ah d3 (ab lM) 1 "others":=by walk_at "v"
noncomputable abbrev iD:Stmt:=top 43
theorem FD:aB d3 d3 (ab iD):=by walk_at "w"
theorem DU:ah d3 (ab iD) 0 "ones":=by walk_at "v"
theorem DV:ah d3 (ab iD) 1 "others":=by walk_at "v"
noncomputable abbrev fP:Stmt:=top 44
theorem pG:aB pb vP (ab fP):=by walk_at "w"
theorem rj:ah pb (ab fP) 0 "view":=by walk_at "v"
theorem FE:ah pb (ab fP) 1 "truths":=by walk_at "v"
theorem FF:ah pb (ab fP) 2 "sure":=by walk_at "v"
theorem FG:ah pb (ab fP) 3 "least":=by walk_at "v"
theorem FH:ah pb (ab fP) 4 "truth":=by walk_at "v"
noncomputable abbrev cB:Stmt:=top 45
theorem fY:aB vJ vT (ab cB):=by walk_at "w"
theorem tW:ah vJ (ab cB) 0 "views":=by walk_at "v"
theorem lN:ah vJ (ab cB) 1 "truths":=by walk_at "v"
theorem lO:ah vJ (ab cB) 2 "answers":=by walk_at "v"
theorem tX:ah vJ (ab cB) 3 "view":=by walk_at "v"
noncomputable abbrev lP:Stmt:=top 46
theorem Jr:aB kS kS (ab lP):=by walk_at "w"
theorem Hx:ah kS (ab lP) 0 "piles":=by walk_at "v"
theorem AY:ah kS (ab lP) 1 "view":=by walk_at "v"
noncomputable abbrev eE:Stmt:=top 49
theorem tY:aB pi pi (ab eE):=by walk_at "w"
theorem sr:ah pi (ab eE) 0 "fit":=by walk_at "v"
noncomputable abbrev fQ:Stmt:=top 50
theorem AZ:aB mH mH (ab fQ):=by walk_at "w"
theorem pQ:ah mH (ab fQ) 0 "thing":=by walk_at "v"
noncomputable abbrev dm:Stmt:=top 51
theorem pR:aB vL pc (ab dm):=by walk_at "w"
theorem xf:ah vL (ab dm) 0 "deal":=by walk_at "v"
theorem xg:ah vL (ab dm) 1 "holder":=by walk_at "v"
theorem xh:ah vL (ab dm) 2 "rising":=by walk_at "v"
theorem nL:ah vL (ab dm) 3 "card":=by walk_at "v"
noncomputable abbrev eN:Stmt:=top 53
theorem jg:aB zj vA (ab eN):=by walk_at "w"
theorem fG:ah zj (ab eN) 0 "_law_script":=by walk_at "v"
theorem d7:ah zj (ab eN) 1 "_law_k":=by walk_at "v"
theorem ig:ah zj (ab eN) 2 "_law_number":=by walk_at "v"
noncomputable abbrev cY:Stmt:=top 54
theorem fZ:aB zk vX (ab cY):=by walk_at "w"
theorem tZ:ah zk (ab cY) 0 "_law_many":=by walk_at "v"
theorem lQ:ah zk (ab cY) 1 "_law_found":=by walk_at "v"
theorem t0:ah zk (ab cY) 2 "_law_k":=by walk_at "v"
noncomputable abbrev dn:Stmt:=top 55
theorem ii:aB vB vI (ab dn):=by walk_at "w"
theorem nN:ah vB (ab dn) 0 "_law_cards":=by walk_at "v"
theorem nO:ah vB (ab dn) 1 "_law_sizes":=by walk_at "v"
theorem nP:ah vB (ab dn) 2 "_law_found":=by walk_at "v"
theorem xk:ah vB (ab dn) 3 "_law_many":=by walk_at "v"
noncomputable abbrev cI:Stmt:=top 56
theorem ff:aB tQ vD (ab cI):=by walk_at "w"
theorem fH:ah tQ (ab cI) 0 "_law_script":=by walk_at "v"
theorem fI:ah tQ (ab cI) 1 "_law_at":=by walk_at "v"
theorem yG:ah tQ (ab cI) 2 "_law_most":=by walk_at "v"
theorem fJ:ah tQ (ab cI) 3 "_law_cards":=by walk_at "v"
theorem ce:ah tQ (ab cI) 4 "_law_sizes":=by walk_at "v"
theorem yH:ah tQ (ab cI) 5 "_law_k":=by walk_at "v"
noncomputable abbrev dY:Stmt:=top 57
theorem fK:aB zi rY (ab dY):=by walk_at "w"
theorem xl:ah zi (ab dY) 0 "_law_saying_here":=by walk_at "v"
theorem nQ:ah zi (ab dY) 1 "_law_found":=by walk_at "v"
theorem gR:ah zi (ab dY) 2 "_law_part":=by walk_at "v"
noncomputable abbrev fg:Stmt:=top 58
theorem yI:aB mE mE (ab fg):=by walk_at "w"
theorem xm:ah mE (ab fg) 1 "_law_hands":=by walk_at "v"
noncomputable abbrev cn:Stmt:=top 59
theorem jh:aB qU nj (ab cn):=by walk_at "w"
theorem pS:ah qU (ab cn) 0 "_law_script":=by walk_at "v"
theorem pT:ah qU (ab cn) 1 "_law_at":=by walk_at "v"
theorem pU:ah qU (ab cn) 2 "_law_cards":=by walk_at "v"
theorem pV:ah qU (ab cn) 3 "_law_hands":=by walk_at "v"
theorem pW:ah qU (ab cn) 4 "_law_pool_here":=by walk_at "v"
theorem yJ:ah qU (ab cn) 5 "_law_k":=by walk_at "v"
theorem pX:ah qU (ab cn) 6 "_law_cell_here":=by walk_at "v"
noncomputable abbrev bi:Stmt:=top 60
theorem bH:aB kn vv (ab bi):=by walk_at "w"
theorem ji:ah kn (ab bi) 0 "_law_script":=by walk_at "v"
theorem jj:ah kn (ab bi) 1 "_law_at":=by walk_at "v"
theorem wg:ah kn (ab bi) 2 "_law_cards":=by walk_at "v"
theorem ci:ah kn (ab bi) 3 "_law_hands":=by walk_at "v"
theorem wj:ah kn (ab bi) 4 "_law_most":=by walk_at "v"
theorem eF:ah kn (ab bi) 5 "_law_pool_here":=by walk_at "v"
theorem wk:ah kn (ab bi) 6 "_law_k":=by walk_at "v"
theorem bO:ah kn (ab bi) 7 "_law_cell_here":=by walk_at "v"
theorem bX:ah kn (ab bi) 8 "_law_one":=by walk_at "v"
theorem cN:ah kn (ab bi) 9 "_law_other":=by walk_at "v"
theorem cZ:ah kn (ab bi) 10 "_law_some":=by walk_at "v"
noncomputable abbrev cp:Stmt:=top 61
theorem lR:aB qV nj (ab cp):=by walk_at "w"
theorem kr:ah qV (ab cp) 0 "_law_script":=by walk_at "v"
theorem kt:ah qV (ab cp) 1 "_law_at":=by walk_at "v"
theorem pY:ah qV (ab cp) 2 "_law_cards":=by walk_at "v"
theorem ij:ah qV (ab cp) 3 "_law_hands":=by walk_at "v"
theorem ik:ah qV (ab cp) 4 "_law_cell_here":=by walk_at "v"
theorem yK:ah qV (ab cp) 5 "_law_some":=by walk_at "v"
noncomputable abbrev fR:Stmt:=top 63
theorem A0:aB mF mF (ab fR):=by walk_at "w"
theorem pZ:ah mF (ab fR) 0 "_law_table":=by walk_at "v"
theorem d8:ah mF (ab fR) 1 "_law_deed_here":=by walk_at "v"
noncomputable abbrev cR:Stmt:=top 64
theorem nR:aB vC vz (ab cR):=by walk_at "w"
theorem jk:ah vC (ab cR) 0 "_law_piles":=by walk_at "v"
theorem mO:ah vC (ab cR) 1 "_law_view":=by walk_at "v"
theorem mP:ah vC (ab cR) 2 "_law_place":=by walk_at "v"
theorem mQ:ah vC (ab cR) 3 "_law_other":=by walk_at "v"
noncomputable abbrev bz:Stmt:=top 65
theorem dO:aB nh vx (ab bz):=by walk_at "w"
theorem mR:ah nh (ab bz) 0 "_law_table":=by walk_at "v"
theorem wl:ah nh (ab bz) 1 "_law_answers":=by walk_at "v"
theorem mS:ah nh (ab bz) 2 "_law_piles":=by walk_at "v"
theorem jl:ah nh (ab bz) 3 "_law_hands":=by walk_at "v"
theorem wm:ah nh (ab bz) 4 "_law_whole":=by walk_at "v"
theorem mT:ah nh (ab bz) 5 "_law_turn":=by walk_at "v"
theorem mU:ah nh (ab bz) 6 "_law_truths":=by walk_at "v"
theorem wn:ah nh (ab bz) 7 "_law_view":=by walk_at "v"
theorem mV:ah nh (ab bz) 8 "_law_place":=by walk_at "v"
noncomputable abbrev bI:Stmt:=top 66
theorem fL:aB ni vy (ab bI):=by walk_at "w"
theorem xn:ah ni (ab bI) 0 "_law_table":=by walk_at "v"
theorem nU:ah ni (ab bI) 1 "_law_answers":=by walk_at "v"
theorem dP:ah ni (ab bI) 2 "_law_hands":=by walk_at "v"
theorem xo:ah ni (ab bI) 3 "_law_ahead":=by walk_at "v"
theorem xp:ah ni (ab bI) 4 "_law_k":=by walk_at "v"
theorem nV:ah ni (ab bI) 5 "_law_turn":=by walk_at "v"
theorem xq:ah ni (ab bI) 6 "_law_truths":=by walk_at "v"
noncomputable abbrev du:Stmt:=top 67
theorem fh:aB gp r0 (ab du):=by walk_at "w"
theorem r6:ah gp (ab du) 0 "_law_script":=by walk_at "v"
theorem xr:ah gp (ab du) 1 "_law_cards":=by walk_at "v"
theorem xt:ah gp (ab du) 2 "_law_sizes":=by walk_at "v"
theorem nW:ah gp (ab du) 3 "_law_hands":=by walk_at "v"
theorem r9:ah gp (ab du) 4 "_law_deals":=by walk_at "v"
theorem Js:ah gp (ab du) 5 "_law_piles":=by walk_at "v"
theorem sf:ah gp (ab du) 6 "_law_table":=by walk_at "v"
theorem Jt:ah gp (ab du) 7 "_law_k":=by walk_at "v"
theorem xu:ah gp (ab du) 8 "_law_turns":=by walk_at "v"
theorem jG:ah gp (ab du) 9 "_law_answers":=by walk_at "v"
theorem A1:ah gp (ab du) 10 "_law_found":=by walk_at "v"
theorem Hy:ah gp (ab du) 11 "_law_place":=by walk_at "v"
theorem Hz:ah gp (ab du) 12 "_law_some":=by walk_at "v"
noncomputable abbrev dq:Stmt:=ju (top 48) 0
theorem yL:aB gN gN (ab dq):=by walk_at "w"
theorem da:ah gN (ab dq) 0 "self":=by walk_at "v"
theorem nX:ah gN (ab dq) 1 "cards":=by walk_at "v"
theorem jH:ah gN (ab dq) 2 "sizes":=by walk_at "v"
noncomputable abbrev fi:Stmt:=ju (top 48) 2
theorem yM:aB mL mL (ab fi):=by walk_at "w"
theorem nY:ah mL (ab fi) 0 "self":=by walk_at "v"
theorem nZ:ah mL (ab fi) 1 "hand":=by walk_at "v"
noncomputable abbrev dZ:Stmt:=ju (top 48) 3
theorem yN:aB kR kR (ab dZ):=by walk_at "w"
theorem jI:ah kR (ab dZ) 0 "self":=by walk_at "v"
theorem n9:ah kR (ab dZ) 1 "hands":=by walk_at "v"
theorem xv:ah kR (ab dZ) 2 "S":=by walk_at "v"
noncomputable abbrev cO:Stmt:=ju (top 48) 4
theorem p0:aB rS vF (ab cO):=by walk_at "w"
theorem fj:ah rS (ab cO) 0 "self":=by walk_at "v"
theorem og:ah rS (ab cO) 1 "hand":=by walk_at "v"
theorem xw:ah rS (ab cO) 2 "holder":=by walk_at "v"
theorem oh:ah rS (ab cO) 3 "some":=by walk_at "v"
noncomputable abbrev dQ:Stmt:=ju (top 48) 5
theorem wo:aB mM mM (ab dQ):=by walk_at "w"
theorem fC:ah mM (ab dQ) 0 "self":=by walk_at "v"
theorem lT:ah mM (ab dQ) 1 "S":=by walk_at "v"
noncomputable abbrev d9:Stmt:=ju (top 48) 7
theorem oj:aB ["self","other"] ["self"] (ab d9):=by walk_at "w"
theorem ga:ah ["self","other"] (ab d9) 0 "self":=by walk_at "v"
theorem jm:ah ["self","other"] (ab d9) 1 "other":=by walk_at "v"
noncomputable abbrev cS:Stmt:=ju (top 48) 8
theorem ol:aB vN vG (ab cS):=by walk_at "w"
theorem jn:ah vN (ab cS) 0 "self":=by walk_at "v"
theorem mW:ah vN (ab cS) 1 "hands":=by walk_at "v"
theorem jo:ah vN (ab cS) 2 "values":=by walk_at "v"
theorem mX:ah vN (ab cS) 3 "hand":=by walk_at "v"
section
variable {P:Program} {w:World} {K:Fg} {mg:Str->Option Value} {base:Heap} {f:Addr} {fd:L6}
theorem Ju (D:Def K mg "play" fF vH f fd) (B:Blt mg) {G:GF} (T:dF P w K mg G) (U10:Hi P w K mg base G 8) (U20:w6 P w K mg base G 41):Hb P w K mg base G 42:=by
 refine D.ok jF (by walk_at "l") fun _ _ _ _ _ _ _ _ hr h=>?_
 have hux:=hr.units64
 exact ⟨vg K G,(ag (ay (i:=3) jF.nd rfl (LN rfl) (Fe U10 (rmD hr) T.cl_Table (pvA Hl)))
  (ag (ay (i:=4) jF.nd rfl (LN rfl) (bD (qT rfl) rfl B.tuple Pf (aQ (bD mC rfl B.range Rp (be (b7 (pvA pB) rfl) ae)) ae)))
  (ag (ay (i:=5) jF.nd rfl (LN rfl) (dE ae))
  (ag (ay (i:=6) jF.nd rfl (LN rfl) ao)
  (ag (ou Me (PW.pt (np (aK rq (az aD rfl B.len MN (ad (pvA pD) ae)) (pvA Hn) (aL _)) (nn (aK rq (pvA AO) (az aD rfl B.len MN (ad (pvA tR) ae)) (aL _))))) (ag (ay (i:=7) jF.nd rfl (LN rfl) (bD jy rfl B.list ON (be (b7 (pvA pB) rfl) ae)))
  (ag (cU (lW Nk NT NU gf (pvA pD) (aQ (dU U20 (rmD hr) T.cl_Table (pvA pB) (ad (pvA Ho) (aP (aR bd (pvA tR) (aq br (az aD rfl B.len MN (ad (pvA pD) ae)) (az aD rfl B.len MN (ad (pvA tR) ae))) (fun _ _=>rfl)) ae))) ae)))
  (ai (ay (i:=6) jF.nd rfl (LN rfl) (FN (aK (KD hux) (b7 (pvA pB) rfl) (pvA Hq) (aL _)) (aq bp (pvA AO) ao) ao))))))
  (ai (aw (pvA pD)))))))),IU T.ct h⟩
theorem xy (D:Def K mg "first_turns" cb vS f fd) (B:Blt mg):Hc P w K mg base 1:=by
 refine D.ok fb (by walk_at "l") fun _ _ _ _ _ _ _ _ hr h=>?_
 exact ⟨h9 K,(ag (ay (i:=2) fb.nd rfl (LN rfl) (aq Ao (dE (ar ug ae)) (pvA mN)))
  (ag (bC Me rfl (kW bA rfl B.enumerate (by decide) (ad (pvA wa) ae)) (eR rfl (bg (ax (i:=3) fb.nd rfl (LN rfl)) (bg (ax (i:=4) fb.nd rfl (LN rfl)) dM))) (ai (bC Me rfl (bw rfl B.range (ad (pvA mN) ae)) (ax (i:=5) fb.nd rfl (LN rfl)) (ai (bf (PW.pt (np (aK Fu (aR bd (pvA i9) (pvA ja) (fun _ _=>rfl)) ug (aL _)) (nn (cx (aR bd (pvA wc) (pvA ja) (fun _ _=>rfl)))))) (ai (lc (pvA wb) (nv (pvA i9) (pvA ja) js))) aM)))))
  (ai (aw (pvA i9))))),wS h⟩
theorem BF (D:Def K mg "is_whole" jb pj f fd) (B:Blt mg):Di P w K mg base 1:=by
 refine D.ok BA (by walk_at "l") fun _ _ _ _ _ _ _ _ hr h=>?_
 exact ⟨uD K,(ai (aw (qd (az fv rfl B.isinstance N7 (ad (pvA qW) (ad (gy (v:=.ty "int") rfl B.int boot_int rfl) ae))) (nu (Ec (az fv rfl B.isinstance N7 (ad (pvA qW) (ad (gy (v:=.ty "bool") rfl B.bool boot_bool rfl) ae)))))))),Bl h⟩
theorem A2 (D:Def K mg "is_within" eL kQ f fd) (B:Blt mg) (U36:Di P w K mg base 1):AN P w K mg base 2:=by
 refine D.ok AQ (by walk_at "l") fun _ _ _ _ _ _ _ _ hr h=>?_
 exact ⟨sG K,(ai (aw (qd (ak U36 (rmD hr) (ad (pvA pL) ae)) (nu (FS yY yY (pvA yy) (pvA pL) (pvA yz)))))),Ab h⟩
theorem BG (D:Def K mg "is_below" gO mG f fd) (B:Blt mg) (U24:AN P w K mg base 2):w5 P w K mg base 3:=by
 refine D.ok BB (by walk_at "l") fun _ _ _ _ _ _ _ _ hr h=>?_
 exact ⟨kM K,(ai (aw (ak U24 (rmD hr) (ad (pvA AR) (ar ao (aG (aq gc (pvA AS) ao) ae)))))),Bu h⟩
theorem A3 (D:Def K mg "are_hands" dL vR f fd) (B:Blt mg) (U24:AN P w K mg base 2):Dj P w K mg base 3:=by
 refine D.ok jc (by walk_at "l") fun _ _ _ _ _ _ _ _ hr h=>?_
 exact ⟨jP K,(ag (bf (dD (cx (az fv rfl B.isinstance N7 (ad (pvA pM) (ad (gy (v:=.ty "tuple") rfl B.tuple Pf rfl) ae))))) (ai (aw cC)) aM)
  (ag (ay (i:=2) jc.nd rfl (LN rfl) ao)
  (ag (bC Me rfl (uh (pvA pM)) (ax (i:=3) jc.nd rfl (LN rfl)) (ag (bf (dD (cx (ak U24 (rmD hr) (ad (pvA pN) (ad (pvA yB) (aG (aq gc (pvA yA) ao) ae)))))) (ai (aw cC)) aM)
  (ai (ay (i:=2) jc.nd rfl (LN rfl) (aq bp (pvA pN) ao)))))
  (ai (aw cC))))),Ak h⟩
theorem DW (D:Def K mg "is_pack" gq dH f fd) (B:Blt mg) {t_MOST_CARDS:Tok} (m_MOST_CARDS:mg "MOST_CARDS"=some (.int 12 t_MOST_CARDS)) {t_MOST_HANDS:Tok} (m_MOST_HANDS:mg "MOST_HANDS"=some (.int 5 t_MOST_HANDS)) (U24:AN P w K mg base 2):He P w K mg base 3:=by
 refine D.ok DN (by walk_at "l") fun _ _ _ _ _ _ _ _ hr h=>?_
 exact ⟨xX K,(ag (bf (dD (cx (ak U24 (rmD hr) (ad (pvA sO) (ar ao (ad (jr (v:=(.int 12)) rfl m_MOST_CARDS ⟨_,rfl⟩) ae)))))) (ai (aw cC)) aM)
  (ag (bf (PW.pt (lU (dD (cx (az fv rfl B.isinstance N7 (ad (pvA jY) (ad (gy (v:=.ty "list") rfl B.list ON rfl) ae))))) (jZ (dD (cx (ak U24 (rmD hr) (aQ (az aD rfl B.len MN (ad (pvA jY) ae)) (ar ao (ad (jr (v:=(.int 5)) rfl m_MOST_HANDS ⟨_,rfl⟩) ae))))))))) (ai (aw cC)) aM)
  (ai (aw (qd (az (lY rfl) rfl B.all Uw (ca (bU (sc:=(ab gq)) (NX:=dH) (N:=["size","cards"]) (ix:=[none,some 0]) rfl (by walk_at "c") (cj (pvA jY)) (by intros; exact (ax (i:=0) (show (["size","cards"]:List Str).Nodup by decide +kernel) rfl (LN rfl))) (by intros; exact bQ) (by intros; exact (ak U24 (rmD hr) (ad (pv 0) (ar ao (ad (pv 1) ae)))))) ae)) (nu (kU yY (az (j3 rfl) rfl B.sum SV (ad (pvA jY) ae)) (pvA sO) (aL _)))))))),CO h⟩
theorem BH (D:Def K mg "how_many" dI dH f fd) (B:Blt mg) (U40:Hf P w K mg base 1) (U39:He P w K mg base 3):Hg P w K mg base 4:=by
 refine D.ok fO (by walk_at "l") fun _ _ _ _ _ _ _ _ hr h=>?_
 exact ⟨uF K,(ag (bf (dD (cx (ak U39 (rmD hr) (ad (pvA qX) (ad (pvA qY) ae))))) (ai oo) aM)
  (ag (ay (i:=2) fO.nd rfl (LN rfl) ao)
  (ag (ay (i:=3) fO.nd rfl (LN rfl) (pvA qX))
  (ag (bC Me rfl (cj (pvA qY)) (ax (i:=4) fO.nd rfl (LN rfl)) (ag (ay (i:=2) fO.nd rfl (LN rfl) (aq eV (pvA qZ) (ak U40 (rmD hr) (ad (pvA rc) (ad (pvA re) ae)))))
  (ai (ay (i:=3) fO.nd rfl (LN rfl) (aq gc (pvA rc) (pvA re))))))
  (ai (aw (pvA qZ))))))),Bm h⟩
theorem DX (D:Def K mg "choices" fk vU f fd) (B:Blt mg):Hf P w K mg base 1:=by
 refine D.ok kT (by walk_at "l") fun _ _ _ _ _ _ _ _ hr h=>?_
 exact ⟨xY K,(ag (ay (i:=2) kT.nd rfl (LN rfl) ao)
  (ag (bC Me rfl (bw rfl B.range (ad (pvA BD) ae)) (ax (i:=3) kT.nd rfl (LN rfl)) (ai (ay (i:=2) kT.nd rfl (LN rfl) (aq cy (aq eV (pvA sP) (aq gc (pvA BC) (pvA sQ))) (aq bp (pvA sQ) ao)))))
  (ai (aw (pvA sP))))),CP h⟩
theorem BI (D:Def K mg "deals_of" eC dH f fd) (B:Blt mg) {t_MOST_DEALS:Tok} (m_MOST_DEALS:mg "MOST_DEALS"=some (.int 2000 t_MOST_DEALS)) (U33:Hg P w K mg base 4) (U2:Hh P w K mg base 1):zp P w K mg base 5:=by
 refine D.ok hJ (by walk_at "l") fun _ _ _ _ _ _ _ _ hr h=>?_
 exact ⟨uG K,(ag (bf (aK kE (ak U33 (rmD hr) (ad (pvA lJ) (ad (pvA lK) ae))) (jr (v:=(.int 2000)) rfl m_MOST_DEALS ⟨_,rfl⟩) (aL _)) (ai oo) aM)
  (ag (ay (i:=2) hJ.nd rfl (LN rfl) (aq Es (pvA lK) (zA (aG (aq gc (pvA lJ) (az (j3 rfl) rfl B.sum SV (ad (pvA lK) ae))) ae))))
  (ag (ay (i:=3) hJ.nd rfl (LN rfl) (zA (bj (Em ae) ae)))
  (ag (bC Me rfl (bw rfl B.range (ad (pvA lJ) ae)) (ax (i:=4) hJ.nd rfl (LN rfl)) (ai (ay (i:=3) hJ.nd rfl (LN rfl) (ak U2 (rmD hr) (ad (pvA rf) (ad (pvA AT) ae))))))
  (ai (aw (pvA rf))))))),Bn h⟩
theorem t9 (D:Def K mg "with_one_more" bL vV f fd) (B:Blt mg):Hh P w K mg base 1:=by
 refine D.ok dW (by walk_at "l") fun _ _ _ _ _ _ _ _ hr h=>?_
 exact ⟨mi K,(ag (ay (i:=2) dW.nd rfl (LN rfl) (zA ae))
  (ag (bC Me rfl (cj (pvA sk)) (ax (i:=3) dW.nd rfl (LN rfl)) (ai (bC Me rfl (kW bA rfl B.enumerate (by decide) (ad (pvA sn) ae)) (eR rfl (bg (ax (i:=4) dW.nd rfl (LN rfl)) (bg (ax (i:=5) dW.nd rfl (LN rfl)) dM))) (ai (bf (aK rq (KP PySem.F.plainAttrs_tuple RG PySem.F.type_tuple_count EE (pvA kB) (ad (pvA kC) ae)) (pvA so) (aL _)) (ai (cU (lW Nk NT NU gf (pvA ku) (aG (aq Ip (pvA kB) (Em (ad (pvA kC) ae))) ae)))) aM)))))
  (ai (aw (pvA ku))))),tG h⟩
theorem BJ (D:Def K mg "cards_of" gP mI f fd) (B:Blt mg):v2 P w K mg base 1:=by
 refine D.ok BE (by walk_at "l") fun _ _ _ _ _ _ _ _ hr h=>?_
 exact ⟨uH K,(ai (aw (bD pH rfl B.tuple Pf (ca (bU (sc:=(ab gP)) (NX:=mI) (N:=Dh) (ix:=[none,none,some 1]) rfl (by walk_at "c") (kW iq rfl B.enumerate (by decide) (ad (pvA AU) ae)) (by intros; exact (eR rfl (bg (ax (i:=0) (show (Dh:List Str).Nodup by decide +kernel) rfl (LN rfl)) (bg (ax (i:=1) (show (Dh:List Str).Nodup by decide +kernel) rfl (LN rfl)) dM)))) (by intros; exact (rB (aK cJ (pv 1) (pv 2) (aL _)))) (by intros; exact (pv 0))) ae)))),Bo h⟩
theorem A4 (D:Def K mg "is_saying" cH jX f fd) (B:Blt mg) {t_MOST_WORDS:Tok} (m_MOST_WORDS:mg "MOST_WORDS"=some (.int 30 t_MOST_WORDS)) (U36:Di P w K mg base 1) (U41:Dk P w K mg base 5) (U6:Dl P w K mg base 2):Dm P w K mg base 6:=by
 refine D.ok gr (by walk_at "l") fun _ _ _ _ _ _ _ _ hr h=>?_
 exact ⟨jQ K,(ag (bf (PW.pt (lU (dD (cx (ak U36 (rmD hr) (ad (pvA yC) ae)))) (jZ (dD (cx (ak U36 (rmD hr) (ad (pvA yD) ae))))))) (ai (aw cC)) aM)
  (ag (ay (i:=3) gr.nd rfl (LN rfl) ao)
  (ag (ay (i:=4) gr.nd rfl (LN rfl) (dE (ad (pvA yE) ae)))
  (ag (ou Me (aK kE (az aD rfl B.len MN (ad (pvA ie) ae)) ao (aL _)) (ag (ay (i:=3) gr.nd rfl (LN rfl) (aq bp (pvA pO) (az aD rfl B.len MN (ad (pvA ie) ae))))
  (ag (bf (PW.pt (lU (aK kE (pvA pO) (jr (v:=(.int 30)) rfl m_MOST_WORDS ⟨_,rfl⟩) (aL _)) (jZ (dD (cx (az (lY rfl) rfl B.all Uw (ca (bU (sc:=(ab cH)) (NX:=o0) (N:=["one","cards","hands"]) (ix:=[none,some 0,some 1]) rfl (by walk_at "c") (cj (pvA ie)) (by intros; exact (ax (i:=0) (show (["one","cards","hands"]:List Str).Nodup by decide +kernel) rfl (LN rfl))) (by intros; exact bQ) (by intros; exact (ak U41 (rmD hr) (ad (pv 1) (ad (pv 2) (ad (pv 0) ae)))))) ae))))))) (ai (aw cC)) aM)
  (ai (ay (i:=4) gr.nd rfl (LN rfl) (ak U6 (rmD hr) (ad (pvA ie) ae)))))))
  (ai (aw cC)))))),Am h⟩
theorem DY (D:Def K mg "is_word" gu jX f fd) (B:Blt mg) {G:GF} (T:dF P w K mg G) (U47:Dn P w K mg base 4):Dk P w K mg base 5:=by
 refine D.ok we (by walk_at "l") fun _ _ _ _ _ _ _ _ hr h=>?_
 have m_FORMS:=T.tb.mf
 have d_FORMS:=T.tb.df
 exact ⟨mr K G.toGlo,(ag (bf (PW.pt (lU (dD (cx (az fv rfl B.isinstance N7 (ad (pvA eM) (ad (gy (v:=.ty "tuple") rfl B.tuple Pf rfl) ae))))) (jZ (aK cJ (az aD rfl B.len MN (ad (pvA eM) ae)) ao (aL _))))) (ai (aw cC)) aM)
  (ag (bf (PW.pt (lU (dD (cx (az fv rfl B.isinstance N7 (aP (aR bS (pvA eM) ao (fun _ _=>rfl)) (ad (gy (v:=.ty "str") rfl B.str boot_str rfl) ae))))) (jZ (aK (Aq d_FORMS) (aR bS (pvA eM) ao (fun _ _=>rfl)) (jr (v:=(.ref G.forms)) rfl m_FORMS rfl) rfl)))) (ai (aw cC)) aM)
  (ag (ay (i:=3) we.nd rfl (LN rfl) (Fd d_FORMS (jr (v:=(.ref G.forms)) rfl m_FORMS rfl) (aR bS (pvA eM) ao (fun _ _=>rfl)) (fun _ _=>rfl)))
  (ag (bf (aK Cp (az aD rfl B.len MN (ad (pvA eM) ae)) (aq bp ao (az aD rfl B.len MN (ad (pvA sR) ae))) (aL _)) (ai (aw cC)) aM)
  (ai (aw (az (lY rfl) rfl B.all Uw (ca (bU (sc:=(ab gu)) (NX:=zh) (N:=Df) (ix:=[none,none,some 0,some 1]) rfl (by walk_at "c") (nC iq iq rfl B.zip (ad (pvA sR) (aP (sY Ap (pvA eM) (wA ao) wz) ae))) (by intros; exact (eR rfl (bg (ax (i:=0) (show (Df:List Str).Nodup by decide +kernel) rfl (LN rfl)) (bg (ax (i:=1) (show (Df:List Str).Nodup by decide +kernel) rfl (LN rfl)) dM)))) (by intros; exact bQ) (by intros; exact (ak U47 (rmD hr) (ad (pv 2) (ad (pv 3) (ad (pv 0) (ad (pv 1) ae))))))) ae)))))))),CY T.tb.ok h⟩
theorem Jv (D:Def K mg "fits" ka jW f fd) (B:Blt mg) (U30:Dj P w K mg base 3) (U37:w5 P w K mg base 3):Dn P w K mg base 4:=by
 refine D.ok Jp (by walk_at "l") fun _ _ _ _ _ _ _ _ hr h=>?_
 exact ⟨uX K,(ag (bf (aK cJ (pvA pE) aY (aL _)) (ai (aw (ak U37 (rmD hr) (ad (pvA pF) (aG (aq bp (pvA tS) ao) ae))))) aM)
  (ag (bf (aK cJ (pvA pE) aY (aL _)) (ai (aw (ak U37 (rmD hr) (ad (pvA pF) (ad (pvA Hr) ae))))) aM)
  (ag (bf (aK cJ (pvA pE) aY (aL _)) (ai (aw (ak U37 (rmD hr) (ad (pvA pF) (ad (pvA tS) ae))))) aM)
  (ag (bf (aK cJ (pvA pE) aY (aL _)) (ai (aw (ak U30 (rmD hr) (ad (pvA pF) (ad (pvA tS) ae))))) aM)
  (ai (aw cC)))))),IR h⟩
theorem BK (D:Def K mg "parts_of" fB vZ f fd) (B:Blt mg) {G:GF} (T:dF P w K mg G):Do P w K mg base 1:=by
 refine D.ok sS (by walk_at "l") fun _ _ _ _ _ _ _ _ hr h=>?_
 have m_FORMS:=T.tb.mf
 have d_FORMS:=T.tb.df
 exact ⟨kN K G.toGlo,(ag (ay (i:=1) sS.nd rfl (LN rfl) (Fd d_FORMS (jr (v:=(.ref G.forms)) rfl m_FORMS rfl) (aR bS (pvA rg) ao (fun _ _=>rfl)) (fun _ _=>rfl)))
  (ai (aw (bU (sc:=(ab fB)) (NX:=zo) (N:=["place","part"]) (ix:=[none,none]) rfl (by walk_at "c") (nC iq iq rfl B.zip (ad (pvA AV) (aP (sY Ap (pvA rg) (wA ao) wz) ae))) (by intros; exact (eR rfl (bg (ax (i:=0) (show (["place","part"]:List Str).Nodup by decide +kernel) rfl (LN rfl)) (bg (ax (i:=1) (show (["place","part"]:List Str).Nodup by decide +kernel) rfl (LN rfl)) dM)))) (by intros; exact (rB (aK cJ (pv 0) aY (aL _)))) (by intros; exact (pv 1)))))),Bv T.tb.ok h⟩
theorem wp (D:Def K mg "parts_of_all" cX vY f fd) (B:Blt mg) (U34:Do P w K mg base 1):Dl P w K mg base 2:=by
 refine D.ok jd (by walk_at "l") fun _ _ _ _ _ _ _ _ hr h=>?_
 exact ⟨gI K,(ag (ay (i:=1) jd.nd rfl (LN rfl) (dE ae))
  (ag (bC Me rfl (cj (pvA tT)) (ax (i:=2) jd.nd rfl (LN rfl)) (ai (cU (lW Nk PySem.F.slot_list_extend PySem.F.type_list_extend Er (pvA lL) (aQ (ak U34 (rmD hr) (ad (pvA tU) ae)) ae)))))
  (ai (aw (pvA lL))))),uY h⟩
theorem yO (D:Def K mg "first_view" fc mJ f fd) (B:Blt mg) (U38:v2 P w K mg base 1) (U0:zq P w K mg base 1):Dp P w K mg base 2:=by
 refine D.ok yF (by walk_at "l") fun _ _ _ _ _ _ _ _ hr h=>?_
 exact ⟨iQ K,(ai (aw (ak U0 (rmD hr) (ca (bU (sc:=(ab fc)) (NX:=mJ) (N:=["deal","hand"]) (ix:=[none,some 1]) rfl (by walk_at "c") (cj (pvA w9)) (by intros; exact (ax (i:=0) (show (["deal","hand"]:List Str).Nodup by decide +kernel) rfl (LN rfl))) (by intros; exact bQ) (by intros; exact (ak U38 (rmD hr) (ad (pv 0) (ad (pv 1) ae))))) ae)))),yk h⟩
theorem HB (D:Def K mg "split" k9 mK f fd) (B:Blt mg) (U0:zq P w K mg base 1):Dq P w K mg base 2:=by
 refine D.ok Hs (by walk_at "l") fun _ _ _ _ _ _ _ _ hr h=>?_
 exact ⟨rL K,(ai (aw (ak U0 (rmD hr) (aQ (Jo bA bA rfl rfl B.list rfl B.zip (ad (pvA FB) (ad (pvA FC) ae))) ae)))),Gu h⟩
theorem rk (D:Def K mg "least_with_same" bF ["marks"] f fd) (B:Blt mg):zq P w K mg base 1:=by
 refine D.ok eD (by walk_at "l") fun _ _ _ _ _ _ _ _ hr h=>?_
 have hux:=hr.units64
 exact ⟨eP K,(ag (ay (i:=1) eD.nd rfl (Pi rfl) GR)
  (ag (bC Me rfl (kW bA rfl B.enumerate (by decide) (ad (pvA jp) ae)) (eR rfl (bg (ax (i:=2) eD.nd rfl (LN rfl)) (bg (ax (i:=3) eD.nd rfl (LN rfl)) dM))) (ai (cU (Lg QM PySem.F.type_dict_setdefault (wV hux) (pvA p9) (ad (pvA qb) (ad (pvA qa) ae))))))
  (ai (aw (bU (sc:=(ab bF)) (NX:=rW) (N:=["mark","firsts"]) (ix:=[none,some 1]) rfl (by walk_at "c") (cj (pvA jp)) (by intros; exact (ax (i:=0) (show (["mark","firsts"]:List Str).Nodup by decide +kernel) rfl (LN rfl))) (by intros; exact bQ) (by intros; exact (Jc hux (pv 1) (pv 0) (fun _ _=>rfl)))))))),qA h⟩
theorem FI (D:Def K mg "joined" dX vW f fd) (B:Blt mg) (U43:zr P w K mg base 1) (U50:Dr P w K mg base 2):Ds P w K mg base 3:=by
 refine D.ok kb (by walk_at "l") fun _ _ _ _ _ _ _ _ hr h=>?_
 exact ⟨oP K,(ag (ay (i:=2) kb.nd rfl (Pi rfl) (bD (Fz rfl) rfl B.list ON (aQ (bD mC rfl B.range Rp (ad (pvA wf) ae)) ae)))
  (ag (bC Me rfl (cj (pvA DO)) (ax (i:=3) kb.nd rfl (LN rfl)) (ai (bC Me rfl (kW bA rfl B.enumerate (by decide) (ad (pvA DQ) ae)) (eR rfl (bg (ax (i:=4) kb.nd rfl (LN rfl)) (bg (ax (i:=5) kb.nd rfl (LN rfl)) dM))) (ai (cU (ak U50 (rmD hr) (ad (pvA DP) (ad (pvA DR) (ad (pvA DS) ae)))))))))
  (ai (aw (bU (sc:=(ab dX)) (NX:=mD) (N:=["thing","points"]) (ix:=[none,some 2]) rfl (by walk_at "c") (bw rfl B.range (ad (pvA wf) ae)) (by intros; exact (ax (i:=0) (show (["thing","points"]:List Str).Nodup by decide +kernel) rfl (LN rfl))) (by intros; exact bQ) (by intros; exact (ak U43 (rmD hr) (ad (pv 1) (ad (pv 0) ae))))))))),E4 h⟩
theorem Jw (D:Def K mg "link" je vK f fd) (B:Blt mg) (U43:zr P w K mg base 1):Dr P w K mg base 2:=by
 refine D.ok xc (by walk_at "l") fun _ _ _ _ _ _ _ _ hr h=>?_
 exact ⟨uL K,(ag (ay (i:=3) xc.nd rfl (LN rfl) (ak U43 (rmD hr) (ad (pvA tV) (ad (pvA Ht) ae))))
  (ag (ay (i:=4) xc.nd rfl (LN rfl) (ak U43 (rmD hr) (ad (pvA tV) (ad (pvA Hu) ae))))
  (ai (lc (az (xG rfl) rfl B.min boot_min (ad (pvA AW) (ad (pvA AX) ae))) (nv (pvA tV) (az (Eh rfl) rfl B.max Ux (ad (pvA AW) (ad (pvA AX) ae))) js))))),II h⟩
theorem FJ (D:Def K mg "end_of" iC vQ f fd) (B:Blt mg):zr P w K mg base 1:=by
 refine D.ok rh (by walk_at "l") fun _ _ _ _ _ _ _ _ hr h=>?_
 exact ⟨oO K,(ag (ay (i:=2) rh.nd rfl (LN rfl) (pvA DT))
  (ag (ou Me (aK Cp (aR bd (pvA jf) (pvA gQ) (fun _ _=>rfl)) (pvA gQ) (aL _)) (ag (lc (aR bd (pvA jf) (aR bd (pvA jf) (pvA gQ) (fun _ _=>rfl)) (fun _ _=>rfl)) (nv (pvA jf) (pvA gQ) js))
  (ai (ay (i:=2) rh.nd rfl (LN rfl) (aR bd (pvA jf) (pvA gQ) (fun _ _=>rfl))))))
  (ai (aw (pvA gQ))))),E3 h⟩
theorem rl (D:Def K mg "truths_of" bN rX f fd) (B:Blt mg) (U51:zt P w K mg base 1) (U38:v2 P w K mg base 1) (U44:Dt P w K mg base 1) (U42:Ds P w K mg base 3) (U46:v3 P w K mg base 1) (U3:Du P w K mg base 2) (U48:Dv P w K mg base 2):∀ n,FnB P w K mg base (4 + n) "truths_of" rX (b9 K n)
 | 0=>D.ok (k:=3) gx (fun vs H Q E h=>(qG h).elim) (fun cdv A outer s H vs Q E hr h=>(qG h).elim)
 | n + 1=>by
  have U28:=rl D B U51 U38 U44 U42 U46 U3 U48 n
  refine D.ok (k:=4 + n) gx (by walk_at "l") fun _ _ _ _ _ _ _ _ hr h=>?_
  exact ⟨jO K n,(ag (ay (i:=3) gx.nd rfl (LN rfl) (aR bS (pvA cc) ao (fun _ _=>rfl)))
  (ag (bf (aK cJ (pvA dC) aY (aL _)) (ai (aw (bU (sc:=(ab bN)) (NX:=lI) (N:=["deal","S"]) (ix:=[none,some 2]) rfl (by walk_at "c") (cj (pvA cr)) (by intros; exact (ax (i:=0) (show (["deal","S"]:List Str).Nodup by decide +kernel) rfl (LN rfl))) (by intros; exact bQ) (by intros; exact (kU cJ (aR bS (pv 0) (aR bS (pv 1) ao (fun _ _=>rfl)) (fun _ _=>rfl)) (aR bS (pv 1) ao (fun _ _=>rfl)) (aL _)))))) aM)
  (ag (bf (aK cJ (pvA dC) aY (aL _)) (ai (aw (ak U48 (hr.mono (by omega)) (ca (bU (sc:=(ab bN)) (NX:=lI) (N:=["deal","views"]) (ix:=[none,some 1]) rfl (by walk_at "c") (cj (pvA cr)) (by intros; exact (ax (i:=0) (show (["deal","views"]:List Str).Nodup by decide +kernel) rfl (LN rfl))) (by intros; exact bQ) (by intros; exact (ak U38 (hr.mono (by omega)) (ad (pv 0) (aQ (az aD rfl B.len MN (ad (pv 1) ae)) ae))))) (aP (aR bd (pvA cQ) (aR bS (pvA cc) ao (fun _ _=>rfl)) (fun _ _=>rfl)) ae))))) aM)
  (ag (bf (aK cJ (pvA dC) aY (aL _)) (ai (aw (bU (sc:=(ab bN)) (NX:=lI) (N:=["truth"]) (ix:=[none]) rfl (by walk_at "c") (cj (ak U28 (hr.mono (by omega)) (ad (pvA cr) (ad (pvA cQ) (aP (aR bS (pvA cc) ao (fun _ _=>rfl)) ae))))) (by intros; exact (ax (i:=0) (show (["truth"]:List Str).Nodup by decide +kernel) rfl (LN rfl))) (by intros; exact bQ) (by intros; exact (Ec (pv 0)))))) aM)
  (ag (bf (aK cJ (pvA dC) aY (aL _)) (ai (aw (ak U51 (hr.mono (by omega)) (aQ (ak U28 (hr.mono (by omega)) (ad (pvA cr) (ad (pvA cQ) (aP (aR bS (pvA cc) ao (fun _ _=>rfl)) ae)))) (aQ (ak U28 (hr.mono (by omega)) (ad (pvA cr) (ad (pvA cQ) (aP (aR bS (pvA cc) ao (fun _ _=>rfl)) ae)))) ae))))) aM)
  (ag (bf (aK cJ (pvA dC) aY (aL _)) (ai (aw (ak U44 (hr.mono (by omega)) (aQ (ak U28 (hr.mono (by omega)) (ad (pvA cr) (ad (pvA cQ) (aP (aR bS (pvA cc) ao (fun _ _=>rfl)) ae)))) (aQ (ak U28 (hr.mono (by omega)) (ad (pvA cr) (ad (pvA cQ) (aP (aR bS (pvA cc) ao (fun _ _=>rfl)) ae)))) ae))))) aM)
  (ag (ay (i:=4) gx.nd rfl (LN rfl) (ak U28 (hr.mono (by omega)) (ad (pvA cr) (ad (pvA cQ) (aP (aR bS (pvA cc) ao (fun _ _=>rfl)) ae)))))
  (ag (bf (aK cJ (pvA dC) aY (aL _)) (ai (aw (ak U46 (hr.mono (by omega)) (aP (aR bd (pvA cQ) (aR bS (pvA cc) ao (fun _ _=>rfl)) (fun _ _=>rfl)) (ad (pvA ko) ae))))) aM)
  (ag (iJ (i:=5) gx.nd rfl rfl (sc:=(ab bN)) (NX:=lI) (N:=["hand","views"]) (ix:=[none,some 1]) rfl (by walk_at "c") (uh (aR bS (pvA cc) ao (fun _ _=>rfl))) (by intros; exact (ax (i:=0) (show (["hand","views"]:List Str).Nodup by decide +kernel) rfl (LN rfl))) (by intros; exact bQ) (by intros; exact (aR bd (pv 1) (pv 0) (fun _ _=>rfl))))
  (ag (bf (aK cJ (pvA dC) aY (aL _)) (ai (aw (ak U3 (hr.mono (by omega)) (ad (pvA pP) (ad (pvA ko) ae))))) aM)
  (ai (aw (ak U46 (hr.mono (by omega)) (aQ (ak U42 (hr.mono (by omega)) (aQ (az aD rfl B.len MN (ad (pvA cr) ae)) (ad (pvA pP) ae))) (ad (pvA ko) ae))))))))))))))),Ah h⟩
theorem Jx (D:Def K mg "both" lM d3 f fd) (B:Blt mg):zt P w K mg base 1:=by
 refine D.ok Jq (by walk_at "l") fun _ _ _ _ _ _ _ _ hr h=>?_
 exact ⟨uO K,(ai (aw (bU (sc:=(ab lM)) (NX:=d3) (N:=rZ) (ix:=[none,none]) rfl (by walk_at "c") (nC bA bA rfl B.zip (ad (pvA Hv) (ad (pvA Hw) ae))) (by intros; exact (eR rfl (bg (ax (i:=0) (show (rZ:List Str).Nodup by decide +kernel) rfl (LN rfl)) (bg (ax (i:=1) (show (rZ:List Str).Nodup by decide +kernel) rfl (LN rfl)) dM)))) (by intros; exact bQ) (by intros; exact (qd (pv 0) (nu (pv 1))))))),IM h⟩
theorem FK (D:Def K mg "either" iD d3 f fd) (B:Blt mg):Dt P w K mg base 1:=by
 refine D.ok FD (by walk_at "l") fun _ _ _ _ _ _ _ _ hr h=>?_
 exact ⟨oR K,(ai (aw (bU (sc:=(ab iD)) (NX:=d3) (N:=rZ) (ix:=[none,none]) rfl (by walk_at "c") (nC bA bA rfl B.zip (ad (pvA DU) (ad (pvA DV) ae))) (by intros; exact (eR rfl (bg (ax (i:=0) (show (rZ:List Str).Nodup by decide +kernel) rfl (LN rfl)) (bg (ax (i:=1) (show (rZ:List Str).Nodup by decide +kernel) rfl (LN rfl)) dM)))) (by intros; exact bQ) (by intros; exact (KH (pv 0) (nu (pv 1))))))),E7 h⟩
theorem HC (D:Def K mg "known" fP vP f fd) (B:Blt mg):v3 P w K mg base 1:=by
 refine D.ok pG (by walk_at "l") fun _ _ _ _ _ _ _ _ hr h=>?_
 exact ⟨rJ K,(ag (ay (i:=2) pG.nd rfl (Pi rfl) (aq Ao (dE (ar cC ae)) (az aD rfl B.len MN (ad (pvA rj) ae))))
  (ag (bC Me rfl (nC bA bA rfl B.zip (ad (pvA rj) (ad (pvA FE) ae))) (eR rfl (bg (ax (i:=3) pG.nd rfl (LN rfl)) (bg (ax (i:=4) pG.nd rfl (LN rfl)) dM))) (ai (bf (dD (cx (pvA FH))) (ai (lc cC (nv (pvA FF) (pvA FG) js))) aM)))
  (ai (aw (bU (sc:=(ab fP)) (NX:=pb) (N:=["least","sure"]) (ix:=[none,some 2]) rfl (by walk_at "c") (cj (pvA rj)) (by intros; exact (ax (i:=0) (show (["least","sure"]:List Str).Nodup by decide +kernel) rfl (LN rfl))) (by intros; exact bQ) (by intros; exact (aR bd (pv 1) (pv 0) (fun _ _=>rfl)))))))),Gr h⟩
theorem wq (D:Def K mg "known_to_all" cB vT f fd) (B:Blt mg) (U51:zt P w K mg base 1) (U46:v3 P w K mg base 1):Du P w K mg base 2:=by
 refine D.ok fY (by walk_at "l") fun _ _ _ _ _ _ _ _ hr h=>?_
 exact ⟨gH K,(ag (ay (i:=2) fY.nd rfl (LN rfl) (aq Ao (dE (ar cC ae)) (az aD rfl B.len MN (ad (pvA lN) ae))))
  (ag (bC Me rfl (cj (pvA tW)) (ax (i:=3) fY.nd rfl (LN rfl)) (ai (ay (i:=2) fY.nd rfl (LN rfl) (ak U51 (rmD hr) (ad (pvA lO) (aQ (ak U46 (rmD hr) (ad (pvA tX) (ad (pvA lN) ae))) ae))))))
  (ai (aw (pvA lO))))),uP h⟩
theorem Jy (D:Def K mg "seen" lP kS f fd) (B:Blt mg) (U46:v3 P w K mg base 1):Dv P w K mg base 2:=by
 refine D.ok Jr (by walk_at "l") fun _ _ _ _ _ _ _ _ hr h=>?_
 have hu:=hr.units0
 exact ⟨uR K,(ai (aw (ak U46 (rmD hr) (ad (pvA AY) (ca (bU (sc:=(ab lP)) (NX:=kS) (N:=Dg) (ix:=[none,none,some 0]) rfl (by walk_at "c") (nC bA bA rfl B.zip (ad (pvA Hx) (ad (pvA AY) ae))) (by intros; exact (eR rfl (bg (ax (i:=0) (show (Dg:List Str).Nodup by decide +kernel) rfl (LN rfl)) (bg (ax (i:=1) (show (Dg:List Str).Nodup by decide +kernel) rfl (LN rfl)) dM)))) (by intros; exact bQ) (by intros; exact (kU (JP hu) (pv 0) (aR bd (pv 2) (pv 1) (fun _ _=>rfl)) (aL _)))) ae))))),IN h⟩
theorem uf (D:Def K mg "refuse_unless" eE pi f fd) (B:Blt mg):v4 P w K mg base 1:=by
 refine D.ok tY (by walk_at "l") fun _ _ _ _ _ _ _ _ hr h=>?_
 exact ⟨fW K,(ai (bf (dD (cx (pvA sr))) (ai oo) aM)),tK h⟩
theorem A5 (D:Def K mg "are_cards" fQ mH f fd) (B:Blt mg) (U37:w5 P w K mg base 3):Dw P w K mg base 4:=by
 refine D.ok AZ (by walk_at "l") fun _ _ _ _ _ _ _ _ hr h=>?_
 exact ⟨jT K,(ai (aw (qd (az fv rfl B.isinstance N7 (ad (pvA pQ) (ad (gy (v:=.ty "list") rfl B.list ON rfl) ae))) (nu (az (lY rfl) rfl B.all Uw (ca (bU (sc:=(ab fQ)) (NX:=mH) (N:=["card","cards"]) (ix:=[none,some 1]) rfl (by walk_at "c") (cj (pvA pQ)) (by intros; exact (ax (i:=0) (show (["card","cards"]:List Str).Nodup by decide +kernel) rfl (LN rfl))) (by intros; exact bQ) (by intros; exact (ak U37 (rmD hr) (ad (pv 0) (ad (pv 1) ae))))) ae)))))),Aw h⟩
theorem yP (D:Def K mg "least_held" dm pc f fd) (B:Blt mg):Dy P w K mg base 1:=by
 refine D.ok pR (by walk_at "l") fun _ _ _ _ _ _ _ _ hr h=>?_
 exact ⟨iX K,(ag (bC Me rfl (cj (pvA xh)) (ax (i:=3) pR.nd rfl (LN rfl)) (ai (bf (aK cJ (aR bS (pvA xf) (pvA nL) (fun _ _=>rfl)) (pvA xg) (aL _)) (ai (aw (pvA nL))) aM)))
  (ai (aw ug))),yn h⟩
theorem A6 (D:Def K mg "_law_cell" eN vA f fd) (B:Blt mg):pA P w K mg base 1:=by
 refine D.ok jg (by walk_at "l") fun _ _ _ _ _ _ _ _ hr h=>?_
 exact ⟨jN K,(ag (bf (aK rq (pvA d7) (az aD rfl B.len MN (ad (pvA fG) ae)) (aL _)) (ai (aw (aR bd (pvA fG) (pvA d7) (fun _ _=>rfl)))) aM)
  (ag (ay (i:=2) jg.nd rfl (LN rfl) (aq bp (aq eV (pvA d7) ao) ao))
  (ag (bf (aK kE (az aD rfl B.len MN (ad (pvA fG) ae)) ao (aL _)) (ai (ay (i:=2) jg.nd rfl (LN rfl) (aq bp (aq eV (aR bd (pvA fG) (aq br (aq eV (pvA d7) ao) (az aD rfl B.len MN (ad (pvA fG) ae))) (fun _ _=>rfl)) ao) (aq eV (pvA d7) ao)))) aM)
  (ag (ay (i:=2) jg.nd rfl (LN rfl) (aq br (aq eV (pvA ig) (pvA ig)) ao))
  (ai (aw (aq br (aq eV (aq bp (pvA ig) (pvA d7)) (aq bp (pvA ig) ao)) ao))))))),Ac h⟩
theorem wt (D:Def K mg "_law_product" cY vX f fd) (B:Blt mg):Dz P w K mg base 1:=by
 refine D.ok fZ (by walk_at "l") fun _ _ _ _ _ _ _ _ hr h=>?_
 exact ⟨gD K,(ag (ay (i:=1) fZ.nd rfl (LN rfl) ao)
  (ag (bC Me rfl (bw rfl B.range (ad (pvA tZ) ae)) (ax (i:=2) fZ.nd rfl (LN rfl)) (ai (ay (i:=1) fZ.nd rfl (LN rfl) (aq eV (pvA lQ) (aq bp (pvA t0) ao)))))
  (ai (aw (pvA lQ))))),uI h⟩
theorem yQ (D:Def K mg "_law_count" dn vI f fd) (B:Blt mg) (U5:Dz P w K mg base 1):DC P w K mg base 2:=by
 refine D.ok ii (by walk_at "l") fun _ _ _ _ _ _ _ _ hr h=>?_
 exact ⟨iO K,(ag (ay (i:=2) ii.nd rfl (LN rfl) (ak U5 (rmD hr) (ad (pvA nN) ae)))
  (ag (bC Me rfl (cj (aq qL (pvA nO) (dE (aG (aq gc (pvA nN) (az (j3 rfl) rfl B.sum SV (ad (pvA nO) ae))) ae)))) (ax (i:=3) ii.nd rfl (LN rfl)) (ai (ay (i:=2) ii.nd rfl (LN rfl) (aq cy (pvA nP) (ak U5 (rmD hr) (ad (pvA xk) ae))))))
  (ai (aw (pvA nP))))),yj h⟩
theorem A7 (D:Def K mg "_law_pack" cI vD f fd) (B:Blt mg) (U32:pA P w K mg base 1) (U21:DC P w K mg base 2):DD P w K mg base 3:=by
 refine D.ok ff (by walk_at "l") fun _ _ _ _ _ _ _ _ hr h=>?_
 exact ⟨jR K,(ag (ay (i:=3) ff.nd rfl (LN rfl) (aq br (ak U32 (rmD hr) (ad (pvA fH) (ad (pvA fI) ae))) ao))
  (ag (bf (aK cJ (aq br (aq cy (ak U32 (rmD hr) (ad (pvA fH) (ad (pvA fI) ae))) ao) ao) ao (aL _)) (ai (ay (i:=3) ff.nd rfl (LN rfl) (aq bp ao (aq br (aq cy (ak U32 (rmD hr) (ad (pvA fH) (ad (pvA fI) ae))) ao) ao)))) aM)
  (ag (ay (i:=4) ff.nd rfl (LN rfl) (dE ae))
  (ag (bC Me rfl (bw rfl B.range (aG (aq bp ao (aq br (ak U32 (rmD hr) (ad (pvA fH) (aG (aq bp (pvA fI) ao) ae))) ao)) ae)) (ax (i:=5) ff.nd rfl (LN rfl)) (ai (cU (lW Nk NT NU gf (pvA ce) (aG (aq br (ak U32 (rmD hr) (ad (pvA fH) (aG (aq bp (aq bp (pvA fI) ao) (pvA yH)) ae))) (aq bp (az (xG rfl) rfl B.min boot_min (ar ao (aG (aq gc (pvA fJ) (az (j3 rfl) rfl B.sum SV (ad (pvA ce) ae))) ae))) ao)) ae)))))
  (ag (ou Me (aK kE (ak U21 (rmD hr) (ad (pvA fJ) (ad (pvA ce) ae))) (pvA yG) (aL _)) (ag (bf (aK kE (az (qr rfl) rfl B.max Ux (ad (pvA ce) ae)) (aq gc (pvA fJ) (az (j3 rfl) rfl B.sum SV (ad (pvA ce) ae))) (aL _)) (ai (lc (aq gc (az (qr rfl) rfl B.max Ux (ad (pvA ce) ae)) ao) (nv (pvA ce) (lW Nk RN PySem.F.type_list_index F4 (pvA ce) (aQ (az (qr rfl) rfl B.max Ux (ad (pvA ce) ae)) ae)) js))) aM)
  (ai (ay (i:=3) ff.nd rfl (LN rfl) (aq gc (pvA fJ) ao)))))
  (ai (aw (bP (ad (pvA fJ) (ad (pvA ce) ae)))))))))),An h⟩
theorem p7 (D:Def K mg "_law_words" dY rY f fd) (B:Blt mg):∀ n,FnB P w K mg base (1 + n) "_law_words" rY (d5 K n)
 | 0=>D.ok (k:=0) fK (fun vs H Q E h=>(pJ h).elim) (fun cdv A outer s H vs Q E hr h=>(pJ h).elim)
 | n + 1=>by
  have U14:=p7 D B n
  refine D.ok (k:=1 + n) fK (by walk_at "l") fun _ _ _ _ _ _ _ _ hr h=>?_
  have hu:=hr.units0
  exact ⟨iW K n,(ag (ay (i:=1) fK.nd rfl (LN rfl) ao)
  (ag (bC Me rfl (uh (sY Ap (pvA xl) (wA ao) wz)) (ax (i:=2) fK.nd rfl (LN rfl)) (ai (bf (PW.pt (np (cx (az fv rfl B.isinstance N7 (ad (pvA gR) (ad (gy (v:=.ty "tuple") rfl B.tuple Pf rfl) ae)))) (np (aK (EA hu) (pvA gR) (bP ae) (aL _)) (nn (cx (az fv rfl B.isinstance N7 (aP (aR bS (pvA gR) ao (fun _ _=>rfl)) (ad (gy (v:=.ty "str") rfl B.str boot_str rfl) ae)))))))) (ai (ay (i:=1) fK.nd rfl (LN rfl) (aq bp (pvA nQ) (ak U14 (hr.mono (by omega)) (ad (pvA gR) ae))))) aM)))
  (ai (aw (pvA nQ))))),ym h⟩
theorem yR (D:Def K mg "_law_group" fg mE f fd) (B:Blt mg):zu P w K mg base 1:=by
 refine D.ok yI (by walk_at "l") fun _ _ _ _ _ _ _ _ hr h=>?_
 exact ⟨iV K,(ai (aw (bD Gz rfl B.tuple Pf (ca (bU (sc:=(ab fg)) (NX:=mE) (N:=["_law_hand","_law_number"]) (ix:=[none,some 0]) rfl (by walk_at "c") (bw rfl B.range (ad (pvA xm) ae)) (by intros; exact (ax (i:=0) (show (["_law_hand","_law_number"]:List Str).Nodup by decide +kernel) rfl (LN rfl))) (by intros; exact (rB (aK cJ (aq br (aq cy (pv 1) (aR bd (dE (ar ao (ar ao (ar ao (ar ao (ar ao ae)))))) (pv 0) (fun _ _=>rfl))) ao) ao (aL _)))) (by intros; exact (pv 0))) ae)))),yl h⟩
theorem A8 (D:Def K mg "_law_pool" cn nj f fd) (B:Blt mg) (U32:pA P w K mg base 1):DE P w K mg base 2:=by
 refine D.ok jh (by walk_at "l") fun _ _ _ _ _ _ _ _ hr h=>?_
 exact ⟨jS K,(ag (ay (i:=4) jh.nd rfl (LN rfl) (dE (bj (bP (ar aY (aG (aq br (ak U32 (rmD hr) (ad (pvA pS) (ad (pvA pT) ae))) (pvA pV)) ae))) ae)))
  (ag (bC Me rfl (bw rfl B.range (aG (aq eV ao (bD Ei rfl B.int boot_int (Bw (kU kE (pvA pU) ao (aL _)) ae))) ae)) (ax (i:=5) jh.nd rfl (LN rfl)) (ag (ay (i:=6) jh.nd rfl (LN rfl) (ak U32 (rmD hr) (ad (pvA pS) (aG (aq bp (aq bp (pvA pT) ao) (pvA yJ)) ae))))
  (ai (cU (lW Nk NT NU gf (pvA pW) (bj (bP (ar aY (aG (aq br (pvA pX) (aq bp (pvA pV) ao)) (aG (aq br (aq cy (pvA pX) ao) (pvA pU)) ae)))) ae))))))
  (ai (aw (pvA pW))))),Av h⟩
theorem xz (D:Def K mg "_law_saying" bi vv f fd) (B:Blt mg) (U32:pA P w K mg base 1) (U22:zu P w K mg base 1) (U26:DE P w K mg base 2) (U14:HV P w K mg base 71):DF P w K mg base 72:=by
 refine D.ok bH (by walk_at "l") fun _ _ _ _ _ _ _ _ hr h=>?_
 exact ⟨hZ K,(ag (ay (i:=5) bH.nd rfl (LN rfl) (ak U26 (rmD hr) (ad (pvA ji) (ad (pvA jj) (ad (pvA wg) (ad (pvA ci) ae))))))
  (ag (bC Me rfl (bw rfl B.range (aG (aq br (ak U32 (rmD hr) (ad (pvA ji) (aG (aq bp (pvA jj) ao) ae))) ao) ae)) (ax (i:=6) bH.nd rfl (LN rfl)) (ag (ay (i:=7) bH.nd rfl (LN rfl) (ak U32 (rmD hr) (ad (pvA ji) (aG (aq bp (aq bp (pvA jj) ao) (pvA wk)) ae))))
  (ag (ay (i:=8) bH.nd rfl (LN rfl) (aR bd (pvA eF) (HE Ef ao) (fun _ _=>rfl)))
  (ag (ay (i:=9) bH.nd rfl (LN rfl) (aR bd (pvA eF) (aq br (aq cy (pvA bO) ao) (az aD rfl B.len MN (ad (pvA eF) ae))) (fun _ _=>rfl)))
  (ag (ay (i:=10) bH.nd rfl (LN rfl) (dE (bj (bP (ar aY (ad (pvA bX) ae))) (bj (bP (ar aY (ad (pvA bX) (ad (pvA cN) ae)))) (bj (bP (ar aY (ad (pvA cN) (ad (pvA bX) ae)))) (bj (bP (ar aY (ad (pvA cN) ae))) ae))))))
  (ag (ay (i:=10) bH.nd rfl (LN rfl) (aq qL (pvA cZ) (dE (bj (bP (ar aY (aG (aq br (aq cy (pvA bO) ao) (pvA ci)) (ad (pvA bX) ae)))) (bj (bP (ar aY (aG (aq br (aq cy (pvA bO) ao) (pvA ci)) (bj (bP (ar aY (ad (pvA bX) ae))) ae)))) ae)))))
  (ag (ay (i:=10) bH.nd rfl (LN rfl) (aq qL (pvA cZ) (dE (bj (bP (ar aY (aQ (ak U22 (rmD hr) (aG (aq cy (pvA bO) ao) (ad (pvA ci) ae))) (ad (pvA bX) ae)))) (bj (bP (ar aY (aQ (ak U22 (rmD hr) (aG (aq cy (pvA bO) ao) (ad (pvA ci) ae))) (ad (pvA cN) ae)))) ae)))))
  (ag (ay (i:=10) bH.nd rfl (LN rfl) (aq qL (pvA cZ) (dE (bj (bP (ar aY (aQ (ak U22 (rmD hr) (aG (aq cy (pvA bO) ao) (ad (pvA ci) ae))) (ad (pvA bX) ae)))) (bj (bP (ar aY (aG (aq br (aq cy (pvA bO) ao) (pvA ci)) (ad (pvA cN) ae)))) ae)))))
  (ag (ay (i:=10) bH.nd rfl (LN rfl) (aq qL (pvA cZ) (dE (bj (bP (ar aY (ad (pvA cN) (bj (bP (ar aY (ad (pvA bX) ae))) ae)))) (bj (bP (ar aY (ad (pvA bX) (bj (bP (ar aY (aG (aq br (aq cy (pvA bO) ao) (pvA ci)) (ad (pvA cN) ae)))) ae)))) ae)))))
  (ai (bf (aK yY (ak U14 (rmD hr) (aP (aR bd (pvA cZ) (aq br (pvA bO) ao) (fun _ _=>rfl)) ae)) (pvA wj) (aL _)) (ai (cU (lW Nk NT NU gf (pvA eF) (aP (aR bd (pvA cZ) (aq br (pvA bO) ao) (fun _ _=>rfl)) ae)))) aM)))))))))))
  (ai (aw (aR bd (pvA eF) (HE Ef ao) (fun _ _=>rfl)))))),wN h⟩
theorem A9 (D:Def K mg "_law_deed" cp nj f fd) (B:Blt mg) (U32:pA P w K mg base 1) (U22:zu P w K mg base 1) (U7:DF P w K mg base 72):DG P w K mg base 73:=by
 refine D.ok lR (by walk_at "l") fun _ _ _ _ _ _ _ _ hr h=>?_
 exact ⟨jU K,(ag (ay (i:=4) lR.nd rfl (LN rfl) (ak U32 (rmD hr) (ad (pvA kr) (ad (pvA kt) ae))))
  (ag (bf (PW.pt (lU (aK kE (aq br (pvA ik) ao) ao (aL _)) (jZ (aK cJ (pvA pY) ao (aL _))))) (ai (aw (bP (ar aY (aQ (ak U22 (rmD hr) (aG (aq cy (pvA ik) ao) (ad (pvA ij) ae))) (aQ (ak U7 (rmD hr) (ad (pvA kr) (aG (aq bp (pvA kt) ao) (ad (pvA pY) (ad (pvA ij) (ar ao ae)))))) ae)))))) aM)
  (ag (iJ (i:=5) lR.nd rfl rfl (sc:=(ab cp)) (NX:=qV) (N:=HS) (ix:=[none,some 2,some 0,some 1]) rfl (by walk_at "c") (bw rfl B.range (aG (aq br (ak U32 (rmD hr) (ad (pvA kr) (aG (aq bp (pvA kt) ao) ae))) ao) ae)) (by intros; exact (ax (i:=0) (show (HS:List Str).Nodup by decide +kernel) rfl (LN rfl))) (by intros; exact bQ) (by intros; exact (aq br (ak U32 (rmD hr) (ad (pv 2) (aG (aq bp (aq bp (pv 3) ao) (pv 0)) ae))) (pv 1))))
  (ai (aw (bP (ar aY (aG (aq br (aq cy (pvA ik) ao) (pvA ij)) (aG (aq br (aq cy (pvA ik) ao) (aq bp (pvA ij) ao)) (ad (pvA yK) ae)))))))))),AE h⟩
theorem Ba (D:Def K mg "_law_done" fR mF f fd) (B:Blt mg) {G:GF} (T:dF P w K mg G) (U19:Hj P w K mg base G 5) (U20:w6 P w K mg base G 41):DH P w K mg base G 42:=by
 refine D.ok A0 (by walk_at "l") fun _ _ _ _ _ _ _ _ hr h=>?_
 exact ⟨jV K G,(ag (bf (aK cJ (aR bS (pvA d8) ao (fun _ _=>rfl)) aY (aL _)) (ai (aw (dU U20 (rmD hr) T.cl_Table (pvA pZ) (aP (aR bS (pvA d8) ao (fun _ _=>rfl)) (aP (aR bS (pvA d8) ao (fun _ _=>rfl)) ae))))) aM)
  (ai (aw (dU U19 (rmD hr) T.cl_Table (pvA pZ) (aP (aR bS (pvA d8) ao (fun _ _=>rfl)) (aP (aR bS (pvA d8) ao (fun _ _=>rfl)) (aQ (bD jy rfl B.list ON (aP (aR bS (pvA d8) ao (fun _ _=>rfl)) ae)) ae))))))),AF h⟩
theorem xB (D:Def K mg "_law_doubts" cR vz f fd) (B:Blt mg):DI P w K mg base 1:=by
 refine D.ok nR (by walk_at "l") fun _ _ _ _ _ _ _ _ hr h=>?_
 have hu:=hr.units0
 exact ⟨ib K,(ag (bC Me rfl (bw rfl B.range (aQ (az aD rfl B.len MN (ad (pvA jk) ae)) ae)) (ax (i:=3) nR.nd rfl (LN rfl)) (ai (bf (PW.pt (np (aK cJ (aR bd (pvA mO) (pvA mQ) (fun _ _=>rfl)) (aR bd (pvA mO) (pvA mP) (fun _ _=>rfl)) (aL _)) (nn (aK (EA hu) (aR bd (pvA jk) (pvA mQ) (fun _ _=>rfl)) (aR bd (pvA jk) (pvA mP) (fun _ _=>rfl)) (aL _))))) (ai (aw cC)) aM)))
  (ai (aw cC))),wT h⟩
theorem xC (D:Def K mg "_law_walked" bz vx f fd) (B:Blt mg) {G:GF} (T:dF P w K mg G) (U16:DL P w K mg base G 4) (U20:w6 P w K mg base G 41) (U8:DI P w K mg base 1):DJ P w K mg base G 42:=by
 refine D.ok dO (by walk_at "l") fun _ _ _ _ _ _ _ _ hr h=>?_
 have hux:=hr.units64
 exact ⟨ic K G,(ag (ay (i:=4) dO.nd rfl (LN rfl) (bD (qT rfl) rfl B.tuple Pf (aQ (bD mC rfl B.range Rp (ad (pvA jl) ae)) ae)))
  (ag (bC Me rfl (kW bA rfl B.enumerate (by decide) (ad (pvA wl) ae)) (eR rfl (bg (ax (i:=5) dO.nd rfl (LN rfl)) (bg (ax (i:=6) dO.nd rfl (LN rfl)) dM))) (ag (ay (i:=7) dO.nd rfl (LN rfl) (dU U16 (rmD hr) T.cl_Table (pvA mR) (aG (aq br (pvA mT) (pvA jl)) ae)))
  (ag (bC Me rfl (bw rfl B.range (aQ (az aD rfl B.len MN (ad (pvA mS) ae)) ae)) (ax (i:=8) dO.nd rfl (LN rfl)) (ai (bf (aK cJ (ak U8 (rmD hr) (ad (pvA mS) (ad (pvA wn) (ad (pvA mV) ae)))) (aR bd (pvA mU) (pvA mV) (fun _ _=>rfl)) (aL _)) (ai (aw cC)) aM)))
  (ai (bf (aK (AJ hux) (dU U20 (rmD hr) T.cl_Table (pvA mR) (ad (pvA wm) (bj (bP (ar aY (aG (aq br (pvA mT) (pvA jl)) ae))) ae))) (pvA mU) (aL _)) (ai (aw cC)) aM)))))
  (ai (aw cC)))),wU h⟩
theorem yS (D:Def K mg "_law_rests" bI vy f fd) (B:Blt mg) {G:GF} (T:dF P w K mg G) (U16:DL P w K mg base G 4) (U20:w6 P w K mg base G 41):DK P w K mg base G 42:=by
 refine D.ok fL (by walk_at "l") fun _ _ _ _ _ _ _ _ hr h=>?_
 have hux:=hr.units64
 exact ⟨i7 K G,(ag (iJ (i:=3) fL.nd rfl rfl (sc:=(ab bI)) (NX:=ni) (N:=zm) (ix:=[none,some 0]) rfl (by walk_at "c") (bw rfl B.range (ad (pvA dP) ae)) (by intros; exact (ax (i:=0) (show (zm:List Str).Nodup by decide +kernel) rfl (LN rfl))) (by intros; exact bQ) (by intros; exact (dU U16 (rmD hr) T.cl_Table (pv 1) (ad (pv 0) ae))))
  (ag (bC Me rfl (bw rfl B.range (ad (pvA dP) ae)) (ax (i:=4) fL.nd rfl (LN rfl)) (ag (ay (i:=5) fL.nd rfl (LN rfl) (aq bp (az aD rfl B.len MN (ad (pvA nU) ae)) (pvA xp)))
  (ag (ay (i:=6) fL.nd rfl (LN rfl) (dU U20 (rmD hr) T.cl_Table (pvA xn) (aQ (bD (qT rfl) rfl B.tuple Pf (aQ (bD mC rfl B.range Rp (ad (pvA dP) ae)) ae)) (bj (bP (ar aY (aG (aq br (pvA nV) (pvA dP)) ae))) ae))))
  (ai (bf (aK (AJ hux) (pvA xq) (aR bd (pvA nU) (aq gc (pvA nV) (pvA dP)) (fun _ _=>rfl)) (aL _)) (ai (aw cC)) aM)))))
  (ai (aw (kU (GT hux) (bU (sc:=(ab bI)) (NX:=ni) (N:=zm) (ix:=[none,some 0]) rfl (by walk_at "c") (bw rfl B.range (ad (pvA dP) ae)) (by intros; exact (ax (i:=0) (show (zm:List Str).Nodup by decide +kernel) rfl (LN rfl))) (by intros; exact bQ) (by intros; exact (dU U16 (rmD hr) T.cl_Table (pv 1) (ad (pv 0) ae)))) (pvA xo) (aL _)))))),yw h⟩
theorem KG (D:Def K mg "law" du r0 f fd) (B:Blt mg) {G:GF} (T:dF P w K mg G) (U15:FnI P w K mg base 6 G.Table gN (dy K G)) (U32:pA P w K mg base 1) (U27:DG P w K mg base 73) (U31:DH P w K mg base G 42) (U25:DD P w K mg base 3) (U18:DK P w K mg base G 42) (U11:DJ P w K mg base G 42) (U38:v2 P w K mg base 1) (U35:zp P w K mg base 5) (U12:Hc P w K mg base 1) (U49:Hb P w K mg base G 42):gT P w K mg base CX0 74 f fd r0 (uw K):=by
 refine D.fn.ok fh (by walk_at "l") fun _ _ _ _ _ _ _ _ hr h=>?_
 exact ⟨zf K G,(ag (lc (ak U25 (rmD hr) (ad (pvA r6) (ar ao (ar ao ae)))) (eR rfl (bg (ax (i:=1) fh.nd rfl (LN rfl)) (bg (ax (i:=2) fh.nd rfl (LN rfl)) dM))))
  (ag (ay (i:=3) fh.nd rfl (Pi rfl) (az aD rfl B.len MN (ad (pvA xt) ae)))
  (ag (ay (i:=4) fh.nd rfl (LN rfl) (ak U35 (rmD hr) (ad (pvA xr) (ad (pvA xt) ae))))
  (ag (iJ (i:=5) fh.nd rfl rfl (sc:=(ab du)) (NX:=gp) (N:=["_law_deal","_law_hands"]) (ix:=[none,some 3]) rfl (by walk_at "c") (cj (pvA r9)) (by intros; exact (ax (i:=0) (show (["_law_deal","_law_hands"]:List Str).Nodup by decide +kernel) rfl (LN rfl))) (by intros; exact bQ) (by intros; exact (ak U38 (rmD hr) (ad (pv 0) (ad (pv 1) ae)))))
  (ag (ay (i:=6) fh.nd rfl (LN rfl) (As U15 (rmD hr) T.m_Table (ad (pvA xr) (ad (pvA xt) ae))))
  (ag (bC Me rfl (bw rfl B.range (aG (aq br (ak U32 (rmD hr) (ad (pvA r6) (ar ao ae))) ao) ae)) (ax (i:=7) fh.nd rfl (LN rfl)) (ai (cU (ak U31 (rmD hr) (ad (pvA sf) (aQ (ak U27 (rmD hr) (ad (pvA r6) (aG (aq bp ao (aq eV ao (pvA Jt))) (ad (pvA xr) (ad (pvA nW) ae))))) ae))))))
  (ag (ay (i:=8) fh.nd rfl (LN rfl) (aq br (ak U32 (rmD hr) (ad (pvA r6) (ar ao ae))) ao))
  (ag (ay (i:=9) fh.nd rfl (Pi rfl) (ak U49 (rmD hr) (ad (pvA sf) (ca (bU (sc:=(ab du)) (NX:=gp) (N:=["_law_hand"]) (ix:=[none]) rfl (by walk_at "c") (bw rfl B.range (ad (pvA nW) ae)) (by intros; exact (ax (i:=0) (show (["_law_hand"]:List Str).Nodup by decide +kernel) rfl (LN rfl))) (by intros; exact bQ) (by intros; exact (bP (ar aY (ad (pv 0) ae))))) (ad (pvA xu) ae)))))
  (ag (ay (i:=10) fh.nd rfl (LN rfl) (ak U12 (rmD hr) (aQ (az aD rfl B.len MN (ad (pvA r9) ae)) (ad (pvA jG) ae))))
  (ag (bf (PW.pt (lU (aK kE (az aD rfl B.len MN (ad (pvA jG) ae)) (pvA xu) (aL _)) (jZ (dD (cx (ak U11 (rmD hr) (ad (pvA sf) (ad (pvA jG) (ad (pvA Js) (ad (pvA nW) ae)))))))))) (ai (aw cC)) aM)
  (ag (bf (PW.pt (np (aK rq (az aD rfl B.len MN (ad (pvA jG) ae)) (pvA xu) (aL _)) (nn (PW.pt (lU (aK rq (az aD rfl B.len MN (ad (pvA jG) ae)) (pvA nW) (aL _)) (jZ (dD (cx (ak U18 (rmD hr) (ad (pvA sf) (ad (pvA jG) (ad (pvA nW) ae)))))))))))) (ai (aw cC)) aM)
  (ag (bC Me rfl (bw rfl B.range (aQ (az aD rfl B.len MN (ad (pvA r9) ae)) ae)) (ax (i:=11) fh.nd rfl (Pi rfl)) (ag (iJ (i:=12) fh.nd rfl rfl (sc:=(ab du)) (NX:=gp) (N:=HU) (ix:=[none,some 11,some 9]) rfl (by walk_at "c") (bw rfl B.range (aQ (az aD rfl B.len MN (ad (pvA jG) ae)) ae)) (by intros; exact (ax (i:=0) (show (HU:List Str).Nodup by decide +kernel) rfl (LN rfl))) (by intros; exact (rB (cx (aR bd (aR bd (pv 2) (pv 0) (fun _ _=>rfl)) (pv 1) (fun _ _=>rfl))))) (by intros; exact (pv 0)))
  (ai (bf (aK Cp (aR bd (pvA A1) (pvA Hy) (fun _ _=>rfl)) (Jm rfl B.min (ad (pvA Hz) ae)) (aL _)) (ai (aw cC)) aM))))
  (ai (aw (kU cJ (az aD rfl B.len MN (ad (pvA A1) ae)) (az aD rfl B.len MN (ad (pvA r9) ae)) (aL _)))))))))))))))),Kv h⟩
theorem yT {G:GF} (D:Ar K G.Table "Table.__init__" dq gN f fd) (B:Blt mg) (T:dF P w K mg G) (U35:zp P w K mg base 5) (U13:Dp P w K mg base 2):FnI P w K mg base 6 G.Table gN (dy K G):=by
 refine D.ok yL (by walk_at "l") fun _ _ _ _ _ _ _ _ hr h=>?_
 exact ⟨iZ K G,(ag (j0 (pvA da) (ak U35 (rmD hr) (ad (pvA nX) (ad (pvA jH) ae))) rfl)
  (ag (j0 (pvA da) (pvA nX) rfl)
  (ag (j0 (pvA da) (bD jy rfl B.list ON (ad (pvA jH) ae)) rfl)
  (ag (j0 (pvA da) (az aD rfl B.len MN (ad (pvA jH) ae)) rfl)
  (ag (j0 (pvA da) (bU (sc:=(ab dq)) (NX:=gN) (N:=["hand","self"]) (ix:=[none,some 0]) rfl (by walk_at "c") (bw rfl B.range (be (b7 (pvA da) rfl) ae)) (by intros; exact (ax (i:=0) (show (["hand","self"]:List Str).Nodup by decide +kernel) rfl (LN rfl))) (by intros; exact bQ) (by intros; exact (ak U13 (rmD hr) (be (b7 (pv 1) rfl) (ad (pv 0) ae))))) rfl)
  (ai (j0 (pvA da) (dE ae) rfl))))))),yo T.ct h⟩
theorem yU {G:GF} (D:iB K G.Table "view" "Table.view" fi mL f fd) (B:Blt mg) (T:dF P w K mg G) (U37:w5 P w K mg base 3) (U1:v4 P w K mg base 1):DL P w K mg base G 4:=by
 refine D.ok yM (by walk_at "l") fun _ _ _ _ _ _ _ _ hr h=>?_
 exact ⟨i3 K G,(ag (cU (ak U1 (rmD hr) (aQ (ak U37 (rmD hr) (ad (pvA nZ) (be (b7 (pvA nY) rfl) ae))) (ar aY ae))))
  (ai (aw (bD jy rfl B.list ON (aP (aR bd (b7 (pvA nY) rfl) (pvA nZ) (fun _ _=>rfl)) ae))))),yp T.ct h⟩
theorem yV {G:GF} (D:iB K G.Table "word" "Table.word" dZ kR f fd) (B:Blt mg) (T:dF P w K mg G) (U9:DM P w K mg base G 3) (U4:Hk P w K mg base G 40) (U30:Dj P w K mg base 3) (U1:v4 P w K mg base 1):w6 P w K mg base G 41:=by
 refine D.ok yN (by walk_at "l") fun _ _ _ _ _ _ _ _ hr h=>?_
 exact ⟨i5 K G,(ag (cU (ak U1 (rmD hr) (aQ (ak U30 (rmD hr) (ad (pvA n9) (be (b7 (pvA jI) rfl) ae))) (ar aY ae))))
  (ai (aw (dU U9 (rmD hr) T.cl_Table (pvA jI) (ad (pvA n9) (aQ (dU U4 (rmD hr) T.cl_Table (pvA jI) (ad (pvA xv) ae)) ae)))))),yr T.ct h⟩
theorem yW {G:GF} (D:iB K G.Table "show" "Table.show" cO vF f fd) (B:Blt mg) (T:dF P w K mg G) (m_set:mg "set"=none) (U9:DM P w K mg base G 3) (U29:Dw P w K mg base 4) (U37:w5 P w K mg base 3) (U17:Dy P w K mg base 1) (U1:v4 P w K mg base 1):Hj P w K mg base G 5:=by
 refine D.ok p0 (by walk_at "l") fun _ _ _ _ _ _ _ _ hr h=>?_
 exact ⟨i6 K G,(ag (cU (ak U1 (rmD hr) (aQ (ak U37 (rmD hr) (ad (pvA og) (be (b7 (pvA fj) rfl) ae))) (ar aY ae))))
  (ag (cU (ak U1 (rmD hr) (aQ (ak U37 (rmD hr) (ad (pvA xw) (aG (aq bp (b7 (pvA fj) rfl) ao) ae))) (ar aY ae))))
  (ag (cU (ak U1 (rmD hr) (aQ (ak U29 (rmD hr) (ad (pvA oh) (be (b7 (pvA fj) rfl) ae))) (ar aY ae))))
  (ag (ay (i:=4) p0.nd rfl (Pi rfl) (Dc rfl B.sorted m_set (ad (pvA oh) ae)))
  (ai (aw (dU U9 (rmD hr) T.cl_Table (pvA fj) (bj (bP (ad (pvA og) ae)) (ca (bU (sc:=(ab cO)) (NX:=rS) (N:=pc) (ix:=[none,some 2,some 4]) rfl (by walk_at "c") (cj (b7 (pvA fj) rfl)) (by intros; exact (ax (i:=0) (show (pc:List Str).Nodup by decide +kernel) rfl (LN rfl))) (by intros; exact bQ) (by intros; exact (ak U17 (rmD hr) (ad (pv 0) (ad (pv 1) (ad (pv 2) ae)))))) ae))))))))),yt T.ct h⟩
theorem wu {G:GF} (D:iB K G.Table "truths" "Table.truths" dQ mM f fd) (B:Blt mg) (T:dF P w K mg G) (U23:Dm P w K mg base 6) (U28:HW P w K mg base 39):Hk P w K mg base G 40:=by
 refine D.ok wo (by walk_at "l") fun _ _ _ _ _ _ _ _ hr h=>?_
 exact ⟨gM K G,(ag (bf (dD (cx (ak U23 (rmD hr) (be (b7 (pvA fC) rfl) (be (b7 (pvA fC) rfl) (ad (pvA lT) ae)))))) (ai oo) aM)
  (ai (aw (ak U28 (rmD hr) (be (b7 (pvA fC) rfl) (be (b7 (pvA fC) rfl) (ad (pvA lT) ae))))))),ve T.ct h⟩
theorem xD {G:GF} (D:iB K G.Table "again" "Table.again" d9 ["self"] f fd) (B:Blt mg) (T:dF P w K mg G) (U15:FnI P w K mg base 6 G.Table gN (dy K G)):Hi P w K mg base G 8:=by
 refine D.ok oj (by walk_at "l") fun _ _ _ _ _ _ _ _ hr h=>?_
 exact ⟨h8 K G,(ag (ay (i:=1) oj.nd rfl (LN rfl) (As U15 (rmD hr) T.m_Table (be (b7 (pvA ga) rfl) (be (b7 (pvA ga) rfl) ae))))
  (ag (j0 (pvA jm) (bD jy rfl B.list ON (be (b7 (pvA ga) rfl) ae)) rfl)
  (ag (j0 (pvA jm) (bD jy rfl B.list ON (be (b7 (pvA ga) rfl) ae)) rfl)
  (ai (aw (pvA jm)))))),wQ T.ct h⟩
theorem xE {G:GF} (D:iB K G.Table "learn" "Table.learn" cS vG f fd) (B:Blt mg) (T:dF P w K mg G) (U45:Dq P w K mg base 2):DM P w K mg base G 3:=by
 refine D.ok ol (by walk_at "l") fun _ _ _ _ _ _ _ _ hr h=>?_
 exact ⟨h7 K G,(ag (bC Me rfl (uh (pvA mW)) (ax (i:=3) ol.nd rfl (LN rfl)) (ai (lc (ak U45 (rmD hr) (aP (aR bd (b7 (pvA jn) rfl) (pvA mX) (fun _ _=>rfl)) (ad (pvA jo) ae))) (nv (b7 (pvA jn) rfl) (pvA mX) js))))
  (ag (cU (lW Nk NT NU gf (b7 (pvA jn) rfl) (bj (bP (ad (pvA mW) (ad (pvA jo) ae))) ae)))
  (ai (aw (bD jy rfl B.list ON (ad (pvA jo) ae)))))),wO T.ct h⟩
theorem Lh (B:Blt mg) {G:GF} {f1:Addr} {fd1:L6} (V101:Def K mg "play" fF vH f1 fd1) {f2:Addr} {fd2:L6} (V64:Def K mg "first_turns" cb vS f2 fd2) {f3:Addr} {fd3:L6} (V88:Def K mg "is_whole" jb pj f3 fd3) {f4:Addr} {fd4:L6} (V76:Def K mg "is_within" eL kQ f4 fd4) {f5:Addr} {fd5:L6} (V89:Def K mg "is_below" gO mG f5 fd5) {f6:Addr} {fd6:L6} (V82:Def K mg "are_hands" dL vR f6 fd6) {f7:Addr} {fd7:L6} (V91:Def K mg "is_pack" gq dH f7 fd7) {f8:Addr} {fd8:L6} (V85:Def K mg "how_many" dI dH f8 fd8) {f9:Addr} {fd9:L6} (V92:Def K mg "choices" fk vU f9 fd9) {f10:Addr} {fd10:L6} (V87:Def K mg "deals_of" eC dH f10 fd10) {f11:Addr} {fd11:L6} (V54:Def K mg "with_one_more" bL vV f11 fd11) {f12:Addr} {fd12:L6} (V90:Def K mg "cards_of" gP mI f12 fd12) {f13:Addr} {fd13:L6} (V75:Def K mg "is_saying" cH jX f13 fd13) {f14:Addr} {fd14:L6} (V93:Def K mg "is_word" gu jX f14 fd14) {f15:Addr} {fd15:L6} (V99:Def K mg "fits" ka jW f15 fd15) {f16:Addr} {fd16:L6} (V86:Def K mg "parts_of" fB vZ f16 fd16) {f17:Addr} {fd17:L6} (V58:Def K mg "parts_of_all" cX vY f17 fd17) {f18:Addr} {fd18:L6} (V65:Def K mg "first_view" fc mJ f18 fd18) {f19:Addr} {fd19:L6} (V97:Def K mg "split" k9 mK f19 fd19) {f20:Addr} {fd20:L6} (V52:Def K mg "least_with_same" bF ["marks"] f20 fd20) {f21:Addr} {fd21:L6} (V94:Def K mg "joined" dX vW f21 fd21) {f22:Addr} {fd22:L6} (V102:Def K mg "link" je vK f22 fd22) {f23:Addr} {fd23:L6} (V95:Def K mg "end_of" iC vQ f23 fd23) {f24:Addr} {fd24:L6} (V80:Def K mg "truths_of" bN rX f24 fd24) {f25:Addr} {fd25:L6} (V103:Def K mg "both" lM d3 f25 fd25) {f26:Addr} {fd26:L6} (V96:Def K mg "either" iD d3 f26 fd26) {f27:Addr} {fd27:L6} (V98:Def K mg "known" fP vP f27 fd27) {f28:Addr} {fd28:L6} (V55:Def K mg "known_to_all" cB vT f28 fd28) {f29:Addr} {fd29:L6} (V100:Def K mg "seen" lP kS f29 fd29) {f30:Addr} {fd30:L6} (V53:Def K mg "refuse_unless" eE pi f30 fd30) {f31:Addr} {fd31:L6} (V81:Def K mg "are_cards" fQ mH f31 fd31) {f32:Addr} {fd32:L6} (V69:Def K mg "least_held" dm pc f32 fd32) {f33:Addr} {fd33:L6} (V84:Def K mg "_law_cell" eN vA f33 fd33) {f34:Addr} {fd34:L6} (V57:Def K mg "_law_product" cY vX f34 fd34) {f35:Addr} {fd35:L6} (V73:Def K mg "_law_count" dn vI f35 fd35) {f36:Addr} {fd36:L6} (V77:Def K mg "_law_pack" cI vD f36 fd36) {f37:Addr} {fd37:L6} (V66:Def K mg "_law_words" dY rY f37 fd37) {f38:Addr} {fd38:L6} (V74:Def K mg "_law_group" fg mE f38 fd38) {f39:Addr} {fd39:L6} (V78:Def K mg "_law_pool" cn nj f39 fd39) {f40:Addr} {fd40:L6} (V59:Def K mg "_law_saying" bi vv f40 fd40) {f41:Addr} {fd41:L6} (V79:Def K mg "_law_deed" cp nj f41 fd41) {f42:Addr} {fd42:L6} (V83:Def K mg "_law_done" fR mF f42 fd42) {f43:Addr} {fd43:L6} (V60:Def K mg "_law_doubts" cR vz f43 fd43) {f44:Addr} {fd44:L6} (V62:Def K mg "_law_walked" bz vx f44 fd44) {f45:Addr} {fd45:L6} (V70:Def K mg "_law_rests" bI vy f45 fd45) {f46:Addr} {fd46:L6} (V104:Def K mg "law" du r0 f46 fd46) {f47:Addr} {fd47:L6} (V67:Ar K G.Table "Table.__init__" dq gN f47 fd47) {f48:Addr} {fd48:L6} (V68:iB K G.Table "view" "Table.view" fi mL f48 fd48) {f49:Addr} {fd49:L6} (V72:iB K G.Table "word" "Table.word" dZ kR f49 fd49) {f50:Addr} {fd50:L6} (V71:iB K G.Table "show" "Table.show" cO vF f50 fd50) {f51:Addr} {fd51:L6} (V56:iB K G.Table "truths" "Table.truths" dQ mM f51 fd51) {f52:Addr} {fd52:L6} (V63:iB K G.Table "again" "Table.again" d9 ["self"] f52 fd52) {f53:Addr} {fd53:L6} (V61:iB K G.Table "learn" "Table.learn" cS vG f53 fd53) (T:dF P w K mg G) {t_MOST_CARDS:Tok} (m_MOST_CARDS:mg "MOST_CARDS"=some (.int 12 t_MOST_CARDS)) {t_MOST_HANDS:Tok} (m_MOST_HANDS:mg "MOST_HANDS"=some (.int 5 t_MOST_HANDS)) {t_MOST_DEALS:Tok} (m_MOST_DEALS:mg "MOST_DEALS"=some (.int 2000 t_MOST_DEALS)) {t_MOST_WORDS:Tok} (m_MOST_WORDS:mg "MOST_WORDS"=some (.int 30 t_MOST_WORDS)) (m_set:mg "set"=none):gT P w K mg base CX0 74 f46 fd46 r0 (uw K):=by
 have U40:Hf P w K mg base 1:=DX V92 B
 have U36:Di P w K mg base 1:=BF V88 B
 have U24:AN P w K mg base 2:=A2 V76 B U36
 have U39:He P w K mg base 3:=DW V91 B m_MOST_CARDS m_MOST_HANDS U24
 have U33:Hg P w K mg base 4:=BH V85 B U40 U39
 have U2:Hh P w K mg base 1:=t9 V54 B
 have U35:zp P w K mg base 5:=BI V87 B m_MOST_DEALS U33 U2
 have U38:v2 P w K mg base 1:=BJ V90 B
 have U0:zq P w K mg base 1:=rk V52 B
 have U13:Dp P w K mg base 2:=yO V65 B U38 U0
 have U15:FnI P w K mg base 6 G.Table gN (dy K G):=yT V67 B T U35 U13
 have U32:pA P w K mg base 1:=A6 V84 B
 have U22:zu P w K mg base 1:=yR V74 B
 have U26:DE P w K mg base 2:=A8 V78 B U32
 have U14:HV P w K mg base 71:=p7 V66 B 70
 have U7:DF P w K mg base 72:=xz V59 B U32 U22 U26 U14
 have U27:DG P w K mg base 73:=A9 V79 B U32 U22 U7
 have U45:Dq P w K mg base 2:=HB V97 B U0
 have U9:DM P w K mg base G 3:=xE V61 B T U45
 have U37:w5 P w K mg base 3:=BG V89 B U24
 have U29:Dw P w K mg base 4:=A5 V81 B U37
 have U17:Dy P w K mg base 1:=yP V69 B
 have U1:v4 P w K mg base 1:=uf V53 B
 have U19:Hj P w K mg base G 5:=yW V71 B T m_set U9 U29 U37 U17 U1
 have U30:Dj P w K mg base 3:=A3 V82 B U24
 have U47:Dn P w K mg base 4:=Jv V99 B U30 U37
 have U41:Dk P w K mg base 5:=DY V93 B T U47
 have U34:Do P w K mg base 1:=BK V86 B T
 have U6:Dl P w K mg base 2:=wp V58 B U34
 have U23:Dm P w K mg base 6:=A4 V75 B m_MOST_WORDS U36 U41 U6
 have U51:zt P w K mg base 1:=Jx V103 B
 have U44:Dt P w K mg base 1:=FK V96 B
 have U43:zr P w K mg base 1:=FJ V95 B
 have U50:Dr P w K mg base 2:=Jw V102 B U43
 have U42:Ds P w K mg base 3:=FI V94 B U43 U50
 have U46:v3 P w K mg base 1:=HC V98 B
 have U3:Du P w K mg base 2:=wq V55 B U51 U46
 have U48:Dv P w K mg base 2:=Jy V100 B U46
 have U28:HW P w K mg base 39:=rl V80 B U51 U38 U44 U42 U46 U3 U48 35
 have U4:Hk P w K mg base G 40:=wu V56 B T U23 U28
 have U20:w6 P w K mg base G 41:=yV V72 B T U9 U4 U30 U1
 have U31:DH P w K mg base G 42:=Ba V83 B T U19 U20
 have U5:Dz P w K mg base 1:=wt V57 B
 have U21:DC P w K mg base 2:=yQ V73 B U5
 have U25:DD P w K mg base 3:=A7 V77 B U32 U21
 have U16:DL P w K mg base G 4:=yU V68 B T U37 U1
 have U18:DK P w K mg base G 42:=yS V70 B T U16 U20
 have U8:DI P w K mg base 1:=xB V60 B
 have U11:DJ P w K mg base G 42:=xC V62 B T U16 U20 U8
 have U12:Hc P w K mg base 1:=xy V64 B
 have U10:Hi P w K mg base G 8:=xD V63 B T U15
 have U49:Hb P w K mg base G 42:=Ju V101 B T U10 U20
 exact KG V104 B T U15 U32 U27 U31 U25 U18 U11 U38 U35 U12 U49
end
@[elab_as_elim] theorem ofLen1 {α:Type} {P:List α->Prop} (us:List α) (hl:us.length=1) (h:∀ a0:α,P [a0]):P us:=match us,hl with | [a0],_=>h a0
@[elab_as_elim] theorem ofLen2 {α:Type} {P:List α->Prop} (us:List α) (hl:us.length=2) (h:∀ a0 a1:α,P [a0,a1]):P us:=match us,hl with | [a0,a1],_=>h a0 a1
@[elab_as_elim] theorem ofLen3 {α:Type} {P:List α->Prop} (us:List α) (hl:us.length=3) (h:∀ a0 a1 a2:α,P [a0,a1,a2]):P us:=match us,hl with | [a0,a1,a2],_=>h a0 a1 a2
@[elab_as_elim] theorem ofLen4 {α:Type} {P:List α->Prop} (us:List α) (hl:us.length=4) (h:∀ a0 a1 a2 a3:α,P [a0,a1,a2,a3]):P us:=match us,hl with | [a0,a1,a2,a3],_=>h a0 a1 a2 a3
@[elab_as_elim] theorem ofLen5 {α:Type} {P:List α->Prop} (us:List α) (hl:us.length=5) (h:∀ a0 a1 a2 a3 a4:α,P [a0,a1,a2,a3,a4]):P us:=match us,hl with | [a0,a1,a2,a3,a4],_=>h a0 a1 a2 a3 a4
local macro_rules | `(tactic| walk_at "b1")=>`(tactic| exact fun _ _ _ _ _ _ us hl=>ofLen1 us hl fun _=>rfl)
local macro_rules | `(tactic| walk_at "b2")=>`(tactic| exact fun _ _ _ _ _ _ us hl=>ofLen2 us hl fun _ _=>rfl)
local macro_rules | `(tactic| walk_at "b3")=>`(tactic| exact fun _ _ _ _ _ _ us hl=>ofLen3 us hl fun _ _ _=>rfl)
local macro_rules | `(tactic| walk_at "b4")=>`(tactic| exact fun _ _ _ _ _ _ us hl=>ofLen4 us hl fun _ _ _ _=>rfl)
local macro_rules | `(tactic| walk_at "b5")=>`(tactic| exact fun _ _ _ _ _ _ us hl=>ofLen5 us hl fun _ _ _ _ _=>rfl)
theorem all_mk {l:W.OpenLaw} {w:World} {K:Fg} {h:Heap} {mg:Str->Option Value} {fa:Addr} (X:K.In h) (G:h.Ns Mj mg) (hfa:mg "law"=some (.ref fa))
  {t_MOST_CARDS:Tok}  {t_MOST_HANDS:Tok}  {t_MOST_DEALS:Tok}  {t_MOST_WORDS:Tok}   {aF fm1 fm2 fm3 fm4 fm5 fm6 fm7 fm8:Addr} {tk1 tk2 tk3 tk4 tk5 tk6 tk7 tk8 tu1 tu2 tu3 tu4 tu5 tu6 tu7 tu8 tu9 tu10 tu11 tu12 tu13 tu14:Tok} {epF tn1 tn2 tn3 tn4 tn5 tn6 tn7 tn8:Nat} {to1 to2 to3 to4 to5 to6 to7 to8:Option Addr} {ts1 ts2 ts3 ts4 ts5 ts6 ts7 ts8:Array (Option Value)} {aT:Addr}
  (q1:DfA K "play" fF)
  (q2:DfA K "first_turns" cb)
  (q3:DfA K "is_whole" jb)
  (q4:DfA K "is_within" eL)
  (q5:DfA K "is_below" gO)
  (q6:DfA K "are_hands" dL)
  (q7:DfA K "is_pack" gq)
  (q8:DfA K "how_many" dI)
  (q9:DfA K "choices" fk)
  (q10:DfA K "deals_of" eC)
  (q11:DfA K "with_one_more" bL)
  (q12:DfA K "cards_of" gP)
  (q13:DfA K "is_saying" cH)
  (q14:DfA K "is_word" gu)
  (q15:DfA K "fits" ka)
  (q16:DfA K "parts_of" fB)
  (q17:DfA K "parts_of_all" cX)
  (q18:DfA K "first_view" fc)
  (q19:DfA K "split" k9)
  (q20:DfA K "least_with_same" bF)
  (q21:DfA K "joined" dX)
  (q22:DfA K "link" je)
  (q23:DfA K "end_of" iC)
  (q24:DfA K "truths_of" bN)
  (q25:DfA K "both" lM)
  (q26:DfA K "either" iD)
  (q27:DfA K "known" fP)
  (q28:DfA K "known_to_all" cB)
  (q29:DfA K "seen" lP)
  (q30:DfA K "refuse_unless" eE)
  (q31:DfA K "are_cards" fQ)
  (q32:DfA K "least_held" dm)
  (q33:DfA K "_law_cell" eN)
  (q34:DfA K "_law_product" cY)
  (q35:DfA K "_law_count" dn)
  (q36:DfA K "_law_pack" cI)
  (q37:DfA K "_law_words" dY)
  (q38:DfA K "_law_group" fg)
  (q39:DfA K "_law_pool" cn)
  (q40:DfA K "_law_saying" bi)
  (q41:DfA K "_law_deed" cp)
  (q42:DfA K "_law_done" fR)
  (q43:DfA K "_law_doubts" cR)
  (q44:DfA K "_law_walked" bz)
  (q45:DfA K "_law_rests" bI)
  (q46:DfA K "law" du)
  (q47:MtA K aT "__init__" "Table.__init__" dq)
  (q48:MtA K aT "view" "Table.view" fi)
  (q49:MtA K aT "word" "Table.word" dZ)
  (q50:MtA K aT "show" "Table.show" cO)
  (q51:MtA K aT "truths" "Table.truths" dQ)
  (q52:MtA K aT "again" "Table.again" d9)
  (q53:MtA K aT "learn" "Table.learn" cS)
  (y1:N0 K Mj "MOST_CARDS"=some (some (.int 12 t_MOST_CARDS)))
  (y2:N0 K Mj "MOST_HANDS"=some (some (.int 5 t_MOST_HANDS)))
  (y3:N0 K Mj "MOST_DEALS"=some (some (.int 2000 t_MOST_DEALS)))
  (y4:N0 K Mj "MOST_WORDS"=some (some (.int 30 t_MOST_WORDS)))
  (y5:N0 K Mj "set"=some none)
  (x1:N0 K Mj "FORMS"=some (some (.ref aF)))
  (x2:K.lookup aF=some ⟨.type "dict",none,.dict #[⟨MU w.params "holds",.str "holds" tk1,.ref fm1⟩,⟨MU w.params "not",.str "not" tk2,.ref fm2⟩,⟨MU w.params "and",.str "and" tk3,.ref fm3⟩,⟨MU w.params "or",.str "or" tk4,.ref fm4⟩,⟨MU w.params "knows",.str "knows" tk5,.ref fm5⟩,⟨MU w.params "all",.str "all" tk6,.ref fm6⟩,⟨MU w.params "common",.str "common" tk7,.ref fm7⟩,⟨MU w.params "sees",.str "sees" tk8,.ref fm8⟩] epF,#[]⟩)
  (x3:K.lookup fm1=some ⟨.type "tuple",to1,.seq #[.str "holder" tu1,.str "card" tu2] tn1,ts1⟩)
  (x4:K.lookup fm2=some ⟨.type "tuple",to2,.seq #[.str "saying" tu3] tn2,ts2⟩)
  (x5:K.lookup fm3=some ⟨.type "tuple",to3,.seq #[.str "saying" tu4,.str "saying" tu5] tn3,ts3⟩)
  (x6:K.lookup fm4=some ⟨.type "tuple",to4,.seq #[.str "saying" tu6,.str "saying" tu7] tn4,ts4⟩)
  (x7:K.lookup fm5=some ⟨.type "tuple",to5,.seq #[.str "hand" tu8,.str "saying" tu9] tn5,ts5⟩)
  (x8:K.lookup fm6=some ⟨.type "tuple",to6,.seq #[.str "hands" tu10,.str "saying" tu11] tn6,ts6⟩)
  (x9:K.lookup fm7=some ⟨.type "tuple",to7,.seq #[.str "hands" tu12,.str "saying" tu13] tn7,ts7⟩)
  (x10:K.lookup fm8=some ⟨.type "tuple",to8,.seq #[.str "hand" tu14] tn8,ts8⟩)
  (x11:(aF == NG)=false)
  (x12:N0 K Mj "Table"=some (some (.ref aT)))
  (x13:W.plainGet K aT US=true)
  (x14:W.hasDictIn K aT=true)
  (x15:W.plainOver K aT=true)
  (x16:QP K (.ref aT) "__setattr__"=some (some (.builtin "object.__setattr__")))
  (x17:W.makesIn K aT=true)
  (x18:W.keepIn K (.ref aT)=true)
  (x19:QP K (.ref aT) "dealt"=some none)
  (x20:QP K (.ref aT) "cards"=some none)
  (x21:QP K (.ref aT) "sizes"=some none)
  (x22:QP K (.ref aT) "hands"=some none)
  (x23:QP K (.ref aT) "views"=some none)
  (x24:QP K (.ref aT) "deeds"=some none)
  (z1:N0 K Mj "len"=some none) (z2:N0 K Mj "range"=some none) (z3:N0 K Mj "tuple"=some none) (z4:N0 K Mj "list"=some none) (z5:N0 K Mj "int"=some none) (z6:N0 K Mj "bool"=some none) (z7:N0 K Mj "str"=some none) (z8:N0 K Mj "dict"=some none) (z9:N0 K Mj "sum"=some none) (z10:N0 K Mj "all"=some none) (z11:N0 K Mj "min"=some none) (z12:N0 K Mj "max"=some none) (z13:N0 K Mj "sorted"=some none) (z14:N0 K Mj "enumerate"=some none) (z15:N0 K Mj "zip"=some none) (z16:N0 K Mj "isinstance"=some none):
  ∃ fd:L6,(∀ (s:Shared) (v:Value),BindsTo s fd ⟨[v],[]⟩ [("_law_script",v)])/\∀ base:Heap,K.In base->base.Ns Mj mg->gT l.prog w K mg base CX0 74 fa fd r0 (uw K):=by
 have B:Blt mg:=⟨M5 X G z1,M5 X G z2,M5 X G z3,M5 X G z4,M5 X G z5,M5 X G z6,M5 X G z7,M5 X G z8,M5 X G z9,M5 X G z10,M5 X G z11,M5 X G z12,M5 X G z13,M5 X G z14,M5 X G z15,M5 X G z16⟩
 obtain ⟨_,_,D1⟩:=q1.df (ps:=vH) X G (by walk_at "b3")
 obtain ⟨_,_,D2⟩:=q2.df (ps:=vS) X G (by walk_at "b2")
 obtain ⟨_,_,D3⟩:=q3.df (ps:=pj) X G (by walk_at "b1")
 obtain ⟨_,_,D4⟩:=q4.df (ps:=kQ) X G (by walk_at "b3")
 obtain ⟨_,_,D5⟩:=q5.df (ps:=mG) X G (by walk_at "b2")
 obtain ⟨_,_,D6⟩:=q6.df (ps:=vR) X G (by walk_at "b2")
 obtain ⟨_,_,D7⟩:=q7.df (ps:=dH) X G (by walk_at "b2")
 obtain ⟨_,_,D8⟩:=q8.df (ps:=dH) X G (by walk_at "b2")
 obtain ⟨_,_,D9⟩:=q9.df (ps:=vU) X G (by walk_at "b2")
 obtain ⟨_,_,D10⟩:=q10.df (ps:=dH) X G (by walk_at "b2")
 obtain ⟨_,_,D11⟩:=q11.df (ps:=vV) X G (by walk_at "b2")
 obtain ⟨_,_,D12⟩:=q12.df (ps:=mI) X G (by walk_at "b2")
 obtain ⟨_,_,D13⟩:=q13.df (ps:=jX) X G (by walk_at "b3")
 obtain ⟨_,_,D14⟩:=q14.df (ps:=jX) X G (by walk_at "b3")
 obtain ⟨_,_,D15⟩:=q15.df (ps:=jW) X G (by walk_at "b4")
 obtain ⟨_,_,D16⟩:=q16.df (ps:=vZ) X G (by walk_at "b1")
 obtain ⟨_,_,D17⟩:=q17.df (ps:=vY) X G (by walk_at "b1")
 obtain ⟨_,_,D18⟩:=q18.df (ps:=mJ) X G (by walk_at "b2")
 obtain ⟨_,_,D19⟩:=q19.df (ps:=mK) X G (by walk_at "b2")
 obtain ⟨_,_,D20⟩:=q20.df (ps:=["marks"]) X G (by walk_at "b1")
 obtain ⟨_,_,D21⟩:=q21.df (ps:=vW) X G (by walk_at "b2")
 obtain ⟨_,_,D22⟩:=q22.df (ps:=vK) X G (by walk_at "b3")
 obtain ⟨_,_,D23⟩:=q23.df (ps:=vQ) X G (by walk_at "b2")
 obtain ⟨_,_,D24⟩:=q24.df (ps:=rX) X G (by walk_at "b3")
 obtain ⟨_,_,D25⟩:=q25.df (ps:=d3) X G (by walk_at "b2")
 obtain ⟨_,_,D26⟩:=q26.df (ps:=d3) X G (by walk_at "b2")
 obtain ⟨_,_,D27⟩:=q27.df (ps:=vP) X G (by walk_at "b2")
 obtain ⟨_,_,D28⟩:=q28.df (ps:=vT) X G (by walk_at "b2")
 obtain ⟨_,_,D29⟩:=q29.df (ps:=kS) X G (by walk_at "b2")
 obtain ⟨_,_,D30⟩:=q30.df (ps:=pi) X G (by walk_at "b2")
 obtain ⟨_,_,D31⟩:=q31.df (ps:=mH) X G (by walk_at "b2")
 obtain ⟨_,_,D32⟩:=q32.df (ps:=pc) X G (by walk_at "b3")
 obtain ⟨_,_,D33⟩:=q33.df (ps:=vA) X G (by walk_at "b2")
 obtain ⟨_,_,D34⟩:=q34.df (ps:=vX) X G (by walk_at "b1")
 obtain ⟨_,_,D35⟩:=q35.df (ps:=vI) X G (by walk_at "b2")
 obtain ⟨_,_,D36⟩:=q36.df (ps:=vD) X G (by walk_at "b3")
 obtain ⟨_,_,D37⟩:=q37.df (ps:=rY) X G (by walk_at "b1")
 obtain ⟨_,_,D38⟩:=q38.df (ps:=mE) X G (by walk_at "b2")
 obtain ⟨_,_,D39⟩:=q39.df (ps:=nj) X G (by walk_at "b4")
 obtain ⟨_,_,D40⟩:=q40.df (ps:=vv) X G (by walk_at "b5")
 obtain ⟨_,_,D41⟩:=q41.df (ps:=nj) X G (by walk_at "b4")
 obtain ⟨_,_,D42⟩:=q42.df (ps:=mF) X G (by walk_at "b2")
 obtain ⟨_,_,D43⟩:=q43.df (ps:=vz) X G (by walk_at "b3")
 obtain ⟨_,_,D44⟩:=q44.df (ps:=vx) X G (by walk_at "b4")
 obtain ⟨_,_,D45⟩:=q45.df (ps:=vy) X G (by walk_at "b3")
 obtain ⟨fd,D46,hb⟩:=q46.law X G (by walk_at "b1") hfa fun _ _ _ _ _ _ _ _=>.of_eq rfl
 obtain ⟨_,_,D47⟩:=q47.di (ps:=gN) x17 x18 (by walk_at "b3")
 obtain ⟨_,_,D48⟩:=q48.df (ps:=mL) (by walk_at "b2")
 obtain ⟨_,_,D49⟩:=q49.df (ps:=kR) (by walk_at "b3")
 obtain ⟨_,_,D50⟩:=q50.df (ps:=vF) (by walk_at "b4")
 obtain ⟨_,_,D51⟩:=q51.df (ps:=mM) (by walk_at "b2")
 obtain ⟨_,_,D52⟩:=q52.df (ps:=["self"]) (by walk_at "b1")
 obtain ⟨_,_,D53⟩:=q53.df (ps:=vG) (by walk_at "b3")
 refine ⟨fd,hb,fun base _ _=>?_⟩
 have T:dF l.prog w K mg _:=GC (IT (aC:=0) x11 (SC X G x1) x2 x3 x4 x5 x6 x7 x8 x9 x10) (SC X G x12) x13 x14 x15 x16 x19 x20 x21 x22 x23 x24
 exact Lh B D1 D2 D3 D4 D5 D6 D7 D8 D9 D10 D11 D12 D13 D14 D15 D16 D17 D18 D19 D20 D21 D22 D23 D24 D25 D26 D27 D28 D29 D30 D31 D32 D33 D34 D35 D36 D37 D38 D39 D40 D41 D42 D43 D44 D45 D46 D47 D48 D49 D50 D51 D52 D53 T (SC X G y1) (SC X G y2) (SC X G y3) (SC X G y4) (M5 X G y5)
end Kc_k42
local macro_rules | `(tactic| walk_at "q1")=>`(tactic| exact ⟨_,by k_is,_,_,_,_,_,_,_,_,_,by k_is,by k_is,by k_is⟩)
local macro_rules | `(tactic| walk_at "q2")=>`(tactic| exact ⟨_,by k_is,by k_is,_,_,_,_,_,_,_,_,_,by k_is,by k_is,by k_is⟩)
noncomputable def PySem.W.Fast.tw18089134388788319887 : PySem.Program := PySem.Challenge.pw_knowcards_k42_whole_plays_walked
theorem PySem.W.Fast.te18089134388788319887 : PySem.Challenge.pw_knowcards_k42_whole_plays_walked = PySem.W.Fast.tw18089134388788319887 := rfl
noncomputable def PySem.W.Fast.tw14488860246158631721 : PySem.Params → PySem.W.Frag := fun _ => []
theorem PySem.W.Fast.te14488860246158631721 : (fun _ => [] : PySem.Params → PySem.W.Frag) = PySem.W.Fast.tw14488860246158631721 := rfl
noncomputable def PySem.W.Fast.tw17766028688284204164 : PySem.Program := PySem.Challenge.pw_knowcards_k42_whole_plays_walked
theorem PySem.W.Fast.te17766028688284204164 : PySem.Challenge.pw_knowcards_k42_whole_plays_walked = PySem.W.Fast.tw17766028688284204164 := rfl
noncomputable def PySem.W.Fast.tw2310451068865827842 : PySem.Params → PySem.Obj := fun _ => default
theorem PySem.W.Fast.te2310451068865827842 : (fun _ => default : PySem.Params → PySem.Obj) = PySem.W.Fast.tw2310451068865827842 := rfl
noncomputable def PySem.W.Fast.tw1850799130434521800 : PySem.Params → PySem.Obj := fun _ => default
theorem PySem.W.Fast.te1850799130434521800 : (fun _ => default : PySem.Params → PySem.Obj) = PySem.W.Fast.tw1850799130434521800 := rfl
noncomputable def PySem.W.Fast.tw4845056454558680041 : PySem.Params → PySem.Obj := fun _ => default
theorem PySem.W.Fast.te4845056454558680041 : (fun _ => default : PySem.Params → PySem.Obj) = PySem.W.Fast.tw4845056454558680041 := rfl
noncomputable def PySem.W.Fast.tw17042309438474479838 : PySem.Params → PySem.Obj := fun _ => default
theorem PySem.W.Fast.te17042309438474479838 : (fun _ => default : PySem.Params → PySem.Obj) = PySem.W.Fast.tw17042309438474479838 := rfl
noncomputable def PySem.W.Fast.tw9747165367155352481 : PySem.Params → PySem.Obj := fun _ => default
theorem PySem.W.Fast.te9747165367155352481 : (fun _ => default : PySem.Params → PySem.Obj) = PySem.W.Fast.tw9747165367155352481 := rfl
noncomputable def PySem.W.Fast.tw17590074591833391776 : PySem.Params → PySem.Obj := fun _ => default
theorem PySem.W.Fast.te17590074591833391776 : (fun _ => default : PySem.Params → PySem.Obj) = PySem.W.Fast.tw17590074591833391776 := rfl
noncomputable def PySem.W.Fast.tw1168763075041264594 : PySem.Params → PySem.Obj := fun _ => default
theorem PySem.W.Fast.te1168763075041264594 : (fun _ => default : PySem.Params → PySem.Obj) = PySem.W.Fast.tw1168763075041264594 := rfl
noncomputable def PySem.W.Fast.tw15986079348180246841 : PySem.Params → PySem.Obj := fun _ => default
theorem PySem.W.Fast.te15986079348180246841 : (fun _ => default : PySem.Params → PySem.Obj) = PySem.W.Fast.tw15986079348180246841 := rfl
noncomputable def PySem.W.Fast.tw6095201272637170750 : PySem.Params → PySem.Obj := fun _ => default
theorem PySem.W.Fast.te6095201272637170750 : (fun _ => default : PySem.Params → PySem.Obj) = PySem.W.Fast.tw6095201272637170750 := rfl
noncomputable def PySem.W.Fast.tw8805895537639550852 : PySem.Params → PySem.Obj := fun _ => default
theorem PySem.W.Fast.te8805895537639550852 : (fun _ => default : PySem.Params → PySem.Obj) = PySem.W.Fast.tw8805895537639550852 := rfl
noncomputable def PySem.W.Fast.tw6930108779811312509 : PySem.Params → PySem.Obj := fun _ => default
theorem PySem.W.Fast.te6930108779811312509 : (fun _ => default : PySem.Params → PySem.Obj) = PySem.W.Fast.tw6930108779811312509 := rfl
noncomputable def PySem.W.Fast.tw15618364227631164513 : PySem.Params → PySem.Obj := fun _ => default
theorem PySem.W.Fast.te15618364227631164513 : (fun _ => default : PySem.Params → PySem.Obj) = PySem.W.Fast.tw15618364227631164513 := rfl
noncomputable def PySem.W.Fast.tw16613167268784889954 : PySem.Params → PySem.Obj := fun _ => default
theorem PySem.W.Fast.te16613167268784889954 : (fun _ => default : PySem.Params → PySem.Obj) = PySem.W.Fast.tw16613167268784889954 := rfl
open PySem PySem.W PyProof.Rows
set_option maxRecDepth 100000 in
set_option maxHeartbeats 0 in
theorem PySem.Challenge.cw_knowcards_k42_whole_plays_walked_holds : PySem.Challenge.rw_knowcards_k42_whole_plays_walked.Holds := by
 w_on; o_law; k_head; (case hw=>w_witness2)
 k_fill
 refine L2.F2 (l:=PySem.Challenge.rw_knowcards_k42_whole_plays_walked) (k:=74) (x:="_law_script") rfl rfl ⟨rfl,by decide,by decide⟩ (fun w h Y=>PySem.W.kIn_of Y) ?F
 case F=>
  intro w mg fa h KX G hmg
  refine' Kc_k42.all_mk KX G hmg ?q1 ?q2 ?q3 ?q4 ?q5 ?q6 ?q7 ?q8 ?q9 ?q10 ?q11 ?q12 ?q13 ?q14 ?q15 ?q16 ?q17 ?q18 ?q19 ?q20 ?q21 ?q22 ?q23 ?q24 ?q25 ?q26 ?q27 ?q28 ?q29 ?q30 ?q31 ?q32 ?q33 ?q34 ?q35 ?q36 ?q37 ?q38 ?q39 ?q40 ?q41 ?q42 ?q43 ?q44 ?q45 ?q46 ?q47 ?q48 ?q49 ?q50 ?q51 ?q52 ?q53 ?y1 ?y2 ?y3 ?y4 ?y5 ?x1 ?x2 ?x3 ?x4 ?x5 ?x6 ?x7 ?x8 ?x9 ?x10 ?x11 ?x12 ?x13 ?x14 ?x15 ?x16 ?x17 ?x18 ?x19 ?x20 ?x21 ?x22 ?x23 ?x24 ?z1 ?z2 ?z3 ?z4 ?z5 ?z6 ?z7 ?z8 ?z9 ?z10 ?z11 ?z12 ?z13 ?z14 ?z15 ?z16
  (case q1=>walk_at "q1")
  (case q2=>walk_at "q1")
  (case q3=>walk_at "q1")
  (case q4=>walk_at "q1")
  (case q5=>walk_at "q1")
  (case q6=>walk_at "q1")
  (case q7=>walk_at "q1")
  (case q8=>walk_at "q1")
  (case q9=>walk_at "q1")
  (case q10=>walk_at "q1")
  (case q11=>walk_at "q1")
  (case q12=>walk_at "q1")
  (case q13=>walk_at "q1")
  (case q14=>walk_at "q1")
  (case q15=>walk_at "q1")
  (case q16=>walk_at "q1")
  (case q17=>walk_at "q1")
  (case q18=>walk_at "q1")
  (case q19=>walk_at "q1")
  (case q20=>walk_at "q1")
  (case q21=>walk_at "q1")
  (case q22=>walk_at "q1")
  (case q23=>walk_at "q1")
  (case q24=>walk_at "q1")
  (case q25=>walk_at "q1")
  (case q26=>walk_at "q1")
  (case q27=>walk_at "q1")
  (case q28=>walk_at "q1")
  (case q29=>walk_at "q1")
  (case q30=>walk_at "q1")
  (case q31=>walk_at "q1")
  (case q32=>walk_at "q1")
  (case q33=>walk_at "q1")
  (case q34=>walk_at "q1")
  (case q35=>walk_at "q1")
  (case q36=>walk_at "q1")
  (case q37=>walk_at "q1")
  (case q38=>walk_at "q1")
  (case q39=>walk_at "q1")
  (case q40=>walk_at "q1")
  (case q41=>walk_at "q1")
  (case q42=>walk_at "q1")
  (case q43=>walk_at "q1")
  (case q44=>walk_at "q1")
  (case q45=>walk_at "q1")
  (case q46=>walk_at "q1")
  (case y1=>k_is)
  (case y2=>k_is)
  (case y3=>k_is)
  (case y4=>k_is)
  (case y5=>k_is)
  (case x1=>k_is)
  (case x2=>k_is)
  (case x3=>k_is)
  (case x4=>k_is)
  (case x5=>k_is)
  (case x6=>k_is)
  (case x7=>k_is)
  (case x8=>k_is)
  (case x9=>k_is)
  (case x10=>k_is)
  (case x11=>rfl)
  (case x12=>k_is)
  (case x13=>k_is)
  (case x14=>k_is)
  (case x15=>k_is)
  (case x16=>k_is)
  (case x17=>k_is)
  (case x18=>k_is)
  (case x19=>k_is)
  (case x20=>k_is)
  (case x21=>k_is)
  (case x22=>k_is)
  (case x23=>k_is)
  (case x24=>k_is)
  (case q47=>walk_at "q2")
  (case q48=>walk_at "q2")
  (case q49=>walk_at "q2")
  (case q50=>walk_at "q2")
  (case q51=>walk_at "q2")
  (case q52=>walk_at "q2")
  (case q53=>walk_at "q2")
  (case z1=>k_is); (case z2=>k_is); (case z3=>k_is); (case z4=>k_is); (case z5=>k_is); (case z6=>k_is); (case z7=>k_is); (case z8=>k_is); (case z9=>k_is); (case z10=>k_is); (case z11=>k_is); (case z12=>k_is); (case z13=>k_is); (case z14=>k_is); (case z15=>k_is); (case z16=>k_is)
