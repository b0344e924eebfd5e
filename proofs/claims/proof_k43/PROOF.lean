import PyProof.Rows.All
import Wide.All
import OpenK.AllK
import Wide.FinOn
import Lean
import PyProof.EqAt
import PyProof.EqKinds
import PyProof.TupleCall
import PyProof.NeKinds
import PyProof.SumWalkG
import PyProof.ConsumeWalk
import KE.IntBitsLaws
import PyProof.ZipIter
import KE.KTryMore
import PyProof.ExcArgsOwn
import KE.KDictLaws
import KE.KEqDict
import PyProof.Rows.EqDataRows
import PyProof.SetScanFacts
import PyProof.SetKind
import PyProof.Rows.SetFrom
import KE.KDictSum
import PyProof.ListMulRoad
import PyProof.Rows.CallKwBuiltin
import PyProof.Rows.SeqMore
import PyProof.WalkInts
import KE.KMinBuiltin
import KE.KRevSl
import PyProof.Rows.SortShell
import PyProof.DictWalks
import PyProof.ListRange
import KE.KItemsList
import PyProof.Rows.Range3
import PyProof.TupleOfGen
import PyProof.TupleOfSeq
import PySem.Challenge.RW_knowcards_k43_whole_plays_go_on
set_option Elab.async false
set_option linter.all false
set_option maxRecDepth 100000
set_option maxHeartbeats 4000000
set_option compiler.extract_closed false
open Array renaming forIn_toList → Ox, getD → Sk, getElem?_eq_getElem → Nc, getElem?_eq_none → Pt, getElem?_toList → N3, length_toList → LV, toList_push → QU
open Bool renaming and_eq_true → MG, and_false → Qg, beq_eq_decide_eq → PF, eq_iff_iff → Ou, false_and → Qe, false_eq_true → Mt, false_ne_true → Lq, not_true → OU, true_and → Pw
open Classical renaming propDecidable → Nq
open False renaming elim → NB
open ForInStep renaming yield → Ow
open Int renaming emod_lt_of_pos → NG, emod_nonneg → N1, le_antisymm → Uq, natCast_ediv → TV, natCast_mul → Ru, toNat_natCast → N9, zero_add → Ra
open List renaming Perm → ML, all_cons → OS, all_eq_true → TJ, all_map → PV, any_cons → Su, append_assoc → N8, append_nil → NK, cons_append → TQ, countP_cons → TN, count_append → QR, count_cons → Up, drop_eq_getElem_cons → QW, ext_getElem? → Nu, filterMap_cons → OY, filter_append → Qx, filter_cons → Nl, filter_cons_of_neg → Pi, filter_cons_of_pos → Ph, find?_cons → LW, findIdx?_eq_none_iff → O1, findIdx?_eq_some_iff_getElem → NA, flatMap_append → Qc, flatMap_cons → QS, flatten_cons → Pk, foldl → Ub, foldl_append → Tc, foldl_cons → Uc, forIn_cons → O0, forIn_nil → Qi, getD_eq_getElem?_getD → Lo, getElem?_append_left → Ob, getElem?_append_right → OR, getElem?_eq_getElem → Ld, getElem?_eq_none → LJ, getElem?_eq_some_iff → Li, getElem?_map → Lx, getElem?_of_mem → Sh, getElem?_range → MJ, getElem?_set → Oa, getElem?_set_ne → R5, getElem?_set_self → Ry, getElem?_take_of_lt → O3, getElem?_toArray → RW, getElem?_zip_eq_some → Od, getElem_mem → Om, getElem_range → Qy, idxOf_append → S9, idxOf_cons → Uj, idxOf_lt_length_of_mem → Qv, length_append → Lz, length_cons → LP, length_drop → Pz, length_eq_zero_iff → Ot, length_eraseIdx_of_lt → QK, length_filter_le → RP, length_map → Lf, length_nil → Uk, length_pos_iff → Qb, length_range → Mz, length_set → Nb, length_singleton → OK, length_take → MF, length_zip → Oz, lookup → OB, lookup_cons → My, map_append → LI, map_congr_left → M9, map_cons → LA, map_map → NY, map_nil → OJ, mem_append → LU, mem_append_left → Nm, mem_append_right → L9, mem_cons → Lh, mem_cons_of_mem → Ln, mem_cons_self → Lj, mem_filter → NJ, mem_filterMap → Qp, mem_flatMap → TU, mem_iff_getElem → P4, mem_iff_getElem? → PJ, mem_map → Nz, mem_map_of_mem → SD, mem_of_getElem? → Lw, mem_range → MY, mem_singleton → Lg, nodup_append → Td, nodup_cons → NL, not_mem_nil → Ml, of_mem_zip → Ro, pairwise_append → P3, pairwise_cons → Qz, pairwise_iff_getElem → Oe, pairwise_lt_range → OF, pairwise_singleton → Ri, range → Lv, range_succ → N2, range_succ_eq_map → RG, replicate → LX, replicate_succ → Oq, replicate_succ' → OP, set_cons_succ → Nk, set_cons_zero → Nj, size_toArray → Ls, sum_append → MP, sum_cons → LN, sum_nil → OM, take_add_one → MW, take_append_drop → OL, take_length → LZ, take_of_length_le → OD, zipIdx_cons → TK, zipIdx_nil → Ug, zip_cons_cons → MR, zip_nil_left → Nv
open List.cons renaming injEq → Rr
open Nat renaming add_assoc → QG, add_le_add_right → Sg, add_mul → Tv, eq_of_mul_eq_mul_right → QH, eq_zero_or_pos → O8, le_add_right → M4, le_of_ble_eq_true → NH, le_of_eq → PN, le_of_lt → Mj, le_of_not_lt → Q5, le_refl → Le, le_succ → Og, le_trans → LS, lt_irrefl → M5, lt_of_le_of_lt → Ov, lt_of_lt_of_le → LH, lt_or_eq_of_le → O9, lt_or_ge → SX, lt_succ_of_lt → MM, lt_succ_self → MS, lt_trichotomy → QT, min_eq_left → Ur, min_self → O6, mod_lt → Si, mul_assoc → MX, mul_comm → Nh, mul_left_comm → NR, mul_pos → Tt, ne_of_gt → Ny, ne_of_lt → LR, not_le → P8, not_lt → QY, not_lt_zero → Oy, one_mul → Tu, sub_self → Rc, sub_zero → SW, succ_le_succ → TZ, succ_pos → SV, zero_le → Me
open Ne renaming symm → MU
open Option renaming getD_none → TF, isSome_iff_exists → Q3, map_eq_some_iff → RI, map_some → PY, some → LG
open Option.some renaming inj → Lu
open Or renaming inl → Lp, inr → OT
open PyProof renaming noPylong_small → RC
open PyProof.Rows renaming Subscript_ → T9, boot_all → T2, boot_isinstance → Nx, boot_list → Oh, boot_max → T4, boot_min → T3, boot_range → QV, boot_sum → Sl, boot_tuple → Pf, callWith_builtin1 → PP, callWith_type1 → Ms, slot_tuple_getitem → Os, subscriptTail → Sr, subscriptTail_builtinR → RF
open PyProof.Rows.F renaming entry_set_update_loop → Rj, plain_set_update_loop → Pj
open PySem renaming DictEntry → SJ, FuncData → LB, GenState → R3, IntMulOk → NM, IsRangeIter → Rz, IsTupleKey → Um, NameKind → L7, PassesOwn → Mc, SetTable → LF, Within → Q2, assignEach → PL, atKey_none_of_get → Po, attributeBase → OQ, backToKw → Py, behindInMarks → QC, beq_builtin_none → Rb, binaryOp → N4, bootBuiltins → O2, boot_len → Mm, builtinLookup_eq_fast → ON, builtinsNs → T5, callSpecialIfBoundUnlessNone? → OG, callType_new → SS, callWith → TC, call_meets → PU, cellsFrom → Uu, checkBuiltinCall → T1, closureFor → Sb, codeAny_builtin → M0, codeAny_mono → Oj, codeAny_of_tree → Rv, compEnvC → Sd, compareOp → M7, concat_meets → SO, dictSetDefault → Qj, eqBool → SU, eqIsQuiet → Rt, eqIsQuiet_byValue → Ta, fastBuiltinMro → RM, fits_of_scanBound → Tg, foldedSetIterable → QN, getMethod → Qq, intBits_le_64 → SC, intBits_mul_le → RQ, isInstance → Uo, isSubtype_stop → Pc, isSubtype_tuple_tuple → PH, isSubtype_type → RV, keywordEach → OC, letOwnedTupleGo → PM, mainGlobals → LO, mem_of_lookup → Mw, newTuple → TH, noFill_tuple_add → Q4, pickOrder → Pb, plainId_quiet → NT, rangeSize_one → Sn, reduceHash → Ul, relayAll → Ql, scanBound → Pa, seqIndex_neg → SQ, seqIndex_of → Tq, seq_tuple_add → So, setEntries → Q0, sizeLine → Lr, sizeLine_eq → Ll, sliceBounds → OW, slot_list_getitem → S6, small_one → Us, starEach → LD, storedH_new → Tw, subscripted → RE, swapsWith → SG, sysModules → Na, typeIs_int → Ua, typeLookup → R7, typeLookup_type → P7, updateSeq → QA, wpAny_Call_Name_kw → ND, wpAny_Call_method_late → Pq, wpAny_Dict_empty → TY, wpAny_List_spliced → SN, wpAny_Name → T6, wpAny_Tuple_spliced → Sw, wpAny_askSetting → Re, wpAny_assign_Name → SZ, wpAny_attempt → N6, wpAny_bind → La, wpAny_call → T8, wpAny_callSpecial?_slot → Mf, wpAny_callSpecialIfBoundUnlessNone?_slot → NO, wpAny_call_entry → LY, wpAny_comprehension_free → Q6, wpAny_execs_cons → Tz, wpAny_execs_nil → PK, wpAny_field → Mn, wpAny_fieldsOf → Qm, wpAny_forIn_list → PC, wpAny_getItem_of → TX, wpAny_handled → Ss, wpAny_holding → Mx, wpAny_isInstance → Ni, wpAny_ite_split → Rw, wpAny_letGo → RH, wpAny_load → R6, wpAny_mono → M1, wpAny_newObj_type → Md, wpAny_newTuple → RO, wpAny_of_eq → Qo, wpAny_onRaise → QF, wpAny_passesOwn → N0, wpAny_pure → Lc, wpAny_pyHash_int → Tx, wpAny_pyIter_enum → S7, wpAny_pyIter_list → OH, wpAny_pyIter_range → SI, wpAny_pyIter_rangeiter → RB, wpAny_pyIter_slot → Ti, wpAny_pyIter_tuple → SH, wpAny_pyIter_zip → Q8, wpAny_pyNext_range_end → RA, wpAny_ret_mkInt → PZ, wpAny_rule → NC, wpAny_runValue → RU, wpAny_seqItems → Mv, wpAny_setField → NU, wpAny_setField_rec → NF, wpAny_setState_of → MN, wpAny_specialOf → MQ, wpAny_standAt → Sm, wpAny_storeSet_of → Tf, wpAny_throw → Tr, wpAny_truthy_bool → Nt, wpAny_tupleItemsOf → Qw, wpAny_typeOf → PQ, wpAny_updateSeq → OA, wpAny_updateSeq_pair → PX
open PySem.Around renaming under → SL, under_plainId → ME
open PySem.Builtin.Int renaming intBits → Mb
open PySem.Builtin.List renaming listExtendWith → Mu, listItems → RJ, listLengthHint → NZ, listSameRef → Oo, listTooLong → Ol, listUpdate → Rl
open PySem.Builtin.Range renaming rangeSize → Np, small → Qd
open PySem.Builtin.Slice renaming sliceAdjust → OZ, sliceApplied → QD, slicePlaces → Oc
open PySem.Builtin.SmallTypes renaming nextOf → L5, ownedTupleHandOut → O7, ownedTupleIsFree → L8
open PySem.Builtin.Tuple renaming tupleExact → Ng, tupleHashOf → MV, tupleItemsOf → QE
open PySem.Calls renaming Name_function_global → QB, callWith_builtin → Pr, evalArgs_plain → PR, spliced_cons → Qr, spliced_nil → QP
open PySem.Code renaming isFrame → SM
open PySem.F renaming args_object_init_2 → Se, args_object_init_3 → Sf, args_tuple_add_2 → O5, args_tuple_iterator_next_1 → Qh, args_zip_next_1 → Pm, called_tuple → RY, entry_extend_loop → Q1, entry_tuple_add → Pg, entry_tuple_iterator_next → Qt, entry_zip_new → Ui, entry_zip_next → PB, newCall_zip_2 → Uh, plainAttrs_list → Mp, plain_extend_loop → Nd, plain_list_iadd → Rk, plain_list_iadd → Tj, plain_set_new → RS, plain_tuple_new → Tn, slot_NoneType_hash → N7, slot_bool_hash → OE, slot_dict_getitem → QX, slot_dict_setdefault → Qk, slot_int_rmul → Ud, slot_list_append → MH, slot_list_index → Rh, slot_set_iter → RX, slot_tuple_add → Pp, slot_tuple_count → Q9, slot_tuple_eq → P0, slot_tuple_hash → Pn, slot_tuple_iterator_next → N5, slot_zip_next → NN, typeCall_zip_2 → TL, type_list_append → MI
open PySem.Heap renaming ExtBut → OX, SameBut → LC, get?_push_of_some → Lb, get?_push_size → Lk, get?_update_other → MT, get?_update_self → Mh, lt_size → Lm, size_push → Ma, size_update → Rf
open PySem.Heap.SameBut renaming refl → Th, update → Mi
open PySem.NameKind renaming cell → Pu, free → MO
open PySem.Obj renaming cls_mapFields → QQ, data_mapDictKeys → Sj, data_mapFields → NW, isFreed_of_fields → PD, mapFields → QJ, mapSeq → MD, putSet → QZ
open PySem.Paired renaming length → L6
open PySem.PassesOwn renaming never → LM
open PySem.PyData renaming canLayAll0 → Nw, depthAll → NP, eqv → Pd, eqvAll → QL, int → Pe, keyHash → Mq
open PySem.SeqAt renaming EqAt → LQ, shaped → On
open PySem.SeqAt.EqAt renaming bool_bool → Sa, bool_int → Sz, bool_none → R9, int_bool → SB, int_int → SR, int_none → SA, int_str → SE, none_bool → R8, none_int → Sx, same → Rp, str_int → SF
open PySem.SetTable renaming below → LK, grown → Oi
open PySem.SetTable.below renaming go → NS
open PySem.SetTable.probe renaming go → Te
open PySem.Shared renaming TypeIs → QI, heap → Ts
open PySem.Str renaming empty → Ut, ofString → Nf
open PySem.Value renaming bool → Mo, builtin → Sv, float → Tp, int → Of, isInt → Rx, isInt_shape → SY, none → MB, ref → LL, str → Rm, type → MC
open PySem.W renaming callWith_K → Qs, cellsFrom_some → RD, codeIn → RL, emptyDict → M8, findIn → Nn, findIn → Qn, fnOf → O4, handedIn → TB, hasDictIn → QO, instObj → NI, isFn → SK, keepIn → OI, kia_one → MZ, kitMeta → Rq, kitOne → Mg, kitx_dict → S5, kitx_list → S3, lookIn → Qf, makesIn → T7, methodCall_KW → RK, methodObj → QM, mg_none_of → MA, mg_of → RZ, nsIn → Nr, plainGet → Px, plainGet_of → Qa, plainOver → S0, takerIn → Rn
open PySem.W.WData renaming int → Pl, layable → RN, layableAll → Q7, list → Qu, weight → OO, weightAll → Rg
open PySem.Walks renaming list → Ue
open Sum renaming inl → NQ, inr → M6
open Sum.inl renaming inj → To
open Sum.inr renaming inj → OV
open True renaming intro → NV
noncomputable abbrev Fg:=PySem.W.Frag
section
namespace L2
open PySem PySem.Spec PyProof.Rows
noncomputable abbrev Key:=Sum Int Str
noncomputable def qU:Key->Value->Bool
 | .inl k,v=>Rx k v
 | .inr x,v=>Value.isStrOf x v
noncomputable def KS (w:World):Key->Int
 | .inl k=>hashInt k
 | .inr x=>hashStr w x
theorem cR:∀ {k:Key} {v:Value},qU k v=true->(∃ i t,k=NQ i/\v=Of i t)\/(∃ x t,k=M6 x/\v=Rm x t)
 | .inl i,v,h=>by
  obtain ⟨t,e⟩:=SY (k:=i) (v:=v) h
  exact .inl ⟨i,t,rfl,e⟩
 | .inr x,v,h=>by
  obtain ⟨t,e⟩:=Value.isStrOf_shape (x:=x) (v:=v) h
  exact .inr ⟨x,t,rfl,e⟩
theorem DG (i:Int) (t:Tok):qU (.inl i) (.int i t)=true:=by simp [qU,Rx]
theorem DH (x:Str) (t:Tok):qU (.inr x) (.str x t)=true:=by simp [qU,Value.isStrOf]
theorem Jn (a b:Int):decide ((NQ a:Key)=NQ b)=(a == b):=by
 by_cases e:a=b
 ·subst e; simp
 ·have h:¬ (NQ a:Key)=NQ b:=fun q=>e (To q)
  rw [decide_eq_false h]
  exact (beq_eq_false_iff_ne.mpr e).symm
theorem Jo (a b:Str):decide ((M6 a:Key)=M6 b)=decide (a=b):=by
 by_cases e:a=b
 ·subst e; simp
 ·have h:¬ (M6 a:Key)=M6 b:=fun q=>e (OV q)
  rw [decide_eq_false h,decide_eq_false e]
theorem Jp (a:Int) (b:Str):decide ((NQ a:Key)=M6 b)=false:=decide_eq_false (fun q=>nomatch q)
theorem Jq (a:Str) (b:Int):decide ((M6 a:Key)=NQ b)=false:=decide_eq_false (fun q=>nomatch q)
noncomputable def iA (prog:Program) (w:World):PySem.KeyKind prog w Key where
 is:=qU
 hash:=KS w
 inj:=fun v a b ha hb=>by
  rcases cR ha with ⟨i,t,rfl,rfl⟩ | ⟨x,t,rfl,rfl⟩
  ·rcases cR hb with ⟨j,u,rfl,e⟩ | ⟨y,u,rfl,e⟩
   ·injection e with e1 _; rw [e1]
   ·exact nomatch e
  ·rcases cR hb with ⟨j,u,rfl,e⟩ | ⟨y,u,rfl,e⟩
   ·exact nomatch e
   ·injection e with e1 _; rw [e1]
 byValue:=fun k v h=>by
  rcases cR h with ⟨i,t,rfl,rfl⟩ | ⟨x,t,rfl,rfl⟩ <;> rfl
 pyHash:=fun hv h=>by
  rcases cR hv with ⟨i,t,rfl,rfl⟩ | ⟨x,t,rfl,rfl⟩
  ·exact Tx h
  ·exact wpAny_pyHash_str h
 eqBool:=fun hu hv h=>by
  rcases cR hu with ⟨i,t,rfl,rfl⟩ | ⟨x,t,rfl,rfl⟩
  ·rcases cR hv with ⟨j,u,rfl,rfl⟩ | ⟨y,u,rfl,rfl⟩
   ·rw [Jn] at h; exact wpAny_eqBool_int h
   ·rw [Jp] at h; exact SE i t y u _ _ _ _ h
  ·rcases cR hv with ⟨j,u,rfl,rfl⟩ | ⟨y,u,rfl,rfl⟩
   ·rw [Jq] at h; exact SF x t j u _ _ _ _ h
   ·rw [Jo] at h; exact wpAny_eqBool_str h
 «strs»:=fun k x t v h=>by
  rcases cR h with ⟨i,u,rfl,e⟩ | ⟨y,u,rfl,e⟩
  ·exact nomatch e
  ·injection e with e1 _
   subst e1
   cases v <;> rfl
theorem AO (prog:Program) (w:World) (i:Int) (t:Tok):(iA prog w).is (.inl i) (.int i t)=true:=DG i t
theorem bm (prog:Program) (w:World) (x:Str) (t:Tok):(iA prog w).is (.inr x) (.str x t)=true:=DH x t
end L2
namespace L2
open PySem PySem.Spec PyProof.Rows
inductive V where
 | non | bl (b:Bool) | int (i:Int) | str (x:Str) | byt (b:Array UInt8) | flt (b:UInt64) | ref (a:Addr) | ty (n:String)
 deriving DecidableEq
noncomputable def aI:V->Value->Prop
 | .non,u=>u=MB
 | .bl b,u=>u=Mo b
 | .int i,u=>∃ t,u=Of i t
 | .str x,u=>∃ t,u=Rm x t
 | .byt b,u=>∃ t,u=Value.bytes b t
 | .flt b,u=>∃ t,u=Tp b t
 | .ref a,u=>u=LL a
 | .ty n,u=>u=MC n
noncomputable abbrev aG:List V->List Value->Prop:=Paired aI
theorem aG.length {xs:List V} {us:List Value} (r:aG xs us):xs.length=us.length:=L6 r
theorem aG.get:∀ {xs:List V} {us:List Value} {i:Nat} {x:V},aG xs us->xs[i]?=some x->∃ u,us[i]?=some u/\aI x u
 | _,_,_,_,.nil,e=>by simp at e
 | _,_,0,_,.cons r _,e=>by simp at e; subst e; exact ⟨_,rfl,r⟩
 | _,_,i + 1,x,.cons _ t,e=>by
  obtain ⟨u,h1,h2⟩:=aG.get (i:=i) (x:=x) t (by simpa using e)
  exact ⟨u,by simpa using h1,h2⟩
theorem aG.set {x:V} {u:Value} (r:aI x u):∀ {xs:List V} {us:List Value} (i:Nat),aG xs us->aG (xs.set i x) (us.set i u)
 | _,_,_,.nil=>.nil
 | _,_,0,.cons _ t=>.cons r t
 | _,_,i + 1,.cons q t=>.cons q (aG.set r i t)
theorem aG.append:∀ {xs ys:List V} {us ws:List Value},aG xs us->aG ys ws->aG (xs++ys) (us++ws)
 | _,_,_,_,.nil,s=>s
 | _,_,_,_,.cons r t,s=>.cons r (aG.append t s)
theorem aG.take:∀ {xs:List V} {us:List Value} (n:Nat),aG xs us->aG (xs.take n) (us.take n)
 | _,_,0,_=>.nil
 | _,_,_ + 1,.nil=>.nil
 | _,_,n + 1,.cons r t=>.cons r (aG.take n t)
theorem aG.drop:∀ {xs:List V} {us:List Value} (n:Nat),aG xs us->aG (xs.drop n) (us.drop n)
 | _,_,0,r=>r
 | _,_,_ + 1,.nil=>.nil
 | _,_,n + 1,.cons _ t=>aG.drop n t
noncomputable def gN:Option V->Option Value->Prop
 | some v,some u=>aI v u
 | none,none=>True
 | _,_=>False
noncomputable def KV {κ:Type}:List (κ×V)->List (κ×Value)->Prop:=Paired fun (p:κ×V) (q:κ×Value)=>p.1=q.1/\aI p.2 q.2
noncomputable def kV:Key->V
 | .inl i=>.int i
 | .inr x=>.str x
set_option genInjectivity false in
inductive HO where
 | lst (xs:List V)
 | tup (xs:List V)
 | dK (kvs:List (Key×V)) | dT (kvs:List (List Key×V))
 | set (S:Int->Bool) (n:Nat)
 | ins (C dx:Addr) (fs:List (Str×V))
 | own (x:Addr)
 | xd (fs:List (Str×V))
 | met (f x:Addr)
 | rng (lo hi:Int)
 | frz (o:Obj) (u:HO)
 | tbl (ps:Array Value)
 | ext (φ:Heap->Prop)
noncomputable abbrev Hp:=Addr->Option HO
noncomputable def upd (H:Hp) (a:Addr) (o:HO):Hp:=fun b=>if b=a then some o else H b
theorem ay {H:Hp} {a:Addr} {o:HO}:upd H a o a=some o:=by unfold upd; rw [if_pos rfl]
theorem aP {H:Hp} {a b:Addr} {o:HO} (h:b≠a):upd H a o b=H b:=by unfold upd; rw [if_neg h]
theorem Hd {H:Hp} {a b:Addr} {o u:HO} (h:H a=some o) (h':H b=some u) (d:o≠u):a≠b:=by
 intro e; subst e; rw [h] at h'; exact d (Lu h')
theorem aS {H:Hp} {a b:Addr} {o:HO} (h:H a=some o) (h':H b=none):a≠b:=by
 intro e; subst e; rw [h] at h'; cases h'
noncomputable def eR (h:Heap) (a:Addr) (items:Array Value):Prop:=∃ o,h.get? a=some o/\o.cls=.type "tuple"/\(∃ n,o.data=.seq items n)/\o.dict=none
theorem eR.lt {h:Heap} {a:Addr} {items:Array Value} (x:eR h a items):a < h.objs.size:=let ⟨_,e,_⟩:=x; Lm e
theorem eR.tup {h:Heap} {a:Addr} {items:Array Value} (x:eR h a items):IsTup h a items:=let ⟨o,e,c,d,_⟩:=x; ⟨o,e,c,d⟩
theorem eR.new (h:Heap) (items:Array Value):eR (h.push { cls:=.type "tuple",data:=.seq items }) h.objs.size items:=⟨_,Lk _ rfl,rfl,⟨_,rfl⟩,rfl⟩
section
variable (P:Program) (w:World)
noncomputable def bD (H:Hp) (h:Heap) (a:Addr):HO->Prop
 | .lst xs=>xs.length<=Lr/\∃ (its:List Value) (n:Nat),aG xs its/\h.get? a=some { cls:=.type "list",data:=.seq its.toArray n }
 | .tup xs=>xs.length<=Lr/\∃ its:List Value,aG xs its/\eR h a its.toArray
 | .dK kvs=>kvs.length<=Lr/\(a == Na)=false/\∃ vs,KV kvs vs/\h.DictOf (iA P w) a vs
 | .dT kvs=>kvs.length<=Lr/\(a == Na)=false/\∃ xs:List (List Key×Addr×Value),
   Paired (fun (p:List Key×V) (q:List Key×Addr×Value)=>p.1=q.1/\H q.2.1=some (.tup (p.1.map kV))/\aI p.2 q.2.2) kvs xs/\
   ∃ o es ep,h.get? a=some o/\o.ExactDict/\o.data=.dict es ep/\es.toList=xs.map (entryOfKey (tupleKind (iA P w)))/\(xs.map (·.1)).Nodup
 | .set S n=>h.SetOf (intKind P w) a S n
 | .ins C dx fs=>H dx=some (.own a)/\fs.length<=1000/\dx≠a/\h.get? a=some (NI C dx)/\
   ∃ mA,h.Ns1 dx mA/\(∀ f,gN (fs.lookup f) (mA f))/\Q2 mA (fs.map (·.1))
 | .own _=>∃ o,h.get? a=some o
 | .xd fs=>∃ mA,h.Ns1 a mA/\∀ f,gN (fs.lookup f) (mA f)
 | .rng lo hi=>∃ t u v,h.get? a=some { cls:=.type "range",data:=.fields #[.int lo t,.int hi u,.int 1 v] }
 | .frz o u=>h.get? a=some o/\bD H h a u
 | .tbl ps=>h.get? a=some { cls:=.none,data:=.fields ps }
 | .met f x=>h.get? a=some (QM (.ref f) (.ref x))
 | .ext φ=>φ h/\(∃ o,h.get? a=some o)/\∀ h1 h2:Heap,φ h1->(∀ o,h1.get? a=some o->h2.get? a=some o)->φ h2
noncomputable def HOk (H:Hp) (h:Heap):Prop:=∀ a o,H a=some o->bD P w H h a o
end
section
variable {P:Program} {w:World} {H H':Hp} {h h':Heap} {a:Addr} {o:HO}
theorem bD.lt (x:bD P w H h a o):a < h.objs.size:=by
 cases o with
 | lst xs=>obtain ⟨_,_,_,_,e⟩:=x; exact Lm e
 | tup xs=>obtain ⟨_,_,_,p⟩:=x; exact p.lt
 | dK kvs=>obtain ⟨_,_,_,_,o,_,_,e,_⟩:=x; exact Lm e
 | dT kvs=>obtain ⟨_,_,_,_,o,_,_,e,_⟩:=x; exact Lm e
 | set S n=>obtain ⟨o,_,_,_,e,_⟩:=x; exact Lm e
 | ins C dx fs=>obtain ⟨_,_,_,e,_⟩:=x; exact Lm e
 | own y=>obtain ⟨_,e⟩:=x; exact Lm e
 | xd fs=>obtain ⟨_,⟨_,_,_,e,_⟩,_⟩:=x; exact Lm e
 | rng lo hi=>obtain ⟨_,_,_,e⟩:=x; exact Lm e
 | frz ob u=>obtain ⟨e,_⟩:=x; exact Lm e
 | tbl ps=>exact Lm (show h.get? a=some _ from x)
 | met f y=>exact Lm (show h.get? a=some _ from x)
 | ext φ=>obtain ⟨_,⟨_,e⟩,_⟩:=x; exact Lm e
theorem Paired.mapP {α β:Type} {F G:α->β->Prop}:∀ {l₁:List α} {l₂:List β},Paired F l₁ l₂->(∀ a b,F a b->G a b)->Paired G l₁ l₂
 | _,_,.nil,_=>.nil
 | _,_,.cons r t,f=>.cons (f _ _ r) (Paired.mapP t f)
theorem bD.stay (x:bD P w H h a o) (k:∀ b u,(b=a\/H b=some (.own a))->h.get? b=some u->h'.get? b=some u)
  (ho:∀ b,H b=some (.own a)->H' b=some (.own a)) (ht:∀ b xs,H b=some (.tup xs)->H' b=some (.tup xs)):bD P w H' h' a o:=by
 induction o with
 | lst xs=>obtain ⟨z,its,n,r,e⟩:=x; exact ⟨z,its,n,r,k _ _ (.inl rfl) e⟩
 | tup xs=>obtain ⟨z,its,r,ob,e,c⟩:=x; exact ⟨z,its,r,ob,k _ _ (.inl rfl) e,c⟩
 | dK kvs=>obtain ⟨z,y,vs,r,ob,es,ep,e,c⟩:=x; exact ⟨z,y,vs,r,ob,es,ep,k _ _ (.inl rfl) e,c⟩
 | dT kvs=>
  obtain ⟨z,y,xs,r,ob,es,ep,e,c⟩:=x
  exact ⟨z,y,xs,Paired.mapP r fun p q z=>⟨z.1,ht _ _ z.2.1,z.2.2⟩,ob,es,ep,k _ _ (.inl rfl) e,c⟩
 | set S n=>obtain ⟨ob,es,ep,t,e,c⟩:=x; exact ⟨ob,es,ep,t,k _ _ (.inl rfl) e,c⟩
 | ins C dx fs=>
  obtain ⟨d,z,ne,e,mA,⟨od,es,ep,e2,c⟩,r⟩:=x
  exact ⟨ho _ d,z,ne,k _ _ (.inl rfl) e,mA,⟨od,es,ep,k _ _ (.inr d) e2,c⟩,r⟩
 | own y=>obtain ⟨ob,e⟩:=x; exact ⟨ob,k _ _ (.inl rfl) e⟩
 | xd fs=>obtain ⟨mA,⟨od,es,ep,e,c⟩,r⟩:=x; exact ⟨mA,⟨od,es,ep,k _ _ (.inl rfl) e,c⟩,r⟩
 | rng lo hi=>obtain ⟨t,u,v,e⟩:=x; exact ⟨t,u,v,k _ _ (.inl rfl) e⟩
 | frz ob u ih=>obtain ⟨e,q⟩:=x; exact ⟨k _ _ (.inl rfl) e,ih q⟩
 | tbl ps=>
  have e:h.get? a=some { cls:=.none,data:=.fields ps }:=x
  show h'.get? a=some { cls:=.none,data:=.fields ps }
  exact k a _ (.inl rfl) e
 | met f y=>
  have e:h.get? a=some (QM (.ref f) (.ref y)):=x
  show h'.get? a=some (QM (.ref f) (.ref y))
  exact k a _ (.inl rfl) e
 | ext φ=>obtain ⟨p,⟨o,e⟩,st⟩:=x; exact ⟨st _ _ p fun o q=>k _ _ (.inl rfl) q,⟨o,k _ _ (.inl rfl) e⟩,st⟩
theorem HOk.lt (x:HOk P w H h) (e:H a=some o):a < h.objs.size:=(x a o e).lt
theorem HOk.fresh (x:HOk P w H h) (e:h.objs.size<=a):H a=none:=by
 cases q:H a with
 | none=>rfl
 | some u=>exact absurd (LH (x.lt q) e) (M5 _)
theorem HOk.kept (x:HOk P w H h) (k:∀ b u,h.get? b=some u->h'.get? b=some u):HOk P w H h':=fun a o e=>
 (x a o e).stay (fun b u _ q=>k b u q) (fun _ q=>q) fun _ _ q=>q
theorem HOk.laid (x:HOk P w H h) (k:∀ b u,h.get? b=some u->h'.get? b=some u) (hp:h.objs.size<=a) (new:bD P w (upd H a o) h' a o):HOk P w (upd H a o) h':=fun b u e=>by
 have hn:=x.fresh hp
 by_cases hb:b=a
 ·subst hb; rw [ay] at e; cases e; exact new
 ·rw [aP hb] at e
  exact (x b u e).stay (fun c v _ q=>k c v q) (fun c q=>by rw [aP (aS q hn)]; exact q) fun c xs q=>by rw [aP (aS q hn)]; exact q
end
noncomputable def Rd (H:Hp) (a:Addr) (u:HO):Prop:=H a=some u\/∃ o,H a=some (.frz o u)
theorem Rd.ok {P:Program} {w:World} {H:Hp} {h:Heap} {a:Addr} {u:HO} (r:Rd H a u) (x:HOk P w H h):bD P w H h a u:=by
 rcases r with r | ⟨o,r⟩
 ·exact x a u r
 ·obtain ⟨_,q⟩:=x a _ r
  exact q
noncomputable def Mut:Option HO->Prop
 | some (.lst _)=>True
 | some (.dK _)=>True
 | some (.dT _)=>True
 | some (.set _ _)=>True
 | some (.ins _ _ _)=>True
 | some (.ext _)=>True
 | _=>False
section
variable {P:Program} {w:World} {H:Hp} {h h':Heap} {x e:Addr} {o':HO}
theorem HOk.write (ok:HOk P w H h) (mu:Mut (H x)) (he:e=x\/H e=some (.own x)) (k:∀ b u,b≠e->h.get? b=some u->h'.get? b=some u) (heo:∃ u,h'.get? e=some u)
  (new:bD P w (upd H x o') h' x o'):HOk P w (upd H x o') h':=fun b u q=>by
 have nown:∀ c y,H c=some (.own y)->c≠x:=fun c y r z=>by subst z; rw [r] at mu; exact mu
 have ntup:∀ c xs,H c=some (.tup xs)->c≠x:=fun c xs r z=>by subst z; rw [r] at mu; exact mu
 by_cases hb:b=x
 ·subst hb; rw [ay] at q; cases q; exact new
 ·rw [aP hb] at q
  by_cases hbe:b=e
  ·have q':H b=some (.own x):=by
    rcases he with z | z
    ·exact absurd (hbe.trans z) hb
    ·rw [hbe]; exact z
   rw [q] at q'; cases q'
   obtain ⟨v,hv⟩:=heo
   exact ⟨v,by rw [hbe]; exact hv⟩
  ·refine (ok b u q).stay (fun c v hc r=>k c v ?_ r) (fun c r=>by rw [aP (nown c b r)]; exact r) fun c xs r=>by rw [aP (ntup c xs r)]; exact r
   rcases hc with rfl | hc
   ·exact hbe
   ·rintro rfl
    rcases he with z | z
    ·exact nown c b hc z
    ·rw [hc] at z; cases z; exact hb rfl
end
structure Un (fs ex:List Addr) (H H':Hp) (h h':Heap):Prop where
 keep:∀ b o,h.get? b=some o->H b=none->b∉fs->b∉ex->h'.get? b=some o
 slot:∀ b o,h.get? b=some o->H b=none->b∈fs->b∉ex->∃ sl,h'.get? b=some { o with slots:=sl }
 free:∀ b o,h.get? b=some o->H b=none->b∉ex->H' b=none
 there:∀ b o,h.get? b=some o->b∉ex->∃ o',h'.get? b=some o'
 tups:∀ b xs,H b=some (.tup xs)->H' b=some (.tup xs)
 frzs:∀ b o u,H b=some (.frz o u)->H' b=some (.frz o u)
 tbls:∀ b ps,H b=some (.tbl ps)->∃ more,H' b=some (.tbl (ps++more))
section
variable {fs fs' ex ex':List Addr} {H H1 H2:Hp} {h h1 h2 h':Heap} {a x e:Addr} {o:HO}
theorem Un.any (u:Un fs ex H H1 h h1) {b:Addr} {ob:Obj} (q:h.get? b=some ob) (n:H b=none) (hx:b∉ex):∃ sl,h1.get? b=some { ob with slots:=sl }:=by
 by_cases hb:b∈fs
 ·exact u.slot b ob q n hb hx
 ·exact ⟨ob.slots,u.keep b ob q n hb hx⟩
theorem Un.kept (k:∀ b u,h.get? b=some u->h'.get? b=some u):Un fs ex H H h h':=
 ⟨fun b ob q _ _ _=>k b ob q,fun b ob q _ _ _=>⟨ob.slots,k b ob q⟩,fun _ _ _ n _=>n,fun b ob q _=>⟨ob,k b ob q⟩,fun _ _ q=>q,fun _ _ _ q=>q,fun _ ps q=>⟨#[],by rw [q]; simp⟩⟩
theorem Un.refl:Un fs ex H H h h:=Un.kept fun _ _ q=>q
theorem Un.laid (k:∀ b u,h.get? b=some u->h'.get? b=some u) (hp:h.objs.size<=a) (hn:H a=none):Un fs ex H (upd H a o) h h' where
 keep:=fun b u q _ _ _=>k b u q
 slot:=fun b u q _ _ _=>⟨u.slots,k b u q⟩
 free:=fun b u q n _=>by rw [aP (LR (LH (Lm q) hp))]; exact n
 there:=fun b u q _=>⟨u,k b u q⟩
 tups:=fun b xs q=>by rw [aP (aS q hn)]; exact q
 frzs:=fun b u xs q=>by rw [aP (aS q hn)]; exact q
 tbls:=fun b ps q=>⟨#[],by rw [aP (aS q hn),q]; simp⟩
theorem Un.write (mu:Mut (H x)) (he:e=x\/H e=some (.own x)) (k:∀ b u,b≠e->h.get? b=some u->h'.get? b=some u) (heo:∃ u,h'.get? e=some u):Un fs ex H (upd H x o) h h':=by
 have hx:∀ b,H b=none->b≠x:=fun b n z=>by subst z; rw [n] at mu; exact mu
 have hb:∀ b,H b=none->b≠e:=fun b n z=>by
  subst z
  rcases he with r | r
  ·exact hx b n r
  ·rw [n] at r; cases r
 have hm:∀ b u,H b=some u->¬ Mut (some u)->b≠x:=fun b u q nm z=>by subst z; rw [q] at mu; exact nm mu
 refine ⟨fun b u q n _ _=>k b u (hb b n) q,fun b u q n _ _=>⟨u.slots,k b u (hb b n) q⟩,fun b u q n _=>by rw [aP (hx b n)]; exact n,fun b u q _=>?_,
  fun b xs q=>by rw [aP (hm b _ q fun z=>z)]; exact q,fun b u xs q=>by rw [aP (hm b _ q fun z=>z)]; exact q,fun b ps q=>⟨#[],by rw [aP (hm b _ q fun z=>z),q]; simp⟩⟩
 by_cases hbe:b=e
 ·subst hbe; exact heo
 ·exact ⟨u,k b u hbe q⟩
end
noncomputable def trk (h:Heap) (H:Hp):List Addr:=(Lv h.objs.size).filter fun a=>(H a).isSome
noncomputable def nI (h:Heap) (H:Hp):Heap:=PySem.W.hideAll h (trk h H)
theorem DI (h:Heap) (H:Hp):(nI h H).objs.size=h.objs.size:=PySem.W.hideAll_size _ _
theorem Ft {h:Heap} {H:Hp} {b:Addr} {o:Obj} (e:h.get? b=some o) (n:H b=none):(nI h H).get? b=some o:=
 PySem.W.hideAll_get _ e fun hm=>by
  have q:(H b).isSome=true:=(NJ.mp hm).2
  rw [n] at q; simp at q
theorem Hy {h:Heap} {H:Hp} {b:Addr} {o:Obj} (e:(nI h H).get? b=some o):h.get? b=some o/\H b=none:=by
 have e':h.get? b=some o:=PySem.W.of_hideAll (trk h H) e
 refine ⟨e',?_⟩
 cases q:H b with
 | none=>rfl
 | some x=>
  have hm:b∈trk h H:=NJ.mpr ⟨MY.mpr (Lm e'),by simp [q]⟩
  have z:(nI h H).get? b=none:=PySem.W.hideAll_none (trk h H) hm
  rw [z] at e; cases e
noncomputable def Hz (g h:Heap) (L:Addr):List (Addr×Obj):=(Lv h.objs.size).filterMap fun a=>if a=L\/(g.get? a).isSome=true then none else (h.get? a).map fun o=>(a,o)
noncomputable def cI (g h:Heap) (L d:Addr):List (Addr×Obj):=(Hz g h L).filter fun p=>decide (p.1≠d)
end L2
namespace L2
open PySem PySem.Spec PyProof.Rows
structure Mod (K:Fg) (mg:Str->Option Value) (base:Heap):Prop where
 kin:K.In base
 glob:base.Ns LO mg
 blt:∃ mb,base.Ns T5 mb/\∀ x:Str,x≠"__name__"->mb x=O2 x
 nolimit:base.NoLimit
set_option genInjectivity false in
structure Cx where
 prog:Program
 w:World
 K:Fg
 mg:Str->Option Value
 base:Heap
 A:Around
 N:List Str
 s₀:Shared
 H₀:Hp
 env:Env
 outer:List Env
 stack:List Env
 ex:List Addr
 fn:Str->Bool
 calm:Bool
 pn:List (Addr×Obj)
 xe:Value->Shared->Prop
noncomputable def frs (l:List Env):List Addr:=l.filterMap (·.frame)
noncomputable abbrev Cx.fs (X:Cx):List Addr:=frs X.outer
noncomputable def Vis (sc:Scope) (x:Str):Prop:=sc.names.lookup x=some .local\/sc.names.lookup x=some .cell\/sc.names.lookup x=some .free
noncomputable def Loc (sc:Scope) (x:Str):Prop:=sc.names.lookup x=some .local\/sc.names.lookup x=some .cell
noncomputable def Jr (env:Env) (h:Heap) (m:Str->Option Value) (x:Str) (u:Value):Prop:=
 (env.kindOf x=some .local/\m x=some u)\/((env.kindOf x=some .cell\/env.kindOf x=some .free)/\∃ c,env.cells.lookup x=some c/\h.IsCell c (some u))
structure Cx.Ok (X:Cx):Prop where
 mod:Mod X.K X.mg X.base
 kind:X.env.scope.kind=.function
 glob:X.env.globals=LO
 blt:X.env.builtins=T5
 above:X.s₀.heap.objs.size<=X.env.locals
 inj:∀ x y c,X.env.cells.lookup x=some c->X.env.cells.lookup y=some c->x=y
 has:∀ x,(X.env.kindOf x=some .cell\/X.env.kindOf x=some .free)->∃ c,X.env.cells.lookup x=some c
 cab:∀ x c,X.fn x=true->X.env.cells.lookup x=some c->X.s₀.heap.objs.size<=c
 hd:X.calm=true->X.A.handled=none
 frames:X.A.frames=some X.stack
 stk:X.stack=X.outer\/(X.stack=X.env :: X.outer/\X.env.frame=some X.env.locals)
 exf:∀ b∈X.ex,b≠X.env.locals/\∀ x c,X.env.cells.lookup x=some c->c≠b
 bs:∀ b o,X.base.get? b=some o->X.s₀.heap.get? b=some o/\X.H₀ b=none
 bsz:X.base.objs.size<=X.s₀.heap.objs.size
 noex:∀ b o,X.base.get? b=some o->b∉X.ex
 exfs:∀ b∈X.ex,b∉X.fs
 funs:X.s₀.heap.FunFrames X.base X.outer
 frf:∀ b∈X.fs,X.H₀ b=none
structure Inv (X:Cx) (pins:List (Addr×Obj)) (σ:List (Option V)) (H:Hp) (s:Shared):Prop where
 ok:X.Ok
 os:s.os=X.s₀.os
 bare:AllBare s.gens
 base:Un X.fs X.ex X.H₀ H X.s₀.heap s.heap
 loc:∃ m,s.heap.Ns X.env.locals m/\∀ (i:Nat) (x:Str) (v:V),X.N[i]?=some x->σ[i]?=some (some v)->Vis X.env.scope x->∃ u,aI v u/\Jr X.env s.heap m x u
 cell:∀ x c,X.env.cells.lookup x=some c->∃ v,s.heap.IsCell c v
 free:H X.env.locals=none
 freeC:∀ x c,X.env.cells.lookup x=some c->H c=none
 pin:∀ p∈X.pn++pins,s.heap.get? p.1=some p.2/\H p.1=none/\p.1≠X.env.locals/\p.1∉X.fs/\∀ v,p.2.data≠.cell v
 hok:HOk X.prog X.w H s.heap
 len:σ.length=X.N.length
section
variable {X:Cx} {pins:List (Addr×Obj)} {σ:List (Option V)} {H H':Hp} {s:Shared} {h':Heap}
theorem Cx.Ok.nofr (ok:X.Ok) {b:Addr} {o:Obj} (e:X.base.get? b=some o):b∉X.fs:=fun hb=>by
 have:=(ok.funs.mem hb).1
 rw [e] at this; cases this
theorem Inv.bs (I:Inv X pins σ H s):∀ b o,X.base.get? b=some o->s.heap.get? b=some o/\H b=none:=fun b o e=>
 ⟨I.base.keep b o (I.ok.bs b o e).1 (I.ok.bs b o e).2 (I.ok.nofr e) (I.ok.noex b o e),I.base.free b o (I.ok.bs b o e).1 (I.ok.bs b o e).2 (I.ok.noex b o e)⟩
theorem Inv.bk (I:Inv X pins σ H s):∀ b o,X.base.get? b=some o->s.heap.get? b=some o:=fun b o e=>(I.bs b o e).1
theorem Inv.mod (I:Inv X pins σ H s):Mod X.K X.mg X.base:=I.ok.mod
theorem Inv.kIn (I:Inv X pins σ H s):X.K.In s.heap:=I.ok.mod.kin.keeps I.bk
theorem Inv.lt (I:Inv X pins σ H s):X.env.locals < s.heap.objs.size:=let ⟨_,hn,_⟩:=I.loc; hn.lt
theorem Inv.sz (I:Inv X pins σ H s):X.s₀.heap.objs.size<=s.heap.objs.size:=LS I.ok.above (Mj I.lt)
theorem Inv.nofs (I:Inv X pins σ H s) {a:Addr} (h:s.heap.objs.size<=a):a∉X.fs:=fun hb=>by
 obtain ⟨_,o,ho,_⟩:=I.ok.funs.mem hb
 exact absurd (LH (Lm ho) (LS I.sz h)) (M5 _)
theorem Inv.cne (I:Inv X pins σ H s):∀ x c,X.env.cells.lookup x=some c->c≠X.env.locals:=fun x c e z=>by
 obtain ⟨v,o,ho,hd⟩:=I.cell x c e
 obtain ⟨m,⟨o',es,ep,ho',hd',_⟩,_⟩:=I.loc
 rw [z,ho'] at ho; cases ho; rw [hd'] at hd; cases hd
theorem Inv.funs (I:Inv X pins σ H s):s.heap.FunFrames X.base X.outer:=by
 have all:∀ (l:List Env),(∀ b∈frs l,b∈X.fs)->X.s₀.heap.FunFrames X.base l->s.heap.FunFrames X.base l:=by
  intro l
  induction l with
  | nil=>intro _ _; trivial
  | cons env r ih=>
   intro hs hl
   obtain ⟨hk,⟨L,o,hf,hn,ho,hd⟩,hr⟩:=hl
   have hL:L∈X.fs:=hs L (by unfold frs; rw [OY,hf]; exact Lj)
   obtain ⟨sl,e⟩:=I.base.slot L o ho (I.ok.frf L hL) hL fun z=>I.ok.exfs L z hL
   exact ⟨hk,⟨L,_,hf,hn,e,hd⟩,ih (fun b hb=>hs b (by unfold frs; rw [OY,hf]; exact Ln _ hb)) hr⟩
 exact all X.outer (fun _ hb=>hb) I.ok.funs
theorem Inv.stack (I:Inv X pins σ H s):s.heap.FunFrames X.base X.stack:=by
 rcases I.ok.stk with e | ⟨e,hf⟩
 ·rw [e]; exact I.funs
 ·rw [e]
  obtain ⟨m,hn,_⟩:=I.loc
  refine .cons (by rw [I.ok.kind]; decide) hf hn ?_ I.funs
  exact Heap.get?_none_of_le (LS I.ok.bsz I.ok.above)
theorem Inv.stkSub (I:Inv X pins σ H s):∀ b∈frs X.stack,b∈X.env.locals :: X.fs:=fun b hb=>by
 rcases I.ok.stk with e | ⟨e,hf⟩
 ·rw [e] at hb; exact Ln _ hb
 ·rw [e] at hb
  unfold frs at hb
  rw [OY,hf] at hb
  exact hb
theorem Inv.stkFree (I:Inv X pins σ H s):∀ b∈frs X.stack,H b=none:=fun b hb=>by
 rcases Lh.mp (I.stkSub b hb) with e | hb
 ·rw [e]; exact I.free
 ·obtain ⟨_,o,ho,_⟩:=I.ok.funs.mem hb
  exact I.base.free b o ho (I.ok.frf b hb) fun z=>I.ok.exfs b z hb
theorem Inv.step {g':Array R3} {t':Nat} {d':Drawn} {ch:List Addr} (I:Inv X pins σ H s)
  (hch:∀ b∈ch,(b∈X.ex\/X.s₀.heap.objs.size<=b)/\b≠X.env.locals/\(∀ x c,X.env.cells.lookup x=some c->c≠b)/\∀ p∈X.pn++pins,p.1≠b)
  (keep:∀ b o,b≠X.env.locals->b∉X.fs->b∉ch->s.heap.get? b=some o->H b=none->h'.get? b=some o)
  (slot:∀ b o,b≠X.env.locals->b∈X.fs->b∉ch->s.heap.get? b=some o->H b=none->∃ sl,h'.get? b=some { o with slots:=sl }) (free:∀ b o,b∉ch->s.heap.get? b=some o->H b=none->H' b=none)
  (there:∀ b o,b∉ch->s.heap.get? b=some o->∃ o',h'.get? b=some o')
  (tups:∀ b xs,H b=some (.tup xs)->H' b=some (.tup xs)) (frzs:∀ b o u,H b=some (.frz o u)->H' b=some (.frz o u)) (tbls:∀ b ps,H b=some (.tbl ps)->∃ more,H' b=some (.tbl (ps++more)))
  (ns:∀ m,s.heap.Ns X.env.locals m->h'.Ns X.env.locals m) (hok:HOk X.prog X.w H' h') (hg:AllBare g'):
  Inv X pins σ H' { s with heap:=h',gens:=g',drawn:=d',toks:=t' }:=by
 have neL:∀ b o,X.s₀.heap.get? b=some o->b≠X.env.locals:=fun b o e=>LR (LH (Lm e) I.ok.above)
 have neC:∀ b o,X.s₀.heap.get? b=some o->b∉X.ex->b∉ch:=fun b o e hx hb=>by
  rcases (hch b hb).1 with z | z
  ·exact hx z
  ·exact absurd (LH (Lm e) z) (M5 _)
 have cellK:∀ x c,X.env.cells.lookup x=some c->∀ v,s.heap.IsCell c v->h'.IsCell c v:=fun x c e v ⟨o,ho,hd⟩=>by
  have nch:c∉ch:=fun z=>(hch c z).2.2.1 x c e rfl
  by_cases hc:c∈X.fs
  ·obtain ⟨sl,q⟩:=slot c o (I.cne x c e) hc nch ho (I.freeC x c e)
   exact ⟨_,q,hd⟩
  ·exact ⟨o,keep c o (I.cne x c e) hc nch ho (I.freeC x c e),hd⟩
 refine ⟨I.ok,I.os,hg,⟨fun b o e n hb hx=>?_,fun b o e n hb hx=>?_,fun b o e n hx=>?_,fun b o e hx=>?_,fun b xs e=>tups b xs (I.base.tups b xs e),fun b o xs e=>frzs b o xs (I.base.frzs b o xs e),fun b ps e=>?_⟩,?_,fun x c e=>?_,?_,fun x c e=>?_,fun p hp=>?_,hok,I.len⟩
 ·exact keep b o (neL b o e) hb (neC b o e hx) (I.base.keep b o e n hb hx) (I.base.free b o e n hx)
 ·obtain ⟨sl,e1⟩:=I.base.slot b o e n hb hx
  obtain ⟨sl',e2⟩:=slot b _ (neL b o e) hb (neC b o e hx) e1 (I.base.free b o e n hx)
  exact ⟨sl',e2⟩
 ·obtain ⟨o',e1⟩:=I.base.there b o e hx
  exact free b o' (neC b o e hx) e1 (I.base.free b o e n hx)
 ·obtain ⟨o',e1⟩:=I.base.there b o e hx
  exact there b o' (neC b o e hx) e1
 ·obtain ⟨m1,e1⟩:=I.base.tbls b ps e
  obtain ⟨m2,e2⟩:=tbls b _ e1
  exact ⟨m1++m2,by rw [e2,Array.append_assoc]⟩
 ·obtain ⟨m,hn,hl⟩:=I.loc
  refine ⟨m,ns m hn,fun i x v e1 e2 e3=>?_⟩
  obtain ⟨u,r,l⟩:=hl i x v e1 e2 e3
  refine ⟨u,r,?_⟩
  rcases l with l | ⟨k,c,e,z⟩
  ·exact .inl l
  ·exact .inr ⟨k,c,e,cellK x c e _ z⟩
 ·obtain ⟨v,z⟩:=I.cell x c e
  exact ⟨v,cellK x c e v z⟩
 ·obtain ⟨m,⟨o,_,_,ho,_⟩,_⟩:=I.loc
  exact free _ o (fun z=>(hch _ z).2.1 rfl) ho I.free
 ·obtain ⟨v,o,ho,hd⟩:=I.cell x c e
  exact free c o (fun z=>(hch c z).2.2.1 x c e rfl) ho (I.freeC x c e)
 ·obtain ⟨e,n,ne,nf,d⟩:=I.pin p hp
  have nch:p.1∉ch:=fun z=>(hch p.1 z).2.2.2 p hp rfl
  exact ⟨keep p.1 p.2 ne nf nch e n,free p.1 p.2 nch e n,ne,nf,d⟩
theorem Inv.un {t':Nat} (I:Inv X pins σ H s) (u:Un X.fs [] H H' s.heap h') (hok:HOk X.prog X.w H' h'):Inv X pins σ H' { s with heap:=h',toks:=t' }:=by
 obtain ⟨m,⟨o,es,ep,ho,r⟩,_⟩:=id I.loc
 obtain ⟨sl,hL⟩:=u.any ho I.free (by simp)
 exact I.step (g':=s.gens) (d':=s.drawn) (ch:=[]) (fun _ z=>nomatch z) (fun b o _ hb _ e n=>u.keep b o e n hb (by simp)) (fun b o _ hb _ e n=>u.slot b o e n hb (by simp)) (fun b o _ e n=>u.free b o e n (by simp)) (fun b o _ e=>u.there b o e (by simp)) u.tups u.frzs u.tbls (fun m' hm=>by
  obtain ⟨o',es',ep',ho',r'⟩:=hm
  rw [ho] at ho'; cases ho'
  exact ⟨_,es',ep',hL,r'⟩) hok I.bare
theorem Inv.call {g':Array R3} {t':Nat} {d':Drawn} {ch:List Addr} (I:Inv X pins σ H s) (u:Un (frs X.stack) ch H H' s.heap h') (hok:HOk X.prog X.w H' h') (hg:AllBare g')
  (hch:∀ b∈ch,(b∈X.ex\/X.s₀.heap.objs.size<=b)/\b≠X.env.locals/\(∀ x c,X.env.cells.lookup x=some c->c≠b)/\∀ p∈X.pn++pins,p.1≠b):
  Inv X pins σ H' { s with heap:=h',gens:=g',drawn:=d',toks:=t' }:=by
 obtain ⟨m,⟨o,es,ep,ho,r⟩,_⟩:=id I.loc
 obtain ⟨sl,hL⟩:=u.any ho I.free fun z=>(hch _ z).2.1 rfl
 exact I.step (ch:=ch) hch (fun b o hL hb hc e n=>u.keep b o e n (fun z=>(Lh.mp (I.stkSub b z)).elim hL hb) hc) (fun b o _ _ hc e n=>u.any e n hc) (fun b o hc e n=>u.free b o e n hc) (fun b o hc e=>u.there b o e hc) u.tups u.frzs u.tbls (fun m' hm=>by
  obtain ⟨o',es',ep',ho',r'⟩:=hm
  rw [ho] at ho'; cases ho'
  exact ⟨_,es',ep',hL,r'⟩) hok hg
theorem Inv.turned {t':Nat} {it:Addr} (I:Inv X pins σ H s) (k:∀ b o,b≠it->s.heap.get? b=some o->h'.get? b=some o) (hn:H it=none) (hL:it≠X.env.locals)
  (h1:it∈X.ex\/X.s₀.heap.objs.size<=it) (h2:∀ x c,X.env.cells.lookup x=some c->c≠it) (h3:∀ p∈X.pn++pins,p.1≠it):Inv X pins σ H { s with heap:=h',toks:=t' }:=by
 have nit:∀ b u,H b=some u->b≠it:=fun b u e z=>by rw [z,hn] at e; cases e
 refine I.step (g':=s.gens) (d':=s.drawn) (ch:=[it]) (fun b hb=>?_) (fun b o _ _ hc e _=>k b o (fun z=>hc (by simp [z])) e) (fun b o _ _ hc e _=>⟨o.slots,k b o (fun z=>hc (by simp [z])) e⟩) (fun _ _ _ _ n=>n)
  (fun b o hc e=>⟨o,k b o (fun z=>hc (by simp [z])) e⟩) (fun _ _ e=>e) (fun _ _ _ e=>e) (fun b ps e=>⟨#[],by rw [e]; simp⟩) (fun m hm=>?_) (fun b u e=>?_) I.bare
 ·have e:b=it:=by simpa using hb
  subst e
  exact ⟨h1,hL,h2,h3⟩
 ·obtain ⟨o,es,ep,ho,r⟩:=hm
  exact ⟨o,es,ep,k _ o (MU hL) ho,r⟩
 ·refine (I.hok b u e).stay (fun c v hc q=>k c v ?_ q) (fun _ q=>q) fun _ _ q=>q
  rcases hc with z | z
  ·rw [z]; exact nit b u e
  ·exact nit c _ z
theorem Inv.tok (I:Inv X pins σ H s) (t:Nat):Inv X pins σ H { s with toks:=t }:=I.un (h':=s.heap) (t':=t) Un.refl I.hok
theorem Inv.kept {t':Nat} (I:Inv X pins σ H s) (k:∀ b u,s.heap.get? b=some u->h'.get? b=some u):Inv X pins σ H { s with heap:=h',toks:=t' }:=I.un (Un.kept k) (I.hok.kept k)
theorem Inv.laid {a:Addr} {o:HO} {t':Nat} (I:Inv X pins σ H s) (k:∀ b u,s.heap.get? b=some u->h'.get? b=some u) (hp:s.heap.objs.size<=a) (new:bD X.prog X.w (upd H a o) h' a o):
  Inv X pins σ (upd H a o) { s with heap:=h',toks:=t' }:=I.un (Un.laid k hp (I.hok.fresh hp)) (I.hok.laid k hp new)
theorem Inv.write {x e:Addr} {o:HO} {t':Nat} (I:Inv X pins σ H s) (mu:Mut (H x)) (he:e=x\/H e=some (.own x)) (k:∀ b u,b≠e->s.heap.get? b=some u->h'.get? b=some u) (heo:∃ u,h'.get? e=some u)
  (new:bD X.prog X.w (upd H x o) h' x o):Inv X pins σ (upd H x o) { s with heap:=h',toks:=t' }:=I.un (Un.write mu he k heo) (I.hok.write mu he k heo new)
theorem Inv.pins_of {pins':List (Addr×Obj)} (I:Inv X pins σ H s) (h:∀ p∈pins',s.heap.get? p.1=some p.2/\H p.1=none/\p.1≠X.env.locals/\p.1∉X.fs/\∀ v,p.2.data≠.cell v):Inv X pins' σ H s:=
 ⟨I.ok,I.os,I.bare,I.base,I.loc,I.cell,I.free,I.freeC,fun p hp=>(LU.mp hp).elim (fun z=>I.pin p (Nm _ z)) (h p),I.hok,I.len⟩
theorem yW {N:List Str} (hN:N.Nodup) {i j:Nat} {x:Str} (a:N[i]?=some x) (b:N[j]?=some x):i=j:=by
 obtain ⟨h1,e1⟩:=Li.mp a
 obtain ⟨h2,e2⟩:=Li.mp b
 exact (List.getElem_inj hN).mp (e1.trans e2.symm)
theorem wY {M:Model} {A:Around} {E:Value->Shared->Prop} {i:Nat} {x:Str} {v:V} {u:Value} {Q:Unit->Shared->Prop} (I:Inv X pins σ H s) (hN:X.N.Nodup) (hi:X.N[i]?=some x) (hx:Loc X.env.scope x) (r:aI v u)
  (h:∀ s',Inv X pins (σ.set i (some v)) H s'->(∃ a,LC a s.heap s'.heap/\(a=X.env.locals\/X.env.cells.lookup x=some a))->Q () s') (hf:X.fn x=true\/X.env.scope.names.lookup x=some .local:=by first | exact .inl rfl | exact .inr rfl | assumption):wpAny M A (storeName X.env x u) Q E s:=by
 obtain ⟨m,hn,hl⟩:=id I.loc
 have hcls:(X.env.scope.kind == .class || (X.env.scope.kind == .module && X.env.locals != X.env.globals))=false:=by rw [I.ok.kind]; rfl
 have hiσ:i < σ.length:=by rw [I.len]; exact (Li.mp hi).1
 have cne:=I.cne
 have tracked:∀ {a:Addr} {h':Heap},(∃ o,s.heap.get? a=some o/\H a=none)->LC a s.heap h'->HOk X.prog X.w H h':=fun {a h'} ha hs b ob e=>by
  obtain ⟨_,_,hfree⟩:=ha
  refine (I.hok b ob e).stay (fun c w' hc q=>(hs.2 c ?_).trans q) (fun _ q=>q) fun _ _ q=>q
  rintro rfl
  rcases hc with rfl | hc
  ·rw [hfree] at e; cases e
  ·rw [hfree] at hc; cases hc
 rcases hx with hk | hk
 ·refine wpAny_storeName_local hk hn (fun h' hn' hs=>?_) hcls
  obtain ⟨oL,_,_,hoL,_⟩:=id hn
  refine h _ ⟨I.ok,I.os,I.bare,⟨fun b o e n hb hx=>?_,fun b o e n hb hx=>?_,I.base.free,fun b o e hx=>?_,I.base.tups,I.base.frzs,I.base.tbls⟩,⟨_,hn',fun j y v' e1 e2 e3=>?_⟩,fun y c e=>?_,I.free,I.freeC,fun p hp=>?_,tracked ⟨oL,hoL,I.free⟩ hs,by simpa using I.len⟩ ⟨_,hs,.inl rfl⟩
  ·exact (hs.2 b (LR (LH (Lm e) I.ok.above))).trans (I.base.keep b o e n hb hx)
  ·obtain ⟨sl,e1⟩:=I.base.slot b o e n hb hx
   exact ⟨sl,(hs.2 b (LR (LH (Lm e) I.ok.above))).trans e1⟩
  ·obtain ⟨o',e1⟩:=I.base.there b o e hx
   exact ⟨o',(hs.2 b (LR (LH (Lm e) I.ok.above))).trans e1⟩
  ·by_cases hj:j=i
   ·subst hj
    rw [hi] at e1; cases e1
    rw [Ry hiσ] at e2
    cases e2
    exact ⟨u,r,.inl ⟨hk,by simp⟩⟩
   ·rw [R5 (MU hj)] at e2
    obtain ⟨u',r',q⟩:=hl j y v' e1 e2 e3
    refine ⟨u',r',?_⟩
    rcases q with ⟨k,e⟩ | ⟨k,c,e,z⟩
    ·refine .inl ⟨k,?_⟩
     have:y≠x:=fun e=>hj (yW hN e1 (e ▸ hi))
     simp [this,e]
    ·exact .inr ⟨k,c,e,z.sameBut hs (cne y c e)⟩
  ·obtain ⟨w',z⟩:=I.cell y c e
   exact ⟨w',z.sameBut hs (cne y c e)⟩
  ·obtain ⟨e,n,ne,nf,d⟩:=I.pin p hp
   exact ⟨(hs.2 p.1 ne).trans e,n,ne,nf,d⟩
 ·have hfn:X.fn x=true:=by
   rcases hf with z | z
   ·exact z
   ·rw [z] at hk; cases hk
  obtain ⟨c,hc⟩:=I.ok.has x (.inl hk)
  obtain ⟨w',z⟩:=I.cell x c hc
  refine wpAny_storeName_cell I.ok.kind hk hc z (fun h' hc' hs=>?_)
  obtain ⟨oc,hoc,hocd⟩:=id z
  refine h { s with heap:=h' } ⟨I.ok,I.os,I.bare,⟨fun b o e n hb hx=>?_,fun b o e n hb hx=>?_,I.base.free,fun b o e hx=>?_,I.base.tups,I.base.frzs,I.base.tbls⟩,⟨m,hn.sameBut hs (MU (cne x c hc)),fun j y v' e1 e2 e3=>?_⟩,fun y c' e=>?_,I.free,I.freeC,fun p hp=>?_,tracked ⟨oc,hoc,I.freeC x c hc⟩ hs,by simpa using I.len⟩ ⟨c,hs,.inr hc⟩
  ·exact (hs.2 b (LR (LH (Lm e) (I.ok.cab x c hfn hc)))).trans (I.base.keep b o e n hb hx)
  ·obtain ⟨sl,e1⟩:=I.base.slot b o e n hb hx
   exact ⟨sl,(hs.2 b (LR (LH (Lm e) (I.ok.cab x c hfn hc)))).trans e1⟩
  ·obtain ⟨o',e1⟩:=I.base.there b o e hx
   exact ⟨o',(hs.2 b (LR (LH (Lm e) (I.ok.cab x c hfn hc)))).trans e1⟩
  ·by_cases hj:j=i
   ·subst hj
    rw [hi] at e1; cases e1
    rw [Ry hiσ] at e2
    cases e2
    exact ⟨u,r,.inr ⟨.inl hk,c,hc,hc'⟩⟩
   ·rw [R5 (MU hj)] at e2
    obtain ⟨u',r',q⟩:=hl j y v' e1 e2 e3
    refine ⟨u',r',?_⟩
    rcases q with q | ⟨k,c',e,z'⟩
    ·exact .inl q
    ·refine .inr ⟨k,c',e,z'.sameBut hs ?_⟩
     rintro rfl
     exact hj (yW hN e1 (I.ok.inj _ _ _ e hc ▸ hi))
  ·by_cases hcc:c'=c
   ·subst hcc; exact ⟨_,hc'⟩
   ·obtain ⟨w2,z2⟩:=I.cell y c' e
    exact ⟨w2,z2.sameBut hs hcc⟩
  ·obtain ⟨e,n,ne,nf,d⟩:=I.pin p hp
   refine ⟨(hs.2 p.1 ?_).trans e,n,ne,nf,d⟩
   intro q
   rw [q,hoc] at e
   have q':oc=p.2:=Lu e
   exact d w' (by rw [<-q']; exact hocd)
theorem yX {M:Model} {A:Around} {E:Value->Shared->Prop} {i:Nat} {x:Str} {v:V} {u:Value} {Q:Unit->Shared->Prop} (I:Inv X pins σ H s) (hN:X.N.Nodup) (hi:X.N[i]?=some x) (hx:Loc X.env.scope x) (r:aI v u)
  (h:∀ s',Inv X pins (σ.set i (some v)) H s'->Q () s') (hf:X.fn x=true\/X.env.scope.names.lookup x=some .local:=by first | exact .inl rfl | exact .inr rfl | assumption):wpAny M A (storeName X.env x u) Q E s:=
 wY I hN hi hx r (fun s' I' _=>h s' I') hf
theorem Inv.call' {s':Shared} {ch:List Addr} (I:Inv X pins σ H s) (ho:s'.os=s.os) (u:Un (frs X.stack) ch H H' s.heap s'.heap) (hok:HOk X.prog X.w H' s'.heap) (hg:AllBare s'.gens)
  (hch:∀ b∈ch,(b∈X.ex\/X.s₀.heap.objs.size<=b)/\b≠X.env.locals/\(∀ x c,X.env.cells.lookup x=some c->c≠b)/\∀ p∈X.pn++pins,p.1≠b):Inv X pins σ H' s':=by
 obtain ⟨h',g',d',t',o'⟩:=s'
 have e:o'=s.os:=ho
 subst e
 exact I.call (g':=g') (t':=t') (d':=d') u hok hg hch
end
noncomputable abbrev XK:=Value->Option Addr->Hp->Prop
noncomputable abbrev St:=List (Option V)
noncomputable abbrev VK:=V->Hp->Prop
noncomputable abbrev TE:=St->Hp->VK->Prop
noncomputable abbrev TT:=St->Hp->(Bool->Hp->Prop)->Prop
noncomputable abbrev TA:=St->Hp->(List V->Hp->Prop)->Prop
set_option genInjectivity false in
structure jk where
 nx:St->Hp->Prop
 rt:VK
 bk:St->Hp->Prop:=fun _ _=>False
 ct:St->Hp->Prop:=fun _ _=>False
noncomputable abbrev TS:=jk->St->Hp->Prop
noncomputable def EP (X:Cx) (pins:List (Addr×Obj)) (σ:St) (Q:VK) (u:Value) (s':Shared):Prop:=∃ v H',Inv X pins σ H' s'/\aI v u/\Q v H'
noncomputable def TP (X:Cx) (pins:List (Addr×Obj)) (σ:St) (Q:Bool->Hp->Prop) (b:Bool) (s':Shared):Prop:=∃ H',Inv X pins σ H' s'/\Q b H'
noncomputable def AP (X:Cx) (pins:List (Addr×Obj)) (σ:St) (Q:List V->Hp->Prop) (us:List Value) (s':Shared):Prop:=∃ vs H',Inv X pins σ H' s'/\aG vs us/\Q vs H'
noncomputable def SP (X:Cx) (pins:List (Addr×Obj)) (D:jk) (f:Flow) (s':Shared):Prop:=
 match f with
 | .next=>∃ σ' H',Inv X pins σ' H' s'/\D.nx σ' H'
 | .brk=>∃ σ' H',Inv X pins σ' H' s'/\D.bk σ' H'
 | .cont=>∃ σ' H',Inv X pins σ' H' s'/\D.ct σ' H'
 | .ret u=>∃ v σ' H',Inv X pins σ' H' s'/\aI v u/\D.rt v H'
noncomputable def PE (X:Cx) (e:Expr) (t:TE):Prop:=
 ∀ (pins:List (Addr×Obj)) (s:Shared) (σ:St) (H:Hp) (Q:VK),Inv X pins σ H s->t σ H Q->wpAny (model X.prog X.w) X.A (eval e X.env) (EP X pins σ Q) X.xe s
noncomputable def PT (X:Cx) (e:Expr) (t:TT):Prop:=
 ∀ (pins:List (Addr×Obj)) (s:Shared) (σ:St) (H:Hp) (Q:Bool->Hp->Prop),Inv X pins σ H s->t σ H Q->wpAny (model X.prog X.w) X.A (isTrue e X.env (eval e X.env)) (TP X pins σ Q) X.xe s
noncomputable def PW (X:Cx) (e:Expr) (t:TT):Prop:=
 ∀ (whole:Sem Value) (pins:List (Addr×Obj)) (s:Shared) (σ:St) (H:Hp) (Q:Bool->Hp->Prop),Inv X pins σ H s->t σ H Q->wpAny (model X.prog X.w) X.A (isTrue e X.env whole) (TP X pins σ Q) X.xe s
theorem PW.pt {X:Cx} {e:Expr} {t:TT} (h:PW X e t):PT X e t:=h _
noncomputable def PA (X:Cx) (es:List Expr) (t:TA):Prop:=
 ∀ (pos:Pos) (pins:List (Addr×Obj)) (s:Shared) (σ:St) (H:Hp) (Q:List V->Hp->Prop),Inv X pins σ H s->t σ H Q->wpAny (model X.prog X.w) X.A (spliced (backTo pos (LD es X.env))) (AP X pins σ Q) X.xe s
noncomputable def PS (X:Cx) (st:Stmt) (t:TS):Prop:=
 ∀ (pins:List (Addr×Obj)) (s:Shared) (σ:St) (H:Hp) (D:jk),Inv X pins σ H s->t D σ H->wpAny (model X.prog X.w) X.A (exec st X.env) (SP X pins D) X.xe s
noncomputable def PSs (X:Cx) (st:List Stmt) (t:TS):Prop:=
 ∀ (pins:List (Addr×Obj)) (s:Shared) (σ:St) (H:Hp) (D:jk),Inv X pins σ H s->t D σ H->wpAny (model X.prog X.w) X.A (execs st X.env) (SP X pins D) X.xe s
theorem thn {α:Type} {t:Sem α} {Q Q':α->Shared->Prop} {M:Model} {A:Around} {E:Value->Shared->Prop} {s:Shared} (h:wpAny M A t Q E s) (hQ:∀ a s,Q a s->Q' a s):wpAny M A t Q' E s:=M1 h hQ fun _ _ x=>x
end L2
namespace L2
open PySem PySem.Spec PyProof.Rows
section
variable {X:Cx}
noncomputable def ab (i:Nat):TE:=fun σ H Q=>∃ v,σ[i]?=some (some v)/\Q v H
noncomputable def tC (v:V):TE:=fun _ H Q=>Q v H
theorem DJ {i:Nat} {x:Str} {pos:Pos} (hN:X.N[i]?=some x) (hv:Vis X.env.scope x) (hd:(x == ("__debug__":Str))=false:=by decide) (hcd:(x == ("__classdict__":Str))=false:=by decide):PE X (.Name x pos) (ab i):=by
 intro pins s σ H Q I h
 obtain ⟨v,e,h⟩:=h
 obtain ⟨m,hn,hl⟩:=I.loc
 obtain ⟨u,r,l⟩:=hl i x v hN e hv
 have fin:EP X pins σ Q u s:=⟨v,H,I,r,h⟩
 rcases l with ⟨hk,hm⟩ | ⟨hk,c,hc,hcell⟩
 ·exact T6 (wpAny_loadName_local I.ok.kind hk hn hm fin) hd
 ·rcases hk with hk | hk
  ·exact T6 (wpAny_loadName_cell I.ok.kind hk hc hcell fin) hd
  ·exact T6 (wpAny_loadName_free I.ok.kind hk hc hcell fin hcd) hd
theorem aj {i j pos}:PE X (.Constant (.int i) j pos) (tC (.int i)):=fun _ _ _ H _ I h=>wpAny_Constant_int ⟨.int i,H,I.tok _,⟨_,rfl⟩,h⟩
theorem dQ {b j pos}:PE X (.Constant (.bool b) j pos) (tC (.bl b)):=fun _ _ _ H _ I h=>Constant_bool ⟨.bl b,H,I,rfl,h⟩
theorem Js {j pos}:PE X (.Constant .none j pos) (tC .non):=fun _ _ _ H _ I h=>Constant_none ⟨.non,H,I,rfl,h⟩
theorem aX {x j pos}:PE X (.Constant (.str x) j pos) (tC (.str x)):=fun _ _ _ H _ I h=>Calls.Constant_str ⟨.str x,H,I.tok _,⟨_,rfl⟩,h⟩
noncomputable def Gl (X:Cx) (x:Str):Prop:=X.env.kindOf x=some .globalImplicit
theorem v3 {E:Value->Shared->Prop} {pins:List (Addr×Obj)} {s:Shared} {σ:St} {H:Hp} {x:Str} {u:Value} {pos:Pos} {Q:Value->Shared->Prop} (I:Inv X pins σ H s) (hg:Gl X x) (hm:X.mg x=some u) (h:Q u s)
  (hd:(x == ("__debug__":Str))=false:=by decide):wpAny (model X.prog X.w) X.A (eval (.Name x pos) X.env) Q E s:=
 QB I.ok.kind hg (Calls.loadGlobal_global (by rw [I.ok.glob]; exact I.mod.glob.keeps I.bk) hm h) hd
theorem fY {E:Value->Shared->Prop} {pins:List (Addr×Obj)} {s:Shared} {σ:St} {H:Hp} {x:Str} {u:Value} {pos:Pos} {Q:Value->Shared->Prop} (I:Inv X pins σ H s) (hg:Gl X x) (hm:X.mg x=none) (hv:O2 x=some u) (h:Q u s)
  (hn:x≠"__name__":=by decide) (hd:(x == ("__debug__":Str))=false:=by decide):wpAny (model X.prog X.w) X.A (eval (.Name x pos) X.env) Q E s:=by
 obtain ⟨mb,h1,h2⟩:=I.mod.blt
 exact QB I.ok.kind hg (Calls.loadGlobal_builtin (by rw [I.ok.glob]; exact I.mod.glob.keeps I.bk) hm (by rw [I.ok.blt]; exact h1.keeps I.bk) ((h2 x hn).trans hv) h) hd
theorem jl {x:Str} {v:V} {u:Value} {pos:Pos} (hg:Gl X x) (hm:X.mg x=some u) (r:aI v u) (hd:(x == ("__debug__":Str))=false:=by decide):PE X (.Name x pos) (tC v):=
 fun _ _ _ H _ I h=>v3 I hg hm ⟨v,H,I,r,h⟩ hd
theorem gq {x:Str} {v:V} {u:Value} {pos:Pos} (hg:Gl X x) (hm:X.mg x=none) (hv:O2 x=some u) (r:aI v u) (hn:x≠"__name__":=by decide) (hd:(x == ("__debug__":Str))=false:=by decide):PE X (.Name x pos) (tC v):=
 fun _ _ _ H _ I h=>fY I hg hm hv ⟨v,H,I,r,h⟩ hn hd
variable {a b:Expr} {ta tb:TE} {pos:Pos}
noncomputable def tB (t:TE):TT:=fun σ H Q=>t σ H fun x H1=>∃ c,x=.bl c/\Q c H1
theorem cU {e:Expr} {t:TE} (h:PE X e t) (he:∀ whole,isTrue e X.env whole=(do let v <-whole; standAt e.pos; holding [v] (truthy v)):=by intro _; rfl):PT X e (tB t):=by
 intro pins s σ H Q I hw
 refine isTrue_plain (thn (h pins s σ H _ I hw) fun v s1 ⟨x,H1,I1,r1,q1⟩=>?_) (he _)
 obtain ⟨d,rfl,q⟩:=q1
 cases r1
 exact Nt ⟨H1,I1,q⟩
variable {tA tB':TT} {cI:List Expr}
noncomputable def yY (t u:TT):TT:=fun σ H Q=>t σ H fun c H1=>if c=true then u σ H1 Q else Q false H1
noncomputable def tOr (t u:TT):TT:=fun σ H Q=>t σ H fun c H1=>if c=true then Q true H1 else u σ H1 Q
noncomputable def fZ (t:TT):TT:=fun σ H Q=>t σ H fun c H1=>Q (!c) H1
theorem Bo (ha:PT X a tA):PW X (.BoolOp .And [a] pos) tA:=by
 intro wh pins s σ H Q I h
 refine isTrue_and (thn (ha pins s σ H Q I h) fun c s1 e=>?_)
 cases c with
 | true=>exact isTrue_and_nil e
 | false=>exact e
theorem kX (ha:PT X a tA):PW X (.BoolOp .Or [a] pos) tA:=by
 intro wh pins s σ H Q I h
 refine isTrue_or (thn (ha pins s σ H Q I h) fun c s1 e=>?_)
 cases c with
 | false=>exact isTrue_or_nil e
 | true=>exact e
theorem yZ (ha:PT X a tA) (hb:PW X (.BoolOp .And (b :: cI) pos) tB'):PW X (.BoolOp .And (a :: b :: cI) pos) (yY tA tB'):=by
 intro wh pins s σ H Q I h
 refine isTrue_and (thn (ha pins s σ H _ I h) fun c s1 ⟨H1,I1,q1⟩=>?_)
 cases c with
 | true=>exact hb wh pins s1 σ H1 Q I1 q1
 | false=>exact ⟨H1,I1,q1⟩
theorem lU (ha:PT X a tA) (hb:PW X (.BoolOp .Or (b :: cI) pos) tB'):PW X (.BoolOp .Or (a :: b :: cI) pos) (tOr tA tB'):=by
 intro wh pins s σ H Q I h
 refine isTrue_or (thn (ha pins s σ H _ I h) fun c s1 ⟨H1,I1,q1⟩=>?_)
 cases c with
 | true=>exact ⟨H1,I1,q1⟩
 | false=>exact hb wh pins s1 σ H1 Q I1 q1
theorem dG (ha:PT X a tA):PT X (.UnaryOp .Not a pos) (fZ tA):=by
 intro pins s σ H Q I h
 exact isTrue_not (ha pins s σ H (fun c H1=>Q (!c) H1) I h)
noncomputable def lV (ta tb:TE):TE:=fun σ H Q=>ta σ H fun x H1=>∃ c,x=.bl c/\if c=true then tb σ H1 Q else Q (.bl false) H1
noncomputable def Fu (ta tb:TE):TE:=fun σ H Q=>ta σ H fun x H1=>∃ c,x=.bl c/\if c=true then Q (.bl true) H1 else tb σ H1 Q
noncomputable def yv (ta:TE):TE:=fun σ H Q=>ta σ H fun x H1=>∃ c,x=.bl c/\Q (.bl (!c)) H1
theorem kY {op} {t:TE} (h:PE X a t):PE X (.BoolOp op [a] pos) t:=fun pins s σ H Q I hw=>BoolOp_one (h pins s σ H Q I hw)
theorem mW (ha:PE X a ta) (hb:PE X (.BoolOp .And (b :: cI) pos) tb):PE X (.BoolOp .And (a :: b :: cI) pos) (lV ta tb):=by
 intro pins s σ H Q I h
 refine BoolOp_and (thn (ha pins s σ H _ I h) fun v s1 ⟨x,H1,I1,r1,q1⟩=>?_)
 obtain ⟨c,rfl,q1⟩:=q1
 cases r1
 refine Nt ?_
 cases c with
 | true=>exact hb pins s1 σ H1 Q I1 q1
 | false=>exact ⟨.bl false,H1,I1,rfl,q1⟩
theorem Kn (ha:PE X a ta) (hb:PE X (.BoolOp .Or (b :: cI) pos) tb):PE X (.BoolOp .Or (a :: b :: cI) pos) (Fu ta tb):=by
 intro pins s σ H Q I h
 refine BoolOp_or (thn (ha pins s σ H _ I h) fun v s1 ⟨x,H1,I1,r1,q1⟩=>?_)
 obtain ⟨c,rfl,q1⟩:=q1
 cases r1
 refine Nt ?_
 cases c with
 | false=>exact hb pins s1 σ H1 Q I1 q1
 | true=>exact ⟨.bl true,H1,I1,rfl,q1⟩
theorem DK (ha:PE X a ta):PE X (.UnaryOp .Not a pos) (yv ta):=by
 intro pins s σ H Q I h
 refine UnaryOp_ (thn (ha pins s σ H _ I h) fun v s1 ⟨x,H1,I1,r1,q1⟩=>?_)
 obtain ⟨c,rfl,q1⟩:=q1
 cases r1
 exact not_of (Nt ⟨.bl (!c),H1,I1,rfl,q1⟩)
noncomputable def tIf (t:TT) (ta tb:TE):TE:=fun σ H Q=>t σ H fun c H1=>if c=true then ta σ H1 Q else tb σ H1 Q
theorem Fv {c:Expr} (hc:PT X c tA) (ha:PE X a ta) (hb:PE X b tb):PE X (.IfExp c a b pos) (tIf tA ta tb):=by
 intro pins s σ H Q I h
 refine wpAny_IfExp (thn (hc pins s σ H _ I h) fun d s1 ⟨H1,I1,q1⟩=>?_)
 cases d with
 | true=>exact ha pins s1 σ H1 Q I1 q1
 | false=>exact hb pins s1 σ H1 Q I1 q1
end
end L2
namespace L2
open PySem PySem.Spec PyProof.Rows
noncomputable def SqL (K:Fg) (H:Hp) (a:Addr) (xs:List V):Prop:=
 Rd H a (.lst xs)\/
  ∃ (o:Obj) (its:Array Value) (n:Nat),K.lookup a=some o/\o.cls=.type "list"/\o.dict=none/\o.data=.seq its n/\its.size<=Lr/\aG xs its.toList
noncomputable def SqT (K:Fg) (H:Hp) (a:Addr) (xs:List V):Prop:=
 Rd H a (.tup xs)\/
  ∃ (o:Obj) (its:Array Value) (n:Nat),K.lookup a=some o/\o.cls=.type "tuple"/\o.data=.seq its n/\its.size<=Lr/\aG xs its.toList
noncomputable def KT:Value->Option V
 | .none=>some .non
 | .bool b=>some (.bl b)
 | .int i _=>some (.int i)
 | .str x _=>some (.str x)
 | .bytes b _=>some (.byt b)
 | .float b _=>some (.flt b)
 | .ref a=>some (.ref a)
 | .type n=>some (.ty n)
 | _=>none
theorem aI.abs {x:V} {u:Value} (r:aI x u):KT u=some x:=by
 cases x with
 | non=>cases r; rfl
 | bl _=>cases r; rfl
 | int _=>obtain ⟨t,rfl⟩:=r; rfl
 | str _=>obtain ⟨t,rfl⟩:=r; rfl
 | byt _=>obtain ⟨t,rfl⟩:=r; rfl
 | flt _=>obtain ⟨t,rfl⟩:=r; rfl
 | ref _=>cases r; rfl
 | ty _=>cases r; rfl
theorem aI.inj {x y:V} {u:Value} (r:aI x u) (q:aI y u):x=y:=Lu (r.abs.symm.trans q.abs)
theorem aG.inj {xs ys:List V} {us:List Value} (h:aG xs us):aG ys us->xs=ys:=by
 induction h generalizing ys with
 | nil=>intro h; cases h; rfl
 | cons r t ih=>intro h; cases h with
  | cons r' t'=>rw [r.inj r',ih t']
section
variable {X:Cx} {pins:List (Addr×Obj)} {σ:St} {H:Hp} {s:Shared} {a:Addr} {xs ys:List V}
theorem SqL.of {K:Fg} (h:H a=some (.lst xs)):SqL K H a xs:=.inl (.inl h)
theorem SqT.of {K:Fg} (h:H a=some (.tup xs)):SqT K H a xs:=.inl (.inl h)
theorem Inv.list (I:Inv X pins σ H s) (h:SqL X.K H a xs):∃ its:List Value,aG xs its/\PlainL s.heap a its.toArray/\xs.length<=Lr:=by
 rcases h with h | ⟨o,its,n,hk,hc,hd,hs,hz,r⟩
 ·obtain ⟨z,its,n,r,e⟩:=h.ok I.hok
  exact ⟨its,r,⟨_,n,e,rfl,rfl,rfl⟩,z⟩
 ·refine ⟨its.toList,r,⟨o,n,I.kIn a o hk,hc,hd,by simpa using hs⟩,?_⟩
  have e:=r.length
  simp only [LV] at e
  omega
theorem Inv.tuple (I:Inv X pins σ H s) (h:SqT X.K H a xs):∃ its:List Value,aG xs its/\IsTup s.heap a its.toArray/\xs.length<=Lr:=by
 rcases h with h | ⟨o,its,n,hk,hc,hs,hz,r⟩
 ·obtain ⟨z,its,r,p⟩:=h.ok I.hok
  exact ⟨its,r,p.tup,z⟩
 ·refine ⟨its.toList,r,⟨o,I.kIn a o hk,hc,n,by simpa using hs⟩,?_⟩
  have e:=r.length
  simp only [LV] at e
  omega
theorem Inv.list_inj (I:Inv X pins σ H s) (h:SqL X.K H a xs) (h':SqL X.K H a ys):xs=ys:=by
 obtain ⟨its,r,⟨o,n,e,_,_,d⟩,_⟩:=I.list h
 obtain ⟨its',r',⟨o',n',e',_,_,d'⟩,_⟩:=I.list h'
 rw [e] at e'; cases e'
 rw [d] at d'
 injection d' with d1 _
 have:its=its':=by simpa using congrArg Array.toList d1
 subst this
 exact r.inj r'
theorem Inv.tuple_inj (I:Inv X pins σ H s) (h:SqT X.K H a xs) (h':SqT X.K H a ys):xs=ys:=by
 obtain ⟨its,r,⟨o,e,_,n,d⟩,_⟩:=I.tuple h
 obtain ⟨its',r',⟨o',e',_,n',d'⟩,_⟩:=I.tuple h'
 rw [e] at e'; cases e'
 rw [d] at d'
 injection d' with d1 _
 have:its=its':=by simpa using congrArg Array.toList d1
 subst this
 exact r.inj r'
end
noncomputable abbrev Cx.wish (X:Cx) (E:Value->Shared->Prop):Cx:={ X with xe:=E }
noncomputable abbrev Cx.nox (X:Cx):Cx:=X.wish fun _ _=>False
theorem Cx.Ok.wish {X:Cx} (ok:X.Ok) (E:Value->Shared->Prop):(X.wish E).Ok:=
 ⟨ok.mod,ok.kind,ok.glob,ok.blt,ok.above,ok.inj,ok.has,ok.cab,ok.hd,ok.frames,ok.stk,ok.exf,ok.bs,ok.bsz,ok.noex,ok.exfs,ok.funs,ok.frf⟩
theorem Cx.Ok.unwish {X:Cx} {E:Value->Shared->Prop} (ok:(X.wish E).Ok):X.Ok:=
 ⟨ok.mod,ok.kind,ok.glob,ok.blt,ok.above,ok.inj,ok.has,ok.cab,ok.hd,ok.frames,ok.stk,ok.exf,ok.bs,ok.bsz,ok.noex,ok.exfs,ok.funs,ok.frf⟩
section
variable {X:Cx} {pins:List (Addr×Obj)} {σ:St} {H:Hp} {s:Shared} {E:Value->Shared->Prop}
theorem Inv.wish (I:Inv X pins σ H s) (E:Value->Shared->Prop):Inv (X.wish E) pins σ H s:=⟨I.ok.wish E,I.os,I.bare,I.base,I.loc,I.cell,I.free,I.freeC,I.pin,I.hok,I.len⟩
theorem Inv.unwish (I:Inv (X.wish E) pins σ H s):Inv X pins σ H s:=⟨I.ok.unwish,I.os,I.bare,I.base,I.loc,I.cell,I.free,I.freeC,I.pin,I.hok,I.len⟩
theorem SP.unwish {D:jk} {f:Flow} {s':Shared} (h:SP (X.wish E) pins D f s'):SP X pins D f s':=by
 cases f with
 | next=>obtain ⟨σ',H',I,q⟩:=h; exact ⟨σ',H',I.unwish,q⟩
 | brk=>obtain ⟨σ',H',I,q⟩:=h; exact ⟨σ',H',I.unwish,q⟩
 | cont=>obtain ⟨σ',H',I,q⟩:=h; exact ⟨σ',H',I.unwish,q⟩
 | ret u=>obtain ⟨v,σ',H',I,r,q⟩:=h; exact ⟨v,σ',H',I.unwish,r,q⟩
theorem PSs.nox {st:List Stmt} {t:TS} (h:PSs X.nox st t):PSs X st t:=fun pins s σ H D I hw=>
 M1 (h pins s σ H D (I.wish _) hw) (fun _ _ q=>q.unwish) fun _ _ z=>NB z
end
section
variable {X:Cx} {st:Stmt} {cI:List Stmt} {t u:TS} {e:Expr} {te:TE} {pos:Pos}
noncomputable def bf:TS:=fun D σ H=>D.nx σ H
noncomputable def ar (t u:TS):TS:=fun D σ H=>t { D with nx:=u D } σ H
theorem aQ:PSs X [] bf:=fun _ _ σ H _ I h=>PK ⟨σ,H,I,h⟩
theorem ag (h1:PS X st t) (h2:PSs X cI u):PSs X (st :: cI) (ar t u):=by
 intro pins s σ H D I h
 refine Tz (thn (h1 pins s σ H { D with nx:=u D } I h) fun f s1 q=>?_)
 cases f with
 | next=>
  obtain ⟨σ',H',I',q⟩:=q
  exact h2 pins s1 σ' H' D I' q
 | ret v=>exact q
 | brk=>exact q
 | cont=>exact q
theorem ai (h1:PS X st t):PSs X [st] t:=by
 intro pins s σ H D I h
 refine Tz (thn (h1 pins s σ H D I h) fun f s1 q=>?_)
 cases f with
 | next=>exact PK q
 | ret v=>exact q
 | brk=>exact q
 | cont=>exact q
theorem Inv.quiet {pins:List (Addr×Obj)} {σ:St} {H:Hp} {s:Shared} (I:Inv X pins σ H s):interactive X.env=false:=by simp [interactive,I.ok.kind]
noncomputable def dR (te:TE):TS:=fun D σ H=>te σ H fun _ H1=>D.nx σ H1
theorem cA (he:PE X e te) (hs:SG e none pos.line X.env=pure false:=by rfl):PS X (.Expr e pos) (dR te):=by
 intro pins s σ H D I h
 exact wpAny_Expr_any (thn (he pins s σ H _ I h) fun v s1 ⟨x,H1,I1,r1,q1⟩=>⟨σ,H1,I1,q1⟩) I.quiet hs
noncomputable def aJ (te:TE):TS:=fun D σ H=>te σ H D.rt
theorem aw (he:PE X e te):PS X (.Return (some e) pos) (aJ te):=by
 intro pins s σ H D I h
 exact wpAny_Return_some (thn (he pins s σ H _ I h) fun v s1 ⟨x,H1,I1,r1,q1⟩=>⟨x,σ,H1,I1,r1,q1⟩)
noncomputable def bz (c:TT) (t u:TS):TS:=fun D σ H=>c σ H fun b H1=>if b=true then t D σ H1 else u D σ H1
theorem bj {c:Expr} {a b:List Stmt} {tc:TT} (hc:PT X c tc) (ha:PSs X a t) (hb:PSs X b u):PS X (.If c a b pos) (bz tc t u):=by
 intro pins s σ H D I h
 refine wpAny_If (thn (hc pins s σ H _ I h) fun d s1 ⟨H1,I1,q1⟩=>?_)
 cases d with
 | true=>exact ha pins s1 σ H1 D I1 q1
 | false=>exact hb pins s1 σ H1 D I1 q1
noncomputable def pS:TS:=fun _ _ _=>False
theorem nJ:PS X st pS:=fun _ _ _ _ _ _ h=>h.elim
end
noncomputable abbrev TG:=V->St->Hp->(St->Hp->Prop)->Prop
noncomputable abbrev TGs:=List V->St->Hp->(St->Hp->Prop)->Prop
noncomputable def PG (X:Cx) (target:Expr) (t:TG):Prop:=
 ∀ (pins:List (Addr×Obj)) (s:Shared) (σ:St) (H:Hp) (v:V) (u:Value) (Q:St->Hp->Prop),Inv X pins σ H s->aI v u->t v σ H Q->
  wpAny (model X.prog X.w) X.A (assign target X.env u) (fun _ s'=>∃ σ' H',Inv X pins σ' H' s'/\Q σ' H') X.xe s
noncomputable def PGs (X:Cx) (ts:List Expr) (t:TGs):Prop:=
 ∀ (pins:List (Addr×Obj)) (s:Shared) (σ:St) (H:Hp) (vs:List V) (us:List Value) (Q:St->Hp->Prop),Inv X pins σ H s->aG vs us->t vs σ H Q->
  wpAny (model X.prog X.w) X.A (assignInOrder ((PL ts X.env).map (·.2)) us) (fun _ s'=>∃ σ' H',Inv X pins σ' H' s'/\Q σ' H') X.xe s
noncomputable abbrev BW:=V->V->V->Hp->(Hp->Prop)->Prop
noncomputable def Fw (X:Cx) (t:BW):Prop:=
 ∀ (pins:List (Addr×Obj)) (s:Shared) (σ:St) (H:Hp) (o i v:V) (ov iv u:Value) (Q:Hp->Prop),Inv X pins σ H s->aI o ov->aI i iv->aI v u->t o i v H Q->
  wpAny (model X.prog X.w) X.A (setItem ov iv u) (fun _ s'=>∃ H',Inv X pins σ H' s'/\Q H') X.xe s
section
variable {X:Cx} {pos:Pos}
noncomputable def ao (i:Nat):TG:=fun v σ H Q=>Q (σ.set i (some v)) H
theorem aA {i:Nat} {x:Str} (hN:X.N.Nodup) (hi:X.N[i]?=some x) (hx:Loc X.env.scope x) (hf:X.fn x=true\/X.env.scope.names.lookup x=some .local:=by first | exact .inl rfl | exact .inr rfl | assumption):PG X (.Name x pos) (ao i):=by
 intro pins s σ H v u Q I r h
 exact SZ (yX I hN hi hx r (fun s' I'=>⟨_,H,I',h⟩) hf)
noncomputable def jm:TGs:=fun vs σ H Q=>vs=[]/\Q σ H
noncomputable def cc (t:TG) (u:TGs):TGs:=fun vs σ H Q=>∃ v r,vs=v :: r/\t v σ H fun σ' H'=>u r σ' H' Q
theorem eS:PGs X [] jm:=by
 intro pins s σ H vs us Q I r h
 obtain ⟨e,h⟩:=h
 subst e
 cases r
 exact assignInOrder_nil ⟨σ,H,I,h⟩
theorem bv {e:Expr} {es:List Expr} {t:TG} {u:TGs} (h1:PG X e t) (h2:PGs X es u)
  (hs:(PL (e :: es) X.env).map (·.2)=assign e X.env :: (PL es X.env).map (·.2):=by rfl):PGs X (e :: es) (cc t u):=by
 intro pins s σ H vs us Q I r h
 obtain ⟨v,vr,e1,h⟩:=h
 subst e1
 cases r with
 | cons r rr=>
  rw [hs]
  refine assignInOrder_cons (thn (h1 pins s σ H _ _ _ I r h) fun _ s1 ⟨σ1,H1,I1,q1⟩=>?_)
  exact h2 pins s1 σ1 H1 _ _ Q I1 rr q1
noncomputable def jn (K:Fg) (n:Nat) (t:TGs):TG:=fun v σ H Q=>∃ a xs,v=.ref a/\SqT K H a xs/\xs.length=n/\t xs σ H Q
theorem ga {es:List Expr} {k:Nat} {t:TGs} {n:Nat} (hc:X.calm=true) (h:PGs X es t)
  (hn:(PL es X.env).length=n:=by rfl) (hst:(PL es X.env).findIdx? (·.1)=none:=by rfl):PG X (.Tuple es k pos) (jn X.K n t):=by
 intro pins s σ H v u Q I r hw
 obtain ⟨a,xs,e1,hq,hl,hw⟩:=hw
 subst e1
 cases r
 obtain ⟨its,rv,ht,hz⟩:=I.tuple hq
 refine assign_Tuple_tuple (I.ok.hd hc) ht (by simp [hn,<-hl,rv.length]) hst fun h' hx=>?_
 have I1:Inv X pins σ H { s with heap:=h' }:=I.kept (t':=s.toks) fun b o e=>hx b o (LR (Lm e)) e
 exact h pins _ σ H xs _ Q I1 (by simpa using rv) hw
noncomputable def pT (to ti:TE) (t:BW):TG:=fun v σ H Q=>to σ H fun o H1=>ti σ H1 fun i H2=>t o i v H2 fun H3=>Q σ H3
theorem pU {o i:Expr} {to ti:TE} {t:BW} (ho:PE X o to) (hi:PE X i ti) (hs:Fw X t)
  (ha:∀ v,assign (.Subscript o i pos) X.env v=(do
   let ov <-holding [v] (eval o X.env)
   let iv <-holding [v,ov] (eval i X.env)
   standAt pos
   holding [v,ov,iv] (setItem ov iv v)
   release [v,ov,iv] []):=by intro _; rfl):PG X (.Subscript o i pos) (pT to ti t):=by
 intro pins s σ H v u Q I r h
 rw [ha]
 refine La (Mx (thn (ho pins s σ H _ I h) fun ov s1 ⟨x,H1,I1,r1,q1⟩=>?_))
 refine La (Mx (thn (hi pins s1 σ H1 _ I1 q1) fun iv s2 ⟨y,H2,I2,r2,q2⟩=>?_))
 refine La (Sm (La (Mx (thn (hs pins s2 σ H2 x y v ov iv u _ I2 r1 r2 r q2) fun _ s3 ⟨H3,I3,q3⟩=>?_))))
 exact wpAny_release ⟨σ,H3,I3,q3⟩
noncomputable def aH (te:TE) (g:TG):TS:=fun D σ H=>te σ H fun x H1=>g x σ H1 D.nx
theorem mX {tg e:Expr} {te:TE} {g:TG} (he:PE X e te) (hg:PG X tg g) (hs:swapsWithSole [tg] e pos.line X.env=pure false:=by rfl) (hw:swappedStores [tg] e X.env=pure none:=by rfl)
  (h1:(PL [tg] X.env).map (·.2)=[assign tg X.env]:=by rfl):PS X (.Assign [tg] e pos) (aH te g):=by
 intro pins s σ H D I h
 refine wpAny_Assign_stores (thn (he pins s σ H _ I h) fun v s1 ⟨x,H1,I1,r1,q1⟩=>?_) hs hw
 rw [h1]
 exact thn (hg pins s1 σ H1 x v _ I1 r1 q1) fun _ s2 q=>q
theorem az {i:Nat} {x:Str} {e:Expr} {te:TE} {pos':Pos} (hN:X.N.Nodup) (hi:X.N[i]?=some x) (hx:Loc X.env.scope x) (he:PE X e te) (hs:SG e (some (.Name x pos')) pos.line X.env=pure false:=by rfl) (hf:X.fn x=true\/X.env.scope.names.lookup x=some .local:=by first | exact .inl rfl | exact .inr rfl | assumption):
  PS X (.Assign [.Name x pos'] e pos) (aH te (ao i)):=by
 intro pins s σ H D I h
 refine wpAny_Assign_Name (thn (he pins s σ H _ I h) fun v s1 ⟨y,H1,I1,r1,q1⟩=>?_) hs
 exact yX I1 hN hi hx r1 (fun s2 I2=>⟨_,H1,I2,q1⟩) hf
end
section
variable {X:Cx} {pos:Pos}
noncomputable def kZ (c:TT) (tb:TS):TS:=fun D σ H=>∃ W:Nat->St->Hp->Prop,(∃ m,W m σ H)/\∀ m σ H,W m σ H->
 c σ H fun b H1=>if b=true then ∃ N:St->Hp->Prop,(∀ σ' H',N σ' H'->∃ m',m' < m/\W m' σ' H')/\tb { D with nx:=N,ct:=N,bk:=D.nx } σ H1 else D.nx σ H1
theorem nK {c:Expr} {body:List Stmt} {tc:TT} {tb:TS} (hp:Mc (model X.prog X.w) X.A X.env X.xe) (hc:PT X c tc) (hb:PSs X body tb):PS X (.While c body [] pos) (kZ tc tb):=by
 intro pins s σ H D I h
 obtain ⟨W,⟨m0,w0⟩,turn⟩:=h
 refine wpAny_While (codeAny_whileLoop (fun n s'=>∃ σ' H',Inv X pins σ' H' s'/\W n σ' H') ?_ m0 ⟨σ,H,I,w0⟩)
 rintro n s1 ⟨σ1,H1,I1,w1⟩
 refine N0 hp (thn (hc pins s1 σ1 H1 _ I1 (turn n σ1 H1 w1)) fun b s2 ⟨H2,I2,q2⟩=>?_)
 cases b with
 | true=>
  obtain ⟨N,hN,q2⟩:=q2
  rw [if_pos rfl]
  refine N0 hp (thn (hb pins s2 σ1 H2 _ I2 q2) fun f s3 q3=>?_)
  cases f with
  | next=>
   obtain ⟨σ3,H3,I3,n3⟩:=q3
   obtain ⟨m',hm,w3⟩:=hN σ3 H3 n3
   exact ⟨m',hm,σ3,H3,I3,w3⟩
  | cont=>
   obtain ⟨σ3,H3,I3,n3⟩:=q3
   obtain ⟨m',hm,w3⟩:=hN σ3 H3 n3
   exact ⟨m',hm,σ3,H3,I3,w3⟩
  | brk=>exact q3
  | ret v=>exact q3
 | false=>
  rw [if_neg Lq]
  exact PK ⟨σ1,H2,I2,q2⟩
end
set_option genInjectivity false in
structure It where
 go:Nat->Hp->Prop
 yld:Nat->Hp->V->Hp->Prop
 stop:Nat->Hp->Prop
noncomputable def j9 (X:Cx) (pins:List (Addr×Obj)) (H:Hp) (b:Addr):Prop:=
 H b=none/\b≠X.env.locals/\b∉X.fs/\(b∈X.ex\/X.s₀.heap.objs.size<=b)/\(∀ x c,X.env.cells.lookup x=some c->c≠b)/\∀ p∈X.pn++pins,p.1≠b
theorem Inv.fpOk {X:Cx} {pins:List (Addr×Obj)} {σ:St} {H H':Hp} {s:Shared} {b:Addr} (I:Inv X pins σ H s) (hb:s.heap.objs.size<=b) (hn:H' b=none):j9 X pins H' b:=by
 refine ⟨hn,Ny (LH I.lt hb),I.nofs hb,.inr (LS I.sz hb),fun x c e z=>?_,fun p hp z=>?_⟩
 ·obtain ⟨v,q⟩:=I.cell x c e
  exact absurd (LH q.lt (by rw [z]; exact hb)) (M5 _)
 ·exact absurd (LH (Lm (I.pin p hp).1) (by rw [z]; exact hb)) (M5 _)
structure pV (P:Program) (w:World) (K:Fg) (tg:Expr) (J:It) (fp:List Addr) (it:Addr) (tn:Nat->Heap->Prop):Prop where
 mem:it∈fp
 obj:∀ i h,tn i h->∀ b∈fp,∃ o,h.get? b=some o/\∀ v,o.data≠.cell v
 keep:∀ i h h',tn i h->(∀ b∈fp,∀ o,h.get? b=some o->h'.get? b=some o)->tn i h'
 item:∀ (X:Cx),X.prog=P->X.w=w->X.K=K->X.calm=true->∀ (i:Nat) (pins:List (Addr×Obj)) (s:Shared) (σ:St) (H:Hp) (E:Value->Shared->Prop),Inv X pins σ H s->(∀ b∈fp,j9 X pins H b)->tn i s.heap->J.go i H->
  wpAny (model P w) X.A (pyNext (.ref it)) (fun r s1=>∃ u,r=some u/\
   wpAny (model P w) X.A (PM tg (.ref it) u) (fun _ s2=>∃ x H',Inv X pins σ H' s2/\aI x u/\J.yld i H x H'/\tn (i + 1) s2.heap/\∀ b∈fp,H' b=none) E s1) E s
 done:∀ (X:Cx),X.prog=P->X.w=w->X.K=K->X.calm=true->∀ (i:Nat) (pins:List (Addr×Obj)) (s:Shared) (σ:St) (H:Hp) (E:Value->Shared->Prop),Inv X pins σ H s->(∀ b∈fp,j9 X pins H b)->tn i s.heap->J.stop i H->
  wpAny (model P w) X.A (pyNext (.ref it)) (fun r s1=>r=none/\Inv X pins σ H s1) E s
 self:∀ (A:Around) (i:Nat) (s:Shared) (Q:Value->Shared->Prop) (E:Value->Shared->Prop),tn i s.heap->Q (.ref it) s->wpAny (model P w) A (pyIter (.ref it)) Q E s
noncomputable abbrev TI:=St->Hp->(It->Hp->Prop)->Prop
noncomputable def PIE (X:Cx) (pins:List (Addr×Obj)) (σ:St) (tg:Expr) (R:It->Hp->Prop) (itv:Value) (s2:Shared):Prop:=
 ∃ (it:Addr) (fp:List Addr) (tn:Nat->Heap->Prop) (J:It) (H':Hp),itv=.ref it/\Inv X pins σ H' s2/\pV X.prog X.w X.K tg J fp it tn/\tn 0 s2.heap/\(∀ b∈fp,j9 X pins H' b)/\R J H'
noncomputable def PI (X:Cx) (tg iter:Expr) (wi:TI):Prop:=
 ∀ (pins:List (Addr×Obj)) (s:Shared) (σ:St) (H:Hp) (R:It->Hp->Prop),Inv X pins σ H s->wi σ H R->
  wpAny (model X.prog X.w) X.A (eval iter X.env) (fun v s1=>wpAny (model X.prog X.w) X.A (pyIter v) (PIE X pins σ tg R) X.xe s1) X.xe s
theorem yw {M : Model} {A : Around} {E : Value → Shared → Prop} {s : Shared} {tg : Expr} {it : Addr} {u : Value} {o : Obj} {n : String} {vs : Array Value} {Q : Unit → Shared → Prop} (ho : s.heap.get? it = some o) (hc : o.cls = .type n) (hd : o.data = .fields vs)
    (hn : ["enumerate", "zip", "dict_itemiterator", "dict_reverseitemiterator", "odict_iterator", "itertools.zip_longest", "itertools.pairwise"].contains n = false) (hQ : Q () s) : wpAny M A (PM tg (.ref it) u) Q E s := by
  unfold PM
  cases tg <;> first
    | exact Lc hQ
    | (cases u <;> first
        | exact Lc hQ
        | (refine La (R6 ho ?_)
           rw [hc, hd]
           show wpAny M A (if (["enumerate", "zip", "dict_itemiterator", "dict_reverseitemiterator", "odict_iterator", "itertools.zip_longest", "itertools.pairwise"].contains n && vs[0]? == some (rawInt _)) = true then _ else _) Q E s
           rw [if_neg (by intro h; rw [hn, Qe] at h; cases h)]
           exact Lc hQ))
noncomputable def Itl (K:Fg) (a:Addr):It:=
 ⟨fun i H=>∃ xs x,SqL K H a xs/\xs[i]?=some x,fun i H x H'=>H'=H/\∀ xs,SqL K H a xs->xs[i]?=some x,fun i H=>∃ xs,SqL K H a xs/\xs.length<=i⟩
noncomputable def Itt (K:Fg) (a:Addr):It:=
 ⟨fun i H=>∃ xs x,SqT K H a xs/\xs[i]?=some x,fun i H x H'=>H'=H/\∀ xs,SqT K H a xs->xs[i]?=some x,fun i H=>∃ xs,SqT K H a xs/\xs.length<=i⟩
noncomputable def Itr (lo:Int) (n:Nat):It:=⟨fun i _=>i < n,fun i H x H'=>H'=H/\x=.int (lo + i),fun i _=>n<=i⟩
theorem DL {P:Program} {w:World} {K:Fg} {tg:Expr} (a it:Addr):pV P w K tg (Itl K a) [it] it (fun i h=>h.IsListIter it a i) where
 mem:=by simp
 obj:=fun i h st b hb=>by
  have e:b=it:=by simpa using hb
  subst e
  obtain ⟨o,e,c,d⟩:=st
  exact ⟨o,e,fun v z=>by rw [d] at z; cases z⟩
 keep:=fun i h h' st k=>st.at fun o e=>k it (by simp) o e
 item:=by
  intro X hP hw hK hc i pins s σ H E I hf st hg
  subst hP hw hK
  obtain ⟨xs,x,hq,hx⟩:=hg
  obtain ⟨its,rv,p,hz⟩:=I.list hq
  obtain ⟨u,hu,ru⟩:=rv.get hx
  obtain ⟨f0,f1,f2,f3,f4,f5⟩:=hf it (by simp)
  refine wpAny_pyNext_list_item st p.isList (x:=u) (by simpa using hu) fun h' st' sb=>?_
  have I1:Inv X pins σ H { s with heap:=h' }:=I.turned (t':=s.toks) (fun b o hb e=>(sb.2 b hb).trans e) f0 f1 f3 f4 f5
  obtain ⟨o,e,c,d⟩:=id st'
  exact ⟨u,rfl,yw (s:={ s with heap:=h' }) e c d (by decide) ⟨x,H,I1,ru,⟨rfl,fun ys hy=>by rw [I.list_inj hy hq]; exact hx⟩,st',fun b hb=>(hf b hb).1⟩⟩
 done:=by
  intro X hP hw hK hc i pins s σ H E I hf st hg
  subst hP hw hK
  obtain ⟨xs,hq,hx⟩:=hg
  obtain ⟨its,rv,p,hz⟩:=I.list hq
  obtain ⟨f0,f1,f2,f3,f4,f5⟩:=hf it (by simp)
  have hl:=rv.length
  exact wpAny_pyNext_list_end (I.ok.hd hc) st p.isList (by simp; omega) fun h' eb=>⟨rfl,I.turned (t':=s.toks) (fun b o hb e=>eb b o hb e) f0 f1 f3 f4 f5⟩
 self:=fun _ _ _ _ _ st h=>wpAny_pyIter_listiter st h
theorem BX {P:Program} {w:World} {K:Fg} {tg:Expr} (a it:Addr):pV P w K tg (Itt K a) [it] it (fun i h=>h.IsTupleIter it a i) where
 mem:=by simp
 obj:=fun i h st b hb=>by
  have e:b=it:=by simpa using hb
  subst e
  obtain ⟨o,e,c,d⟩:=st
  exact ⟨o,e,fun v z=>by rw [d] at z; cases z⟩
 keep:=fun i h h' st k=>st.at fun o e=>k it (by simp) o e
 item:=by
  intro X hP hw hK hc i pins s σ H E I hf st hg
  subst hP hw hK
  obtain ⟨xs,x,hq,hx⟩:=hg
  obtain ⟨its,rv,p,hz⟩:=I.tuple hq
  obtain ⟨u,hu,ru⟩:=rv.get hx
  obtain ⟨f0,f1,f2,f3,f4,f5⟩:=hf it (by simp)
  refine wpAny_pyNext_tuple_item st (show s.heap.IsTuple a its.toArray from p) (x:=u) (by simpa using hu) fun h' st' sb=>?_
  have I1:Inv X pins σ H { s with heap:=h' }:=I.turned (t':=s.toks) (fun b o hb e=>(sb.2 b hb).trans e) f0 f1 f3 f4 f5
  obtain ⟨o,e,c,d⟩:=id st'
  exact ⟨u,rfl,yw (s:={ s with heap:=h' }) e c d (by decide) ⟨x,H,I1,ru,⟨rfl,fun ys hy=>by rw [I.tuple_inj hy hq]; exact hx⟩,st',fun b hb=>(hf b hb).1⟩⟩
 done:=by
  intro X hP hw hK hc i pins s σ H E I hf st hg
  subst hP hw hK
  obtain ⟨xs,hq,hx⟩:=hg
  obtain ⟨its,rv,p,hz⟩:=I.tuple hq
  obtain ⟨f0,f1,f2,f3,f4,f5⟩:=hf it (by simp)
  have hl:=rv.length
  exact wpAny_pyNext_tuple_end (I.ok.hd hc) st (show s.heap.IsTuple a its.toArray from p) (by simp; omega) fun h' eb=>⟨rfl,I.turned (t':=s.toks) (fun b o hb e=>eb b o hb e) f0 f1 f3 f4 f5⟩
 self:=fun _ _ _ _ _ st h=>wpAny_pyIter_tupleiter st h
theorem BY {P:Program} {w:World} {K:Fg} {tg:Expr} (it:Addr) (lo:Int) (n:Nat):pV P w K tg (Itr lo n) [it] it (fun i h=>Rz h it (lo + (i:Nat) * 1) ((n:Int) - (i:Nat)) 1) where
 mem:=by simp
 obj:=fun i h st b hb=>by
  have e:b=it:=by simpa using hb
  subst e
  exact ⟨_,st,fun v z=>by
   have z':Data.fields _=Data.cell v:=z
   cases z'⟩
 keep:=fun i h h' st k=>k it (by simp) _ st
 item:=by
  intro X hP hw hK hc i pins s σ H E I hf st hg
  subst hP hw hK
  obtain ⟨f0,f1,f2,f3,f4,f5⟩:=hf it (by simp)
  have W:=Walks.range (prog:=X.prog) (w:=X.w) (I.ok.hd hc) it lo 1 n
  refine W.item i s _ _ hg st fun v h' tk hv st' kk=>?_
  obtain ⟨t,rfl⟩:=hv
  have I1:Inv X pins σ H { s with heap:=h',toks:=tk }:=I.turned (fun b o hb e=>kk b o (by simpa using hb) e) f0 f1 f3 f4 f5
  refine ⟨_,rfl,yw (s:={ s with heap:=h',toks:=tk }) (n:="range_iterator") st' rfl rfl (by decide) ⟨.int (lo + i),H,I1,⟨t,?_⟩,⟨rfl,rfl⟩,st',fun b hb=>(hf b hb).1⟩⟩
  rw [Int.mul_one]
 done:=by
  intro X hP hw hK hc i pins s σ H E I hf st hg
  subst hP hw hK
  obtain ⟨f0,f1,f2,f3,f4,f5⟩:=hf it (by simp)
  exact RA (I.ok.hd hc) st (by have:n<=i:=hg; omega) fun h' eb=>⟨rfl,I.turned (t':=s.toks) (fun b o hb e=>eb b o hb e) f0 f1 f3 f4 f5⟩
 self:=fun _ _ _ _ _ st h=>RB st h
end L2
namespace L2
open PySem PySem.Spec PyProof.Rows
section
variable {X:Cx} {tg:Expr}
noncomputable def dg (K:Fg) (tl:TE):TI:=fun σ H R=>tl σ H fun x H1=>∃ a,x=.ref a/\(∃ xs,SqL K H1 a xs)/\R (Itl K a) H1
noncomputable def v4 (K:Fg) (tl:TE):TI:=fun σ H R=>tl σ H fun x H1=>∃ a,x=.ref a/\(∃ xs,SqT K H1 a xs)/\R (Itt K a) H1
theorem b7 {l:Expr} {tl:TE} (hl:PE X l tl):PI X tg l (dg X.K tl):=by
 intro pins s σ H R I h
 refine thn (hl pins s σ H _ I h) fun v s1 ⟨x,H1,I1,r1,q1⟩=>?_
 obtain ⟨a,e,⟨xs,hq⟩,q⟩:=q1
 subst e
 cases r1
 obtain ⟨its,rv,p,hz⟩:=I1.list hq
 refine OH p.isList ?_
 refine ⟨s1.heap.objs.size,[s1.heap.objs.size],_,_,H1,rfl,I1.kept (t':=s1.toks) fun b o e=>Lb _ e,DL a _,⟨_,Lk _ rfl,rfl,rfl⟩,fun b hb=>?_,q⟩
 have e:b=s1.heap.objs.size:=by simpa using hb
 subst e
 exact I1.fpOk (Le _) (I1.hok.fresh (Le _))
theorem t9 {l:Expr} {tl:TE} (hl:PE X l tl):PI X tg l (v4 X.K tl):=by
 intro pins s σ H R I h
 refine thn (hl pins s σ H _ I h) fun v s1 ⟨x,H1,I1,r1,q1⟩=>?_
 obtain ⟨a,e,⟨xs,hq⟩,q⟩:=q1
 subst e
 cases r1
 obtain ⟨its,rv,p,hz⟩:=I1.tuple hq
 refine SH (show s1.heap.IsTuple a its.toArray from p) ?_
 refine ⟨s1.heap.objs.size,[s1.heap.objs.size],_,_,H1,rfl,I1.kept (t':=s1.toks) fun b o e=>Lb _ e,BX a _,⟨_,Lk _ rfl,rfl,rfl⟩,fun b hb=>?_,q⟩
 have e:b=s1.heap.objs.size:=by simpa using hb
 subst e
 exact I1.fpOk (Le _) (I1.hok.fresh (Le _))
theorem Fx {pins:List (Addr×Obj)} {σ:St} {H:Hp} {s:Shared} {R:It->Hp->Prop} {E:Value->Shared->Prop} {lo hi:Int} {t u v:Tok} {tk:Nat} (I:Inv X pins σ H s) (h1:-(2 ^ 62)<=lo) (h2:lo < 2 ^ 62) (h3:-(2 ^ 62)<=hi) (h4:hi < 2 ^ 62)
  (q:R (Itr lo (hi - lo).toNat) H):wpAny (model X.prog X.w) X.A (pyIter (.ref s.heap.objs.size)) (PIE X pins σ tg R) E { s with heap:=s.heap.push { cls:=.type "range",data:=.fields #[.int lo t,.int hi u,.int 1 v] },toks:=tk }:=by
 refine SI (IsRange.new ..) (Us h1 h2 h3 h4) ?_
 have I1:Inv X pins σ H { s with heap:=s.heap.push { cls:=.type "range",data:=.fields #[.int lo t,.int hi u,.int 1 v] },toks:=tk }:=I.kept fun b o e=>Lb _ e
 refine ⟨(s.heap.push { cls:=.type "range",data:=.fields #[.int lo t,.int hi u,.int 1 v] }).objs.size,[(s.heap.push { cls:=.type "range",data:=.fields #[.int lo t,.int hi u,.int 1 v] }).objs.size],_,_,H,rfl,
  I1.kept (t':=tk) fun b o e=>Lb _ e,BY _ lo (hi - lo).toNat,?_,fun b hb=>?_,q⟩
 ·have e1:lo + ((0:Nat):Int) * 1=lo:=by simp
  have e2:(((hi - lo).toNat:Nat):Int) - ((0:Nat):Int)=Np lo hi 1:=by rw [Sn]; split <;> omega
  show Rz _ _ (lo + ((0:Nat):Int) * 1) ((((hi - lo).toNat:Nat):Int) - ((0:Nat):Int)) 1
  rw [e1,e2]
  exact Lk _ rfl
 ·have e:b=(s.heap.push { cls:=.type "range",data:=.fields #[.int lo t,.int hi u,.int 1 v] }).objs.size:=by simpa using hb
  subst e
  exact I1.fpOk (Le _) (I1.hok.fresh (Le _))
noncomputable def eN (ta:TA):TI:=fun σ H R=>ta σ H fun vs H1=>∃ j:Int,vs=[.int j]/\-(2 ^ 62)<=j/\j < 2 ^ 62/\R (Itr 0 j.toNat) H1
theorem bX {a:Expr} {ta:TA} {p pos:Pos} (hg:Gl X "range") (hm:X.mg "range"=none) (ha:PA X [a] ta) (hs:LD [a] X.env=[(false,eval a X.env)]:=by rfl):PI X tg (.Call (.Name "range" p) [a] [] pos) (eN ta):=by
 intro pins s σ H R I h
 refine Call_ (fY I hg hm QV (Ms (thn (ha pos pins s σ H _ I h) fun us s1 ⟨vs,H1,I1,r1,q1⟩=>?_) hs rfl))
 obtain ⟨j,e,q1,q2,q⟩:=q1
 subst e
 cases r1 with
 | cons r rr=>
  cases rr
  obtain ⟨t,rfl⟩:=r
  exact call_range_1 (Fx I1 (by omega) (by omega) q1 q2 (by simpa using q))
noncomputable def dk (wi:TI) (g:TG) (tb:TS):TS:=fun D σ H=>wi σ H fun J H1=>∃ W:Nat->Nat->St->Hp->Prop,(∃ m,W 0 m σ H1)/\∀ i m σ H,W i m σ H->
 (J.stop i H/\D.nx σ H)\/(J.go i H/\∃ N:St->Hp->Prop,(∀ σ' H',N σ' H'->∃ m',m' < m/\W (i + 1) m' σ' H')/\∀ x H',J.yld i H x H'->g x σ H' fun σ2 H2=>tb { D with nx:=N,ct:=N,bk:=D.nx } σ2 H2)
noncomputable def pW (fp:List Addr) (h:Heap):List (Addr×Obj):=fp.filterMap fun b=>(h.get? b).map fun o=>(b,o)
theorem kr {fp:List Addr} {h:Heap} {b:Addr} {o:Obj} (hb:b∈fp) (e:h.get? b=some o):(b,o)∈pW fp h:=Qp.mpr ⟨b,hb,by rw [e]; rfl⟩
theorem DM {fp:List Addr} {h:Heap} {p:Addr×Obj} (hp:p∈pW fp h):p.1∈fp/\h.get? p.1=some p.2:=by
 obtain ⟨b,hb,e⟩:=Qp.mp hp
 cases q:h.get? b with
 | none=>rw [q] at e; cases e
 | some o=>
  rw [q] at e
  have e':(b,o)=p:=Lu e
  subst e'
  exact ⟨hb,q⟩
theorem Inv.pinned {pins:List (Addr×Obj)} {σ:St} {H:Hp} {s:Shared} {fp:List Addr} (I:Inv X pins σ H s) (hf:∀ b∈fp,j9 X pins H b) (ho:∀ b∈fp,∃ o,s.heap.get? b=some o/\∀ v,o.data≠.cell v):Inv X (pins++pW fp s.heap) σ H s:=
 I.pins_of fun p hp=>(LU.mp hp).elim (fun z=>I.pin p (L9 _ z)) fun z=>by
  obtain ⟨hb,e⟩:=DM z
  obtain ⟨f0,f1,f2,_⟩:=hf p.1 hb
  obtain ⟨o,e',d⟩:=ho p.1 hb
  rw [e] at e'; cases e'
  exact ⟨e,f0,f1,f2,d⟩
theorem Inv.unpinned {pins pl:List (Addr×Obj)} {σ:St} {H:Hp} {s:Shared} (I:Inv X (pins++pl) σ H s):Inv X pins σ H s:=I.pins_of fun p hp=>I.pin p (L9 _ (Nm _ hp))
theorem bP {iter:Expr} {body:List Stmt} {wi:TI} {g:TG} {tb:TS} {pos:Pos} (hp:Mc (model X.prog X.w) X.A X.env X.xe) (hc:X.calm=true) (hi:PI X tg iter wi) (hg:PG X tg g) (hb:PSs X body tb)
  (hs:∀ x,QN iter X.env x=pure x:=by intro _; rfl):PS X (.For tg iter body [] pos) (dk wi g tb):=by
 intro pins s σ H D I h
 refine wpAny_For (thn (hi pins s σ H _ I h) fun v s1 h1=>thn h1 fun itv s2 h2=>?_) hs
 obtain ⟨it,fp,tn,J,H2,e,I2,T,st2,f2,W,⟨m0,w0⟩,turn⟩:=h2
 subst e
 have stat:∀ {H':Hp},(∀ b∈fp,H' b=none)->∀ b∈fp,j9 X pins H' b:=fun hn b hb=>⟨hn b hb,(f2 b hb).2⟩
 refine codeAny_forLoop_any (fun n s'=>∃ i σ' H',Inv X pins σ' H' s'/\tn i s'.heap/\(∀ b∈fp,H' b=none)/\W i n σ' H') ?_ m0 ⟨0,σ,H2,I2,st2,fun b hb=>(f2 b hb).1,w0⟩
 rintro n s3 ⟨i,σ3,H3,I3,st3,fr3,w3⟩
 rcases turn i n σ3 H3 w3 with ⟨stop,qn⟩ | ⟨go,N,hN,step⟩
 ·refine N0 hp (thn (T.done X rfl rfl rfl hc i pins s3 σ3 H3 X.xe I3 (stat fr3) st3 stop) fun r s4 ⟨hr,I4⟩=>?_)
  subst hr
  exact PK ⟨σ3,H3,I4,qn⟩
 ·refine N0 hp (thn (T.item X rfl rfl rfl hc i pins s3 σ3 H3 X.xe I3 (stat fr3) st3 go) fun r s4 ⟨u,hr,h4⟩=>?_)
  subst hr
  refine N0 hp (thn h4 fun _ s5 ⟨x,H5,I5,r5,y5,st5,fr5⟩=>?_)
  have I5':=I5.pinned (stat fr5) (T.obj _ _ st5)
  refine N0 hp (thn (hg _ s5 σ3 H5 x u _ I5' r5 (step x H5 y5)) fun _ s6 ⟨σ6,H6,I6,q6⟩=>?_)
  refine N0 hp (thn (hb _ s6 σ6 H6 _ I6 q6) fun f s7 q7=>?_)
  have again:∀ {σ7:St} {H7:Hp},Inv X (pins++pW fp s5.heap) σ7 H7 s7->N σ7 H7->∃ m,m < n/\∃ i σ' H',Inv X pins σ' H' s7/\tn i s7.heap/\(∀ b∈fp,H' b=none)/\W i m σ' H':=fun {σ7 H7} I7 n7=>by
   obtain ⟨m',hm,w7⟩:=hN σ7 H7 n7
   refine ⟨m',hm,i + 1,σ7,H7,I7.unpinned,T.keep _ _ _ st5 fun b hb o e=>(I7.pin (b,o) (L9 _ (L9 _ (kr hb e)))).1,fun b hb=>?_,w7⟩
   obtain ⟨o,e,d⟩:=T.obj _ _ st5 b hb
   exact (I7.pin (b,o) (L9 _ (L9 _ (kr hb e)))).2.1
  cases f with
  | next=>obtain ⟨σ7,H7,I7,n7⟩:=q7; exact again I7 n7
  | cont=>obtain ⟨σ7,H7,I7,n7⟩:=q7; exact again I7 n7
  | brk=>obtain ⟨σ7,H7,I7,q7⟩:=q7; exact ⟨σ7,H7,I7.unpinned,q7⟩
  | ret v=>obtain ⟨x7,σ7,H7,I7,r7,q7⟩:=q7; exact ⟨x7,σ7,H7,I7.unpinned,r7,q7⟩
end
theorem sP {K:Fg} {a:Addr} {xs:List V} {g:TG} {tb:TS} {D:jk} {σ:St} {H:Hp} (Pv:Nat->St->Hp->Prop) (h0:Pv 0 σ H) (hl:∀ i σ H,i<=xs.length->Pv i σ H->SqL K H a xs)
  (hs:∀ i x σ H,xs[i]?=some x->Pv i σ H->g x σ H fun σ2 H2=>tb { D with nx:=Pv (i + 1),ct:=Pv (i + 1),bk:=D.nx } σ2 H2) (hd:∀ σ H,Pv xs.length σ H->D.nx σ H):
  ∃ W:Nat->Nat->St->Hp->Prop,(∃ m,W 0 m σ H)/\∀ i m σ H,W i m σ H->
   ((Itl K a).stop i H/\D.nx σ H)\/((Itl K a).go i H/\∃ N:St->Hp->Prop,(∀ σ' H',N σ' H'->∃ m',m' < m/\W (i + 1) m' σ' H')/\∀ x H',(Itl K a).yld i H x H'->g x σ H' fun σ2 H2=>tb { D with nx:=N,ct:=N,bk:=D.nx } σ2 H2):=by
 refine ⟨fun i m σ H=>m=xs.length - i/\i<=xs.length/\Pv i σ H,⟨xs.length,by simp,Me _,h0⟩,?_⟩
 rintro i m σ H ⟨rfl,hi,p⟩
 have q:=hl i σ H hi p
 by_cases hlt:i < xs.length
 ·refine .inr ⟨⟨xs,xs[i],q,by simp [hlt]⟩,Pv (i + 1),fun σ' H' p'=>⟨xs.length - (i + 1),by omega,rfl,hlt,p'⟩,fun x H' y=>?_⟩
  obtain ⟨e,y⟩:=y
  subst e
  exact hs i x σ _ (y xs q) p
 ·have e:i=xs.length:=by omega
  subst e
  exact .inl ⟨⟨xs,q,Le _⟩,hd σ H p⟩
theorem HH {K:Fg} {a:Addr} {xs:List V} {g:TG} {tb:TS} {D:jk} {σ:St} {H:Hp} (Pv:Nat->St->Hp->Prop) (h0:Pv 0 σ H) (hl:∀ i σ H,i<=xs.length->Pv i σ H->SqT K H a xs)
  (hs:∀ i x σ H,xs[i]?=some x->Pv i σ H->g x σ H fun σ2 H2=>tb { D with nx:=Pv (i + 1),ct:=Pv (i + 1),bk:=D.nx } σ2 H2) (hd:∀ σ H,Pv xs.length σ H->D.nx σ H):
  ∃ W:Nat->Nat->St->Hp->Prop,(∃ m,W 0 m σ H)/\∀ i m σ H,W i m σ H->
   ((Itt K a).stop i H/\D.nx σ H)\/((Itt K a).go i H/\∃ N:St->Hp->Prop,(∀ σ' H',N σ' H'->∃ m',m' < m/\W (i + 1) m' σ' H')/\∀ x H',(Itt K a).yld i H x H'->g x σ H' fun σ2 H2=>tb { D with nx:=N,ct:=N,bk:=D.nx } σ2 H2):=by
 refine ⟨fun i m σ H=>m=xs.length - i/\i<=xs.length/\Pv i σ H,⟨xs.length,by simp,Me _,h0⟩,?_⟩
 rintro i m σ H ⟨rfl,hi,p⟩
 have q:=hl i σ H hi p
 by_cases hlt:i < xs.length
 ·refine .inr ⟨⟨xs,xs[i],q,by simp [hlt]⟩,Pv (i + 1),fun σ' H' p'=>⟨xs.length - (i + 1),by omega,rfl,hlt,p'⟩,fun x H' y=>?_⟩
  obtain ⟨e,y⟩:=y
  subst e
  exact hs i x σ _ (y xs q) p
 ·have e:i=xs.length:=by omega
  subst e
  exact .inl ⟨⟨xs,q,Le _⟩,hd σ H p⟩
theorem pX {lo:Int} {n:Nat} {g:TG} {tb:TS} {D:jk} {σ:St} {H:Hp} (Pv:Nat->St->Hp->Prop) (h0:Pv 0 σ H)
  (hs:∀ i σ H,i < n->Pv i σ H->g (.int (lo + i)) σ H fun σ2 H2=>tb { D with nx:=Pv (i + 1),ct:=Pv (i + 1),bk:=D.nx } σ2 H2) (hd:∀ σ H,Pv n σ H->D.nx σ H):
  ∃ W:Nat->Nat->St->Hp->Prop,(∃ m,W 0 m σ H)/\∀ i m σ H,W i m σ H->
   ((Itr lo n).stop i H/\D.nx σ H)\/((Itr lo n).go i H/\∃ N:St->Hp->Prop,(∀ σ' H',N σ' H'->∃ m',m' < m/\W (i + 1) m' σ' H')/\∀ x H',(Itr lo n).yld i H x H'->g x σ H' fun σ2 H2=>tb { D with nx:=N,ct:=N,bk:=D.nx } σ2 H2):=by
 refine ⟨fun i m σ H=>m=n - i/\i<=n/\Pv i σ H,⟨n,by simp,Me _,h0⟩,?_⟩
 rintro i m σ H ⟨rfl,hi,p⟩
 by_cases hlt:i < n
 ·refine .inr ⟨hlt,Pv (i + 1),fun σ' H' p'=>⟨n - (i + 1),by omega,rfl,hlt,p'⟩,fun x H' y=>?_⟩
  obtain ⟨e,y⟩:=y
  subst e y
  exact hs i σ _ hlt p
 ·have e:i=n:=by omega
  subst e
  exact .inl ⟨Le _,hd σ H p⟩
end L2
namespace L2
open PySem PySem.Spec PyProof.Rows
noncomputable abbrev R2:=V->V->Hp->VK->Prop
noncomputable def OpR (X:Cx) (f:Value->Value->Sem Value) (r:R2):Prop:=
 ∀ (pins:List (Addr×Obj)) (s:Shared) (σ:St) (H:Hp) (x y:V) (v u:Value) (Q:VK),Inv X pins σ H s->aI x v->aI y u->r x y H Q->
  wpAny (model X.prog X.w) X.A (f v u) (EP X pins σ Q) X.xe s
noncomputable def UnR (X:Cx) (f:Value->Sem Value) (r:V->Hp->VK->Prop):Prop:=
 ∀ (pins:List (Addr×Obj)) (s:Shared) (σ:St) (H:Hp) (x:V) (v:Value) (Q:VK),Inv X pins σ H s->aI x v->r x H Q->
  wpAny (model X.prog X.w) X.A (f v) (EP X pins σ Q) X.xe s
noncomputable def cS (X:Cx) (f:Value) (r:List V->Hp->VK->Prop):Prop:=
 ∀ (pins:List (Addr×Obj)) (s:Shared) (σ:St) (H:Hp) (xs:List V) (us:List Value) (Q:VK),Inv X pins σ H s->aG xs us->r xs H Q->
  wpAny (model X.prog X.w) X.A (call f us) (EP X pins σ Q) X.xe s
noncomputable def tOp (r:R2) (ta tb:TE):TE:=fun σ H Q=>ta σ H fun x H1=>tb σ H1 fun y H2=>r x y H2 Q
noncomputable def tUn (r:V->Hp->VK->Prop) (ta:TE):TE:=fun σ H Q=>ta σ H fun x H1=>r x H1 Q
noncomputable def rI (C:Int->Int->Prop) (g:Int->Int->V):R2:=fun x y H Q=>∃ i j,x=.int i/\y=.int j/\C i j/\Q (g i j) H
noncomputable def rI0 (g:Int->Int->V):R2:=fun x y H Q=>∃ i j,x=.int i/\y=.int j/\Q (g i j) H
noncomputable def rU (g:Int->V):V->Hp->VK->Prop:=fun x H Q=>∃ i,x=.int i/\Q (g i) H
section
variable {X:Cx} {a b c:Expr} {ta tb tc:TE} {pos:Pos}
theorem Fy (ha:PE X a ta) (hb:PE X b tb) {pins:List (Addr×Obj)} {s:Shared} {σ:St} {H:Hp} {R:V->V->Hp->Prop} (I:Inv X pins σ H s)
  (h:ta σ H fun x H1=>tb σ H1 fun y H2=>R x y H2) {Q:Value->Shared->Prop} {f:Value->Value->Sem Value}
  (hf:∀ v u s2 x y H2,Inv X pins σ H2 s2->aI x v->aI y u->R x y H2->wpAny (model X.prog X.w) X.A (f v u) Q X.xe s2):
  wpAny (model X.prog X.w) X.A (eval a X.env) (fun v s₁=>wpAny (model X.prog X.w) X.A (eval b X.env) (fun u s₂=>wpAny (model X.prog X.w) X.A (f v u) Q X.xe s₂) X.xe s₁) X.xe s:=by
 refine thn (ha pins s σ H _ I h) fun v s1 ⟨x,H1,I1,r1,q1⟩=>?_
 refine thn (hb pins s1 σ H1 _ I1 q1) fun u s2 ⟨y,H2,I2,r2,q2⟩=>?_
 exact hf v u s2 x y H2 I2 r1 r2 q2
theorem aq {op:Operator} {r:R2} (ho:OpR X (N4 op) r) (ha:PE X a ta) (hb:PE X b tb):PE X (.BinOp a op b pos) (tOp r ta tb):=by
 intro pins s σ H Q I h
 exact wpAny_BinOp (Fy ha hb I h fun v u s2 x y H2 I2 rx ry q=>ho pins s2 σ H2 x y v u Q I2 rx ry q)
theorem He {op:UnaryOp} {r:V->Hp->VK->Prop} (ho:UnR X (unaryOp op) r) (ha:PE X a ta):PE X (.UnaryOp op a pos) (tUn r ta):=by
 intro pins s σ H Q I h
 exact UnaryOp_ (thn (ha pins s σ H _ I h) fun v s1 ⟨x,H1,I1,r1,q1⟩=>ho pins s1 σ H1 x v Q I1 r1 q1)
theorem opI {f:Value->Value->Sem Value} {C:Int->Int->Prop} {g:Int->Int->Int}
  (rule:∀ (i j:Int) (t u:Tok) (s:Shared) (Q:Value->Shared->Prop) (E:Value->Shared->Prop),C i j->Q (.int (g i j) s.toks) { s with toks:=s.toks + 1 }->wpAny (model X.prog X.w) X.A (f (.int i t) (.int j u)) Q E s):
  OpR X f (rI C fun i j=>.int (g i j)):=by
 intro pins s σ H x y v u Q I rx ry h
 obtain ⟨i,j,rfl,rfl,hc,q⟩:=h
 obtain ⟨t,rfl⟩:=rx
 obtain ⟨t',rfl⟩:=ry
 exact rule i j t t' s _ _ hc ⟨.int (g i j),H,I.tok _,⟨_,rfl⟩,q⟩
theorem Jt {f:Value->Value->Sem Value} {g:Int->Int->Int}
  (rule:∀ (i j:Int) (t u:Tok) (s:Shared) (Q:Value->Shared->Prop) (E:Value->Shared->Prop),Q (.int (g i j) s.toks) { s with toks:=s.toks + 1 }->wpAny (model X.prog X.w) X.A (f (.int i t) (.int j u)) Q E s):
  OpR X f (rI0 fun i j=>.int (g i j)):=by
 intro pins s σ H x y v u Q I rx ry h
 obtain ⟨i,j,rfl,rfl,q⟩:=h
 obtain ⟨t,rfl⟩:=rx
 obtain ⟨t',rfl⟩:=ry
 exact rule i j t t' s _ _ ⟨.int (g i j),H,I.tok _,⟨_,rfl⟩,q⟩
theorem Fz {f:Value->Value->Sem Value} {g:Int->Int->Bool}
  (rule:∀ (i j:Int) (t u:Tok) (s:Shared) (Q:Value->Shared->Prop) (E:Value->Shared->Prop),Q (.bool (g i j)) s->wpAny (model X.prog X.w) X.A (f (.int i t) (.int j u)) Q E s):
  OpR X f (rI0 fun i j=>.bl (g i j)):=by
 intro pins s σ H x y v u Q I rx ry h
 obtain ⟨i,j,rfl,rfl,q⟩:=h
 obtain ⟨t,rfl⟩:=rx
 obtain ⟨t',rfl⟩:=ry
 exact rule i j t t' s _ _ ⟨.bl (g i j),H,I,rfl,q⟩
noncomputable def eU (i j:Int):Prop:=0 < j/\j < 1073741824
theorem bc:OpR X (N4 .Add) (rI0 fun i j=>.int (i + j)):=Jt fun _ _ _ _ _ _ _ q=>add_int q
theorem gb:OpR X (N4 .Sub) (rI0 fun i j=>.int (i - j)):=Jt fun _ _ _ _ _ _ _ q=>sub_int q
theorem b8:OpR X (N4 .FloorDiv) (rI eU fun i j=>.int (i / j)):=opI fun i j _ _ _ _ _ hc q=>by
 have h1:(0:Int) < j:=hc.1
 have h2:j < 1073741824:=hc.2
 exact floordiv_int (by omega) (by rw [Int.fdiv_eq_ediv_of_nonneg i (by omega)]; exact q) (.inl (RC (by omega)))
theorem bn:OpR X (N4 .Mod) (rI (fun _ j=>0 < j) fun i j=>.int (i % j)):=opI fun i j _ _ _ _ _ hc q=>by
 have h1:(0:Int) < j:=hc
 exact mod_int' (by omega) (by rw [Int.fmod_eq_emod_of_nonneg i (by omega)]; exact q)
theorem unI {f:Value->Sem Value} {g:Int->Int}
  (rule:∀ (i:Int) (t:Tok) (s:Shared) (Q:Value->Shared->Prop) (E:Value->Shared->Prop),Q (.int (g i) s.toks) { s with toks:=s.toks + 1 }->wpAny (model X.prog X.w) X.A (f (.int i t)) Q E s):
  UnR X f (rU fun i=>.int (g i)):=by
 intro pins s σ H x v Q I rx h
 obtain ⟨i,rfl,q⟩:=h
 obtain ⟨t,rfl⟩:=rx
 exact rule i t s _ _ ⟨.int (g i),H,I.tok _,⟨_,rfl⟩,q⟩
theorem DN:UnR X (unaryOp .USub) (rU fun i=>.int (-i)):=unI fun _ _ _ _ _ q=>neg_int q
end
noncomputable def Ju:V->V->Bool
 | .non,.non=>true | .non,.int _=>true | .int _,.non=>true | .non,.bl _=>true | .bl _,.non=>true | .non,.str _=>true | .str _,.non=>true
 | .int _,.int _=>true | .bl _,.bl _=>true | .str _,.str _=>true | .byt _,.byt _=>true
 | .int _,.str _=>true | .str _,.int _=>true | .bl _,.str _=>true | .str _,.bl _=>true
 | _,_=>false
noncomputable def rEq:R2:=fun x y H Q=>Ju x y=true/\Q (.bl (decide (x=y))) H
noncomputable def rNe:R2:=fun x y H Q=>Ju x y=true/\Q (.bl (!decide (x=y))) H
theorem Bp {i j:Int}:decide (V.int i=V.int j)=(i == j):=by
 rw [Ou]
 simp
theorem DO {i j:Bool}:decide (V.bl i=V.bl j)=(i == j):=by
 rw [Ou]
 simp
theorem Bq {i j:Str}:decide (V.str i=V.str j)=(i == j):=by
 rw [Ou]
 simp
theorem Br {i j:Array UInt8}:decide (V.byt i=V.byt j)=(i.toList == j.toList):=by
 rw [Ou]
 cases i
 cases j
 simp
section
variable {X:Cx} {a b c:Expr} {ta tb tc:TE} {pos:Pos}
theorem bq {pins:List (Addr×Obj)} {σ:St} {H:Hp} {s:Shared} {Q:VK} {k k':Bool} (I:Inv X pins σ H s) (q:Q (.bl k) H) (e:k=k'):EP X pins σ Q (.bool k') s:=by
 subst e
 exact ⟨.bl k,H,I,rfl,q⟩
theorem cT:OpR X (M7 .Eq) rEq:=by
 intro pins s σ H x y v u Q I rx ry h
 obtain ⟨hs,q⟩:=h
 cases x with
 | non=>
  cases rx
  cases y with
  | non=>cases ry; exact PySem.EqNone.eq_none_none (bq I q (by simp))
  | bl j=>cases ry; exact PySem.EqNone.eq_none_bool (bq I q (by simp))
  | int j=>obtain ⟨t',rfl⟩:=ry; exact PySem.EqNone.eq_none_int (bq I q (by simp))
  | str j=>obtain ⟨t',rfl⟩:=ry; exact PySem.EqNone.eq_none_str (bq I q (by simp))
  | _=>exact absurd (show false=true from hs) Lq
 | bl i=>
  cases rx
  cases y with
  | non=>cases ry; exact PySem.EqNone.eq_bool_none (bq I q (by simp))
  | bl j=>cases ry; exact eq_bool (bq I q DO)
  | str j=>obtain ⟨t',rfl⟩:=ry; exact PySem.EqMixed.eq_bool_str (bq I q (by simp))
  | _=>exact absurd (show false=true from hs) Lq
 | int i=>
  obtain ⟨t,rfl⟩:=rx
  cases y with
  | non=>cases ry; exact PySem.EqNone.eq_int_none (bq I q (by simp))
  | int j=>obtain ⟨t',rfl⟩:=ry; exact eq_int (bq I q Bp)
  | str j=>obtain ⟨t',rfl⟩:=ry; exact PySem.EqMixed.eq_int_str (bq I q (by simp))
  | _=>exact absurd (show false=true from hs) Lq
 | str i=>
  obtain ⟨t,rfl⟩:=rx
  cases y with
  | non=>cases ry; exact PySem.EqNone.eq_str_none (bq I q (by simp))
  | bl j=>cases ry; exact PySem.EqMixed.eq_str_bool (bq I q (by simp))
  | int j=>obtain ⟨t',rfl⟩:=ry; exact PySem.EqMixed.eq_str_int (bq I q (by simp))
  | str j=>obtain ⟨t',rfl⟩:=ry; exact eq_str (bq I q Bq)
  | _=>exact absurd (show false=true from hs) Lq
 | byt i=>
  obtain ⟨t,rfl⟩:=rx
  cases y with
  | byt j=>obtain ⟨t',rfl⟩:=ry; exact PySem.W.eq_bytes (bq I q Br)
  | _=>exact absurd (show false=true from hs) Lq
 | _=>cases y <;> exact absurd (show false=true from hs) Lq
theorem Hf:OpR X (M7 .NotEq) rNe:=by
 intro pins s σ H x y v u Q I rx ry h
 obtain ⟨hs,q⟩:=h
 cases x with
 | non=>
  cases rx
  cases y with
  | non=>cases ry; exact PySem.EqNone.ne_none_none (bq I q (by simp))
  | bl j=>cases ry; exact PySem.EqNone.ne_none_bool (bq I q (by simp))
  | int j=>obtain ⟨t',rfl⟩:=ry; exact PySem.EqNone.ne_none_int (bq I q (by simp))
  | str j=>obtain ⟨t',rfl⟩:=ry; exact PySem.EqNone.ne_none_str (bq I q (by simp))
  | _=>exact absurd (show false=true from hs) Lq
 | bl i=>
  cases rx
  cases y with
  | non=>cases ry; exact PySem.EqNone.ne_bool_none (bq I q (by simp))
  | bl j=>cases ry; exact ne_bool (bq I q (congrArg not DO))
  | str j=>obtain ⟨t',rfl⟩:=ry; exact PySem.EqMixed.ne_bool_str (bq I q (by simp))
  | _=>exact absurd (show false=true from hs) Lq
 | int i=>
  obtain ⟨t,rfl⟩:=rx
  cases y with
  | non=>cases ry; exact PySem.EqNone.ne_int_none (bq I q (by simp))
  | int j=>obtain ⟨t',rfl⟩:=ry; exact ne_int (bq I q (congrArg not Bp))
  | str j=>obtain ⟨t',rfl⟩:=ry; exact PySem.EqMixed.ne_int_str (bq I q (by simp))
  | _=>exact absurd (show false=true from hs) Lq
 | str i=>
  obtain ⟨t,rfl⟩:=rx
  cases y with
  | non=>cases ry; exact PySem.EqNone.ne_str_none (bq I q (by simp))
  | bl j=>cases ry; exact PySem.EqMixed.ne_str_bool (bq I q (by simp))
  | int j=>obtain ⟨t',rfl⟩:=ry; exact PySem.EqMixed.ne_str_int (bq I q (by simp))
  | str j=>obtain ⟨t',rfl⟩:=ry; exact ne_str (bq I q (congrArg not Bq))
  | _=>exact absurd (show false=true from hs) Lq
 | byt i=>
  obtain ⟨t,rfl⟩:=rx
  cases y with
  | byt j=>obtain ⟨t',rfl⟩:=ry; exact PySem.W.ne_bytes (bq I q (congrArg not Br))
  | _=>exact absurd (show false=true from hs) Lq
 | _=>cases y <;> exact absurd (show false=true from hs) Lq
theorem uf:OpR X (M7 .Lt) (rI0 fun i j=>.bl (decide (i < j))):=Fz fun _ _ _ _ _ _ _ q=>lt_int q
theorem yx:OpR X (M7 .LtE) (rI0 fun i j=>.bl (decide (i<=j))):=Fz fun _ _ _ _ _ _ _ q=>le_int q
theorem jB:OpR X (M7 .Gt) (rI0 fun i j=>.bl (decide (j < i))):=Fz fun _ _ _ _ _ _ _ q=>gt_int q
theorem aO (b:Expr) {op:CmpOp} (h:op≠.In:=by decide) (h2:op≠.NotIn:=by decide):QC op b=false:=by
 have e1:(op == CmpOp.In)=false:=by cases op <;> first | rfl | exact absurd rfl h
 have e2:(op == CmpOp.NotIn)=false:=by cases op <;> first | rfl | exact absurd rfl h2
 cases b <;> simp [QC,e1,e2]
theorem jo {op:CmpOp} {r:R2} (ho:OpR X (M7 op) r) (ha:PE X a ta) (hb:PE X b tb) (hm:QC op b=false):PE X (.Compare a [op] [b] pos) (tOp r ta tb):=by
 intro pins s σ H Q I h
 exact wpAny_Compare1 (Fy ha hb I h fun v u s2 x y H2 I2 rx ry q=>ho pins s2 σ H2 x y v u Q I2 rx ry q) hm
noncomputable def aY (t:TE):TT:=fun σ H Q=>t σ H fun x H'=>∃ k,x=.bl k/\Q k H'
theorem aN {op:CmpOp} {r:R2} (ho:OpR X (M7 op) r) (ha:PE X a ta) (hb:PE X b tb) (hm:QC op b=false):PT X (.Compare a [op] [b] pos) (aY (tOp r ta tb)):=by
 intro pins s σ H Q I h
 refine wpAny_isTrue_Compare1 (thn (ha pins s σ H _ I h) fun v s1 ⟨x,H1,I1,r1,q1⟩=>thn (hb pins s1 σ H1 _ I1 q1) fun u s2 ⟨y,H2,I2,r2,q2⟩=>
  thn (ho pins s2 σ H2 x y v u _ I2 r1 r2 q2) fun c s3 ⟨z,H3,I3,r3,k,e,q3⟩=>?_) hm
 subst e
 cases r3
 exact Nt ⟨H3,I3,q3⟩
noncomputable def DP (r r':R2) (ta tb tc:TE):TE:=fun σ H Q=>ta σ H fun x H1=>tb σ H1 fun y H2=>r x y H2 fun z H3=>∃ k,z=.bl k/\
 (if k=true then tc σ H3 fun w' H4=>r' y w' H4 Q else Q (.bl false) H3)
theorem FA {op op':CmpOp} {r r':R2} (ho:OpR X (M7 op) r) (ho':OpR X (M7 op') r') (ha:PE X a ta) (hb:PE X b tb) (hc:PE X c tc)
  (hm:lastMarks [op,op'] [b,c]=false:=by with_unfolding_all rfl):PE X (.Compare a [op,op'] [b,c] pos) (DP r r' ta tb tc):=by
 intro pins s σ H Q I h
 refine Compare_chain (thn (ha pins s σ H _ I h) fun v s1 ⟨x,H1,I1,r1,q1⟩=>chain_link (thn (hb pins s1 σ H1 _ I1 q1) fun u s2 ⟨y,H2,I2,r2,q2⟩=>
  thn (ho pins s2 σ H2 x y v u _ I2 r1 r2 q2) fun d s3 ⟨z,H3,I3,r3,k,e,q3⟩=>?_)) hm
 subst e
 cases r3
 refine Nt ?_
 cases k with
 | false=>exact ite_ff ⟨.bl false,H3,I3,rfl,q3⟩
 | true=>exact ite_tt (chain_last (thn (hc pins s3 σ H3 _ I3 q3) fun w' s4 ⟨z',H4,I4,r4,q4⟩=>ho' pins s4 σ H4 y z' u w' Q I4 r2 r4 q4))
theorem ug:(Lr:Nat) < 2 ^ 63:=by rw [Ll]; decide
theorem lW {x:V} {us:List Value} (r:aG [x] us):∃ u,us=[u]/\aI x u:=by
 cases r with
 | cons r1 r2=>cases r2; exact ⟨_,rfl,r1⟩
theorem Hg {x y:V} {us:List Value} (r:aG [x,y] us):∃ u w',us=[u,w']/\aI x u/\aI y w':=by
 cases r with
 | cons r1 r2=>
  cases r2 with
  | cons r3 r4=>cases r4; exact ⟨_,_,rfl,r1,r3⟩
theorem DQ (hc:X.calm=true):cS X (.builtin "max") (fun xs H Q=>∃ i j,xs=[.int i,.int j]/\Q (.int (if j > i then j else i)) H):=by
 intro pins s σ H xs us Q I r h
 obtain ⟨i,j,rfl,q⟩:=h
 obtain ⟨u,w',rfl,⟨t,rfl⟩,⟨t',rfl⟩⟩:=Hg r
 refine max_two_ints (I.ok.hd hc) fun h' tk k=>⟨_,H,I.kept k,?_,q⟩
 by_cases hj:j > i
 ·rw [if_pos hj,if_pos hj]; exact ⟨_,rfl⟩
 ·rw [if_neg hj,if_neg hj]; exact ⟨_,rfl⟩
theorem lX (hc:X.calm=true):cS X (.builtin "min") (fun xs H Q=>∃ i j,xs=[.int i,.int j]/\Q (.int (if j < i then j else i)) H):=by
 intro pins s σ H xs us Q I r h
 obtain ⟨i,j,rfl,q⟩:=h
 obtain ⟨u,w',rfl,⟨t,rfl⟩,⟨t',rfl⟩⟩:=Hg r
 refine min_two_ints (I.ok.hd hc) fun h' tk k=>⟨_,H,I.kept k,?_,q⟩
 by_cases hj:j < i
 ·rw [if_pos hj,if_pos hj]; exact ⟨_,rfl⟩
 ·rw [if_neg hj,if_neg hj]; exact ⟨_,rfl⟩
theorem DR:cS X (.type "int") (fun xs H Q=>(∃ i,xs=[.int i]/\Q (.int i) H)\/∃ k,xs=[.bl k]/\Q (.int (if k then 1 else 0)) H):=by
 intro pins s σ H xs us Q I r h
 rcases h with ⟨i,rfl,q⟩ | ⟨k,rfl,q⟩
 ·obtain ⟨u,rfl,t,rfl⟩:=lW r
  exact call_int_int ⟨.int i,H,I,⟨_,rfl⟩,q⟩
 ·obtain ⟨u,rfl,r1⟩:=lW r
  cases r1
  exact call_int_bool ⟨.int (if k then 1 else 0),H,I.tok _,⟨_,rfl⟩,q⟩
end
end L2
namespace L2
open PySem PySem.Spec PyProof.Rows
structure sQ (h:Heap) (x dx C:Addr) (mA:Str->Option Value):Prop where
 obj:h.get? x=some (NI C dx)
 ns:h.Ns1 dx mA
 ne:dx≠x
theorem DS {h:Heap} {dx:Addr} {mA:Str->Option Value} (n:h.Ns1 dx mA):∃ od,h.get? dx=some od/\∀ name,Qf name od=some (mA name):=by
 obtain ⟨o,es,ep,ho,hd,hk,_,hm⟩:=n
 refine ⟨o,ho,fun name=>?_⟩
 have e:=hm name
 unfold nsFind findBy at e
 rw [<-Array.find?_toList] at e
 unfold Qf
 rw [hd]
 dsimp only
 split
 ·rename_i y q
  rw [q] at e
  exact congrArg some e
 ·rename_i q
  rw [q] at e
  have a:es.toList.any (·.refKey)=false:=by
   rw [List.any_eq_false]
   intro y hy
   obtain ⟨z,t,hkey⟩:=hk y (Array.mem_toList_iff.mp hy)
   simp [SJ.refKey,hkey]
  have a':¬ es.toList.any (·.refKey)=true:=by rw [a]; exact Lq
  rw [if_neg a']
  exact congrArg some e
theorem sQ.look {h:Heap} {x dx C:Addr} {mA:Str->Option Value} (I:sQ h x dx C mA):∃ od,PySem.W.InstAt h x (NI C dx) C (some od)/\∀ name,Qf name od=some (mA name):=
 let ⟨od,ho,hl⟩:=DS I.ns
 ⟨od,⟨I.obj,rfl,rfl,ho⟩,hl⟩
section
variable {prog:Program} {w:World} {A:Around} {E:Value->Shared->Prop} {s:Shared} {K:Fg} {x dx C f:Addr} {mA:Str->Option Value} {name:Str} {v:Value}
theorem HL {expr:Bool} {Q:Value->Shared->Prop} (X:K.In s.heap) (I:sQ s.heap x dx C mA) (hg:Px K C name=true) (hh:QO K C=true)
  (ha:Nn K (.ref C) name=some none) (hv:mA name=some v) (hv':TB v=true) (h:Q v { s with toks:=s.toks + 1 }):
  wpAny (model prog w) A (getAttr (.ref x) name expr) Q E s:=by
 obtain ⟨od,J,hl⟩:=I.look
 exact PySem.W.get_value X J (Qa hg).1 (PySem.W.findObj_own hh ha rfl (by rw [hl,hv])) hv' h
theorem FB {pl:Sem Bool} {Q:Value×List Value->Shared->Prop} (X:K.In s.heap) (I:sQ s.heap x dx C mA) (hg:Px K C name=true)
  (hf:Nn K (.ref C) name=some (some (.ref f))) (ht:SK K (.ref f)=true) (hv:mA name=none) (h:Q (.ref f,[.ref x]) s):
  wpAny (model prog w) A (Qq (.ref x) name pl) Q E s:=by
 obtain ⟨od,J,hl⟩:=I.look
 exact PySem.W.method_fn X J (Qa hg).1 (Qa hg).2 hf (beq_iff_eq.mp ht) (by show (Qf name od).map (·.isSome)=some false; rw [hl,hv]; rfl) h
theorem HM {ns:List Str} {Q:Unit->Shared->Prop} (X:K.In s.heap) (I:sQ s.heap x dx C mA)
  (hs:Nn K (.ref C) "__setattr__"=some (some (.builtin "object.__setattr__"))) (hp:S0 K C=true) (ht:Rn K C name=some none) (hh:QO K C=true)
  (hw:Q2 mA ns) (hsz:ns.length<=Lr)
  (h:∀ h',sQ h' x dx C (fun y=>if y=name then some v else mA y)->LC dx s.heap h'->Q () { s with heap:=h',toks:=s.toks + 2 }):
  wpAny (model prog w) A (setAttr (.ref x) name v) Q E s:=by
 obtain ⟨od,J,hl⟩:=I.look
 refine PySem.W.set_plain X J hs (PySem.W.osa_open (s:={ s with toks:=s.toks + 1 }) (r:=none) X J hp ht fun b=>?_)
 obtain ⟨cd,hc,hd'⟩:=PySem.W.any_some hh
 have hx:s.heap.get? x=some ⟨.ref C,some dx,.plain,#[]⟩:=I.obj
 refine La (Lc (La (La (wpAny_loadPart hx (La (PySem.W.Looks.here (s:={ s with toks:=s.toks + 1 }) (PySem.W.looks_clsIn X hc) ?_))))))
 rw [hd']
 refine Lc (a:=some dx) (La (Lc (La ?_)))
 refine wpAny_nsSet1 (s:={ s with toks:=s.toks + 1 }) I.ns fun h' hn2 hs2=>?_
 obtain ⟨oD,esD,epD,hoD,hdD,hcD⟩:=hn2.count (Q2.cons name v hw)
 refine La (wpAny_lookBehind hoD (by rw [hdD]; exact pastItsLine_dict (LS hcD (by rw [LP]; omega))) ?_)
 exact Lc (h _ ⟨(hs2.2 _ (MU I.ne)).trans I.obj,hn2,I.ne⟩ hs2)
theorem FC {R:Result->Shared->Prop} {vs:List Value} {kw:List (Str×Value)} (X:K.In s.heap) (hm:T7 K C=true)
  (hi:Nn K (.ref C) "__init__"=some (some (.ref f))) (hf:PySem.W.typeIn K (.ref f)=some (.type "function"))
  (h:codeAny (model prog w) (A.under (.builtin "type.__call__" ⟨.ref C :: vs,kw⟩)) (.call (.ref f) ⟨.ref (s.heap.objs.size + 1) :: vs,kw⟩) (PySem.W.InitBack (s.heap.objs.size + 1) R)
   { s with heap:=(s.heap.push M8).push (NI C s.heap.objs.size) }):
  codeAny (model prog w) A (.call (.ref C) ⟨vs,kw⟩) R s:=by
 obtain ⟨hh,g,d,t,os⟩:=s
 exact PySem.W.make_core (PySem.W.makes_of X hm) (PySem.W.looks_findIn X hi) (fun self=>PySem.W.bind_fn X self hf) (.inl rfl) h
end
noncomputable def gc (f:Str) (v:V):List (Str×V)->List (Str×V)
 | []=>[(f,v)]
 | (g,x) :: r=>if g=f then (g,v) :: r else (g,x) :: gc f v r
theorem rX (f g:Str) (v:V):∀ fs:List (Str×V),(gc f v fs).lookup g=if g=f then some v else fs.lookup g
 | []=>by
  show OB g [(f,v)]=_
  by_cases h:g=f
  ·have hb:(g == f)=true:=beq_iff_eq.mpr h
   simp only [OB,hb,if_pos h]
  ·have hb:(g == f)=false:=beq_eq_false_iff_ne.mpr h
   simp only [OB,hb,if_neg h]
 | (k,x) :: r=>by
  have ih:=rX f g v r
  rw [show gc f v ((k,x) :: r)=(if k=f then (k,v) :: r else (k,x) :: gc f v r) from rfl]
  by_cases hk:k=f
  ·rw [if_pos hk]
   by_cases h:g=k
   ·have hb:(g == k)=true:=beq_iff_eq.mpr h
    simp only [OB,hb,if_pos (h.trans hk)]
   ·have hb:(g == k)=false:=beq_eq_false_iff_ne.mpr h
    simp only [OB,hb,if_neg (fun e:g=f=>h (e.trans hk.symm))]
  ·rw [if_neg hk]
   by_cases h:g=k
   ·have hb:(g == k)=true:=beq_iff_eq.mpr h
    simp only [OB,hb,if_neg (fun e:g=f=>hk (h.symm.trans e))]
   ·have hb:(g == k)=false:=beq_eq_false_iff_ne.mpr h
    simp only [OB,hb]
    exact ih
theorem pY (f:Str) (v:V):∀ fs:List (Str×V),f∈(gc f v fs).map (·.1)/\∀ g,g∈fs.map (·.1)->g∈(gc f v fs).map (·.1)
 | []=>⟨by simp [gc],fun g h=>by simp at h⟩
 | (k,x) :: r=>by
  obtain ⟨i1,i2⟩:=pY f v r
  rw [show gc f v ((k,x) :: r)=(if k=f then (k,v) :: r else (k,x) :: gc f v r) from rfl]
  by_cases hk:k=f
  ·rw [if_pos hk]
   subst hk
   exact ⟨by simp,fun g h=>by simpa using h⟩
  ·rw [if_neg hk]
   refine ⟨?_,fun g h=>?_⟩
   ·rw [LA]
    exact Ln _ i1
   ·rw [LA] at h ⊢
    rcases Lh.mp h with e | e
    ·exact Lh.mpr (.inl e)
    ·exact Ln _ (i2 g e)
theorem rY (f:Str) (v:V):∀ fs:List (Str×V),(gc f v fs).length<=fs.length + 1
 | []=>by simp [gc]
 | (k,x) :: r=>by
  have ih:=rY f v r
  rw [show gc f v ((k,x) :: r)=(if k=f then (k,v) :: r else (k,x) :: gc f v r) from rfl]
  by_cases hk:k=f
  ·rw [if_pos hk,LP,LP]; omega
  ·rw [if_neg hk,LP,LP]; omega
theorem gN.some_of {v:V} {o:Option Value} (r:gN (some v) o):∃ u,o=some u/\aI v u:=by
 cases o with
 | none=>exact (show False from r).elim
 | some u=>exact ⟨u,rfl,r⟩
theorem gN.none_of {o:Option Value} (r:gN none o):o=none:=by
 cases o with
 | none=>rfl
 | some u=>exact (show False from r).elim
theorem DT {v:V} {u:Value} (r:aI v u):TB u=true:=by
 cases v with
 | non=>cases (show u=MB from r); rfl
 | bl b=>cases (show u=Mo b from r); rfl
 | int i=>obtain ⟨t,e⟩:=(show ∃ t,u=Of i t from r); cases e; rfl
 | str x=>obtain ⟨t,e⟩:=(show ∃ t,u=Rm x t from r); cases e; rfl
 | byt b=>obtain ⟨t,e⟩:=(show ∃ t,u=Value.bytes b t from r); cases e; rfl
 | flt b=>obtain ⟨t,e⟩:=(show ∃ t,u=Tp b t from r); cases e; rfl
 | ref a=>cases (show u=LL a from r); rfl
 | ty n=>cases (show u=MC n from r); rfl
section
variable {P:Program} {w:World} {H H':Hp} {h h':Heap} {a C dx:Addr} {fs fs':List (Str×V)}
theorem qV (hok:HOk P w H h) (e:H a=some (.ins C dx fs)):∃ mA,sQ h a dx C mA/\(∀ f,gN (fs.lookup f) (mA f))/\Q2 mA (fs.map (·.1))/\fs.length<=1000/\H dx=some (.own a):=by
 obtain ⟨d,z,ne,ob,mA,n,r,q⟩:=(show bD P w H h a (.ins C dx fs) from hok a _ e)
 exact ⟨mA,⟨ob,n,ne⟩,r,q,z,d⟩
end
structure Cls (K:Fg) (C:Addr):Prop where
 pg:Px K C Ut=true
 hd:QO K C=true
 po:S0 K C=true
 sa:Nn K (.ref C) "__setattr__"=some (some (.builtin "object.__setattr__"))
theorem Cls.get {K:Fg} {C:Addr} (c:Cls K C) (f:Str):Px K C f=true:=c.pg
noncomputable def d3 (K:Fg) (C:Addr) (f:Str):Prop:=Nn K (.ref C) f=some none
theorem d3.taker {K:Fg} {C:Addr} {f:Str} (n:d3 K C f):Rn K C f=some none:=by
 unfold Rn
 rw [show Nn K (.ref C) f=some none from n]
 rfl
structure y6 (K:Fg) (C:Addr) (m:Str) (f:Addr):Prop where
 at_:Nn K (.ref C) m=some (some (.ref f))
 fn:SK K (.ref f)=true
 kp:OI K (.ref f)=true
section
variable {X:Cx} {pins:List (Addr×Obj)} {σ:St} {H:Hp} {s:Shared} {a C dx:Addr} {fs:List (Str×V)} {f:Str} {v:V} {A:Around} {E:Value->Shared->Prop}
theorem BZ {b:Bool} {Q:Value->Shared->Prop} (I:Inv X pins σ H s) (e:H a=some (.ins C dx fs)) (c:Cls X.K C) (n:d3 X.K C f) (l:fs.lookup f=some v)
  (h:∀ u s',Inv X pins σ H s'->aI v u->Q u s'):wpAny (model X.prog X.w) A (getAttr (.ref a) f b) Q E s:=by
 obtain ⟨mA,O,r,_,_,_⟩:=qV I.hok e
 obtain ⟨u,hu,ru⟩:=gN.some_of (v:=v) (o:=mA f) (by rw [<-l]; exact r f)
 exact HL I.kIn O (c.get f) c.hd n hu (DT ru) (h u _ (I.tok _) ru)
theorem uh {m:Str} {g:Addr} {pl:Sem Bool} {Q:Value×List Value->Shared->Prop} (I:Inv X pins σ H s) (e:H a=some (.ins C dx fs)) (c:Cls X.K C) (k:y6 X.K C m g) (l:fs.lookup m=none)
  (h:Q (.ref g,[.ref a]) s):wpAny (model X.prog X.w) A (Qq (.ref a) m pl) Q E s:=by
 obtain ⟨mA,O,r,_,_,_⟩:=qV I.hok e
 have hn:mA m=none:=gN.none_of (by rw [<-l]; exact r m)
 exact FB I.kIn O (c.get m) k.at_ k.fn hn h
theorem B5 {y:V} {u:Value} {Q:Unit->Shared->Prop} (I:Inv X pins σ H s) (e:H a=some (.ins C dx fs)) (c:Cls X.K C) (n:d3 X.K C f) (hl:fs.length < 1000) (ry:aI y u)
  (h:∀ s',Inv X pins σ (upd H a (.ins C dx (gc f y fs))) s'->Q () s'):wpAny (model X.prog X.w) A (setAttr (.ref a) f u) Q E s:=by
 obtain ⟨mA,O,r,wi,_,ho⟩:=qV I.hok e
 have hz:(fs.map (·.1)).length<=Lr:=by rw [Lf,Ll]; omega
 refine HM I.kIn O c.sa c.po n.taker c.hd wi hz fun h' O' sb=>h _ ?_
 have hd:∃ o,h'.get? dx=some o:=let ⟨o,_,_,e',_⟩:=O'.ns; ⟨o,e'⟩
 refine I.write (x:=a) (e:=dx) (by rw [e]; exact NV) (.inr ho) (fun b q hb z=>(sb.2 b hb).trans z) hd ?_
 refine ⟨by rw [aP O.ne]; exact ho,?_,O.ne,O'.obj,_,O'.ns,fun g=>?_,fun g hg=>?_⟩
 ·have:=rY f y fs; omega
 ·show gN ((gc f y fs).lookup g) (if g=f then some u else mA g)
  rw [rX]
  by_cases q:g=f
  ·rw [if_pos q,if_pos q]; exact ry
  ·rw [if_neg q,if_neg q]; exact r g
 ·by_cases q:g=f
  ·rw [q]; exact (pY f y fs).1
  ·refine (pY f y fs).2 g (wi g fun z=>hg ?_)
   show (if g=f then some u else mA g)=none
   rw [if_neg q]; exact z
theorem Inv.made (I:Inv X pins σ H s):Inv X pins σ (upd (upd H s.heap.objs.size (.own (s.heap.objs.size + 1))) (s.heap.objs.size + 1) (.ins C s.heap.objs.size []))
  { s with heap:=(s.heap.push M8).push (NI C s.heap.objs.size) }:=by
 have e1:(s.heap.push M8).get? s.heap.objs.size=some M8:=Lk s.heap rfl
 have e2:((s.heap.push M8).push (NI C s.heap.objs.size)).get? (s.heap.objs.size + 1)=some (NI C s.heap.objs.size):=by
  have:=Lk (s.heap.push M8) (o:=NI C s.heap.objs.size) rfl
  rwa [Ma] at this
 have e3:(s.heap.push M8).Ns s.heap.objs.size (fun _=>none):=⟨M8,#[],_,e1,rfl,(fun e he=>absurd he (by simp)),fun _=>rfl⟩
 have I1:=I.laid (a:=s.heap.objs.size) (o:=.own (s.heap.objs.size + 1)) (h':=s.heap.push M8) (t':=s.toks) (fun b u q=>Lb _ q) (Le _) ⟨_,e1⟩
 refine I1.laid (a:=s.heap.objs.size + 1) (o:=.ins C s.heap.objs.size []) (t':=s.toks) (fun b u q=>Lb _ q) (PN (Ma _ _)) ?_
 have ne:s.heap.objs.size≠s.heap.objs.size + 1:=LR (MS _)
 refine ⟨by rw [aP ne,ay],Me _,ne,e2,fun _=>none,(Heap.Ns1.of_empty e3).at fun o q=>Lb _ q,fun _=>NV,fun y hy=>absurd rfl hy⟩
theorem HP {prog:Program} {w:World} {env:Env} {e:Expr} {f:Str} {pos:Pos} {s:Shared} {Q:Value->Shared->Prop} (hb:OQ e f env (eval e env)=eval e env)
  (h:wpAny (model prog w) A (eval e env) (fun o s₁=>wpAny (model prog w) A (getAttr o f true) Q E s₁) E s):wpAny (model prog w) A (eval (.Attribute e f pos) env) Q E s:=
 Attribute_any_ h (by rw [arm_eval_Attribute,hb])
end
noncomputable def du (K:Fg) (ta:TE) (f:Str):TE:=fun σ H Q=>ta σ H fun x H1=>∃ a C dx fs v,x=.ref a/\H1 a=some (.ins C dx fs)/\Cls K C/\d3 K C f/\fs.lookup f=some v/\Q v H1
noncomputable def mM (K:Fg) (ta tv:TE) (f:Str):TS:=fun D σ H=>tv σ H fun y H1=>ta σ H1 fun x H2=>∃ a C dx fs,x=.ref a/\H2 a=some (.ins C dx fs)/\Cls K C/\d3 K C f/\fs.length < 1000/\
 D.nx σ (upd H2 a (.ins C dx (gc f y fs)))
section
variable {X:Cx} {o e value:Expr} {f:Str} {pos pos' tpos:Pos} {ta tv:TE}
theorem bW (he:PE X e ta) (hb:OQ e f X.env (eval e X.env)=eval e X.env):PE X (.Attribute e f pos) (du X.K ta f):=by
 intro pins s σ H Q I h
 refine HP hb (thn (he pins s σ H _ I h) fun u s1 ⟨x,H1,I1,rx,a,C,dx,fs,v,ex,ea,c,n,l,q⟩=>?_)
 subst ex
 obtain rfl:u=LL a:=rx
 exact BZ I1 ea c n l fun u' s2 I2 ru=>⟨v,H1,I2,ru,q⟩
theorem jU (ha:PE X o ta) (hv:PE X value tv) (hs:SG value (some (.Attribute o f pos')) pos.line X.env=pure false):PS X (.Assign [.Attribute o f pos'] value pos) (mM X.K ta tv f):=by
 intro pins s σ H D I h
 refine plainObj_wpAny_Assign_Attribute (thn (hv pins s σ H _ I h) fun u s1 ⟨y,H1,I1,ry,q⟩=>thn (ha pins s1 σ H1 _ I1 q) fun ov s2 ⟨x,H2,I2,rx,a,C,dx,fs,ex,ea,c,n,l,q2⟩=>?_) hs
 subst ex
 obtain rfl:ov=LL a:=rx
 exact B5 I2 ea c n l ry fun s3 I3=>⟨σ,_,I3,q2⟩
end
section
variable {X:Cx} {pins:List (Addr×Obj)} {σ:St} {H:Hp} {s:Shared} {A:Around} {E:Value->Shared->Prop} {Q:Value->Shared->Prop} {c:Value} {b:Bool}
inductive fi (K:Fg) (H:Hp):V->Value->Prop where
 | non:fi K H .non (.type "NoneType")
 | bl (x:Bool):fi K H (.bl x) (.type "bool")
 | int (i:Int):fi K H (.int i) (.type "int")
 | str (x:Str):fi K H (.str x) (.type "str")
 | flt (x:UInt64):fi K H (.flt x) (.type "float")
 | lst {a:Addr} {xs:List V} (e:H a=some (.lst xs)):fi K H (.ref a) (.type "list")
 | frz {a:Addr} {o:Obj} {xs:List V} (e:H a=some (.frz o (.lst xs))):fi K H (.ref a) (.type "list")
 | tup {a:Addr} {xs:List V} (e:H a=some (.tup xs)):fi K H (.ref a) (.type "tuple")
 | dK {a:Addr} {kvs:List (Key×V)} (e:H a=some (.dK kvs)):fi K H (.ref a) (.type "dict")
 | dT {a:Addr} {kvs:List (List Key×V)} (e:H a=some (.dT kvs)):fi K H (.ref a) (.type "dict")
 | ins {a C dx:Addr} {fs:List (Str×V)} (e:H a=some (.ins C dx fs)) (cl:Cls K C) (ha:Nn K (.ref C) "__class__"=some (some (.builtin "object.__class__")))
   (hn:PySem.W.specialIn K (.builtin "object.__class__") "__get__"=some (some (.builtin "getset_descriptor.__get__"))) (htk:PySem.W.takesIn K (.builtin "object.__class__")=some true)
   (hm:PySem.W.mroIn K C (.type "object")=some true):fi K H (.ref a) (.ref C)
theorem DU {x:V} {u t:Value} (I:Inv X pins σ H s) (rx:aI x u) (ty:fi X.K H x t) (e:Mg X.K t c=some b) (h:∀ tk,Q (.bool b) { s with toks:=tk }):
  wpAny (model X.prog X.w) A (call (.builtin "isinstance") [u,c]) Q E s:=by
 cases ty with
 | non=>cases (show u=MB from rx); exact MZ PySem.W.kitx_none I.kIn NV e (fun z=>nomatch z) h
 | bl y=>cases (show u=Mo y from rx); exact MZ PySem.W.kitx_bool I.kIn NV e (fun z=>nomatch z) h
 | int i=>obtain ⟨t,q⟩:=(show ∃ t,u=Of i t from rx); cases q; exact MZ PySem.W.kitx_int I.kIn NV e (fun z=>nomatch z) h
 | str y=>obtain ⟨t,q⟩:=(show ∃ t,u=Rm y t from rx); cases q; exact MZ PySem.W.kitx_str I.kIn NV e (fun z=>nomatch z) h
 | flt y=>obtain ⟨t,q⟩:=(show ∃ t,u=Tp y t from rx); cases q; exact MZ PySem.W.kitx_float I.kIn NV e (fun z=>nomatch z) h
 | @lst a xs ea=>
  cases (show u=LL a from rx)
  obtain ⟨_,_,n,_,h1⟩:=(show bD X.prog X.w H s.heap a (.lst xs) from I.hok a _ ea)
  exact MZ S3 I.kIn ⟨_,h1,rfl⟩ e (fun z=>nomatch z) h
 | @frz a ob xs ea=>
  cases (show u=LL a from rx)
  obtain ⟨_,_,_,n,_,h1⟩:=(show bD X.prog X.w H s.heap a (.frz ob (.lst xs)) from I.hok a _ ea)
  exact MZ S3 I.kIn ⟨_,h1,rfl⟩ e (fun z=>nomatch z) h
 | @tup a xs ea=>
  cases (show u=LL a from rx)
  obtain ⟨_,_,_,p⟩:=(show bD X.prog X.w H s.heap a (.tup xs) from I.hok a _ ea)
  obtain ⟨o,h1,h2,_⟩:=p
  exact MZ PySem.W.kitx_tuple I.kIn ⟨o,h1,h2⟩ e (fun z=>nomatch z) h
 | @dK a kvs ea=>
  cases (show u=LL a from rx)
  obtain ⟨_,_,vs,_,p⟩:=(show bD X.prog X.w H s.heap a (.dK kvs) from I.hok a _ ea)
  obtain ⟨o,es,ep,h1,h2,_⟩:=p
  exact MZ S5 I.kIn ⟨o,h1,h2.1⟩ e (fun z=>nomatch z) h
 | @dT a kvs ea=>
  cases (show u=LL a from rx)
  obtain ⟨_,_,xs,_,o,es,ep,h1,h2,_⟩:=(show bD X.prog X.w H s.heap a (.dT kvs) from I.hok a _ ea)
  exact MZ S5 I.kIn ⟨o,h1,h2.1⟩ e (fun z=>nomatch z) h
 | @ins a C dx fs ea cl ha hn htk hm=>
  cases (show u=LL a from rx)
  obtain ⟨mA,O,_⟩:=qV I.hok ea
  obtain ⟨od,J,_⟩:=O.look
  exact MZ (PySem.W.kitx_own (cl.get _) cl.hd ha hn htk hm) I.kIn J e (fun z=>nomatch z) h
end
end L2
namespace L2
open PySem PySem.Spec PyProof.Rows
structure bQ (k:Nat) (A:Around):Prop where
 hd:A.handled=none
 dp:A.depth + 3 * k + 5 < recursionLimit
 un:A.units + 16 * k + 200 < cLine
theorem bQ.mono {j k:Nat} {A:Around} (r:bQ k A) (h:j<=k):bQ j A:=⟨r.hd,by have:=r.dp; omega,by have:=r.un; omega⟩
theorem bQ.deeper {k:Nat} {A:Around} (r:bQ (k + 1) A) (env:Env):bQ k (A.deeper env):=
 ⟨r.hd,by have:=r.dp; show A.depth + 1 + 3 * k + 5 < _; omega,by have:=r.un; show A.units + 3 + 16 * k + 200 < _; omega⟩
theorem B6 {A:Around} {C:Addr} {us:List Value} {kw:List (Str×Value)}:(A.under (.builtin "type.__call__" ⟨.ref C :: us,kw⟩)).depth=A.depth + 1:=by
 first | rfl | simp [SL,Code.weight,Code.isCreation,Code.isGuard,Code.isCaller,Code.frames,SM,guardIds]
theorem B7 {A:Around} {C:Addr} {us:List Value} {kw:List (Str×Value)}:(A.under (.builtin "type.__call__" ⟨.ref C :: us,kw⟩)).units=A.units + 1:=by
 first | rfl | simp [SL,Code.cUnits,Code.frames,SM]
theorem bQ.make {k:Nat} {A:Around} (r:bQ (k + 1) A) (C:Addr) (us:List Value) (kw:List (Str×Value)):bQ k (A.under (.builtin "type.__call__" ⟨.ref C :: us,kw⟩)):=
 ⟨r.hd,by have:=r.dp; rw [B6]; omega,by have:=r.un; rw [B7]; omega⟩
theorem bQ.depth {k:Nat} {A:Around} (r:bQ k A):A.depth < recursionLimit:=by have:=r.dp; omega
theorem bQ.units0 {k:Nat} {A:Around} (r:bQ k A):A.units < cLine:=by have:=r.un; omega
noncomputable def af:TA:=fun _ H Q=>Q [] H
noncomputable def aa (ta:TE) (tr:TA):TA:=fun σ H Q=>ta σ H fun x H1=>tr σ H1 fun xs H2=>Q (x :: xs) H2
section
variable {X:Cx} {e:Expr} {es:List Expr} {te:TE} {t:TA} {pos:Pos}
theorem ae:PA X [] af:=fun _ _ _ _ H Q I h=>QP ⟨[],H,I,.nil,h⟩
theorem gr (ha:PE X e te) (hr:PA X es t) (hs:LD (e :: es) X.env=(false,eval e X.env) :: LD es X.env:=by rfl):PA X (e :: es) (aa te t):=by
 intro pos pins s σ H Q I h
 rw [hs]
 show wpAny _ _ (spliced ((false,eval e X.env) :: backTo pos (LD es X.env))) _ _ s
 refine Qr (thn (ha pins s σ H _ I h) fun u s1 ⟨x,H1,I1,r1,q1⟩=>?_)
 exact thn (hr pos pins s1 σ H1 _ I1 q1) fun us s2 ⟨xs,H2,I2,r2,q2⟩=>⟨x :: xs,H2,I2,.cons r1 r2,q2⟩
noncomputable def FD (t:TA):TE:=fun σ H Q=>t σ H fun xs H1=>xs.length<=Lr/\∀ p,H1 p=none->Q (.ref p) (upd H1 p (.tup xs))
noncomputable def B8 (t:TA):TE:=fun σ H Q=>t σ H fun xs H1=>xs.length<=Lr/\∀ p,H1 p=none->Q (.ref p) (upd H1 p (.lst xs))
theorem DV {x1} (h:PA X es t):PE X (.Tuple es x1 pos) (FD t):=by
 intro pins s σ H Q I hq
 refine Sw (thn (h pos pins s σ H _ I hq) fun us s1 ⟨xs,H1,I1,r,z,q⟩=>⟨by rw [<-r.length]; exact z,?_⟩)
 have hf:H1 s1.heap.objs.size=none:=I1.hok.fresh (Le _)
 refine ⟨.ref s1.heap.objs.size,upd H1 s1.heap.objs.size (.tup xs),I1.laid (t':=s1.toks) (fun b u e=>Lb _ e) (Le _) ?_,rfl,q _ hf⟩
 exact ⟨z,us,r,eR.new _ _⟩
theorem y7 (h:PA X es t):PE X (.List es pos) (B8 t):=by
 intro pins s σ H Q I hq
 refine SN (thn (h pos pins s σ H _ I hq) fun us s1 ⟨xs,H1,I1,r,z,q⟩=>⟨by rw [<-r.length]; exact z,?_⟩)
 have hf:H1 s1.heap.objs.size=none:=I1.hok.fresh (Le _)
 refine ⟨.ref s1.heap.objs.size,upd H1 s1.heap.objs.size (.lst xs),I1.laid (t':=s1.toks) (fun b u e=>Lb _ e) (Le _) ?_,rfl,q _ hf⟩
 exact ⟨z,us,0,r,Lk _ rfl⟩
end
noncomputable abbrev Sp:=List V->Hp->VK->XK->Prop
noncomputable abbrev CXT:=List Env->Hp->Shared->XK->Value->Shared->Prop
structure sR (P:Program) (w:World) (K:Fg) (mg:Str->Option Value) (base:Heap) (A:Around) (outer:List Env) (s:Shared) (H:Hp):Prop where
 frames:A.frames=some outer
 mod:Mod K mg base
 bs:∀ b o,base.get? b=some o->s.heap.get? b=some o/\H b=none
 bsz:base.objs.size<=s.heap.objs.size
 funs:s.heap.FunFrames base outer
 frf:∀ b∈frs outer,H b=none
 hok:HOk P w H s.heap
 bare:AllBare s.gens
noncomputable def CE (outer:List Env) (P:Program) (w:World) (H:Hp) (s:Shared) (Q:VK) (u:Value) (s':Shared):Prop:=
 ∃ v H',s'.os=s.os/\AllBare s'.gens/\Un (frs outer) [] H H' s.heap s'.heap/\HOk P w H' s'.heap/\aI v u/\Q v H'
noncomputable def CR (CX:CXT) (outer:List Env) (P:Program) (w:World) (H:Hp) (s:Shared) (Q:VK) (E:XK) (r:Result) (s':Shared):Prop:=
 match r with
 | .ok (.ret u)=>CE outer P w H s Q u s'
 | .ok _=>False
 | .error e=>CX outer H s E e s'
structure gO (P:Program) (w:World) (K:Fg) (mg:Str->Option Value) (base:Heap) (CX:CXT) (k:Nat) (f:Addr) (fd:LB) (ps:List Str) (sp:Sp):Prop where
 len:∀ vs H Q E,sp vs H Q E->vs.length=ps.length
 run:∀ (A:Around) (outer:List Env) (s:Shared) (H:Hp) (args:Args) (us:List Value) (vs:List V) (Q:VK) (E:XK),bQ k A->sR P w K mg base A outer s H->BindsTo s fd args (ps.zip us)->aG vs us->sp vs H Q E->
  codeAny (model P w) A (.call (.ref f) args) (CR CX outer P w H s Q E) s
theorem sR.make {P:Program} {w:World} {K:Fg} {mg:Str->Option Value} {base:Heap} {A:Around} {outer:List Env} {s:Shared} {H:Hp} (e:sR P w K mg base A outer s H) (C:Addr) (us:List Value) (kw:List (Str×Value)):
  sR P w K mg base (A.under (.builtin "type.__call__" ⟨.ref C :: us,kw⟩)) outer s H:=⟨by first | exact e.frames | (simpa [SL,Code.envs,SM,pushEnvs] using e.frames),e.mod,e.bs,e.bsz,e.funs,e.frf,e.hok,e.bare⟩
section
variable {X:Cx} {pins:List (Addr×Obj)} {σ:St} {H:Hp} {s s':Shared}
theorem Inv.env0 (I:Inv X pins σ H s):sR X.prog X.w X.K X.mg X.base X.A X.stack s H:=
 ⟨I.ok.frames,I.ok.mod,I.bs,LS I.ok.bsz I.sz,I.stack,I.stkFree,I.hok,I.bare⟩
theorem Inv.after {Q:VK} {u:Value} (I:Inv X pins σ H s) (h:CE X.stack X.prog X.w H s Q u s'):EP X pins σ Q u s':=by
 obtain ⟨v,H',os,bare,un,hok,r,q⟩:=h
 obtain ⟨hh,g,d,t,os'⟩:=s'
 obtain rfl:os'=s.os:=os
 exact ⟨v,H',I.call (h':=hh) (g':=g) (d':=d) (t':=t) (ch:=[]) un hok bare (fun b z=>absurd z (by simp)),r,q⟩
end
noncomputable def au (sp:Sp) (dvs:List V) (E:XK) (t:TA):TE:=fun σ H Q=>t σ H fun vs H1=>sp (vs++dvs) H1 Q E
noncomputable def fj (C:Addr) (m:Str) (sp:Sp) (dvs:List V) (E:XK) (ta:TE) (t:TA):TE:=fun σ H Q=>ta σ H fun x H1=>∃ a dx fs,x=.ref a/\H1 a=some (.ins C dx fs)/\fs.lookup m=none/\
 t σ H1 fun vs H2=>sp (x :: (vs++dvs)) H2 Q E
noncomputable def ui (C:Addr) (sp:Sp) (dvs:List V) (E:XK) (t:TA):TE:=fun σ H Q=>t σ H fun vs H1=>∀ x dx,H1 x=none->H1 dx=none->dx≠x->
 sp (.ref x :: (vs++dvs)) (upd (upd H1 dx (.own x)) x (.ins C dx [])) (fun v H2=>v=.non/\Q (.ref x) H2) E
noncomputable def fk (K:Fg) (fd:LB) (ps:List Str) (ds:List Value):Prop:=
 ∀ (s:Shared) (us:List Value),K.In s.heap->(us++ds).length=ps.length->BindsTo s fd ⟨us,[]⟩ (ps.zip (us++ds))
theorem fk.all {K:Fg} {fd:LB} {ps:List Str} (h:∀ us:List Value,us.length=ps.length->bindArgs fd ⟨us,[]⟩=pure (ps.zip us)):fk K fd ps []:=fun s us _ hl=>by
 rw [NK] at hl ⊢
 exact .of_eq (h us hl)
noncomputable def k9 (CX:CXT) (X:Cx) (E:XK):Prop:=∀ (pins:List (Addr×Obj)) (σ:St) (H:Hp) (s:Shared) (e:Value) (s':Shared),Inv X pins σ H s->CX X.stack H s E e s'->X.xe e s'
section
variable {X:Cx} {CX:CXT} {k:Nat} {f C:Addr} {fd:LB} {ps:List Str} {sp:Sp} {dvs:List V} {ds:List Value} {E:XK} {x m:Str} {p pos apos:Pos} {e o:Expr} {es:List Expr} {ta:TE} {t:TA}
theorem y8 {pins:List (Addr×Obj)} {σ:St} {H:Hp} {s:Shared} {Q:VK} {us:List Value} {vs:List V} (F:gO X.prog X.w X.K X.mg X.base CX k f fd ps sp) (hr:bQ k X.A) (hb:fk X.K fd ps ds) (hd:aG dvs ds) (hx:k9 CX X E)
  (I:Inv X pins σ H s) (r:aG vs us) (h:sp (vs++dvs) H Q E):wpAny (model X.prog X.w) X.A (call (.ref f) us) (EP X pins σ Q) X.xe s:=by
 have r2:aG (vs++dvs) (us++ds):=r.append hd
 have hl:(us++ds).length=ps.length:=by rw [<-r2.length]; exact F.len _ _ _ _ h
 refine T8 (Oj (F.run X.A X.stack s H ⟨us,[]⟩ (us++ds) (vs++dvs) Q E hr I.env0 (hb s us I.kIn hl) r2 h) fun r s' hq=>?_)
 cases r with
 | error e=>exact hx pins σ H s e s' I hq
 | ok fl=>
  cases fl with
  | ret u=>exact I.after hq
  | next=>exact NB hq
  | brk=>exact NB hq
  | cont=>exact NB hq
theorem HQ (F:gO X.prog X.w X.K X.mg X.base CX k f fd ps sp) (hr:bQ k X.A) (hg:Gl X x) (hm:X.mg x=some (.ref f)) (hk:OI X.K (.ref f)=true) (hb:fk X.K fd ps ds) (hd:aG dvs ds) (hx:k9 CX X E)
  (ha:PA X (e :: es) t) (hdb:(x == ("__debug__":Str))=false:=by decide) (he:LD (e :: es) X.env=(false,eval e X.env) :: LD es X.env:=by rfl) (hpl:(backTo pos (LD es X.env)).any (·.1)=false:=by rfl):
  PE X (.Call (.Name x p) (e :: es) [] pos) (au sp dvs E t):=by
 intro pins s σ H Q I h
 refine ND (v3 I hg hm ?_ hdb)
 refine Qs (h₀:=X.base) I.ok.mod.kin hk (thn (ha pos pins s σ H _ I h) fun us s1 ⟨vs,H1,I1,r,q⟩=>⟨I1.kIn,?_⟩) he hpl
 exact y8 F hr hb hd hx I1 r q
theorem HR {pl:Sem Bool} (he:PE X o ta) (c:Cls X.K C) (hm:y6 X.K C m f) (F:gO X.prog X.w X.K X.mg X.base CX k f fd ps sp) (hr:bQ k X.A) (hb:fk X.K fd ps ds) (hd:aG dvs ds) (hx:k9 CX X E) (ha:PA X (e :: es) t)
  (hst:LD (e :: es) X.env=(false,eval e X.env) :: LD es X.env:=by rfl) (hpl:(backTo pos (LD es X.env)).any (·.1)=false:=by rfl)
  (ht:eval (.Call (.Attribute o m apos) (e :: es) [] pos) X.env=(do
   let ov <-eval o X.env
   standAt apos.atName
   let (f,first) <-holding [ov] (Qq ov m pl)
   TC pos f first (backTo pos (LD (e :: es) X.env)) (Py pos (OC [] X.env))):=by rfl):
  PE X (.Call (.Attribute o m apos) (e :: es) [] pos) (fj C m sp dvs E ta t):=by
 intro pins s σ H Q I h
 refine RK (pl:=pl) (thn (he pins s σ H _ I h) fun u s1 ⟨x,H1,I1,rx,a,dx,fs,ex,ea,l,q⟩=>?_) ht
 subst ex
 obtain rfl:u=LL a:=rx
 refine uh I1 ea c hm l ?_
 refine Qs (first:=[.ref a]) (h₀:=X.base) I.ok.mod.kin hm.kp (thn (ha pos pins s1 σ H1 _ I1 q) fun us s2 ⟨vs,H2,I2,r,q2⟩=>⟨I2.kIn,?_⟩) hst hpl
 exact y8 (us:=.ref a :: us) (vs:=.ref a :: vs) F hr hb hd hx I2 (.cons rfl r) q2
theorem FE {pl:Sem Bool} (he:PE X o ta) (c:Cls X.K C) (hm:y6 X.K C m f) (F:gO X.prog X.w X.K X.mg X.base CX k f fd ps sp) (hr:bQ k X.A) (hb:fk X.K fd ps ds) (hd:aG dvs ds) (hx:k9 CX X E)
  (ht:eval (.Call (.Attribute o m apos) [] [] pos) X.env=(do
   let ov <-eval o X.env
   standAt apos.atName
   let (f,first) <-holding [ov] (Qq ov m pl)
   TC pos f first (backTo pos (LD [] X.env)) (Py pos (OC [] X.env))):=by rfl):
  PE X (.Call (.Attribute o m apos) [] [] pos) (fj C m sp dvs E ta af):=by
 intro pins s σ H Q I h
 refine RK (pl:=pl) (thn (he pins s σ H _ I h) fun u s1 ⟨x,H1,I1,rx,a,dx,fs,ex,ea,l,q⟩=>?_) ht
 subst ex
 obtain rfl:u=LL a:=rx
 refine uh I1 ea c hm l ?_
 exact PySem.W.callWith_K0 (first:=[.ref a]) I1.kIn hm.kp (y8 (us:=[.ref a]) (vs:=[.ref a]) F hr hb hd hx I1 (.cons rfl .nil) q)
structure Mk (K:Fg) (C f:Addr):Prop where
 makes:T7 K C=true
 init:Nn K (.ref C) "__init__"=some (some (.ref f))
 fn:SK K (.ref f)=true
 kp:OI K (.ref C)=true
theorem FF {pins:List (Addr×Obj)} {σ:St} {H:Hp} {s:Shared} {Q:VK} {us:List Value} {vs:List V} (M:Mk X.K C f) (F:gO X.prog X.w X.K X.mg X.base CX k f fd ps sp) (hr:bQ (k + 1) X.A) (hb:fk X.K fd ps ds) (hd:aG dvs ds)
  (hx:k9 CX X E) (I:Inv X pins σ H s) (r:aG vs us)
  (h:∀ x dx,H x=none->H dx=none->dx≠x->sp (.ref x :: (vs++dvs)) (upd (upd H dx (.own x)) x (.ins C dx [])) (fun v H2=>v=.non/\Q (.ref x) H2) E):
  wpAny (model X.prog X.w) X.A (call (.ref C) us) (EP X pins σ Q) X.xe s:=by
 have hq:=h (s.heap.objs.size + 1) s.heap.objs.size (I.hok.fresh (Og _)) (I.hok.fresh (Le _)) (LR (MS _))
 have I2:=Inv.made (C:=C) I
 have r2:aG (V.ref (s.heap.objs.size + 1) :: (vs++dvs)) (LL (s.heap.objs.size + 1) :: (us++ds)):=.cons rfl (r.append hd)
 have hl:(LL (s.heap.objs.size + 1) :: us++ds).length=ps.length:=by
  have e:=r2.length
  rw [F.len _ _ _ _ hq] at e
  exact e.symm
 refine T8 (FC (f:=f) I.kIn M.makes M.init (beq_iff_eq.mp M.fn) (Oj (F.run _ X.stack _ _ ⟨LL (s.heap.objs.size + 1) :: us,[]⟩ (LL (s.heap.objs.size + 1) :: (us++ds)) _ _ E (hr.make C us [])
  (I2.env0.make C us []) (hb _ (LL (s.heap.objs.size + 1) :: us) I2.kIn hl) r2 hq) fun r s' hq'=>?_))
 cases r with
 | error e=>exact hx pins σ _ _ e s' I2 hq'
 | ok fl=>
  cases fl with
  | ret u=>
   obtain ⟨v,H',I3,rv,ev,q3⟩:=I2.after hq'
   subst ev
   exact ⟨rv,⟨V.ref (s.heap.objs.size + 1),H',I3,rfl,q3⟩⟩
  | next=>exact NB hq'
  | brk=>exact NB hq'
  | cont=>exact NB hq'
theorem HS (M:Mk X.K C f) (F:gO X.prog X.w X.K X.mg X.base CX k f fd ps sp) (hr:bQ (k + 1) X.A) (hg:Gl X x) (hm:X.mg x=some (.ref C)) (hb:fk X.K fd ps ds) (hd:aG dvs ds) (hx:k9 CX X E)
  (ha:PA X (e :: es) t) (hdb:(x == ("__debug__":Str))=false:=by decide) (he:LD (e :: es) X.env=(false,eval e X.env) :: LD es X.env:=by rfl) (hpl:(backTo pos (LD es X.env)).any (·.1)=false:=by rfl):
  PE X (.Call (.Name x p) (e :: es) [] pos) (ui C sp dvs E t):=by
 intro pins s σ H Q I h
 refine ND (v3 I hg hm ?_ hdb)
 refine Qs (h₀:=X.base) I.ok.mod.kin M.kp (thn (ha pos pins s σ H _ I h) fun us s1 ⟨vs,H1,I1,r,q⟩=>⟨I1.kIn,?_⟩) he hpl
 exact FF M F hr hb hd hx I1 r q
end
section
variable {X:Cx} {CX:CXT} {k:Nat} {f C:Addr} {fd:LB} {ps ks:List Str} {sp:Sp} {E:XK} {x m:Str} {p pos apos kpos:Pos} {e o:Expr} {es:List Expr} {kws:List Keyword} {te ta:TE} {t tk:TA} {nm:Option Str}
variable {g:List Value->List Value->List Value} {gV:List V->List V->List V}
end
structure aB (N P:List Str) (sc:Scope):Prop where
 kind:sc.kind=.function
 co:sc.isCoroutine=false
 gen:sc.isGenerator=false
 nd:N.Nodup
 pre:N.take P.length=P
 par:∀ x∈P,sc.names.lookup x=some .local\/sc.names.lookup x=some .cell
 nofree:∀ y∈sc.names,y.2≠.free
theorem wZ {kindOf:Str->Option L7} {x:Str}:∀ {binds:List (Str×Value)} {m:Str->Option Value},(∀ v,(x,v)∉binds)->bindL kindOf binds m x=m x
 | [],_,_=>rfl
 | (n,v) :: r,m,h=>by
  unfold bindL
  rw [wZ fun w hw=>h w (Ln _ hw)]
  split
  ·have:x≠n:=by rintro rfl; exact h v Lj
   simp [this]
  ·rfl
theorem w5 {kindOf:Str->Option L7} {x:Str}:∀ {binds:List (Str×Value)} {m:Str->Option Value},(∀ v,(x,v)∉binds)->bindC kindOf binds m x=m x
 | [],_,_=>rfl
 | (n,v) :: r,m,h=>by
  unfold bindC
  rw [w5 fun w hw=>h w (Ln _ hw)]
  split
  ·rfl
  ·have:x≠n:=by rintro rfl; exact h v Lj
   simp [this]
theorem w6 {kindOf:Str->Option L7} {x:Str} {v:Value}:∀ {P:List Str} {vs:List Value} {i:Nat} {m:Str->Option Value},P.Nodup->P[i]?=some x->vs[i]?=some v->kindOf x=some .local->
  bindL kindOf (P.zip vs) m x=some v
 | [],_,_,_,_,h,_,_=>by simp at h
 | _ :: _,[],_,_,_,_,h,_=>by simp at h
 | p :: P,w :: vs,0,m,nd,h1,h2,hk=>by
  simp at h1 h2; subst h1; subst h2
  show bindL kindOf ((p,w) :: P.zip vs) m p=_
  unfold bindL
  rw [wZ fun v hv=>(NL.mp nd).1 (Ro hv).1,if_pos hk]
  simp
 | p :: P,w :: vs,i + 1,m,nd,h1,h2,hk=>by
  show bindL kindOf ((p,w) :: P.zip vs) m x=_
  unfold bindL
  exact w6 (i:=i) (NL.mp nd).2 (by simpa using h1) (by simpa using h2) hk
theorem w9 {kindOf:Str->Option L7} {x:Str} {v:Value}:∀ {P:List Str} {vs:List Value} {i:Nat} {m:Str->Option Value},P.Nodup->P[i]?=some x->vs[i]?=some v->kindOf x≠some .local->
  bindC kindOf (P.zip vs) m x=some v
 | [],_,_,_,_,h,_,_=>by simp at h
 | _ :: _,[],_,_,_,_,h,_=>by simp at h
 | p :: P,w :: vs,0,m,nd,h1,h2,hk=>by
  simp at h1 h2; subst h1; subst h2
  show bindC kindOf ((p,w) :: P.zip vs) m p=_
  unfold bindC
  rw [w5 fun v hv=>(NL.mp nd).1 (Ro hv).1,if_neg hk]
  simp
 | p :: P,w :: vs,i + 1,m,nd,h1,h2,hk=>by
  show bindC kindOf ((p,w) :: P.zip vs) m x=_
  unfold bindC
  exact w9 (i:=i) (NL.mp nd).2 (by simpa using h1) (by simpa using h2) hk
noncomputable def start (N:List Str) (vs:List V):St:=vs.map some++LX (N.length - vs.length) none
noncomputable def nL (CX:CXT) (P:Program) (w:World) (K:Fg) (mg:Str->Option Value) (base:Heap) (N:List Str) (qual:Str) (scope:Scope) (f:Addr) (cd:Value) (A:Around) (outer:List Env) (s:Shared) (H:Hp) (E:XK):Cx where
 prog:=P
 w:=w
 K:=K
 mg:=mg
 base:=base
 A:=A.deeper (envOfC qual scope s.heap.objs.size f cd)
 N:=N
 s₀:=s
 H₀:=H
 env:=envOfC qual scope s.heap.objs.size f cd
 outer:=outer
 stack:=envOfC qual scope s.heap.objs.size f cd :: outer
 ex:=[]
 calm:=true
 fn:=fun _=>true
 pn:=[]
 xe:=fun e s'=>wpAny (model P w) (A.deeper (envOfC qual scope s.heap.objs.size f cd)) («leaving» (envOfC qual scope s.heap.objs.size f cd) e) (fun _ s''=>CX outer H s E e s'') (fun e' s''=>CX outer H s E e' s'') s'
theorem y9 {sc:Scope} {n:Nat} {x:Str} (h:sc.names.lookup x=some .cell):∃ c,(Uu n sc.names []).lookup x=some c:=by
 have q:=RD sc.names n [] (.inl h)
 exact Q3.mp q
theorem DW {CX:CXT} {P:Program} {w:World} {K:Fg} {mg:Str->Option Value} {base:Heap} {N ps:List Str} {qual:Str} {scope:Scope} {f:Addr} {cd:Value} {A:Around} {outer:List Env} {s s1:Shared} {H:Hp} {E:XK} {us:List Value} {vs:List V}
  (S:aB N ps scope) (hd:A.handled=none) (e0:sR P w K mg base A outer s H) (hl:vs.length=ps.length) (r:aG vs us)
  (x:InCallC s s.heap.objs.size (bindL (envOfC qual scope s.heap.objs.size f cd).kindOf (ps.zip us) fun _=>none) (Uu (s.heap.objs.size + 1) scope.names []) (bindC (envOfC qual scope s.heap.objs.size f cd).kindOf (ps.zip us) fun _=>none) s1):
  Inv (nL CX P w K mg base N qual scope f cd A outer s H E) [] (start N vs) H s1:=by
 have hpl:ps.length<=N.length:=by have:=congrArg List.length S.pre; rw [MF] at this; omega
 obtain ⟨h1,tk,rfl,hk⟩:=x.done
 have noA:∀ b:Addr,b∉(nL CX P w K mg base N qual scope f cd A outer s H E).ex:=fun b z=>absurd (show b∈([]:List Addr) from z) (by simp)
 refine ⟨⟨e0.mod,S.kind,rfl,rfl,Le _,fun y z c h1 h2=>?_,fun y hy=>?_,fun y c _ h=>?_,fun _=>hd,Around.frames_deeper e0.frames,.inr ⟨rfl,rfl⟩,fun b z=>absurd z (noA b),e0.bs,e0.bsz,fun b _ _=>noA b,fun b z=>absurd z (noA b),e0.funs,e0.frf⟩,
  rfl,e0.bare,Un.kept hk,⟨_,x.toInCall.ns,fun i y v h1 h2 h3=>?_⟩,fun y c h=>⟨_,x.cell y c h⟩,e0.hok.fresh (Le _),fun y c h=>?_,fun p hp=>absurd (show p∈([]:List (Addr×Obj)) from hp) (by simp),e0.hok.kept hk,?_⟩
 ·exact name_of_addr x.apart (Mw h1) (Mw h2)
 ·have hy:scope.names.lookup y=some .cell\/scope.names.lookup y=some .free:=hy
  rcases hy with hy | hy
  ·exact y9 hy
  ·exact absurd rfl (S.nofree _ (Mw hy))
 ·exact Mj (x.above y c (Mw h))
 ·have hi:i < vs.length:=by
   unfold start at h2
   by_cases hi:i < vs.length
   ·exact hi
   ·rw [OR (by simpa using hi)] at h2
    rw [List.getElem?_replicate] at h2
    split at h2 <;> cases h2
  have ha:vs[i]?=some v:=by
   unfold start at h2
   rw [Ob (by simpa using hi),Lx] at h2
   cases e:vs[i]? with
   | none=>rw [e] at h2; cases h2
   | some a=>rw [e] at h2; cases h2; rfl
  obtain ⟨u,hu,rv⟩:=r.get ha
  have hp:ps[i]?=some y:=by
   rw [<-S.pre,O3 (by omega)]; exact h1
  have ndP:ps.Nodup:=by rw [<-S.pre]; exact S.nd.sublist (List.take_sublist _ _)
  refine ⟨u,rv,?_⟩
  rcases S.par y (Lw hp) with k | k
  ·exact .inl ⟨k,w6 ndP hp hu k⟩
  ·obtain ⟨c,e⟩:=y9 (n:=s.heap.objs.size + 1) k
   refine .inr ⟨.inl k,c,e,?_⟩
   have q:=x.cell y c e
   rw [w9 ndP hp hu (by show scope.names.lookup y≠_; rw [k]; decide)] at q
   exact q
 ·exact e0.hok.fresh (Mj (x.above y c (Mw h)))
 ·unfold start
  show _=N.length
  rw [Lz,Lf,List.length_replicate]
  omega
theorem Ko {CX:CXT} {P:Program} {w:World} {K:Fg} {mg:Str->Option Value} {base:Heap} {k:Nat} {f:Addr} {name qual:Str} {params:Arguments} {body:List Stmt} {scope:Scope} {dV kV doc pm cdv ct oc:Value} {an od:Option Addr}
  {osl:Array (Option Value)} {N ps:List Str} {sp:Sp} (lk:K.lookup f=some ⟨oc,od,.func (O4 name qual params body scope dV kV doc pm an cdv ct),osl⟩) (hcd:RL K cdv qual=true) (S:aB N ps scope)
  (len:∀ vs H Q E,sp vs H Q E->vs.length=ps.length)
  (hbody:∀ (A:Around) (outer:List Env) (s:Shared) (H:Hp) (vs:List V) (Q:VK) (E:XK),bQ k (A.deeper (envOfC qual scope s.heap.objs.size f cdv))->sp vs H Q E->
   ∃ t,PSs (nL CX P w K mg base N qual scope f cdv A outer s H E) body t/\t { nx:=fun _ H'=>Q .non H',rt:=Q } (start N vs) H):
  gO P w K mg base CX (k + 1) f (O4 name qual params body scope dV kV doc pm an cdv ct) ps sp:=by
 refine ⟨len,fun A outer s H args us vs Q E hr e0 hb r hsp=>?_⟩
 have hl:=len _ _ _ _ hsp
 have KX:K.In s.heap:=e0.mod.kin.keeps fun b o e=>(e0.bs b o e).1
 have lim:s.heap.NoLimit:=e0.mod.nolimit.keeps fun b o e=>(e0.bs b o e).1
 have hkind:∀ y∈ps.zip us,scope.names.lookup y.1=some .local\/(scope.names.lookup y.1=some .cell/\((Uu (s.heap.objs.size + 1) scope.names []).lookup y.1).isSome=true):=fun ⟨n,v⟩ hy=>by
  rcases S.par n (Ro hy).1 with q | q
  ·exact .inl q
  ·exact .inr ⟨q,RD _ _ _ (.inl q)⟩
 refine codeAny_call_function hr.depth (KX _ _ lk) rfl S.co S.gen rfl (PySem.W.codeRec_of KX hcd) (hb _ _ _ _ ?_)
 refine wpAny_newFunctionEnv_cells S.kind hkind fun env he s1 x=>?_
 subst he
 refine ⟨lim.keeps x.toInCall.keep,codeAny_func ?_⟩
 obtain ⟨t,ht,hq⟩:=hbody A outer s H vs Q E (hr.deeper _) hsp
 have I:Inv (nL CX P w K mg base N qual scope f cdv A outer s H E) [] (start N vs) H s1:=DW S hr.hd e0 hl r x
 refine M1 (ht [] s1 (start N vs) H _ I hq) (fun fl s' hs=>?_) fun e s' hs=>hs
 have fin:∀ {σ':St} {H':Hp} {v:V} {u:Value},Inv (nL CX P w K mg base N qual scope f cdv A outer s H E) [] σ' H' s'->aI v u->Q v H'->CE outer P w H s Q u s':=
  fun {σ' H' v u} J rv q=>⟨v,H',J.os,J.bare,J.base,J.hok,rv,q⟩
 cases fl with
 | ret u=>
  obtain ⟨v,σ',H',J,rv,q⟩:=hs
  exact fin J rv q
 | next=>
  obtain ⟨σ',H',J,q⟩:=hs
  exact fin (v:=V.non) (u:=MB) J rfl q
 | brk=>
  obtain ⟨_,_,_,q⟩:=hs
  exact NB q
 | cont=>
  obtain ⟨_,_,_,q⟩:=hs
  exact NB q
end L2
namespace L2
open PySem PySem.Spec PyProof.Rows
section
variable {X:Cx} {x:Str} {p pos:Pos} {e:Expr} {es:List Expr} {t:TA} {id T:String} {r:List V->Hp->VK->Prop}
noncomputable def tCB (r:List V->Hp->VK->Prop) (t:TA):TE:=fun σ H Q=>t σ H fun vs H1=>r vs H1 Q
theorem ax (hc:cS X (.builtin id) r) (hg:Gl X x) (hm:X.mg x=none) (hv:O2 x=some (.builtin id)) (ha:PA X (e :: es) t) (hn:x≠"__name__":=by decide) (hdb:(x == ("__debug__":Str))=false:=by decide)
  (he:LD (e :: es) X.env=(false,eval e X.env) :: LD es X.env:=by rfl) (hpl:(backTo pos (LD es X.env)).any (·.1)=false:=by rfl):PE X (.Call (.Name x p) (e :: es) [] pos) (tCB r t):=by
 intro pins s σ H Q I h
 refine ND (fY I hg hm hv ?_ hn hdb)
 exact PP (thn (ha pos pins s σ H _ I h) fun us s1 ⟨vs,H1,I1,r1,q1⟩=>hc pins s1 σ H1 vs us Q I1 r1 q1) he hpl
theorem bK (hc:cS X (.type T) r) (hg:Gl X x) (hm:X.mg x=none) (hv:O2 x=some (.type T)) (ha:PA X (e :: es) t) (hn:x≠"__name__":=by decide) (hdb:(x == ("__debug__":Str))=false:=by decide)
  (he:LD (e :: es) X.env=(false,eval e X.env) :: LD es X.env:=by rfl) (hpl:(backTo pos (LD es X.env)).any (·.1)=false:=by rfl):PE X (.Call (.Name x p) (e :: es) [] pos) (tCB r t):=by
 intro pins s σ H Q I h
 refine ND (fY I hg hm hv ?_ hn hdb)
 exact Ms (thn (ha pos pins s σ H _ I h) fun us s1 ⟨vs,H1,I1,r1,q1⟩=>hc pins s1 σ H1 vs us Q I1 r1 q1) he hpl
end
end L2
namespace HT
open PySem PyProof.Rows
section
open PySem.SeqAt
open PySem.AutoSeq1 (wpAny_loadPart')
open PySem.MeetsSeq PySem.MeetsSeq2 PySem.MeetsSeq3
end
section
variable {prog:Program} {w:World} {A:Around} {E:Value->Shared->Prop} {s:Shared}
theorem HU {t b:Addr} {vs ws:List Value} {Q:Value->Shared->Prop} (ht:IsTup s.heap t vs.toArray) (hb:IsTup s.heap b ws.toArray) (hv:vs≠[])
  (h1:ws=[]->Q (.ref t) s) (h2:ws≠[]->Q (.ref s.heap.objs.size) { s with heap:=s.heap.push { cls:=.type "tuple",data:=.seq (vs++ws).toArray } })
  (hsz:vs.length + ws.length<=Lr):wpAny (model prog w) A (N4 .Add (.ref t) (.ref b)) Q E s:=by
 obtain ⟨⟨cls,dd,data,sl⟩,ho,hc,n,hd⟩:=id ht
 obtain ⟨⟨cls2,dd2,data2,sl2⟩,ho2,hc2,n2,hd2⟩:=id hb
 simp only at hc hd hc2 hd2
 subst hc hd hc2 hd2
 have e:vs.toArray++ws.toArray=(vs++ws).toArray:=by simp
 by_cases hw:ws=[]
 ·exact SO ⟨_,ho,rfl⟩ ⟨_,ho2,rfl⟩ Q4 So Pp Pg (O5 _ _)
   (tuple_addW1 t b vs.toArray ws.toArray n n2 dd dd2 sl sl2 (by simpa using hv) (by simp [hw])) ⟨ho,ho2,h1 hw⟩
 ·refine SO ⟨_,ho,rfl⟩ ⟨_,ho2,rfl⟩ Q4 So Pp Pg (O5 _ _)
   (tuple_addW2 t b vs.toArray ws.toArray n n2 dd dd2 sl sl2 (by simpa using hv) (by simpa using hw) (by rw [Ls,Ls]; exact hsz)) ⟨ho,ho2,?_⟩
  rw [e]
  exact h2 hw
noncomputable def sIx (n d:Nat):Option Int->Nat
 | none=>d
 | some v=>if v < 0 then (v + (n:Int)).toNat else min v.toNat n
theorem Jv (n d:Nat) (hd:d<=n) (o:Option Int):sIx n d o<=n:=by
 cases o with
 | none=>exact hd
 | some v=>
  show (if v < 0 then (v + (n:Int)).toNat else min v.toNat n)<=n
  by_cases hv:v < 0
  ·rw [if_pos hv]; omega
  ·rw [if_neg hv]; exact Nat.min_le_right _ _
theorem Bs (v:Int) (n d:Nat):(if v < 0 then max (v + (n:Int)) 0 else min v (n:Int))=((sIx n d (some v):Nat):Int):=by
 show (if v < 0 then max (v + (n:Int)) 0 else min v (n:Int))=(((if v < 0 then (v + (n:Int)).toNat else min v.toNat n):Nat):Int)
 by_cases hv:v < 0
 ·simp only [if_pos hv]; omega
 ·simp only [if_neg hv]; omega
theorem B9 (lo hi:Option Int) (n:Nat):OZ lo hi 1 (n:Int)=(((sIx n 0 lo:Nat):Int),((sIx n n hi:Nat):Int)):=by
 have h1:¬ ((1:Int) < 0):=by omega
 unfold OZ
 simp only [h1,if_false]
 refine Prod.ext ?_ ?_
 ·cases lo with
  | none=>rfl
  | some v=>exact Bs v n 0
 ·cases hi with
  | none=>rfl
  | some v=>exact Bs v n n
theorem Ca (i j:Nat):Oc (i:Int) (j:Int) 1=j - i:=by
 unfold Oc
 have h1:(1:Int) > 0:=by omega
 simp only [h1,if_true,Int.ediv_one]
 split <;> omega
theorem uj {v:Value} {o:Option Int} {Q:Option Int->Shared->Prop} (p:IsPart v o) (h:Q o s):wpAny (model prog w) A (Builtin.Slice.slicePartIndex v) Q E s:=by
 cases p with
 | none=>exact slicePart_none h
 | int i t=>exact slicePart_int h
theorem sS {sl:Addr} {vl vu:Value} {lo hi:Option Int} {n:Nat} {Q:Int×Int×Nat->Shared->Prop} (hs:s.heap.IsSliceOf sl vl vu .none) (pl:IsPart vl lo) (pu:IsPart vu hi)
  (h:Q (((sIx n 0 lo:Nat):Int),1,sIx n n hi - sIx n 0 lo) s):wpAny (model prog w) A (QD (.ref sl) (pure (n:Int))) Q E s:=by
 obtain ⟨os,hos,hcs,hds⟩:=id hs
 unfold QD Builtin.Slice.sliceFields
 refine La (La (Mn hos hds (x:=vl) rfl (La (Mn hos hds (x:=vu) rfl (La (Mn hos hds (x:=.none) rfl (Lc ?_)))))))
 refine La (slicePart_none ?_)
 show wpAny _ _ (if ((1:Int) == 0)=true then _ else _) _ _ s
 rw [if_neg (by decide)]
 refine La (uj pl (La (uj pu (La (Lc ?_)))))
 show wpAny _ _ (match OZ lo hi 1 (n:Int) with | (lo,hi)=>pure (lo,(1:Int),Oc lo hi 1)) _ _ s
 rw [B9 lo hi n]
 show wpAny _ _ (pure (((sIx n 0 lo:Nat):Int),(1:Int),Oc ((sIx n 0 lo:Nat):Int) ((sIx n n hi:Nat):Int) 1)) _ _ s
 rw [Ca]
 exact Lc h
theorem FG (xs:Array Value) (i k:Nat):((Lv k).filterMap fun (m:Nat)=>xs[((i:Int) + (m:Int) * 1).toNat]?).toArray=((xs.toList.drop i).take k).toArray:=by
 have e:(fun (m:Nat)=>xs[((i:Int) + (m:Int) * 1).toNat]?)=fun m=>xs[i + m]?:=by
  funext m
  have:((i:Int) + (m:Int) * 1).toNat=i + m:=by omega
  rw [this]
 rw [e]
 have:=pick_run xs i k
 rw [List.filterMap_map] at this
 have e2:((fun x=>xs[x]?) ∘ fun x=>i + x)=fun m=>xs[i + m]?:=rfl
 rw [e2] at this
 rw [this]
theorem rP {t sl:Addr} {items:Array Value} {vl vu:Value} {lo hi:Option Int} {Q:Value->Shared->Prop} (ht:IsTup s.heap t items) (hs:s.heap.IsSliceOf sl vl vu .none) (pl:IsPart vl lo) (pu:IsPart vu hi)
  (hw:¬ (sIx items.size 0 lo=0/\sIx items.size items.size hi=items.size))
  (h:Q (.ref s.heap.objs.size) { s with heap:=s.heap.push { cls:=.type "tuple",data:=.seq ((items.toList.drop (sIx items.size 0 lo)).take (sIx items.size items.size hi - sIx items.size 0 lo)).toArray } })
  (hsz:items.size<=Lr):wpAny (model prog w) A (getItem (.ref t) (.ref sl)) Q E s:=by
 have htake:sizeOk (.seq ((items.toList.drop (sIx items.size 0 lo)).take (sIx items.size items.size hi - sIx items.size 0 lo)).toArray):=by
  show ((items.toList.drop (sIx items.size 0 lo)).take (sIx items.size items.size hi - sIx items.size 0 lo)).toArray.size<=Lr
  rw [Ls,MF,Pz,LV]
  omega
 have hj:sIx items.size items.size hi<=items.size:=Jv _ _ (Le _) hi
 obtain ⟨os,hos,hcs,hds⟩:=id hs
 have hTs:s.TypeIs (.ref sl) "slice":=⟨os,hos,hcs⟩
 unfold getItem
 try with_reducible refine Mx ?_
 first | refine La (Lc ?_) | skip
 refine La (wpAny_sequenceKey ht.typeIs (by decide) ?_)
 refine La (Mf (name:=Nf "__getitem__") ht.typeIs Os
  (LY Os ht.typeIs entry_tuple_getitem ?_ (args_tuple_getitem _ _)))
 show wpAny _ _ (QE (.ref t) >>= _) _ _ s
 refine La (tupleItemsOf_ ht ?_)
 refine La (PQ hTs ?_)
 rw [if_pos (by decide)]
 refine La (sS hs pl pu ?_)
 have hno:¬ ((((sIx items.size 0 lo:Nat):Int) == 0 && (1:Int) == 1 && (sIx items.size items.size hi - sIx items.size 0 lo) == items.size)=true):=by
  intro q
  rw [MG,MG] at q
  have q1:((sIx items.size 0 lo:Nat):Int)=0:=eq_of_beq q.1.1
  have q2:sIx items.size items.size hi - sIx items.size 0 lo=items.size:=eq_of_beq q.2
  exact hw ⟨by omega,by omega⟩
 show wpAny _ _ (if (((sIx items.size 0 lo:Nat):Int) == 0 && (1:Int) == 1 && (sIx items.size items.size hi - sIx items.size 0 lo) == items.size)=true then _ else _) _ _ s
 rw [if_neg hno,FG]
 first
  | exact La (m:=Ng _) (Md (Lc ⟨_,rfl,Lc h⟩) htake)
  | exact La (m:=Ng _) (Md (La (Lc (Lc ⟨_,rfl,Lc h⟩))) htake)
  | exact La (La (m:=Ng _) (Md (Lc (Lc ⟨_,rfl,Lc h⟩)) htake))
  | exact La (La (m:=Ng _) (Md (Lc ⟨_,rfl,Lc h⟩) htake))
end
end HT
namespace L2
open PySem PySem.Spec PyProof.Rows
noncomputable abbrev TO:=St->Hp->(Option Int->Hp->Prop)->Prop
noncomputable def PO (X:Cx) (e:Option Expr) (t:TO):Prop:=
 ∀ (pins:List (Addr×Obj)) (s:Shared) (σ:St) (H:Hp) (Q:Option Int->Hp->Prop),Inv X pins σ H s->t σ H Q->
  wpAny (model X.prog X.w) X.A (evalPart e X.env) (fun u s'=>∃ o H',Inv X pins σ H' s'/\IsPart u o/\Q o H') X.xe s
noncomputable def jp:TO:=fun _ H Q=>Q none H
noncomputable def nN (t:TE):TO:=fun σ H Q=>t σ H fun x H1=>∃ i,x=.int i/\Q (some i) H1
theorem nO {ns:List Int}:∀ {us:List Value},aG (ns.map V.int) us->IntsAre us ns:=by
 induction ns with
 | nil=>intro us r; rw [OJ] at r; cases r; exact .nil
 | cons n ns ih=>
  intro us r
  rw [LA] at r
  cases r with
  | cons r1 r2=>
   obtain ⟨t,e⟩:=r1
   subst e
   exact .cons n t (ih r2)
section
variable {X:Cx} {e:Expr} {te:TE} {lo hi:Option Expr} {tl th:TO} {pos p2:Pos}
theorem mY:PO X none jp:=by
 intro pins s σ H Q I h
 rw [evalPart_none]
 exact Lc ⟨none,H,I,.none,h⟩
theorem mZ (h:PE X e te):PO X (some e) (nN te):=by
 intro pins s σ H Q I hw
 rw [evalPart_some]
 refine thn (h pins s σ H _ I hw) fun u s1 ⟨x,H1,I1,r1,q1⟩=>?_
 obtain ⟨i,rfl,q⟩:=q1
 obtain ⟨t,rfl⟩:=r1
 exact ⟨some i,H1,I1,.int i t,q⟩
noncomputable def SlR (X:Cx) (r:V->Option Int->Option Int->Hp->VK->Prop):Prop:=
 ∀ (pins:List (Addr×Obj)) (s:Shared) (σ:St) (H:Hp) (x:V) (v vl vu:Value) (lo hi:Option Int) (sl:Addr) (Q:VK),Inv X pins σ H s->aI x v->s.heap.IsSliceOf sl vl vu .none->IsPart vl lo->IsPart vu hi->r x lo hi H Q->
  ∃ T id,R7 (.type T) "__getitem__"=pure (some (.builtin id))/\s.TypeIs v T/\wpAny (model X.prog X.w) X.A (getItem v (.ref sl)) (EP X pins σ Q) X.xe s
noncomputable def tSl (r:V->Option Int->Option Int->Hp->VK->Prop) (te:TE) (tl th:TO):TE:=fun σ H Q=>te σ H fun x H1=>tl σ H1 fun l H2=>th σ H2 fun u H3=>r x l u H3 Q
theorem lc {r:V->Option Int->Option Int->Hp->VK->Prop} (hr:SlR X r) (he:PE X e te) (hl:PO X lo tl) (hu:PO X hi th):PE X (.Subscript e (.Slice lo hi none p2) pos) (tSl r te tl th):=by
 intro pins s σ H Q I h
 refine T9 (thn (he pins s σ H _ I h) fun v s1 ⟨x,H1,I1,r1,q1⟩=>?_)
 refine wpAny_Slice (thn (hl pins s1 σ H1 _ I1 q1) fun vl s2 ⟨l,H2,I2,pl,q2⟩=>thn (hu pins s2 σ H2 _ I2 q2) fun vu s3 ⟨u,H3,I3,pu,q3⟩=>?_)
 rw [evalPart_none]
 refine Lc ?_
 have I4:Inv X pins σ H3 { s3 with heap:=s3.heap.push { cls:=.type "slice",data:=.fields #[vl,vu,.none] } }:=I3.kept (t':=s3.toks) fun b ob q=>Lb _ q
 obtain ⟨T,id,hT,ht,hg⟩:=hr pins { s3 with heap:=s3.heap.push { cls:=.type "slice",data:=.fields #[vl,vu,.none] } } σ H3 x v vl vu l u s3.heap.objs.size Q I4 r1 (Heap.IsSliceOf.new ..) pl pu q3
 show wpAny (model X.prog X.w) X.A (Sr e (.Slice lo hi none p2) v (.ref s3.heap.objs.size)) (EP X pins σ Q) X.xe { s3 with heap:=s3.heap.push { cls:=.type "slice",data:=.fields #[vl,vu,.none] } }
 exact tail_any (ops:=[.ref s3.heap.objs.size,v]) ht hT hg (by with_unfolding_all rfl)
noncomputable def gP (xs:List V) (lo hi:Option Int):List V:=(xs.drop (HT.sIx xs.length 0 lo)).take (HT.sIx xs.length xs.length hi - HT.sIx xs.length 0 lo)
theorem rZ (xs:List V) (lo hi:Option Int):(gP xs lo hi).length<=xs.length:=by
 unfold gP
 rw [MF,Pz]
 omega
noncomputable def KU (K:Fg):V->Option Int->Option Int->Hp->VK->Prop:=fun x lo hi H Q=>∃ a xs,x=.ref a/\SqT K H a xs/\
 ¬ (HT.sIx xs.length 0 lo=0/\HT.sIx xs.length xs.length hi=xs.length)/\∀ p,H p=none->Q (.ref p) (upd H p (.tup (gP xs lo hi)))
theorem Jw:SlR X (KU X.K):=by
 intro pins s σ H x v vl vu lo hi sl Q I rx hs pl pu h
 obtain ⟨a,xs,rfl,hx,hw,q⟩:=h
 cases rx
 obtain ⟨its,r,ht,hz⟩:=I.tuple hx
 have hlen:its.toArray.size=xs.length:=by rw [Ls]; exact r.length.symm
 refine ⟨"tuple",_,Os.lookup,ht.typeIs,?_⟩
 refine HT.rP ht hs pl pu (by rw [hlen]; exact hw) ?_ (by rw [hlen]; exact hz)
 rw [hlen]
 refine ⟨.ref s.heap.objs.size,_,I.laid (t':=s.toks) (o:=.tup (gP xs lo hi)) (fun b ob q=>Lb _ q) (Le _) ?_,rfl,q _ (I.hok.fresh (Le _))⟩
 exact ⟨LS (rZ xs lo hi) hz,_,(r.drop (HT.sIx xs.length 0 lo)).take (HT.sIx xs.length xs.length hi - HT.sIx xs.length 0 lo),eR.new _ _⟩
noncomputable def Kq (K:Fg):R2:=fun x y H Q=>∃ a b xs ys,x=.ref a/\y=.ref b/\SqT K H a xs/\SqT K H b ys/\xs≠[]/\xs.length + ys.length<=Lr/\
 (ys=[]->Q (.ref a) H)/\(ys≠[]->∀ p,H p=none->Q (.ref p) (upd H p (.tup (xs++ys))))
theorem aG.nil_iff {xs:List V} {us:List Value} (r:aG xs us):us=[]↔xs=[]:=by
 cases r with
 | nil=>simp
 | cons _ _=>simp
theorem HV:OpR X (N4 .Add) (Kq X.K):=by
 intro pins s σ H x y v u Q I rx ry h
 obtain ⟨a,b,xs,ys,rfl,rfl,ha,hb,hx,hz,q1,q2⟩:=h
 cases rx
 cases ry
 obtain ⟨its,r1,p1,_⟩:=I.tuple ha
 obtain ⟨its2,r2,p2,_⟩:=I.tuple hb
 refine HT.HU p1 p2 (fun z=>hx (r1.nil_iff.mp z)) (fun z=>⟨.ref a,H,I,rfl,q1 (r2.nil_iff.mp z)⟩) (fun z=>?_) (by rw [<-r1.length,<-r2.length]; exact hz)
 refine ⟨.ref s.heap.objs.size,_,I.laid (t':=s.toks) (o:=.tup (xs++ys)) (fun b ob q=>Lb _ q) (Le _) ?_,rfl,q2 (fun w=>z (r2.nil_iff.mpr w)) _ (I.hok.fresh (Le _))⟩
 exact ⟨by rw [Lz]; exact hz,_,r1.append r2,eR.new _ _⟩
end
end L2
namespace L2
open PySem PySem.Spec PyProof.Rows
noncomputable def ixN (n:Nat) (i:Int):Option Nat:=if 0<=i then (if i < n then some i.toNat else none) else if -(n:Int)<=i then some (i + n).toNat else none
noncomputable def atI {α:Type} (xs:List α) (i:Int):Option α:=(ixN xs.length i).bind fun j=>xs[j]?
theorem Bt {n:Nat} {i:Int} {j:Nat} (h:ixN n i=some j):seqIndex? i n=some j/\j < n/\-(n:Int)<=i/\i < n:=by
 unfold ixN at h
 by_cases h0:0<=i
 ·rw [if_pos h0] at h
  by_cases h1:i < n
  ·rw [if_pos h1] at h
   have e:i.toNat=j:=Lu h
   exact ⟨by rw [Tq h0 h1,e],by omega,by omega,h1⟩
  ·rw [if_neg h1] at h; cases h
 ·rw [if_neg h0] at h
  by_cases h1:-(n:Int)<=i
  ·rw [if_pos h1] at h
   have e:(i + n).toNat=j:=Lu h
   exact ⟨by rw [SQ (by omega) h1,e],by omega,h1,by omega⟩
  ·rw [if_neg h1] at h; cases h
theorem Bu {α:Type} {xs:List α} {i:Int} {v:α} (h:atI xs i=some v):∃ j,seqIndex? i xs.length=some j/\xs[j]?=some v/\j < xs.length/\-(xs.length:Int)<=i/\i < xs.length:=by
 unfold atI at h
 cases e:ixN xs.length i with
 | none=>rw [e] at h; cases h
 | some j=>
  rw [e] at h
  obtain ⟨h1,h2,h3,h4⟩:=Bt e
  exact ⟨j,h1,h,h2,h3,h4⟩
theorem cB {α:Type} {xs:List α} {j:Nat} {v:α} (h:xs[j]?=some v):atI xs (j:Int)=some v:=by
 have hj:j < xs.length:=(Li.mp h).1
 have e:ixN xs.length (j:Int)=some j:=by
  unfold ixN
  rw [if_pos (by omega),if_pos (by omega)]; simp
 unfold atI; rw [e]; exact h
noncomputable def HW (b:Expr):Prop:=∀ o i,RE b false o i=operate [o,i] (getItem o i)
noncomputable def IxR (X:Cx) (r:R2):Prop:=
 ∀ (value slice:Expr) (pins:List (Addr×Obj)) (s:Shared) (σ:St) (H:Hp) (x y:V) (v u:Value) (Q:VK),Inv X pins σ H s->aI x v->aI y u->r x y H Q->
  RE slice false v u=operate [v,u] (getItem v u)->wpAny (model X.prog X.w) X.A (Sr value slice v u) (EP X pins σ Q) X.xe s
noncomputable def MtR (X:Cx) (id:String) (r:V->List V->Hp->VK->Prop):Prop:=
 ∀ (pins:List (Addr×Obj)) (s:Shared) (σ:St) (H:Hp) (x:V) (xs:List V) (v:Value) (us:List Value) (Q:VK),Inv X pins σ H s->aI x v->aG xs us->r x xs H Q->
  wpAny (model X.prog X.w) X.A (call (.builtin id) (v :: us)) (EP X pins σ Q) X.xe s
section
variable {X:Cx} {a b:Expr} {ta tb:TE} {pos:Pos}
theorem aV {r:R2} (hr:IxR X r) (ha:PE X a ta) (hb:PE X b tb) (hs:HW b):PE X (.Subscript a b pos) (tOp r ta tb):=by
 intro pins s σ H Q I h
 exact T9 (Fy ha hb I h fun v u s2 x y H2 I2 rx ry q=>hr a b pins s2 σ H2 x y v u Q I2 rx ry q (hs _ _))
noncomputable def cV (K:Fg):R2:=fun x y H Q=>∃ p xs i v,x=.ref p/\y=.int i/\SqL K H p xs/\atI xs i=some v/\Q v H
noncomputable def cJ (K:Fg):R2:=fun x y H Q=>∃ p xs i v,x=.ref p/\y=.int i/\SqT K H p xs/\atI xs i=some v/\Q v H
theorem bw:IxR X (cV X.K):=by
 intro value slice pins s σ H x y v u Q I rx ry h hs
 obtain ⟨p,xs,i,z,rfl,rfl,hq,he,q⟩:=h
 cases rx
 obtain ⟨t,rfl⟩:=ry
 obtain ⟨its,r,pl,hz⟩:=I.list hq
 obtain ⟨j,h1,h2,h3,h4,h5⟩:=Bu he
 obtain ⟨w,ew,rw'⟩:=r.get h2
 have hl:=r.length
 have hn:=ug
 have fin:EP X pins σ Q w s:=⟨z,H,I,rw',q⟩
 by_cases h0:0<=i
 ·have hj:i.toNat=j:=by
   rw [Tq h0 h5] at h1
   exact Lu h1
  exact item_listR pl.isList h0 (by omega) (by rw [hj]; simpa using ew) fin hs
 ·have hj:(i + (its.toArray.size:Int)).toNat=j:=by
   rw [SQ (by omega) h4] at h1
   rw [Ls,<-hl]
   exact Lu h1
  exact RF (x:=w) pl.isList.typeIs S6.lookup
   (wpAny_getItem_list_neg (Q:=fun r s'=>r=w/\EP X pins σ Q r s') pl.isList (by omega) (by rw [Ls] <;> omega) (by omega) (by rw [hj]; simpa using ew) ⟨rfl,fin⟩) hs
theorem bI:IxR X (cJ X.K):=by
 intro value slice pins s σ H x y v u Q I rx ry h hs
 obtain ⟨p,xs,i,z,rfl,rfl,hq,he,q⟩:=h
 cases rx
 obtain ⟨t,rfl⟩:=ry
 obtain ⟨its,r,pl,hz⟩:=I.tuple hq
 obtain ⟨j,h1,h2,h3,h4,h5⟩:=Bu he
 obtain ⟨w,ew,rw'⟩:=r.get h2
 have hl:=r.length
 have hn:=ug
 have fin:EP X pins σ Q w s:=⟨z,H,I,rw',q⟩
 exact RF (x:=w) pl.typeIs slot_tuple_getitem.lookup
  (getItem_tuple (j:=j) (Q:=fun r s'=>r=w/\EP X pins σ Q r s') pl (by omega) (by omega) (by rw [Ls,<-hl]; exact h1) (by simpa using ew) ⟨rfl,fin⟩) hs
theorem Cb (its:List Value) (n j:Nat) (u:Value):MD (·.setIfInBounds j u) { cls:=.type "list",data:=.seq its.toArray n }={ cls:=.type "list",data:=.seq (its.set j u).toArray n }:=by
 simp [MD]
theorem Inv.lst {pins:List (Addr×Obj)} {σ:St} {H:Hp} {s:Shared} {p:Addr} {xs:List V} (I:Inv X pins σ H s) (h:H p=some (.lst xs)):
  ∃ (its:List Value) (n:Nat),aG xs its/\s.heap.get? p=some { cls:=.type "list",data:=.seq its.toArray n }/\xs.length<=Lr:=by
 obtain ⟨z,its,n,r,e⟩:=I.hok p _ h
 exact ⟨its,n,r,e,z⟩
theorem Inv.lstUpd {pins:List (Addr×Obj)} {σ:St} {H:Hp} {s:Shared} {p:Addr} {xs ys:List V} {its its':List Value} {n n':Nat} {f:Obj->Obj} (I:Inv X pins σ H s) (h:H p=some (.lst xs))
  (ho:s.heap.get? p=some { cls:=.type "list",data:=.seq its.toArray n }) (hf:f { cls:=.type "list",data:=.seq its.toArray n }={ cls:=.type "list",data:=.seq its'.toArray n' }) (r:aG ys its') (hz:ys.length<=Lr) (t:Nat):
  Inv X pins σ (upd H p (.lst ys)) { s with heap:=s.heap.update p f,toks:=t }:=by
 have e:(s.heap.update p f).get? p=some { cls:=.type "list",data:=.seq its'.toArray n' }:=by
  rw [Mh f ho (by rw [hf] <;> rfl),hf]
 refine I.write (x:=p) (e:=p) (by rw [h]; trivial) (.inl rfl) (fun b u hb q=>(MT _ _ (MU hb)).trans q) ⟨_,e⟩ ?_
 exact ⟨hz,its',n',r,e⟩
noncomputable def lY:V->V->V->Hp->(Hp->Prop)->Prop:=fun o i v H Q=>∃ p xs k j,o=.ref p/\i=.int k/\H p=some (.lst xs)/\ixN xs.length k=some j/\Q (upd H p (.lst (xs.set j v)))
theorem lf:Fw X lY:=by
 intro pins s σ H o i v ov iv u Q I ro ri rv h
 obtain ⟨p,xs,k,j,rfl,rfl,hp,hj,q⟩:=h
 cases ro
 obtain ⟨t,rfl⟩:=ri
 obtain ⟨its,n,r,ho,hz⟩:=I.lst hp
 obtain ⟨h1,h2,h3,h4⟩:=Bt hj
 have hl:=r.length
 have hn:=ug
 have I':Inv X pins σ (upd H p (.lst (xs.set j v))) { s with heap:=s.heap.update p (MD (·.setIfInBounds j u)) }:=
  I.lstUpd hp ho (Cb its n j u) (r.set rv j) (by rw [Nb]; exact hz) s.toks
 by_cases h0:0<=k
 ·have hk:k.toNat=j:=by
   rw [Tq h0 h4] at h1
   exact Lu h1
  exact PySem.W.ki_setAt ho h0 (by omega) (by rw [Ls,<-hl]; exact h4) (by rw [hk]; exact ⟨_,I',q⟩)
 ·have hk:(k + (its.toArray.size:Int)).toNat=j:=by
   rw [SQ (by omega) h3] at h1
   rw [Ls,<-hl]
   exact Lu h1
  exact PySem.W.ki_setBack ho (by omega) (by rw [Ls,<-hl]; exact h3) (by omega) (by rw [hk]; exact ⟨_,I',q⟩)
theorem za (lo hi:Option Int) (n:Nat):(OW lo hi none n).1=((HT.sIx n 0 lo:Nat):Int)/\(OW lo hi none n).2.1=((HT.sIx n n hi:Nat):Int)/\(OW lo hi none n).2.2=1:=by
 refine ⟨?_,?_,rfl⟩
 ·cases lo with
  | none=>simp [OW,HT.sIx]
  | some i=>
   simp only [OW,HT.sIx,TF,show (1:Int) > 0 by decide,if_true]
   by_cases h:i < 0
   ·simp only [h,if_true] <;> omega
   ·simp only [h,if_false] <;> omega
 ·cases hi with
  | none=>simp [OW,HT.sIx]
  | some i=>
   simp only [OW,HT.sIx,TF,show (1:Int) > 0 by decide,if_true]
   by_cases h:i < 0
   ·simp only [h,if_true] <;> omega
   ·simp only [h,if_false] <;> omega
theorem xH (its:List Value) (lo hi:Option Int):slicePick its.toArray lo hi none=((its.drop (HT.sIx its.length 0 lo)).take (HT.sIx its.length its.length hi - HT.sIx its.length 0 lo)).toArray:=by
 obtain ⟨h1,h2,h3⟩:=za lo hi its.toArray.size
 unfold slicePick
 rw [h1,h2,h3]
 simp only [sliceRange_one,pick_run,Ls] <;> rfl
noncomputable def KW (K:Fg):V->Option Int->Option Int->Hp->VK->Prop:=fun x lo hi H Q=>∃ a xs,x=.ref a/\SqL K H a xs/\∀ p,H p=none->Q (.ref p) (upd H p (.lst (gP xs lo hi)))
theorem HX:SlR X (KW X.K):=by
 intro pins s σ H x v vl vu lo hi sl Q I rx hs pl pu h
 obtain ⟨a,xs,rfl,hx,q⟩:=h
 cases rx
 obtain ⟨its,r,ht,hz⟩:=I.list hx
 have hlen:=r.length
 refine ⟨"list",_,S6.lookup,ht.isList.typeIs,?_⟩
 refine wpAny_getItem_list_slice ht.isList hs pl pu .none (by simp) ?_ (by rw [Ls] <;> omega)
 rw [xH,<-hlen]
 refine ⟨.ref s.heap.objs.size,_,I.laid (t':=s.toks) (o:=.lst (gP xs lo hi)) (fun b ob q=>Lb _ q) (Le _) ?_,rfl,q _ (I.hok.fresh (Le _))⟩
 exact ⟨LS (rZ xs lo hi) hz,_,0,(r.drop (HT.sIx xs.length 0 lo)).take (HT.sIx xs.length xs.length hi - HT.sIx xs.length 0 lo),Lk _ rfl⟩
noncomputable def gu:V->Bool
 | .non=>true
 | .bl _=>true
 | .int _=>true
 | .str _=>true
 | _=>false
noncomputable def eqV:V->V->Bool
 | .non,.non=>true
 | .bl a,.bl b=>a == b
 | .bl a,.int b=>(if a then 1 else 0) == b
 | .int a,.bl b=>a == (if b then 1 else 0)
 | .int a,.int b=>a == b
 | .str a,.str b=>a == b
 | _,_=>false
theorem DX {A:Around} {s:Shared} {y x:V} {u v:Value} (ry:aI y u) (rx:aI x v) (fy:gu y=true) (fx:gu x=true):LQ A s u v (eqV y x):=by
 cases y with
 | non=>
  cases ry
  cases x with
  | non=>cases rx; exact Rp _
  | bl b=>cases rx; exact R8 b
  | int b=>obtain ⟨t,rfl⟩:=rx; exact Sx b t
  | str b=>obtain ⟨t,rfl⟩:=rx; exact LQ.none_str b t
  | _=>exact absurd (show false=true from fx) Lq
 | bl a=>
  cases ry
  cases x with
  | non=>cases rx; exact R9 a
  | bl b=>cases rx; exact Sa a b
  | int b=>obtain ⟨t,rfl⟩:=rx; exact Sz a b t
  | str b=>obtain ⟨t,rfl⟩:=rx; exact LQ.bool_str a b t
  | _=>exact absurd (show false=true from fx) Lq
 | int a=>
  obtain ⟨t',rfl⟩:=ry
  cases x with
  | non=>cases rx; exact SA a t'
  | bl b=>cases rx; exact SB a t' b
  | int b=>obtain ⟨t,rfl⟩:=rx; exact SR a t' b t
  | str b=>obtain ⟨t,rfl⟩:=rx; exact SE a t' b t
  | _=>exact absurd (show false=true from fx) Lq
 | str a=>
  obtain ⟨t',rfl⟩:=ry
  cases x with
  | non=>cases rx; exact LQ.str_none a t'
  | bl b=>cases rx; exact LQ.str_bool a t' b
  | int b=>obtain ⟨t,rfl⟩:=rx; exact SF a t' b t
  | str b=>obtain ⟨t,rfl⟩:=rx; exact LQ.str_str a t' b t
  | _=>exact absurd (show false=true from fx) Lq
 | _=>exact absurd (show false=true from fy) Lq
noncomputable def eqU (x:V) (u:Value):Bool:=match u with
 | .none=>eqV .non x
 | .bool b=>eqV (.bl b) x
 | .int i _=>eqV (.int i) x
 | .str z _=>eqV (.str z) x
 | _=>false
theorem DY {x y:V} {u:Value} (r:aI y u) (f:gu y=true):eqU x u=eqV y x:=by
 cases y with
 | non=>cases r; rfl
 | bl b=>cases r; rfl
 | int i=>obtain ⟨t,rfl⟩:=r; rfl
 | str z=>obtain ⟨t,rfl⟩:=r; rfl
 | _=>exact absurd (show false=true from f) Lq
theorem sT {A:Around} {s:Shared} {x:V} {v:Value} (rx:aI x v) (fx:gu x=true):∀ {xs:List V} {us:List Value},aG xs us->xs.all gu=true->∀ u∈us,LQ A s u v (eqU x u)
 | _,_,.nil,_=>fun u hu=>by cases hu
 | y :: xs,u :: us,.cons r t,f=>fun u' hu=>by
  rw [OS,MG] at f
  rcases Lh.mp hu with rfl | hu
  ·rw [DY r f.1]; exact DX r rx f.1 fx
  ·exact sT rx fx t f.2 u' hu
theorem aD:cS X (.builtin "len") (fun xs H Q=>∃ p ys,xs=[.ref p]/\(SqL X.K H p ys\/SqT X.K H p ys)/\Q (.int ys.length) H):=by
 intro pins s σ H xs us Q I r h
 obtain ⟨p,ys,rfl,hq,q⟩:=h
 obtain ⟨u,rfl,rx⟩:=lW r
 cases rx
 have hn:=ug
 rcases hq with hq | hq
 ·obtain ⟨its,r',pl,hz⟩:=I.list hq
  have hlen:=r'.length
  exact Calls.call_len_list pl.isList (by simp only [Ls] <;> omega) ⟨.int ys.length,H,I.tok _,⟨s.toks + 1,by rw [Ls,hlen]⟩,q⟩
 ·obtain ⟨its,r',pl,hz⟩:=I.tuple hq
  have hlen:=r'.length
  exact len_tuple pl (by simp only [Ls] <;> omega) ⟨.int ys.length,H,I.tok _,⟨s.toks + 1,by rw [Ls,hlen]⟩,q⟩
theorem zb:cS X (.type "list") (fun xs H Q=>∃ p ys,xs=[.ref p]/\(SqL X.K H p ys\/SqT X.K H p ys)/\∀ l,H l=none->Q (.ref l) (upd H l (.lst ys))):=by
 intro pins s σ H xs us Q I r h
 obtain ⟨p,ys,rfl,hq,q⟩:=h
 obtain ⟨u,rfl,rx⟩:=lW r
 cases rx
 have fin:∀ (its:List Value),aG ys its->ys.length<=Lr->∀ (h':Heap) (c':Nat),(∀ b o',s.heap.get? b=some o'->h'.get? b=some o')->
   h'.get? s.heap.objs.size=some { cls:=.type "list",dict:=none,data:=.seq its.toArray c',slots:=#[] }->EP X pins σ Q (.ref s.heap.objs.size) { s with heap:=h' }:=fun its r' hz h' c' kp e=>
  ⟨.ref s.heap.objs.size,_,I.laid (t':=s.toks) kp (Le _) (show bD X.prog X.w _ h' _ (.lst ys) from ⟨hz,its,c',r',e⟩),rfl,q _ (I.hok.fresh (Le _))⟩
 rcases hq with hq | hq
 ·obtain ⟨its,r',pl,hz⟩:=I.list hq
  have hlen:=r'.length
  obtain ⟨o,ho,hc,n,hd⟩:=pl.isList
  exact call_list_seq p (.inl rfl) ho hc hd (fun h' c' kp e=>fin its r' hz h' c' kp e) (by simp only [Ls] <;> omega)
 ·obtain ⟨its,r',pl,hz⟩:=I.tuple hq
  have hlen:=r'.length
  obtain ⟨o,ho,hc,n,hd⟩:=pl
  exact call_list_seq p (.inr rfl) ho hc hd (fun h' c' kp e=>fin its r' hz h' c' kp e) (by simp only [Ls] <;> omega)
theorem oT:cS X (.type "tuple") (fun xs H Q=>∃ p ys,xs=[.ref p]/\((SqL X.K H p ys/\∀ l,H l=none->Q (.ref l) (upd H l (.tup ys)))\/(SqT X.K H p ys/\Q (.ref p) H))):=by
 intro pins s σ H xs us Q I r h
 obtain ⟨p,ys,rfl,h⟩:=h
 obtain ⟨u,rfl,rx⟩:=lW r
 cases rx
 rcases h with ⟨hq,q⟩ | ⟨hq,q⟩
 ·obtain ⟨its,r',pl,hz⟩:=I.list hq
  have hlen:=r'.length
  refine call_tuple_list pl.isList (fun h' kp=>?_) (by simp only [Ls] <;> omega)
  have I1:Inv X pins σ H { s with heap:=h' }:=I.kept (t':=s.toks) kp
  have I2:Inv X pins σ (upd H h'.objs.size (.tup ys)) { s with heap:=h'.push { cls:=.type "tuple",data:=.seq its.toArray } }:=
   I1.laid (t':=s.toks) (fun b o e=>Lb _ e) (Le _) (show bD X.prog X.w _ _ _ (.tup ys) from ⟨hz,its,r',eR.new _ _⟩)
  exact ⟨.ref h'.objs.size,_,I2,rfl,q _ (I1.hok.fresh (Le _))⟩
 ·obtain ⟨its,r',pl,hz⟩:=I.tuple hq
  exact call_tuple_same pl ⟨.ref p,H,I,rfl,q⟩
noncomputable def tyV (K:Fg) (T:String) (x:V) (H:Hp):Prop:=match x with
 | .str _=>T="str"
 | .int _=>T="int"
 | .ref p=>(T="list"/\∃ xs,SqL K H p xs)\/(T="tuple"/\∃ o,K.lookup p=some o/\o.cls=.type "tuple"/\o.dict=none)\/
   (T="dict"/\((∃ kvs,H p=some (.dK kvs))\/∃ kvs,H p=some (.dT kvs)))\/(T="set"/\∃ S n,H p=some (.set S n))
 | _=>False
theorem Jx {pins:List (Addr×Obj)} {σ:St} {H:Hp} {s:Shared} {T:String} {x:V} {v:Value} (I:Inv X pins σ H s) (r:aI x v) (ty:tyV X.K T x H):
  s.TypeIs v T/\∀ a,v=.ref a->∃ ob,s.heap.get? a=some ob/\ob.dict=none:=by
 cases x with
 | str z=>
  obtain ⟨t,rfl⟩:=r
  cases (show T="str" from ty)
  exact ⟨typeIs_str s z t,fun _ e=>nomatch e⟩
 | int i=>
  obtain ⟨t,rfl⟩:=r
  cases (show T="int" from ty)
  exact ⟨Ua s i t,fun _ e=>nomatch e⟩
 | ref p=>
  cases r
  rcases ty with ⟨rfl,xs,hq⟩ | ⟨rfl,o,hk,hc,hd⟩ | ⟨rfl,hk⟩ | ⟨rfl,S,n,hk⟩
  ·obtain ⟨its,_,pl,_⟩:=I.list hq
   refine ⟨pl.isList.typeIs,fun a e=>?_⟩
   cases e
   obtain ⟨o,n,e,c,hd,_⟩:=pl
   exact ⟨o,e,hd⟩
  ·refine ⟨⟨o,I.kIn p o hk,hc⟩,fun a e=>?_⟩
   cases e
   exact ⟨o,I.kIn _ o hk,hd⟩
  ·have z:∃ o,s.heap.get? p=some o/\o.ExactDict:=by
    rcases hk with ⟨kvs,hk⟩ | ⟨kvs,hk⟩
    ·obtain ⟨_,_,_,_,o,_,_,e,ex,_⟩:=I.hok p _ hk
     exact ⟨o,e,ex⟩
    ·obtain ⟨_,_,_,_,o,_,_,e,ex,_⟩:=I.hok p _ hk
     exact ⟨o,e,ex⟩
   obtain ⟨o,e,ex⟩:=z
   refine ⟨⟨o,e,ex.1⟩,fun a e2=>?_⟩
   cases e2
   exact ⟨o,e,ex.2.1⟩
  ·obtain ⟨o,_,_,_,e,ex,_⟩:=I.hok p _ hk
   refine ⟨⟨o,e,ex.1⟩,fun a e2=>?_⟩
   cases e2
   exact ⟨o,e,ex.2.1⟩
 | _=>exact NB ty
noncomputable def tBM (K:Fg) (T:String) (r:V->List V->Hp->VK->Prop) (to:TE) (t:TA):TE:=fun σ H Q=>to σ H fun x H1=>tyV K T x H1/\t σ H1 fun xs H2=>r x xs H2 Q
variable {o e:Expr} {es:List Expr} {to:TE} {t:TA} {name:Str} {apos cpos:Pos} {T id:String} {r:V->List V->Hp->VK->Prop}
theorem jC (pa:PlainAttrs T) (slot:Slot T name id) (hty:typeOf (.builtin id)=pure (.type "method_descriptor")) (hm:MtR X id r) (ho:PE X o to) (ha:PA X (e :: es) t)
  (hbase:OQ o name X.env (eval o X.env)=eval o X.env:=by rfl)
  (hfew:((backTo cpos (LD (e :: es) X.env)).all (fun x=>!x.1) && (Py cpos (OC [] X.env)).all (fun x=>x.1.isSome)
   && decide ((e :: es).length + ([]:List Keyword).length + (if ([]:List Keyword).isEmpty then 0 else 1) < 30))=true:=by rfl)
  (hline:(apos.endLine == cpos.line)=true:=by rfl) (hs:LD (e :: es) X.env=(false,eval e X.env) :: LD es X.env:=by rfl) (hplain:(backTo cpos (LD es X.env)).any (·.1)=false:=by rfl):
  PE X (.Call (.Attribute o name apos) (e :: es) [] cpos) (tBM X.K T r to t):=by
 intro pins s σ H Q I h
 refine Pq hbase hfew hline rfl (thn (ho pins s σ H _ I h) fun v s1 ⟨x,H1,I1,r1,ty,q1⟩=>?_)
 obtain ⟨h1,h2⟩:=Jx I1 r1 ty
 refine ⟨T,id,pa,slot,hty,h1,h2,?_⟩
 have hA:=ha cpos pins s1 σ H1 _ I1 q1
 rw [hs] at hA ⊢
 refine Pr (by show (false || (backTo cpos (LD es X.env)).any (·.1))=false; rw [hplain] <;> rfl) (PR ?_)
 exact thn hA fun us s2 ⟨vs,H2,I2,r2,q2⟩=>hm pins s2 σ H2 x vs v us Q I2 r1 r2 q2
end
end L2
namespace L2
open PySem PySem.Spec PyProof.Rows
noncomputable def MtM (X:Cx) (id:String) (r:V->List V->Hp->VK->Prop):Prop:=
 ∀ (pins:List (Addr×Obj)) (s:Shared) (σ:St) (H:Hp) (x:V) (xs:List V) (v:Value) (us:List Value) (Q:VK),Inv X pins σ H s->aI x v->aG xs us->r x xs H Q->
  wpAny (model X.prog X.w) X.A (call (.builtin id) (v :: us)) (EP X pins σ Q) X.xe s
theorem aG.one {x:V} {us:List Value} (h:aG [x] us):∃ u,us=[u]/\aI x u:=by
 cases h with
 | cons r t=>cases t; exact ⟨_,rfl,r⟩
theorem aG.two {x y:V} {us:List Value} (h:aG [x,y] us):∃ u v,us=[u,v]/\aI x u/\aI y v:=by
 cases h with
 | cons r t=>cases t with
  | cons q z=>cases z; exact ⟨_,_,rfl,r,q⟩
theorem aG.rep {xs:List V} {us:List Value} (h:aG xs us):∀ k:Nat,aG (LX k xs).flatten (LX k us).flatten
 | 0=>.nil
 | k + 1=>by
  rw [Oq,Oq,Pk,Pk]
  exact aG.append h (aG.rep h k)
theorem xc (its:List Value):∀ (k:Nat) (acc:List Value),
  Ub (fun x1 x2=>x1++x2) acc.toArray (LX k its.toArray)=(acc++(LX k its).flatten).toArray
 | 0,acc=>by simp
 | k + 1,acc=>by
  have e:acc.toArray++its.toArray=(acc++its).toArray:=by simp
  have e2:(acc++its)++(LX k its).flatten=acc++(LX (k + 1) its).flatten:=by
   rw [Oq,Pk,N8]
  rw [<-e2,<-xc its k (acc++its),<-e,Oq,Uc]
section
variable {X:Cx} {pins:List (Addr×Obj)} {σ:St} {H:Hp} {s:Shared} {l b:Addr} {xs ys zs:List V}
theorem Inv.lset {its its':List Value} {n:Nat} {f:Array Value->Array Value} {t':Nat} (I:Inv X pins σ H s) (hH:H l=some (.lst xs))
  (e:s.heap.get? l=some { cls:=.type "list",data:=.seq its.toArray n }) (hf:f its.toArray=its'.toArray) (hv:aG ys its') (hz:ys.length<=Lr):
  Inv X pins σ (upd H l (.lst ys)) { s with heap:=s.heap.update l (MD f),toks:=t' }:=by
 have q:=PySem.IsL.update e f
 rw [hf] at q
 refine I.write (x:=l) (e:=l) (by rw [hH]; exact trivial) (.inl rfl) (fun b' u hb hu=>(MT s.heap (MD f) (MU hb)).trans hu) ⟨_,q⟩ ?_
 exact ⟨hz,its',_,hv,q⟩
theorem Inv.lnew {its:List Value} {t':Nat} (I:Inv X pins σ H s) (hv:aG ys its) (hz:ys.length<=Lr):
  Inv X pins σ (upd H s.heap.objs.size (.lst ys)) { s with heap:=s.heap.push { cls:=.type "list",data:=.seq its.toArray },toks:=t' }:=
 I.laid (fun _ _ q=>Lb _ q) (Le _) ⟨hz,its,0,hv,Lk _ rfl⟩
theorem Inv.fresh (I:Inv X pins σ H s):H s.heap.objs.size=none:=I.hok.fresh (Le _)
theorem Inv.lstM (I:Inv X pins σ H s) (hH:H l=some (.lst xs)):xs.length<=Lr/\∃ (its:List Value) (n:Nat),aG xs its/\xs.length=its.length/\s.heap.get? l=some { cls:=.type "list",data:=.seq its.toArray n }:=by
 obtain ⟨z,its,n,r,e⟩:=I.hok l _ hH
 exact ⟨z,its,n,r,r.length,e⟩
theorem zc {n:Nat} (h:n<=Lr):Ol n=false:=by
 unfold Ol
 exact decide_eq_false (by omega)
end
section
variable {X:Cx}
noncomputable def fK:V->List V->Hp->VK->Prop:=fun x vs H Q=>∃ l xs y,x=.ref l/\vs=[y]/\H l=some (.lst xs)/\xs.length < Lr/\Q .non (upd H l (.lst (xs++[y])))
theorem d4:MtM X "list.append" fK:=by
 intro pins s σ H x vs v us Q I rx rv h
 obtain ⟨l,xs,y,rfl,rfl,hH,hz,q⟩:=h
 cases rx
 obtain ⟨u,rfl,ru⟩:=rv.one
 obtain ⟨z,its,n,r,hl,e⟩:=I.lstM hH
 refine PU F.slot_list_append ⟨_,e,rfl⟩ F.entry_list_append (F.args_list_append_2 _ _) (PySem.list_append l its.toArray n u (by rw [Ls]; omega)) ⟨e,?_⟩
 refine ⟨.non,_,I.lset (its':=its++[u]) hH e (by simp) (r.append (.cons ru .nil)) ?_,rfl,q⟩
 rw [Lz,OK]
 omega
noncomputable def wa:V->List V->Hp->VK->Prop:=fun x vs H Q=>∃ l b xs zs,x=.ref l/\vs=[.ref b]/\H l=some (.lst xs)/\H b=some (.lst zs)/\xs.length + zs.length<=Lr/\Q .non (upd H l (.lst (xs++zs)))
theorem DZ:MtM X "list.extend" wa:=by
 intro pins s σ H x vs v us Q I rx rv h
 obtain ⟨l,b,xs,zs,rfl,rfl,hH,hB,hz,q⟩:=h
 cases rx
 obtain ⟨u,rfl,ru⟩:=rv.one
 cases ru
 obtain ⟨z,its,n,r,hl,e⟩:=I.lstM hH
 obtain ⟨z2,its2,n2,r2,hl2,e2⟩:=I.lstM hB
 have hsz:its.toArray.size + its2.toArray.size<=Lr:=by rw [Ls,Ls]; omega
 have hlong:¬ (!its.toArray.isEmpty && Ol (its.toArray.size + its2.toArray.size))=true:=by
  rw [zc hsz,Qg]
  exact Lq
 refine PU F.slot_list_extend ⟨_,e,rfl⟩ F.entry_list_extend (F.args_list_extend_2 _ _)
  (AutoSeq1.list_extend_list_list_0 l its.toArray n b its2.toArray n2 hlong (by rw [Ls]; omega) (by omega)) ⟨e,e2,?_⟩
 refine ⟨.non,_,I.lset (its':=its++its2) hH e (by simp) (r.append r2) ?_,rfl,q⟩
 rw [Lz]
 omega
noncomputable def Jy:R2:=fun x y H Q=>∃ l b xs zs,x=.ref l/\y=.ref b/\H l=some (.lst xs)/\H b=some (.lst zs)/\xs.length + zs.length<=Lr/\∀ p,H p=none->Q (.ref p) (upd H p (.lst (xs++zs)))
theorem D0:OpR X (N4 .Add) Jy:=by
 intro pins s σ H x y v u Q I rx ry h
 obtain ⟨l,b,xs,zs,rfl,rfl,hH,hB,hz,q⟩:=h
 cases rx
 cases ry
 obtain ⟨z,its,n,r,hl,e⟩:=I.lstM hH
 obtain ⟨z2,its2,n2,r2,hl2,e2⟩:=I.lstM hB
 refine PySem.P.add_list e e2 ?_ (by rw [Ls,Ls]; omega)
 have ea:its.toArray++its2.toArray=(its++its2).toArray:=by simp
 rw [ea]
 exact ⟨.ref _,_,I.lnew (t':=s.toks) (r.append r2) (by rw [Lz]; omega),rfl,q _ I.fresh⟩
noncomputable def KY:R2:=fun x y H Q=>∃ l k xs,x=.ref l/\y=.int k/\H l=some (.lst xs)/\-(2 ^ 63)<=k/\k < 2 ^ 63/\xs.length * k.toNat<=Lr/\
 ∀ p,H p=none->Q (.ref p) (upd H p (.lst (LX k.toNat xs).flatten))
theorem HY {α:Type} (xs:List α) (k:Nat):(LX k xs).flatten.length=k * xs.length:=by
 induction k with
 | zero=>simp
 | succ k ih=>rw [Oq,Pk,Lz,ih,Nat.succ_mul,Nat.add_comm]
theorem Jz:OpR X (N4 .Mult) KY:=by
 intro pins s σ H x y v u Q I rx ry h
 obtain ⟨l,k,xs,rfl,rfl,hH,h1,h2,hz,q⟩:=h
 cases rx
 obtain ⟨t,rfl⟩:=ry
 obtain ⟨z,its,n,r,hl,e⟩:=I.lstM hH
 have hlen:its.toArray.size * k.toNat<=Lr:=by rw [Ls,<-hl]; exact hz
 have hcap:¬ its.toArray.size * k.toNat > (2 ^ 63 - 1) / 8:=by
  have:(Lr:Nat)<=(2 ^ 63 - 1) / 8:=by decide
  omega
 have hfit:¬ (!Builtin.List.listFitsIndex k)=true:=by
  rw [fitsIndex_both h1 h2]
  exact Lq
 have hlong:¬ Ol (its.toArray.size * k.toNat)=true:=by
  rw [zc hlen]
  exact Lq
 have hnew:Ub (fun x1 x2=>x1++x2) #[] (LX (if its.toArray.isEmpty=true then 0 else k.toNat) its.toArray)=(LX k.toNat its).flatten.toArray:=by
  have f0:∀ m:Nat,Ub (fun x1 x2=>x1++x2) #[] (LX m its.toArray)=(LX m its).flatten.toArray:=fun m=>by
   have:=xc its m []
   rw [List.nil_append] at this
   exact this
  rw [f0]
  cases its with
  | nil=>simp
  | cons a r'=>rw [if_neg (by simp)]
 refine wpAny_binaryOp_repeat_ref (T:="list") (U:="int") (by decide) ⟨_,e,rfl⟩ (fun s'=>Ua s' k t) noFill_list_mul F.fills_int_mul Ud repeat_list F.slot_int_index.lookup
  (PU Ud (Ua s k t) F.entry_int_rmul (F.args_int_rmul_2 _ _) (int___rmul___int_list k t l its.toArray n)
   ⟨e,rfl,⟨_,e,rfl⟩,PU F.slot_list_mul ⟨_,e,rfl⟩ F.entry_list_mul (F.args_list_mul_2 _ _) (AutoListH.list___mul___list_int_3 l its.toArray n k t hfit hcap hlong) ⟨e,?_⟩⟩)
 rw [hnew]
 exact ⟨.ref _,_,I.lnew (t':=s.toks) (r.rep k.toNat) (by rw [HY,Nh]; exact hz),rfl,q _ I.fresh⟩
end
section
variable {prog:Program} {w:World} {A:Around} {E:Value->Shared->Prop} {s:Shared}
end
section
variable {X:Cx}
end
end L2
namespace Att
open PySem PySem.W PySem.Calls PyProof.Rows
theorem uk {P:Params} {h:Heap}:∀ (ns:List Int) (vs:List Value),WellAll P h vs (ns.map WData.int)->IntsAre vs ns:=by
 intro ns
 induction ns with
 | nil=>
  intro vs w
  rw [OJ] at w
  cases w
  exact .nil
 | cons n ns ih=>
  intro vs w
  rw [LA] at w
  cases w with
  | cons a b=>
   cases a
   exact .cons _ _ (ih _ b)
theorem Ea {l:OpenLaw} {n:Nat} (hn:l.most=some n) {P:Params} {h:Heap} {args:List WData} {vals:List Value}
  (hpre:l.row.toRowW.claim.pre args=true) (hwl:WellAll P h vals args):
  ∃ a vs ns,vals=[LL a]/\args=[WData.list (ns.map WData.int)]/\h.get? a=some { cls:=.type "list",data:=.seq vs.toArray }/\IntsAre vs ns/\ns.length<=n:=by
 have hsh:WShape.hasAll [] args [.list .int]=true:=(pre_splitW hpre).1
 have hc:l.pre.holds [] { args:=args }=true:=(pre_splitW hpre).2
 obtain ⟨d,r,rfl,h1,h2⟩:=hasAllW_cons hsh
 obtain rfl:=hasAllW_nil h2
 obtain ⟨xs,rfl,h3⟩:=hasW_list h1
 obtain ⟨ns,rfl⟩:=items_int h3
 have hlen:ns.length<=n:=by
  unfold OpenLaw.pre at hc
  have h4:(WTm.not (.lt (.lit (.int (n:Int))) (.len (.arg 0)))).holds [] { args:=[.list (ns.map .int)] }=true:=by
   have h4:=(holds_andW hc).1
   rw [hn] at h4
   exact h4
  have h5:=condW_of h4 (w_not (w_lt w_lit (w_len_list (w_arg rfl))))
  rw [Lf] at h5
  refine Q5 fun q=>?_
  have q':(n:Int) < ((ns.length:Nat):Int):=by omega
  first
   | (rw [decide_eq_true q'] at h5; exact absurd h5 (by decide))
   | (simp at h5; omega)
 cases hwl with
 | cons w1 w2=>
  cases w2
  cases w1 with
  | list ho hall=>exact ⟨_,_,ns,rfl,rfl,ho,uk ns _ hall,hlen⟩
theorem Eb (l:OpenLaw) (args:List WData):l.row.toRowW.claim.post args (.bool true) args=true:=
 postW_of (r:=l.row.toRowW) (X:=(true == true))
  (show WShape.has [] (.bool true) .bool=true by first | rfl | decide | simp [WShape.has,WShape.arms,WShape.armsAll])
  (show (WTm.eq .res (.lit (.bool true))).value [] { args:=args,res:=some (.bool true),after:=args }=some (.bool (true == true)) from w_eq_bool (w_res rfl) w_lit) rfl
section
variable {prog:Program} {w:World} {A:Around} {E:Value->Shared->Prop} {s:Shared} {K:Frag}
end
end Att
namespace L2
open PySem PySem.Spec PyProof.Rows
theorem pZ:∀ {vs:List Value} {ns:List Int},IntsAre vs ns->aG (ns.map V.int) vs
 | _,_,.nil=>.nil
 | _,_,.cons n t h=>.cons ⟨t,rfl⟩ (pZ h)
noncomputable def JA (H:Hp):Prop:=∀ b,H b=none\/∃ o xs,H b=some (.frz o (.lst xs))
theorem FH {P:Program} {w:World} {K:Fg} {mg mb:Str->Option Value} {CX:CXT} {k:Nat} {fa a:Addr} {fd:LB} {x:Str} {sp:Sp} {s₁:Shared} {vs:List Value} {ns:List Int}
  (KX:K.In s₁.heap) (hns:s₁.heap.Ns LO mg) (hb:s₁.heap.Ns T5 mb) (hbb:∀ x:Str,x≠"__name__"->mb x=O2 x) (hlim:s₁.heap.NoLimit) (hg:s₁.gens=#[])
  (ha:s₁.heap.get? a=some { cls:=.type "list",data:=.seq vs.toArray }) (hi:IntsAre vs ns) (hl:ns.length<=Lr) (hr:bQ k callerA)
  (F:∀ base:Heap,K.In base->base.Ns LO mg->gO P w K mg base CX k fa fd [x] sp) (hbind:∀ (s:Shared) (u:Value),BindsTo s fd ⟨[u],[]⟩ [(x,u)])
  (hsp:∀ H:Hp,JA H->SqL K H a (ns.map V.int)->sp [.ref a] H (fun v _=>v=.bl true) fun _ _ _=>False)
  (hCX:∀ H e s',CX [] H s₁ (fun _ _ _=>False) e s'->False):
  codeAny (model P w) callerA (.call (.ref fa) ⟨[.ref a],[]⟩) (fun r s'=>r=.ok (.ret (.bool true))/\OldK s₁.heap s'.heap/\s'.os=s₁.os/\AllBare s'.gens) s₁:=by
 have rv:=pZ hi
 have lenV:=hi.length
 have core:∀ H:Hp,JA H->SqL K H a (ns.map V.int)->HOk P w H s₁.heap->(∀ b,H b≠none->b=a)->(H a≠none->K.lookup a=none)->
   codeAny (model P w) callerA (.call (.ref fa) ⟨[.ref a],[]⟩) (fun r s'=>r=.ok (.ret (.bool true))/\OldK s₁.heap s'.heap/\s'.os=s₁.os/\AllBare s'.gens) s₁:=by
  intro H hO hS hok hA hK
  have base_of:∀ {b:Addr} {o:Obj},s₁.heap.get? b=some o->H b=none->(nI s₁.heap H).get? b=some o:=fun e n=>Ft e n
  have noA:∀ {b:Addr} {o:Obj} {es:Array SJ} {ep:Nat},s₁.heap.get? b=some o->o.data=.dict es ep->H b=none:=fun {b o es ep} e d=>by
   cases q:H b with
   | none=>rfl
   | some u=>
    have e':b=a:=hA b (by rw [q]; simp)
    subst e'
    rw [ha] at e; cases e
    have d':Data.seq vs.toArray _=Data.dict es ep:=d
    cases d'
  have nsK:∀ {b:Addr} {m:Str->Option Value},s₁.heap.Ns b m->(nI s₁.heap H).Ns b m:=fun {b m} ⟨o,es,ep,e,d,r⟩=>⟨o,es,ep,base_of e (noA e d),d,r⟩
  have hKb:K.In (nI s₁.heap H):=fun b o e=>base_of (KX b o e) (by
   cases q:H b with
   | none=>rfl
   | some u=>
    have e':b=a:=hA b (by rw [q]; simp)
    subst e'
    rw [hK (by rw [q]; simp)] at e; cases e)
  have hM:Mod K mg (nI s₁.heap H):=⟨hKb,nsK hns,⟨mb,nsK hb,hbb⟩,let ⟨mc,h1,h2⟩:=hlim; ⟨mc,nsK h1,h2⟩⟩
  have e0:sR P w K mg (nI s₁.heap H) callerA [] s₁ H:=⟨rfl,hM,fun b o e=>Hy e,PN (DI _ _),trivial,fun b hb=>absurd (show b∈([]:List Addr) from hb) (by simp),hok,.of_eq hg⟩
  refine Oj ((F _ hKb (nsK hns)).run callerA [] s₁ H ⟨[.ref a],[]⟩ [.ref a] [.ref a] _ _ hr e0 (hbind s₁ (.ref a)) (.cons rfl .nil) (hsp H hO hS)) fun r s' h=>?_
  cases r with
  | error e=>exact (hCX H e s' h).elim
  | ok fl=>
   cases fl with
   | next=>exact NB h
   | brk=>exact NB h
   | cont=>exact NB h
   | ret u=>
    obtain ⟨v,H',os,bare,un,hok',r',q⟩:=h
    have q':v=.bl true:=q
    subst q'
    obtain rfl:u=Mo true:=r'
    refine ⟨rfl,OldK.of_keep fun b o e=>?_,os,bare⟩
    cases q:H b with
    | none=>exact un.keep b o e q (by intro z; exact absurd (show b∈([]:List Addr) from z) (by simp)) (by simp)
    | some u=>
     rcases hO b with z | ⟨ob,xs,z⟩
     ·rw [q] at z; cases z
     ·have z2:=un.frzs b ob _ z
      obtain ⟨e1,_⟩:=hok b _ z
      obtain ⟨e2,_⟩:=hok' b _ z2
      rw [e] at e1; cases e1
      exact e2
 cases hk:K.lookup a with
 | some o=>
  have e:=KX a o hk
  rw [ha] at e
  cases e
  refine core (fun _=>none) (fun _=>.inl rfl) (.inr ⟨_,vs.toArray,_,hk,rfl,rfl,rfl,by rw [Ls,lenV]; exact hl,by simpa using rv⟩) (fun b u z=>by have z':(none:Option HO)=some u:=z; cases z') (fun b z=>absurd rfl z) fun z=>absurd rfl z
 | none=>
  refine core (fun b=>if b=a then some (.frz { cls:=.type "list",data:=.seq vs.toArray } (.lst (ns.map V.int))) else none) (fun b=>?_) (.inl (.inr ⟨{ cls:=.type "list",data:=.seq vs.toArray },if_pos rfl⟩)) (fun b u z=>?_) (fun b z=>?_) fun _=>hk
  ·by_cases hb:b=a
   ·exact .inr ⟨_,_,if_pos hb⟩
   ·exact .inl (if_neg hb)
  ·by_cases hb:b=a
   ·have z':=(if_pos hb).symm.trans z
    cases z'
    subst hb
    exact ⟨ha,by rw [Lf]; exact hl,vs,_,rv,ha⟩
   ·have z':=(if_neg hb).symm.trans z
    cases z'
  ·by_cases hb:b=a
   ·exact hb
   ·exact absurd (if_neg hb) z
end L2
namespace L2
open PySem PySem.Spec PyProof.Rows
end L2
namespace L2
open PySem PySem.Spec PyProof.Rows
noncomputable def jq (s:Stmt) (j:Nat):Stmt:=match s with
 | .ClassDef _ _ _ body _ _ _ _ _ _ _=>body.getD j (.Pass ⟨0,0,0,0⟩)
 | _=>.Pass ⟨0,0,0,0⟩
noncomputable def jr (s:Stmt):Arguments:=match s with
 | .FunctionDef _ a _ _ _ _ _ _ _ _=>a
 | _=>{ posonlyargs:=[],args:=[],vararg:=none,kwonlyargs:=[],kw_defaults:=[],kwarg:=none,defaults:=[] }
noncomputable def eV (s:Stmt):List Stmt:=match s with
 | .FunctionDef _ _ b _ _ _ _ _ _ _=>b
 | _=>[]
noncomputable def ac (s:Stmt):Scope:=match s with
 | .FunctionDef _ _ _ _ _ _ sc _ _ _=>sc
 | _=>{ kind:=.function,names:=[],isGenerator:=false,isCoroutine:=false }
noncomputable abbrev CX0:CXT:=fun _ _ _ _ _ _=>False
noncomputable abbrev E0:XK:=fun _ _ _=>False
theorem yy {X:Cx}:k9 CX0 X E0:=fun _ _ _ _ _ _ _ h=>h.elim
structure Fun (K:Fg) (x qual:Str) (st:Stmt) (f:Addr) (fd:LB):Prop where
 ex:∃ (oc:Value) (od:Option Addr) (kV doc pm:Value) (an:Option Addr) (cdv ct:Value) (osl:Array (Option Value)),
  fd=O4 x qual (jr st) (eV st) (ac st) .none kV doc pm an cdv ct/\K.lookup f=some ⟨oc,od,.func fd,osl⟩/\RL K cdv qual=true
 kp:OI K (.ref f)=true
section
variable {P:Program} {w:World} {K:Fg} {mg:Str->Option Value} {base:Heap}
theorem Fun.ok {x qual:Str} {st:Stmt} {f:Addr} {fd:LB} {N ps:List Str} {k:Nat} {sp:Sp} (F:Fun K x qual st f fd) (S:aB N ps (ac st)) (len:∀ vs H Q E,sp vs H Q E->vs.length=ps.length)
  (hbody:∀ (cdv:Value) (A:Around) (outer:List Env) (s:Shared) (H:Hp) (vs:List V) (Q:VK) (E:XK),bQ k (A.deeper (envOfC qual (ac st) s.heap.objs.size f cdv))->sp vs H Q E->
   ∃ t,PSs (nL CX0 P w K mg base N qual (ac st) f cdv A outer s H E).nox (eV st) t/\t { nx:=fun _ H'=>Q .non H',rt:=Q } (start N vs) H):gO P w K mg base CX0 (k + 1) f fd ps sp:=by
 obtain ⟨oc,od,kV,doc,pm,an,cdv,ct,osl,rfl,lk,hcd⟩:=F.ex
 refine Ko lk hcd S len fun A outer s H vs Q E hr hsp=>?_
 obtain ⟨t,h,q⟩:=hbody cdv A outer s H vs Q E hr hsp
 exact ⟨t,h.nox,q⟩
theorem Fun.binds {x qual:Str} {st:Stmt} {f:Addr} {fd:LB} {ps:List Str} (F:Fun K x qual st f fd)
  (h:∀ (kV doc pm:Value) (an:Option Addr) (cdv ct:Value) (us:List Value),us.length=ps.length->bindArgs (O4 x qual (jr st) (eV st) (ac st) .none kV doc pm an cdv ct) ⟨us,[]⟩=pure (ps.zip us)):fk K fd ps []:=by
 obtain ⟨oc,od,kV,doc,pm,an,cdv,ct,osl,rfl,lk,hcd⟩:=F.ex
 exact .all (h kV doc pm an cdv ct)
theorem Ec {x qual:Str} {st:Stmt} {f:Addr} {oc:Value} {od an:Option Addr} {osl:Array (Option Value)} {kV doc pm cdv ct:Value} (l:K.lookup f=some ⟨oc,od,.func (O4 x qual (jr st) (eV st) (ac st) .none kV doc pm an cdv ct),osl⟩)
  (c:RL K cdv qual=true) (k:OI K (.ref f)=true):Fun K x qual st f (O4 x qual (jr st) (eV st) (ac st) .none kV doc pm an cdv ct):=⟨⟨oc,od,kV,doc,pm,an,cdv,ct,osl,rfl,l,c⟩,k⟩
end
theorem Ed {n:Nat} (h:n<=1000):n < Lr:=Ov h (by decide)
section
variable {X:Cx}
theorem pv (i:Nat) {x:Str} {pos:Pos} (hN:X.N[i]?=some x:=by rfl) (hv:Vis X.env.scope x:=by first | exact Lp rfl | exact OT (Lp rfl) | exact OT (OT rfl)) (hd:(x == ("__debug__":Str))=false:=by decide)
  (hcd:(x == ("__classdict__":Str))=false:=by decide):PE X (.Name x pos) (ab i):=DJ hN hv hd hcd
end
theorem nP {A B:Prop} (h:B):if false=true then A else B:=by
 rw [if_neg Lq]
 exact h
theorem p0 {A B:Prop} (h:A):if true=true then A else B:=by
 rw [if_pos rfl]
 exact h
noncomputable def am (H H':Hp):Prop:=∀ b o,H b=some o->H' b=some o
theorem am.refl (H:Hp):am H H:=fun _ _ h=>h
theorem am.trans {H H1 H2:Hp} (a:am H H1) (b:am H1 H2):am H H2:=fun c o h=>b c o (a c o h)
theorem am.free {H H':Hp} (e:am H H') {l:Addr} (h:H' l=Option.none):H l=Option.none:=by
 cases q:H l with
 | none=>rfl
 | some o=>
  rw [e l o q] at h
  cases h
theorem am.seq {K:Fg} {H H':Hp} {a:Addr} {xs:List V} (e:am H H') (h:SqL K H a xs):SqL K H' a xs:=by
 rcases h with (h | ⟨o,h⟩) | h
 ·exact .inl (.inl (e _ _ h))
 ·exact .inl (.inr ⟨o,e _ _ h⟩)
 ·exact .inr h
end L2
end
namespace L2
open PySem PyProof.Rows
section
open PySem.Spec
theorem nQ {a b:Addr} {n:Nat} (h:a < n) (h':n<=b):a≠b:=LR (LH h h')
theorem JB {a b:Addr} {n:Nat} (h:n<=a) (h':b < n):a≠b:=Ny (LH h' h)
noncomputable def eW (env:Env):List (Str×L7)->List (Str×Addr)->List (Str×Addr)
 | [],acc=>acc
 | (n,k) :: r,acc=>if k=.free then (match env.cells.lookup n with | some c=>eW env r ((n,c) :: acc) | none=>eW env r acc) else eW env r acc
theorem kt {env:Env}:∀ (ns:List (Str×L7)) (acc:List (Str×Addr)),(∀ p∈acc,env.cells.lookup p.1=some p.2)->∀ p∈eW env ns acc,env.cells.lookup p.1=some p.2
 | [],acc,h=>by intro p hp; exact h p hp
 | (n,k) :: r,acc,h=>by
  intro p hp
  rw [eW] at hp
  split at hp
  ·split at hp
   ·rename_i c hc
    refine kt r _ (fun q hq=>?_) p hp
    rcases Lh.mp hq with rfl | hq
    ·exact hc
    ·exact h q hq
   ·exact kt r acc h p hp
  ·exact kt r acc h p hp
theorem nR {env:Env}:∀ (ns:List (Str×L7)) (acc:List (Str×Addr)),∀ p∈acc,p∈eW env ns acc
 | [],acc=>fun p hp=>hp
 | (n,k) :: r,acc=>fun p hp=>by
  rw [eW]
  split
  ·split
   ·exact nR r _ p (Ln _ hp)
   ·exact nR r acc p hp
  ·exact nR r acc p hp
theorem nU {env:Env}:∀ (ns:List (Str×L7)) (acc:List (Str×Addr)) (x:Str) (c:Addr),(x,MO)∈ns->env.cells.lookup x=some c->(x,c)∈eW env ns acc
 | [],acc,x,c=>fun h _=>(nomatch h)
 | (n,k) :: r,acc,x,c=>fun h hc=>by
  rw [eW]
  rcases Lh.mp h with e | h
  ·cases e
   rw [if_pos rfl,hc]
   exact nR r _ _ Lj
  ·split
   ·split
    ·exact nU r _ x c h hc
    ·exact nU r acc x c h hc
   ·exact nU r acc x c h hc
theorem oU {α:Type} {x:Str} {c:α}:∀ {l:List (Str×α)},(x,c)∈l->∃ d,l.lookup x=some d
 | (y,d) :: r,h=>by
  rw [My]
  cases e:x == y with
  | true=>exact ⟨d,rfl⟩
  | false=>
   rcases Lh.mp h with q | q
   ·cases q
    rw [beq_self_eq_true] at e
    cases e
   ·exact oU q
theorem fL {env:Env} {ns:List (Str×L7)} {x:Str} {c:Addr} (h:(eW env ns []).lookup x=some c):env.cells.lookup x=some c:=
 kt ns [] (fun _ hp=>(nomatch hp)) (x,c) (Mw h)
theorem xf {env:Env} {ns:List (Str×L7)} {x:Str} {c:Addr} (hm:(x,MO)∈ns) (hc:env.cells.lookup x=some c):(eW env ns []).lookup x=some c:=by
 obtain ⟨d,hd⟩:=oU (nU ns [] x c hm hc)
 have e:=fL hd
 rw [hc] at e
 cases e
 exact hd
theorem ul {scope:Scope} {env:Env} (h:∀ y∈scope.names,y.2=.free->∃ c,env.cells.lookup y.1=some c):Sb scope env=pure (eW env scope.names []):=by
 have go:∀ (ns:List (Str×L7)) (acc:List (Str×Addr)),(∀ y∈ns,y.2=.free->∃ c,env.cells.lookup y.1=some c)->
   (forIn ns acc fun (x:Str×L7) (cs:List (Str×Addr))=>(match x with
    | (name,kind)=>if (kind == MO)=true then (do let c <-cellOf env name; pure (Ow ((name,c) :: cs))) else pure (Ow cs):Sem (ForInStep (List (Str×Addr)))))=(pure (eW env ns acc):Sem (List (Str×Addr))):=by
  intro ns
  induction ns with
  | nil=>intro acc _; rfl
  | cons y r ih=>
   intro acc hy
   obtain ⟨n,k⟩:=y
   have ih':=fun acc=>ih acc fun z hz=>hy z (Ln _ hz)
   rw [O0,eW]
   by_cases hk:k=.free
   ·subst hk
    obtain ⟨c,hc⟩:=hy (n,.free) Lj rfl
    have hc':env.cells.lookup n=some c:=hc
    simp only [beq_self_eq_true,if_true,cellOf,hc',pure_bind]
    exact ih' _
   ·have hb:(k == MO)=false:=by simpa using hk
    simp only [hb,Mt,if_false,pure_bind,if_neg hk]
    exact ih' _
 unfold Sb
 have g:=go scope.names [] h
 simp only [bind_pure]
 exact g
structure p9 (sc scope:Scope) (NX N:List Str) (ix:List (Option Nat)):Prop where
 kind:scope.kind=.function
 nocell:∀ y∈scope.names,y.2≠.cell
 names:∀ y∈scope.names,y.2=.local->scope.names.lookup y.1=some .local
 free:∀ y∈scope.names,y.2=.free->sc.names.lookup y.1=some .cell\/sc.names.lookup y.1=some .free
 nd:N.Nodup
 len:ix.length=N.length
 at_:∀ p∈N.zip ix,∀ i∈p.2,NX[i]?=some p.1/\scope.names.lookup p.1=some .free
noncomputable def sub (ix:List (Option Nat)) (σ:St):St:=ix.map fun o=>match o with | some i=>(match σ[i]? with | some v=>v | none=>none) | none=>none
noncomputable def cj (X:Cx) (N:List Str) (scope:Scope) (C:Addr) (s:Shared) (H:Hp) (fp:List Addr):Cx where
 prog:=X.prog
 w:=X.w
 K:=X.K
 mg:=X.mg
 base:=X.base
 A:=X.A
 N:=N
 s₀:=s
 H₀:=H
 env:=Sd scope (eW X.env scope.names []) C X.env
 outer:=X.stack
 stack:=X.stack
 ex:=fp
 fn:=fun _=>false
 calm:=X.calm
 pn:=[]
 xe:=fun _ _=>False
theorem qa {scope:Scope} {env:Env} {x:Str} {k:L7} (h:(relabel scope env).names.lookup x=some k):scope.names.lookup x=some k\/(k=.cell/\scope.names.lookup x=some .free):=by
 have go:∀ ns:List (Str×L7),(ns.map fun (n,k)=>if (k == MO && env.scope.kind == .function && env.kindOf n == some .cell) then (n,Pu) else (n,k)).lookup x=some k->
   ns.lookup x=some k\/(k=.cell/\ns.lookup x=some .free):=by
  intro ns
  induction ns with
  | nil=>intro q; simp at q
  | cons y r ih=>
   obtain ⟨n,k'⟩:=y
   intro q
   rw [LA] at q
   by_cases hc:(k' == MO && env.scope.kind == .function && env.kindOf n == some .cell)=true
   ·simp only [hc,if_true] at q
    have hk':k'=.free:=by
     have:=(MG _ _ ▸ hc)
     have h1:=(MG _ _ ▸ this.1)
     exact eq_of_beq h1.1
    subst hk'
    rw [My] at q ⊢
    cases e:x == n with
    | true=>
     rw [e] at q
     cases q
     exact .inr ⟨rfl,rfl⟩
    | false=>
     rw [e] at q
     exact ih q
   ·simp only [hc] at q
    rw [if_neg (by simp)] at q
    rw [My] at q ⊢
    cases e:x == n with
    | true=>rw [e] at q; exact .inl q
    | false=>rw [e] at q; exact ih q
 exact go scope.names h
theorem zd {scope:Scope} {env:Env} {x:Str} (h:scope.names.lookup x=some .free):(relabel scope env).names.lookup x=some .cell\/(relabel scope env).names.lookup x=some .free:=by
 have go:∀ ns:List (Str×L7),ns.lookup x=some .free->
   (ns.map fun (n,k)=>if (k == MO && env.scope.kind == .function && env.kindOf n == some .cell) then (n,Pu) else (n,k)).lookup x=some .cell\/
   (ns.map fun (n,k)=>if (k == MO && env.scope.kind == .function && env.kindOf n == some .cell) then (n,Pu) else (n,k)).lookup x=some .free:=by
  intro ns
  induction ns with
  | nil=>intro q; simp at q
  | cons y r ih=>
   obtain ⟨n,k'⟩:=y
   intro q
   rw [LA]
   rw [My] at q
   cases e:x == n with
   | true=>
    rw [e] at q
    cases q
    by_cases hc:(MO == MO && env.scope.kind == .function && env.kindOf n == some .cell)=true
    ·simp only [hc,if_true]
     rw [My,e]
     exact .inl rfl
    ·simp only [hc]
     rw [if_neg (by simp),My,e]
     exact .inr rfl
   | false=>
    rw [e] at q
    have z:=ih q
    by_cases hc:(k' == MO && env.scope.kind == .function && env.kindOf n == some .cell)=true
    ·simp only [hc,if_true]
     rw [My,e]
     exact z
    ·simp only [hc]
     rw [if_neg (by simp),My,e]
     exact z
 exact go scope.names h
theorem Inv.gone {X:Cx} {pins:List (Addr×Obj)} {σ σ₂:St} {H H₂:Hp} {s s₂:Shared} {C:Addr} {h'':Heap} (I:Inv X pins σ H s) (I2:Inv X pins σ₂ H₂ s₂) (hC:s₂.heap.objs.size<=C) (hn:H C=none) (hs:LC C s.heap h''):Inv X pins σ H { s with heap:=h'' }:=
 I.turned (t':=s.toks) (it:=C) (fun b o hb e=>hs.extBut b o hb e) hn (Ny (LH I2.lt hC)) (.inr (LS I2.sz hC))
  (fun x c e=>by
   obtain ⟨v,o,ho,_⟩:=I2.cell x c e
   exact nQ (Lm ho) hC) fun q hq=>nQ (Lm (I2.pin q hq).1) hC
noncomputable def PTL (X:Cx) (ifs:List Expr) (t:TT):Prop:=
 ∀ (pins:List (Addr×Obj)) (s:Shared) (σ:St) (H:Hp) (Q:Bool->Hp->Prop),Inv X pins σ H s->t σ H Q->
  wpAny (model X.prog X.w) X.A (forIn ifs true fun c r=>if r=true then do let ok <-isTrue c X.env (eval c X.env); pure (Ow ok) else pure (Ow r)) (TP X pins σ Q) X.xe s
noncomputable def bH:TT:=fun _ H Q=>Q true H
theorem bO {X:Cx}:PTL X [] bH:=fun _ _ _ H _ I h=>wpAny_tests_nil ⟨H,I,h⟩
theorem qW {X:Cx} {c:Expr} {t:TT} (h:PT X c t):PTL X [c] t:=fun pins s σ H Q I q=>wpAny_tests_one (h pins s σ H Q I q)
noncomputable def cg (J:It) (g:TG) (tt:TT) (te:TE) (σ₀:St) (p:Addr) (Q:VK) (W:Nat->Nat->List V->Hp->Prop):Prop:=
 ∀ i m acc H,W i m acc H->H p=some (.lst acc)/\
  ((J.stop i H/\Q (.ref p) H)\/(J.go i H/\acc.length < Lr/\∃ N:List V->Hp->Prop,(∀ acc' H',N acc' H'->∃ m',m' < m/\W (i + 1) m' acc' H')/\
   ∀ x H1,J.yld i H x H1->g x σ₀ H1 fun σ2 H2=>tt σ2 H2 fun b H3=>if b=true then te σ2 H3 fun y H4=>H4 p=some (.lst acc)/\N (acc++[y]) (upd H4 p (.lst (acc++[y]))) else N acc H3))
noncomputable abbrev CF (α:Type):=Addr->Shared->Hp->List Addr->α
noncomputable def bV (wi:TI) (g:CF TG) (tt:CF TT) (te:CF TE) (ix:List (Option Nat)):TE:=fun σ H Q=>wi σ H fun J H1=>∀ p,H1 p=none->
 ∃ W:Nat->Nat->List V->Hp->Prop,(∃ m,W 0 m [] (upd H1 p (.lst [])))/\∀ C s' H' fp,cg J (g C s' H' fp) (tt C s' H' fp) (te C s' H' fp) (sub ix σ) p Q W
section
variable {X:Cx} {elt tg iter:Expr} {ifs:List Expr} {scope sc:Scope} {pos:Pos} {NX N:List Str} {ix:List (Option Nat)} {wi:TI} {g:CF TG} {tt:CF TT} {te:CF TE}
theorem Ee {prog:Program} {w:World} {A:Around} {R:Result->Shared->Prop} {s:Shared} {it acc:Value} {env:Env} (I:Nat->Shared->Prop)
  (turn:∀ n s,I n s->wpAny (model prog w) A (pyNext it) (fun r s₁=>match r with
   | none=>R (.ok .next) s₁
   | some v=>wpAny (model prog w) A (PM tg it v) (fun _ s₁'=>wpAny (model prog w) A (assign tg env v) (fun _ s₂=>
     wpAny (model prog w) A (forIn ifs true fun c r=>if r=true then do let ok <-isTrue c env (eval c env); pure (Ow ok) else pure (Ow r)) (fun ok s₃=>
      if ok=true then wpAny (model prog w) A (eval elt env) (fun x s₄=>
       wpAny (model prog w) A (call (.builtin "list.append") [acc,x]) (fun _ s₅=>∃ m,m < n/\I m s₅) (fun _ _=>False) s₄) (fun _ _=>False) s₃
      else ∃ m,m < n/\I m s₃) (fun _ _=>False) s₂) (fun _ _=>False) s₁') (fun _ _=>False) s₁) (fun _ _=>False) s)
  (n:Nat) (h:I n s):codeAny (model prog w) A (.compLoop (.ListComp elt [⟨tg,iter,ifs,0⟩] scope pos) 0 it acc env) R s:=by
 refine codeAny_loop rfl I (fun n s hI=>?_) n h
 show wpAny _ A ((compTurn (.ListComp elt [⟨tg,iter,ifs,0⟩] scope pos) 0 it acc env).onRaise (fun x=>do noteFrame x env; theTreesLotGoes x)) _ _ s
 refine wpAny_noted ?_
 rw [compTurn_list]
 refine La (Sm (La (M1 (turn n s hI) (fun r s₁ h₁=>?_) fun _ _ z=>z.elim)))
 cases r with
 | none=>exact Lc h₁
 | some v=>
  refine La (M1 h₁ (fun _ s₁' h₁'=>?_) fun _ _ z=>z.elim)
  refine La (M1 h₁' (fun _ s₂ h₂=>La (M1 h₂ (fun ok s₃ h₃=>?_) fun _ _ z=>z.elim)) fun _ _ z=>z.elim)
  cases ok with
  | false=>exact Lc ⟨rfl,h₃⟩
  | true=>exact La (La (M1 h₃ (fun x s₄ h₄=>La (M1 h₄ (fun _ s₅ h₅=>Lc (Lc ⟨rfl,h₅⟩)) fun _ _ z=>z.elim)) fun _ _ z=>z.elim))
theorem um {pins:List (Addr×Obj)} {σ:St} {H:Hp} {s:Shared} {fp:List Addr} {it:Addr} {J:It} {tn:Nat->Heap->Prop} {Q:VK} {E:Value->Shared->Prop} {RR:Value->Addr->Result->Shared->Prop}
  (hc:X.calm=true) (hsc:X.env.scope=sc) (hNX:X.N=NX) (S:p9 sc scope NX N ix)
  (hg:∀ C s H fp,PG (cj X N scope C s H fp) tg (g C s H fp)) (ht:∀ C s H fp,PTL (cj X N scope C s H fp) ifs (tt C s H fp)) (he:∀ C s H fp,PE (cj X N scope C s H fp) elt (te C s H fp))
  (I:Inv X pins σ H s) (T:pV X.prog X.w X.K tg J fp it tn) (st:tn 0 s.heap) (hf:∀ b∈fp,j9 X pins H b)
  (hq:∀ p,H p=none->∃ W:Nat->Nat->List V->Hp->Prop,(∃ m,W 0 m [] (upd H p (.lst [])))/\∀ C s' H' fp,cg J (g C s' H' fp) (tt C s' H' fp) (te C s' H' fp) (sub ix σ) p Q W)
  (hR:∀ p C s' H' m,s.heap.objs.size<=p->s.heap.objs.size<=C->s'.heap.Ns C m->H' C=none->Q (.ref p) H'->Inv X pins σ H' s'->RR (.ref p) C (.ok .next) s'):
  wpAny (model X.prog X.w) X.A (newList []) (fun acc s₃=>wpAny (model X.prog X.w) X.A (newFunctionEnv scope X.env.globals (eW X.env scope.names []) [] X.env.qual none .none (some X.env)) (fun cenv s₄=>
   codeAny (model X.prog X.w) X.A (.compStart (.ListComp elt [⟨tg,iter,ifs,0⟩] scope pos) 0 (.ref it) acc { cenv with scope:=relabel scope X.env }) (RR acc cenv.locals) s₄) E s₃) E s:=by
 refine Md (wpAny_newFunctionEnv S.nocell (by intro y hy; simp at hy) (fun h₁ hns₁ hsb₁=>?_) S.kind)
 dsimp only at hns₁ hsb₁ ⊢
 have hsz:(s.heap.push { cls:=.type "list",dict:=none,data:=.seq ([]:List Value).toArray }).objs.size=s.heap.objs.size + 1:=Ma ..
 generalize hC:(s.heap.push { cls:=.type "list",dict:=none,data:=.seq ([]:List Value).toArray }).objs.size=C at hns₁ hsb₁ ⊢
 rw [hsz] at hC
 generalize hp:s.heap.objs.size=p at hC
 have pC:p≠C:=by omega
 have old:∀ b o,s.heap.get? b=some o->h₁.get? b=some o:=fun b o e=>hsb₁.extBut b o (nQ (Lm e) (by omega)) (Lb _ (Lb _ e))
 have hnew:h₁.get? p=some { cls:=.type "list",data:=.seq ([]:List Value).toArray }:=hsb₁.extBut _ _ pC (Lb _ (by rw [<-hp]; exact Lk _ rfl))
 have hfp:H p=none:=I.hok.fresh (by omega)
 have hfC:H C=none:=I.hok.fresh (by omega)
 have lt:∀ b∈fp,b < p:=fun b hb=>by
  obtain ⟨o,e,_⟩:=T.obj 0 _ st b hb
  rw [<-hp]
  exact Lm e
 have hcells:∀ y∈scope.names,y.2=.free->∃ c,X.env.cells.lookup y.1=some c:=fun y hy hk=>by
  refine I.ok.has y.1 ?_
  show X.env.scope.names.lookup y.1=some .cell\/X.env.scope.names.lookup y.1=some .free
  rw [hsc]
  exact S.free y hy hk
 have noown:∀ x,scope.names.lookup x≠some .cell:=fun x e=>S.nocell _ (Mw e) rfl
 have hok:(cj X N scope C s H fp).Ok:=by
  refine ⟨I.ok.mod,S.kind,I.ok.glob,I.ok.blt,by show s.heap.objs.size<=C; omega,fun x y c h1 h2=>I.ok.inj x y c (fL h1) (fL h2),fun x hx=>?_,fun x c z=>(by cases z),I.ok.hd,I.ok.frames,.inl rfl,fun b hb=>?_,I.bs,LS I.ok.bsz I.sz,fun b o e hb=>?_,fun b hb z=>?_,I.stack,I.stkFree⟩
  ·have hx':scope.names.lookup x=some .free:=by
    rcases hx with hx | hx
    ·rcases qa hx with q | q
     ·exact absurd q (noown x)
     ·exact q.2
    ·rcases qa hx with q | q
     ·exact q
     ·exact q.2
   obtain ⟨c,hc'⟩:=hcells _ (Mw hx') rfl
   exact ⟨c,xf (Mw hx') hc'⟩
  ·refine ⟨?_,fun x c e=>(hf b hb).2.2.2.2.1 x c (fL e)⟩
   show b≠C
   exact nQ (lt b hb) (by omega)
  ·rcases (hf b hb).2.2.2.1 with z | z
   ·exact I.ok.noex b o e z
   ·exact absurd (LH (Lm e) (LS I.ok.bsz z)) (M5 _)
  ·rcases Lh.mp (I.stkSub b z) with q | q
   ·exact (hf b hb).2.1 q
   ·exact (hf b hb).2.2.1 q
 have locs:∀ h':Heap,(∀ x c o,X.env.cells.lookup x=some c->s.heap.get? c=some o->∃ sl,h'.get? c=some { o with slots:=sl })->
   ∀ (i:Nat) (x:Str) (v:V),N[i]?=some x->(sub ix σ)[i]?=some (some v)->∃ u,aI v u/\∀ m,Jr (Sd scope (eW X.env scope.names []) C X.env) h' m x u:=by
  intro h' hk i x v h1 h2
  obtain ⟨k,hk',hv⟩:∃ k,ix[i]?=some (some k)/\σ[k]?=some (some v):=by
   unfold sub at h2
   rw [Lx] at h2
   cases e:ix[i]? with
   | none=>rw [e] at h2; cases h2
   | some o=>
    rw [e] at h2
    cases o with
    | none=>cases h2
    | some k=>
     refine ⟨k,rfl,?_⟩
     have h2':(match σ[k]? with | some v=>v | none=>none)=some v:=Lu h2
     cases e2:σ[k]? with
     | none=>rw [e2] at h2'; cases h2'
     | some z=>
      rw [e2] at h2'
      rw [show z=some v from h2']
  have hm:(x,some k)∈N.zip ix:=by
   refine Lw (i:=i) ?_
   rw [Od]
   exact ⟨h1,hk'⟩
  obtain ⟨a1,a2⟩:=S.at_ _ hm k (by simp)
  have hX:=S.free _ (Mw a2) rfl
  have hvis:Vis X.env.scope x:=by
   show _\/_\/_
   rw [hsc]
   exact .inr hX
  obtain ⟨m,hn,hl⟩:=I.loc
  obtain ⟨u,r,l⟩:=hl k x v (by rw [hNX]; exact a1) hv hvis
  refine ⟨u,r,fun m'=>.inr ⟨zd a2,?_⟩⟩
  rcases l with ⟨l,_⟩ | ⟨_,c,e,z⟩
  ·have l':X.env.scope.names.lookup x=some .local:=l
   rw [hsc] at l'
   rcases hX with q | q <;> (rw [q] at l'; cases l')
  ·obtain ⟨o,ho,hd⟩:=z
   obtain ⟨sl,e'⟩:=hk x c o e ho
   exact ⟨c,xf (Mw a2) e,_,e',hd⟩
 have hlen:(sub ix σ).length=N.length:=by
  unfold sub
  rw [Lf]
  exact S.len
 have I1:Inv (cj X N scope C s H fp) [] (sub ix σ) (upd H p (.lst [])) { s with heap:=h₁,toks:=s.toks + ([]:List (Str×Value)).length }:=by
  refine ⟨hok,rfl,I.bare,Un.laid old (PN hp) hfp,⟨_,hns₁,fun i x v h1 h2 h3=>?_⟩,fun x c e=>?_,?_,fun x c e=>?_,fun q hq=>(nomatch hq),I.hok.laid old (PN hp) ⟨Me _,[],0,.nil,hnew⟩,hlen⟩
  ·obtain ⟨u,r,l⟩:=locs h₁ (fun y c o _ ho=>⟨o.slots,old c o ho⟩) i x v h1 h2
   exact ⟨u,r,l _⟩
  ·obtain ⟨v,o,ho,hd⟩:=I.cell x c (fL e)
   exact ⟨v,o,old c o ho,hd⟩
  ·show upd H p _ C=none
   rw [aP (MU pC)]
   exact hfC
  ·have e':=fL e
   obtain ⟨v,o,ho,hd⟩:=I.cell x c e'
   rw [aP (nQ (Lm ho) (PN hp))]
   exact I.freeC x c e'
 have back:∀ {pl:List (Addr×Obj)} {σ':St} {H':Hp} {s':Shared},Inv (cj X N scope C s H fp) pl σ' H' s'->Inv (cj X N scope C s H fp) pl (sub ix σ) H' s':=fun {pl σ' H' s'} J=>by
  obtain ⟨m,hn,_⟩:=J.loc
  refine ⟨J.ok,J.os,J.bare,J.base,⟨m,hn,fun i x v h1 h2 h3=>?_⟩,J.cell,J.free,J.freeC,J.pin,J.hok,hlen⟩
  obtain ⟨u,r,l⟩:=locs s'.heap (fun y c o hc' ho=>J.base.any ho (I.freeC y c hc') fun hb=>(hf c hb).2.2.2.2.1 y c hc' rfl) i x v h1 h2
  exact ⟨u,r,l _⟩
 obtain ⟨W,⟨m0,w0⟩,turn⟩:=hq p hfp
 have st1:tn 0 h₁:=T.keep 0 _ _ st fun b _ o e=>old b o e
 have fp1:∀ {H':Hp},(∀ b∈fp,H' b=none)->∀ b∈fp,j9 (cj X N scope C s H fp) [] H' b:=fun {H'} hn b hb=>
  ⟨hn b hb,(hok.exf b hb).1,hok.exfs b hb,.inl hb,(hok.exf b hb).2,fun q hq=>(nomatch hq)⟩
 have loop:codeAny (model X.prog X.w) X.A (.compLoop (.ListComp elt [⟨tg,iter,ifs,0⟩] scope pos) 0 (.ref it) (.ref p) (Sd scope (eW X.env scope.names []) C X.env)) (RR (.ref p) C) { s with heap:=h₁,toks:=s.toks + ([]:List (Str×Value)).length }:=by
  refine Ee (fun n s'=>∃ i acc H',Inv (cj X N scope C s H fp) [] (sub ix σ) H' s'/\tn i s'.heap/\(∀ b∈fp,H' b=none)/\W i n acc H') ?_ m0
   ⟨0,[],_,I1,st1,fun b hb=>by rw [aP (nQ (lt b hb) (Le _))]; exact (hf b hb).1,w0⟩
  rintro n s3 ⟨i,acc,H3,I3,st3,fr3,w3⟩
  obtain ⟨hacc,w4⟩:=turn C s H fp i n acc H3 w3
  rcases w4 with ⟨stop,qn⟩ | ⟨go,hln,N',hN',step⟩
  ·refine thn (T.done (cj X N scope C s H fp) rfl rfl rfl hc i [] s3 _ H3 (fun _ _=>False) I3 (fp1 fr3) st3 stop) fun r s4 ⟨hr,I4⟩=>?_
   subst hr
   obtain ⟨m,hn,_⟩:=I4.loc
   refine hR p C s4 H3 m (by omega) (by omega) hn I4.free qn ?_
   exact I.call' I4.os I4.base I4.hok I4.bare fun b hb=>⟨(hf b hb).2.2.2.1,(hf b hb).2.1,(hf b hb).2.2.2.2.1,(hf b hb).2.2.2.2.2⟩
  ·refine thn (T.item (cj X N scope C s H fp) rfl rfl rfl hc i [] s3 _ H3 (fun _ _=>False) I3 (fp1 fr3) st3 go) fun r s4 ⟨u,hr,h4⟩=>?_
   subst hr
   refine thn h4 fun _ s5 ⟨x,H5,I5,r5,y5,st5,fr5⟩=>?_
   have I5':=I5.pinned (fp1 fr5) (T.obj _ _ st5)
   refine thn (hg C s H fp _ s5 _ H5 x u _ I5' r5 (step x H5 y5)) fun _ s6 ⟨σ6,H6,I6,q6⟩=>?_
   have later:∀ {s7:Shared} {H7:Hp} {acc':List V} {σ7:St},Inv (cj X N scope C s H fp) ([]++pW fp s5.heap) σ7 H7 s7->(∃ m',m' < n/\W (i + 1) m' acc' H7)->
     ∃ m,m < n/\∃ i acc H',Inv (cj X N scope C s H fp) [] (sub ix σ) H' s7/\tn i s7.heap/\(∀ b∈fp,H' b=none)/\W i m acc H':=fun {s7 H7 acc' σ7} I7 ⟨m',hm,w7⟩=>by
    refine ⟨m',hm,i + 1,acc',H7,back (I7.unpinned (pins:=[])),T.keep _ _ _ st5 fun b hb o e=>(I7.pin (b,o) (L9 _ (L9 _ (kr hb e)))).1,fun b hb=>?_,w7⟩
    obtain ⟨o,e,d⟩:=T.obj _ _ st5 b hb
    exact (I7.pin (b,o) (L9 _ (L9 _ (kr hb e)))).2.1
   refine thn (ht C s H fp _ s6 σ6 H6 _ I6 q6) fun ok s7 ⟨H7,I7,q7⟩=>?_
   cases ok with
   | false=>exact later I7 (hN' _ _ q7)
   | true=>
    refine thn (he C s H fp _ s7 σ6 H7 _ I7 q7) fun y s8 ⟨v8,H8,I8,r8,hacc8,w8⟩=>?_
    refine thn (d4 (X:=cj X N scope C s H fp) _ s8 σ6 H8 (.ref p) [v8] (.ref p) [y] (fun _ H9=>H9=upd H8 p (.lst (acc++[v8]))) I8 rfl (.cons r8 .nil) ⟨p,acc,v8,rfl,rfl,hacc8,hln,rfl⟩) fun _ s9 ⟨_,H9,I9,_,e9⟩=>?_
    subst e9
    exact later I9 (hN' _ _ w8)
 exact codeAny_compStart_list loop (T.self _ 0 _ _ _ st1 loop)
theorem bJ (hc:X.calm=true) (S:p9 sc scope NX N ix) (hi:PI X tg iter wi)
  (hg:∀ C s H fp,PG (cj X N scope C s H fp) tg (g C s H fp)) (ht:∀ C s H fp,PTL (cj X N scope C s H fp) ifs (tt C s H fp)) (he:∀ C s H fp,PE (cj X N scope C s H fp) elt (te C s H fp))
  (hsc:X.env.scope=sc:=by rfl) (hNX:X.N=NX:=by rfl) (hs:∀ x,QN iter X.env x=pure x:=by intro _; rfl):
  PE X (.ListComp elt [⟨tg,iter,ifs,0⟩] scope pos) (bV wi g tt te ix):=by
 intro pins s σ H Q I h
 rw [eval_ListComp]
 have hcells:Sb scope X.env=pure (eW X.env scope.names []):=ul fun y hy hk=>by
  refine I.ok.has y.1 ?_
  show X.env.scope.names.lookup y.1=some .cell\/X.env.scope.names.lookup y.1=some .free
  rw [hsc]
  exact S.free y hy hk
 refine Q6 (use:=none) rfl hs hcells S.kind S.names (thn (hi pins s σ H _ I h) fun v s1 h1=>thn h1 fun itv s2 h2=>?_)
 obtain ⟨it,fp,tn,J,H2,e,I2,T,st2,f2,hq⟩:=h2
 subst e
 refine um (Q:=Q) (RR:=fun acc C=>compPost (model X.prog X.w) X.A X.xe none (EP X pins σ Q) acc C) hc hsc hNX S hg ht he I2 T st2 f2 hq ?_
 intro p C s' H' m hp hC hn hfree q I'
 exact ⟨m,hn,fun h'' hs''=>⟨.ref p,H',I'.gone I2 hC hfree hs'',rfl,q⟩⟩
theorem nV {i:Nat} {y:Str} {py spos:Pos} (hN:X.N.Nodup) (hy:X.N[i]?=some y) (hl:X.env.scope.names.lookup y=some .local) (hc:X.calm=true) (S:p9 sc scope NX N ix) (hi:PI X tg iter wi)
  (hg:∀ C s H fp,PG (cj X N scope C s H fp) tg (g C s H fp)) (ht:∀ C s H fp,PTL (cj X N scope C s H fp) ifs (tt C s H fp)) (he:∀ C s H fp,PE (cj X N scope C s H fp) elt (te C s H fp))
  (hsw:SG (.ListComp elt [⟨tg,iter,ifs,0⟩] scope pos) (some (.Name y py)) spos.line X.env=pure true:=by rfl)
  (hsc:X.env.scope=sc:=by rfl) (hNX:X.N=NX:=by rfl) (hs:∀ x,QN iter X.env x=pure x:=by intro _; rfl):
  PS X (.Assign [.Name y py] (.ListComp elt [⟨tg,iter,ifs,0⟩] scope pos) spos) (aH (bV wi g tt te ix) (ao i)):=by
 intro pins s σ H D I h
 rw [exec_Assign_Name_used _ _ _ _ hsw]
 have hcells:Sb scope X.env=pure (eW X.env scope.names []):=ul fun z hz hk=>by
  refine I.ok.has z.1 ?_
  show X.env.scope.names.lookup z.1=some .cell\/X.env.scope.names.lookup z.1=some .free
  rw [hsc]
  exact S.free z hz hk
 refine La (Sm (La ?_))
 show wpAny _ X.A (do let _ <-comprehension (.ListComp elt [⟨tg,iter,ifs,0⟩] scope pos) scope X.env _ (newList []) false (eval iter X.env) (some (assign (.Name y py) X.env))) _ _ s
 refine La (thn (Q6 (use:=some (assign (.Name y py) X.env)) (Q:=fun _ s'=>SP X pins D .next s') rfl hs hcells S.kind S.names (thn (hi pins s σ H _ I h) fun v s1 h1=>thn h1 fun itv s2 h2=>?_)) fun _ s' q=>Lc (Lc q))
 obtain ⟨it,fp,tn,J,H2,e,I2,T,st2,f2,hq⟩:=h2
 subst e
 refine um (Q:=fun x H1=>ao i x σ H1 D.nx) (RR:=fun acc C=>compPost (model X.prog X.w) X.A X.xe (some (assign (.Name y py) X.env)) (fun _ s'=>SP X pins D .next s') acc C) hc hsc hNX S hg ht he I2 T st2 f2 hq ?_
 intro p C s' H' m hp hC hn hfree q I'
 refine SZ (wY (v:=.ref p) I' hN hy (.inl hl) rfl (fun s'' I'' ⟨a,hsb,ha⟩=>?_) (.inr hl))
 have ne:C≠a:=by
  rcases ha with rfl | ha
  ·exact Ny (LH I2.lt hC)
  ·obtain ⟨v,o,ho,_⟩:=I2.cell y a ha
   exact Ny (LH (Lm ho) hC)
 exact ⟨m,hn.sameBut hsb ne,fun h'' hs''=>⟨_,H',I''.gone I2 hC hfree hs'',q⟩⟩
end
section
variable {g:CF TG} {tt:CF TT} {te:CF TE} {σ₀:St} {p:Addr} {Q:VK} {H:Hp}
theorem kP {J:It} {n:Nat} {Y:Nat->Hp->V->Hp->Prop} (Pv:Nat->List V->Hp->Prop) (h0:Pv 0 [] (upd H p (.lst []))) (hp:∀ i acc H,i<=n->Pv i acc H->H p=some (.lst acc)/\acc.length<=i) (hz:n<=Lr)
  (hgo:∀ i acc H,i < n->Pv i acc H->J.go i H) (hst:∀ acc H,Pv n acc H->J.stop n H) (hy:∀ i acc H x H1,i < n->Pv i acc H->J.yld i H x H1->Y i H x H1)
  (hs:∀ C s' H' fp,∀ i x acc H H1,i < n->Pv i acc H->Y i H x H1->g C s' H' fp x σ₀ H1 fun σ2 H2=>tt C s' H' fp σ2 H2 fun b H3=>if b=true then te C s' H' fp σ2 H3 fun y H4=>H4 p=some (.lst acc)/\Pv (i + 1) (acc++[y]) (upd H4 p (.lst (acc++[y]))) else Pv (i + 1) acc H3)
  (hd:∀ acc H,Pv n acc H->Q (.ref p) H):
  ∃ W:Nat->Nat->List V->Hp->Prop,(∃ m,W 0 m [] (upd H p (.lst [])))/\∀ C s' H' fp,cg J (g C s' H' fp) (tt C s' H' fp) (te C s' H' fp) σ₀ p Q W:=by
 refine ⟨fun i m acc H=>m=n - i/\i<=n/\Pv i acc H,⟨n,by simp,Me _,h0⟩,?_⟩
 rintro C s' H' fp i m acc H ⟨rfl,hi,w⟩
 obtain ⟨h1,h2⟩:=hp i acc H hi w
 refine ⟨h1,?_⟩
 by_cases hlt:i < n
 ·exact .inr ⟨hgo i acc H hlt w,by omega,Pv (i + 1),fun acc' H' q=>⟨n - (i + 1),by omega,rfl,hlt,q⟩,fun x H1 y=>hs C s' H' fp i x acc H H1 hlt w (hy i acc H x H1 hlt w y)⟩
 ·have e:i=n:=by omega
  subst e
  exact .inl ⟨hst acc H w,hd acc H w⟩
theorem xh {K:Fg} {a:Addr} {xs:List V} (Pv:Nat->List V->Hp->Prop) (h0:Pv 0 [] (upd H p (.lst []))) (hp:∀ i acc H,i<=xs.length->Pv i acc H->H p=some (.lst acc)/\acc.length<=i) (hl:∀ i acc H,i<=xs.length->Pv i acc H->SqL K H a xs) (hz:xs.length<=Lr)
  (hs:∀ C s' H' fp,∀ i x acc H,xs[i]?=some x->Pv i acc H->g C s' H' fp x σ₀ H fun σ2 H2=>tt C s' H' fp σ2 H2 fun b H3=>if b=true then te C s' H' fp σ2 H3 fun y H4=>H4 p=some (.lst acc)/\Pv (i + 1) (acc++[y]) (upd H4 p (.lst (acc++[y]))) else Pv (i + 1) acc H3)
  (hd:∀ acc H,Pv xs.length acc H->Q (.ref p) H):
  ∃ W:Nat->Nat->List V->Hp->Prop,(∃ m,W 0 m [] (upd H p (.lst [])))/\∀ C s' H' fp,cg (Itl K a) (g C s' H' fp) (tt C s' H' fp) (te C s' H' fp) σ₀ p Q W:=
 kP (Y:=fun i H x H1=>H1=H/\xs[i]?=some x) Pv h0 hp hz (fun i acc H hi w=>⟨xs,xs[i],hl i acc H (Mj hi) w,by simp [hi]⟩) (fun acc H w=>⟨xs,hl _ acc H (Le _) w,Le _⟩)
  (fun i acc H x H1 hi w y=>⟨y.1,y.2 xs (hl i acc H (Mj hi) w)⟩) (fun C s' H' fp i x acc H H1 hi w y=>by
   obtain ⟨e,y⟩:=y
   subst e
   exact hs C s' H' fp i x acc _ y w) hd
theorem FI {K:Fg} {a:Addr} {xs:List V} (Pv:Nat->List V->Hp->Prop) (h0:Pv 0 [] (upd H p (.lst []))) (hp:∀ i acc H,i<=xs.length->Pv i acc H->H p=some (.lst acc)/\acc.length<=i) (hl:∀ i acc H,i<=xs.length->Pv i acc H->SqT K H a xs) (hz:xs.length<=Lr)
  (hs:∀ C s' H' fp,∀ i x acc H,xs[i]?=some x->Pv i acc H->g C s' H' fp x σ₀ H fun σ2 H2=>tt C s' H' fp σ2 H2 fun b H3=>if b=true then te C s' H' fp σ2 H3 fun y H4=>H4 p=some (.lst acc)/\Pv (i + 1) (acc++[y]) (upd H4 p (.lst (acc++[y]))) else Pv (i + 1) acc H3)
  (hd:∀ acc H,Pv xs.length acc H->Q (.ref p) H):
  ∃ W:Nat->Nat->List V->Hp->Prop,(∃ m,W 0 m [] (upd H p (.lst [])))/\∀ C s' H' fp,cg (Itt K a) (g C s' H' fp) (tt C s' H' fp) (te C s' H' fp) σ₀ p Q W:=
 kP (Y:=fun i H x H1=>H1=H/\xs[i]?=some x) Pv h0 hp hz (fun i acc H hi w=>⟨xs,xs[i],hl i acc H (Mj hi) w,by simp [hi]⟩) (fun acc H w=>⟨xs,hl _ acc H (Le _) w,Le _⟩)
  (fun i acc H x H1 hi w y=>⟨y.1,y.2 xs (hl i acc H (Mj hi) w)⟩) (fun C s' H' fp i x acc H H1 hi w y=>by
   obtain ⟨e,y⟩:=y
   subst e
   exact hs C s' H' fp i x acc _ y w) hd
theorem nW {lo:Int} {n:Nat} (Pv:Nat->List V->Hp->Prop) (h0:Pv 0 [] (upd H p (.lst []))) (hp:∀ i acc H,i<=n->Pv i acc H->H p=some (.lst acc)/\acc.length<=i) (hz:n<=Lr)
  (hs:∀ C s' H' fp,∀ i acc H,i < n->Pv i acc H->g C s' H' fp (.int (lo + i)) σ₀ H fun σ2 H2=>tt C s' H' fp σ2 H2 fun b H3=>if b=true then te C s' H' fp σ2 H3 fun y H4=>H4 p=some (.lst acc)/\Pv (i + 1) (acc++[y]) (upd H4 p (.lst (acc++[y]))) else Pv (i + 1) acc H3)
  (hd:∀ acc H,Pv n acc H->Q (.ref p) H):
  ∃ W:Nat->Nat->List V->Hp->Prop,(∃ m,W 0 m [] (upd H p (.lst [])))/\∀ C s' H' fp,cg (Itr lo n) (g C s' H' fp) (tt C s' H' fp) (te C s' H' fp) σ₀ p Q W:=
 kP (Y:=fun i H x H1=>H1=H/\x=.int (lo + i)) Pv h0 hp hz (fun i acc H hi w=>hi) (fun acc H w=>Le _) (fun i acc H x H1 hi w y=>y) (fun C s' H' fp i x acc H H1 hi w y=>by
   obtain ⟨e,e2⟩:=y
   subst e e2
   exact hs C s' H' fp i acc _ hi w) hd
end
end
section
open PySem.Spec
section
variable {prog:Program} {w:World} {A:Around} {E:Value->Shared->Prop} {s:Shared}
theorem uo {jt t:Addr} {i:Nat} {its:Array Value} {y:Value} {Q:Value->Shared->Prop} (h1:s.heap.IsTupleIter jt t i) (h2:s.heap.IsTuple t its) (hy:its[i]?=some y)
  (k:∀ h',h'.IsTupleIter jt t (i + 1)->LC jt s.heap h'->Q y { s with heap:=h' }):wpAny (model prog w) A (L5 (.ref jt)) Q E s:=by
 obtain ⟨o,ho,hc,hd⟩:=id h1
 obtain ⟨ot,hot,_,nt,hdt⟩:=h2
 unfold L5
 refine La (Mf (name:=Nf "__next__") h1.typeIs N5 (LY N5 h1.typeIs Qt ?_ (Qh _)))
 show wpAny _ _ (field (.ref jt) 0 >>= _) _ _ s
 refine La (Mn ho hd (x:=.ref t) rfl ?_)
 show wpAny _ _ (if (LL t == MB)=true then _ else _) _ _ s
 rw [if_neg (show ¬ ((LL t == MB)=true) from Lq)]
 show wpAny _ _ (field (.ref jt) 1 >>= _) _ _ s
 refine La (Mn ho hd (x:=.int i 0) rfl ?_)
 show wpAny _ _ (seqItems? (.ref t) >>= _) _ _ s
 refine La (Mv hot hdt ?_)
 simp only [N9,hy]
 refine La (NU ho hd (by simp) (Lc ⟨y,rfl,Lc (k _ ?_ (Mi ..))⟩))
 exact ⟨_,Mh _ ho (PD (NW hd _)),(QQ ..).trans hc,by rw [NW hd]; simp [rawInt]⟩
theorem wb {jt t:Addr} {i:Nat} {its:Array Value} {Q:Value->Shared->Prop} (hh:A.handled=none) (h1:s.heap.IsTupleIter jt t i) (h2:s.heap.IsTuple t its) (hy:its[i]?=none)
  (k:∀ h' e,OX jt s.heap h'->(∃ o,h'.get? e=some o/\o.cls=.type "StopIteration")->E (.ref e) { s with heap:=h' }):wpAny (model prog w) A (L5 (.ref jt)) Q E s:=by
 obtain ⟨o,ho,hc,hd⟩:=id h1
 obtain ⟨ot,hot,_,nt,hdt⟩:=h2
 unfold L5
 refine La (Mf (name:=Nf "__next__") h1.typeIs N5 (LY N5 h1.typeIs Qt ?_ (Qh _)))
 show wpAny _ _ (field (.ref jt) 0 >>= _) _ _ s
 refine La (Mn ho hd (x:=.ref t) rfl ?_)
 show wpAny _ _ (if (LL t == MB)=true then _ else _) _ _ s
 rw [if_neg (show ¬ ((LL t == MB)=true) from Lq)]
 show wpAny _ _ (field (.ref jt) 1 >>= _) _ _ s
 refine La (Mn ho hd (x:=.int i 0) rfl ?_)
 show wpAny _ _ (seqItems? (.ref t) >>= _) _ _ s
 refine La (Mv hot hdt ?_)
 simp only [N9,hy]
 refine La (NC (La (NU ho hd (by simp) ?_)))
 show wpAny _ _ (newExc (.type "StopIteration") [] >>= _) _ _ _
 refine La ?_
 simp only [newExc,TH]
 refine La (Md ?_ (by size_fits))
 refine La (m:=firstArgMember _ _) (Qo (a:=MB) (by first | rfl | (simp only [firstArgMember]; rfl)) ?_)
 refine Md ?_ (by size_fits)
 simp only [raiseNew]
 refine La (Ss ?_)
 first | rw [show A.in1.handled=none from hh] | rw [hh]
 refine La (Lc (Tr ?_))
 exact k _ _ (((Mi ..).extBut.push _).push _) ⟨_,Lk _ rfl,rfl⟩
end
theorem AQ {prog:Program} {w:World} {A:Around} (hh:A.handled=none) (jt t:Addr) (hne:t≠jt) (its:Array Value):
  Draws prog w A jt [jt,t] its.size (fun i v=>its[i]?=some v) (fun i h=>h.IsTupleIter jt t i/\h.IsTuple t its) where
 live:=fun _ _ st=>let ⟨o,ho,_⟩:=st.1; ⟨o,ho⟩
 frame:=fun _ _ _ st hk=>⟨st.1.at fun o e=>hk jt (by simp) o e,let ⟨o,ho,r⟩:=st.2; ⟨o,hk t (by simp) o ho,r⟩⟩
 item:=fun i s Q E hi st hQ=>uo st.1 st.2 (y:=its[i]) (by simp [hi]) fun h' a b=>hQ _ h' s.toks (by simp [hi]) ⟨a,st.2.extBut b.extBut hne⟩ b
 done:=fun s Q E st hE=>wb hh st.1 st.2 (by simp) hE
theorem Inv.offBase {X:Cx} {pins:List (Addr×Obj)} {σ:St} {H:Hp} {s:Shared} {c:Addr} {o:Obj} (I:Inv X pins σ H s) (f:j9 X pins H c) (e:X.base.get? c=some o):False:=by
 rcases f.2.2.2.1 with z | z
 ·exact I.ok.noex c o e z
 ·exact absurd (LH (Lm e) (LS I.ok.bsz z)) (M5 _)
set_option genInjectivity false in
structure Src where
 Sq:Fg->Hp->Addr->List V->Prop
 Is:Heap->Addr->Array Value->Prop
 It:Heap->Addr->Addr->Nat->Prop
 icls:String
 get:∀ {X:Cx} {pins:List (Addr×Obj)} {σ:St} {H:Hp} {s:Shared} {a:Addr} {xs:List V},Inv X pins σ H s->Sq X.K H a xs->∃ its:List Value,aG xs its/\Is s.heap a its.toArray/\xs.length<=Lr
 inj:∀ {X:Cx} {pins:List (Addr×Obj)} {σ:St} {H:Hp} {s:Shared} {a:Addr} {xs ys:List V},Inv X pins σ H s->Sq X.K H a xs->Sq X.K H a ys->xs=ys
 off:∀ {X:Cx} {pins:List (Addr×Obj)} {σ:St} {H:Hp} {s:Shared} {a c:Addr} {xs:List V},Inv X pins σ H s->Sq X.K H a xs->j9 X pins H c->c≠a
 isSeq:∀ {h:Heap} {a:Addr} {its:Array Value},Is h a its->∃ o n,h.get? a=some o/\o.data=.seq its n
 isIt:∀ {h:Heap} {jt a:Addr} {i:Nat},It h jt a i->∃ o,h.get? jt=some o/\o.cls=.type icls/\o.data=.fields #[.ref a,.int i 0]
 mkI:∀ {h:Heap} {jt a:Addr} {i:Nat} {o:Obj},h.get? jt=some o->o.cls=.type icls->o.data=.fields #[.ref a,.int i 0]->It h jt a i
 itKeep:∀ {h h':Heap} {jt a:Addr} {i:Nat},It h jt a i->(∀ o,h.get? jt=some o->h'.get? jt=some o)->It h' jt a i
 isKeep:∀ {h h':Heap} {a:Addr} {its:Array Value},Is h a its->(∀ o,h.get? a=some o->h'.get? a=some o)->Is h' a its
 draws:∀ {prog:Program} {w:World} {A:Around},A.handled=none->∀ (jt a:Addr),a≠jt->∀ its:Array Value,Draws prog w A jt [jt,a] its.size (fun i v=>its[i]?=some v) (fun i h=>It h jt a i/\Is h a its)
 iter:∀ {prog:Program} {w:World} {A:Around} {E:Value->Shared->Prop} {s:Shared} {a:Addr} {its:Array Value} {Q:Value->Shared->Prop},Is s.heap a its->
  Q (.ref s.heap.objs.size) { s with heap:=s.heap.push { cls:=.type icls,data:=.fields #[.ref a,.int 0 0] } }->wpAny (model prog w) A (pyIter (.ref a)) Q E s
noncomputable def bL:Src where
 Sq:=SqL
 Is:=fun h a its=>h.IsList a its
 It:=fun h jt a i=>h.IsListIter jt a i
 icls:="list_iterator"
 get:=fun I h=>let ⟨its,r,p,z⟩:=I.list h; ⟨its,r,p.isList,z⟩
 inj:=fun I h h'=>I.list_inj h h'
 off:=fun {X pins σ H s a c xs} I h f e=>by
  subst e
  rcases h with (h | ⟨o,h⟩) | ⟨o,its,n,hk,_⟩
  ·rw [f.1] at h; cases h
  ·rw [f.1] at h; cases h
  ·exact I.offBase f (I.ok.mod.kin _ _ hk)
 isSeq:=fun h=>let ⟨o,ho,_,n,hd⟩:=h; ⟨o,n,ho,hd⟩
 isIt:=fun h=>h
 mkI:=fun h1 h2 h3=>⟨_,h1,h2,h3⟩
 itKeep:=fun h k=>h.at k
 isKeep:=fun h k=>h.at k
 draws:=fun hh jt a hne its=>Draws.list hh jt a hne its
 iter:=fun h q=>OH h q
noncomputable def ig:Src where
 Sq:=SqT
 Is:=fun h a its=>h.IsTuple a its
 It:=fun h jt a i=>h.IsTupleIter jt a i
 icls:="tuple_iterator"
 get:=fun I h=>let ⟨its,r,p,z⟩:=I.tuple h; ⟨its,r,p,z⟩
 inj:=fun I h h'=>I.tuple_inj h h'
 off:=fun {X pins σ H s a c xs} I h f e=>by
  subst e
  rcases h with (h | ⟨o,h⟩) | ⟨o,its,n,hk,_⟩
  ·rw [f.1] at h; cases h
  ·rw [f.1] at h; cases h
  ·exact I.offBase f (I.ok.mod.kin _ _ hk)
 isSeq:=fun h=>let ⟨o,ho,_,n,hd⟩:=h; ⟨o,n,ho,hd⟩
 isIt:=fun h=>h
 mkI:=fun h1 h2 h3=>⟨_,h1,h2,h3⟩
 itKeep:=fun h k=>h.at k
 isKeep:=fun h k=>let ⟨o,ho,r⟩:=h; ⟨o,k o ho,r⟩
 draws:=fun hh jt a hne its=>AQ hh jt a hne its
 iter:=fun h q=>SH h q
theorem Inv.turns {X:Cx} {pins:List (Addr×Obj)} {σ:St} {H:Hp} {s:Shared} {h':Heap} {t':Nat} {ch:List Addr} {T:Addr} {o:HO} (I:Inv X pins σ H s) (hf:∀ b∈ch,j9 X pins H b)
  (k:∀ b ob,b∉ch->s.heap.get? b=some ob->h'.get? b=some ob) (hT:s.heap.objs.size<=T) (new:bD X.prog X.w (upd H T o) h' T o):Inv X pins σ (upd H T o) { s with heap:=h',toks:=t' }:=by
 have hn:H T=none:=I.hok.fresh hT
 have nc:∀ b u,H b=some u->b∉ch:=fun b u e z=>by
  have:=(hf b z).1
  rw [e] at this
  cases this
 refine I.step (g':=s.gens) (d':=s.drawn) (ch:=ch) (fun b hb=>⟨(hf b hb).2.2.2.1,(hf b hb).2.1,(hf b hb).2.2.2.2.1,(hf b hb).2.2.2.2.2⟩) (fun b ob _ _ hc e _=>k b ob hc e) (fun b ob _ _ hc e _=>⟨ob.slots,k b ob hc e⟩)
  (fun b ob _ e n=>?_) (fun b ob hc e=>⟨ob,k b ob hc e⟩) (fun b xs e=>?_) (fun b ob xs e=>?_) (fun b ps e=>⟨#[],?_⟩) (fun m hm=>?_) (fun b u e=>?_) I.bare
 ·rw [aP (nQ (Lm e) hT)]
  exact n
 ·rw [aP (aS e hn)]
  exact e
 ·rw [aP (aS e hn)]
  exact e
 ·rw [aP (aS e hn),e]
  simp
 ·obtain ⟨ob,es,ep,ho,r⟩:=hm
  exact ⟨ob,es,ep,k _ ob (fun z=>(hf _ z).2.1 rfl) ho,r⟩
 ·by_cases hb:b=T
  ·subst hb
   rw [ay] at e
   cases e
   exact new
  ·rw [aP hb] at e
   refine (I.hok b u e).stay (fun c v hc q=>k c v ?_ q) (fun c q=>by rw [aP (aS q hn)]; exact q) fun c xs q=>by rw [aP (aS q hn)]; exact q
   rcases hc with z | z
   ·rw [z]; exact nc b u e
   ·exact nc c _ z
theorem Inv.turnsN {X:Cx} {pins:List (Addr×Obj)} {σ:St} {H:Hp} {s:Shared} {h':Heap} {t':Nat} {ch:List Addr} (I:Inv X pins σ H s) (hf:∀ b∈ch,j9 X pins H b)
  (k:∀ b ob,b∉ch->s.heap.get? b=some ob->h'.get? b=some ob):Inv X pins σ H { s with heap:=h',toks:=t' }:=by
 have nc:∀ b u,H b=some u->b∉ch:=fun b u e z=>by
  have:=(hf b z).1
  rw [e] at this
  cases this
 refine I.step (g':=s.gens) (d':=s.drawn) (ch:=ch) (fun b hb=>⟨(hf b hb).2.2.2.1,(hf b hb).2.1,(hf b hb).2.2.2.2.1,(hf b hb).2.2.2.2.2⟩) (fun b ob _ _ hc e _=>k b ob hc e) (fun b ob _ _ hc e _=>⟨ob.slots,k b ob hc e⟩)
  (fun b ob _ e n=>n) (fun b ob hc e=>⟨ob,k b ob hc e⟩) (fun b xs e=>e) (fun b ob xs e=>e) (fun b ps e=>⟨#[],by rw [e]; simp⟩) (fun m hm=>?_) (fun b u e=>?_) I.bare
 ·obtain ⟨ob,es,ep,ho,r⟩:=hm
  exact ⟨ob,es,ep,k _ ob (fun z=>(hf _ z).2.1 rfl) ho,r⟩
 ·refine (I.hok b u e).stay (fun c v hc q=>k c v ?_ q) (fun c q=>q) fun c xs q=>q
  rcases hc with z | z
  ·rw [z]; exact nc b u e
  ·exact nc c _ z
noncomputable def Ite (S:Src) (K:Fg) (a:Addr):It:=
 ⟨fun i H=>∃ xs x,S.Sq K H a xs/\xs[i]?=some x,fun i H x H'=>∃ T v,H T=none/\x=.ref T/\H'=upd H T (.tup [.int i,v])/\∀ xs,S.Sq K H a xs->xs[i]?=some v,fun i H=>∃ xs,S.Sq K H a xs/\xs.length=i⟩
theorem Ef {P:Program} {w:World} {K:Fg} {elts:List Expr} {k0:Nat} {pos:Pos} (S:Src) (a e it:Addr) (hl:S.icls≠"enumerate"):
  pV P w K (.Tuple elts k0 pos) (Ite S K a) [e,it] e (fun i h=>(∃ old,IsEnum h e it i old)/\S.It h it a i) where
 mem:=by simp
 obj:=fun i h st b hb=>by
  obtain ⟨⟨old,he⟩,hi⟩:=st
  rcases Lh.mp hb with rfl | hb
  ·exact ⟨_,he,fun v z=>nomatch z⟩
  ·obtain rfl:=Lg.mp hb
   obtain ⟨o,ho,_,hd⟩:=S.isIt hi
   exact ⟨o,ho,fun v z=>by rw [hd] at z; cases z⟩
 keep:=fun i h h' st k=>by
  obtain ⟨⟨old,he⟩,hi⟩:=st
  exact ⟨⟨old,k e (by simp) _ he⟩,S.itKeep hi fun o q=>k it (by simp) o q⟩
 item:=by
  intro X hP hw hK hc i pins s σ H E I hf st hg
  subst hP hw hK
  obtain ⟨xs,x,hq,hx⟩:=hg
  obtain ⟨its,rv,p,hz⟩:=S.get I hq
  obtain ⟨⟨old,he⟩,hi⟩:=st
  obtain ⟨u,hu,ru⟩:=rv.get hx
  obtain ⟨oa,na,hoa,hda⟩:=S.isSeq p
  obtain ⟨oi,hoi,hci,hdi⟩:=S.isIt hi
  have nei:e≠it:=fun z=>by
   have he':s.heap.get? e=some _:=he
   rw [z,hoi] at he'
   cases he'
   exact hl (by simpa using hci.symm)
  have nae:e≠a:=S.off I hq (hf e (by simp))
  have nai:a≠it:=fun z=>by
   rw [z,hoi] at hoa
   cases hoa
   rw [hdi] at hda
   cases hda
  have hlt:i < its.toArray.size:=by
   have:=(Li.mp hu).1
   simpa using this
  refine wpAny_pyNext_enum_itemD (S.draws (A:=X.A.in1) (show X.A.in1.handled=none from I.ok.hd hc) it a nai its.toArray) he ⟨hi,p⟩ hlt nei (by simp [nei,nae]) fun y h1 tk hP ho hs1 hT hsz hk=>⟨_,rfl,?_⟩
  have hy:y=u:=by
   have:its.toArray[i]?=some u:=by simpa using hu
   rw [this] at hP
   exact (Lu hP).symm
  subst hy
  refine wpAny_letOwnedTupleGo_enum ho fun h2 he2 hs2=>?_
  have elt:e < s.heap.objs.size:=Lm he
  have hT2:h2.get? s.heap.objs.size=some { cls:=.type "tuple",data:=.seq #[.int i tk,y] }:=hs2.extBut _ _ (JB (Le _) elt) hT
  have kept:∀ b ob,b∉[e,it]->s.heap.get? b=some ob->h2.get? b=some ob:=fun b ob hb q=>by
   have h1':b≠e:=fun z=>hb (by simp [z])
   exact hs2.extBut _ _ h1' (hk b ob h1' (fun z=>hb (by simp [z])) q)
  refine ⟨.ref s.heap.objs.size,upd H s.heap.objs.size (.tup [.int i,x]),?_,rfl,⟨_,x,I.fresh,rfl,rfl,fun ys hy=>by rw [S.inj I hy hq]; exact hx⟩,⟨⟨_,he2⟩,S.itKeep hs1.1 fun o q=>hs2.extBut _ _ (MU nei) q⟩,fun b hb=>?_⟩
  ·refine I.turns (t':=tk + 1) hf kept (Le _) ⟨(by show 2<=Lr; decide),[.int i tk,y],.cons ⟨tk,rfl⟩ (.cons ru .nil),_,hT2,rfl,⟨0,rfl⟩,rfl⟩
  ·have lt:b < s.heap.objs.size:=by
    rcases Lh.mp hb with rfl | hb
    ·exact elt
    ·obtain rfl:=Lg.mp hb
     exact Lm hoi
   rw [aP (nQ lt (Le _))]
   exact (hf b hb).1
 done:=by
  intro X hP hw hK hc i pins s σ H E I hf st hg
  subst hP hw hK
  obtain ⟨xs,hq,hx⟩:=hg
  obtain ⟨its,rv,p,hz⟩:=S.get I hq
  obtain ⟨⟨old,he⟩,hi⟩:=st
  obtain ⟨oa,na,hoa,hda⟩:=S.isSeq p
  obtain ⟨oi,hoi,hci,hdi⟩:=S.isIt hi
  have nai:a≠it:=fun z=>by
   rw [z,hoi] at hoa
   cases hoa
   rw [hdi] at hda
   cases hda
  have hsz:i=its.toArray.size:=by
   have:=rv.length
   simp only [Ls]
   omega
  subst hsz
  exact wpAny_pyNext_enum_endD (S.draws (A:=X.A.in1) (show X.A.in1.handled=none from I.ok.hd hc) it a nai its.toArray) he ⟨hi,p⟩ fun h' hx'=>⟨rfl,I.turnsN (t':=s.toks) hf fun b ob hb q=>hx' b ob (fun z=>hb (by simp [z])) q⟩
 self:=fun _ _ _ _ _ st h=>by
  obtain ⟨⟨old,he⟩,_⟩:=st
  exact S7 he h
section
variable {X:Cx} {elts:List Expr} {k0:Nat} {tpos:Pos}
theorem FJ (S:Src) (l:Addr) (its:Array Value):
  Meets (Builtin.«enumerate.__new__» ⟨[.type "enumerate",.ref l],[]⟩) (fun _ R s=>S.Is s.heap l its/\
   R (.ok (.ret (.ref (s.heap.push { cls:=.type S.icls,data:=.fields #[.ref l,.int 0 0] }).objs.size)))
    { s with heap:=(s.heap.push { cls:=.type S.icls,data:=.fields #[.ref l,.int 0 0] }).push { cls:=.type "enumerate",data:=.fields #[.none,.bool false,.ref s.heap.objs.size,rawInt 0,.none,.none] } }):=
 .of_wp fun prog w A R s h=>by
  obtain ⟨hp,g,d,tk,os⟩:=s
  obtain ⟨hl,h⟩:=h
  have hsub:=sub_enumerate
  have hL:S.Is (Ts ⟨hp,g,d,tk,os⟩) l its:=hl
  wp_walk
  refine wpAny_stack_any fun st=>Lc ?_
  split
  ·rename_i c _ _ _ _ _
   cases (c == MC "enumerate")
   ·wp_walk using S.iter hL
    exact ⟨_,rfl,h⟩
   ·wp_walk using S.iter hL
    exact ⟨_,rfl,h⟩
  ·wp_walk using S.iter hL
   exact ⟨_,rfl,h⟩
theorem Eg (S:Src) {prog:Program} {w:World} {A:Around} {E:Value->Shared->Prop} {s:Shared} {l:Addr} {its:Array Value} {Q:Value->Shared->Prop} (hL:S.Is s.heap l its)
  (h:∀ h',IsEnum h' (s.heap.objs.size + 1) s.heap.objs.size 0 .none->S.It h' s.heap.objs.size l 0->(∀ b o,s.heap.get? b=some o->h'.get? b=some o)->Q (.ref (s.heap.objs.size + 1)) { s with heap:=h' }):
  wpAny (model prog w) A (call (.type "enumerate") [.ref l]) Q E s:=by
 refine SS F.called_enumerate (by decide) (F.typeCall_enumerate_1 _) (F.newCall_enumerate_1 _) (fun obj=>Se obj _) F.entry_enumerate_new (FJ S l its) ⟨hL,?_⟩
 have hz:(s.heap.push { cls:=.type S.icls,data:=.fields #[.ref l,.int 0 0] }).objs.size=s.heap.objs.size + 1:=Ma ..
 show _/\_
 rw [hz]
 have he:=Lk (s.heap.push { cls:=.type S.icls,data:=.fields #[.ref l,.int 0 0] }) (o:={ cls:=.type "enumerate",data:=.fields #[.none,.bool false,.ref s.heap.objs.size,rawInt 0,.none,.none] }) rfl
 rw [hz] at he
 exact ⟨⟨_,he,rfl⟩,h _ he (S.mkI (Lb _ (Lk _ rfl)) rfl rfl) fun b o q=>Lb _ (Lb _ q)⟩
noncomputable def qX (S:Src) (K:Fg) (ta:TA):TI:=fun σ H R=>ta σ H fun vs H1=>∃ a xs,vs=[.ref a]/\S.Sq K H1 a xs/\R (Ite S K a) H1
theorem qY (S:Src) {a:Expr} {ta:TA} {p pos:Pos} (hg:Gl X "enumerate") (hm:X.mg "enumerate"=none) (hS:S.icls≠"enumerate") (ha:PA X [a] ta) (hs:LD [a] X.env=[(false,eval a X.env)]:=by rfl):
  PI X (.Tuple elts k0 tpos) (.Call (.Name "enumerate" p) [a] [] pos) (qX S X.K ta):=by
 intro pins s σ H R I h
 refine Call_ (fY I hg hm boot_enumerate (Ms (thn (ha pos pins s σ H _ I h) fun us s1 ⟨vs,H1,I1,r1,q1⟩=>?_) hs rfl))
 obtain ⟨l,xs,e,hq,q⟩:=q1
 subst e
 obtain ⟨u,rfl,ru⟩:=r1.one
 cases ru
 obtain ⟨its,rv,p',hz⟩:=S.get I1 hq
 refine Eg S p' fun h' he hi kp=>S7 he ?_
 have I2:Inv X pins σ H1 { s1 with heap:=h' }:=I1.kept (t':=s1.toks) kp
 refine ⟨s1.heap.objs.size + 1,[s1.heap.objs.size + 1,s1.heap.objs.size],_,_,H1,rfl,I2,Ef S l _ _ hS,⟨⟨_,he⟩,hi⟩,fun b hb=>?_,q⟩
 have hb':s1.heap.objs.size<=b:=by
  rcases Lh.mp hb with rfl | hb
  ·exact Og _
  ·obtain rfl:=Lg.mp hb
   exact Le _
 exact I1.fpOk hb' (I1.hok.fresh hb')
end
end
section
open PySem.Spec
section
variable {X:Cx}
noncomputable def lh (K:Fg):List V->Hp->VK->Prop:=fun xs H Q=>∃ x T t b,xs=[x,.ty T]/\fi K H x t/\Mg K t (.type T)=some b/\Q (.bl b) H
theorem fm:cS X (.builtin "isinstance") (lh X.K):=by
 intro pins s σ H xs us Q I r h
 obtain ⟨x,T,t,b,rfl,ty,e,q⟩:=h
 obtain ⟨u,v,rfl,ru,rv⟩:=r.two
 cases (show v=MC T from rv)
 exact DU I ru ty e fun tk=>⟨.bl b,H,I.tok tk,rfl,q⟩
theorem AR (K:Fg):Mg K (.type "int") (.type "int")=some true:=by unfold Mg; rw [if_pos (beq_self_eq_true _)]
theorem ze (K:Fg):Mg K (.type "int") (.type "bool")=some false:=by show (if (MC "int" == MC "bool")=true then some true else if Rq "bool"=true then (RM "int").map (·.contains (.type "bool")) else none)=some false; decide +kernel
theorem jD (K:Fg):Mg K (.type "tuple") (.type "tuple")=some true:=by unfold Mg; rw [if_pos (beq_self_eq_true _)]
theorem r0 (K:Fg):Mg K (.type "list") (.type "list")=some true:=by unfold Mg; rw [if_pos (beq_self_eq_true _)]
theorem HZ:∀ (bs:List Bool),(Lv bs.length).all (fun i=>bs.getD i false)=bs.all id:=by
 intro bs
 induction bs with
 | nil=>rfl
 | cons b r ih=>
  rw [LP,RG,OS,PV,OS]
  show (b && _)=(b && _)
  rw [<-ih]
  rfl
theorem Ia {bs:List Bool} {us:List Value} (r:aG (bs.map V.bl) us):us=bs.map Mo:=by
 induction bs generalizing us with
 | nil=>cases r; rfl
 | cons b t ih=>
  cases r with
  | cons q r'=>
   rw [LA,<-ih r',show _=Mo b from q]
theorem Inv.walked {pins:List (Addr×Obj)} {σ:St} {H:Hp} {s:Shared} {h':Heap} {tk:Nat} {o:Obj} (I:Inv X pins σ H s) (hk:∀ b ob,b∉[s.heap.objs.size]->(s.heap.push o).get? b=some ob->h'.get? b=some ob):Inv X pins σ H { s with heap:=h',toks:=tk }:=
 I.kept fun b ob e=>hk b ob (fun z=>absurd (Lg.mp z) (LR (Lm e))) (Lb _ e)
theorem lZ (hc:X.calm=true):cS X (.builtin "all") (fun xs H Q=>∃ (p:Addr) (bs:List Bool),xs=[.ref p]/\SqL X.K H p (bs.map V.bl)/\Q (.bl (bs.all id)) H):=by
 intro pins s σ H xs us Q I r h
 obtain ⟨p,bs,rfl,hq,q⟩:=h
 obtain ⟨u,rfl,rx⟩:=r.one
 cases rx
 obtain ⟨its,rv,pl,hz⟩:=I.list hq
 have e:=Ia rv
 subst e
 refine call_all_walk (OH pl.isList ⟨s.heap.objs.size,_,_,_,_,_,fun i=>bs.getD i false,rfl,Ue (show X.A.in1.handled=none from I.ok.hd hc) _ p (by obtain ⟨o,ho,_⟩:=pl.isList; exact LR (Lm ho)) (bs.map Mo).toArray,
  ⟨⟨_,Lk _ rfl,rfl,rfl⟩,pl.isList.push _⟩,?_,fun h' tk hk=>?_⟩)
 ·intro i v s' Q' E' hP hQ
  have hP':(bs.map Mo)[i]?=some v:=by simpa using hP
  rw [Lx] at hP'
  cases e:bs[i]? with
  | none=>rw [e] at hP'; cases hP'
  | some b=>
   rw [e] at hP'
   cases hP'
   have:bs.getD i false=b:=by rw [Lo,e]; rfl
   have hQ':Q' (bs.getD i false) s':=hQ
   rw [this] at hQ'
   exact Nt hQ'
 ·refine ⟨.bl (bs.all id),H,I.walked hk,?_,q⟩
  show Mo _=Mo _
  rw [<-HZ]
  simp
theorem AS (ns:List Int):∀ k,k<=ns.length->preSum (fun i=>ns.getD i 0) k=(ns.take k).sum:=by
 intro k
 induction k with
 | zero=>intro _; simp [preSum]
 | succ k ih=>
  intro hk
  have hlt:k < ns.length:=hk
  rw [preSum,ih (Mj hlt),MW,MP,Ld hlt,Lo,Ld hlt]
  simp
theorem jV (hc:X.calm=true):cS X (.builtin "sum") (fun xs H Q=>∃ (p:Addr) (ns:List Int),xs=[.ref p]/\SqL X.K H p (ns.map V.int)/\Q (.int ns.sum) H):=by
 intro pins s σ H xs us Q I r h
 obtain ⟨p,ns,rfl,hq,q⟩:=h
 obtain ⟨u,rfl,rx⟩:=r.one
 cases rx
 obtain ⟨its,rv,pl,hz⟩:=I.list hq
 have hlen:ns.length=its.length:=by have:=rv.length; simpa using this
 have ia:=nO rv
 refine call_sum_walkG (OH pl.isList ⟨s.heap.objs.size,_,_,_,_,_,fun i=>ns.getD i 0,rfl,Ue (show X.A.in1.handled=none from I.ok.hd hc) _ p (by obtain ⟨o,ho,_⟩:=pl.isList; exact LR (Lm ho)) its.toArray,
  ⟨⟨_,Lk _ rfl,rfl,rfl⟩,pl.isList.push _⟩,fun b hb=>?_,?_,fun h' tk t' hk=>?_⟩)
 ·have hp:p < s.heap.objs.size:=by
   obtain ⟨o,ho,_⟩:=pl.isList
   exact Lm ho
  show b < (s.heap.push _).objs.size
  rw [Ma]
  rcases Lh.mp hb with rfl | hb
  ·exact MS _
  ·obtain rfl:=Lg.mp hb
   exact MM hp
 ·intro i v hP
  have hP':its[i]?=some v:=by simpa using hP
  have hlt:i < ns.length:=by
   have:=(Li.mp hP').1
   omega
  obtain ⟨u',hu',ru'⟩:=rv.get (x:=.int ns[i]) (i:=i) (by rw [Lx,Ld hlt] <;> rfl)
  rw [hP'] at hu'
  cases hu'
  obtain ⟨t,e⟩:=(show ∃ t,v=Of ns[i] t from ru')
  refine ⟨t,?_⟩
  show v=Of (ns.getD i 0) t
  rw [e,Lo,Ld hlt]
  rfl
 ·refine ⟨.int ns.sum,H,I.walked hk,⟨t',?_⟩,q⟩
  rw [show its.toArray.size=ns.length by simp; omega,AS ns _ (Le _),LZ]
noncomputable def EqE (x y:V) (b:Bool):Prop:=(gu x=true/\gu y=true/\b=eqV x y)\/(∃ a,x=.ref a/\y=.ref a/\b=true)
theorem EqE.at {A:Around} {s:Shared} {x y:V} {b:Bool} {u v:Value} (h:EqE x y b) (ru:aI x u) (rv:aI y v):LQ A s u v b:=by
 rcases h with ⟨f1,f2,rfl⟩ | ⟨a,rfl,rfl,rfl⟩
 ·exact DX ru rv f1 f2
 ·cases ru
  cases rv
  exact Rp _
noncomputable def Cc (xs ys:List V) (e:Nat->Bool):Prop:=∀ j x y,xs[j]?=some x->ys[j]?=some y->EqE x y (e j)
theorem wc {A:Around} {s:Shared} {xs ys:List V} {e:Nat->Bool} {us vs:List Value} (h:Cc xs ys e) (ru:aG xs us) (rv:aG ys vs):
  ∀ j (h1:j < us.toArray.size) (h2:j < vs.toArray.size),LQ A s us.toArray[j] vs.toArray[j] (e j):=by
 intro j h1 h2
 have h1':j < xs.length:=by rw [ru.length]; simpa using h1
 have h2':j < ys.length:=by rw [rv.length]; simpa using h2
 obtain ⟨u,eu,r1⟩:=ru.get (Ld h1')
 obtain ⟨v,ev,r2⟩:=rv.get (Ld h2')
 have q:=(h j _ _ (Ld h1') (Ld h2')).at (A:=A) (s:=s) r1 r2
 have e1:us.toArray[j]=u:=by
  have:=(Li.mp eu).2
  simpa using this
 have e2:vs.toArray[j]=v:=by
  have:=(Li.mp ev).2
  simpa using this
 rw [e1,e2]
 exact q
noncomputable def gY (xs ys:List V) (e:Nat->Bool):Bool:=(Lv (min xs.length ys.length)).all e && xs.length == ys.length
noncomputable def nX (Sq:Hp->Addr->List V->Prop) (neg:Bool):R2:=fun x y H Q=>∃ a b xs ys e,x=.ref a/\y=.ref b/\Sq H a xs/\Sq H b ys/\Cc xs ys e/\Q (.bl (if neg then !gY xs ys e else gY xs ys e)) H
theorem JC (hu:X.A.units < cLine):OpR X (M7 .Eq) (nX (SqT X.K) false):=by
 intro pins s σ H x y v u Q I r1 r2 h
 obtain ⟨a,b,xs,ys,e,rfl,rfl,ha,hb,he,q⟩:=h
 cases r1
 cases r2
 obtain ⟨us,ru,pu,_⟩:=I.tuple ha
 obtain ⟨vs,rv,pv,_⟩:=I.tuple hb
 refine SeqAt.eq_tupleAt (e:=e) pu pv hu (wc he ru rv) ⟨.bl (gY xs ys e),H,I,?_,q⟩
 show Mo _=Mo _
 unfold gY
 rw [Ls,Ls,ru.length,rv.length]
theorem JD (hu:X.A.units < cLine):OpR X (M7 .NotEq) (nX (SqT X.K) true):=by
 intro pins s σ H x y v u Q I r1 r2 h
 obtain ⟨a,b,xs,ys,e,rfl,rfl,ha,hb,he,q⟩:=h
 cases r1
 cases r2
 obtain ⟨us,ru,pu,_⟩:=I.tuple ha
 obtain ⟨vs,rv,pv,_⟩:=I.tuple hb
 refine SeqAt.RcNeAt.tuples (e:=e) pu pv hu (wc he ru rv) _ _ _ _ ⟨.bl (!gY xs ys e),H,I,?_,q⟩
 show Mo _=Mo _
 unfold gY
 rw [Ls,Ls,ru.length,rv.length]
theorem JE (hu:X.A.units < cLine):OpR X (M7 .Eq) (nX (SqL X.K) false):=by
 intro pins s σ H x y v u Q I r1 r2 h
 obtain ⟨a,b,xs,ys,e,rfl,rfl,ha,hb,he,q⟩:=h
 cases r1
 cases r2
 obtain ⟨us,ru,pu,_⟩:=I.list ha
 obtain ⟨vs,rv,pv,_⟩:=I.list hb
 have h1:=ru.length
 have h2:=rv.length
 by_cases hl:xs.length=ys.length
 ·refine SeqAt.eq_listAt (e:=e) pu.isList pv.isList (by simp only [Ls]; omega) hu (wc he ru rv) ⟨.bl (gY xs ys e),H,I,?_,q⟩
  show Mo _=Mo _
  unfold gY
  rw [Ls,<-h1,hl,O6,beq_self_eq_true,Bool.and_true]
 ·refine SeqAt.eq_list_lengthsAt pu.isList pv.isList (by simp only [Ls,bne_iff_ne]; omega) hu ⟨.bl (gY xs ys e),H,I,?_,q⟩
  show Mo _=Mo _
  unfold gY
  rw [beq_eq_false_iff_ne.mpr hl,Qg]
end
theorem Eh (ns ms:List Int):Cc (ns.map V.int) (ms.map V.int) (fun j=>decide (ns[j]?=ms[j]?)):=by
 intro j x y hx hy
 rw [Lx] at hx hy
 cases e1:ns[j]? with
 | none=>rw [e1] at hx; cases hx
 | some n=>
  cases e2:ms[j]? with
  | none=>rw [e2] at hy; cases hy
  | some m=>
   rw [e1] at hx
   rw [e2] at hy
   cases hx
   cases hy
   refine .inl ⟨rfl,rfl,?_⟩
   show decide (ns[j]?=ms[j]?)=(n == m)
   rw [e1,e2]
   by_cases h:n=m
   ·subst h; simp
   ·simp [h]
theorem Cd (ns ms:List Int):gY (ns.map V.int) (ms.map V.int) (fun j=>decide (ns[j]?=ms[j]?))=decide (ns=ms):=by
 unfold gY
 rw [Lf,Lf]
 by_cases h:ns=ms
 ·subst h
  simp
 ·rw [decide_eq_false h]
  by_cases hl:ns.length=ms.length
  ·rw [Bool.and_eq_false_iff]
   left
   rw [<-Bool.not_eq_true,TJ]
   intro q
   apply h
   apply Nu
   intro j
   by_cases hj:j < ns.length
   ·have:=q j (by rw [MY]; omega)
    exact of_decide_eq_true this
   ·rw [LJ (by omega),LJ (by omega)]
  ·rw [beq_eq_false_iff_ne.mpr hl,Qg]
end
section
open PySem.Spec
noncomputable def FnB (P:Program) (w:World) (K:Fg) (mg:Str->Option Value) (base:Heap) (k:Nat) (x:Str) (ps:List Str) (sp:Sp):Prop:=
 ∃ f fd,gO P w K mg base CX0 k f fd ps sp/\mg x=some (.ref f)/\OI K (.ref f)=true/\fk K fd ps []
theorem ak {X:Cx} {k:Nat} {x:Str} {ps:List Str} {sp:Sp} {p pos:Pos} {e:Expr} {es:List Expr} {t:TA} (F:FnB X.prog X.w X.K X.mg X.base k x ps sp) (hr:bQ k X.A) (ha:PA X (e :: es) t) (hg:Gl X x:=by rfl)
  (hdb:(x == ("__debug__":Str))=false:=by decide) (he:LD (e :: es) X.env=(false,eval e X.env) :: LD es X.env:=by rfl) (hpl:(backTo pos (LD es X.env)).any (·.1)=false:=by rfl):
  PE X (.Call (.Name x p) (e :: es) [] pos) (au sp [] E0 t):=by
 obtain ⟨f,fd,ok,m,kp,b⟩:=F
 exact HQ ok hr hg m kp b .nil yy ha hdb he hpl
structure Def (K:Fg) (mg:Str->Option Value) (x:Str) (st:Stmt) (ps:List Str) (f:Addr) (fd:LB):Prop where
 fn:Fun K x x st f fd
 m:mg x=some (.ref f)
 b:fk K fd ps []
theorem Def.ok {P:Program} {w:World} {K:Fg} {mg:Str->Option Value} {base:Heap} {x:Str} {st:Stmt} {N ps:List Str} {f:Addr} {fd:LB} {k:Nat} {sp:Sp} (D:Def K mg x st ps f fd) (S:aB N ps (ac st)) (len:∀ vs H Q E,sp vs H Q E->vs.length=ps.length)
  (hbody:∀ (cdv:Value) (A:Around) (outer:List Env) (s:Shared) (H:Hp) (vs:List V) (Q:VK) (E:XK),bQ k (A.deeper (envOfC x (ac st) s.heap.objs.size f cdv))->sp vs H Q E->
   ∃ t,PSs (nL CX0 P w K mg base N x (ac st) f cdv A outer s H E).nox (eV st) t/\t { nx:=fun _ H'=>Q .non H',rt:=Q } (start N vs) H):FnB P w K mg base (k + 1) x ps sp:=
 ⟨f,fd,D.fn.ok S len hbody,D.m,D.fn.kp,D.b⟩
theorem dh {X:Cx}:OpR X (N4 .Mult) (rI NM fun i j=>.int (i * j)):=opI fun _ _ _ _ _ _ _ hc q=>mul_int q hc
theorem uq:∀ (ns:List Int),∀ n∈ns,Mb n<=Rg (ns.map Pl)
 | [],n,h=>(nomatch h)
 | m :: r,n,h=>by
  rw [LA,Rg]
  have e:OO (.int m)=Mb m:=by
   rw [OO]
   rfl
  rw [e]
  rcases Lh.mp h with rfl | h
  ·omega
  ·have:=uq r n h
   omega
theorem AT {ns:List Int} (h:Q7 [Qu (ns.map Pl)]=true):∀ n∈ns,Mb n<=1048576:=by
 intro n hn
 have h1:RN (Qu (ns.map Pl))=true:=by
  unfold Q7 at h
  rw [OS,MG] at h
  exact h.1
 unfold RN at h1
 rw [MG] at h1
 have h2:OO (Qu (ns.map Pl))<=2 ^ 20:=of_decide_eq_true h1.2
 rw [OO] at h2
 have h3:=uq ns n hn
 have e:(2:Nat) ^ 20=1048576:=by decide
 omega
noncomputable def fo (K:Fg) (H:Hp) (a:Addr) (ns:List Int):Prop:=SqL K H a (ns.map V.int)/\ns.length<=63/\∀ n∈ns,Mb n<=1048576
noncomputable def ur (K:Fg):Sp:=fun vs H Q _=>∃ (a:Addr) (ns:List Int),vs=[.ref a]/\fo K H a ns/\∀ H',Q (.bl true) H'
theorem FK {l:PySem.W.OpenLaw} {k:Nat} {q:Program} {loose:List Str} {XP:(Str->Option Value)->Heap->Prop} {YP:World->Heap->Prop} {d:DefRec} {K:Params->Fg} {x:Str}
  (hn:l.most=some 63) (hdf:d.params.defaults=[]) (hr:bQ k callerA) (hY:∀ (w:World) (h:Heap),YP w h->(K w.params).In h)
  (F:∀ (w:World) (mg:Str->Option Value) (fa:Addr) (h:Heap),(K w.params).In h->h.Ns LO mg->mg d.name=some (.ref fa)->
   ∃ fd:LB,(∀ (s:Shared) (u:Value),BindsTo s fd ⟨[u],[]⟩ [(x,u)])/\
    ∀ base:Heap,(K w.params).In base->base.Ns LO mg->gO l.prog w (K w.params) mg base CX0 k fa fd [x] (ur (K w.params))):
  PySem.W.WalkO q loose XP YP l.row.toRowW d [] (fun f vs=>PySem.call f vs):=by
 intro w s₀ s₁ mg mb G Y fa o pm cd doc dV kV ho hd hcd hD hmg hg args vals as hpre hlay hrd hwl hlo
 obtain rfl:dV=.none:=PySem.W.Dflts.none hD hdf
 obtain rfl:kV=.none:=PySem.W.Dflts.noKw hD
 obtain ⟨a,vs,ns,rfl,rfl,hobj,hints,hlen⟩:=Att.Ea hn hpre hwl
 have hbits:=AT hlay
 have KX:=hY w _ Y
 obtain ⟨fd,hb,hF⟩:=F w mg fa _ KX G.T.g hmg
 have c:=FH KX G.T.g G.T.b G.T.builtins G.T.nolimit hg hobj hints (LS hlen (by decide)) hr hF hb (fun H hO hS=>⟨a,ns,rfl,⟨hS,hlen,hbits⟩,fun _=>rfl⟩) fun H e s' z=>z
 refine PySem.W.enter_call (Oj c fun r s' hq=>?_)
 obtain ⟨rfl,h2,h3,h4⟩:=hq
 exact ⟨.inl ⟨.bool true,.bool true,[],rfl,fun _=>rfl,.bool true,Att.Eb l _,fun _=>⟨List.Pairwise.nil,fun _ hm=>(nomatch hm)⟩⟩,h2,h3,h4⟩
theorem Ei {J:It} {n:Nat} {g:TG} {tb:TS} {D:jk} {σ:St} {H:Hp} {Y:Nat->Hp->V->Hp->Prop} (Pv:Nat->St->Hp->Prop) (h0:Pv 0 σ H) (hgo:∀ i σ H,i < n->Pv i σ H->J.go i H) (hst:∀ σ H,Pv n σ H->J.stop n H)
  (hy:∀ i σ H x H1,i < n->Pv i σ H->J.yld i H x H1->Y i H x H1) (hs:∀ i x σ H H1,i < n->Pv i σ H->Y i H x H1->g x σ H1 fun σ2 H2=>tb { D with nx:=Pv (i + 1),ct:=Pv (i + 1),bk:=D.nx } σ2 H2) (hd:∀ σ H,Pv n σ H->D.nx σ H):
  ∃ W:Nat->Nat->St->Hp->Prop,(∃ m,W 0 m σ H)/\∀ i m σ H,W i m σ H->
   (J.stop i H/\D.nx σ H)\/(J.go i H/\∃ N:St->Hp->Prop,(∀ σ' H',N σ' H'->∃ m',m' < m/\W (i + 1) m' σ' H')/\∀ x H',J.yld i H x H'->g x σ H' fun σ2 H2=>tb { D with nx:=N,ct:=N,bk:=D.nx } σ2 H2):=by
 refine ⟨fun i m σ H=>m=n - i/\i<=n/\Pv i σ H,⟨n,by simp,Me _,h0⟩,?_⟩
 rintro i m σ H ⟨rfl,hi,p⟩
 by_cases hlt:i < n
 ·exact .inr ⟨hgo i σ H hlt p,Pv (i + 1),fun σ' H' p'=>⟨n - (i + 1),by omega,rfl,hlt,p'⟩,fun x H' y=>hs i x σ H H' hlt p (hy i σ H x H' hlt p y)⟩
 ·have e:i=n:=by omega
  subst e
  exact .inl ⟨hst σ H p,hd σ H p⟩
theorem zf {S:Src} {K:Fg} {a:Addr} {xs:List V} {g:TG} {tb:TS} {D:jk} {σ:St} {H:Hp} (Pv:Nat->St->Hp->Prop) (h0:Pv 0 σ H) (hl:∀ i σ H,i<=xs.length->Pv i σ H->S.Sq K H a xs)
  (hs:∀ i x T σ H,xs[i]?=some x->Pv i σ H->H T=none->g (.ref T) σ (upd H T (.tup [.int i,x])) fun σ2 H2=>tb { D with nx:=Pv (i + 1),ct:=Pv (i + 1),bk:=D.nx } σ2 H2) (hd:∀ σ H,Pv xs.length σ H->D.nx σ H):
  ∃ W:Nat->Nat->St->Hp->Prop,(∃ m,W 0 m σ H)/\∀ i m σ H,W i m σ H->
   ((Ite S K a).stop i H/\D.nx σ H)\/((Ite S K a).go i H/\∃ N:St->Hp->Prop,(∀ σ' H',N σ' H'->∃ m',m' < m/\W (i + 1) m' σ' H')/\∀ x H',(Ite S K a).yld i H x H'->g x σ H' fun σ2 H2=>tb { D with nx:=N,ct:=N,bk:=D.nx } σ2 H2):=
 Ei (J:=Ite S K a) (n:=xs.length) (Y:=fun i H x H1=>∃ T v,H T=none/\x=.ref T/\H1=upd H T (.tup [.int i,v])/\xs[i]?=some v) Pv h0 (fun i σ H hi w=>⟨xs,xs[i],hl i σ H (Mj hi) w,by simp [hi]⟩) (fun σ H w=>⟨xs,hl _ σ H (Le _) w,rfl⟩)
  (fun i σ H x H1 hi w y=>by
   obtain ⟨T,v,e1,e2,e3,e4⟩:=y
   exact ⟨T,v,e1,e2,e3,e4 xs (hl i σ H (Mj hi) w)⟩) (fun i x σ H H1 hi w y=>by
   obtain ⟨T,v,e1,rfl,rfl,e4⟩:=y
   exact hs i v T σ H e4 w e1) hd
theorem Ej {S:Src} {K:Fg} {a:Addr} {xs:List V} {g:CF TG} {tt:CF TT} {te:CF TE} {σ₀:St} {p:Addr} {Q:VK} {H:Hp} (Pv:Nat->List V->Hp->Prop) (h0:Pv 0 [] (upd H p (.lst []))) (hp:∀ i acc H,i<=xs.length->Pv i acc H->H p=some (.lst acc)/\acc.length<=i) (hl:∀ i acc H,i<=xs.length->Pv i acc H->S.Sq K H a xs) (hz:xs.length<=Lr)
  (hs:∀ C s' H' fp,∀ i x T acc H,xs[i]?=some x->Pv i acc H->H T=none->g C s' H' fp (.ref T) σ₀ (upd H T (.tup [.int i,x])) fun σ2 H2=>tt C s' H' fp σ2 H2 fun b H3=>if b=true then te C s' H' fp σ2 H3 fun y H4=>H4 p=some (.lst acc)/\Pv (i + 1) (acc++[y]) (upd H4 p (.lst (acc++[y]))) else Pv (i + 1) acc H3)
  (hd:∀ acc H,Pv xs.length acc H->Q (.ref p) H):
  ∃ W:Nat->Nat->List V->Hp->Prop,(∃ m,W 0 m [] (upd H p (.lst [])))/\∀ C s' H' fp,cg (Ite S K a) (g C s' H' fp) (tt C s' H' fp) (te C s' H' fp) σ₀ p Q W:=
 kP (Y:=fun i H x H1=>∃ T v,H T=none/\x=.ref T/\H1=upd H T (.tup [.int i,v])/\xs[i]?=some v) Pv h0 hp hz (fun i acc H hi w=>⟨xs,xs[i],hl i acc H (Mj hi) w,by simp [hi]⟩) (fun acc H w=>⟨xs,hl _ acc H (Le _) w,rfl⟩)
  (fun i acc H x H1 hi w y=>by
   obtain ⟨T,v,e1,e2,e3,e4⟩:=y
   exact ⟨T,v,e1,e2,e3,e4 xs (hl i acc H (Mj hi) w)⟩) (fun C s' H' fp i x acc H H1 hi w y=>by
   obtain ⟨T,v,e1,rfl,rfl,e4⟩:=y
   exact hs C s' H' fp i v T acc H e4 w e1) hd
theorem aW {H:Hp} {p:Addr} (h:H p=none) (o:HO):am H (upd H p o):=fun b u q=>by rw [aP (aS q h)]; exact q
theorem am.upd {H H':Hp} {p:Addr} (s:am H H') (h:H p=none) (o:HO):am H (upd H' p o):=fun b u q=>by rw [aP (aS q h)]; exact s b u q
theorem am.tup {K:Fg} {H H':Hp} {a:Addr} {xs:List V} (e:am H H') (h:SqT K H a xs):SqT K H' a xs:=by
 rcases h with (h | ⟨o,h⟩) | h
 ·exact .inl (.inl (e _ _ h))
 ·exact .inl (.inr ⟨o,e _ _ h⟩)
 ·exact .inr h
theorem small {n:Nat} (h:n<=1000):n<=Lr:=Mj (Ed h)
theorem zg {ns:List Int} {k:Int} (h0:0<=k) (h1:k < (ns.length:Int)):atI (ns.map V.int) k=some (.int (ns.getD k.toNat 0)):=by
 have hk:k.toNat < ns.length:=by omega
 have e:k=((k.toNat:Nat):Int):=by omega
 have q:atI (ns.map V.int) ((k.toNat:Nat):Int)=some (.int (ns.getD k.toNat 0)):=cB (by rw [Lx,Ld hk,Lo,Ld hk] <;> rfl)
 rw [<-e] at q
 exact q
theorem iG {c:Bool} {A B:Prop} (h1:c=true->A) (h2:c=false->B):if c=true then A else B:=by
 cases c with
 | true=>rw [if_pos rfl]; exact h1 rfl
 | false=>rw [if_neg Lq]; exact h2 rfl
noncomputable def br (ns:List Int) (k:Int):Int:=
 if k < (ns.length:Int) then ns.getD k.toNat 0 else
  let n0:=if 0 < (ns.length:Int) then ns.getD ((k * 7) % (ns.length:Int)).toNat 0 * 48271 + k * 7919 else k * 7919 + 5
  let n1:=n0 * n0 % 2147483629
  (n1 + k) * (n1 + 69621) % 2147483587
noncomputable def JF (K:Fg):Sp:=fun vs H Q _=>∃ (a:Addr) (ns:List Int) (k:Int),vs=[.ref a,.int k]/\fo K H a ns/\0<=k/\k<=1000000/\Q (.int (br ns k)) H
theorem fo.same {K:Fg} {H H':Hp} {a:Addr} {ns:List Int} (h:fo K H a ns) (s:am H H'):fo K H' a ns:=⟨s.seq h.1,h.2⟩
structure Blt (mg:Str->Option Value):Prop where
 len:mg "len"=none
 range:mg "range"=none
 tuple:mg "tuple"=none
 list:mg "list"=none
 int:mg "int"=none
 bool:mg "bool"=none
 str:mg "str"=none
 dict:mg "dict"=none
 sum:mg "sum"=none
 all:mg "all"=none
 min:mg "min"=none
 max:mg "max"=none
 sorted:mg "sorted"=none
 enumerate:mg "enumerate"=none
 zip:mg "zip"=none
 isinstance:mg "isinstance"=none
theorem Ek {ns:List Int} (h:∀ n∈ns,Mb n<=1048576) (i:Nat):Mb (ns.getD i 0)<=1048576:=by
 rw [Lo]
 cases e:ns[i]? with
 | none=>show Mb 0<=_; decide
 | some n=>exact h n (Lw e)
end
section
open PySem.Spec
structure iH (z TI TO j1 j2:Addr) (fp1 fp2:List Addr):Prop where
 a1:TI≠z
 a2:TO≠z
 a3:j1≠z
 a4:j2≠z
 a5:TI≠TO
 a6:TI≠j1
 a7:TI≠j2
 a8:TO≠j1
 a9:TO≠j2
 b0:j1≠j2
 b1:z∉fp1
 b2:TO∉fp1
 b3:j2∉fp1
 b4:z∉fp2
 b5:TO∉fp2
 b6:j1∉fp2
section
variable {prog:Program} {w:World} {A:Around} {E:Value->Shared->Prop} {s:Shared}
theorem _root_.PySem.Draws.but {it:Addr} {fp:List Addr} {n i:Nat} {P:Nat->Value->Prop} {St:Nat->Heap->Prop} {h h':Heap} {c:Addr} (D:Draws prog w A it fp n P St) (hst:St i h) (hs:LC c h h') (hc:c∉fp):St i h':=
 D.frame i _ _ hst fun b hb o e=>hs.extBut b o (fun z=>hc (by rw [<-z]; exact hb)) e
theorem xi {z TI TO j1 j2:Addr} {fp1 fp2:List Addr} {n1 n2 k:Nat} {P1 P2:Nat->Value->Prop} {S1 S2:Nat->Heap->Prop} {a b:Value} {Q:Value->Shared->Prop} (Z:iH z TI TO j1 j2 fp1 fp2)
  (D1:Draws prog w A j1 fp1 n1 P1 S1) (D2:Draws prog w A j2 fp2 n2 P2 S2) (hz:IsZip s.heap z TI TO .none) (hTI:IsPair s.heap TI (.ref j1) (.ref j2)) (hTO:IsPair s.heap TO a b) (h1:S1 k s.heap) (h2:S2 k s.heap) (l1:k < n1) (l2:k < n2)
  (hQ:∀ x y h' tk,P1 k x->P2 k y->IsZip h' z TI TO (rawInt s.heap.objs.size)->(∃ a b,IsPair h' TO a b)->S1 (k + 1) h'->S2 (k + 1) h'->IsPair h' s.heap.objs.size x y->
   (∀ c o,c∉[z,TI,TO,j1,j2]->s.heap.get? c=some o->h'.get? c=some o)->IsPair h' TI (.ref j1) (.ref j2)->Q (.ref s.heap.objs.size) { s with heap:=h',toks:=tk }):
  wpAny (model prog w) A (Builtin.«zip.__next__» ⟨[.ref z],[]⟩) (fun fin s'=>∃ v,fin=.done (.ret v)/\Q v s') E s:=by
 obtain ⟨hp,g,d,tk₀,os⟩:=s
 show wpAny _ _ (field (.ref z) 2 >>= _) _ _ _
 refine La (Mn hz rfl (x:=.bool false) rfl ?_)
 show wpAny _ _ (field (.ref z) 3 >>= _) _ _ _
 refine La (Mn hz rfl (x:=.ref TI) rfl ?_)
 refine La (Mv hTI rfl ?_)
 show wpAny _ _ (L8 (.ref z) >>= _) _ _ _
 refine La ?_
 unfold L8
 refine La (Mn hz rfl (x:=.none) rfl (Lc ?_))
 simp only [if_true]
 refine La (NC ?_)
 refine La (Mn hz rfl (x:=.ref TO) rfl ?_)
 refine La (NF hz (by simp) fun g1 hz1 hs1=>?_)
 replace hz1:IsZip g1 z TI TO .ellipsis:=hz1
 replace hs1:LC z hp g1:=hs1
 refine La ?_
 simp only [TK,Ug,O0,Qi]
 refine La (La (QF ?_))
 show wpAny _ _ (L5 (.ref j1) >>= _) _ _ _
 refine La (D1.item k ⟨g1,g,d,tk₀,os⟩ _ _ l1 (D1.but h1 hs1 Z.b1) fun x g2 tk1 px st1 hs2=>Lc ?_)
 replace hs2:LC j1 g1 g2:=hs2
 have hTO2:IsPair g2 TO a b:=hs2.extBut _ _ Z.a8 (hs1.extBut _ _ Z.a2 hTO)
 refine La (Mv hTO2 rfl ?_)
 refine La (PX hTO2 fun g3 hTO3 hs3=>?_)
 replace hTO3:IsPair g3 TO x b:=hTO3
 replace hs3:LC TO g2 g3:=hs3
 refine La (RH (Lc ?_))
 refine La (La (QF ?_))
 show wpAny _ _ (L5 (.ref j2) >>= _) _ _ _
 refine La (D2.item k ⟨g3,g,d,tk1,os⟩ _ _ l2 (D2.but (D2.but (D2.but h2 hs1 Z.b4) hs2 Z.b6) hs3 Z.b5) fun y g4 tk2 py st2 hs4=>Lc ?_)
 replace hs4:LC j2 g3 g4:=hs4
 have hTO4:IsPair g4 TO x b:=hs4.extBut _ _ Z.a9 hTO3
 refine La (Mv hTO4 rfl ?_)
 refine La (PX hTO4 fun g5 hTO5 hs5=>?_)
 replace hTO5:IsPair g5 TO x y:=hTO5
 replace hs5:LC TO g4 g5:=hs5
 refine La (RH (Lc (Lc ?_)))
 refine La (Mv hTO5 rfl ?_)
 refine La (RO ?_)
 have hsz:g5.objs.size=hp.objs.size:=by rw [hs5.1,hs4.1,hs3.1,hs2.1,hs1.1]
 have hz5:IsZip g5 z TI TO .ellipsis:=hs5.extBut _ _ Z.a2.symm (hs4.extBut _ _ Z.a4.symm (hs3.extBut _ _ Z.a2.symm (hs2.extBut _ _ Z.a3.symm hz1)))
 have k5:∀ c o,c≠z->c≠TO->c≠j1->c≠j2->hp.get? c=some o->g5.get? c=some o:=fun c o c1 c2 c3 c4 e=>
  hs5.extBut _ _ c2 (hs4.extBut _ _ c4 (hs3.extBut _ _ c2 (hs2.extBut _ _ c3 (hs1.extBut _ _ c1 e))))
 have st15:S1 (k + 1) g5:=D1.but (D1.but (D1.but st1 hs3 Z.b2) hs4 Z.b3) hs5 Z.b2
 have st25:S2 (k + 1) g5:=D2.but st2 hs5 Z.b5
 have zlt:z < g5.objs.size:=Lm hz5
 show wpAny _ _ (O7 (.ref z) (.ref g5.objs.size) >>= _) _ _ _
 refine La ?_
 unfold O7
 have hz6:IsZip (g5.push { cls:=.type "tuple",data:=.seq #[x,y] }) z TI TO .ellipsis:=Lb _ hz5
 refine La (NF hz6 (by simp) fun g7 hz7 hs7=>?_)
 replace hz7:IsZip g7 z TI TO (rawInt g5.objs.size):=hz7
 refine NF hz7 (by simp) fun g8 hz8 hs8=>?_
 replace hz8:IsZip g8 z TI TO (rawInt g5.objs.size):=hz8
 have up:∀ c o,c≠z->g5.get? c=some o->g8.get? c=some o:=fun c o c1 e=>hs8.extBut _ _ c1 (hs7.extBut _ _ c1 (Lb _ e))
 have hT8:IsPair g8 g5.objs.size x y:=hs8.extBut _ _ (Ny zlt) (hs7.extBut _ _ (Ny zlt) (Lk _ rfl))
 rw [hsz] at hz8 hT8
 refine Lc ⟨_,rfl,?_⟩
 show Q (.ref g5.objs.size) _
 rw [hsz]
 exact hQ x y g8 tk2 px py hz8 ⟨x,y,up _ _ Z.a2 hTO5⟩ (D1.frame _ _ _ st15 fun c hc o e=>up c o (fun q=>Z.b1 (by rw [<-q]; exact hc)) e) (D2.frame _ _ _ st25 fun c hc o e=>up c o (fun q=>Z.b4 (by rw [<-q]; exact hc)) e) hT8
  (fun c o hc e=>by
   simp only [Lh,Ml,or_false,not_or] at hc
   exact up c o hc.1 (k5 c o hc.1 hc.2.2.1 hc.2.2.2.1 hc.2.2.2.2 e)) (up _ _ Z.a1 (k5 _ _ Z.a1 Z.a5 Z.a6 Z.a7 hTI))
theorem zh {z TI TO j1 j2:Addr} {fp1 fp2:List Addr} {n1 n2 k:Nat} {P1 P2:Nat->Value->Prop} {S1 S2:Nat->Heap->Prop} {a b:Value} {Q:Fin->Shared->Prop} (Z:iH z TI TO j1 j2 fp1 fp2)
  (D1:Draws prog w A j1 fp1 n1 P1 S1) (D2:Draws prog w A j2 fp2 n2 P2 S2) (hz:IsZip s.heap z TI TO .none) (hTI:IsPair s.heap TI (.ref j1) (.ref j2)) (hTO:IsPair s.heap TO a b) (h1:S1 k s.heap) (h2:S2 k s.heap) (l:k=min n1 n2)
  (hE:∀ h' e tk,(∀ c o,c∉[z,TI,TO,j1,j2]->s.heap.get? c=some o->h'.get? c=some o)->(∃ o,h'.get? e=some o/\o.cls=.type "StopIteration")->E (.ref e) { s with heap:=h',toks:=tk }):
  wpAny (model prog w) A (Builtin.«zip.__next__» ⟨[.ref z],[]⟩) Q E s:=by
 obtain ⟨hp,g,d,tk₀,os⟩:=s
 have kp:∀ {h':Heap},(∀ c o,c≠z->c≠TO->c≠j1->c≠j2->hp.get? c=some o->h'.get? c=some o)->∀ c o,c∉[z,TI,TO,j1,j2]->hp.get? c=some o->h'.get? c=some o:=fun {h'} q c o hc e=>by
  simp only [Lh,Ml,or_false,not_or] at hc
  exact q c o hc.1 hc.2.2.1 hc.2.2.2.1 hc.2.2.2.2 e
 show wpAny _ _ (field (.ref z) 2 >>= _) _ _ _
 refine La (Mn hz rfl (x:=.bool false) rfl ?_)
 show wpAny _ _ (field (.ref z) 3 >>= _) _ _ _
 refine La (Mn hz rfl (x:=.ref TI) rfl ?_)
 refine La (Mv hTI rfl ?_)
 show wpAny _ _ (L8 (.ref z) >>= _) _ _ _
 refine La ?_
 unfold L8
 refine La (Mn hz rfl (x:=.none) rfl (Lc ?_))
 simp only [if_true]
 refine La (NC ?_)
 refine La (Mn hz rfl (x:=.ref TO) rfl ?_)
 refine La (NF hz (by simp) fun g1 hz1 hs1=>?_)
 replace hz1:IsZip g1 z TI TO .ellipsis:=hz1
 replace hs1:LC z hp g1:=hs1
 refine La ?_
 simp only [TK,Ug,O0,Qi]
 refine La (La (QF ?_))
 show wpAny _ _ (L5 (.ref j1) >>= _) _ _ _
 by_cases hk:k=n1
 ·subst hk
  refine La (D1.done ⟨g1,g,d,tk₀,os⟩ _ _ (D1.but h1 hs1 Z.b1) fun g2 e hs2 he=>?_)
  replace hs2:OX j1 g1 g2:=hs2
  obtain ⟨oe,hoe,hce⟩:=he
  have hz2:IsZip g2 z TI TO .ellipsis:=hs2 _ _ Z.a3.symm hz1
  have nez:e≠z:=fun q=>by
   subst q
   rw [hz2] at hoe
   cases hoe
   simp at hce
  refine NF hz2 (by simp) fun g3 _ hs3=>hE g3 e tk₀ (kp fun c o c1 _ c3 _ q=>hs3.extBut _ _ c1 (hs2 _ _ c3 (hs1.extBut _ _ c1 q))) ⟨oe,hs3.extBut _ _ nez hoe,hce⟩
 ·have hlt:k < n1:=by omega
  have hk2:k=n2:=by omega
  refine La (D1.item k ⟨g1,g,d,tk₀,os⟩ _ _ hlt (D1.but h1 hs1 Z.b1) fun x g2 tk1 px st1 hs2=>Lc ?_)
  replace hs2:LC j1 g1 g2:=hs2
  have hTO2:IsPair g2 TO a b:=hs2.extBut _ _ Z.a8 (hs1.extBut _ _ Z.a2 hTO)
  refine La (Mv hTO2 rfl ?_)
  refine La (PX hTO2 fun g3 hTO3 hs3=>?_)
  replace hs3:LC TO g2 g3:=hs3
  refine La (RH (Lc ?_))
  refine La (La (QF ?_))
  show wpAny _ _ (L5 (.ref j2) >>= _) _ _ _
  subst hk2
  refine La (D2.done ⟨g3,g,d,tk1,os⟩ _ _ (D2.but (D2.but (D2.but h2 hs1 Z.b4) hs2 Z.b6) hs3 Z.b5) fun g4 e hs4 he=>?_)
  replace hs4:OX j2 g3 g4:=hs4
  obtain ⟨oe,hoe,hce⟩:=he
  have hz4:IsZip g4 z TI TO .ellipsis:=hs4 _ _ Z.a4.symm (hs3.extBut _ _ Z.a2.symm (hs2.extBut _ _ Z.a3.symm hz1))
  have nez:e≠z:=fun q=>by
   subst q
   rw [hz4] at hoe
   cases hoe
   simp at hce
  refine NF hz4 (by simp) fun g5 _ hs5=>hE g5 e tk1 (kp fun c o c1 c2 c3 c4 q=>hs5.extBut _ _ c1 (hs4 _ _ c4 (hs3.extBut _ _ c2 (hs2.extBut _ _ c3 (hs1.extBut _ _ c1 q))))) ⟨oe,hs5.extBut _ _ nez hoe,hce⟩
end
noncomputable abbrev zh1 (S1:Src) (h:Heap) (l1:Addr):Heap:=h.push { cls:=.type S1.icls,data:=.fields #[.ref l1,.int 0 0] }
noncomputable abbrev zh2 (S1 S2:Src) (h:Heap) (l1 l2:Addr):Heap:=(zh1 S1 h l1).push { cls:=.type S2.icls,data:=.fields #[.ref l2,.int 0 0] }
noncomputable abbrev zh3 (S1 S2:Src) (h:Heap) (l1 l2:Addr):Heap:=(zh2 S1 S2 h l1 l2).push { cls:=.type "tuple",data:=.seq #[.ref h.objs.size,.ref (zh1 S1 h l1).objs.size] }
noncomputable abbrev zh4 (S1 S2:Src) (h:Heap) (l1 l2:Addr):Heap:=(zh3 S1 S2 h l1 l2).push { cls:=.type "tuple",data:=.seq #[.none,.none] }
noncomputable abbrev zh5 (S1 S2:Src) (h:Heap) (l1 l2:Addr):Heap:=(zh4 S1 S2 h l1 l2).push { cls:=.type "zip",data:=.fields #[.none,.bool false,.bool false,.ref (zh2 S1 S2 h l1 l2).objs.size,.ref (zh3 S1 S2 h l1 l2).objs.size] }
theorem Bv (S1 S2:Src) (l1 l2:Addr) (xs ys:Array Value):
  Meets (Builtin.«zip.__new__» ⟨[.type "zip",.ref l1,.ref l2],[]⟩) (fun _ R s=>S1.Is s.heap l1 xs/\S2.Is s.heap l2 ys/\R (.ok (.ret (.ref (zh4 S1 S2 s.heap l1 l2).objs.size))) { s with heap:=zh5 S1 S2 s.heap l1 l2 }):=
 .of_wp fun prog w A R s h=>by
  obtain ⟨hp,g,d,tk,os⟩:=s
  obtain ⟨q1,q2,h⟩:=h
  have hsub:=sub_zip
  have hL1:S1.Is (Ts ⟨hp,g,d,tk,os⟩) l1 xs:=q1
  have hL2:S2.Is (Ts ⟨zh1 S1 hp l1,g,d,tk,os⟩) l2 ys:=S2.isKeep q2 fun o e=>Lb _ e
  wp_walk using S1.iter hL1,S2.iter hL2
  exact ⟨_,rfl,h⟩
noncomputable def Itz (S1 S2 : Src) (K : Fg) (a b : Addr) : It :=
  ⟨fun i H => ∃ xs ys x y, S1.Sq K H a xs ∧ S2.Sq K H b ys ∧ xs[i]? = some x ∧ ys[i]? = some y,
   fun i H x H' => ∃ T u v, H T = none ∧ x = .ref T ∧ H' = upd H T (.tup [u, v]) ∧ ∀ xs ys, S1.Sq K H a xs → S2.Sq K H b ys → xs[i]? = some u ∧ ys[i]? = some v,
   fun i H => ∃ xs ys, S1.Sq K H a xs ∧ S2.Sq K H b ys ∧ min xs.length ys.length = i⟩
theorem zap {z TI TO j1 j2 a b:Addr} (nd:[z,TI,TO,j1,j2].Nodup) (h1:∀ c∈[z,TI,TO,j1,j2],c≠a) (h2:∀ c∈[z,TI,TO,j1,j2],c≠b):iH z TI TO j1 j2 [j1,a] [j2,b]:=by
 simp only [NL,Lh,Ml,or_false,not_or] at nd
 obtain ⟨⟨c1,c2,c3,c4⟩,⟨c5,c6,c7⟩,⟨c8,c9⟩,c10,_⟩:=nd
 have g1:=h1 z (by simp)
 have g2:=h1 TO (by simp)
 have g3:=h1 j2 (by simp)
 have g4:=h2 z (by simp)
 have g5:=h2 TO (by simp)
 have g6:=h2 j1 (by simp)
 exact ⟨MU c1,MU c2,MU c3,MU c4,c5,c6,c7,c8,c9,c10,by simp [c3,g1],by simp [c8,g2],by simp [MU c10,g3],by simp [c4,g4],by simp [c9,g5],by simp [c10,g6]⟩
theorem FL {P:Program} {w:World} {K:Fg} {elts:List Expr} {k0:Nat} {pos:Pos} (S1 S2:Src) (a b z TI TO j1 j2:Addr) (nd:[z,TI,TO,j1,j2].Nodup):
  pV P w K (.Tuple elts k0 pos) (Itz S1 S2 K a b) [z,TI,TO,j1,j2] z (fun i h=>IsZip h z TI TO .none/\IsPair h TI (.ref j1) (.ref j2)/\(∃ u v,IsPair h TO u v)/\S1.It h j1 a i/\S2.It h j2 b i) where
 mem:=by simp
 obj:=fun i h st c hc=>by
  obtain ⟨q1,q2,⟨u,v,q3⟩,q4,q5⟩:=st
  simp only [Lh,Ml,or_false] at hc
  rcases hc with rfl | rfl | rfl | rfl | rfl
  ·exact ⟨_,q1,fun v z=>nomatch z⟩
  ·exact ⟨_,q2,fun v z=>nomatch z⟩
  ·exact ⟨_,q3,fun v z=>nomatch z⟩
  ·obtain ⟨o,ho,_,hd⟩:=S1.isIt q4
   exact ⟨o,ho,fun v z=>by rw [hd] at z; cases z⟩
  ·obtain ⟨o,ho,_,hd⟩:=S2.isIt q5
   exact ⟨o,ho,fun v z=>by rw [hd] at z; cases z⟩
 keep:=fun i h h' st k=>by
  obtain ⟨q1,q2,⟨u,v,q3⟩,q4,q5⟩:=st
  exact ⟨k z (by simp) _ q1,k TI (by simp) _ q2,⟨u,v,k TO (by simp) _ q3⟩,S1.itKeep q4 fun o q=>k j1 (by simp) o q,S2.itKeep q5 fun o q=>k j2 (by simp) o q⟩
 item:=by
  intro X hP hw hK hc i pins s σ H E I hf st hg
  subst hP hw hK
  obtain ⟨xs,ys,x,y,hq1,hq2,hx,hy⟩:=hg
  obtain ⟨us,r1,p1,_⟩:=S1.get I hq1
  obtain ⟨vs,r2,p2,_⟩:=S2.get I hq2
  obtain ⟨q1,q2,⟨u0,v0,q3⟩,q4,q5⟩:=st
  obtain ⟨u,hu,ru⟩:=r1.get hx
  obtain ⟨v,hv,rv⟩:=r2.get hy
  have Z:=zap nd (fun c hc'=>S1.off I hq1 (hf c hc')) (fun c hc'=>S2.off I hq2 (hf c hc'))
  have hh:X.A.in1.handled=none:=I.ok.hd hc
  have n1:a≠j1:=MU (S1.off I hq1 (hf j1 (by simp)))
  have n2:b≠j2:=MU (S2.off I hq2 (hf j2 (by simp)))
  have l1:i < us.toArray.size:=by have:=(Li.mp hu).1; simpa using this
  have l2:i < vs.toArray.size:=by have:=(Li.mp hv).1; simpa using this
  have hT:s.TypeIs (.ref z) "zip":=⟨_,q1,rfl⟩
  unfold pyNext
  refine La (N6 (Mf (name:=Nf "__next__") hT NN (LY NN hT PB
   (xi (A:=X.A.in1) Z (S1.draws hh j1 a n1 us.toArray) (S2.draws hh j2 b n2 vs.toArray) q1 q2 q3 ⟨q4,p1⟩ ⟨q5,p2⟩ l1 l2 fun x' y' h' tk px py z1 z2 z3 z4 z5 z6 z7=>Lc ?_) (Pm _))))
  have ex:x'=u:=by
   have:us.toArray[i]?=some u:=by simpa using hu
   rw [this] at px
   exact (Lu px).symm
  have ey:y'=v:=by
   have:vs.toArray[i]?=some v:=by simpa using hv
   rw [this] at py
   exact (Lu py).symm
  subst ex ey
  refine ⟨_,rfl,wpAny_letOwnedTupleGo_zip z1 fun h2 w1 hs2=>?_⟩
  have nz:∀ c,c∈[TI,TO,j1,j2]->c≠z:=fun c hc' e=>by
   subst e
   exact (NL.mp nd).1 hc'
  have zlt:z < s.heap.objs.size:=Lm q1
  have hT2:h2.get? s.heap.objs.size=some { cls:=.type "tuple",data:=.seq #[x',y'] }:=hs2.extBut _ _ (JB (Le _) zlt) z5
  have kept:∀ c ob,c∉[z,TI,TO,j1,j2]->s.heap.get? c=some ob->h2.get? c=some ob:=fun c ob hc' q=>hs2.extBut _ _ (fun e=>hc' (by simp [e])) (z6 c ob hc' q)
  obtain ⟨u1,v1,z2⟩:=z2
  refine ⟨.ref s.heap.objs.size,upd H s.heap.objs.size (.tup [x,y]),?_,rfl,⟨_,x,y,I.fresh,rfl,rfl,fun xs' ys' h1 h2=>by rw [S1.inj I h1 hq1,S2.inj I h2 hq2]; exact ⟨hx,hy⟩⟩,
   ⟨w1,hs2.extBut _ _ (nz TI (by simp)) z7,⟨u1,v1,hs2.extBut _ _ (nz TO (by simp)) z2⟩,S1.itKeep z3.1 fun o q=>hs2.extBut _ _ (nz j1 (by simp)) q,S2.itKeep z4.1 fun o q=>hs2.extBut _ _ (nz j2 (by simp)) q⟩,fun c hc'=>?_⟩
  ·exact I.turns (t':=tk) hf kept (Le _) ⟨(by show 2<=Lr; decide),[x',y'],.cons ru (.cons rv .nil),_,hT2,rfl,⟨0,rfl⟩,rfl⟩
  ·have lt:c < s.heap.objs.size:=by
    have st':IsZip s.heap z TI TO .none/\IsPair s.heap TI (.ref j1) (.ref j2)/\(∃ u v,IsPair s.heap TO u v)/\S1.It s.heap j1 a i/\S2.It s.heap j2 b i:=⟨q1,q2,⟨u0,v0,q3⟩,q4,q5⟩
    simp only [Lh,Ml,or_false] at hc'
    rcases hc' with rfl | rfl | rfl | rfl | rfl
    ·exact zlt
    ·exact Lm q2
    ·exact Lm q3
    ·obtain ⟨o,ho,_⟩:=S1.isIt q4
     exact Lm ho
    ·obtain ⟨o,ho,_⟩:=S2.isIt q5
     exact Lm ho
   rw [aP (nQ lt (Le _))]
   exact (hf c hc').1
 done:=by
  intro X hP hw hK hc i pins s σ H E I hf st hg
  subst hP hw hK
  obtain ⟨xs,ys,hq1,hq2,hi⟩:=hg
  obtain ⟨us,r1,p1,_⟩:=S1.get I hq1
  obtain ⟨vs,r2,p2,_⟩:=S2.get I hq2
  obtain ⟨q1,q2,⟨u0,v0,q3⟩,q4,q5⟩:=st
  have Z:=zap nd (fun c hc'=>S1.off I hq1 (hf c hc')) (fun c hc'=>S2.off I hq2 (hf c hc'))
  have hh:X.A.in1.handled=none:=I.ok.hd hc
  have n1:a≠j1:=MU (S1.off I hq1 (hf j1 (by simp)))
  have n2:b≠j2:=MU (S2.off I hq2 (hf j2 (by simp)))
  have hT:s.TypeIs (.ref z) "zip":=⟨_,q1,rfl⟩
  have hl:i=min us.toArray.size vs.toArray.size:=by
   have:=r1.length
   have:=r2.length
   simp only [Ls]
   omega
  unfold pyNext
  refine La (N6 (Mf (name:=Nf "__next__") hT NN (LY NN hT PB
   (zh (A:=X.A.in1) Z (S1.draws hh j1 a n1 us.toArray) (S2.draws hh j2 b n2 vs.toArray) q1 q2 q3 ⟨q4,p1⟩ ⟨q5,p2⟩ hl fun h' e tk kp he=>?_) (Pm _))))
  obtain ⟨o,ho,hcl⟩:=he
  refine La (Ni (T:="StopIteration") (b:=true) ⟨o,ho,hcl⟩ Pc ?_)
  exact Lc ⟨rfl,I.turnsN (t':=tk) hf kp⟩
 self:=fun _ _ _ _ _ st h=>Q8 st.1 h
section
variable {X:Cx} {elts:List Expr} {k0:Nat} {tpos:Pos}
noncomputable def qb (S1 S2:Src) (K:Fg) (ta:TA):TI:=fun σ H R=>ta σ H fun vs H1=>∃ a b xs ys,vs=[.ref a,.ref b]/\S1.Sq K H1 a xs/\S2.Sq K H1 b ys/\R (Itz S1 S2 K a b) H1
theorem m5 (S1 S2:Src) {a b:Expr} {ta:TA} {p pos:Pos} (hg:Gl X "zip") (hm:X.mg "zip"=none) (ha:PA X [a,b] ta) (hs:LD [a,b] X.env=[(false,eval a X.env),(false,eval b X.env)]:=by rfl) (hs2:LD [b] X.env=[(false,eval b X.env)]:=by rfl):
  PI X (.Tuple elts k0 tpos) (.Call (.Name "zip" p) [a,b] [] pos) (qb S1 S2 X.K ta):=by
 intro pins s σ H R I h
 refine Call_ (fY I hg hm boot_zip (Ms (thn (ha pos pins s σ H _ I h) fun us s1 ⟨vs,H1,I1,r1,q1⟩=>?_) (by rw [hs,hs2]) (by rw [hs2]; rfl)))
 obtain ⟨l1,l2,xs,ys,e,hq1,hq2,q⟩:=q1
 subst e
 obtain ⟨u,v,rfl,ru,rv⟩:=r1.two
 cases ru
 cases rv
 obtain ⟨us1,_,p1,_⟩:=S1.get I1 hq1
 obtain ⟨us2,_,p2,_⟩:=S2.get I1 hq2
 refine SS F.called_zip (by decide) (TL _ _) (Uh _ _) (fun obj=>Sf obj _ _) Ui (Bv S1 S2 l1 l2 us1.toArray us2.toArray) ⟨p1,p2,?_⟩
 generalize hn:s1.heap.objs.size=n
 have z1:(zh1 S1 s1.heap l1).objs.size=n + 1:=by rw [Ma,hn]
 have z2:(zh2 S1 S2 s1.heap l1 l2).objs.size=n + 2:=by rw [Ma,z1]
 have z3:(zh3 S1 S2 s1.heap l1 l2).objs.size=n + 3:=by rw [Ma,z2]
 have z4:(zh4 S1 S2 s1.heap l1 l2).objs.size=n + 4:=by rw [Ma,z3]
 have g5:(zh5 S1 S2 s1.heap l1 l2).get? (zh4 S1 S2 s1.heap l1 l2).objs.size=some _:=Lk _ rfl
 have g4:(zh5 S1 S2 s1.heap l1 l2).get? (zh3 S1 S2 s1.heap l1 l2).objs.size=some _:=Lb _ (Lk _ rfl)
 have g3:(zh5 S1 S2 s1.heap l1 l2).get? (zh2 S1 S2 s1.heap l1 l2).objs.size=some _:=Lb _ (Lb _ (Lk _ rfl))
 have g2:(zh5 S1 S2 s1.heap l1 l2).get? (zh1 S1 s1.heap l1).objs.size=some _:=Lb _ (Lb _ (Lb _ (Lk _ rfl)))
 have g1:(zh5 S1 S2 s1.heap l1 l2).get? s1.heap.objs.size=some _:=Lb _ (Lb _ (Lb _ (Lb _ (Lk _ rfl))))
 have kp:∀ c o,s1.heap.get? c=some o->(zh5 S1 S2 s1.heap l1 l2).get? c=some o:=fun c o e=>
  Lb _ (Lb _ (Lb _ (Lb _ (Lb _ e))))
 show _/\_
 rw [z2,z3,z4] at g5
 rw [z1,z2,hn] at g3
 rw [z3] at g4
 rw [z1] at g2
 rw [hn] at g1
 rw [z4]
 refine ⟨⟨_,g5,rfl⟩,Q8 g5 ?_⟩
 have I2:Inv X pins σ H1 { s1 with heap:=zh5 S1 S2 s1.heap l1 l2 }:=I1.kept (t':=s1.toks) kp
 refine ⟨n + 4,[n + 4,n + 2,n + 3,n,n + 1],_,_,H1,rfl,I2,FL S1 S2 l1 l2 _ _ _ _ _ (by simp),⟨g5,g3,⟨_,_,g4⟩,S1.mkI g1 rfl rfl,S2.mkI g2 rfl rfl⟩,fun c hc=>?_,q⟩
 have hc':s1.heap.objs.size<=c:=by
  rw [hn]
  simp only [Lh,Ml,or_false] at hc
  rcases hc with rfl | rfl | rfl | rfl | rfl
  ·exact M4 _ _
  ·exact M4 _ _
  ·exact M4 _ _
  ·exact Le _
  ·exact M4 _ _
 exact I1.fpOk hc' (I1.hok.fresh hc')
end
end
section
open PySem.Spec
section
variable {X:Cx}
noncomputable def Hh (K:Fg):R2:=fun x y H Q=>∃ a b xs ys,x=.ref a/\y=.ref b/\SqT K H a xs/\SqT K H b ys/\xs.length + ys.length<=Lr/\
 (xs=[]->Q (.ref b) H)/\(xs≠[]->ys=[]->Q (.ref a) H)/\(xs≠[]->ys≠[]->∀ p,H p=none->Q (.ref p) (upd H p (.tup (xs++ys))))
theorem Ib:OpR X (N4 .Add) (Hh X.K):=by
 intro pins s σ H x y v u Q I rx ry h
 obtain ⟨a,b,xs,ys,rfl,rfl,ha,hb,hz,q0,q1,q2⟩:=h
 by_cases hx:xs=[]
 ·cases rx
  cases ry
  obtain ⟨its,r1,p1,_⟩:=I.tuple ha
  obtain ⟨its2,r2,p2,_⟩:=I.tuple hb
  obtain ⟨⟨cls,dd,data,sl⟩,ho,hc,n,hd⟩:=id p1
  obtain ⟨⟨cls2,dd2,data2,sl2⟩,ho2,hc2,n2,hd2⟩:=id p2
  simp only at hc hd hc2 hd2
  subst hc hd hc2 hd2
  have e:its=[]:=r1.nil_iff.mpr hx
  exact SO ⟨_,ho,rfl⟩ ⟨_,ho2,rfl⟩ Q4 So Pp Pg (O5 _ _)
   (tuple_addW0 a b its.toArray its2.toArray n n2 dd dd2 sl sl2 (by simp [e])) ⟨ho,ho2,⟨.ref b,H,I,rfl,q0 hx⟩⟩
 ·exact HV pins s σ H _ _ v u Q I rx ry ⟨a,b,xs,ys,rfl,rfl,ha,hb,hx,hz,q1 hx,q2 hx⟩
theorem xk {x:V}:∀ {xs:List V} {us:List Value},aG xs us->xs.all gu=true->us.countP (eqU x)=xs.countP fun y=>eqV y x
 | _,_,.nil,_=>rfl
 | y :: xs,u :: us,.cons r t,f=>by
  rw [OS,MG] at f
  rw [TN,TN,DY r f.1,xk t f.2]
noncomputable def tBT (r:V->List V->Hp->VK->Prop) (to:TE) (t:TA):TE:=fun σ H Q=>to σ H fun x H1=>(∃ a xs,x=.ref a/\H1 a=some (.tup xs))/\t σ H1 fun xs H2=>r x xs H2 Q
theorem Kr {o e:Expr} {es:List Expr} {to:TE} {t:TA} {name:Str} {apos cpos:Pos} {id:String} {r:V->List V->Hp->VK->Prop} (pa:PlainAttrs "tuple") (slot:Slot "tuple" name id) (hty:typeOf (.builtin id)=pure (.type "method_descriptor")) (hm:MtR X id r) (ho:PE X o to) (ha:PA X (e :: es) t)
  (hbase:OQ o name X.env (eval o X.env)=eval o X.env:=by rfl)
  (hfew:((backTo cpos (LD (e :: es) X.env)).all (fun x=>!x.1) && (Py cpos (OC [] X.env)).all (fun x=>x.1.isSome)
   && decide ((e :: es).length + ([]:List Keyword).length + (if ([]:List Keyword).isEmpty then 0 else 1) < 30))=true:=by rfl)
  (hline:(apos.endLine == cpos.line)=true:=by rfl) (hs:LD (e :: es) X.env=(false,eval e X.env) :: LD es X.env:=by rfl) (hplain:(backTo cpos (LD es X.env)).any (·.1)=false:=by rfl):
  PE X (.Call (.Attribute o name apos) (e :: es) [] cpos) (tBT r to t):=by
 intro pins s σ H Q I h
 refine Pq hbase hfew hline rfl (thn (ho pins s σ H _ I h) fun v s1 ⟨x,H1,I1,r1,ty,q1⟩=>?_)
 obtain ⟨a,xs,rfl,hx⟩:=ty
 cases r1
 obtain ⟨_,its,_,o',ho',hc',_,hd'⟩:=I1.hok a _ hx
 refine ⟨"tuple",id,pa,slot,hty,⟨o',ho',hc'⟩,fun b e=>?_,?_⟩
 ·cases e
  exact ⟨o',ho',hd'⟩
 have hA:=ha cpos pins s1 σ H1 _ I1 q1
 rw [hs] at hA ⊢
 refine Pr (by show (false || (backTo cpos (LD es X.env)).any (·.1))=false; rw [hplain] <;> rfl) (PR ?_)
 exact thn hA fun us s2 ⟨vs,H2,I2,r2,q2⟩=>hm pins s2 σ H2 (.ref a) vs (.ref a) us Q I2 rfl r2 q2
noncomputable def Bw:V->List V->Hp->VK->Prop:=fun x vs H Q=>∃ l xs y,x=.ref l/\vs=[y]/\H l=some (.tup xs)/\gu y=true/\xs.all gu=true/\Q (.int (xs.countP fun z=>eqV z y:Nat)) H
theorem El:MtR X "tuple.count" Bw:=by
 intro pins s σ H x vs v us Q I rx rv h
 obtain ⟨l,xs,y,rfl,rfl,hH,fy,fx,q⟩:=h
 cases rx
 obtain ⟨u,rfl,ru⟩:=rv.one
 obtain ⟨_,its,r,⟨cls,dd,data,sl⟩,ho,hc,⟨n,hd⟩,hdd⟩:=I.hok l _ hH
 simp only at hc hd hdd
 subst hc hd hdd
 refine PU Q9 ⟨_,ho,rfl⟩ PySem.F.entry_tuple_count (PySem.F.args_tuple_count_2 _ _) (SeqAt.tuple_countAt l its.toArray n none sl u (eqU y)) ⟨ho,fun z hz=>sT ru fy r fx z (by simpa using hz),?_⟩
 refine ⟨.int (xs.countP fun z=>eqV z y:Nat),H,I.tok _,⟨s.toks,?_⟩,q⟩
 show Of ((its.toArray.toList.countP (eqU y):Nat):Int) s.toks=_
 rw [show its.toArray.toList=its from rfl,xk r fx]
theorem qc (hc:X.calm=true):cS X (.builtin "max") (fun xs H Q=>∃ (p:Addr) (ns:List Int),xs=[.ref p]/\SqL X.K H p (ns.map V.int)/\ns≠[]/\∀ M,M∈ns->(∀ a∈ns,a<=M)->Q (.int M) H):=by
 intro pins s σ H xs us Q I r h
 obtain ⟨p,ns,rfl,hq,hne,q⟩:=h
 obtain ⟨u,rfl,rx⟩:=r.one
 cases rx
 obtain ⟨its,rv,pl,hz⟩:=I.list hq
 have hi:=nO rv
 obtain ⟨zs,ez⟩:=(hi.allInts).items
 have hl:s.heap.IsList p (intItems zs):=by rw [<-ez]; exact pl.isList
 have hnum:zs.toList.map (·.1)=ns:=by
  rw [<-nums_intItems,<-ez]
  exact hi.numsOf
 have hsz:zs.size=ns.length:=by rw [<-hnum]; simp
 have hpos:0 < zs.size:=by
  rw [hsz]
  exact Qb.mpr hne
 refine max_intList (I.ok.hd hc) hl hpos fun v h' tk hv hk=>?_
 obtain ⟨t,rfl⟩:=intItems_at hv
 obtain ⟨h1,h2⟩:=argBest_gt (numAt zs) (zs.size - 1)
 refine ⟨.int _,H,I.kept hk,⟨t,rfl⟩,q _ ?_ fun a ha=>?_⟩
 ·rw [numAt_eq,hnum]
  exact getD_mem (by omega)
 ·rw [<-hnum] at ha
  obtain ⟨j,hj,rfl⟩:=mem_getD ha
  rw [Lf,LV] at hj
  rw [<-numAt_eq]
  exact h2 j (by omega)
noncomputable def zi:V->List V->Hp->VK->Prop:=fun x vs H Q=>∃ (l:Addr) (ns:List Int) (m:Int) (j:Nat),x=.ref l/\vs=[.int m]/\H l=some (.lst (ns.map V.int))/\ns[j]?=some m/\(∀ i,i < j->ns[i]?≠some m)/\j<=1000/\Q (.int j) H
theorem FM:MtR X "list.index" zi:=by
 intro pins s σ H x vs v us Q I rx rv h
 obtain ⟨l,ns,m,j,rfl,rfl,hH,hj,hno,h1000,q⟩:=h
 cases rx
 obtain ⟨u,rfl,t,rfl⟩:=rv.one
 obtain ⟨z,its,n,r,hl,e⟩:=I.lstM hH
 have at_:∀ (i:Nat) (hi:i < its.toArray.size),∃ k t',ns[i]?=some k/\its.toArray[i]=.int k t':=fun i hi=>by
  have hi':i < ns.length:=by
   rw [Lf] at hl
   have:i < its.length:=by simpa using hi
   omega
  obtain ⟨w',hw,rw'⟩:=r.get (i:=i) (x:=.int ns[i]) (by rw [Lx,Ld hi'] <;> rfl)
  obtain ⟨t',e'⟩:=(show ∃ t',w'=Of ns[i] t' from rw')
  have:=(Li.mp hw).2
  exact ⟨ns[i],t',Ld hi',by rw [<-e']; simpa using this⟩
 have hjs:j < its.toArray.size:=by
  have:=(Li.mp hj).1
  rw [Lf] at hl
  simp only [Ls]
  omega
 refine PU Rh ⟨_,e,rfl⟩ PySem.F.entry_list_index (PySem.F.args_list_index_2 _ _) (SeqAt.list_indexAt l its.toArray n none #[] (.int m t) (eqU (.int m)) j hjs (by omega) ?_ ?_) ⟨e,fun y hy=>?_,?_⟩
 ·obtain ⟨k,t',e1,e2⟩:=at_ j hjs
  rw [e2]
  rw [hj] at e1
  cases e1
  exact beq_self_eq_true m
 ·intro i hi hlt
  obtain ⟨k,t',e1,e2⟩:=at_ i hi
  rw [e2]
  show (k == m)=false
  exact beq_eq_false_iff_ne.mpr fun z=>hno i hlt (by rw [e1,z])
 ·exact sT (x:=.int m) ⟨t,rfl⟩ rfl r (by rw [PV]; simp [gu]) y (by simpa using hy)
 ·exact ⟨.int j,H,I.tok _,⟨_,rfl⟩,q⟩
end
end
end L2
section
namespace L2
open PySem
section
variable {σ:St} {H:Hp} {Q:VK} {D:jk} {K:Fg}
theorem bu {t u:TS} (h:t { nx:=u D,rt:=D.rt,bk:=D.bk,ct:=D.ct } σ H):ar t u D σ H:=h
theorem m6 {t u:TS} (h:∀ NX:St->Hp->Prop,(∀ σ H,u D σ H->NX σ H)->t { nx:=NX,rt:=D.rt,bk:=D.bk,ct:=D.ct } σ H):ar t u D σ H:=h _ fun _ _ h=>h
theorem Em (h:D.nx σ H):bf D σ H:=h
theorem ku {te:TE} {g:TG} (h:te σ H fun x H1=>g x σ H1 D.nx):aH te g D σ H:=h
theorem Ks {te:TE} (h:te σ H D.rt):aJ te D σ H:=h
theorem JG {te:TE} (h:te σ H fun _ H1=>D.nx σ H1):dR te D σ H:=h
theorem Hi {c:TT} {t u:TS} (h:c σ H fun b H1=>if b=true then t D σ H1 else u D σ H1):bz c t u D σ H:=h
theorem jW {i:Nat} {v:V} {R:St->Hp->Prop} (h:R (σ.set i (some v)) H):ao i v σ H R:=h
theorem JH {to ti:TE} {t:BW} {v:V} {R:St->Hp->Prop} (h:to σ H fun o H1=>ti σ H1 fun i H2=>t o i v H2 fun H3=>R σ H3):pT to ti t v σ H R:=h
theorem qd {p:Addr} {xs:List V} {k:Int} {v:V} {R:Hp->Prop} {j:Nat} (e:H p=some (.lst xs)) (hj:ixN xs.length k=some j) (h:R (upd H p (.lst (xs.set j v)))):lY (.ref p) (.int k) v H R:=⟨p,xs,k,j,rfl,rfl,e,hj,h⟩
theorem nY {i:Nat} {v:V} (e:σ[i]?=some (some v)) (h:Q v H):ab i σ H Q:=⟨v,e,h⟩
theorem r_c {v:V} (h:Q v H):tC v σ H Q:=h
theorem sU {r:R2} {ta tb:TE} (h:ta σ H fun x H1=>tb σ H1 fun y H2=>r x y H2 Q):tOp r ta tb σ H Q:=h
theorem KZ {r:V->Hp->VK->Prop} {ta:TE} (h:ta σ H fun x H1=>r x H1 Q):tUn r ta σ H Q:=h
theorem K0 {g:Int->Int->V} {i j:Int} (h:Q (g i j) H):rI0 g (.int i) (.int j) H Q:=⟨i,j,rfl,rfl,h⟩
theorem r_I {C:Int->Int->Prop} {g:Int->Int->V} {i j:Int} (c:C i j) (h:Q (g i j) H):rI C g (.int i) (.int j) H Q:=⟨i,j,rfl,rfl,c,h⟩
theorem r_U {g:Int->V} {i:Int} (h:Q (g i) H):rU g (.int i) H Q:=⟨i,rfl,h⟩
theorem Kt {i j:Int} (h:Q (.bl (decide (i=j))) H):rEq (.int i) (.int j) H Q:=⟨rfl,by rw [show decide (V.int i=V.int j)=decide (i=j) from decide_eq_decide.mpr ⟨fun e=>by injection e,fun e=>by rw [e]⟩]; exact h⟩
theorem Ku {i j:Int} (h:Q (.bl (!decide (i=j))) H):rNe (.int i) (.int j) H Q:=⟨rfl,by rw [show decide (V.int i=V.int j)=decide (i=j) from decide_eq_decide.mpr ⟨fun e=>by injection e,fun e=>by rw [e]⟩]; exact h⟩
theorem JI {t:TE} {R:Bool->Hp->Prop} (h:t σ H fun x H'=>∃ k,x=.bl k/\R k H'):aY t σ H R:=h
theorem K1 {t:TE} {R:Bool->Hp->Prop} (h:t σ H fun x H'=>∃ k,x=.bl k/\R k H'):tB t σ H R:=h
theorem K2 {b:Bool} {R:Bool->Prop} (h:R b):∃ k,V.bl b=.bl k/\R k:=⟨b,rfl,h⟩
theorem Kv {t u:TT} {R:Bool->Hp->Prop} (h:t σ H fun c H1=>if c=true then u σ H1 R else R false H1):yY t u σ H R:=h
theorem K3 {t u:TT} {R:Bool->Hp->Prop} (h:t σ H fun c H1=>if c=true then R true H1 else u σ H1 R):tOr t u σ H R:=h
theorem Kw {t:TT} {R:Bool->Hp->Prop} (h:t σ H fun c H1=>R (!c) H1):fZ t σ H R:=h
theorem JJ {ta tb:TE} (h:ta σ H fun x H1=>∃ c,x=.bl c/\if c=true then tb σ H1 Q else Q (.bl false) H1):lV ta tb σ H Q:=h
theorem Ky {ta tb:TE} (h:ta σ H fun x H1=>∃ c,x=.bl c/\if c=true then Q (.bl true) H1 else tb σ H1 Q):Fu ta tb σ H Q:=h
theorem JK {ta:TE} (h:ta σ H fun x H1=>∃ c,x=.bl c/\Q (.bl (!c)) H1):yv ta σ H Q:=h
theorem K4 {t:TT} {ta tb:TE} (h:t σ H fun c H1=>if c=true then ta σ H1 Q else tb σ H1 Q):tIf t ta tb σ H Q:=h
theorem Hj {R:List V->Hp->Prop} (h:R [] H):af σ H R:=h
theorem En {ta:TE} {tr:TA} {R:List V->Hp->Prop} (h:ta σ H fun x H1=>tr σ H1 fun xs H2=>R (x :: xs) H2):aa ta tr σ H R:=h
theorem JL {sp:Sp} {E:XK} {t:TA} (h:t σ H fun vs H1=>sp vs H1 Q E):au sp [] E t σ H Q:=by
 show t σ H fun vs H1=>sp (vs++[]) H1 Q E
 simpa only [NK] using h
theorem K5 {r:List V->Hp->VK->Prop} {t:TA} (h:t σ H fun vs H1=>r vs H1 Q):tCB r t σ H Q:=h
theorem K6 {T:String} {r:V->List V->Hp->VK->Prop} {to:TE} {t:TA} (h:to σ H fun x H1=>tyV K T x H1/\t σ H1 fun xs H2=>r x xs H2 Q):tBM K T r to t σ H Q:=h
theorem K7 {r:V->Option Int->Option Int->Hp->VK->Prop} {te:TE} {tl th:TO} (h:te σ H fun x H1=>tl σ H1 fun l H2=>th σ H2 fun u H3=>r x l u H3 Q):tSl r te tl th σ H Q:=h
theorem FN {R:Option Int->Hp->Prop} (h:R none H):jp σ H R:=h
theorem JM {t:TE} {R:Option Int->Hp->Prop} (h:t σ H fun x H1=>∃ i,x=.int i/\R (some i) H1):nN t σ H R:=h
theorem Kz {i:Int} {R:Int->Prop} (h:R i):∃ j,V.int i=.int j/\R j:=⟨i,rfl,h⟩
theorem KA {wi:TI} {g:TG} {tb:TS} (h:wi σ H fun J H1=>∃ W:Nat->Nat->St->Hp->Prop,(∃ m,W 0 m σ H1)/\∀ i m σ H,W i m σ H->
  (J.stop i H/\D.nx σ H)\/(J.go i H/\∃ N:St->Hp->Prop,(∀ σ' H',N σ' H'->∃ m',m' < m/\W (i + 1) m' σ' H')/\∀ x H',J.yld i H x H'->g x σ H' fun σ2 H2=>tb { D with nx:=N,ct:=N,bk:=D.nx } σ2 H2)):dk wi g tb D σ H:=h
theorem JN {wi:TI} {g:CF TG} {tt:CF TT} {te:CF TE} {ix:List (Option Nat)} (h:wi σ H fun J H1=>∀ p,H1 p=none->
  ∃ W:Nat->Nat->List V->Hp->Prop,(∃ m,W 0 m [] (upd H1 p (.lst [])))/\∀ C s' H' fp,cg J (g C s' H' fp) (tt C s' H' fp) (te C s' H' fp) (sub ix σ) p Q W):bV wi g tt te ix σ H Q:=h
section
variable {R:It->Hp->Prop}
theorem Ic {tl:TE} (h:tl σ H fun x H1=>∃ a,x=.ref a/\(∃ xs,SqL K H1 a xs)/\R (Itl K a) H1):dg K tl σ H R:=h
theorem JO {tl:TE} (h:tl σ H fun x H1=>∃ a,x=.ref a/\(∃ xs,SqT K H1 a xs)/\R (Itt K a) H1):v4 K tl σ H R:=h
theorem Id {ta:TA} (h:ta σ H fun vs H1=>∃ j:Int,vs=[.int j]/\-(2 ^ 62)<=j/\j < 2 ^ 62/\R (Itr 0 j.toNat) H1):eN ta σ H R:=h
theorem Ie {S:Src} {ta:TA} (h:ta σ H fun vs H1=>∃ a xs,vs=[.ref a]/\S.Sq K H1 a xs/\R (Ite S K a) H1):qX S K ta σ H R:=h
theorem JP {S1 S2:Src} {ta:TA} (h:ta σ H fun vs H1=>∃ a b xs ys,vs=[.ref a,.ref b]/\S1.Sq K H1 a xs/\S2.Sq K H1 b ys/\R (Itz S1 S2 K a b) H1):qb S1 S2 K ta σ H R:=h
end
noncomputable def Off (l:Addr) (H H':Hp):Prop:=∀ b,b≠l->H' b=H b
theorem iB {l:Addr} {o:HO}:Off l H (upd H l o):=fun b hb=>aP hb
theorem am.off {H0 H':Hp} {l:Addr} (s:am H0 H) (h:H0 l=none) (o:Off l H H'):am H0 H':=fun b u q=>by rw [o b (aS q h)]; exact s b u q
noncomputable def fq (H H':Hp):Prop:=∀ b xs,H b=some (.tup xs)->H' b=some (.tup xs)
theorem am.keep {H':Hp} (s:am H H'):fq H H':=fun b _ h=>s b _ h
theorem Off.keep {H':Hp} {l:Addr} {xs:List V} (o:Off l H H') (e:H l=some (.lst xs)):fq H H':=fun b ys q=>by
 rw [o b (Hd q e (by intro z; cases z))]
 exact q
theorem ii {l:Addr} {xs:List V} {y:V} (e:H l=some (.lst xs)) (hz:xs.length < Lr) (h:∀ H',Off l H H'->H' l=some (.lst (xs++[y]))->Q .non H'):fK (.ref l) [y] H Q:=⟨l,xs,y,rfl,rfl,e,hz,h _ iB ay⟩
theorem yz {l:Addr} {xs:List V} (e:H l=some (.lst xs)):tyV K "list" (.ref l) H:=.inl ⟨rfl,xs,SqL.of e⟩
theorem ce {l:Addr} {xs:List V} {i:Int} {v:V} (e:SqL K H l xs) (hv:atI xs i=some v) (h:Q v H):cV K (.ref l) (.int i) H Q:=⟨l,xs,i,v,rfl,rfl,e,hv,h⟩
theorem bp {l:Addr} {xs:List V} {i:Int} {v:V} (e:SqT K H l xs) (hv:atI xs i=some v) (h:Q v H):cJ K (.ref l) (.int i) H Q:=⟨l,xs,i,v,rfl,rfl,e,hv,h⟩
end
theorem cC {p A B:Prop} [Decidable p] (h1:p->A) (h2:¬ p->B):if decide p=true then A else B:=by
 by_cases h:p
 ·rw [if_pos (decide_eq_true h)]; exact h1 h
 ·rw [if_neg (by rw [decide_eq_false h]; exact Lq)]; exact h2 h
theorem zj {p A B:Prop} [Decidable p] (h1:¬ p->A) (h2:p->B):if (!decide p)=true then A else B:=by
 by_cases h:p
 ·rw [if_neg (by rw [decide_eq_true h]; exact Lq)]; exact h2 h
 ·rw [if_pos (by rw [decide_eq_false h]; rfl)]; exact h1 h
theorem dW {p A B:Prop} [Decidable p] (h:p) (h1:A):if decide p=true then A else B:=cC (fun _=>h1) (fun n=>absurd h n)
theorem aU {p A B:Prop} [Decidable p] (h:¬ p) (h1:B):if decide p=true then A else B:=cC (fun n=>absurd n h) (fun _=>h1)
theorem Ce {A B:Prop} (h:B):if (!true)=true then A else B:=by exact nP h
theorem KB {A B:Prop} (h:A):if (!false)=true then A else B:=by exact p0 h
theorem FO {σ:St} {H:Hp} {R:Bool->Hp->Prop} (h:R true H):bH σ H R:=h
theorem yA {B:(St->Hp->Prop)->Prop} {R:St->Hp->Prop} (h:B R):∃ N:St->Hp->Prop,(∀ σ' H',N σ' H'->R σ' H')/\B N:=⟨R,fun _ _ h=>h,h⟩
theorem yB {c:TT} {tb:TS} {D:jk} {σ:St} {H:Hp} (W:Nat->St->Hp->Prop) (m:Nat) (h0:W m σ H) (h:∀ m σ H,W m σ H->c σ H fun b H1=>if b=true then ∃ N:St->Hp->Prop,(∀ σ' H',N σ' H'->∃ m',m' < m/\W m' σ' H')/\tb { D with nx:=N,ct:=N,bk:=D.nx } σ H1 else D.nx σ H1):
  kZ c tb D σ H:=⟨W,⟨m,h0⟩,h⟩
noncomputable def b9 (K:Fg):List V->Hp->VK->Prop:=fun xs H Q=>∃ p ys,xs=[.ref p]/\(SqL K H p ys\/SqT K H p ys)/\Q (.int ys.length) H
noncomputable def sV (K:Fg):List V->Hp->VK->Prop:=fun xs H Q=>∃ (p:Addr) (ns:List Int),xs=[.ref p]/\SqL K H p (ns.map V.int)/\Q (.int ns.sum) H
noncomputable def Cf (K:Fg):List V->Hp->VK->Prop:=fun xs H Q=>∃ (p:Addr) (bs:List Bool),xs=[.ref p]/\SqL K H p (bs.map V.bl)/\Q (.bl (bs.all id)) H
noncomputable def we (K:Fg):List V->Hp->VK->Prop:=fun xs H Q=>∃ (p:Addr) (ns:List Int),xs=[.ref p]/\SqL K H p (ns.map V.int)/\ns≠[]/\∀ M,M∈ns->(∀ a∈ns,a<=M)->Q (.int M) H
noncomputable def ut:List V->Hp->VK->Prop:=fun xs H Q=>∃ i j,xs=[.int i,.int j]/\Q (.int (if j < i then j else i)) H
noncomputable def Hk:List V->Hp->VK->Prop:=fun xs H Q=>∃ i j,xs=[.int i,.int j]/\Q (.int (if j > i then j else i)) H
noncomputable def JQ:List V->Hp->VK->Prop:=fun xs H Q=>(∃ i,xs=[.int i]/\Q (.int i) H)\/∃ k,xs=[.bl k]/\Q (.int (if k then 1 else 0)) H
noncomputable def JR (K:Fg):List V->Hp->VK->Prop:=fun xs H Q=>∃ p ys,xs=[.ref p]/\((SqL K H p ys/\∀ l,H l=none->Q (.ref l) (upd H l (.tup ys)))\/(SqT K H p ys/\Q (.ref p) H))
section
variable {K:Fg} {H:Hp} {Q:VK}
theorem fS {l:Addr} {ys:List V} (e:SqL K H l ys) (h:Q (.int ys.length) H):b9 K [.ref l] H Q:=⟨l,ys,rfl,.inl e,h⟩
theorem Bx {l:Addr} {ys:List V} (e:SqT K H l ys) (h:Q (.int ys.length) H):b9 K [.ref l] H Q:=⟨l,ys,rfl,.inr e,h⟩
theorem Cg {l:Addr} {ns:List Int} (e:SqL K H l (ns.map V.int)) (h:Q (.int ns.sum) H):sV K [.ref l] H Q:=⟨l,ns,rfl,e,h⟩
theorem JS {i j:Int} (h:Q (.int (if j < i then j else i)) H):ut [.int i,.int j] H Q:=⟨i,j,rfl,h⟩
theorem JT {i j:Int} (h:Q (.int (if j > i then j else i)) H):Hk [.int i,.int j] H Q:=⟨i,j,rfl,h⟩
theorem JU {k:Bool} (h:Q (.int (if k then 1 else 0)) H):JQ [.bl k] H Q:=.inr ⟨k,rfl,h⟩
end
noncomputable def New (H:Hp) (o:HO) (Q:Addr->Hp->Prop):Prop:=∀ p H',H p=none->am H H'->H' p=some o->Q p H'
theorem New.upd {H:Hp} {o:HO} {Q:Addr->Hp->Prop} (h:New H o Q):∀ p,H p=none->Q p (upd H p o):=fun p hp=>h p _ hp (aW hp _) ay
noncomputable def ci (t:TA):TE:=fun σ H Q=>t σ H fun xs H1=>xs.length<=Lr/\New H1 (.tup xs) fun p H2=>Q (.ref p) H2
noncomputable def fv (t:TA):TE:=fun σ H Q=>t σ H fun xs H1=>xs.length<=Lr/\New H1 (.lst xs) fun p H2=>Q (.ref p) H2
noncomputable def sW:R2:=fun x y H Q=>∃ l b xs zs,x=.ref l/\y=.ref b/\H l=some (.lst xs)/\H b=some (.lst zs)/\xs.length + zs.length<=Lr/\New H (.lst (xs++zs)) fun p H2=>Q (.ref p) H2
noncomputable def FP:R2:=fun x y H Q=>∃ l k xs,x=.ref l/\y=.int k/\H l=some (.lst xs)/\-(2 ^ 63)<=k/\k < 2 ^ 63/\xs.length * k.toNat<=Lr/\New H (.lst (LX k.toNat xs).flatten) fun p H2=>Q (.ref p) H2
noncomputable def iI (K:Fg):List V->Hp->VK->Prop:=fun xs H Q=>∃ p ys,xs=[.ref p]/\(SqL K H p ys\/SqT K H p ys)/\New H (.lst ys) fun l H2=>Q (.ref l) H2
noncomputable def wf (K:Fg):List V->Hp->VK->Prop:=fun xs H Q=>∃ p ys,xs=[.ref p]/\SqL K H p ys/\New H (.tup ys) fun l H2=>Q (.ref l) H2
noncomputable def Ch (K:Fg):V->Option Int->Option Int->Hp->VK->Prop:=fun x lo hi H Q=>∃ a xs,x=.ref a/\SqL K H a xs/\New H (.lst (gP xs lo hi)) fun p H2=>Q (.ref p) H2
section
variable {σ:St} {H:Hp} {Q:VK} {K:Fg}
theorem KC {t:TA} (h:t σ H fun xs H1=>xs.length<=Lr/\New H1 (.tup xs) fun p H2=>Q (.ref p) H2):ci t σ H Q:=h
theorem qZ {t:TA} (h:t σ H fun xs H1=>xs.length<=Lr/\New H1 (.lst xs) fun p H2=>Q (.ref p) H2):fv t σ H Q:=h
theorem uu {l b:Addr} {xs zs:List V} (h1:H l=some (.lst xs)) (h2:H b=some (.lst zs)) (hz:xs.length + zs.length<=Lr) (h:∀ p H',H p=none->am H H'->H' p=some (.lst (xs++zs))->Q (.ref p) H'):sW (.ref l) (.ref b) H Q:=⟨l,b,xs,zs,rfl,rfl,h1,h2,hz,h⟩
theorem li {p:Addr} {ys:List V} (e:SqL K H p ys) (h:∀ l H',H l=none->am H H'->H' l=some (.lst ys)->Q (.ref l) H'):iI K [.ref p] H Q:=⟨p,ys,rfl,.inl e,h⟩
theorem Ig {p:Addr} {ys:List V} (e:SqL K H p ys) (h:∀ l H',H l=none->am H H'->H' l=some (.tup ys)->Q (.ref l) H'):wf K [.ref p] H Q:=⟨p,ys,rfl,e,h⟩
theorem Hl {a:Addr} {xs:List V} {lo hi:Option Int} (e:SqL K H a xs) (h:∀ p H',H p=none->am H H'->H' p=some (.lst (gP xs lo hi))->Q (.ref p) H'):Ch K (.ref a) lo hi H Q:=⟨a,xs,rfl,e,h⟩
end
section
variable {g:TG} {tb:TS} {NX:St->Hp->Prop} {RT:VK} {σ:St} {H:Hp} {K:Fg}
theorem js {j:Int} (n:Nat) (hn:j.toNat=n) (hj:j<=1000000000) (hj0:-1000000000<=j) (Pv:Nat->St->Hp->Prop) (h0:Pv 0 σ H) (hs:∀ i σ H,i < n->Pv i σ H->g (.int i) σ H fun σ2 H2=>tb { nx:=Pv (i + 1),rt:=RT,bk:=NX,ct:=Pv (i + 1) } σ2 H2) (hd:∀ σ H,Pv n σ H->NX σ H):
  ∃ j':Int,[V.int j]=[.int j']/\-(2 ^ 62)<=j'/\j' < 2 ^ 62/\∃ W:Nat->Nat->St->Hp->Prop,(∃ m,W 0 m σ H)/\∀ i m σ H,W i m σ H->
   ((Itr 0 j'.toNat).stop i H/\NX σ H)\/((Itr 0 j'.toNat).go i H/\∃ N:St->Hp->Prop,(∀ σ' H',N σ' H'->∃ m',m' < m/\W (i + 1) m' σ' H')/\∀ x H',(Itr 0 j'.toNat).yld i H x H'->g x σ H' fun σ2 H2=>tb { nx:=N,rt:=RT,bk:=NX,ct:=N } σ2 H2):=by
 refine ⟨j,rfl,by omega,by omega,?_⟩
 subst hn
 exact pX (lo:=0) (D:={ nx:=NX,rt:=RT }) Pv h0 (fun i σ H hi p=>by rw [Ra]; exact hs i σ H hi p) hd
theorem kQ {a:Addr} (xs:List V) (hx:SqL K H a xs) (Pv:Nat->St->Hp->Prop) (h0:Pv 0 σ H) (hl:∀ i σ H,i<=xs.length->Pv i σ H->SqL K H a xs) (hs:∀ i x σ H,xs[i]?=some x->Pv i σ H->g x σ H fun σ2 H2=>tb { nx:=Pv (i + 1),rt:=RT,bk:=NX,ct:=Pv (i + 1) } σ2 H2) (hd:∀ σ H,Pv xs.length σ H->NX σ H):
  ∃ a',V.ref a=.ref a'/\(∃ xs,SqL K H a' xs)/\∃ W:Nat->Nat->St->Hp->Prop,(∃ m,W 0 m σ H)/\∀ i m σ H,W i m σ H->
   ((Itl K a').stop i H/\NX σ H)\/((Itl K a').go i H/\∃ N:St->Hp->Prop,(∀ σ' H',N σ' H'->∃ m',m' < m/\W (i + 1) m' σ' H')/\∀ x H',(Itl K a').yld i H x H'->g x σ H' fun σ2 H2=>tb { nx:=N,rt:=RT,bk:=NX,ct:=N } σ2 H2):=
 ⟨a,rfl,⟨xs,hx⟩,sP (D:={ nx:=NX,rt:=RT }) Pv h0 hl hs hd⟩
theorem zk {a:Addr} (xs:List V) (hx:SqT K H a xs) (Pv:Nat->St->Hp->Prop) (h0:Pv 0 σ H) (hl:∀ i σ H,i<=xs.length->Pv i σ H->SqT K H a xs) (hs:∀ i x σ H,xs[i]?=some x->Pv i σ H->g x σ H fun σ2 H2=>tb { nx:=Pv (i + 1),rt:=RT,bk:=NX,ct:=Pv (i + 1) } σ2 H2) (hd:∀ σ H,Pv xs.length σ H->NX σ H):
  ∃ a',V.ref a=.ref a'/\(∃ xs,SqT K H a' xs)/\∃ W:Nat->Nat->St->Hp->Prop,(∃ m,W 0 m σ H)/\∀ i m σ H,W i m σ H->
   ((Itt K a').stop i H/\NX σ H)\/((Itt K a').go i H/\∃ N:St->Hp->Prop,(∀ σ' H',N σ' H'->∃ m',m' < m/\W (i + 1) m' σ' H')/\∀ x H',(Itt K a').yld i H x H'->g x σ H' fun σ2 H2=>tb { nx:=N,rt:=RT,bk:=NX,ct:=N } σ2 H2):=
 ⟨a,rfl,⟨xs,hx⟩,HH (D:={ nx:=NX,rt:=RT }) Pv h0 hl hs hd⟩
theorem By {S:Src} {a:Addr} (xs:List V) (hx:S.Sq K H a xs) (Pv:Nat->St->Hp->Prop) (h0:Pv 0 σ H) (hl:∀ i σ H,i<=xs.length->Pv i σ H->S.Sq K H a xs)
  (hs:∀ i x T σ H H',xs[i]?=some x->Pv i σ H->H T=none->am H H'->H' T=some (.tup [.int i,x])->g (.ref T) σ H' fun σ2 H2=>tb { nx:=Pv (i + 1),rt:=RT,bk:=NX,ct:=Pv (i + 1) } σ2 H2) (hd:∀ σ H,Pv xs.length σ H->NX σ H):
  ∃ a' xs',[V.ref a]=[.ref a']/\S.Sq K H a' xs'/\∃ W:Nat->Nat->St->Hp->Prop,(∃ m,W 0 m σ H)/\∀ i m σ H,W i m σ H->
   ((Ite S K a').stop i H/\NX σ H)\/((Ite S K a').go i H/\∃ N:St->Hp->Prop,(∀ σ' H',N σ' H'->∃ m',m' < m/\W (i + 1) m' σ' H')/\∀ x H',(Ite S K a').yld i H x H'->g x σ H' fun σ2 H2=>tb { nx:=N,rt:=RT,bk:=NX,ct:=N } σ2 H2):=
 ⟨a,xs,rfl,hx,zf (D:={ nx:=NX,rt:=RT }) Pv h0 hl (fun i x T σ H e p hT=>hs i x T σ H _ e p hT (aW hT _) ay) hd⟩
end
theorem zl {α:Type} [DecidableEq α]:∀ {xs:List α} {m:α},m∈xs->∃ j:Nat,xs[j]?=some m/\∀ i:Nat,i < j->xs[i]?≠some m
 | x :: r,m,h=>by
  by_cases e:x=m
  ·exact ⟨0,by rw [e]; rfl,fun i hi=>absurd hi (by omega)⟩
  ·have hm:m∈r:=by
    rcases Lh.mp h with h | h
    ·exact absurd h.symm e
    ·exact h
   obtain ⟨j,h1,h2⟩:=zl hm
   refine ⟨j + 1,h1,fun i hi=>?_⟩
   cases i with
   | zero=>intro z; exact e (Lu z)
   | succ i=>exact h2 i (by omega)
theorem iJ {K:Fg} {i j:Nat} {a:Addr} {x y:V} {σ:St} {H:Hp} {R:St->Hp->Prop} (e:SqT K H a [x,y]) (h:R ((σ.set i (some x)).set j (some y)) H):jn K 2 (cc (ao i) (cc (ao j) jm)) (.ref a) σ H R:=
 ⟨a,[x,y],rfl,e,rfl,x,[y],rfl,y,[],rfl,rfl,h⟩
noncomputable def bi (H:Hp) (p:Addr) (R:Nat->List V->Hp->Prop) (i:Nat) (acc:List V) (H2:Hp):Prop:=am H H2/\H2 p=some (.lst acc)/\acc.length<=i/\R i acc H2
theorem bi.put {H H4:Hp} {p:Addr} {R:Nat->List V->Hp->Prop} {i:Nat} {acc:List V} {y:V} (hp:H p=none) (st:∀ i acc H H',R i acc H->fq H H'->R i acc H') (s:am H H4) (e:H4 p=some (.lst acc)) (l:acc.length<=i) (r:R (i + 1) (acc++[y]) H4):
  H4 p=some (.lst acc)/\bi H p R (i + 1) (acc++[y]) (upd H4 p (.lst (acc++[y]))):=
 ⟨e,s.upd hp _,ay,by rw [Lz]; exact Sg l 1,st _ _ _ _ r (iB.keep e)⟩
theorem bi.skip {H H4:Hp} {p:Addr} {R:Nat->List V->Hp->Prop} {i:Nat} {acc:List V} (s:am H H4) (e:H4 p=some (.lst acc)) (l:acc.length<=i) (r:R (i + 1) acc H4):bi H p R (i + 1) acc H4:=⟨s,e,by omega,r⟩
section
variable {g:CF TG} {tt:CF TT} {te:CF TE} {σ₀:St} {Q:VK} {H:Hp} {K:Fg}
theorem nZ {j:Int} (n:Nat) (hn:j.toNat=n) (hj:j<=1000000) (hj0:-1000000<=j) (R:Nat->List V->Hp->Prop) (h0:∀ H',am H H'->R 0 [] H')
  (hs:∀ p,H p=none->∀ C s' H' fp,∀ i acc H2,i < n->bi H p R i acc H2->g C s' H' fp (.int i) σ₀ H2 fun σ2 H3=>tt C s' H' fp σ2 H3 fun b H4=>if b=true then te C s' H' fp σ2 H4 fun y H5=>H5 p=some (.lst acc)/\bi H p R (i + 1) (acc++[y]) (upd H5 p (.lst (acc++[y]))) else bi H p R (i + 1) acc H4)
  (hd:∀ p acc H2,H p=none->am H H2->H2 p=some (.lst acc)->R n acc H2->Q (.ref p) H2):
  ∃ j':Int,[V.int j]=[.int j']/\-(2 ^ 62)<=j'/\j' < 2 ^ 62/\∀ p,H p=none->∃ W:Nat->Nat->List V->Hp->Prop,(∃ m,W 0 m [] (upd H p (.lst [])))/\∀ C s' H' fp,cg (Itr 0 j'.toNat) (g C s' H' fp) (tt C s' H' fp) (te C s' H' fp) σ₀ p Q W:=by
 refine ⟨j,rfl,by omega,by omega,fun p hp=>?_⟩
 subst hn
 exact nW (lo:=0) (bi H p R) ⟨aW hp _,ay,Le _,h0 _ (aW hp _)⟩ (fun i acc H2 _ c=>⟨c.2.1,c.2.2.1⟩) (by rw [Ll]; omega) (fun C s' H' fp i acc H2 hi c=>by rw [Ra]; exact hs p hp C s' H' fp i acc H2 hi c) fun acc H2 c=>hd p acc H2 hp c.1 c.2.1 c.2.2.2
theorem gx {a:Addr} (xs:List V) (hx:SqL K H a xs) (hz:xs.length<=1000000) (R:Nat->List V->Hp->Prop) (h0:∀ H',am H H'->R 0 [] H')
  (hs:∀ p,H p=none->∀ C s' H' fp,∀ i x acc H2,xs[i]?=some x->bi H p R i acc H2->g C s' H' fp x σ₀ H2 fun σ2 H3=>tt C s' H' fp σ2 H3 fun b H4=>if b=true then te C s' H' fp σ2 H4 fun y H5=>H5 p=some (.lst acc)/\bi H p R (i + 1) (acc++[y]) (upd H5 p (.lst (acc++[y]))) else bi H p R (i + 1) acc H4)
  (hd:∀ p acc H2,H p=none->am H H2->H2 p=some (.lst acc)->R xs.length acc H2->Q (.ref p) H2):
  ∃ a',V.ref a=.ref a'/\(∃ xs,SqL K H a' xs)/\∀ p,H p=none->∃ W:Nat->Nat->List V->Hp->Prop,(∃ m,W 0 m [] (upd H p (.lst [])))/\∀ C s' H' fp,cg (Itl K a') (g C s' H' fp) (tt C s' H' fp) (te C s' H' fp) σ₀ p Q W:=
 ⟨a,rfl,⟨xs,hx⟩,fun p hp=>xh (bi H p R) ⟨aW hp _,ay,Le _,h0 _ (aW hp _)⟩ (fun i acc H2 _ c=>⟨c.2.1,c.2.2.1⟩) (fun i acc H2 _ c=>c.1.seq hx) (by rw [Ll]; omega) (fun C s' H' fp i x acc H2 hi c=>hs p hp C s' H' fp i x acc H2 hi c) fun acc H2 c=>hd p acc H2 hp c.1 c.2.1 c.2.2.2⟩
end
section
variable {g:TG} {tb:TS} {NX:St->Hp->Prop} {RT:VK} {σ:St} {H:Hp} {K:Fg}
theorem JV {S1 S2:Src} {a b:Addr} (xs ys:List V) (hx:S1.Sq K H a xs) (hy:S2.Sq K H b ys) (Pv:Nat->St->Hp->Prop) (h0:Pv 0 σ H) (hl:∀ i σ H,Pv i σ H->S1.Sq K H a xs/\S2.Sq K H b ys)
  (hs:∀ i x y T σ H H',xs[i]?=some x->ys[i]?=some y->Pv i σ H->H T=none->am H H'->H' T=some (.tup [x,y])->g (.ref T) σ H' fun σ2 H2=>tb { nx:=Pv (i + 1),rt:=RT,bk:=NX,ct:=Pv (i + 1) } σ2 H2) (hd:∀ σ H,Pv (min xs.length ys.length) σ H->NX σ H):
  ∃ a' b' xs' ys',[V.ref a,V.ref b]=[.ref a',.ref b']/\S1.Sq K H a' xs'/\S2.Sq K H b' ys'/\∃ W:Nat->Nat->St->Hp->Prop,(∃ m,W 0 m σ H)/\∀ i m σ H,W i m σ H->
   ((Itz S1 S2 K a' b').stop i H/\NX σ H)\/((Itz S1 S2 K a' b').go i H/\∃ N:St->Hp->Prop,(∀ σ' H',N σ' H'->∃ m',m' < m/\W (i + 1) m' σ' H')/\∀ x H',(Itz S1 S2 K a' b').yld i H x H'->g x σ H' fun σ2 H2=>tb { nx:=N,rt:=RT,bk:=NX,ct:=N } σ2 H2):=by
 refine ⟨a,b,xs,ys,rfl,hx,hy,Ei (J:=Itz S1 S2 K a b) (n:=min xs.length ys.length) (D:={ nx:=NX,rt:=RT }) (Y:=fun i H x H1=>∃ T u v,H T=none/\x=.ref T/\H1=upd H T (.tup [u,v])/\xs[i]?=some u/\ys[i]?=some v) Pv h0 (fun i σ H hi w=>?_) (fun σ H w=>?_) (fun i σ H x H1 hi w y=>?_) (fun i x σ H H1 hi w y=>?_) hd⟩
 ·obtain ⟨q1,q2⟩:=hl i σ H w
  exact ⟨xs,ys,xs[i],ys[i],q1,q2,by simp [show i < xs.length by omega],by simp [show i < ys.length by omega]⟩
 ·obtain ⟨q1,q2⟩:=hl _ σ H w
  exact ⟨xs,ys,q1,q2,rfl⟩
 ·obtain ⟨T,u,v,e1,e2,e3,e4⟩:=y
  obtain ⟨q1,q2⟩:=hl _ σ H w
  obtain ⟨e5,e6⟩:=e4 xs ys q1 q2
  exact ⟨T,u,v,e1,e2,e3,e5,e6⟩
 ·obtain ⟨T,u,v,e1,rfl,rfl,e4,e5⟩:=y
  exact hs i u v T σ H _ e4 e5 w e1 (aW e1 _) ay
end
section
variable {K:Fg} {H:Hp} {Q:VK} {a b:Addr} {ns ms:List Int}
theorem KD (h1:SqT K H a (ns.map V.int)) (h2:SqT K H b (ms.map V.int)) (h:Q (.bl (decide (ns=ms))) H):nX (SqT K) false (.ref a) (.ref b) H Q:=⟨a,b,_,_,_,rfl,rfl,h1,h2,Eh ns ms,by rw [Cd]; exact h⟩
theorem kB {x:V} {T:String} {t:Value} {c:Bool} (ty:fi K H x t) (e:Mg K t (.type T)=some c) (h:Q (.bl c) H):lh K [x,.ty T] H Q:=⟨x,T,t,c,rfl,ty,e,h⟩
end
section
variable {g:CF TG} {tt:CF TT} {te:CF TE} {σ₀:St} {Q:VK} {H:Hp} {K:Fg}
theorem qe {S1 S2:Src} {a b:Addr} (xs ys:List V) (hx:S1.Sq K H a xs) (hy:S2.Sq K H b ys) (kx:∀ H',am H H'->S1.Sq K H' a xs) (ky:∀ H',am H H'->S2.Sq K H' b ys) (hz:xs.length<=1000000) (R:Nat->List V->Hp->Prop) (h0:∀ H',am H H'->R 0 [] H')
  (hs:∀ p,H p=none->∀ C s' H' fp,∀ i x y T acc H2 H3,xs[i]?=some x->ys[i]?=some y->bi H p R i acc H2->H2 T=none->am H2 H3->H3 T=some (.tup [x,y])->H3 p=some (.lst acc)->g C s' H' fp (.ref T) σ₀ H3 fun σ2 H3=>tt C s' H' fp σ2 H3 fun b H4=>if b=true then te C s' H' fp σ2 H4 fun y H5=>H5 p=some (.lst acc)/\bi H p R (i + 1) (acc++[y]) (upd H5 p (.lst (acc++[y]))) else bi H p R (i + 1) acc H4)
  (hd:∀ p acc H2,H p=none->am H H2->H2 p=some (.lst acc)->R (min xs.length ys.length) acc H2->Q (.ref p) H2):
  ∃ a' b' xs' ys',[V.ref a,V.ref b]=[.ref a',.ref b']/\S1.Sq K H a' xs'/\S2.Sq K H b' ys'/\∀ p,H p=none->∃ W:Nat->Nat->List V->Hp->Prop,(∃ m,W 0 m [] (upd H p (.lst [])))/\∀ C s' H' fp,cg (Itz S1 S2 K a' b') (g C s' H' fp) (tt C s' H' fp) (te C s' H' fp) σ₀ p Q W:=by
 refine ⟨a,b,xs,ys,rfl,hx,hy,fun p hp=>kP (n:=min xs.length ys.length) (Y:=fun i H x H1=>∃ T u v,H T=none/\x=.ref T/\H1=upd H T (.tup [u,v])/\xs[i]?=some u/\ys[i]?=some v) (bi H p R)
  ⟨aW hp _,ay,Le _,h0 _ (aW hp _)⟩ (fun i acc H2 _ c=>⟨c.2.1,c.2.2.1⟩) (by rw [Ll]; omega) (fun i acc H2 hi c=>?_) (fun acc H2 c=>?_) (fun i acc H2 x H3 hi c y=>?_) (fun C s' H' fp i x acc H2 H3 hi c y=>?_) fun acc H2 c=>hd p acc H2 hp c.1 c.2.1 c.2.2.2⟩
 ·exact ⟨xs,ys,xs[i],ys[i],kx _ c.1,ky _ c.1,by simp [show i < xs.length by omega],by simp [show i < ys.length by omega]⟩
 ·exact ⟨xs,ys,kx _ c.1,ky _ c.1,rfl⟩
 ·obtain ⟨T,u,v,e1,e2,e3,e4⟩:=y
  obtain ⟨e5,e6⟩:=e4 xs ys (kx _ c.1) (ky _ c.1)
  exact ⟨T,u,v,e1,e2,e3,e5,e6⟩
 ·obtain ⟨T,u,v,e1,rfl,rfl,e4,e5⟩:=y
  exact hs p hp C s' H' fp i u v T acc H2 _ e4 e5 c e1 (aW e1 _) ay (by rw [aP (aS c.2.1 e1)]; exact c.2.1)
noncomputable def zm (K:Fg):V->Option Int->Option Int->Hp->VK->Prop:=fun x lo hi H Q=>∃ a xs,x=.ref a/\SqT K H a xs/\¬ (HT.sIx xs.length 0 lo=0/\HT.sIx xs.length xs.length hi=xs.length)/\New H (.tup (gP xs lo hi)) fun p H2=>Q (.ref p) H2
theorem Ci {a:Addr} {xs:List V} {lo hi:Option Int} (e:SqT K H a xs) (hn:¬ (HT.sIx xs.length 0 lo=0/\HT.sIx xs.length xs.length hi=xs.length)) (h:∀ p H',H p=none->am H H'->H' p=some (.tup (gP xs lo hi))->Q (.ref p) H'):zm K (.ref a) lo hi H Q:=⟨a,xs,rfl,e,hn,h⟩
theorem sX (x:V) (xs:List V):gP (x :: xs) (some 1) none=xs:=by
 unfold gP
 have e:HT.sIx (x :: xs).length 0 (some 1)=min 1 (x :: xs).length:=rfl
 rw [e,show min 1 (x :: xs).length=1 by simp]
 show ((x :: xs).drop 1).take ((x :: xs).length - 1)=xs
 rw [OD (by simp)]
 rfl
theorem mN (x:V) (xs:List V):¬ (HT.sIx (x :: xs).length 0 (some 1)=0/\HT.sIx (x :: xs).length (x :: xs).length none=(x :: xs).length):=fun h=>by
 have e:HT.sIx (x :: xs).length 0 (some 1)=min 1 (x :: xs).length:=rfl
 rw [e,show min 1 (x :: xs).length=1 by simp] at h
 exact absurd h.1 (by decide)
theorem KG {x y:Str} (h:Q (.bl (decide (x=y))) H):rEq (.str x) (.str y) H Q:=⟨rfl,by rw [show decide (V.str x=V.str y)=decide (x=y) from decide_eq_decide.mpr ⟨fun e=>by injection e,fun e=>by rw [e]⟩]; exact h⟩
noncomputable def Cj (kvs:List (Str×V)) (a:Addr):R2:=fun x y H Q=>x=.ref a/\∃ k v,y=.str k/\kvs.lookup k=some v/\Q v H
theorem Hm {kvs:List (Str×V)} {a:Addr} {k:Str} {v:V} (e:kvs.lookup k=some v) (h:Q v H):Cj kvs a (.ref a) (.str k) H Q:=⟨rfl,k,v,rfl,e,h⟩
noncomputable def zn (kvs:List (Str×V)) (a:Addr) (neg:Bool):R2:=fun x y H Q=>y=.ref a/\∃ k,x=.str k/\Q (.bl (if neg then !(kvs.lookup k).isSome else (kvs.lookup k).isSome)) H
end
noncomputable def ka (K:Fg) (a:Addr) (xs:List V):Prop:=∃ (o:Obj) (its:Array Value) (n:Nat),K.lookup a=some o/\o.cls=.type "tuple"/\o.data=.seq its n/\its.size<=Lr/\aG xs its.toList
theorem ka.sq {K:Fg} {a:Addr} {xs:List V} (h:ka K a xs) (H:Hp):SqT K H a xs:=.inr h
section
variable {H:Hp} {Q:VK} {K:Fg}
theorem FQ {l b:Addr} {xs zs:List V} (e:H l=some (.lst xs)) (eb:H b=some (.lst zs)) (hz:xs.length + zs.length<=Lr) (h:∀ H',Off l H H'->H' l=some (.lst (xs++zs))->Q .non H'):wa (.ref l) [.ref b] H Q:=⟨l,b,xs,zs,rfl,rfl,e,eb,hz,h _ iB ay⟩
end
theorem Eo (xs:List V) (z:Int) {m:Nat} (hl:xs.length=m) (hm:0 < m):∃ x,atI xs (z % (m:Int))=some x/\x∈xs:=by
 have m1:=N1 z (b:=(m:Int)) (by omega)
 have m2:=NG z (b:=(m:Int)) (by omega)
 have hk:(z % (m:Int)).toNat < xs.length:=by omega
 refine ⟨xs[(z % (m:Int)).toNat],?_,Om hk⟩
 have e:z % (m:Int)=(((z % (m:Int)).toNat:Nat):Int):=by omega
 have q:atI xs (((z % (m:Int)).toNat:Nat):Int)=some xs[(z % (m:Int)).toNat]:=cB (Ld hk)
 rw [<-e] at q
 exact q
end L2
end
local macro_rules | `(tactic| walk_at "rb1")=>`(tactic| first
 | ((with_reducible refine' L2.nY (v:=?v) ?e ?h); (case e=>exact rfl))
 | (with_reducible first | refine L2.Em ?_ | refine L2.ku ?_ | refine L2.Ks ?_ | refine L2.JG ?_ | refine L2.jW ?_ | refine L2.JH ?_ | refine L2.r_c ?_ | refine L2.sU ?_ | refine L2.KZ ?_ | refine L2.K0 ?_ | refine L2.r_U ?_ | refine L2.Kt ?_ | refine L2.Ku ?_ | refine L2.KG ?_ | refine L2.JI ?_ | refine L2.K1 ?_ | refine L2.K2 ?_ | refine L2.Kz ?_ | refine L2.Kv ?_ | refine L2.K3 ?_ | refine L2.Kw ?_ | refine L2.JJ ?_ | refine L2.Ky ?_ | refine L2.JK ?_ | refine L2.K4 ?_ | refine L2.Hj ?_ | refine L2.En ?_ | refine L2.JL ?_ | refine L2.K5 ?_ | refine L2.K6 ?_ | refine L2.K7 ?_ | refine L2.FN ?_ | refine L2.JM ?_ | refine L2.KA ?_ | refine L2.JN ?_ | refine L2.Ic ?_ | refine L2.JO ?_ | refine L2.Id ?_ | refine L2.Ie ?_ | refine L2.JP ?_ | refine L2.KC ?_ | refine L2.qZ ?_ | refine L2.JS ?_ | refine L2.JT ?_ | refine L2.JU ?_ | refine L2.p0 ?_ | refine L2.nP ?_ | refine L2.Ce ?_ | refine L2.KB ?_ | refine L2.FO ?_)
 | ((with_reducible refine L2.r_I ?_ ?_); (first | (show (0:Int) < _; omega) | (show (0:Int) < _; decide) | exact ⟨by decide,by decide,by decide⟩ | exact And.intro (by omega) (by omega) | exact (PySem.IntMulOk.of_right (SC (by omega) (by omega))) | exact (PySem.IntMulOk.of_left (SC (by omega) (by omega)))))
 | ((with_reducible refine' L2.fS (ys:=?y) ?e ?h); (case e=>first | assumption | exact L2.SqL.of (by assumption)))
 | ((with_reducible refine' L2.Bx (ys:=?y) ?e ?h); (case e=>first | assumption | exact L2.SqT.of (by assumption)))
 | dsimp only [Nj,Nk,L2.sub,LA,OJ,List.getElem?_cons_zero,List.getElem?_cons_succ])
local macro_rules | `(tactic| walk_at "rd")=>`(tactic| repeat (first | (with_reducible first | refine L2.bu ?_ | refine L2.Hi ?_) | walk_at "rb1"))
local macro_rules | `(tactic| walk_at "rs")=>`(tactic| repeat (first | (with_reducible refine L2.Hi ?_) | walk_at "rb1"))
local macro_rules | `(tactic| walk_at "ra")=>`(tactic| repeat (walk_at "rb1"))
namespace L2
open PySem PyProof.Rows
noncomputable abbrev IA:=Option Int
noncomputable abbrev IK:=Sum IA (List IA)
noncomputable abbrev MK:=Sum IA (List IK)
noncomputable def iaV:V->Option IA
 | .non=>some none
 | .bl b=>some (some (if b then 1 else 0))
 | .int i=>some (some i)
 | _=>none
noncomputable def l9 (H:Hp) (x:V):IK->Prop
 | .inl a=>iaV x=some a
 | .inr as=>∃ c ys,x=.ref c/\H c=some (.tup ys)/\ys.map iaV=as.map some
noncomputable def cW (H:Hp) (x:V):MK->Prop
 | .inl a=>iaV x=some a
 | .inr is=>∃ c xs,x=.ref c/\H c=some (.tup xs)/\Paired (l9 H) xs is
noncomputable def ma:MK->Bool
 | .inl _=>false
 | .inr _=>true
theorem l9.keep {H H':Hp} {x:V} {k:IK} (h:l9 H x k) (kp:fq H H'):l9 H' x k:=by
 cases k with
 | inl a=>exact h
 | inr as=>obtain ⟨c,ys,e,q,r⟩:=h; exact ⟨c,ys,e,kp _ _ q,r⟩
theorem cW.keep {H H':Hp} {x:V} {k:MK} (h:cW H x k) (kp:fq H H'):cW H' x k:=by
 cases k with
 | inl a=>exact h
 | inr as=>obtain ⟨c,xs,e,q,r⟩:=h; exact ⟨c,xs,e,kp _ _ q,Paired.mapP r fun _ _ z=>l9.keep z kp⟩
theorem xl {H H':Hp} {xs:List V} {ks:List MK} (h:Paired (cW H) xs ks) (kp:fq H H'):Paired (cW H') xs ks:=Paired.mapP h fun _ _ z=>cW.keep z kp
theorem ck {α β:Type} {F:α->β->Prop}:∀ {xs:List α} {ys:List β} {i:Nat} {x:α},Paired F xs ys->xs[i]?=some x->∃ y,ys[i]?=some y/\F x y
 | _,_,_,_,.nil,e=>by simp at e
 | _,_,0,_,.cons r _,e=>by simp at e; subst e; exact ⟨_,rfl,r⟩
 | _,_,i + 1,x,.cons _ t,e=>by
  obtain ⟨u,h1,h2⟩:=ck (i:=i) (x:=x) t (by simpa using e)
  exact ⟨u,by simpa using h1,h2⟩
theorem uv (H:Hp):∀ ns:List Int,Paired (l9 H) (ns.map V.int) (ns.map fun n=>(NQ (some n):IK))
 | []=>.nil
 | n :: r=>.cons rfl (uv H r)
theorem Ih {H:Hp} {c:Addr} {ns:List Int} (e:H c=some (.tup (ns.map V.int))):cW H (.ref c) (.inr (ns.map fun n=>(NQ (some n):IK))):=⟨c,_,rfl,e,uv H ns⟩
theorem Off.keepD {H H':Hp} {l:Addr} (o:Off l H H') (h:∀ xs,H l≠some (.tup xs)):fq H H':=fun b ys q=>by
 rw [o b (fun z=>by subst z; exact h _ q)]
 exact q
noncomputable def be {α:Type} [DecidableEq α] (ks:List α):List Nat:=ks.map fun k=>ks.idxOf k
theorem dE {α:Type} [DecidableEq α] (ks:List α):(be ks).length=ks.length:=Lf _
theorem Ck {α:Type} [DecidableEq α] {ks:List α} {i:Nat} {k:α} (h:k∈ks.take i):(ks.take i).idxOf k=ks.idxOf k:=by
 have:=S9 (l₁:=ks.take i) (l₂:=ks.drop i) (a:=k)
 rw [OL,if_pos h] at this
 exact this.symm
theorem xm {α:Type} [DecidableEq α] {ks:List α} {i:Nat} {k:α} (hk:ks[i]?=some k) (h:k∉ks.take i):ks.idxOf k=i:=by
 obtain ⟨hi,e⟩:=Li.mp hk
 have e1:ks=ks.take i++(k :: ks.drop (i + 1)):=by
  rw [<-e,List.getElem_cons_drop,OL]
 have:=S9 (l₁:=ks.take i) (l₂:=k :: ks.drop (i + 1)) (a:=k)
 rw [<-e1,if_neg h,List.idxOf_cons_self,MF] at this
 omega
theorem cX {α:Type} {ks:List α} {i:Nat} {k:α} (hk:ks[i]?=some k):ks.take (i + 1)=ks.take i++[k]:=by
 rw [MW,hk]; rfl
theorem r6 {α β:Type} [DecidableEq α] [DecidableEq β] {f:α->β} (inj:∀ a b,f a=f b->a=b) (ks:List α):be (ks.map f)=be ks:=by
 unfold be
 rw [NY]
 refine M9 fun k hk=>?_
 show (ks.map f).idxOf (f k)=ks.idxOf k
 clear hk
 induction ks with
 | nil=>rfl
 | cons a r ih=>
  rw [LA,Uj,Uj,ih]
  by_cases e:a=k
  ·rw [e,beq_self_eq_true,beq_self_eq_true]
  ·rw [beq_eq_false_iff_ne.mpr e,beq_eq_false_iff_ne.mpr (fun z=>e (inj _ _ z))]
theorem uw {α:Type} [DecidableEq α] {ks:List α} {i:Nat} {z:Nat} (h:(be ks)[i]?=some z):∃ k,ks[i]?=some k/\z=ks.idxOf k/\z<=i:=by
 unfold be at h
 rw [Lx] at h
 cases e:ks[i]? with
 | none=>rw [e] at h; cases h
 | some k=>
  rw [e] at h
  refine ⟨k,rfl,(Lu h).symm,?_⟩
  rw [<-Lu h]
  show ks.idxOf k<=i
  by_cases q:k∈ks.take i
  ·have:=Qv q
   rw [Ck q,MF] at this
   omega
  ·rw [xm e q]; exact Le _
section
open PySem.Spec
section
variable {κ:Type} [DecidableEq κ]
noncomputable def fR (kvs:List (κ×V)) (k:κ):Option V:=(kvs.find? fun kv=>decide (kv.1=k)).map (·.2)
noncomputable def qf (kvs:List (κ×V)) (k:κ) (v:V):List (κ×V):=
 if (kvs.any fun kv=>decide (kv.1=k))=true then kvs.map (fun kv=>if kv.1=k then (kv.1,v) else kv) else kvs++[(k,v)]
theorem eC {p:κ×V} {r:List (κ×V)} {k:κ} (e:p.1=k):fR (p :: r) k=some p.2:=by simp [fR,LW,e]
theorem eD {p:κ×V} {r:List (κ×V)} {k:κ} (e:¬ p.1=k):fR (p :: r) k=fR r k:=by simp [fR,LW,e]
theorem sY (k:κ):∀ kvs:List (κ×V),(kvs.any fun kv=>decide (kv.1=k))=(fR kvs k).isSome
 | []=>rfl
 | p :: r=>by
  rw [Su]
  by_cases e:p.1=k
  ·simp only [eC e,decide_eq_true e,Bool.true_or,Option.isSome_some]
  ·rw [eD e,decide_eq_false e,Bool.false_or]; exact sY k r
theorem zo (k j:κ) (y:V):∀ kvs:List (κ×V),fR (kvs.map fun kv=>if kv.1=k then (kv.1,y) else kv) j=(fR kvs j).map fun x=>if j=k then y else x
 | []=>rfl
 | p :: r=>by
  have ih:=zo k j y r
  rw [LA]
  by_cases h:p.1=k
  ·rw [if_pos h]
   by_cases e:p.1=j
   ·rw [eC (p:=(p.1,y)) e,eC e,PY,if_pos (e.symm.trans h)]
   ·rw [eD (p:=(p.1,y)) e,eD e,ih]
  ·rw [if_neg h]
   by_cases e:p.1=j
   ·rw [eC (p:=p) e,eC e,PY,if_neg (fun z=>h (e.trans z))]
   ·rw [eD (p:=p) e,eD e,ih]
theorem xn (k j:κ) (y:V):∀ kvs:List (κ×V),fR kvs k=none->fR (kvs++[(k,y)]) j=if j=k then some y else fR kvs j
 | [],_=>by
  by_cases e:k=j
  ·rw [if_pos e.symm]; exact eC (p:=(k,y)) e
  ·rw [if_neg (fun z=>e z.symm)]; exact eD (p:=(k,y)) e
 | p :: r,hn=>by
  rw [TQ]
  have hk:¬ p.1=k:=fun z=>by rw [eC z] at hn; cases hn
  rw [eD hk] at hn
  have ih:=xn k j y r hn
  by_cases e:p.1=j
  ·rw [eC e,eC e,if_neg (fun z=>hk (e.trans z))]
  ·rw [eD e,eD e,ih]
theorem FR (kvs:List (κ×V)) (k j:κ) (y:V):fR (qf kvs k y) j=if j=k then some y else fR kvs j:=by
 unfold qf
 by_cases a:(kvs.any fun kv=>decide (kv.1=k))=true
 ·rw [if_pos a,zo]
  rw [sY] at a
  by_cases e:j=k
  ·obtain ⟨x,hx⟩:=Q3.mp a
   rw [if_pos e,e,hx,PY,if_pos rfl]
  ·rw [if_neg e]
   cases fR kvs j with
   | none=>rfl
   | some x=>rw [PY,if_neg e]
 ·rw [if_neg a]
  refine xn k j y kvs ?_
  rw [sY] at a
  cases q:fR kvs k with
  | none=>rfl
  | some x=>rw [q] at a; exact (a rfl).elim
theorem r9 (kvs:List (κ×V)) (k:κ) (v:V):(qf kvs k v).length<=kvs.length + 1:=by
 unfold qf
 split
 ·rw [Lf]; omega
 ·rw [Lz,LP,Uk]; omega
theorem gN.isSome_eq {o:Option V} {u:Option Value} (r:gN o u):o.isSome=u.isSome:=by
 cases o with
 | none=>cases u with
  | none=>rfl
  | some _=>exact (show False from r).elim
 | some _=>cases u with
  | none=>exact (show False from r).elim
  | some _=>rfl
theorem KV.val {kvs:List (κ×V)} {vs:List (κ×Value)} (r:KV kvs vs) (k:κ):gN (fR kvs k) (valueAt vs k):=by
 unfold KV at r
 induction r with
 | nil=>exact NV
 | @cons p q ps qs h t ih=>
  obtain ⟨h1,h2⟩:=h
  by_cases e:p.1=k
  ·have e':q.1=k:=h1.symm.trans e
   have b:valueAt (q :: qs) k=some q.2:=by simp [valueAt,LW,e']
   rw [eC e,b]; exact h2
  ·have e':¬ q.1=k:=fun z=>e (h1.trans z)
   have b:valueAt (q :: qs) k=valueAt qs k:=by simp [valueAt,LW,e']
   rw [eD e,b]; exact ih
theorem KV.any {kvs:List (κ×V)} {vs:List (κ×Value)} (r:KV kvs vs) (k:κ):(kvs.any fun kv=>decide (kv.1=k))=vs.any fun kv=>decide (kv.1=k):=by
 unfold KV at r
 induction r with
 | nil=>rfl
 | cons h t ih=>rw [Su,Su,ih,h.1]
theorem KV.repl {kvs:List (κ×V)} {vs:List (κ×Value)} (r:KV kvs vs) (k:κ) {y:V} {u:Value} (ry:aI y u):
  KV (kvs.map fun kv=>if kv.1=k then (kv.1,y) else kv) (vs.map fun kv=>if kv.1=k then (kv.1,u) else kv):=by
 unfold KV at r ⊢
 induction r with
 | nil=>exact .nil
 | @cons p q ps qs h t ih=>
  rw [LA,LA]
  refine .cons ?_ ih
  obtain ⟨h1,h2⟩:=h
  by_cases e:p.1=k
  ·rw [if_pos e,if_pos (h1.symm.trans e)]; exact ⟨h1,ry⟩
  ·rw [if_neg e,if_neg (fun z=>e (h1.trans z))]; exact ⟨h1,h2⟩
theorem KV.put {kvs:List (κ×V)} {vs:List (κ×Value)} (r:KV kvs vs) (k:κ) {y:V} {u:Value} (ry:aI y u):KV (qf kvs k y) (stored vs k u):=by
 unfold qf stored
 rw [r.any k]
 by_cases e:(vs.any fun kv=>decide (kv.1=k))=true
 ·rw [if_pos e,if_pos e]; exact r.repl k ry
 ·rw [if_neg e,if_neg e]; exact Paired.snoc r ⟨rfl,ry⟩
theorem KV.length {kvs:List (κ×V)} {vs:List (κ×Value)} (r:KV kvs vs):kvs.length=vs.length:=L6 r
end
theorem Hn {P:Program} {w:World} {k:Key} {u:Value} (r:aI (kV k) u):(iA P w).is k u=true:=by
 cases k with
 | inl i=>obtain ⟨t,e⟩:=(show ∃ t,u=Of i t from r); subst e; exact AO P w i t
 | inr x=>obtain ⟨t,e⟩:=(show ∃ t,u=Rm x t from r); subst e; exact bm P w x t
section
variable {P:Program} {w:World} {H:Hp} {h:Heap} {a:Addr}
end
section
variable {X:Cx} {pins:List (Addr×Obj)} {σ:St} {H:Hp} {s:Shared} {a:Addr} {y v:V} {u r:Value} {o:Option V} {A:Around} {E:Value->Shared->Prop}
theorem Inv.big (I:Inv X pins σ H s):Na < s.heap.objs.size:=by
 have h:LO < s.heap.objs.size:=(I.mod.glob.keeps I.bk).lt
 exact Nat.lt_trans (by decide) h
theorem Bz {h':Heap} {t':Nat} {ob:HO} (I:Inv X pins σ H s) (mu:Mut (H a)) (hs:LC a s.heap h') (he:∃ q,h'.get? a=some q) (new:bD X.prog X.w (upd H a ob) h' a ob):
  Inv X pins σ (upd H a ob) { s with heap:=h',toks:=t' }:=
 I.write (x:=a) (e:=a) mu (.inl rfl) (fun b q hb z=>(hs.2 b hb).trans z) he new
end
section
variable {X:Cx} {pins:List (Addr×Obj)} {σ:St} {H:Hp} {s:Shared} {a:Addr} {kvs:List (Key×V)} {k:Key} {u:Value} {A:Around} {E:Value->Shared->Prop}
end
noncomputable def FS (i:Expr):Prop:=∀ ov iv,RE i false ov iv=operate [ov,iv] (getItem ov iv)
theorem BA {prog:Program} {w:World} {A:Around} {E:Value->Shared->Prop} {s:Shared} {env:Env} {value slice:Expr} {pos:Pos} {T id:String} {Q:Value->Shared->Prop}
  (hl:R7 (.type T) "__getitem__"=pure (some (.builtin id))) (hs:FS slice)
  (h:wpAny (model prog w) A (eval value env) (fun o s₁=>wpAny (model prog w) A (eval slice env) (fun i s₂=>s₂.TypeIs o T/\wpAny (model prog w) A (getItem o i) Q E s₂) E s₁) E s):
  wpAny (model prog w) A (eval (.Subscript value slice pos) env) Q E s:=by
 refine T9 (M1 h (fun o s₁ h₁=>M1 h₁ (fun i s₂ h₂=>?_) fun _ _ x=>x) fun _ _ x=>x)
 obtain ⟨hT,h₂⟩:=h₂
 unfold Sr
 refine La ?_
 rw [getitemInPython_of_ne hT.not_modules]
 refine La (MQ hT hl ?_)
 have fin:wpAny (model prog w) A (RE slice false o i) (fun r s₃=>wpAny (model prog w) A (letTemporaryGo value o r >>= fun _=>pure r) Q E s₃) E s₂:=by
  rw [hs o i]
  exact wpAny_operating (M1 h₂ (fun r s₃ h₃=>La (wpAny_letTemporaryGo (Lc h₃))) fun _ _ x=>x)
 first
  | exact Lc (La fin)
  | exact La (Lc (La fin))
  | exact La fin
section
variable {X:Cx} {o i e value:Expr} {pos pos' tpos:Pos} {td ty tv:TE}
end
section
variable {X:Cx} {pos:Pos}
end
structure M2 (X:Cx) (o:Expr) (m:Str) (apos:Pos) (e f:Expr) (cpos:Pos):Prop where
 base:OQ o m X.env (eval o X.env)=eval o X.env
 few:((backTo cpos (LD [e,f] X.env)).all (fun x=>!x.1) && (Py cpos (OC [] X.env)).all (fun x=>x.1.isSome)
  && decide (([e,f]:List Expr).length + ([]:List Keyword).length + (if ([]:List Keyword).isEmpty then 0 else 1) < 30))=true
 line:(apos.endLine == cpos.line)=true
 trees:backTo cpos (LD [e,f] X.env)=[(false,eval e X.env),(false,eval f X.env)]
section
variable {X:Cx} {pins:List (Addr×Obj)} {σ:St} {H:Hp} {s:Shared} {a:Addr} {y d:V} {u r:Value} {o:Option V} {A:Around} {E:Value->Shared->Prop}
end
section
variable {X:Cx} {o e f:Expr} {apos cpos:Pos} {td ty tx:TE}
end
section
variable {X:Cx} {pins:List (Addr×Obj)} {σ:St} {H:Hp} {s:Shared} {a:Addr} {kvs:List (Key×V)} {A:Around} {E:Value->Shared->Prop}
end
section
variable {X:Cx} {pins:List (Addr×Obj)} {σ:St} {H:Hp} {s:Shared} {a:Addr} {y:V} {u:Value} {A:Around} {E:Value->Shared->Prop}
end
end
section
open PySem.Spec
section
variable {prog:Program} {w:World} {A:Around} {E:Value->Shared->Prop} {s:Shared}
theorem rQ {b:Bool} {Q:Int->Shared->Prop} (h:Q (hashInt (if b then 1 else 0)) { s with toks:=s.toks + 1 }):wpAny (model prog w) A (pyHash (.bool b)) Q E s:=by
 have hr:=rawHash_range (if b then 1 else 0)
 unfold pyHash
 have hv:[Mo b].any Value.onHeap=false:=rfl
 refine La ?_
 rw [cRoomFor,if_neg (by rw [hv]; exact Lq)]; refine Lc ?_
 have hT:s.TypeIs (.bool b) "bool":=rfl
 refine La (MQ hT OE.lookup ?_)
 show wpAny _ _ (if (some (Sv "int.__hash__") == some MB)=true then _ else _) Q E s
 rw [if_neg (by rw [Rb]; exact Lq)]
 refine La (MQ hT OE.lookup ?_)
 show wpAny _ _ (OG (.bool b) "__hash__" _ >>= _) Q E s
 refine La (NO hT OE (LY OE hT entry_int_hash ?_ (args_int_hash _)))
 cases b with
 | true=>
  refine (show wpAny _ _ (do ret (<-mkInt (rawHash 1))) _ _ s from PZ ?_)
  show wpAny _ _ (if (decide (-(2:Int) ^ 63<=rawHash 1) && decide (rawHash 1 < 2 ^ 63))=true then _ else _) Q E _
  rw [if_pos (by decide)]
  exact Lc h
 | false=>
  refine (show wpAny _ _ (do ret (<-mkInt (rawHash 0))) _ _ s from PZ ?_)
  show wpAny _ _ (if (decide (-(2:Int) ^ 63<=rawHash 0) && decide (rawHash 0 < 2 ^ 63))=true then _ else _) Q E _
  rw [if_pos (by decide)]
  exact Lc h
theorem rR {Q:Int->Shared->Prop} (h:Q 4238894112 { s with toks:=s.toks + 1 }):wpAny (model prog w) A (pyHash .none) Q E s:=by
 unfold pyHash
 have hv:[MB].any Value.onHeap=false:=rfl
 refine La ?_
 rw [cRoomFor,if_neg (by rw [hv]; exact Lq)]; refine Lc ?_
 have hT:s.TypeIs .none "NoneType":=rfl
 refine La (MQ hT N7.lookup ?_)
 show wpAny _ _ (if (some (Sv "NoneType.__hash__") == some MB)=true then _ else _) Q E s
 rw [if_neg (by rw [Rb]; exact Lq)]
 refine La (MQ hT N7.lookup ?_)
 show wpAny _ _ (OG .none "__hash__" _ >>= _) Q E s
 refine La (NO hT N7 (LY N7 hT PySem.F.entry_NoneType_hash ?_ (PySem.F.args_NoneType_hash_1 _)))
 refine (show wpAny _ _ (do ret (<-mkInt 4238894112)) _ _ s from PZ ?_)
 show wpAny _ _ (if (decide (-(2:Int) ^ 63<=4238894112) && decide ((4238894112:Int) < 2 ^ 63))=true then _ else _) Q E _
 rw [if_pos (by decide)]
 exact Lc h
end
noncomputable def zp:IA->Int
 | none=>4238894112
 | some i=>hashInt i
noncomputable def n9:IA->Value->Bool
 | none,.none=>true
 | some i,.int j _=>i == j
 | some i,.bool b=>i == (if b then 1 else 0)
 | _,_=>false
theorem dH {k:IA} {v:Value} (h:n9 k v=true):(k=none/\v=.none)\/(∃ i t,k=some i/\v=.int i t)\/∃ b,k=some (if b then 1 else 0)/\v=.bool b:=by
 rcases k with _ | i <;> cases v <;> (delta n9 at h; simp at h)
 ·exact .inl ⟨rfl,rfl⟩
 ·subst h; exact .inr (.inr ⟨_,rfl,rfl⟩)
 ·subst h; exact .inr (.inl ⟨_,_,rfl,rfl⟩)
noncomputable def cY (prog:Program) (w:World):PySem.KeyKind prog w IA where
 is:=n9
 hash:=zp
 inj:=fun v a b ha hb=>by
  rcases dH ha with ⟨rfl,rfl⟩ | ⟨i,t,rfl,rfl⟩ | ⟨c,rfl,rfl⟩ <;> rcases dH hb with ⟨rfl,e⟩ | ⟨j,u,rfl,e⟩ | ⟨d,rfl,e⟩ <;> first | rfl | (cases e; rfl) | cases e
 byValue:=fun k v h=>by
  rcases dH h with ⟨rfl,rfl⟩ | ⟨i,t,rfl,rfl⟩ | ⟨c,rfl,rfl⟩ <;> rfl
 pyHash:=fun hv h=>by
  rcases dH hv with ⟨rfl,rfl⟩ | ⟨i,t,rfl,rfl⟩ | ⟨c,rfl,rfl⟩
  ·exact rR h
  ·exact Tx h
  ·exact rQ h
 eqBool:=fun {A E s a b u v Q} hu hv h=>by
  rcases dH hu with ⟨rfl,rfl⟩ | ⟨i,t,rfl,rfl⟩ | ⟨c,rfl,rfl⟩ <;> rcases dH hv with ⟨rfl,rfl⟩ | ⟨j,u,rfl,rfl⟩ | ⟨d,rfl,rfl⟩
  ·exact Rp _ _ _ _ _ (by simpa using h)
  ·exact Sx _ _ _ _ _ _ (by simpa using h)
  ·exact R8 _ _ _ _ _ (by simpa using h)
  ·exact SA _ _ _ _ _ _ (by simpa using h)
  ·exact SR _ _ _ _ _ _ _ _ (by simpa [PF] using h)
  ·exact SB _ _ _ _ _ _ _ (by simpa [PF] using h)
  ·exact R9 _ _ _ _ _ (by simpa using h)
  ·exact Sz _ _ _ _ _ _ _ (by simpa [PF] using h)
  ·refine Sa _ _ _ _ _ _ ?_
   cases c <;> cases d <;> simpa using h
 «strs»:=fun k x t v h=>by
  rcases dH h with ⟨rfl,e⟩ | ⟨i,u,rfl,e⟩ | ⟨c,rfl,e⟩ <;> cases e
noncomputable def lj:IK->Int
 | .inl a=>zp a
 | .inr as=>Ul (MV (as.map zp))
noncomputable def yC (is:List IK):Int:=Ul (MV (is.map lj))
noncomputable def m7:IK->Nat
 | .inl _=>1
 | .inr as=>as.length + 1
section
variable (prog:Program) (w:World)
noncomputable def cH (h:Heap):IK->Value->Prop
 | .inl a,v=>n9 a v=true
 | .inr as,v=>∃ b,v=.ref b/\Um (cY prog w) h as b
noncomputable def gQ (h:Heap) (is:List IK) (a:Addr):Prop:=∃ o items n,h.get? a=some o/\o.cls=.type "tuple"/\o.data=.seq items n/\Paired (cH prog w h) is items.toList
end
section
variable {prog:Program} {w:World}
theorem cH.inj {h:Heap} {x y:IK} {v:Value} (hx:cH prog w h x v) (hy:cH prog w h y v):x=y:=by
 cases x with
 | inl a=>cases y with
  | inl b=>rw [(cY prog w).inj v a b hx hy]
  | inr bs=>
   obtain ⟨c,rfl,_⟩:=hy
   rcases dH hx with ⟨_,e⟩ | ⟨_,_,_,e⟩ | ⟨_,_,e⟩ <;> cases e
 | inr as=>cases y with
  | inl b=>
   obtain ⟨c,rfl,_⟩:=hx
   rcases dH hy with ⟨_,e⟩ | ⟨_,_,_,e⟩ | ⟨_,_,e⟩ <;> cases e
  | inr bs=>
   obtain ⟨c,rfl,h1⟩:=hx
   obtain ⟨d,e,h2⟩:=hy
   cases e
   rw [h1.inj h2]
theorem Ep {h:Heap} {xs ys:List IK} {vs:List Value} (p:Paired (cH prog w h) xs vs):Paired (cH prog w h) ys vs->xs=ys:=by
 induction p generalizing ys with
 | nil=>intro q; cases q; rfl
 | cons a t ih=>intro q; cases q with
  | cons b u=>rw [a.inj b,ih u]
theorem gQ.inj {h:Heap} {a:Addr} {x y:List IK} (hx:gQ prog w h x a) (hy:gQ prog w h y a):x=y:=by
 obtain ⟨o,items,n,ho,_,hd,hi⟩:=hx
 obtain ⟨o',items',n',ho',_,hd',hi'⟩:=hy
 obtain rfl:o=o':=Lu (ho.symm.trans ho')
 rw [hd] at hd'
 injection hd' with h1 _
 subst h1
 exact Ep hi hi'
theorem cH.keeps {h h':Heap} {k:IK} {v:Value} {d:Addr} {o:Obj} {es ep} (x:cH prog w h k v) (ho:h.get? d=some o) (hd:o.data=.dict es ep) (hs:LC d h h'):cH prog w h' k v:=by
 cases k with
 | inl a=>exact x
 | inr as=>obtain ⟨b,e,q⟩:=x; exact ⟨b,e,q.keeps ho hd hs⟩
theorem gQ.keeps {h h':Heap} {ks:List IK} {a d:Addr} {o:Obj} {es ep} (x:gQ prog w h ks a) (ho:h.get? d=some o) (hd:o.data=.dict es ep) (hs:LC d h h'):gQ prog w h' ks a:=by
 obtain ⟨o',items,n,ho',hc,hd',hi⟩:=x
 have hne:a≠d:=by
  rintro rfl
  obtain rfl:o'=o:=Lu (ho'.symm.trans ho)
  rw [hd] at hd'; exact nomatch hd'
 exact ⟨o',items,n,(hs.2 a hne).trans ho',hc,hd',Paired.mapP hi fun _ _ z=>z.keeps ho hd hs⟩
theorem gQ.typeIs {s:Shared} {ks:List IK} {a:Addr} (x:gQ prog w s.heap ks a):s.TypeIs (.ref a) "tuple":=let ⟨o,_,_,ho,hc,_⟩:=x; ⟨o,ho,hc⟩
theorem ux {h:Heap} {ks:List IA} {a:Addr} (x:Um (cY prog w) h ks a):∃ items,h.IsTuple a items:=let ⟨o,items,n,h1,h2,h3,_⟩:=x; ⟨items,o,h1,h2,n,h3⟩
variable {A:Around} {E:Value->Shared->Prop} {s:Shared}
theorem Er {k:IK} {v:Value} {Q:Int->Shared->Prop} (hu:A.units < cLine) (hk:cH prog w s.heap k v) (h:Q (lj k) { s with toks:=s.toks + m7 k }):wpAny (model prog w) A (pyHash v) Q E s:=by
 cases k with
 | inl a=>exact (cY prog w).pyHash (k:=a) hk h
 | inr as=>
  obtain ⟨b,rfl,q⟩:=hk
  exact wpAny_pyHash_tuple (knd:=cY prog w) hu q h
theorem FT {a:IA} {v:Value} {b:Addr} {items:Array Value} {Q:Bool->Shared->Prop} (hu:A.units < cLine) (hk:n9 a v=true) (ht:s.heap.IsTuple b items) (h:Q false s):wpAny (model prog w) A (SU v (.ref b)) Q E s:=by
 rcases dH hk with ⟨rfl,rfl⟩ | ⟨i,t,rfl,rfl⟩ | ⟨c,rfl,rfl⟩
 ·exact LQ.none_tuple ht hu _ _ _ _ h
 ·exact LQ.int_tuple _ _ ht hu _ _ _ _ h
 ·exact LQ.bool_tuple _ ht hu _ _ _ _ h
theorem FU {a:IA} {v:Value} {b:Addr} {items:Array Value} {Q:Bool->Shared->Prop} (hu:A.units < cLine) (hk:n9 a v=true) (ht:s.heap.IsTuple b items) (h:Q false s):wpAny (model prog w) A (SU (.ref b) v) Q E s:=by
 rcases dH hk with ⟨rfl,rfl⟩ | ⟨i,t,rfl,rfl⟩ | ⟨c,rfl,rfl⟩
 ·exact LQ.tuple_none ht hu _ _ _ _ h
 ·exact LQ.tuple_int _ _ ht hu _ _ _ _ h
 ·exact LQ.tuple_bool _ ht hu _ _ _ _ h
theorem Ii {x y:IK} {u v:Value} {Q:Bool->Shared->Prop} (hu:A.units < cLine) (hx:cH prog w s.heap x u) (hy:cH prog w s.heap y v) (h:Q (decide (x=y)) s):wpAny (model prog w) A (SU u v) Q E s:=by
 cases x with
 | inl a=>cases y with
  | inl b=>
   refine (cY prog w).eqBool (a:=a) (b:=b) hx hy ?_
   rw [show decide (a=b)=decide ((NQ a:IK)=NQ b) from decide_eq_decide.mpr ⟨fun e=>by rw [e],fun e=>To e⟩]
   exact h
  | inr bs=>
   obtain ⟨c,rfl,q⟩:=hy
   obtain ⟨items,ht⟩:=ux q
   refine FT hu hx ht ?_
   rw [decide_eq_false (fun e=>nomatch e)] at h
   exact h
 | inr as=>cases y with
  | inl b=>
   obtain ⟨c,rfl,q⟩:=hx
   obtain ⟨items,ht⟩:=ux q
   refine FU hu hy ht ?_
   rw [decide_eq_false (fun e=>nomatch e)] at h
   exact h
  | inr bs=>
   obtain ⟨c,rfl,q⟩:=hx
   obtain ⟨d,rfl,q'⟩:=hy
   refine wpAny_eqBool_tuple (knd:=cY prog w) hu q q' ?_
   rw [show decide (as=bs)=decide ((M6 as:IK)=M6 bs) from decide_eq_decide.mpr ⟨fun e=>by rw [e],fun e=>OV e⟩]
   exact h
noncomputable def zq (ks:List IK):Nat:=(ks.map m7).sum + 1
theorem Es {ks:List IK} {a:Addr} {Q:Int->Shared->Prop} (hu:A.units + 1 < cLine) (hk:gQ prog w s.heap ks a) (h:Q (yC ks) { s with toks:=s.toks + zq ks }):
  wpAny (model prog w) A (pyHash (.ref a)) Q E s:=by
 have hT:=hk.typeIs
 obtain ⟨o,items,n,ho,_,hd,hi⟩:=hk
 have hu0:A.units < cLine:=by omega
 unfold pyHash
 first | unfold pyHashByItsType | skip
 first | refine La (wpAny_cRoomFor_or (.inr hu0) ?_) | skip
 refine La (MQ hT Pn.lookup ?_)
 show wpAny _ _ (if (some (Sv "tuple.__hash__") == some MB)=true then _ else _) Q E s
 rw [if_neg (by rw [Rb]; exact Lq)]
 refine La (MQ hT Pn.lookup ?_)
 show wpAny _ _ (OG (.ref a) "__hash__" _ >>= _) Q E s
 refine La (NO hT Pn (LY Pn hT F.entry_tuple_hash ?_ (F.args_tuple_hash_1 _)))
 show wpAny _ _ (QE (.ref a) >>= _) _ _ s
 refine La (Qw ho hd ?_)
 refine La ?_
 rw [<-Ox]
 refine PC _
  (fun cI (b:Array Int) s'=>∃ done left,ks=done++left/\Paired (cH prog w s.heap) left cI/\b.toList=done.map lj/\s'={ s with toks:=s.toks + (done.map m7).sum })
  _ ?_ ?_ _ _ ⟨[],ks,rfl,hi,rfl,rfl⟩
 ·rintro x cI b s' ⟨done,left,rfl,hl,hb,rfl⟩
  cases hl with
  | @cons k _ ks' _ h1 hl'=>
   refine La (Er (k:=k) hu h1 ?_)
   have e:(done.map m7).sum + m7 k=((done++[k]).map m7).sum:=by simp
   first
    | exact Lc ⟨done++[k],ks',by simp,hl',by simp [hb],by rw [<-e]; simp [QG]⟩
    | exact La (Lc (Lc ⟨done++[k],ks',by simp,hl',by simp [hb],by rw [<-e]; simp [QG]⟩))
 ·rintro b s' ⟨done,left,rfl,hl,hb,rfl⟩
  cases hl
  rw [NK] at h
  show wpAny _ _ (retInt (MV b.toList)) _ _ _
  rw [hb]
  refine PZ ?_
  show wpAny _ _ (if (decide (-(2:Int) ^ 63<=MV (done.map lj)) && decide (MV (done.map lj) < 2 ^ 63))=true then _ else _) Q E _
  unfold yC Ul zq at h
  by_cases hr:(decide (-(2:Int) ^ 63<=MV (done.map lj)) && decide (MV (done.map lj) < 2 ^ 63))=true
  ·rw [if_pos hr]
   rw [if_pos hr] at h
   exact Lc (by simpa [QG] using h)
  ·rw [if_neg hr]
   rw [if_neg hr] at h
   exact La (NC (Lc (by simpa [QG] using h)))
theorem Cl {x y:List IK} {a b:Addr} {P:Fin->Shared->Prop} (hu:A.units < cLine) (hx:gQ prog w s.heap x a) (hy:gQ prog w s.heap y b) (h:P (.done (.ret (.bool (decide (x=y))))) s):
  wpAny (model prog w) A (Builtin.«tuple.__eq__» ⟨[.ref a,.ref b],[]⟩) P E s:=by
 have hTb:=hy.typeIs
 obtain ⟨oa,xs,na,hoa,_,hda,hia⟩:=hx
 obtain ⟨ob,ys,nb,hob,_,hdb,hib⟩:=hy
 show wpAny _ _ (Uo (.ref b) (.type "tuple") >>= _) _ _ s
 refine La (Ni hTb PH ?_)
 simp only [OU,Mt,if_false]
 refine La (Qw hoa hda ?_)
 refine La (Qw hob hdb ?_)
 refine La ?_
 refine PC _
  (fun cI r s'=>r.1=none/\s'=s/\∃ x' y' xs' ys',cI=List.zip xs' ys'/\Paired (cH prog w s.heap) x' xs'/\Paired (cH prog w s.heap) y' ys'/\decide (x'=y')=decide (x=y)/\(xs'.length == ys'.length)=(xs.size == ys.size))
  _ ?_ ?_ _ _ ⟨rfl,rfl,x,y,xs.toList,ys.toList,rfl,hia,hib,rfl,by simp⟩
 ·rintro ⟨u,v⟩ cI r s' ⟨hr,rfl,x',y',xs',ys',hz,hx',hy',hdec,hlen⟩
  cases hx' with
  | nil=>simp at hz
  | @cons k1 u' x'' xs'' h1 hx''=>
   cases hy' with
   | nil=>simp at hz
   | @cons k2 v' y'' ys'' h2 hy''=>
    simp only [MR,Rr,Prod.mk.injEq] at hz
    obtain ⟨⟨rfl,rfl⟩,rfl⟩:=hz
    refine La (Ii (x:=k1) (y:=k2) hu h1 h2 ?_)
    by_cases hk:k1=k2
    ·subst hk
     rw [decide_eq_true rfl]
     simp only [OU,Mt,if_false]
     refine Lc ⟨rfl,rfl,x'',y'',xs'',ys'',rfl,hx'',hy'',?_,by simpa using hlen⟩
     rw [<-hdec]
     by_cases hxy:x''=y''
     ·simp [hxy]
     ·simp [hxy]
    ·rw [decide_eq_false hk]
     simp only [Bool.not_false,if_true]
     have hf:decide (x=y)=false:=by rw [<-hdec]; simp [hk]
     rw [hf] at h
     exact La (Lc (Lc (Lc h)))
 ·rintro ⟨r1,r2⟩ s' ⟨hr,rfl,x',y',xs',ys',hz,hx',hy',hdec,hlen⟩
  simp only at hr
  subst hr
  refine Lc ?_
  have hfin:(xs.size == ys.size)=decide (x=y):=by
   rw [<-hdec,<-hlen]
   cases hx' with
   | nil=>
    cases hy' with
    | nil=>simp
    | cons _ _=>simp
   | cons _ _=>
    cases hy' with
    | nil=>simp
    | cons _ _=>simp at hz
  show P (.done (.ret (.bool (xs.size == ys.size)))) s'
  rw [hfin]; exact h
theorem Et {x y:List IK} {a b:Addr} {Q:Bool->Shared->Prop} (hu:A.units + 1 < cLine) (hx:gQ prog w s.heap x a) (hy:gQ prog w s.heap y b) (h:Q (decide (x=y)) s):
  wpAny (model prog w) A (eqBool (.ref a) (.ref b)) Q E s:=by
 unfold eqBool
 try with_reducible refine Mx ?_
 show wpAny _ _ (if (LL a == LL b)=true then _ else _) Q E s
 by_cases hab:(LL a == LL b)=true
 ·rw [if_pos hab]
  have e:a=b:=by have:=eq_of_beq hab; injection this
  subst e
  obtain rfl:=hx.inj hy
  exact La (NC (Lc (by simpa using h)))
 ·rw [if_neg hab]
  exact La (wpAny_richCompare_same_room (op:=.Eq) hx.typeIs hy.typeIs P0
   (LY P0 hx.typeIs F.entry_tuple_eq (Cl hu hx hy ⟨_,rfl,(fun e=>nomatch e),Nt h⟩) (F.args_tuple_eq_2 _ _)) (by omega))
theorem AU {n:Nat} {ks:List IA} {a:Addr} {Q:Bool->Shared->Prop} (hk:Um (cY prog w) s.heap ks a) (h:Q true s):wpAny (model prog w) A (Rt (n + 1) (.ref a)) Q E s:=by
 have hT:=hk.typeIs
 obtain ⟨o,items,_,ho,_,hd,hi⟩:=hk
 unfold Rt
 refine La (MQ hT P0.lookup ?_)
 show wpAny _ _ (Uo (.ref a) (.type "tuple") >>= _) _ _ s
 refine La (Ni hT PH ?_)
 simp only [OU,Mt,if_false]
 refine La (Mv ho hd ?_)
 refine La ?_
 show wpAny _ _ (forIn items _ _) _ _ s
 rw [<-Ox]
 refine PC _ (fun cI r s'=>r.1=none/\s'=s/\∀ v∈cI,carriedByValue v=true) _ ?_ ?_ _ _ ⟨rfl,rfl,hi.byValue⟩
 ·rintro v cI r s' ⟨hr,rfl,hall⟩
  rw [Ta _ (hall v Lj)]
  refine La (Lc ?_)
  simp only [OU,Mt,if_false]
  exact Lc ⟨rfl,rfl,fun u hu'=>hall u (Ln _ hu')⟩
 ·rintro ⟨r1,r2⟩ s' ⟨hr,rfl,_⟩
  simp only at hr
  subst hr
  exact Lc h
theorem FV {ks:List IK} {a:Addr} {Q:Bool->Shared->Prop} (hk:gQ prog w s.heap ks a) (h:Q true s):wpAny (model prog w) A (Rt 8 (.ref a)) Q E s:=by
 have hT:=hk.typeIs
 obtain ⟨o,items,n,ho,_,hd,hi⟩:=hk
 unfold Rt
 refine La (MQ hT P0.lookup ?_)
 show wpAny _ _ (Uo (.ref a) (.type "tuple") >>= _) _ _ s
 refine La (Ni hT PH ?_)
 simp only [OU,Mt,if_false]
 refine La (Mv ho hd ?_)
 refine La ?_
 show wpAny _ _ (forIn items _ _) _ _ s
 rw [<-Ox]
 refine PC _ (fun cI r s'=>r.1=none/\s'=s/\∃ ks,Paired (cH prog w s.heap) ks cI) _ ?_ ?_ _ _ ⟨rfl,rfl,ks,hi⟩
 ·rintro v cI r s' ⟨hr,rfl,ks,hall⟩
  cases hall with
  | @cons k _ ks' _ h1 hl=>
   refine La ?_
   have fin:wpAny (model prog w) A (Rt 7 v) (fun b s2=>b=true/\s2=s') E s':=by
    cases k with
    | inl a'=>rw [Ta _ ((cY prog w).byValue _ _ h1)]; exact Lc ⟨rfl,rfl⟩
    | inr as=>obtain ⟨b,rfl,q⟩:=h1; exact AU (n:=6) q ⟨rfl,rfl⟩
   refine M1 fin (fun b s2 ⟨e1,e2⟩=>?_) fun _ _ x=>x
   subst e1 e2
   simp only [OU,Mt,if_false]
   exact Lc ⟨rfl,rfl,ks',hl⟩
 ·rintro ⟨r1,r2⟩ s' ⟨hr,rfl,_⟩
  simp only at hr
  subst hr
  exact Lc h
end
noncomputable def qg (prog:Program) (w:World):HeapKind prog w (List IK) where
 is:=gQ prog w
 hash:=yC
 draws:=zq
 room:=fun A=>A.units + 1 < cLine
 inj:=fun hx hy=>hx.inj hy
 keeps:=fun x ho hd hs=>x.keeps ho hd hs
 pyHash:=fun hu hk h=>Es hu hk h
 eqBool:=fun hu hx hy h=>Et hu hx hy h
 quiet:=fun hk h=>FV hk h
noncomputable def DA (a:Addr) (kvs:List (IA×V)) (h:Heap):Prop:=kvs.length<=Lr/\(a == Na)=false/\∃ (P:Program) (w:World) (vs:List (IA×Value)),KV kvs vs/\h.DictOf (cY P w) a vs
noncomputable def ZX:List (List IK×Addr×V)->List (List IK×Addr×Value)->Prop:=Paired fun z x=>z.1=x.1/\z.2.1=x.2.1/\aI z.2.2 x.2.2
noncomputable def DB (a:Addr) (zs:List (List IK×Addr×V)) (h:Heap):Prop:=zs.length<=Lr/\(a == Na)=false/\∃ xs:List (List IK×Addr×Value),ZX zs xs/\
 ∃ o es ep,h.get? a=some o/\o.ExactDict/\o.data=.dict es ep/\es.toList=xs.map (fun x=>⟨yC x.1,.ref x.2.1,x.2.2⟩)/\(xs.map (·.1)).Nodup
noncomputable def dA (a:Addr) (kvs:List (IA×V)):HO:=.ext (DA a kvs)
noncomputable def dB (a:Addr) (zs:List (List IK×Addr×V)):HO:=.ext (DB a zs)
noncomputable def atZ (zs:List (List IK×Addr×V)) (k:List IK):Option V:=(zs.find? fun p=>decide (p.1=k)).map (·.2.2)
noncomputable def Dx (H:Hp) (a:Addr) (s:Bool) (f:MK->Option V) (n:Nat):Prop:=
 (s=false/\∃ kvs,H a=some (dA a kvs)/\(∀ k,fR kvs k=f (.inl k))/\kvs.length<=n)\/
 (s=true/\∃ zs,H a=some (dB a zs)/\(∀ z∈zs,cW H (.ref z.2.1) (.inr z.1))/\(∀ k,atZ zs k=f (.inr k))/\zs.length<=n)
section
variable {H H':Hp} {a b:Addr} {s:Bool} {f g:MK->Option V} {n m:Nat}
theorem Dx.ext (h:Dx H a s f n):∃ φ,H a=some (.ext φ):=by
 rcases h with ⟨_,kvs,e,_⟩ | ⟨_,zs,e,_⟩
 ·exact ⟨_,e⟩
 ·exact ⟨_,e⟩
theorem Dx.keep (h:Dx H a s f n) (e:H' a=H a) (kp:fq H H'):Dx H' a s f n:=by
 rcases h with ⟨hs,kvs,h1,h2⟩ | ⟨hs,zs,h1,h2,h3⟩
 ·exact .inl ⟨hs,kvs,e.trans h1,h2⟩
 ·exact .inr ⟨hs,zs,e.trans h1,fun z hz=>(h2 z hz).keep kp,h3⟩
theorem Dx.same (h:Dx H a s f n) (q:am H H'):Dx H' a s f n:=by
 obtain ⟨φ,h1⟩:=h.ext
 exact h.keep ((q _ _ h1).trans h1.symm) q.keep
theorem Dx.le (h:Dx H a s f n) (e:n<=m):Dx H a s f m:=by
 rcases h with ⟨hs,kvs,h1,h2,h3⟩ | ⟨hs,zs,h1,h2,h3,h4⟩
 ·exact .inl ⟨hs,kvs,h1,h2,LS h3 e⟩
 ·exact .inr ⟨hs,zs,h1,h2,h3,LS h4 e⟩
theorem Dx.congr (h:Dx H a s f n) (e:∀ k,f k=g k):Dx H a s g n:=by
 rcases h with ⟨hs,kvs,h1,h2,h3⟩ | ⟨hs,zs,h1,h2,h3,h4⟩
 ·exact .inl ⟨hs,kvs,h1,fun k=>(h2 k).trans (e _),h3⟩
 ·exact .inr ⟨hs,zs,h1,h2,fun k=>(h3 k).trans (e _),h4⟩
end
end
noncomputable def zr:TE:=fun _ H Q=>∃ s,∀ p H',H p=none->am H H'->Dx H' p s (fun _=>none) 0->Q (.ref p) H'
theorem Ij {σ:St} {H:Hp} {Q:VK} (s:Bool) (h:∀ p H',H p=none->am H H'->Dx H' p s (fun _=>none) 0->Q (.ref p) H'):zr σ H Q:=⟨s,h⟩
noncomputable def Cm:R2:=fun x y H Q=>∃ a s f n k v,x=.ref a/\Dx H a s f n/\cW H y k/\ma k=s/\f k=some v/\Q v H
noncomputable def og (f:MK->Option V) (k:MK) (v:V):MK->Option V:=fun j=>if j=k then some v else f j
noncomputable def zt:V->List V->Hp->VK->Prop:=fun x ys H Q=>∃ a s f n k y v,x=.ref a/\ys=[y,v]/\Dx H a s f n/\cW H y k/\ma k=s/\n < Lr/\(∀ u,f k=some u->Q u H)/\
 (f k=none->∀ H',Off a H H'->Dx H' a s (og f k v) (n + 1)->Q v H')
noncomputable def tXM (r:V->List V->Hp->VK->Prop) (to:TE) (t:TA):TE:=fun σ H Q=>to σ H fun x H1=>(∃ a s f n,x=.ref a/\Dx H1 a s f n)/\t σ H1 fun ys H2=>r x ys H2 Q
section
variable {σ:St} {H:Hp} {Q:VK} {a:Addr} {s:Bool} {f:MK->Option V} {n:Nat} {k:MK} {y v:V}
theorem JW (d:Dx H a s f n) (hk:cW H y k) (hs:ma k=s) (e:f k=some v) (h:Q v H):Cm (.ref a) y H Q:=⟨a,s,f,n,k,v,rfl,d,hk,hs,e,h⟩
theorem Ik (d:Dx H a s f n) (hk:cW H y k) (hs:ma k=s) (hn:n < Lr) (h1:∀ u,f k=some u->Q u H) (h2:f k=none->∀ H',Off a H H'->Dx H' a s (og f k v) (n + 1)->Q v H'):zt (.ref a) [y,v] H Q:=⟨a,s,f,n,k,y,v,rfl,rfl,d,hk,hs,hn,h1,h2⟩
theorem K8 {r:V->List V->Hp->VK->Prop} {to:TE} {t:TA} (h:to σ H fun x H1=>(∃ a s f n,x=.ref a/\Dx H1 a s f n)/\t σ H1 fun ys H2=>r x ys H2 Q):tXM r to t σ H Q:=h
end
section
variable {α:Type} [DecidableEq α] {ks:List α} {i:Nat} {k:α}
noncomputable def gR (ks:List α) (i:Nat):α->Option V:=fun k=>if k∈ks.take i then some (.int (ks.idxOf k:Nat)) else none
theorem Cn (hk:ks[i]?=some k) (h:k∈ks.take i) (j:α):gR ks i j=gR ks (i + 1) j:=by
 unfold gR
 rw [cX hk]
 by_cases q:j∈ks.take i
 ·rw [if_pos q,if_pos (Nm _ q)]
 ·rw [if_neg q,if_neg]
  intro z
  rcases LU.mp z with z | z
  ·exact q z
  ·rw [Lg.mp z] at q; exact q h
theorem Co (hk:ks[i]?=some k) (h:k∉ks.take i) (j:α):(if j=k then some (V.int (i:Nat)) else gR ks i j)=gR ks (i + 1) j:=by
 unfold gR
 rw [cX hk]
 by_cases q:j=k
 ·subst q
  rw [if_pos rfl,if_pos (by simp),xm hk h]
 ·rw [if_neg q]
  by_cases z:j∈ks.take i
  ·rw [if_pos z,if_pos (Nm _ z)]
  ·rw [if_neg z,if_neg]
   intro w
   rcases LU.mp w with w | w
   ·exact z w
   ·exact q (Lg.mp w)
theorem xo (h:k∈ks.take i):gR ks i k=some (.int (ks.idxOf k:Nat)):=if_pos h
theorem AV (h:k∉ks.take i):gR ks i k=none:=if_neg h
theorem AW (k:α):none=gR ks 0 k:=(if_neg (by simp)).symm
theorem zu (hk:ks[i]?=some k):(be ks).take (i + 1)=(be ks).take i++[ks.idxOf k]:=cX (by unfold be; rw [Lx,hk]; rfl)
end
end L2
section
namespace KM
noncomputable def aR:Nat->Nat
 | 0=>1
 | n + 1=>aR n * (n + 1)
noncomputable def choose:Nat->Nat->Nat
 | _,0=>1
 | 0,_ + 1=>0
 | n + 1,k + 1=>choose n k + choose n (k + 1)
theorem ij:∀ n,0 < aR n
 | 0=>by decide
 | n + 1=>Tt (ij n) (SV n)
theorem jE (n:Nat):choose n 0=1:=by cases n <;> rfl
theorem md:∀ (n k:Nat),n < k->choose n k=0
 | _,0,h=>absurd h (Oy _)
 | 0,_ + 1,_=>rfl
 | n + 1,k + 1,h=>by rw [choose,md n k (by omega),md n (k + 1) (by omega)]
theorem sf:∀ n,choose n n=1
 | 0=>rfl
 | n + 1=>by rw [choose,sf n,md n (n + 1) (by omega)]
theorem gS:∀ (n k:Nat),k<=n->choose n k * (aR k * aR (n - k))=aR n
 | n,0,_=>by rw [jE,aR,SW,Tu,Tu]
 | 0,_ + 1,h=>absurd h (by omega)
 | n + 1,k + 1,h=>by
  rw [choose,Tv]
  by_cases hk:k=n
  ·subst hk
   rw [sf,md k (k + 1) (by omega),Rc]
   simp [aR]
  ·have hk':k + 1<=n:=by omega
   have e1:=gS n k (by omega)
   have e2:=gS n (k + 1) hk'
   have s1:n + 1 - (k + 1)=n - k:=by omega
   have s2:n - k=(n - (k + 1)) + 1:=by omega
   rw [s1]
   have a1:choose n k * (aR (k + 1) * aR (n - k))=(k + 1) * aR n:=by
    rw [<-e1,aR]
    simp only [MX,Nh,NR]
   have a2:choose n (k + 1) * (aR (k + 1) * aR (n - k))=(n - k) * aR n:=by
    have s3:aR (n - k)=aR (n - (k + 1)) * (n - k):=by
     rw [s2,aR,<-s2]
    rw [<-e2,s3]
    simp only [MX,Nh,NR]
   rw [a1,a2,<-Tv,aR,Nh]
   congr 1
   omega
theorem AX (n k:Nat) (h:k + 1<=n):choose n k * (n - k) / (k + 1)=choose n (k + 1):=by
 have e1:=gS n k (by omega)
 have e2:=gS n (k + 1) h
 have s2:n - k=(n - (k + 1)) + 1:=by omega
 have p:0 < aR k * aR (n - (k + 1)):=Tt (ij _) (ij _)
 have q:choose n k * (n - k)=choose n (k + 1) * (k + 1):=by
  have:choose n k * (n - k) * (aR k * aR (n - (k + 1)))=choose n (k + 1) * (k + 1) * (aR k * aR (n - (k + 1))):=by
   have l:choose n k * (n - k) * (aR k * aR (n - (k + 1)))=aR n:=by
    rw [<-e1,show aR (n - k)=aR (n - (k + 1)) * (n - k) by rw [s2,aR,<-s2]]
    simp only [MX,Nh,NR]
   have r:choose n (k + 1) * (k + 1) * (aR k * aR (n - (k + 1)))=aR n:=by
    rw [<-e2,aR]
    simp only [MX,Nh,NR]
   rw [l,r]
  exact QH p this
 rw [q,Nat.mul_div_cancel _ (SV k)]
noncomputable def cv:Nat->List Nat->Nat
 | _,[]=>1
 | n,s :: r=>choose n s * cv (n - s) r
theorem uy:∀ (ss:List Nat) (n:Nat),ss.sum<=n->cv n ss * ((ss.map aR).foldr (· * ·) 1 * aR (n - ss.sum))=aR n
 | [],n,_=>by simp [cv]
 | s :: r,n,h=>by
  rw [LN] at h
  have ih:=uy r (n - s) (by omega)
  have c:=gS n s (by omega)
  rw [cv,LA,List.foldr_cons,LN,<-c,<-ih,Nat.sub_sub]
  simp only [MX,Nh,NR]
end KM
end
section
namespace KM
noncomputable def rc (room:List Nat) (w:List Nat):List Nat:=(Lv room.length).filter fun j=>decide (w.count j < room.getD j 0)
noncomputable def grow (room:List Nat) (ws:List (List Nat)):List (List Nat):=ws.flatMap fun w=>(rc room w).map fun j=>w++[j]
noncomputable def cq (room:List Nat):Nat->List (List Nat)
 | 0=>[[]]
 | i + 1=>grow room (cq room i)
noncomputable def words:Nat->List Nat->Nat
 | 0,_=>1
 | n + 1,r=>(((Lv r.length).filter fun j=>decide (0 < r.getD j 0)).map fun j=>words n (r.set j (r.getD j 0 - 1))).sum
noncomputable def left (room w:List Nat):List Nat:=(Lv room.length).map fun j=>room.getD j 0 - w.count j
theorem ll (room w:List Nat):(left room w).length=room.length:=by unfold left; rw [Lf,Mz]
theorem zv (room w:List Nat) (j:Nat) (h:j < room.length):(left room w).getD j 0=room.getD j 0 - w.count j:=by
 unfold left
 rw [Lo,Lx,MJ h]
 rfl
theorem Eu (room w:List Nat) (j:Nat) (h:j < room.length):left room (w++[j])=(left room w).set j ((left room w).getD j 0 - 1):=by
 apply Nu
 intro k
 by_cases hk:k < room.length
 ·have e1:(left room (w++[j]))[k]?=some (room.getD k 0 - (w++[j]).count k):=by
   unfold left
   rw [Lx,MJ hk]
   rfl
  rw [e1,Oa,zv room w j h,ll]
  by_cases hjk:j=k
  ·subst hjk
   rw [if_pos rfl,if_pos h,QR]
   simp
   omega
  ·rw [if_neg hjk]
   unfold left
   rw [Lx,MJ hk,QR]
   simp [Up,hjk]
 ·rw [LJ (by rw [ll]; omega),LJ (by rw [Nb,ll]; omega)]
theorem Cp (room w:List Nat):rc room w=(Lv (left room w).length).filter fun j=>decide (0 < (left room w).getD j 0):=by
 unfold rc
 rw [ll]
 apply List.filter_congr
 intro j hj
 rw [MY] at hj
 rw [zv room w j hj]
 by_cases h:w.count j < room.getD j 0
 ·simp [h]
  omega
 ·simp [h]
  omega
noncomputable def re (room:List Nat):Nat->List (List Nat)->List (List Nat)
 | 0,ws=>ws
 | n + 1,ws=>re room n (grow room ws)
theorem mO (room:List Nat):∀ n i,re room n (cq room i)=cq room (i + n)
 | 0,i=>rfl
 | n + 1,i=>by
  rw [re,show grow room (cq room i)=cq room (i + 1) from rfl,mO room n (i + 1)]
  congr 1
  omega
theorem mh (f:List Nat->Nat) (room:List Nat):∀ ws:List (List Nat),((grow room ws).map f).sum=(ws.map fun w=>((rc room w).map fun j=>f (w++[j])).sum).sum
 | []=>rfl
 | w :: r=>by
  have ih:=mh f room r
  unfold grow at ih ⊢
  rw [QS,LI,MP,ih,LA,LN,NY]
  rfl
theorem qh (room:List Nat):∀ (n:Nat) (ws:List (List Nat)),(re room n ws).length=(ws.map fun w=>words n (left room w)).sum
 | 0,ws=>by
  rw [re]
  induction ws with
  | nil=>rfl
  | cons w r ih=>rw [LP,ih,LA,LN,words]; omega
 | n + 1,ws=>by
  rw [re,qh room n,mh]
  congr 1
  apply M9
  intro w _
  rw [words,Cp]
  congr 1
  apply M9
  intro j hj
  have hj':=NJ.mp hj
  rw [MY,ll] at hj'
  rw [Eu room w j hj'.1]
noncomputable def cx (r:List Nat):Nat:=(r.map aR).foldr (· * ·) 1
theorem gy (a:Nat) (r:List Nat):cx (a :: r)=aR a * cx r:=rfl
theorem xp:∀ r,0 < cx r
 | []=>by decide
 | a :: r=>Tt (ij a) (xp r)
theorem xq:∀ (r:List Nat) (j:Nat),j < r.length->0 < r.getD j 0->cx r=cx (r.set j (r.getD j 0 - 1)) * r.getD j 0
 | [],j,h,_=>absurd h (by simp)
 | a :: r,0,_,h=>by
  have h':0 < a:=h
  show cx (a :: r)=cx ((a - 1) :: r) * a
  rw [gy,gy]
  obtain ⟨b,rfl⟩:∃ b,a=b + 1:=⟨a - 1,by omega⟩
  rw [show b + 1 - 1=b by omega,aR]
  simp only [MX,Nh,NR]
 | a :: r,j + 1,h,hp=>by
  have ih:=xq r j (by simpa using h) hp
  show cx (a :: r)=cx (a :: r.set j (r.getD j 0 - 1)) * r.getD j 0
  rw [gy,gy,ih]
  simp only [MX,Nh,NR]
theorem wg:∀ (r:List Nat) (j:Nat),j < r.length->0 < r.getD j 0->(r.set j (r.getD j 0 - 1)).sum + 1=r.sum
 | [],j,h,_=>absurd h (by simp)
 | a :: r,0,_,h=>by
  have h':0 < a:=h
  show ((a - 1) :: r).sum + 1=(a :: r).sum
  rw [LN,LN]
  omega
 | a :: r,j + 1,h,hp=>by
  have ih:=wg r j (by simpa using h) hp
  show (a :: r.set j (r.getD j 0 - 1)).sum + 1=(a :: r).sum
  rw [LN,LN]
  omega
theorem wj (c:Nat) (f:Nat->Nat):∀ l:List Nat,(l.map f).sum * c=(l.map fun j=>f j * c).sum
 | []=>by simp
 | a :: r=>by rw [LA,LN,Tv,wj c f r,LA,LN]
theorem zw (r:List Nat):(((Lv r.length).filter fun j=>decide (0 < r.getD j 0)).map fun j=>r.getD j 0).sum=r.sum:=by
 have go:∀ (l:List Nat) (g:Nat->Nat),((l.filter fun j=>decide (0 < g j)).map g).sum=(l.map g).sum:=by
  intro l g
  induction l with
  | nil=>rfl
  | cons a t ih=>
   rw [Nl]
   by_cases h:0 < g a
   ·rw [if_pos (by simpa using h),LA,LN,ih,LA,LN]
   ·rw [if_neg (by simpa using h),ih,LA,LN]
    omega
 rw [go]
 congr 1
 apply Nu
 intro k
 rw [Lx]
 by_cases hk:k < r.length
 ·rw [MJ hk,Ld hk]
  show some (r.getD k 0)=some r[k]
  rw [Lo,Ld hk]
  rfl
 ·rw [LJ (by simpa using hk),LJ (by simpa using hk)]
  rfl
theorem oh:∀ (n:Nat) (r:List Nat),r.sum=n->words n r * cx r=aR n
 | 0,r,h=>by
  have:cx r=1:=by
   induction r with
   | nil=>rfl
   | cons a t ih=>
    rw [LN] at h
    have ha:a=0:=by omega
    subst ha
    rw [gy,ih (by omega)]
    rfl
  rw [words,this]
  rfl
 | n + 1,r,h=>by
  rw [words,wj]
  have e:((Lv r.length).filter fun j=>decide (0 < r.getD j 0)).map (fun j=>words n (r.set j (r.getD j 0 - 1)) * cx r)=((Lv r.length).filter fun j=>decide (0 < r.getD j 0)).map (fun j=>r.getD j 0 * aR n):=by
   apply M9
   intro j hj
   have hj':=NJ.mp hj
   rw [MY] at hj'
   have hp:0 < r.getD j 0:=of_decide_eq_true hj'.2
   rw [xq r j hj'.1 hp,<-MX,oh n _ (by have:=wg r j hj'.1 hp; omega),Nh]
  rw [e,<-wj,zw,h,aR,Nh]
theorem FW (room:List Nat):left room []=room:=by
 apply Nu
 intro k
 unfold left
 rw [Lx]
 by_cases hk:k < room.length
 ·rw [MJ hk,Ld hk]
  show some (room.getD k 0 - ([]:List Nat).count k)=some room[k]
  rw [Lo,Ld hk]
  simp
 ·rw [LJ (by simpa using hk),LJ (by simpa using hk)]
  rfl
theorem Ev (room:List Nat):(cq room room.sum).length * cx room=aR room.sum:=by
 have e:=mO room room.sum 0
 rw [Nat.zero_add] at e
 rw [<-e,qh]
 show (List.map (fun w=>words room.sum (left room w)) [[]]).sum * cx room=aR room.sum
 rw [LA,OJ,LN,OM,FW,Nat.add_zero]
 exact oh _ _ rfl
structure Ho (room:List Nat) (i:Nat) (w:List Nat):Prop where
 len:w.length=i
 all:∀ j∈w,j < room.length
 cnt:∀ j,j < room.length->w.count j<=room.getD j 0
theorem gT (room:List Nat):∀ i,∀ w∈cq room i,Ho room i w
 | 0,w,h=>by
  have:w=[]:=by simpa [cq] using h
  subst this
  exact ⟨rfl,fun _ h=>(nomatch h),fun j _=>by simp⟩
 | i + 1,w,h=>by
  rw [cq,grow,TU] at h
  obtain ⟨v,hv,h⟩:=h
  obtain ⟨j,hj,rfl⟩:=Nz.mp h
  have b:=gT room i v hv
  have hj':=NJ.mp hj
  rw [MY] at hj'
  have hc:v.count j < room.getD j 0:=of_decide_eq_true hj'.2
  refine ⟨by rw [Lz,b.len]; rfl,fun k hk=>?_,fun k hk=>?_⟩
  ·rcases LU.mp hk with hk | hk
   ·exact b.all k hk
   ·rw [Lg] at hk
    omega
  ·rw [QR]
   by_cases e:j=k
   ·subst e
    rw [List.count_singleton_self]
    omega
   ·have:=b.cnt k hk
    rw [List.count_singleton,if_neg (by simpa using e)]
    omega
theorem uz:∀ (n:Nat) (w:List Nat),(∀ j∈w,j < n)->((Lv n).map fun j=>w.count j).sum=w.length
 | n,[] , _=>by
  have:((Lv n).map fun j=>([]:List Nat).count j)=(Lv n).map fun _=>0:=by simp
  rw [this]
  have go:∀ m,((Lv m).map fun _=>0).sum=0:=by
   intro m
   induction m with
   | zero=>rfl
   | succ m ih=>rw [N2,LI,MP,ih]; rfl
  exact go n
 | n,a :: w,h=>by
  have ih:=uz n w fun j hj=>h j (Ln _ hj)
  have ha:a < n:=h a Lj
  rw [LP,<-ih]
  clear ih h
  have go:∀ m,((Lv m).map fun j=>(a :: w).count j).sum=((Lv m).map fun j=>w.count j).sum + (if a < m then 1 else 0):=by
   intro m
   induction m with
   | zero=>simp
   | succ m ih=>
    rw [N2,LI,MP,LI,MP,ih]
    simp only [LA,OJ,LN,OM,Up]
    by_cases e:a=m
    ·subst e
     rw [if_neg (M5 a),if_pos (MS a),if_pos (beq_self_eq_true a)]
     omega
    ·rw [if_neg (show ¬ (a == m)=true by simpa using e)]
     by_cases hl:a < m
     ·rw [if_pos hl,if_pos (show a < m + 1 by omega)]
      omega
     ·rw [if_neg hl,if_neg (show ¬ a < m + 1 by omega)]
      omega
  rw [go,if_pos ha]
theorem oj (room:List Nat):(Lv room.length).map (fun j=>room.getD j 0)=room:=by
 apply Nu
 intro k
 rw [Lx]
 by_cases hk:k < room.length
 ·rw [MJ hk,Ld hk]
  show some (room.getD k 0)=some room[k]
  rw [Lo,Ld hk]
  rfl
 ·rw [LJ (by simpa using hk),LJ (by simpa using hk)]
  rfl
end KM
end
section
namespace KM
theorem Ew (n k:Nat):choose n k<=2 ^ n:=by
 induction n generalizing k with
 | zero=>cases k <;> simp [choose]
 | succ n ih=>
  cases k with
  | zero=>rw [jE]; exact Nat.one_le_two_pow
  | succ k=>
   rw [choose,Nat.pow_succ]
   have:=ih k
   have:=ih (k + 1)
   omega
theorem zx {n i:Nat} (h:i + 1<=n):((choose n i:Nat):Int) * ((n:Int) - (0 + (i:Int))) / (0 + (i:Int) + 1)=((choose n (i + 1):Nat):Int):=by
 have e1:(n:Int) - (0 + (i:Int))=((n - i:Nat):Int):=by omega
 have e2:(0 + (i:Int) + 1)=((i + 1:Nat):Int):=by omega
 rw [e1,e2,<-Ru,<-TV,AX n i h]
theorem sg (n:Nat) (ss:List Nat) (h:ss.sum<=n):cv n ss * cx (ss++[n - ss.sum])=aR n:=by
 have e:cx (ss++[n - ss.sum])=(ss.map aR).foldr (· * ·) 1 * aR (n - ss.sum):=by
  generalize n - ss.sum=k
  induction ss with
  | nil=>simp [cx]
  | cons a r ih=>
   have hr:r.sum<=n:=by rw [LN] at h; omega
   show aR a * cx (r++[k])=aR a * (r.map aR).foldr (· * ·) 1 * aR k
   rw [ih hr,MX]
 rw [e]
 exact uy ss n h
theorem mP {n:Nat} {ss:List Nat} (h:ss.sum<=n):(cq (ss++[n - ss.sum]) n).length=cv n ss:=by
 have e1:=sg n ss h
 have hs:(ss++[n - ss.sum]).sum=n:=by
  rw [MP,LN,OM]
  omega
 have e2:=Ev (ss++[n - ss.sum])
 rw [hs] at e2
 exact QH (xp _) (e2.trans e1.symm)
theorem words_pos (n:Nat) (r:List Nat) (h:r.sum=n):0 < words n r:=by
 have e:=oh n r h
 have f:=ij n
 rcases O8 (words n r) with z | z
 ·rw [z,Nat.zero_mul] at e
  omega
 ·exact z
theorem FX {room w:List Nat} {i:Nat} (h:Ho room i w):(left room w).sum + i=room.sum:=by
 have go:∀ m,m<=room.length->((Lv m).map fun j=>room.getD j 0 - w.count j).sum + ((Lv m).map fun j=>w.count j).sum=((Lv m).map fun j=>room.getD j 0).sum:=by
  intro m
  induction m with
  | zero=>intro _; rfl
  | succ m ih=>
   intro hm
   have:=ih (by omega)
   have:=h.cnt m (by omega)
   simp only [N2,LI,MP,LA,OJ,LN,OM] at *
   omega
 have e:=go room.length (Le _)
 rw [uz room.length w h.all,oj,h.len] at e
 exact e
theorem FY {room:List Nat} {i:Nat} (h:i<=room.sum):(cq room i).length<=(cq room room.sum).length:=by
 have e:=mO room (room.sum - i) i
 rw [show i + (room.sum - i)=room.sum by omega] at e
 rw [<-e,qh]
 have hb:=gT room i
 generalize cq room i=ws at hb
 induction ws with
 | nil=>exact Me _
 | cons w r ih=>
  rw [LA,LN,LP]
  have:=ih fun v hv=>hb v (Ln _ hv)
  have:=words_pos (room.sum - i) (left room w) (by have:=FX (hb w Lj); omega)
  omega
theorem JX:∀ (rs:List Nat) (m:Nat),rs.foldl (fun f s=>f / aR s) (m * cx rs)=m
 | [],m=>by simp [cx]
 | a :: r,m=>by
  rw [Uc,gy]
  have e:m * (aR a * cx r) / aR a=m * cx r:=by
   rw [<-MX,Nh m,MX,Nat.mul_div_cancel_left _ (ij a)]
  rw [e]
  exact JX r m
noncomputable def eX (room w:List Nat) (k:Nat):List Nat:=(Lv k).filter fun j=>decide (w.count j < room.getD j 0)
theorem si (room w:List Nat):eX room w room.length=rc room w:=rfl
theorem zy (room w:List Nat) (k:Nat):eX room w (k + 1)=eX room w k++(if w.count k < room.getD k 0 then [k] else []):=by
 unfold eX
 rw [N2,Qx]
 by_cases h:w.count k < room.getD k 0
 ·rw [if_pos h,Ph (by simpa using h)]
  rfl
 ·rw [if_neg h,Pi (by simpa using h)]
  rfl
theorem Ex (room:List Nat) (ws:List (List Nat)) (i:Nat) (w:List Nat) (h:ws[i]?=some w):grow room (ws.take (i + 1))=grow room (ws.take i)++(rc room w).map fun j=>w++[j]:=by
 unfold grow
 rw [MW,h,Qc]
 simp
theorem zz (room:List Nat) (ws:List (List Nat)) (i:Nat):(grow room (ws.take i)).length<=(grow room ws).length:=by
 have:grow room ws=grow room (ws.take i)++grow room (ws.drop i):=by
  unfold grow
  rw [<-Qc,OL]
 rw [this,Lz]
 omega
end KM
end
namespace L2
open PySem PyProof.Rows
section
variable {K:Fg} {vs:List V} {H:Hp} {Q:VK} {E:XK}
noncomputable def Ey:V->Bool
 | .int _=>true
 | _=>false
noncomputable def cn:V->Int->Int->Bool
 | .int i,lo,hi=>decide (lo<=i) && decide (i<=hi)
 | _,_,_=>false
noncomputable def eO (K:Fg) (H:Hp) (x:V):Prop:=∃ t b1 b2,fi K H x t/\Mg K t (.type "int")=some b1/\Mg K t (.type "bool")=some b2/\(b1 && !b2)=Ey x
theorem eO.int {K:Fg} {H:Hp} (i:Int):eO K H (.int i):=⟨_,_,_,.int i,AR K,ze K,rfl⟩
theorem Ez {K:Fg} {H H':Hp} {x:V} {t:Value} (h:fi K H x t) (s:am H H'):fi K H' x t:=by
 cases h with
 | non=>exact .non
 | bl b=>exact .bl b
 | int i=>exact .int i
 | str x=>exact .str x
 | flt x=>exact .flt x
 | lst e=>exact .lst (s _ _ e)
 | frz e=>exact .frz (s _ _ e)
 | tup e=>exact .tup (s _ _ e)
 | dK e=>exact .dK (s _ _ e)
 | dT e=>exact .dT (s _ _ e)
 | ins e cl ha hn htk hm=>exact .ins (s _ _ e) cl ha hn htk hm
theorem eO.same {K:Fg} {H H':Hp} {x:V} (h:eO K H x) (s:am H H'):eO K H' x:=by
 obtain ⟨t,b1,b2,ty,r⟩:=h
 exact ⟨t,b1,b2,Ez ty s,r⟩
noncomputable def Il (K:Fg):Sp:=fun vs H Q _=>∃ x,vs=[x]/\eO K H x/\Q (.bl (Ey x)) H
noncomputable abbrev gU (K:Fg):Sp:=Il K
noncomputable def uA (K:Fg):TS:=(aJ (lV (tCB (lh K) (aa (ab 0) (aa (tC (.ty "int")) af))) (yv (tCB (lh K) (aa (ab 0) (aa (tC (.ty "bool")) af))))))
theorem AY (h:gU K vs H Q E):uA K { nx:=fun _ H'=>Q .non H',rt:=Q } (start ["thing"] vs) H:=by
 obtain ⟨x,rfl,⟨t,b1,b2,ty,k1,k2,e⟩,q⟩:=h
 refine ⟨_,rfl,_,_,_,_,rfl,ty,k1,_,rfl,iG (fun c=>?_) (fun c=>?_)⟩
 ·subst c
  refine ⟨_,rfl,_,_,_,_,rfl,ty,k2,_,rfl,?_⟩
  rw [<-e,Pw] at q
  exact q
 ·subst c
  rw [<-e,Qe] at q
  exact q
noncomputable def FZ (K:Fg):Sp:=fun vs H Q _=>∃ x lo hi,vs=[x,.int lo,.int hi]/\eO K H x/\Q (.bl (cn x lo hi)) H
noncomputable abbrev dI (K:Fg):Sp:=FZ K
noncomputable def sj (K:Fg):TS:=(aJ (lV (au (gU K) [] E0 (aa (ab 0) af)) (DP (rI0 fun i j=>.bl (decide (i<=j))) (rI0 fun i j=>.bl (decide (i<=j))) (ab 1) (ab 0) (ab 2))))
theorem zA (h:dI K vs H Q E):sj K { nx:=fun _ H'=>Q .non H',rt:=Q } (start ["thing","least","most"] vs) H:=by
 obtain ⟨x,lo,hi,rfl,pl,q⟩:=h
 refine ⟨_,rfl,x,rfl,pl,_,rfl,iG (fun c=>?_) (fun c=>?_)⟩
 ·cases x with
  | int i=>
   refine ⟨_,rfl,_,rfl,_,_,rfl,rfl,_,rfl,iG (fun d=>?_) (fun d=>?_)⟩
   ·refine ⟨_,rfl,_,_,rfl,rfl,?_⟩
    have q':Q (.bl (decide (lo<=i) && decide (i<=hi))) H:=q
    rw [d,Pw] at q'
    exact q'
   ·have q':Q (.bl (decide (lo<=i) && decide (i<=hi))) H:=q
    rw [d,Qe] at q'
    exact q'
  | _=>cases c
 ·cases x with
  | int i=>cases c
  | _=>exact q
noncomputable def mQ (zs:List V):Int:=(zs.map fun z=>match z with | .int i=>i | _=>0).sum
noncomputable def Hq (x:V) (zs:List V):Bool:=match x with
 | .int c=>(decide (0<=c) && decide (c<=12)) && (decide (1<=zs.length) && decide (zs.length<=5)) && zs.all (fun z=>cn z 0 c) && decide (mQ zs<=c)
 | _=>false
theorem wk {zs:List V} {lo hi:Int} (h:zs.all (fun z=>cn z lo hi)=true):∃ ns:List Int,zs=ns.map V.int/\mQ zs=ns.sum:=by
 induction zs with
 | nil=>exact ⟨[],rfl,rfl⟩
 | cons z r ih=>
  rw [OS,MG] at h
  obtain ⟨ns,e,es⟩:=ih h.2
  cases z with
  | int i=>
   refine ⟨i :: ns,by rw [e]; rfl,?_⟩
   show i + mQ r=(i :: ns).sum
   rw [es,LN]
  | _=>exact absurd h.1 Lq
noncomputable def Hr (K:Fg) (H:Hp) (y:V) (zs:Option (List V)):Prop:=match zs with
 | some zs=>∃ a,y=.ref a/\(H a=some (.lst zs)\/∃ o,H a=some (.frz o (.lst zs)))/\zs.length<=1000/\∀ z∈zs,eO K H z
 | none=>∃ t,fi K H y t/\Mg K t (.type "list")=some false
noncomputable def uB (x:V):Option (List V)->Bool
 | some zs=>Hq x zs
 | none=>false
noncomputable def JY (K:Fg):Sp:=fun vs H Q _=>∃ x y zs,vs=[x,y]/\eO K H x/\Hr K H y zs/\∀ H',am H H'->Q (.bl (uB x zs)) H'
noncomputable abbrev ol (K:Fg):Sp:=JY K
noncomputable def xr (K:Fg):TS:=(ar (bz (fZ (tB (au (dI K) [] E0 (aa (ab 0) (aa (tC (.int 0)) (aa (tC (.int 12)) af)))))) (aJ (tC (.bl false))) bf)
 (ar (bz (tOr (fZ (tB (tCB (lh K) (aa (ab 1) (aa (tC (.ty "list")) af))))) (fZ (tB (au (dI K) [] E0 (aa (tCB (b9 K) (aa (ab 1) af)) (aa (tC (.int 1)) (aa (tC (.int 5)) af))))))) (aJ (tC (.bl false))) bf)
 (aJ (lV (tCB (Cf K) (aa (bV (dg K (ab 1)) (fun _ _ _ _=>(ao 0)) (fun _ _ _ _=>bH) (fun _ _ _ _=>(au (dI K) [] E0 (aa (ab 0) (aa (tC (.int 0)) (aa (ab 1) af))))) [none,some 0]) af)) (tOp (rI0 fun i j=>.bl (decide (i<=j))) (tCB (sV K) (aa (ab 1) af)) (ab 0))))))
theorem Cq (h:ol K vs H Q E):xr K { nx:=fun _ H'=>Q .non H',rt:=Q } (start ["cards","sizes"] vs) H:=by
 obtain ⟨x,y,zs,rfl,px,hz,q⟩:=h
 refine ⟨_,rfl,x,0,12,rfl,px,_,rfl,iG (fun c=>?_) (fun c=>?_)⟩
 ·
  have e:uB x zs=false:=by
   have c':cn x 0 12=false:=by simpa using c
   cases zs with
   | none=>rfl
   | some zs=>
    cases x with
    | int i=>
     show ((decide (0<=i) && decide (i<=12)) && (decide (1<=zs.length) && decide (zs.length<=5)) && zs.all (fun z=>cn z 0 i) && decide (mQ zs<=i))=false
     rw [show (decide (0<=i) && decide (i<=12))=false from c']
     rfl
    | _=>rfl
  have:=q H (am.refl H)
  rw [e] at this
  exact this
 ·have c':cn x 0 12=true:=by simpa using c
  cases x with
  | int i=>
   cases zs with
   | none=>
    obtain ⟨t,ty,k⟩:=hz
    refine ⟨_,rfl,_,_,_,_,rfl,ty,k,_,rfl,p0 (p0 ?_)⟩
    exact q H (am.refl H)
   | some zs=>
    obtain ⟨a,rfl,ha,hlen,hp⟩:=hz
    have hS:SqL K H a zs:=ha.elim (fun h=>.inl (.inl h)) (fun h=>.inl (.inr h))
    have ty:fi K H (.ref a) (.type "list"):=ha.elim (fun h=>.lst h) (fun ⟨o,h⟩=>.frz h)
    refine ⟨_,rfl,_,_,_,_,rfl,ty,r0 K,_,rfl,nP ?_⟩
    refine ⟨_,rfl,a,_,rfl,.inl hS,_,1,5,rfl,eO.int _,_,rfl,iG (fun d=>?_) (fun d=>?_)⟩
    ·have e:uB (.int i) (some zs)=false:=by
      have d0:cn (.int (zs.length:Int)) 1 5=false:=by simpa using d
      have d':(decide ((1:Int)<=(zs.length:Int)) && decide ((zs.length:Int)<=5))=false:=d0
      show ((decide (0<=i) && decide (i<=12)) && (decide (1<=zs.length) && decide (zs.length<=5)) && zs.all (fun z=>cn z 0 i) && decide (mQ zs<=i))=false
      have e1:decide (1<=zs.length)=decide ((1:Int)<=(zs.length:Int)):=decide_eq_decide.mpr (by omega)
      have e2:decide (zs.length<=5)=decide ((zs.length:Int)<=5):=decide_eq_decide.mpr (by omega)
      rw [e1,e2,d',Qg]
      rfl
     have:=q H (am.refl H)
     rw [e] at this
     exact this
    ·have d0:cn (.int (zs.length:Int)) 1 5=true:=by simpa using d
     have d':(decide ((1:Int)<=(zs.length:Int)) && decide ((zs.length:Int)<=5))=true:=d0
     have e0:uB (.int i) (some zs)=(zs.all (fun z=>cn z 0 i) && decide (mQ zs<=i)):=by
      show ((decide (0<=i) && decide (i<=12)) && (decide (1<=zs.length) && decide (zs.length<=5)) && zs.all (fun z=>cn z 0 i) && decide (mQ zs<=i))=_
      have e1:decide (1<=zs.length)=decide ((1:Int)<=(zs.length:Int)):=decide_eq_decide.mpr (by omega)
      have e2:decide (zs.length<=5)=decide ((zs.length:Int)<=5):=decide_eq_decide.mpr (by omega)
      rw [e1,e2,d',show (decide (0<=i) && decide (i<=12))=true from c',Pw,Pw]
     rw [e0] at q
     refine ⟨_,rfl,a,rfl,⟨_,hS⟩,fun p hp'=>xh (K:=K) (a:=a) (xs:=zs) (fun k acc H2=>acc=((zs.take k).map fun z=>cn z 0 i).map V.bl/\am H H2/\H2 p=some (.lst acc)) ⟨rfl,aW hp' _,ay⟩ ?_ ?_ (small hlen) ?_ ?_⟩
     ·rintro k acc H2 hk ⟨rfl,s2,e2⟩
      exact ⟨e2,by rw [Lf,Lf,MF]; omega⟩
     ·rintro k acc H2 hk ⟨rfl,s2,e2⟩
      exact s2.seq hS
     ·rintro _ _ _ _ k z acc H2 hzk ⟨rfl,s2,e2⟩
      refine ⟨_,rfl,_,rfl,z,0,i,rfl,(hp z (Lw hzk)).same s2,e2,?_,s2.upd hp' _,ay⟩
      rw [MW,hzk,LI,LI]
      rfl
     ·rintro acc H2 ⟨rfl,s2,e2⟩
      rw [LZ] at e2
      refine ⟨p,_,rfl,SqL.of e2,_,rfl,?_⟩
      have ea:(zs.map fun z=>cn z 0 i).all id=zs.all fun z=>cn z 0 i:=by
       rw [PV]
       rfl
      rw [ea]
      refine iG (fun g=>?_) (fun g=>?_)
      ·obtain ⟨ns,en,es⟩:=wk g
       rw [g,Pw,es] at q
       refine ⟨_,rfl,a,ns,rfl,by rw [<-en]; exact s2.seq hS,_,rfl,_,_,rfl,rfl,?_⟩
       exact q H2 s2
      ·rw [g,Qe] at q
       exact q H2 s2
  | _=>exact absurd c' Lq
noncomputable def EA:Sp:=fun vs H Q _=>∃ n k:Nat,vs=[.int n,.int k]/\k<=n/\n<=50/\Q (.int (KM.choose n k:Nat)) H
noncomputable abbrev om (K:Fg):Sp:=EA
noncomputable def xt (K:Fg):TS:=(ar (aH (tC (.int 1)) (ao 2))
 (ar (dk (eN (aa (ab 1) af)) (ao 3) (aH (tOp (rI eU fun i j=>.int (i / j)) (tOp (rI NM fun i j=>.int (i * j)) (ab 2) (tOp (rI0 fun i j=>.int (i - j)) (ab 0) (ab 3))) (tOp (rI0 fun i j=>.int (i + j)) (ab 3) (tC (.int 1)))) (ao 2)))
 (aJ (ab 2))))
theorem Cr (h:om K vs H Q E):xt K { nx:=fun _ H'=>Q .non H',rt:=Q } (start ["many","taken","ways","step"] vs) H:=by
 obtain ⟨n,k,rfl,hk,hn,q⟩:=h
 refine ⟨_,rfl,_,rfl,by omega,by omega,pX (lo:=0) (n:=((k:Nat):Int).toNat) (fun i σ H2=>∃ st,σ=[some (.int n),some (.int k),some (.int (KM.choose n i:Nat)),st]/\H2=H) ⟨none,by rw [KM.jE]; rfl,rfl⟩ ?_ ?_⟩
 ·rintro i σ H2 hi ⟨st,rfl,rfl⟩
  have hi':i + 1<=n:=by omega
  refine ⟨_,rfl,_,rfl,_,rfl,_,_,rfl,rfl,_,_,rfl,rfl,.of_right (intBits_le_64 (by omega) (by omega)),_,rfl,_,_,rfl,rfl,_,_,rfl,rfl,⟨by omega,by omega⟩,?_⟩
  dsimp only
  rw [KM.zx hi']
  exact ⟨_,rfl,rfl⟩
 ·rintro σ H2 ⟨st,rfl,rfl⟩
  refine ⟨_,rfl,?_⟩
  rw [show ((k:Nat):Int).toNat=k by omega]
  exact q
structure qj (c:Nat) (ss:List Nat):Prop where
 c12:c<=12
 l1:1<=ss.length
 l5:ss.length<=5
 sum:ss.sum<=c
noncomputable def av (ss:List Nat):List V:=ss.map fun (s:Nat)=>V.int ((s:Nat):Int)
theorem gd (ss:List Nat):av ss=(ss.map fun (s:Nat)=>((s:Nat):Int)).map V.int:=by unfold av; rw [NY]; rfl
theorem bg (ss:List Nat):(av ss).length=ss.length:=Lf _
theorem ik:∀ ss:List Nat,(ss.map fun (s:Nat)=>((s:Nat):Int)).sum=((ss.sum:Nat):Int)
 | []=>rfl
 | a :: r=>by rw [LA,LN,LN,ik r]; omega
theorem iK:∀ {ss:List Nat} {s:Nat},s∈ss->s<=ss.sum
 | a :: r,s,h=>by
  rw [LN]
  rcases Lh.mp h with rfl | h
  ·omega
  ·have:=iK h
   omega
theorem F0 {c:Nat} {ss:List Nat} (p:qj c ss):Hq (.int c) (av ss)=true:=by
 have h1:=p.c12
 have h2:=p.l1
 have h3:=p.l5
 have h4:=p.sum
 show ((decide ((0:Int)<=(c:Int)) && decide ((c:Int)<=12)) && (decide (1<=(av ss).length) && decide ((av ss).length<=5)) && (av ss).all (fun z=>cn z 0 c) && decide (mQ (av ss)<=c))=true
 have e1:(av ss).all (fun z=>cn z 0 c)=true:=by
  unfold av
  rw [PV,TJ]
  intro s hs
  have:=iK hs
  show (decide ((0:Int)<=(s:Int)) && decide ((s:Int)<=(c:Int)))=true
  rw [decide_eq_true (by omega),decide_eq_true (by omega)]
  rfl
 have e2:mQ (av ss)=((ss.sum:Nat):Int):=by
  rw [<-ik]
  unfold mQ av
  rw [NY]
  rfl
 rw [e1,e2,bg,decide_eq_true (by omega),decide_eq_true (by omega),decide_eq_true h2,decide_eq_true h3,decide_eq_true (by omega)]
 rfl
theorem F1 {K:Fg} {H:Hp} {a:Addr} {ss:List Nat} (h:H a=some (.lst (av ss))) (hl:ss.length<=1000):Hr K H (.ref a) (some (av ss)):=
 ⟨a,rfl,.inl h,by rw [bg]; exact hl,fun z hz=>by
  obtain ⟨s,_,rfl⟩:=Nz.mp hz
  exact eO.int _⟩
noncomputable def KH (K:Fg):Sp:=fun vs H Q _=>∃ (c:Nat) (a:Addr) (ss:List Nat),vs=[.int c,.ref a]/\H a=some (.lst (av ss))/\qj c ss/\∀ H',am H H'->Q (.int (KM.cv c ss:Nat)) H'
noncomputable abbrev mR (K:Fg):Sp:=KH K
noncomputable def uC (K:Fg):TS:=(ar (bz (fZ (tB (au (ol K) [] E0 (aa (ab 0) (aa (ab 1) af))))) pS bf)
 (ar (aH (tC (.int 1)) (ao 2))
 (ar (aH (ab 0) (ao 3))
 (ar (dk (dg K (ab 1)) (ao 4) (ar (aH (tOp (rI NM fun i j=>.int (i * j)) (ab 2) (au (om K) [] E0 (aa (ab 3) (aa (ab 4) af)))) (ao 2))
 (aH (tOp (rI0 fun i j=>.int (i - j)) (ab 3) (ab 4)) (ao 3))))
 (aJ (ab 2))))))
theorem AZ (h:mR K vs H Q E):uC K { nx:=fun _ H'=>Q .non H',rt:=Q } (start ["cards","sizes","many","left","size"] vs) H:=by
 obtain ⟨c,a,ss,rfl,ha,p,q⟩:=h
 have h12:=p.c12
 have h5:=p.l5
 refine ⟨_,rfl,_,rfl,_,_,some (av ss),rfl,eO.int _,F1 ha (by omega),fun H1 s1=>⟨_,rfl,?_⟩⟩
 rw [show uB (.int c) (some (av ss))=true from F0 p]
 refine nP ?_
 refine ⟨_,rfl,?_⟩
 refine ⟨_,rfl,a,rfl,⟨_,SqL.of (s1 _ _ ha)⟩,sP (K:=K) (a:=a) (xs:=av ss) (fun i σ H2=>∃ (m l:Nat) (st:Option V),σ=[some (.int c),some (.ref a),some (.int m),some (.int l),st]/\H2=H1/\m * KM.cv l (ss.drop i)=KM.cv c ss/\(ss.drop i).sum<=l/\l<=12)
  ⟨1,c,none,rfl,rfl,by rw [Tu]; rfl,p.sum,h12⟩ (fun i σ H2 _ ⟨_,_,_,_,e,_⟩=>by subst e; exact SqL.of (s1 _ _ ha)) ?_ ?_⟩
 ·rintro i x σ H2 hx ⟨m,l,st,rfl,rfl,hm,hs,hl⟩
  obtain ⟨z,hz,rfl⟩:∃ z:Nat,ss[i]?=some z/\x=.int (z:Int):=by
   unfold av at hx
   rw [Lx] at hx
   cases e:ss[i]? with
   | none=>rw [e] at hx; cases hx
   | some z=>rw [e] at hx; exact ⟨z,rfl,(Lu hx).symm⟩
  have hd:ss.drop i=z :: ss.drop (i + 1):=by
   obtain ⟨h1,h2⟩:=Li.mp hz
   rw [QW h1,h2]
  rw [hd,LN] at hs
  rw [hd,KM.cv] at hm
  have hle:=KM.Ew l z
  have h2:(2:Nat) ^ l<=2 ^ 12:=Nat.pow_le_pow_right (by decide) hl
  refine ⟨_,rfl,_,rfl,_,rfl,l,z,rfl,by omega,by omega,_,_,rfl,rfl,.of_right (intBits_le_64 (by omega) (by omega)),?_⟩
  refine ⟨_,rfl,_,rfl,_,_,rfl,rfl,m * KM.choose l z,l - z,some (.int (z:Int)),?_,rfl,by rw [MX]; exact hm,by omega,by omega⟩
  have e1:((m:Nat):Int) * ((KM.choose l z:Nat):Int)=((m * KM.choose l z:Nat):Int):=(Ru _ _).symm
  have e2:((l:Nat):Int) - ((z:Nat):Int)=((l - z:Nat):Int):=by omega
  dsimp only
  rw [e1,e2]
  rfl
 ·rintro σ H2 ⟨m,l,st,rfl,rfl,hm,hs,hl⟩
  refine ⟨_,rfl,?_⟩
  rw [bg,List.drop_length,KM.cv,Nat.mul_one] at hm
  rw [hm]
  exact q _ s1
noncomputable def bx (H:Hp) (p:Addr) (ws:List (List Nat)):Prop:=∃ rs:List Addr,H p=some (.lst (rs.map V.ref))/\Paired (fun (a:Addr) (w:List Nat)=>H a=some (.tup (av w))) rs ws
theorem jF {H H':Hp} {rs:List Addr} {ws:List (List Nat)} (h:Paired (fun (a:Addr) (w:List Nat)=>H a=some (.tup (av w))) rs ws) (s:∀ a xs,H a=some (.tup xs)->H' a=some (.tup xs)):Paired (fun (a:Addr) (w:List Nat)=>H' a=some (.tup (av w))) rs ws:=
 Paired.mapP h fun a w e=>s _ _ e
theorem kC {α β:Type} {F:α->β->Prop}:∀ {l:List α} {m:List β} {i:Nat} {a:α},Paired F l m->l[i]?=some a->∃ b,m[i]?=some b/\F a b
 | _,_,_,_,.nil,h=>by simp at h
 | _,_,0,_,.cons r _,h=>by simp at h; subst h; exact ⟨_,rfl,r⟩
 | _,_,i + 1,a,.cons _ t,h=>by
  obtain ⟨b,h1,h2⟩:=kC (i:=i) (a:=a) t (by simpa using h)
  exact ⟨b,by simpa using h1,h2⟩
theorem on {α β:Type} {F:α->β->Prop}:∀ {l:List α} {m:List β} {l':List α} {m':List β},Paired F l m->Paired F l' m'->Paired F (l++l') (m++m')
 | _,_,_,_,.nil,h=>h
 | _,_,_,_,.cons r t,h=>.cons r (on t h)
theorem Cs (w:List Nat) (j:Nat):(av w).countP (fun z=>eqV z (.int (j:Int)))=w.count j:=by
 unfold av
 rw [List.countP_map,List.count_eq_countP]
 congr 1
 funext k
 show ((k:Int) == (j:Int))=(k == j)
 by_cases h:k=j
 ·subst h; simp
 ·rw [beq_eq_false_iff_ne.mpr h,beq_eq_false_iff_ne.mpr (by omega)]
theorem EB (w:List Nat):(av w).all gu=true:=by unfold av; rw [PV]; simp [gu]
noncomputable def JZ (K:Fg):Sp:=fun vs H Q _=>∃ (b r:Addr) (ws:List (List Nat)) (room:List Nat),vs=[.ref b,.ref r]/\bx H b ws/\H r=some (.lst (av room))/\room.length<=6/\(KM.grow room ws).length<=2000/\(∀ w∈ws,w.length<=12)/\
 ∀ (p:Addr) (H':Hp),am H H'->H p=none->bx H' p (KM.grow room ws)->Q (.ref p) H'
noncomputable abbrev im (K:Fg):Sp:=JZ K
noncomputable def mi (K:Fg):TS:=(ar (aH (B8 af) (ao 2))
 (ar (dk (dg K (ab 0)) (ao 3) (dk (qX bL K (aa (ab 1) af)) (jn K 2 (cc (ao 4) (cc (ao 5) jm))) (bz (aY (tOp (rI0 fun i j=>.bl (decide (i < j))) (tBT Bw (ab 3) (aa (ab 4) af)) (ab 5))) (dR (tBM K "list" fK (ab 2) (aa (tOp (Hh K) (ab 3) (FD (aa (ab 4) af))) af))) bf)))
 (aJ (ab 2))))
theorem sZ (h:im K vs H Q E):mi K { nx:=fun _ H'=>Q .non H',rt:=Q } (start ["begun","room","longer","deal","who","most"] vs) H:=by
 obtain ⟨b,r,ws,room,rfl,⟨rs,hb,hp⟩,hrm,h6,h2000,h12,q⟩:=h
 refine ⟨(by show 0<=Lr; decide),fun l hl=>?_⟩
 have sl:am H (upd H l (.lst [])):=aW hl _
 have hrl:ws.length=rs.length:=hp.length.symm
 refine ⟨_,rfl,b,rfl,⟨_,SqL.of (sl _ _ hb)⟩,sP (K:=K) (a:=b) (xs:=rs.map V.ref)
  (fun i σ H2=>∃ d wh mo:Option V,σ=[some (.ref b),some (.ref r),some (.ref l),d,wh,mo]/\am H H2/\bx H2 l (KM.grow room (ws.take i)))
  ⟨none,none,none,rfl,sl,[],by rw [ay]; rfl,.nil⟩ (fun i σ H2 _ ⟨_,_,_,_,s2,_⟩=>SqL.of (s2 _ _ hb)) ?_ ?_⟩
 ·rintro i x σ H2 hx ⟨d,wh,mo,rfl,s2,D2⟩
  obtain ⟨a,ea,rfl⟩:∃ a,rs[i]?=some a/\x=.ref a:=by
   rw [Lx] at hx
   cases e:rs[i]? with
   | none=>rw [e] at hx; cases hx
   | some a=>rw [e] at hx; exact ⟨a,rfl,(Lu hx).symm⟩
  obtain ⟨u,hu,ha⟩:=kC hp ea
  have hu12:=h12 u (Lw hu)
  have gt:=KM.Ex room ws i u hu
  have gle:=KM.zz room ws (i + 1)
  refine ⟨_,rfl,r,_,rfl,SqL.of (s2 _ _ hrm),zf (S:=bL) (K:=K) (a:=r) (xs:=av room)
   (fun j σ H3=>∃ wh mo:Option V,σ=[some (.ref b),some (.ref r),some (.ref l),some (.ref a),wh,mo]/\am H H3/\bx H3 l (KM.grow room (ws.take i)++(KM.eX room u j).map fun k=>u++[k]))
   ⟨wh,mo,rfl,s2,by simpa [KM.eX] using D2⟩ (fun j σ H3 _ ⟨_,_,_,s3,_⟩=>SqL.of (s3 _ _ hrm)) ?_ ?_⟩
  ·rintro j x T σ H3 hxj ⟨wh',mo',rfl,s3,qs,hq,pq⟩ hT
   obtain ⟨m,hm,rfl⟩:∃ m:Nat,room[j]?=some m/\x=.int (m:Int):=by
    unfold av at hxj
    rw [Lx] at hxj
    cases e:room[j]? with
    | none=>rw [e] at hxj; cases hxj
    | some z=>rw [e] at hxj; exact ⟨z,rfl,(Lu hxj).symm⟩
   have hmD:room.getD j 0=m:=by rw [Lo,hm]; rfl
   have hjl:j < room.length:=(Li.mp hm).1
   have nT:H T=none:=s3.free hT
   have s4:am H (upd H3 T (.tup [.int (j:Int),.int (m:Int)])):=s3.upd nT _
   have a4:(upd H3 T (.tup [.int (j:Int),.int (m:Int)])) a=some (.tup (av u)):=s4 _ _ ha
   have nlT:l≠T:=aS hq hT
   have q4:(upd H3 T (.tup [.int (j:Int),.int (m:Int)])) l=some (.lst (qs.map V.ref)):=by rw [aP nlT]; exact hq
   have p4:Paired (fun (a:Addr) (w:List Nat)=>(upd H3 T (.tup [.int (j:Int),.int (m:Int)])) a=some (.tup (av w))) qs (KM.grow room (ws.take i)++(KM.eX room u j).map fun k=>u++[k]):=
    jF pq fun a xs e=>by rw [aP (aS e hT)]; exact e
   have hqlen:qs.length<=2000:=by
    have e1:=pq.length
    rw [Lz,Lf] at e1
    rw [gt,Lz,Lf,<-KM.si] at gle
    have e3:(KM.eX room u j).length<=(KM.eX room u room.length).length:=by
     unfold KM.eX
     have:(Lv j).Sublist (Lv room.length):=List.range_sublist.mpr (by omega)
     exact (this.filter _).length_le
    omega
   have t4:(upd H3 T (.tup [.int (j:Int),.int (m:Int)])) T=some (.tup [.int (j:Int),.int (m:Int)]):=ay
   generalize upd H3 T (.tup [.int (j:Int),.int (m:Int)])=H4 at s4 a4 q4 p4 t4
   have ns:=KM.zy room u j
   rw [hmD] at ns
   refine ⟨T,_,rfl,SqT.of t4,rfl,_,_,rfl,_,_,rfl,rfl,?_⟩
   refine ⟨_,rfl,⟨a,_,rfl,a4⟩,_,rfl,a,_,_,rfl,rfl,a4,rfl,EB u,_,rfl,_,_,rfl,rfl,_,rfl,?_⟩
   rw [Cs]
   refine iG (fun c=>?_) (fun c=>?_)
   ·have c':u.count j < m:=by have:=of_decide_eq_true c; omega
    rw [if_pos c'] at ns
    have fin:∀ (d:Addr) (H5:Hp),am H4 H5->H5 d=some (.tup (av (u++[j])))->∃ (l':Addr) (xs:List V) (y:V),V.ref l=.ref l'/\[V.ref d]=[y]/\H5 l'=some (.lst xs)/\xs.length < Lr/\
      ∃ wh mo:Option V,([some (.ref b),some (.ref r),some (.ref l),some (.ref a),some (.int (j:Int)),some (.int (m:Int))]:L2.St)=[some (.ref b),some (.ref r),some (.ref l),some (.ref a),wh,mo]/\am H (upd H5 l' (.lst (xs++[y])))/\
       bx (upd H5 l' (.lst (xs++[y]))) l (KM.grow room (ws.take i)++(KM.eX room u (j + 1)).map fun k=>u++[k]):=by
     intro d H5 s5 e5
     refine ⟨l,_,_,rfl,rfl,s5 _ _ q4,Ov (by rw [Lf]; exact hqlen) (by decide),_,_,rfl,(s4.trans s5).upd hl _,qs++[d],by rw [ay,LI]; rfl,?_⟩
     have keep:∀ (c:Addr) (xs:List V),H5 c=some (.tup xs)->upd H5 l (.lst (qs.map V.ref++[V.ref d])) c=some (.tup xs):=fun c xs e=>by
      rw [aP (Hd e (s5 _ _ q4) (by intro z; cases z))]
      exact e
     rw [ns,LI,<-N8]
     exact on (jF (jF p4 fun c xs e=>s5 _ _ e) keep) (.cons (keep _ _ e5) .nil)
    refine ⟨_,rfl,.inl ⟨rfl,_,SqL.of q4⟩,_,rfl,_,rfl,(by show 1<=Lr; decide),fun t ht=>?_⟩
    have st:am H4 (upd H4 t (.tup [.int (j:Int)])):=aW ht _
    have ej:av (u++[j])=av u++[.int (j:Int)]:=by unfold av; rw [LI]; rfl
    refine ⟨a,t,av u,[.int (j:Int)],rfl,rfl,SqT.of (st _ _ a4),SqT.of ay,small (by rw [bg]; show u.length + 1<=1000; omega),fun e0=>?_,fun _ e0=>(nomatch e0),fun _ _ p hp'=>?_⟩
    ·exact fin t _ st (by rw [ay,ej,e0]; rfl)
    ·exact fin p _ (st.trans (aW hp' _)) (by rw [ay,ej])
   ·have c':¬ u.count j < m:=by have:=of_decide_eq_false c; omega
    rw [if_neg c',NK] at ns
    exact ⟨_,_,rfl,s4,qs,q4,by rw [ns]; exact p4⟩
  ·rintro σ H3 ⟨wh',mo',rfl,s3,D3⟩
   rw [bg,KM.si,<-gt] at D3
   exact ⟨_,_,_,rfl,s3,D3⟩
 ·rintro σ H2 ⟨d,wh,mo,rfl,s2,D2⟩
  refine ⟨_,rfl,?_⟩
  rw [Lf,<-hrl,LZ] at D2
  exact q l H2 s2 hl D2
noncomputable def Im (K:Fg):Sp:=fun vs H Q _=>∃ (c:Nat) (a:Addr) (ss:List Nat),vs=[.int c,.ref a]/\H a=some (.lst (av ss))/\qj c ss/\KM.cv c ss<=2000/\
 ∀ (p:Addr) (H':Hp),am H H'->H p=none->bx H' p (KM.cq (ss++[c - ss.sum]) c)->Q (.ref p) H'
theorem iC (ss:List Nat) (c:Nat):av ss++[.int (c:Int)]=av (ss++[c]):=by unfold av; rw [LI]; rfl
noncomputable abbrev jG (K:Fg):Sp:=Im K
noncomputable def uD (K:Fg):TS:=(ar (bz (aY (tOp (rI0 fun i j=>.bl (decide (j < i))) (au (mR K) [] E0 (aa (ab 0) (aa (ab 1) af))) (tC (.int 2000)))) pS bf)
 (ar (aH (tOp Jy (ab 1) (B8 (aa (tOp (rI0 fun i j=>.int (i - j)) (ab 0) (tCB (sV K) (aa (ab 1) af))) af))) (ao 2))
 (ar (aH (B8 (aa (FD af) af)) (ao 3))
 (ar (dk (eN (aa (ab 0) af)) (ao 4) (aH (au (im K) [] E0 (aa (ab 3) (aa (ab 2) af))) (ao 3)))
 (aJ (ab 3))))))
theorem A0 (h:jG K vs H Q E):uD K { nx:=fun _ H'=>Q .non H',rt:=Q } (start ["cards","sizes","room","begun","card"] vs) H:=by
 obtain ⟨c,a,ss,rfl,ha,p,hm,q⟩:=h
 have h12:=p.c12
 have h5:=p.l5
 have hsum:=p.sum
 refine ⟨_,rfl,_,rfl,c,a,ss,rfl,ha,p,fun H1 s1=>?_⟩
 refine ⟨_,_,rfl,rfl,_,rfl,iG (fun k=>?_) (fun _=>?_)⟩
 ·have k':(2000:Int) < ((KM.cv c ss:Nat):Int):=of_decide_eq_true k
  omega
 have a1:=s1 _ _ ha
 refine ⟨_,rfl,_,rfl,_,rfl,a,_,rfl,by rw [<-gd]; exact SqL.of a1,_,_,rfl,rfl,(by show 1<=Lr; decide),fun l hl=>?_⟩
 have s2:am H (upd H1 l (.lst [.int ((c:Int) - (ss.map fun (s:Nat)=>((s:Nat):Int)).sum)])):=s1.trans (aW hl _)
 have e2:(upd H1 l (.lst [.int ((c:Int) - (ss.map fun (s:Nat)=>((s:Nat):Int)).sum)])) l=some (.lst [.int ((c:Int) - (ss.map fun (s:Nat)=>((s:Nat):Int)).sum)]):=ay
 rw [show (c:Int) - (ss.map fun (s:Nat)=>((s:Nat):Int)).sum=((c - ss.sum:Nat):Int) by rw [ik]; omega] at s2 e2
 dsimp only
 rw [show (c:Int) - (ss.map fun (s:Nat)=>((s:Nat):Int)).sum=((c - ss.sum:Nat):Int) by rw [ik]; omega]
 generalize upd H1 l (.lst [.int ((c - ss.sum:Nat):Int)])=H2 at s2 e2
 refine ⟨a,l,_,_,rfl,rfl,s2 _ _ ha,e2,small (by rw [bg]; show ss.length + 1<=1000; omega),fun rm hrm=>?_⟩
 rw [iC]
 have hRs:(ss++[c - ss.sum]).sum=c:=by rw [MP,LN,OM]; omega
 have hRl:(ss++[c - ss.sum]).length<=6:=by rw [Lz]; show ss.length + 1<=6; omega
 have hlev:=KM.mP hsum
 have s3:am H (upd H2 rm (.lst (av (ss++[c - ss.sum])))):=s2.trans (aW hrm _)
 have e3:(upd H2 rm (.lst (av (ss++[c - ss.sum])))) rm=some (.lst (av (ss++[c - ss.sum]))):=ay
 generalize ss++[c - ss.sum]=R at *
 generalize upd H2 rm (.lst (av R))=H3 at s3 e3
 refine ⟨(by show 0<=Lr; decide),fun t ht=>⟨(by show 1<=Lr; decide),fun b hb=>?_⟩⟩
 have s4:am H3 (upd (upd H3 t (.tup [])) b (.lst [.ref t])):=(aW ht _).trans (aW hb _)
 have D4:bx (upd (upd H3 t (.tup [])) b (.lst [.ref t])) b (KM.cq R 0):=⟨[t],ay,.cons (by rw [aP (aS (ay (o:=HO.tup [])) hb)]; exact ay) .nil⟩
 have f4:H b=none:=by
  have:H3 b=none:=(aW ht _).free hb
  exact s3.free this
 generalize upd (upd H3 t (.tup [])) b (.lst [.ref t])=H4 at s4 D4
 refine ⟨_,rfl,_,rfl,by omega,by omega,pX (lo:=0) (n:=((c:Nat):Int).toNat) (fun i σ H5=>∃ (b:Addr) (st:Option V),σ=[some (.int c),some (.ref a),some (.ref rm),some (.ref b),st]/\am H3 H5/\H b=none/\bx H5 b (KM.cq R i)) ⟨b,none,rfl,s4,f4,D4⟩ ?_ ?_⟩
 ·rintro i σ H5 hi ⟨b',st,rfl,s5,f5,D5⟩
  have hi':i + 1<=c:=by omega
  refine ⟨_,rfl,_,rfl,b',rm,_,R,rfl,D5,s5 _ _ e3,hRl,?_,fun u hu=>?_,fun p' H6 s6 f6 D6=>?_⟩
  ·have h1:=KM.FY (room:=R) (i:=i + 1) (by omega)
   rw [hRs,hlev] at h1
   exact LS h1 hm
  ·have:=(KM.gT R i u hu).len
   omega
  ·exact ⟨p',_,rfl,s5.trans s6,(s3.trans s5).free f6,D6⟩
 ·rintro σ H5 ⟨b',st,rfl,s5,f5,D5⟩
  refine ⟨_,rfl,?_⟩
  rw [show ((c:Nat):Int).toNat=c by omega] at D5
  exact q b' H5 (s3.trans s5) f5 D5
noncomputable def qk (xs:List Int) (w:Int) (i:Nat):List Int:=((Lv i).filter fun j=>decide (xs[j]?=some w)).map fun (j:Nat)=>((j:Nat):Int)
theorem EC (xs:List Int) (w:Int) (i:Nat):qk xs w (i + 1)=qk xs w i++(if xs[i]?=some w then [(i:Int)] else []):=by
 unfold qk
 rw [N2,Qx,LI]
 by_cases h:xs[i]?=some w
 ·rw [if_pos h,Ph (by simpa using h)]
  rfl
 ·rw [if_neg h,Pi (by simpa using h)]
  rfl
theorem F2 (xs:List Int) (w:Int) (i:Nat):(qk xs w i).length<=i:=by
 unfold qk
 rw [Lf]
 have h:=RP (fun j=>decide (xs[j]?=some w)) (Lv i)
 rw [Mz] at h
 exact h
noncomputable def Io (K:Fg):Sp:=fun vs H Q _=>∃ (d:Addr) (xs:List Int) (v:Int),vs=[.ref d,.int v]/\SqT K H d (xs.map V.int)/\xs.length<=1000/\
 ∀ (r:Addr) (H':Hp),am H H'->H' r=some (.tup ((qk xs v xs.length).map V.int))->Q (.ref r) H'
theorem ED {xs:List Int} {i:Nat} {x:V} (h:(xs.map V.int)[i]?=some x):∃ z,xs[i]?=some z/\x=.int z:=by
 rw [Lx] at h
 cases e:xs[i]? with
 | none=>rw [e] at h; cases h
 | some z=>rw [e] at h; exact ⟨z,rfl,(Lu h).symm⟩
noncomputable abbrev jH (K:Fg):Sp:=Io K
noncomputable def uE (K:Fg):TS:=(aJ (tCB (JR K) (aa (bV (qX ig K (aa (ab 0) af)) (fun _ _ _ _=>(jn K 2 (cc (ao 0) (cc (ao 1) jm)))) (fun _ _ _ _=>(aY (tOp rEq (ab 1) (ab 2)))) (fun _ _ _ _=>(ab 0)) [none,none,some 1]) af)))
theorem A1 (h:jH K vs H Q E):uE K { nx:=fun _ H'=>Q .non H',rt:=Q } (start ["deal","who"] vs) H:=by
 obtain ⟨d,xs,v,rfl,hd,hlen,q⟩:=h
 have hl:(xs.map V.int).length=xs.length:=Lf _
 refine ⟨_,rfl,d,_,rfl,hd,fun p hp=>Ej (S:=ig) (K:=K) (a:=d) (xs:=xs.map V.int) (fun i acc H2=>acc=(qk xs v i).map V.int/\am H H2/\H2 p=some (.lst acc)) ⟨rfl,aW hp _,ay⟩ ?_ ?_ ?_ ?_ ?_⟩
 ·rintro i acc H2 hi ⟨rfl,s2,e2⟩
  exact ⟨e2,by rw [Lf]; exact F2 _ _ _⟩
 ·rintro i acc H2 hi ⟨rfl,s2,e2⟩
  exact s2.tup hd
 ·rw [hl]
  exact small hlen
 ·rintro _ _ _ _ i x T acc H2 hx ⟨rfl,s2,e2⟩ hT
  obtain ⟨z,hz,rfl⟩:=ED hx
  have nTp:p≠T:=aS e2 hT
  have nT:H T=none:=s2.free hT
  refine ⟨T,_,rfl,SqT.of ay,rfl,_,_,rfl,_,_,rfl,rfl,_,rfl,_,rfl,rfl,_,rfl,?_⟩
  have eu:=EC xs v i
  refine iG (fun c=>?_) (fun c=>?_)
  ·have c':z=v:=by
    have:=of_decide_eq_true c
    injection this
   subst c'
   rw [if_pos hz] at eu
   refine ⟨_,rfl,by rw [aP nTp]; exact e2,?_,(s2.upd nT _).upd hp _,ay⟩
   rw [eu,LI]
   rfl
  ·have c':¬ xs[i]?=some v:=by
    rw [hz]
    intro e
    have:=of_decide_eq_false c
    exact this (by rw [Lu e])
   rw [if_neg c',NK] at eu
   exact ⟨by rw [eu],s2.upd nT _,by rw [aP nTp]; exact e2⟩
 ·rintro acc H2 ⟨rfl,s2,e2⟩
  rw [hl] at e2
  exact ⟨p,_,rfl,.inl ⟨SqL.of e2,fun t ht=>q t _ (s2.trans (aW ht _)) ay⟩⟩
theorem iD {ss:List Nat} {i:Nat} {x:V} (hx:(av ss)[i]?=some x):∃ z:Nat,ss[i]?=some z/\x=.int (z:Int):=by
 unfold av at hx
 rw [Lx] at hx
 cases e:ss[i]? with
 | none=>rw [e] at hx; cases hx
 | some z=>rw [e] at hx; exact ⟨z,rfl,(Lu hx).symm⟩
end
section
variable {K:Fg} {vs:List V} {H:Hp} {Q:VK} {E:XK}
noncomputable abbrev aZ (K:Fg):Sp:=JF K
noncomputable def jI (K:Fg):TS:=(ar (bz (aY (tOp (rI0 fun i j=>.bl (decide (i < j))) (ab 1) (tCB (b9 K) (aa (ab 0) af)))) (aJ (tOp (cV K) (ab 0) (ab 1))) bf)
 (ar (aH (tOp (rI0 fun i j=>.int (i + j)) (tOp (rI NM fun i j=>.int (i * j)) (ab 1) (tC (.int 7919))) (tC (.int 5))) (ao 2))
 (ar (bz (aY (tOp (rI0 fun i j=>.bl (decide (j < i))) (tCB (b9 K) (aa (ab 0) af)) (tC (.int 0)))) (aH (tOp (rI0 fun i j=>.int (i + j)) (tOp (rI NM fun i j=>.int (i * j)) (tOp (cV K) (ab 0) (tOp (rI (fun _ j=>0 < j) fun i j=>.int (i % j)) (tOp (rI NM fun i j=>.int (i * j)) (ab 1) (tC (.int 7))) (tCB (b9 K) (aa (ab 0) af)))) (tC (.int 48271))) (tOp (rI NM fun i j=>.int (i * j)) (ab 1) (tC (.int 7919)))) (ao 2)) bf)
 (ar (aH (tOp (rI (fun _ j=>0 < j) fun i j=>.int (i % j)) (tOp (rI NM fun i j=>.int (i * j)) (ab 2) (ab 2)) (tC (.int 2147483629))) (ao 2))
 (aJ (tOp (rI (fun _ j=>0 < j) fun i j=>.int (i % j)) (tOp (rI NM fun i j=>.int (i * j)) (tOp (rI0 fun i j=>.int (i + j)) (ab 2) (ab 1)) (tOp (rI0 fun i j=>.int (i + j)) (ab 2) (tC (.int 69621)))) (tC (.int 2147483587))))))))
theorem zB (h:aZ K vs H Q E):jI K { nx:=fun _ H'=>Q .non H',rt:=Q } (start ["_law_script","_law_k","_law_number"] vs) H:=by
 obtain ⟨a,ns,k,rfl,⟨hS,h63,hbits⟩,h0,h1,q⟩:=h
 show jI K _ [some _,some _,none] _
 unfold jI
 have hl:(ns.map V.int).length=ns.length:=Lf _
 walk_at "rd"
 rw [hl]
 refine cC (fun c=>?_) (fun c=>?_)
 ·walk_at "rd"
  refine ce hS (zg h0 c) ?_
  have e:br ns k=ns.getD k.toNat 0:=by unfold br; rw [if_pos c]
  rw [e] at q
  exact q
 ·refine Em ?_
  dsimp only
  refine bu ?_
  walk_at "rs"
  refine m6 fun NX hNX=>?_
  have last:∀ n0:Int,Mb n0<=1048600->br ns k=((n0 * n0 % 2147483629) + k) * ((n0 * n0 % 2147483629) + 69621) % 2147483587->NX [some (.ref a),some (.int k),some (.int n0)] H:=by
   intro n0 hb e
   refine hNX _ _ ?_
   have z1:0<=n0 * n0 % 2147483629:=N1 _ (by decide)
   have z2:n0 * n0 % 2147483629 < 2147483629:=NG _ (by decide)
   refine bu ?_
   refine ku ?_
   refine sU ?_
   refine sU ?_
   refine nY rfl ?_
   refine nY rfl ?_
   refine r_I (.of_le hb hb (by decide)) ?_
   walk_at "rd"
   rw [e] at q
   exact q
  walk_at "rs"
  rw [hl]
  refine cC (fun d=>?_) (fun d=>?_)
  ·have m1:0<=k * 7 % (ns.length:Int):=N1 _ (by omega)
   have m2:k * 7 % (ns.length:Int) < (ns.length:Int):=NG _ d
   walk_at "rs"
   rw [hl]
   refine ce hS (zg m1 m2) ?_
   walk_at "rs"
   refine last _ ?_ ?_
   ·have b1:=Ek hbits (k * 7 % (ns.length:Int)).toNat
    have b2:Mb (48271:Int)<=16:=by decide
    have b3:Mb k<=20:=intBits_le_iff.mpr (by have:(2:Nat) ^ 20=1048576:=(by decide); omega)
    have b4:Mb (7919:Int)<=13:=by decide
    exact LS (intBits_add_le (RQ b1 b2) (RQ b3 b4)) (by decide)
   ·unfold br
    rw [if_neg c,if_pos d]
  ·walk_at "rs"
   refine last _ ?_ ?_
   ·have b3:Mb k<=20:=intBits_le_iff.mpr (by have:(2:Nat) ^ 20=1048576:=(by decide); omega)
    have b4:Mb (7919:Int)<=13:=by decide
    have b5:Mb (5:Int)<=3:=by decide
    exact LS (intBits_add_le (RQ b3 b4) b5) (by decide)
   ·unfold br
    rw [if_neg c,if_neg d]
noncomputable def fT (_:Fg):Sp:=fun vs H Q _=>∃ n:Nat,vs=[.int n]/\n<=12/\Q (.int (KM.aR n:Nat)) H
noncomputable def gz (K:Fg):TS:=(ar (aH (tC (.int 1)) (ao 1))
 (ar (dk (eN (aa (ab 0) af)) (ao 2) (aH (tOp (rI NM fun i j=>.int (i * j)) (ab 1) (tOp (rI0 fun i j=>.int (i + j)) (ab 2) (tC (.int 1)))) (ao 1)))
 (aJ (ab 1))))
theorem KM.fact_le {n m : Nat} (h : n ≤ m) : KM.aR n ≤ KM.aR m := by
  induction m with
  | zero => have : n = 0 := by omega
            subst this; exact Le _
  | succ m ih =>
    by_cases e : n = m + 1
    · subst e; exact Le _
    · have := ih (by omega)
      rw [KM.aR]
      exact LS this (Nat.le_mul_of_pos_right _ (SV m))
theorem EE {n:Nat} (h:n<=12):KM.aR n<=479001600:=LS (KM.fact_le h) (by decide)
theorem uF (h:fT K vs H Q E):gz K { nx:=fun _ H'=>Q .non H',rt:=Q } (start ["_law_many","_law_found","_law_k"] vs) H:=by
 obtain ⟨n,rfl,hn,q⟩:=h
 show gz K _ [some _,none,none] _
 unfold gz
 walk_at "rd"
 refine js n (by omega) (by omega) (by omega) (fun i σ H2=>∃ st,σ=[some (.int n),some (.int (KM.aR i:Nat)),st]/\H2=H) ⟨none,rfl,rfl⟩ ?_ ?_
 ·rintro i σ H2 hi ⟨st,rfl,rfl⟩
  have:=EE (n:=i) (by omega)
  walk_at "rd"
  refine ⟨some (.int i),?_,rfl⟩
  rw [KM.aR,Ru,show ((i:Int) + 1)=((i + 1:Nat):Int) by omega]
 ·rintro σ H2 ⟨st,rfl,rfl⟩
  walk_at "rd"
  exact q
noncomputable def gZ (_:Fg):Sp:=fun vs H Q _=>∃ (c:Nat) (a:Addr) (ss:List Nat),vs=[.int c,.ref a]/\H a=some (.lst (av ss))/\ss.sum<=c/\c<=12/\ss.length<=100/\∀ H',am H H'->Q (.int (KM.cv c ss:Nat)) H'
noncomputable def iL (K:Fg):TS:=(ar (aH (au (fT K) [] E0 (aa (ab 0) af)) (ao 2))
 (ar (dk (dg K (tOp sW (ab 1) (fv (aa (tOp (rI0 fun i j=>.int (i - j)) (ab 0) (tCB (sV K) (aa (ab 1) af))) af)))) (ao 3) (aH (tOp (rI eU fun i j=>.int (i / j)) (ab 2) (au (fT K) [] E0 (aa (ab 3) af))) (ao 2)))
 (aJ (ab 2))))
theorem xI (h:gZ K vs H Q E):iL K { nx:=fun _ H'=>Q .non H',rt:=Q } (start ["_law_cards","_law_sizes","_law_found","_law_many"] vs) H:=by
 obtain ⟨c,a,ss,rfl,ha,hs,hc,hl,q⟩:=h
 show iL K _ [some _,some _,none,none] _
 unfold iL
 walk_at "rd"
 refine ⟨c,rfl,hc,?_⟩
 walk_at "rd"
 refine Cg (ns:=ss.map fun (s:Nat)=>((s:Nat):Int)) (SqL.of (by rw [<-gd]; exact ha)) ?_
 walk_at "rd"
 rw [ik,show (c:Int) - ((ss.sum:Nat):Int)=((c - ss.sum:Nat):Int) by omega]
 refine ⟨by simp [Ll],fun b H1 hb s1 e1=>uu (s1 _ _ ha) e1 (by rw [bg,Ll]; simp; omega) fun p H2 hp s2 e2=>?_⟩
 rw [iC] at e2
 generalize hR:ss++[c - ss.sum]=R at e2
 have hRs:R.sum=c:=by rw [<-hR,MP,LN,OM]; omega
 have hpf:KM.cv c ss * KM.cx R=KM.aR c:=by rw [<-hR]; exact KM.sg c ss hs
 have hdv:R.foldl (fun f s=>f / KM.aR s) (KM.aR c)=KM.cv c ss:=by rw [<-hpf]; exact KM.JX R _
 have s12:=s1.trans s2
 refine kQ (av R) (SqL.of e2) (fun i σ H3=>∃ st,σ=[some (.int c),some (.ref a),some (.int (((R.take i).foldl (fun f s=>f / KM.aR s) (KM.aR c):Nat):Int)),st]/\H3=H2) ⟨none,rfl,rfl⟩ (fun i σ H3 _ ⟨_,_,e⟩=>by subst e; exact SqL.of e2) ?_ ?_
 ·rintro i x σ H3 hx ⟨st,rfl,rfl⟩
  obtain ⟨z,hz,rfl⟩:=iD hx
  have hz12:z<=12:=by
   have:=iK (Lw hz)
   omega
  walk_at "rd"
  refine ⟨z,rfl,hz12,?_⟩
  have h1:=KM.ij z
  have h2:=EE hz12
  walk_at "rd"
  refine ⟨some (.int z),?_,rfl⟩
  rw [MW,hz,Tc,<-TV]
  rfl
 ·rintro σ H3 ⟨st,rfl,rfl⟩
  walk_at "rd"
  rw [bg,LZ,hdv]
  exact q _ s12
noncomputable def ln (K:Fg):Sp:=fun vs H Q _=>∃ (a:Addr) (ns:List Int) (at_ most:Int),vs=[.ref a,.int at_,.int most]/\fo K H a ns/\0<=at_/\at_<=1000/\1<=most/\
 ∀ (c:Nat) (ss:List Nat) (p q:Addr) (H':Hp),am H H'->H p=none->H q=none->H' p=some (.tup [.int c,.ref q])->H' q=some (.lst (av ss))->qj c ss->((KM.cv c ss:Nat):Int)<=most->Q (.ref p) H'
theorem uG:∀ ss:List Nat,ss.sum<=0->KM.cv 0 ss=1
 | [],_=>rfl
 | a :: r,h=>by
  rw [LN] at h
  have ha:a=0:=by omega
  subst ha
  rw [KM.cv,KM.jE,uG r (by omega)]
theorem tj (ss:List Nat) (j m:Nat):(av ss).set j (.int (m:Int))=av (ss.set j m):=by
 unfold av
 rw [List.map_set]
theorem F3 {ss:List Nat} {M:Int} (h:M∈ss.map fun (s:Nat)=>((s:Nat):Int)):∃ m:Nat,m∈ss/\M=(m:Int):=by
 obtain ⟨m,hm,e⟩:=Nz.mp h
 exact ⟨m,hm,e.symm⟩
theorem F4 {ss:List Nat} {j m:Nat} (h:ss[j]?=some m) (hm:0 < m):(ss.set j (m - 1)).sum + 1=ss.sum:=by
 obtain ⟨h1,h2⟩:=Li.mp h
 have e:ss.getD j 0=m:=by rw [Lo,h]; rfl
 have:=KM.wg ss j h1 (by rw [e]; exact hm)
 rw [e] at this
 exact this
noncomputable def BB (K:Fg):TS:=(ar (kZ (aY (tOp (rI0 fun i j=>.bl (decide (j < i))) (au (gZ K) [] E0 (aa (ab 3) (aa (ab 4) af))) (ab 2))) (ar (bz (aY (tOp (rI0 fun i j=>.bl (decide (j < i))) (tCB (we K) (aa (ab 4) af)) (tOp (rI0 fun i j=>.int (i - j)) (ab 3) (tCB (sV K) (aa (ab 4) af))))) (aH (tOp (rI0 fun i j=>.int (i - j)) (tCB (we K) (aa (ab 4) af)) (tC (.int 1))) (pT (ab 4) (tBM K "list" zi (ab 4) (aa (tCB (we K) (aa (ab 4) af)) af)) lY)) bf)
 (aH (tOp (rI0 fun i j=>.int (i - j)) (ab 3) (tC (.int 1))) (ao 3))))
 (aJ (ci (aa (ab 3) (aa (ab 4) af)))))
theorem EF {K:Fg} {H0 H:Hp} {Q:VK} {NX:St->Hp->Prop} {x y:V} {most:Int} {c:Nat} {q:Addr} {ss:List Nat} {cI:St} (s0:am H0 H) (hq0:H0 q=none) (hq:H q=some (.lst (av ss))) (h1:1<=ss.length) (h5:ss.length<=5) (hs:ss.sum<=c) (hc:c<=12) (hm:1<=most)
  (g:∀ (c:Nat) (ss:List Nat) (p q:Addr) (H':Hp),am H0 H'->H0 p=none->H0 q=none->H' p=some (.tup [.int c,.ref q])->H' q=some (.lst (av ss))->qj c ss->((KM.cv c ss:Nat):Int)<=most->Q (.ref p) H'):
  BB K { nx:=NX,rt:=Q } (some x :: some y :: some (.int most) :: some (.int c) :: some (.ref q) :: cI) H:=by
 unfold BB
 refine bu ?_
 refine yB (fun m σ H2=>∃ (c:Nat) (ss:List Nat),σ=(some x :: some y :: some (.int most) :: some (.int c) :: some (.ref q) :: cI)/\am H0 H2/\H2 q=some (.lst (av ss))/\1<=ss.length/\ss.length<=5/\ss.sum<=c/\c<=12/\m=c) c ⟨c,ss,rfl,s0,hq,h1,h5,hs,hc,rfl⟩ ?_
 clear s0 hq h1 h5 hs hc
 rintro m σ H2 ⟨c,ss,rfl,s0,hq,h1,h5,hs,hc,hmc⟩
 have hmc':=hmc.symm
 subst hmc'
 walk_at "rd"
 refine ⟨c,q,ss,rfl,hq,hs,hc,by omega,fun H3 s3=>?_⟩
 have s3':=s0.trans s3
 have hq3:=s3 _ _ hq
 have hS:SqL K H3 q ((ss.map fun (s:Nat)=>((s:Nat):Int)).map V.int):=by rw [<-gd]; exact SqL.of hq3
 walk_at "rd"
 refine cC (fun hgt=>?_) (fun hle=>?_)
 ·have hc1:1<=c:=by
   rcases O8 c with z | z
   ·subst z
    rw [uG ss hs] at hgt
    omega
   ·exact z
  refine yA ?_
  walk_at "rd"
  have hne:(ss.map fun (s:Nat)=>((s:Nat):Int))≠[]:=by
   intro z
   have:=congrArg List.length z
   rw [Lf] at this
   simp at this
   subst this
   simp at h1
  refine ⟨q,_,rfl,hS,hne,fun M hM hmax=>?_⟩
  obtain ⟨mx,hmx,rfl⟩:=F3 hM
  have hle:=iK hmx
  walk_at "rd"
  refine Cg hS ?_
  walk_at "rd"
  rw [ik]
  refine cC (fun hbig=>?_) (fun hsm=>?_)
  ·walk_at "rd"
   refine ⟨q,_,rfl,hS,hne,fun M2 hM2 hmax2=>?_⟩
   obtain rfl:M2=((mx:Nat):Int):=Uq (hmax M2 hM2) (hmax2 _ hM)
   walk_at "rd"
   refine ⟨yz hq3,?_⟩
   walk_at "rd"
   refine ⟨q,_,rfl,hS,hne,fun M3 hM3 hmax3=>?_⟩
   obtain rfl:M3=((mx:Nat):Int):=Uq (hmax M3 hM3) (hmax3 _ hM)
   obtain ⟨j,hj,hfirst⟩:=zl hM
   have hj':ss[j]?=some mx:=by
    rw [Lx] at hj
    cases e:ss[j]? with
    | none=>rw [e] at hj; cases hj
    | some z=>rw [e] at hj; have hzz:((z:Nat):Int)=(mx:Int):=Lu hj; rw [show z=mx by omega]
   have hjl:j < ss.length:=(Li.mp hj').1
   walk_at "rd"
   refine ⟨q,_,_,j,rfl,rfl,by rw [<-gd]; exact hq3,hj,hfirst,by omega,?_⟩
   walk_at "rd"
   refine qd hq3 (j:=j) (by unfold ixN; rw [bg,if_pos (by omega),if_pos (by omega)]; simp) ?_
   walk_at "rd"
   have hss:=F4 hj' (by omega)
   refine ⟨c - 1,by omega,c - 1,ss.set j (mx - 1),?_,s3'.upd hq0 _,?_,by rw [Nb]; exact h1,by rw [Nb]; exact h5,by omega,by omega,rfl⟩
   ·rw [show (c:Int) - 1=((c - 1:Nat):Int) by omega]
   ·rw [ay,show ((mx:Nat):Int) - 1=((mx - 1:Nat):Int) by omega,tj]
  ·walk_at "rd"
   refine ⟨c - 1,by omega,c - 1,ss,?_,s3',hq3,h1,h5,?_,by omega,rfl⟩
   ·rw [show (c:Int) - 1=((c - 1:Nat):Int) by omega]
   ·by_cases e:ss.sum=c
    ·have z:mx=0:=by omega
     have all0:∀ s∈ss,s=0:=fun s hs'=>by
      have:=hmax _ (SD (f:=fun (s:Nat)=>((s:Nat):Int)) hs')
      have:(s:Int)<=(mx:Int):=this
      omega
     have:ss.sum=0:=by
      clear hmax hM hq hq3 hS hne hgt hsm hmx hle h1 h5 hs e
      induction ss with
      | nil=>rfl
      | cons b r ih=>rw [LN,all0 b Lj,ih fun s hs=>all0 s (Ln _ hs)]
     omega
    ·omega
 ·walk_at "rd"
  exact ⟨by simp [Ll],fun p H4 hp s4 e4=>g c ss p q H4 (s3'.trans s4) (s3'.free hp) hq0 e4 (s4 _ _ hq3) ⟨hc,h1,h5,hs⟩ (by omega)⟩
end
section
variable {K:Fg} {vs:List V} {H:Hp} {Q:VK} {E:XK}
end
section
variable {K:Fg} {vs:List V} {H:Hp} {Q:VK} {E:XK}
end
section
variable {K:Fg} {vs:List V} {H:Hp} {Q:VK} {E:XK}
theorem lp {ss:List Nat} {j z:Nat} (h:ss[j]?=some z):atI (av ss) (j:Int)=some (.int (z:Int)):=cB (by unfold av; rw [Lx,h]; rfl)
end
noncomputable def Ct:V->Bool
 | .non=>true
 | .bl _=>true
 | .int _=>true
 | _=>false
inductive eP (K:Fg) (H:Hp):Nat->V->V->Prop where
 | flat {n:Nat} {x:V} (h:Ct x=true):eP K H n x x
 | lst {n:Nat} {a b:Addr} {xs ys:List V} (e1:SqL K H a xs) (e2:SqL K H b ys) (hl:xs.length=ys.length) (h:∀ (i:Nat) (x y:V),xs[i]?=some x->ys[i]?=some y->eP K H n x y):eP K H (n + 1) (.ref a) (.ref b)
 | tup {n:Nat} {a b:Addr} {xs ys:List V} (e1:SqT K H a xs) (e2:SqT K H b ys) (hl:xs.length=ys.length) (h:∀ (i:Nat) (x y:V),xs[i]?=some x->ys[i]?=some y->eP K H n x y):eP K H (n + 1) (.ref a) (.ref b)
noncomputable def jX (K:Fg) (neg:Bool):R2:=fun x y H Q=>∃ n,n<=30/\eP K H n x y/\Q (.bl (!neg)) H
section
variable {K:Fg} {H:Hp} {Q:VK}
theorem Ip {x y:V} (n:Nat) (hn:n<=30) (h:eP K H n x y) (q:Q (.bl true) H):jX K false x y H Q:=⟨n,hn,h,q⟩
theorem wl {x y:V} (n:Nat) (hn:n<=30) (h:eP K H n x y) (q:Q (.bl false) H):jX K true x y H Q:=⟨n,hn,h,q⟩
theorem Cu {a b:Addr} {xs:List V} (e1:SqL K H a xs) (e2:SqL K H b xs) (hf:∀ x∈xs,Ct x=true):eP K H 1 (.ref a) (.ref b):=
 .lst e1 e2 rfl fun i x y hx hy=>by
  rw [hx] at hy
  cases hy
  exact .flat (hf x (Lw hx))
end
section
variable {g:CF TG} {tt:CF TT} {te:CF TE} {σ₀:St} {Q:VK} {H:Hp} {K:Fg}
end
section
variable {K:Fg} {vs:List V} {H:Hp} {Q:VK} {E:XK}
noncomputable def d5 (K:Fg):Sp:=fun vs H Q _=>∃ (a:Addr) (xs:List V) (ks:List MK) (s:Bool),vs=[.ref a]/\H a=some (.lst xs)/\Paired (cW H) xs ks/\(∀ k∈ks,ma k=s)/\ks.length<=100000/\
 ∀ p H',H p=none->am H H'->H' p=some (.lst (av (be ks)))->Q (.ref p) H'
noncomputable def eQ (K:Fg):TS:=(ar (aH zr (ao 1))
 (ar (dk (qX bL K (aa (ab 0) af)) (jn K 2 (cc (ao 2) (cc (ao 3) jm))) (dR (tXM zt (ab 1) (aa (ab 3) (aa (ab 2) af)))))
 (aJ (bV (dg K (ab 0)) (fun _ _ _ _=>(ao 0)) (fun _ _ _ _=>bH) (fun _ _ _ _=>(tOp Cm (ab 1) (ab 0))) [none,some 1]))))
theorem ql (h:d5 K vs H Q E):eQ K { nx:=fun _ H'=>Q .non H',rt:=Q } (start ["marks","firsts","thing","mark"] vs) H:=by
 obtain ⟨a,xs,ks,s,rfl,e,hk,hs,hl,q⟩:=h
 show eQ K _ [some _,none,none,none] _
 unfold eQ
 have hlen:xs.length=ks.length:=L6 hk
 walk_at "rd"
 refine Ij s fun d H1 hd s1 dx1=>?_
 walk_at "rd"
 refine By (S:=bL) xs (SqL.of (s1 _ _ e)) (fun i σ H3=>∃ (u v:Option V),σ=[some (.ref a),some (.ref d),u,v]/\am H H3/\Dx H3 d s (gR ks i) i) ?_ ?_ ?_ ?_
 ·exact ⟨none,none,rfl,s1,dx1.congr AW⟩
 ·rintro i σ H3 hi ⟨u,v,rfl,s3,dx3⟩
  exact SqL.of (s3 _ _ e)
 ·rintro i x T σ H3 H4 hx ⟨u,v,rfl,s3,dx3⟩ hT s4 eT
  obtain ⟨k,hki,hkv⟩:=ck hk hx
  have hks:=hs k (Lw hki)
  have hi:i < ks.length:=(Li.mp hki).1
  refine iJ (SqT.of eT) ?_
  have s34:=s3.trans s4
  have hkv4:=hkv.keep s34.keep
  have dx4:=dx3.same s4
  walk_at "rd"
  refine K8 ?_
  walk_at "rd"
  refine ⟨⟨d,s,_,_,rfl,dx4⟩,?_⟩
  walk_at "rd"
  refine Ik dx4 hkv4 hks (by rw [Ll]; omega) (fun w hw=>?_) (fun hn H5 o5 dx5=>?_)
  ·have hm:k∈ks.take i:=by
    by_cases q:k∈ks.take i
    ·exact q
    ·rw [AV q] at hw; cases hw
   exact ⟨_,_,rfl,s34,(dx4.congr (Cn hki hm)).le (Og i)⟩
  ·have hm:k∉ks.take i:=fun q=>by rw [xo q] at hn; cases hn
   exact ⟨_,_,rfl,s34.off hd o5,dx5.congr (Co hki hm)⟩
 ·rintro σ H3 ⟨u,v,rfl,s3,dx3⟩
  walk_at "rd"
  refine gx xs (SqL.of (s3 _ _ e)) (by omega) (fun i acc _=>acc=av ((be ks).take i)) (fun H' _=>rfl) ?_ ?_
  ·rintro p hp C s' H' fp i x acc H4 hx ⟨s4,e4,l4,rfl⟩
   obtain ⟨k,hki,hkv⟩:=ck hk hx
   have hks:=hs k (Lw hki)
   have hi:i < ks.length:=(Li.mp hki).1
   walk_at "rd"
   refine JW (dx3.same s4) (hkv.keep (s3.trans s4).keep) hks (xo (by rw [hlen,LZ]; exact Lw hki)) ?_
   refine bi.put hp (fun _ _ _ _ r _=>r) s4 e4 l4 ?_
   rw [zu hki,iC]
  ·rintro p acc H4 hp s4 e4 rfl
   refine q _ _ (s3.free hp) (s3.trans s4) ?_
   rw [e4,OD (by rw [dE,hlen]; exact Le _)]
noncomputable def rf (w:List Nat) (h:Int):List Int:=qk (w.map fun (s:Nat)=>((s:Nat):Int)) h w.length
noncomputable def zC (ns:List Int):MK:=.inr (ns.map fun n=>(NQ (some n):IK))
theorem F5 (a b:List Int) (e:zC a=zC b):a=b:=by
 have h:a.map (fun n=>(NQ (some n):IK))=b.map (fun n=>(NQ (some n):IK)):=OV e
 clear e
 induction a generalizing b with
 | nil=>cases b with
  | nil=>rfl
  | cons _ _=>simp at h
 | cons x r ih=>cases b with
  | nil=>simp at h
  | cons y t=>
   rw [LA,LA] at h
   injection h with h1 h2
   injection h1 with h1
   injection h1 with h1
   rw [h1,ih t h2]
noncomputable def lv (ws:List (List Nat)) (h:Int):List Nat:=be (ws.map fun w=>rf w h)
theorem A2 (ws:List (List Nat)) (h:Int):be (ws.map fun w=>zC (rf w h))=lv ws h:=by
 unfold lv
 rw [<-r6 (f:=zC) F5,NY]
 rfl
theorem bx.to' {H H':Hp} {p:Addr} {ws:List (List Nat)} (d:bx H p ws) (k:fq H H') (e:∀ rs:List Addr,H p=some (.lst (rs.map V.ref))->H' p=some (.lst (rs.map V.ref))):bx H' p ws:=by
 obtain ⟨rs,h1,h2⟩:=d
 exact ⟨rs,e rs h1,jF h2 fun a xs e=>k _ _ e⟩
theorem bx.same' {H H':Hp} {p:Addr} {ws:List (List Nat)} (d:bx H p ws) (s:am H H'):bx H' p ws:=d.to' s.keep fun rs e=>s _ _ e
theorem zD {rs:List Addr} {i:Nat} {x:V} (hx:(rs.map V.ref)[i]?=some x):∃ a,rs[i]?=some a/\x=.ref a:=by
 rw [Lx] at hx
 cases e:rs[i]? with
 | none=>rw [e] at hx; cases hx
 | some z=>rw [e] at hx; exact ⟨z,rfl,(Lu hx).symm⟩
noncomputable def kb (K:Fg):Sp:=fun vs H Q _=>∃ (a:Addr) (ws:List (List Nat)) (h:Int),vs=[.ref a,.int h]/\bx H a ws/\(∀ w∈ws,w.length<=1000)/\ws.length<=100000/\
 ∀ p H',H p=none->am H H'->H' p=some (.lst (av (lv ws h)))->Q (.ref p) H'
theorem EG {H:Hp} {xs:List V} {ks:List MK} {x:V} {k:MK} (h:Paired (cW H) xs ks) (q:cW H x k):Paired (cW H) (xs++[x]) (ks++[k]):=by
 induction h with
 | nil=>exact .cons q .nil
 | cons r _ ih=>exact .cons r ih
noncomputable def iM (K:Fg):TS:=(aJ (au (d5 K) [] E0 (aa (bV (dg K (ab 0)) (fun _ _ _ _=>(ao 0)) (fun _ _ _ _=>bH) (fun _ _ _ _=>(au (jH K) [] E0 (aa (ab 0) (aa (ab 1) af)))) [none,some 1]) af)))
theorem xJ (h:kb K vs H Q E):iM K { nx:=fun _ H'=>Q .non H',rt:=Q } (start ["deals","hand"] vs) H:=by
 obtain ⟨a,ws,h,rfl,hD,hw,hl,q⟩:=h
 show iM K _ [some _,some _] _
 unfold iM
 obtain ⟨rs,e,hr⟩:=id hD
 have hlr:rs.length=ws.length:=L6 hr
 walk_at "rd"
 refine gx (rs.map V.ref) (SqL.of e) (by rw [Lf]; omega) (fun i acc H'=>Paired (cW H') acc ((ws.take i).map fun w=>zC (rf w h))) (fun H' _=>.nil) ?_ ?_
 ·rintro p hp C s' H' fp i x acc H2 hx ⟨s2,e2,l2,r2⟩
  obtain ⟨b,hb,rfl⟩:=zD hx
  obtain ⟨w,hwi,ew⟩:=ck hr hb
  walk_at "rd"
  refine ⟨b,w.map fun (s:Nat)=>((s:Nat):Int),h,rfl,by rw [<-gd]; exact SqT.of (s2 _ _ ew),by rw [Lf]; exact hw w (Lw hwi),fun r H3 s3 e3=>?_⟩
  rw [Lf] at e3
  refine bi.put hp (fun _ _ _ _ r k=>xl r k) (s2.trans s3) (s3 _ _ e2) l2 ?_
  rw [cX hwi,LI]
  exact EG (xl r2 s3.keep) (Ih (ns:=rf w h) e3)
 ·rintro p acc H2 hp s2 e2 r2
  rw [Lf,hlr,LZ] at r2
  walk_at "rd"
  refine ⟨p,acc,_,true,rfl,e2,r2,?_,by rw [Lf]; omega,fun p3 H3 hp3 s3 e3=>?_⟩
  ·intro k hk
   obtain ⟨w,_,rfl⟩:=Nz.mp hk
   rfl
  ·rw [A2] at e3
   exact q _ _ (s2.free hp3) (s2.trans s3) e3
end
noncomputable def Cv:List V->Hp->VK->Prop:=fun xs H Q=>∃ n:Nat,xs=[.int (n:Int)]/\n<=1000000/\New H (.rng 0 (n:Int)) fun p H2=>Q (.ref p) H2
noncomputable def yD:List V->Hp->VK->Prop:=fun xs H Q=>∃ (p:Addr) (n:Nat),xs=[.ref p]/\H p=some (.rng 0 (n:Int))/\n<=1000000/\New H (.lst ((Lv n).map fun (i:Nat)=>V.int ((i:Nat):Int))) fun p H2=>Q (.ref p) H2
noncomputable def Hs (ta:TA):TE:=tCB yD (aa (tCB Cv ta) af)
theorem KI {H:Hp} {Q:VK} {n:Nat} (hn:n<=1000000) (h:New H (.lst ((Lv n).map fun (i:Nat)=>V.int ((i:Nat):Int))) fun p H2=>Q (.ref p) H2):New H (.rng 0 (n:Int)) fun p H2=>yD [.ref p] H2 Q:=
 fun p H' _ s e=>⟨p,n,rfl,e,hn,fun l H2 hl s2 e2=>h l H2 (s.free hl) (s.trans s2) e2⟩
noncomputable def rg (H:Hp) (ts:List Addr) (ps:List (V×V)):Prop:=Paired (fun (t:Addr) (p:V×V)=>H t=some (.tup [p.1,p.2])) ts ps
noncomputable def Cw (S1 S2:Src) (K:Fg) (ta:TA):TE:=fun σ H Q=>ta σ H fun vs H1=>∃ a b xs ys,vs=[.ref a,.ref b]/\S1.Sq K H1 a xs/\S2.Sq K H1 b ys/\xs.length<=1000000/\
 ∀ p H',H1 p=none->am H1 H'->(∃ ts:List Addr,H' p=some (.lst (ts.map V.ref))/\rg H' ts (xs.zip ys))->Q (.ref p) H'
section
variable {σ:St} {H:Hp} {Q:VK} {K:Fg}
theorem J0 {ta:TA} (h:ta σ H fun vs H1=>∃ n:Nat,vs=[.int (n:Int)]/\n<=1000000/\New H1 (.rng 0 (n:Int)) fun p H2=>yD [.ref p] H2 Q):Hs ta σ H Q:=h
theorem J1 {S1 S2:Src} {ta:TA} (h:ta σ H fun vs H1=>∃ a b xs ys,vs=[.ref a,.ref b]/\S1.Sq K H1 a xs/\S2.Sq K H1 b ys/\xs.length<=1000000/\
 ∀ p H',H1 p=none->am H1 H'->(∃ ts:List Addr,H' p=some (.lst (ts.map V.ref))/\rg H' ts (xs.zip ys))->Q (.ref p) H'):Cw S1 S2 K ta σ H Q:=h
end
end L2
section
namespace KF
noncomputable def d6 (ps:List Nat):Prop:=∀ x y:Nat,ps[x]?=some y->y<=x
inductive bo (ps:List Nat):Nat->Nat->Prop where
 | stop {x:Nat} (h:ps[x]?=some x):bo ps x x
 | step {x y r:Nat} (h:ps[x]?=some y) (hl:y < x) (t:bo ps y r):bo ps x r
theorem bo.inj {ps:List Nat} {x r r':Nat} (a:bo ps x r) (b:bo ps x r'):r=r':=by
 induction a with
 | stop h=>cases b with
  | stop _=>rfl
  | step h' hl _=>rw [h] at h'; cases h'; omega
 | step h hl _ ih=>cases b with
  | stop h'=>rw [h] at h'; cases h'; omega
  | step h' _ t=>rw [h] at h'; cases h'; exact ih t
theorem d6.root {ps:List Nat} (f:d6 ps):∀ x,x < ps.length->∃ r,bo ps x r:=by
 intro x
 induction x using Nat.strongRecOn with
 | ind x ih=>
  intro hx
  have e:=Ld hx
  have hy:=f x _ e
  rcases O9 hy with h | h
  ·obtain ⟨r,hr⟩:=ih _ h (by omega)
   exact ⟨r,.step e h hr⟩
  ·rw [h] at e
   exact ⟨x,.stop e⟩
theorem bo.le {ps:List Nat} {x r:Nat} (a:bo ps x r):r<=x:=by
 induction a with
 | stop _=>exact Le _
 | step _ hl _ ih=>omega
theorem bo.self {ps:List Nat} {x r:Nat} (a:bo ps x r):ps[r]?=some r:=by
 induction a with
 | stop h=>exact h
 | step _ _ _ ih=>exact ih
theorem bo.lt {ps:List Nat} {x r:Nat} (a:bo ps x r):x < ps.length:=by
 cases a with
 | stop h=>exact (Li.mp h).1
 | step h _ _=>exact (Li.mp h).1
theorem d6.range (n:Nat):d6 (Lv n):=fun x y h=>by
 obtain ⟨h1,h2⟩:=Li.mp h
 rw [Qy] at h2
 omega
theorem bo.range {n x:Nat} (h:x < n):bo (Lv n) x x:=.stop (by rw [MJ h])
theorem J2 {ps:List Nat} {e g y z:Nat} (h:(ps.set e g)[y]?=some z):(y=e/\z=g)\/(y≠e/\ps[y]?=some z):=by
 rw [Oa] at h
 by_cases q:e=y
 ·rw [if_pos q] at h
  split at h
  ·cases h; exact .inl ⟨q.symm,rfl⟩
  ·cases h
 ·rw [if_neg q] at h
  exact .inr ⟨fun z=>q z.symm,h⟩
theorem m9 {ps:List Nat} {e g y:Nat} (h:y≠e):(ps.set e g)[y]?=ps[y]?:=by
 rw [Oa,if_neg (fun z=>h z.symm)]
theorem jY {ps:List Nat} {e g:Nat} (h:e < ps.length):(ps.set e g)[e]?=some g:=by
 rw [Oa,if_pos rfl,if_pos h]
theorem d6.set {ps:List Nat} (f:d6 ps) {e g:Nat} (h:g<=e):d6 (ps.set e g):=fun x y q=>by
 rcases J2 q with ⟨rfl,rfl⟩ | ⟨_,q⟩
 ·exact h
 ·exact f x y q
theorem bo.halve {ps:List Nat} (f:d6 ps) {e p g:Nat} (h1:ps[e]?=some p) (h2:ps[p]?=some g) {y r:Nat} (a:bo ps y r):bo (ps.set e g) y r:=by
 have he:e < ps.length:=(Li.mp h1).1
 induction a with
 | @stop x h=>
  by_cases q:x=e
  ·subst q
   rw [h] at h1
   cases h1
   rw [h] at h2
   cases h2
   exact .stop (jY he)
  ·exact .stop (by rw [m9 q]; exact h)
 | @step x y r h hl t ih=>
  by_cases q:x=e
  ·subst q
   rw [h] at h1
   cases h1
   have e1:(ps.set x g)[p]?=some g:=by rw [m9 (by omega)]; exact h2
   cases ih with
   | stop h'=>
    rw [e1] at h'
    cases h'
    exact .step (jY he) hl (.stop e1)
   | step h' hl' t'=>
    rw [e1] at h'
    cases h'
    exact .step (jY he) (by omega) t'
  ·exact .step (by rw [m9 q]; exact h) hl ih
theorem bo.link {ps:List Nat} {M m:Nat} (hM:ps[M]?=some M) (hm:ps[m]?=some m) (hle:m<=M) {y r:Nat} (a:bo ps y r):bo (ps.set M m) y (if r=M then m else r):=by
 have hMl:M < ps.length:=(Li.mp hM).1
 induction a with
 | @stop x h=>
  by_cases q:x=M
  ·subst q
   rw [if_pos rfl]
   rcases O9 hle with l | l
   ·exact .step (jY hMl) l (.stop (by rw [m9 (by omega)]; exact hm))
   ·subst l
    exact .stop (jY hMl)
  ·rw [if_neg q]
   exact .stop (by rw [m9 q]; exact h)
 | @step x y r h hl t ih=>
  have q:x≠M:=by
   intro q
   subst q
   rw [h] at hM
   cases hM
   omega
  exact .step (by rw [m9 q]; exact h) hl ih
inductive eG (P:Nat->Nat->Prop):Nat->Nat->Prop where
 | refl (x:Nat):eG P x x
 | one {x y:Nat} (h:P x y):eG P x y
 | symm {x y:Nat} (h:eG P x y):eG P y x
 | trans {x y z:Nat} (h:eG P x y) (t:eG P y z):eG P x z
theorem eG.mono {P P':Nat->Nat->Prop} (h:∀ x y,P x y->P' x y) {x y:Nat} (c:eG P x y):eG P' x y:=by
 induction c with
 | refl x=>exact .refl x
 | one q=>exact .one (h _ _ q)
 | symm _ ih=>exact .symm ih
 | trans _ _ a b=>exact .trans a b
noncomputable def kD (n:Nat) (vs:List (List Nat)) (x y:Nat):Prop:=∃ v∈vs,x < n/\v[x]?=some y
structure qm (n:Nat) (P:Nat->Nat->Prop) (r:List Nat):Prop where
 len:r.length=n
 le:∀ i x:Nat,r[i]?=some x->x<=i
 conn:∀ i x:Nat,r[i]?=some x->eG P i x
 same:∀ i j:Nat,i < n->j < n->eG P i j->r[i]?=r[j]?
structure cZ (n:Nat) (P:Nat->Nat->Prop) (ps:List Nat):Prop where
 len:ps.length=n
 forest:d6 ps
 conn:∀ x r,bo ps x r->eG P x r
 same:∀ x y,P x y->∃ r,bo ps x r/\bo ps y r
theorem cZ.join {n:Nat} {P:Nat->Nat->Prop} {ps r:List Nat} (t:cZ n P ps) (hl:r.length=n) (hr:∀ i x:Nat,r[i]?=some x->bo ps i x):qm n P r where
 len:=hl
 le:=fun i x h=>(hr i x h).le
 conn:=fun i x h=>t.conn _ _ (hr i x h)
 same:=by
  have key:∀ i j,eG P i j->∀ x,(bo ps i x↔bo ps j x):=by
   intro i j c
   induction c with
   | refl x=>intro x; exact Iff.rfl
   | one q=>
    intro x
    obtain ⟨r,h1,h2⟩:=t.same _ _ q
    exact ⟨fun a=>by rw [a.inj h1]; exact h2,fun a=>by rw [a.inj h2]; exact h1⟩
   | symm _ ih=>intro x; exact (ih x).symm
   | trans _ _ a b=>intro x; exact (a x).trans (b x)
  intro i j hi hj c
  have e1:=Ld (l:=r) (i:=i) (by rw [hl]; exact hi)
  have e2:=Ld (l:=r) (i:=j) (by rw [hl]; exact hj)
  have q1:=(key i j c _).mp (hr _ _ e1)
  rw [e1,e2,q1.inj (hr _ _ e2)]
theorem cZ.start (n:Nat):cZ n (fun _ _=>False) (Lv n) where
 len:=Mz
 forest:=d6.range n
 conn:=fun x r h=>by
  have hx:x < n:=by have:=h.lt; rw [Mz] at this; exact this
  rw [h.inj (bo.range hx)]
  exact .refl x
 same:=fun _ _ h=>h.elim
theorem cZ.moved {n:Nat} {P:Nat->Nat->Prop} {ps ps':List Nat} (t:cZ n P ps) (f:d6 ps') (hl:ps'.length=n) (h:∀ y r,bo ps y r->bo ps' y r):cZ n P ps' where
 len:=hl
 forest:=f
 conn:=fun x r a=>by
  obtain ⟨r',b⟩:=t.forest.root x (by rw [t.len,<-hl]; exact a.lt)
  rw [a.inj (h _ _ b)]
  exact t.conn _ _ b
 same:=fun x y q=>by
  obtain ⟨r,h1,h2⟩:=t.same x y q
  exact ⟨r,h _ _ h1,h _ _ h2⟩
theorem cZ.link {n:Nat} {P P':Nat->Nat->Prop} {ps:List Nat} {a b ra rb M m:Nat} (t:cZ n P ps) (ha:bo ps a ra) (hb:bo ps b rb) (hM:(M=ra/\m=rb)\/(M=rb/\m=ra)) (hle:m<=M)
  (h1:∀ x y,P x y->P' x y) (h2:∀ x y,P' x y->P x y\/(x=a/\y=b)) (h3:P' a b):cZ n P' (ps.set M m):=by
 have sM:ps[M]?=some M:=by
  rcases hM with ⟨rfl,_⟩ | ⟨rfl,_⟩
  ·exact ha.self
  ·exact hb.self
 have sm:ps[m]?=some m:=by
  rcases hM with ⟨_,rfl⟩ | ⟨_,rfl⟩
  ·exact hb.self
  ·exact ha.self
 have cMm:eG P' M m:=by
  have c1:eG P' a ra:=(t.conn _ _ ha).mono h1
  have c2:eG P' b rb:=(t.conn _ _ hb).mono h1
  rcases hM with ⟨rfl,rfl⟩ | ⟨rfl,rfl⟩
  ·exact .trans (.symm c1) (.trans (.one h3) c2)
  ·exact .trans (.symm c2) (.trans (.symm (.one h3)) c1)
 have rt:∀ {y r:Nat},bo ps y r->bo (ps.set M m) y (if r=M then m else r):=fun q=>bo.link sM sm hle q
 refine ⟨by rw [Nb]; exact t.len,t.forest.set hle,fun x r q=>?_,fun x y q=>?_⟩
 ·obtain ⟨r',h⟩:=t.forest.root x (by have:=q.lt; rw [Nb] at this; exact this)
  rw [q.inj (rt h)]
  have c:eG P' x r':=(t.conn _ _ h).mono h1
  split
  ·rename_i e
   rw [e] at c
   exact .trans c cMm
  ·exact c
 ·rcases h2 x y q with q | ⟨rfl,rfl⟩
  ·obtain ⟨r,q1,q2⟩:=t.same x y q
   exact ⟨_,rt q1,rt q2⟩
  ·refine ⟨m,?_,?_⟩
   ·have:=rt ha
    rcases hM with ⟨e1,e2⟩ | ⟨e1,e2⟩
    ·rw [if_pos e1.symm] at this; exact this
    ·by_cases z:ra=M
     ·rw [if_pos z] at this; exact this
     ·rw [if_neg z,<-e2] at this; exact this
   ·have:=rt hb
    rcases hM with ⟨e1,e2⟩ | ⟨e1,e2⟩
    ·by_cases z:rb=M
     ·rw [if_pos z] at this; exact this
     ·rw [if_neg z,<-e2] at this; exact this
    ·rw [if_pos e1.symm] at this; exact this
end KF
end
namespace L2
open PySem PyProof.Rows
section
variable {K:Fg} {vs:List V} {H:Hp} {Q:VK} {E:XK}
open KF
section
variable {g:CF TG} {tt:CF TT} {te:CF TE} {σ₀:St} {Q:VK} {H:Hp} {K:Fg}
theorem EH {j:Int} (n:Nat) (hn:j.toNat=n) (hj:j<=1000000) (hj0:-1000000<=j) (R:Addr->Nat->List V->Hp->Prop) (h0:∀ p H',H p=none->am H H'->H' p=some (.lst [])->R p 0 [] H')
  (hp:∀ p i acc H',R p i acc H'->H' p=some (.lst acc)/\acc.length<=i)
  (hs:∀ p,H p=none->∀ C s' H' fp,∀ i acc H2,i < n->R p i acc H2->g C s' H' fp (.int i) σ₀ H2 fun σ2 H3=>tt C s' H' fp σ2 H3 fun b H4=>if b=true then te C s' H' fp σ2 H4 fun y H5=>H5 p=some (.lst acc)/\R p (i + 1) (acc++[y]) (upd H5 p (.lst (acc++[y]))) else R p (i + 1) acc H4)
  (hd:∀ p acc H2,H p=none->R p n acc H2->Q (.ref p) H2):
  ∃ j':Int,[V.int j]=[.int j']/\-(2 ^ 62)<=j'/\j' < 2 ^ 62/\∀ p,H p=none->∃ W:Nat->Nat->List V->Hp->Prop,(∃ m,W 0 m [] (upd H p (.lst [])))/\∀ C s' H' fp,cg (Itr 0 j'.toNat) (g C s' H' fp) (tt C s' H' fp) (te C s' H' fp) σ₀ p Q W:=by
 refine ⟨j,rfl,by omega,by omega,fun p hpn=>?_⟩
 subst hn
 exact nW (lo:=0) (R p) (h0 p _ hpn (aW hpn _) ay) (fun i acc H2 _ c=>hp p i acc H2 c) (by rw [Ll]; omega) (fun C s' H' fp i acc H2 hi c=>by rw [Ra]; exact hs p hpn C s' H' fp i acc H2 hi c) fun acc H2 c=>hd p acc H2 hpn c
end
theorem wm {n j:Nat} (h:j < n):ixN n (j:Int)=some j:=by unfold ixN; rw [if_pos (by omega),if_pos (by omega)]; simp
theorem Cy (n:Nat):(Lv n).map (fun (i:Nat)=>V.int ((i:Nat):Int))=av (Lv n):=rfl
noncomputable def jZ (_:Fg):Sp:=fun vs H Q _=>∃ (p:Addr) (ps:List Nat) (x r:Nat),vs=[.ref p,.int (x:Int)]/\H p=some (.lst (av ps))/\d6 ps/\bo ps x r/\
 ∀ H' ps',Off p H H'->H' p=some (.lst (av ps'))->ps'.length=ps.length->d6 ps'->(∀ y s,bo ps y s->bo ps' y s)->Q (.int (r:Int)) H'
noncomputable def oo (K:Fg):TS:=(ar (aH (ab 1) (ao 2))
 (ar (kZ (aY (tOp rNe (tOp (cV K) (ab 0) (ab 2)) (ab 2))) (ar (aH (tOp (cV K) (ab 0) (tOp (cV K) (ab 0) (ab 2))) (pT (ab 0) (ab 2) lY))
 (aH (tOp (cV K) (ab 0) (ab 2)) (ao 2))))
 (aJ (ab 2))))
theorem F6 {p:Addr} {H:Hp}:Off p H H:=fun _ _=>rfl
theorem qo {p:Addr} {H H1 H2:Hp} (a:Off p H H1) (b:Off p H1 H2):Off p H H2:=fun c hc=>(b c hc).trans (a c hc)
theorem EI (h:jZ K vs H Q E):oo K { nx:=fun _ H'=>Q .non H',rt:=Q } (start ["points","thing","end"] vs) H:=by
 obtain ⟨p,ps,x,r,rfl,e,hf,hr,q⟩:=h
 show oo K _ [some _,some _,none] _
 unfold oo
 walk_at "rd"
 refine yB (fun m σ H1=>∃ (ps':List Nat),σ=[some (.ref p),some (.int (x:Int)),some (.int (m:Int))]/\Off p H H1/\H1 p=some (.lst (av ps'))/\ps'.length=ps.length/\d6 ps'/\(∀ y s,bo ps y s->bo ps' y s)/\bo ps' m r) x ⟨ps,rfl,F6,e,rfl,hf,fun _ _ h=>h,hr⟩ ?_
 rintro m σ H1 ⟨ps',rfl,o1,e1,hl,hf1,hk,hr1⟩
 have hm:=hr1.lt
 obtain ⟨y,hy⟩:∃ y,ps'[m]?=some y:=⟨_,Ld hm⟩
 walk_at "rd"
 refine ce (SqL.of e1) (lp hy) ?_
 walk_at "rd"
 refine zj (fun c=>?_) (fun c=>?_)
 ·have hym:y < m:=by have:=hf1 m y hy; omega
  obtain ⟨g,hg⟩:∃ g,ps'[y]?=some g:=⟨_,Ld (by omega)⟩
  have hgy:=hf1 y g hg
  refine yA ?_
  walk_at "rd"
  refine ce (SqL.of e1) (lp hy) ?_
  walk_at "rd"
  refine ce (SqL.of e1) (lp hg) ?_
  walk_at "rd"
  refine qd e1 (wm (by rw [bg]; exact hm)) ?_
  rw [tj]
  walk_at "rd"
  refine ce (SqL.of ay) (lp (z:=g) (jY hm)) ?_
  walk_at "rd"
  refine ⟨g,by omega,ps'.set m g,rfl,qo o1 iB,ay,by rw [Nb]; exact hl,hf1.set (by omega),fun a s h=>bo.halve hf1 hy hg (hk a s h),?_⟩
  have:=bo.halve hf1 hy hg hr1
  cases this with
  | stop h=>
   rw [jY hm] at h
   cases h
   omega
  | step h _ t=>
   rw [jY hm] at h
   cases h
   exact t
 ·have:y=m:=by omega
  subst this
  walk_at "rd"
  have er:y=r:=(bo.stop hy).inj hr1
  rw [er]
  exact q H1 ps' o1 e1 hl hf1 hk
noncomputable def wn (_:Fg):Sp:=fun vs H Q _=>∃ (p:Addr) (ps:List Nat) (n:Nat) (P P':Nat->Nat->Prop) (a b:Nat),vs=[.ref p,.int (a:Int),.int (b:Int)]/\H p=some (.lst (av ps))/\cZ n P ps/\a < n/\b < n/\
 (∀ x y,P x y->P' x y)/\(∀ x y,P' x y->P x y\/(x=a/\y=b))/\P' a b/\∀ H' ps',Off p H H'->H' p=some (.lst (av ps'))->cZ n P' ps'->Q .non H'
noncomputable def uH (K:Fg):TS:=(ar (aH (au (jZ K) [] E0 (aa (ab 0) (aa (ab 1) af))) (ao 3))
 (ar (aH (au (jZ K) [] E0 (aa (ab 0) (aa (ab 2) af))) (ao 4))
 (aH (tCB ut (aa (ab 3) (aa (ab 4) af))) (pT (ab 0) (tCB Hk (aa (ab 3) (aa (ab 4) af))) lY))))
theorem Iq (h:wn K vs H Q E):uH K { nx:=fun _ H'=>Q .non H',rt:=Q } (start ["points","one","other","first","second"] vs) H:=by
 obtain ⟨p,ps,n,P,P',a,b,rfl,e,ht,ha,hb,h1,h2,h3,q⟩:=h
 show uH K _ [some _,some _,some _,none,none] _
 unfold uH
 obtain ⟨ra,hra⟩:=ht.forest.root a (by rw [ht.len]; exact ha)
 walk_at "rd"
 refine ⟨p,ps,a,ra,rfl,e,ht.forest,hra,fun H1 ps1 o1 e1 l1 f1 k1=>?_⟩
 have ht1:=ht.moved f1 (by rw [l1]; exact ht.len) k1
 obtain ⟨rb,hrb⟩:=ht1.forest.root b (by rw [ht1.len]; exact hb)
 walk_at "rd"
 refine ⟨p,ps1,b,rb,rfl,e1,f1,hrb,fun H2 ps2 o2 e2 l2 f2 k2=>?_⟩
 have ht2:=ht1.moved f2 (by rw [l2]; exact ht1.len) k2
 have hra2:=k2 _ _ (k1 _ _ hra)
 have hrb2:=k2 _ _ hrb
 walk_at "rd"
 have la:=hra2.le
 have lb:=hrb2.le
 obtain ⟨M,m,hM,hm,hd,hle⟩:∃ M m:Nat,(if (rb:Int) > (ra:Int) then (rb:Int) else (ra:Int))=(M:Int)/\(if (rb:Int) < (ra:Int) then (rb:Int) else (ra:Int))=(m:Int)/\((M=ra/\m=rb)\/(M=rb/\m=ra))/\m<=M:=by
  by_cases c:rb < ra
  ·exact ⟨ra,rb,by rw [if_neg (by omega)],by rw [if_pos (by omega)],.inl ⟨rfl,rfl⟩,by omega⟩
  ·by_cases d:ra < rb
   ·exact ⟨rb,ra,by rw [if_pos (by omega)],by rw [if_neg (by omega)],.inr ⟨rfl,rfl⟩,by omega⟩
   ·exact ⟨ra,ra,by rw [if_neg (by omega)],by rw [if_neg (by omega)],.inr ⟨by omega,rfl⟩,Le _⟩
 rw [hm,hM]
 have hMl:M < ps2.length:=by
  rw [ht2.len]
  rcases hd with ⟨rfl,_⟩ | ⟨rfl,_⟩ <;> omega
 refine qd e2 (wm (by rw [bg]; exact hMl)) ?_
 rw [tj]
 exact q _ _ (qo (qo o1 o2) iB) ay (ht2.link hra2 hrb2 hd hle h1 h2 h3)
noncomputable def cD (H:Hp) (a:Addr) (vs:List (List Nat)):Prop:=∃ rs:List Addr,H a=some (.lst (rs.map V.ref))/\Paired (fun (r:Addr) (v:List Nat)=>H r=some (.lst (av v))) rs vs
theorem cD.same {H H':Hp} {a:Addr} {vs:List (List Nat)} (h:cD H a vs) (s:am H H'):cD H' a vs:=by
 obtain ⟨rs,e,r⟩:=h
 exact ⟨rs,s _ _ e,Paired.mapP r fun _ _ q=>s _ _ q⟩
noncomputable def Within (n:Nat) (v:List Nat):Prop:=v.length=n/\∀ x∈v,x < n
theorem ng {rs:List Addr} {i:Nat} {x:V} (hx:(rs.map V.ref)[i]?=some x):∃ a,rs[i]?=some a/\x=.ref a:=by
 rw [Lx] at hx
 cases e:rs[i]? with
 | none=>rw [e] at hx; cases hx
 | some z=>rw [e] at hx; exact ⟨z,rfl,(Lu hx).symm⟩
noncomputable def qp (_:Fg):Sp:=fun vs H Q _=>∃ (n:Nat) (a:Addr) (ws:List (List Nat)),vs=[.int (n:Int),.ref a]/\cD H a ws/\(∀ v∈ws,Within n v)/\n<=100000/\
 ∀ r p H',qm n (kD n ws) r->H p=none->am H H'->H' p=some (.lst (av r))->Q (.ref p) H'
noncomputable def oq (K:Fg):TS:=(ar (aH (Hs (aa (ab 0) af)) (ao 2))
 (ar (dk (dg K (ab 1)) (ao 3) (dk (qX bL K (aa (ab 3) af)) (jn K 2 (cc (ao 4) (cc (ao 5) jm))) (dR (au (wn K) [] E0 (aa (ab 2) (aa (ab 4) (aa (ab 5) af)))))))
 (aJ (bV (eN (aa (ab 0) af)) (fun _ _ _ _=>(ao 0)) (fun _ _ _ _=>bH) (fun _ _ _ _=>(au (jZ K) [] E0 (aa (ab 1) (aa (ab 0) af)))) [none,some 2]))))
theorem Cz {n:Nat} {ws:List (List Nat)} {i:Nat} {v:List Nat} (hv:ws[i]?=some v) {x y:Nat}:kD n (ws.take (i + 1)) x y↔kD n (ws.take i) x y\/(x < n/\v[x]?=some y):=by
 unfold kD
 rw [cX hv]
 constructor
 ·rintro ⟨w,hw,h1,h2⟩
  rcases LU.mp hw with hw | hw
  ·exact .inl ⟨w,hw,h1,h2⟩
  ·rw [Lg.mp hw] at h2; exact .inr ⟨h1,h2⟩
 ·rintro (⟨w,hw,h1,h2⟩ | ⟨h1,h2⟩)
  ·exact ⟨w,Nm _ hw,h1,h2⟩
  ·exact ⟨v,L9 _ (Lg.mpr rfl),h1,h2⟩
theorem _root_.KF.cZ.congr {n:Nat} {P P':Nat->Nat->Prop} {ps:List Nat} (t:cZ n P ps) (h:∀ x y,P x y↔P' x y):cZ n P' ps:=by
 have e:P=P':=by funext x y; exact propext (h x y)
 rw [<-e]; exact t
theorem EJ (h:qp K vs H Q E):oq K { nx:=fun _ H'=>Q .non H',rt:=Q } (start ["many","views","points","view","thing","least"] vs) H:=by
 obtain ⟨n,a,ws,rfl,hV,hw,hn,q⟩:=h
 show oq K _ [some _,some _,none,none,none,none] _
 unfold oq
 obtain ⟨rs,ea,hr⟩:=id hV
 have hlr:rs.length=ws.length:=L6 hr
 walk_at "rd"
 refine J0 ?_
 walk_at "rd"
 refine ⟨n,rfl,by omega,KI (by omega) fun p H1 hp s1 e1=>?_⟩
 rw [Cy] at e1
 walk_at "rd"
 refine kQ (rs.map V.ref) (SqL.of (s1 _ _ ea)) (fun i σ H2=>∃ (u1 u2 u3:Option V) (ps:List Nat),σ=[some (.int (n:Int)),some (.ref a),some (.ref p),u1,u2,u3]/\am H H2/\H2 p=some (.lst (av ps))/\cZ n (kD n (ws.take i)) ps) ?_ ?_ ?_ ?_
 ·refine ⟨_,_,_,_,rfl,s1,e1,(cZ.start n).congr fun x y=>⟨fun h=>h.elim,fun ⟨w,hw,_⟩=>by simp at hw⟩⟩
 ·rintro i σ H2 hi ⟨u1,u2,u3,ps,rfl,s2,e2,t2⟩
  exact SqL.of (s2 _ _ ea)
 ·rintro i x σ H2 hx ⟨u1,u2,u3,ps,rfl,s2,e2,t2⟩
  obtain ⟨b,hb,rfl⟩:=ng hx
  obtain ⟨v,hv,ev⟩:=ck hr hb
  obtain ⟨hvl,hvx⟩:=hw v (Lw hv)
  walk_at "rd"
  refine By (S:=bL) (av v) (SqL.of (s2 _ _ ev)) (fun j σ H3=>∃ (u2 u3:Option V) (ps:List Nat),σ=[some (.int (n:Int)),some (.ref a),some (.ref p),some (.ref b),u2,u3]/\am H H3/\H3 p=some (.lst (av ps))/\cZ n (fun x y=>kD n (ws.take i) x y\/(x < j/\v[x]?=some y)) ps) ?_ ?_ ?_ ?_
  ·exact ⟨_,_,ps,rfl,s2,e2,t2.congr fun x y=>⟨.inl,fun h=>h.elim (fun h=>h) fun h=>absurd h.1 (by omega)⟩⟩
  ·rintro j σ H3 hj ⟨u2,u3,ps,rfl,s3,e3,t3⟩
   exact SqL.of (s3 _ _ ev)
  ·rintro j x T σ H3 H4 hx ⟨u2,u3,ps,rfl,s3,e3,t3⟩ hT s4 eT
   obtain ⟨z,hz,rfl⟩:=iD hx
   have hjl:j < v.length:=(Li.mp hz).1
   refine iJ (SqT.of eT) ?_
   walk_at "rd"
   refine ⟨p,ps,n,_,(fun x y=>kD n (ws.take i) x y\/(x < j + 1/\v[x]?=some y)),j,z,rfl,s4 _ _ e3,t3,by omega,hvx z (Lw hz),?_,?_,.inr ⟨by omega,hz⟩,fun H5 ps5 o5 e5 t5=>?_⟩
   ·rintro x y (h | h)
    ·exact .inl h
    ·exact .inr ⟨by omega,h.2⟩
   ·rintro x y (h | ⟨h1,h2⟩)
    ·exact .inl (.inl h)
    ·by_cases c:x=j
     ·subst c
      rw [hz] at h2
      cases h2
      exact .inr ⟨rfl,rfl⟩
     ·exact .inl (.inr ⟨by omega,h2⟩)
   ·exact ⟨_,_,ps5,rfl,(s3.trans s4).off hp o5,e5,t5⟩
  ·rintro σ H3 ⟨u2,u3,ps,rfl,s3,e3,t3⟩
   rw [bg] at t3
   exact ⟨_,_,_,ps,rfl,s3,e3,t3.congr fun x y=>by rw [Cz hv,hvl]⟩
 ·rintro σ H2 ⟨u1,u2,u3,ps,rfl,s2,e2,t2⟩
  rw [Lf,hlr,LZ] at t2
  walk_at "rd"
  refine EH n (by omega) (by omega) (by omega) (fun l i acc H3=>∃ (ps' rr:List Nat),acc=av rr/\rr.length=i/\H3 l=some (.lst acc)/\l≠p/\H l=none/\am H H3/\H3 p=some (.lst (av ps'))/\cZ n (kD n ws) ps'/\(∀ y s,bo ps y s->bo ps' y s)/\∀ k x:Nat,rr[k]?=some x->bo ps k x) ?_ ?_ ?_ ?_
  ·intro l H3 hl s3 e3
   exact ⟨ps,[],rfl,rfl,e3,(aS e2 hl).symm,s2.free hl,s2.trans s3,s3 _ _ e2,t2,fun _ _ h=>h,fun k x h=>by simp at h⟩
  ·rintro l i acc H3 ⟨ps',rr,rfl,hl,e3,_⟩
   exact ⟨e3,by rw [bg]; omega⟩
  ·rintro l hl C s' H' fp i acc H3 hi ⟨ps',rr,rfl,hlr',e3,nl,hlH,s3,ep3,t3,k3,g3⟩
   obtain ⟨r,hr⟩:=t2.forest.root i (by rw [t2.len]; exact hi)
   walk_at "rd"
   refine ⟨p,ps',i,r,rfl,ep3,t3.forest,k3 _ _ hr,fun H4 ps4 o4 e4 l4 f4 k4=>?_⟩
   refine ⟨by rw [o4 l nl]; exact e3,ps4,rr++[r],iC rr r,by simp [hlr'],ay,nl,hlH,(s3.off hp o4).off hlH iB,by rw [aP nl.symm]; exact e4,t3.moved f4 (by rw [l4]; exact t3.len) k4,fun y s h=>k4 _ _ (k3 _ _ h),fun k x h=>?_⟩
   rw [List.getElem?_append] at h
   by_cases c:k < rr.length
   ·rw [if_pos c] at h
    exact g3 k x h
   ·rw [if_neg c] at h
    have hk:k=i:=by
     by_cases d:k - rr.length=0
     ·omega
     ·rw [LJ (by simp; omega)] at h; cases h
    subst hk
    rw [<-hlr',Rc] at h
    cases h
    exact hr
  ·rintro l acc H3 hl ⟨ps',rr,rfl,hlr',e3,nl,hlH,s3,ep3,t3,k3,g3⟩
   exact q rr l H3 (t2.join hlr' g3) hlH s3 e3
end
section
variable {g:CF TG} {tt:CF TT} {te:CF TE} {σ₀:St} {Q:VK} {H:Hp} {K:Fg}
end
theorem ou {H:Hp} {a:Addr} {fs:List (List Nat)} (h:cD H a fs):∃ rs:List Addr,H a=some (.lst (rs.map V.ref))/\rs.length=fs.length/\∀ (i:Nat) (r:Addr),rs[i]?=some r->∃ v,fs[i]?=some v/\H r=some (.lst (av v)):=by
 obtain ⟨rs,e,p⟩:=h
 exact ⟨rs,e,L6 p,fun i r hr=>ck p hr⟩
end L2
section
namespace L2
open PySem PyProof.Rows
set_option genInjectivity false in
inductive Sy where
 | holds (w c:Nat) | sees (h:Nat) | not (s:Sy) | and (s t:Sy) | or (s t:Sy) | knows (h:Nat) (s:Sy) | all (g:List Nat) (s:Sy) | common (g:List Nat) (s:Sy)
namespace Sy
noncomputable def words:Sy->Nat
 | .holds _ _=>1 | .sees _=>1 | .not s=>s.words + 1 | .and s t=>s.words + t.words + 1 | .or s t=>s.words + t.words + 1 | .knows _ s=>s.words + 1 | .all _ s=>s.words + 1 | .common _ s=>s.words + 1
noncomputable def subs:Sy->List Sy
 | .holds _ _=>[] | .sees _=>[] | .not s=>[s] | .and s t=>[s,t] | .or s t=>[s,t] | .knows _ s=>[s] | .all _ s=>[s] | .common _ s=>[s]
noncomputable def word:Sy->Str
 | .holds _ _=>"holds" | .sees _=>"sees" | .not _=>"not" | .and _ _=>"and" | .or _ _=>"or" | .knows _ _=>"knows" | .all _ _=>"all" | .common _ _=>"common"
noncomputable def form:Sy->List Str
 | .holds _ _=>["holder","card"] | .sees _=>["hand"] | .not _=>["saying"] | .and _ _=>["saying","saying"] | .or _ _=>["saying","saying"] | .knows _ _=>["hand","saying"] | .all _ _=>["hands","saying"] | .common _ _=>["hands","saying"]
noncomputable def plain:Sy->Bool
 | .holds _ _=>true | .not _=>true | .and _ _=>true | .or _ _=>true | _=>false
noncomputable def Ok (cards hands:Nat):Sy->Prop
 | .holds w c=>w<=hands/\c < cards | .sees h=>h < hands | .not s=>s.Ok cards hands | .and s t=>s.Ok cards hands/\t.Ok cards hands | .or s t=>s.Ok cards hands/\t.Ok cards hands
 | .knows h s=>h < hands/\s.Ok cards hands | .all g s=>(g.Pairwise (· < ·)/\∀ k∈g,k < hands)/\s.Ok cards hands | .common g s=>(g.Pairwise (· < ·)/\∀ k∈g,k < hands)/\s.Ok cards hands
theorem words_pos (s:Sy):1<=s.words:=by cases s <;> simp [words]
theorem words_subs (s:Sy):s.words=1 + (s.subs.map words).sum:=by cases s <;> simp [words,subs] <;> omega
theorem sub_words {s t:Sy} (h:t∈s.subs):t.words + 1<=s.words:=by
 rw [words_subs s]
 have:=iK (SD (f:=words) h)
 omega
end Sy
noncomputable def aK (H:Hp):V->Sy->Prop
 | v,.holds w c=>∃ a,v=.ref a/\H a=some (.tup [.str "holds",.int w,.int c])
 | v,.sees h=>∃ a,v=.ref a/\H a=some (.tup [.str "sees",.int h])
 | v,.not s=>∃ a x,v=.ref a/\H a=some (.tup [.str "not",x])/\aK H x s
 | v,.and s t=>∃ a x y,v=.ref a/\H a=some (.tup [.str "and",x,y])/\aK H x s/\aK H y t
 | v,.or s t=>∃ a x y,v=.ref a/\H a=some (.tup [.str "or",x,y])/\aK H x s/\aK H y t
 | v,.knows h s=>∃ a x,v=.ref a/\H a=some (.tup [.str "knows",.int h,x])/\aK H x s
 | v,.all g s=>∃ a b x,v=.ref a/\H a=some (.tup [.str "all",.ref b,x])/\H b=some (.tup (av g))/\aK H x s
 | v,.common g s=>∃ a b x,v=.ref a/\H a=some (.tup [.str "common",.ref b,x])/\H b=some (.tup (av g))/\aK H x s
theorem aK.keep {H H':Hp} (k:fq H H'):∀ {s:Sy} {v:V},aK H v s->aK H' v s
 | .holds _ _,_,⟨a,e,h⟩=>⟨a,e,k _ _ h⟩
 | .sees _,_,⟨a,e,h⟩=>⟨a,e,k _ _ h⟩
 | .not _,_,⟨a,x,e,h,r⟩=>⟨a,x,e,k _ _ h,aK.keep k r⟩
 | .and _ _,_,⟨a,x,y,e,h,r,q⟩=>⟨a,x,y,e,k _ _ h,aK.keep k r,aK.keep k q⟩
 | .or _ _,_,⟨a,x,y,e,h,r,q⟩=>⟨a,x,y,e,k _ _ h,aK.keep k r,aK.keep k q⟩
 | .knows _ _,_,⟨a,x,e,h,r⟩=>⟨a,x,e,k _ _ h,aK.keep k r⟩
 | .all _ _,_,⟨a,b,x,e,h,i,r⟩=>⟨a,b,x,e,k _ _ h,k _ _ i,aK.keep k r⟩
 | .common _ _,_,⟨a,b,x,e,h,i,r⟩=>⟨a,b,x,e,k _ _ h,k _ _ i,aK.keep k r⟩
noncomputable def ip (form:List Str) (items:List V):List V:=((form.zip items).filter fun p=>decide (p.1=("saying":Str))).map (·.2)
noncomputable def gA (H:Hp) (xs:List V) (ss:List Sy):Prop:=Paired (aK H) xs ss
theorem gA.keep {H H':Hp} (k:fq H H') {xs:List V} {ss:List Sy} (h:gA H xs ss):gA H' xs ss:=Paired.mapP h fun _ _ r=>r.keep k
theorem ns1:decide (("holder":Str)="saying")=false:=by decide +kernel
theorem ns2:decide (("card":Str)="saying")=false:=by decide +kernel
theorem ns3:decide (("hand":Str)="saying")=false:=by decide +kernel
theorem ns4:decide (("hands":Str)="saying")=false:=by decide +kernel
theorem Ir {H:Hp} {v:V} {s:Sy} (h:aK H v s):∃ a items,v=.ref a/\H a=some (.tup (.str s.word :: items))/\items.length=s.form.length/\gA H (ip s.form items) s.subs:=by
 cases s with
 | holds w c=>obtain ⟨a,e,h⟩:=h; exact ⟨a,_,e,h,rfl,by simp only [ip,Sy.form,MR,Nv,Nl,ns1,ns2]; exact .nil⟩
 | sees w=>obtain ⟨a,e,h⟩:=h; exact ⟨a,_,e,h,rfl,by simp only [ip,Sy.form,MR,Nv,Nl,ns3]; exact .nil⟩
 | not s=>obtain ⟨a,x,e,h,r⟩:=h; exact ⟨a,_,e,h,rfl,by simp only [ip,Sy.form,MR,Nv,Nl,decide_true]; exact .cons r .nil⟩
 | and s t=>obtain ⟨a,x,y,e,h,r,q⟩:=h; exact ⟨a,_,e,h,rfl,by simp only [ip,Sy.form,MR,Nv,Nl,decide_true]; exact .cons r (.cons q .nil)⟩
 | or s t=>obtain ⟨a,x,y,e,h,r,q⟩:=h; exact ⟨a,_,e,h,rfl,by simp only [ip,Sy.form,MR,Nv,Nl,decide_true]; exact .cons r (.cons q .nil)⟩
 | knows w s=>obtain ⟨a,x,e,h,r⟩:=h; exact ⟨a,_,e,h,rfl,by simp only [ip,Sy.form,MR,Nv,Nl,decide_true,ns3]; exact .cons r .nil⟩
 | all g s=>obtain ⟨a,b,x,e,h,i,r⟩:=h; exact ⟨a,_,e,h,rfl,by simp only [ip,Sy.form,MR,Nv,Nl,decide_true,ns4]; exact .cons r .nil⟩
 | common g s=>obtain ⟨a,b,x,e,h,i,r⟩:=h; exact ⟨a,_,e,h,rfl,by simp only [ip,Sy.form,MR,Nv,Nl,decide_true,ns4]; exact .cons r .nil⟩
set_option genInjectivity false in
structure Glo where
 forms:Addr
 cw:Addr
 f1:Addr
 f2:Addr
 f3:Addr
 f4:Addr
 f5:Addr
 f6:Addr
 f7:Addr
 f8:Addr
noncomputable def Glo.kvs (G:Glo):List (Str×V):=[("holds",.ref G.f1),("not",.ref G.f2),("and",.ref G.f3),("or",.ref G.f4),("knows",.ref G.f5),("all",.ref G.f6),("common",.ref G.f7),("sees",.ref G.f8)]
structure uI (K:Fg) (G:Glo):Prop where
 t1:ka K G.f1 [.str "holder",.str "card"]
 t2:ka K G.f2 [.str "saying"]
 t3:ka K G.f3 [.str "saying",.str "saying"]
 t4:ka K G.f4 [.str "saying",.str "saying"]
 t5:ka K G.f5 [.str "hand",.str "saying"]
 t6:ka K G.f6 [.str "hands",.str "saying"]
 t7:ka K G.f7 [.str "hands",.str "saying"]
 t8:ka K G.f8 [.str "hand"]
theorem uI.form {K:Fg} {G:Glo} (g:uI K G) (s:Sy):∃ f,G.kvs.lookup s.word=some (.ref f)/\ka K f (s.form.map V.str):=by
 cases s with
 | holds w c=>exact ⟨G.f1,rfl,g.t1⟩
 | sees w=>exact ⟨G.f8,rfl,g.t8⟩
 | not s=>exact ⟨G.f2,rfl,g.t2⟩
 | and s t=>exact ⟨G.f3,rfl,g.t3⟩
 | or s t=>exact ⟨G.f4,rfl,g.t4⟩
 | knows w s=>exact ⟨G.f5,rfl,g.t5⟩
 | all g' s=>exact ⟨G.f6,rfl,g.t6⟩
 | common g' s=>exact ⟨G.f7,rfl,g.t7⟩
theorem kR (x:V) (xs:List V):atI (x :: xs) 0=some x:=by
 have:atI (x :: xs) ((0:Nat):Int)=some x:=cB rfl
 exact this
theorem EK (form:List Str) (items:List V) (i:Nat) (f:Str) (x:V) (hf:form[i]?=some f) (hx:items[i]?=some x):ip (form.take (i + 1)) (items.take (i + 1))=ip (form.take i) (items.take i)++(if f="saying" then [x] else []):=by
 unfold ip
 have e:(form.take (i + 1)).zip (items.take (i + 1))=(form.take i).zip (items.take i)++[(f,x)]:=by
  rw [MW,MW,hf,hx]
  rw [List.zip_append (by
   have h1:=(Li.mp hf).1
   have h2:=(Li.mp hx).1
   rw [MF,MF]
   omega)]
  rfl
 rw [e,Qx,LI]
 congr 1
 by_cases h:f="saying"
 ·rw [if_pos h,Ph (by simpa using h)]
  rfl
 ·rw [if_neg h,Pi (by simpa using h)]
  rfl
theorem F7 (form:List Str) (items:List V):(ip form items).length<=form.length:=by
 unfold ip
 rw [Lf]
 refine LS (RP _ _) ?_
 rw [Oz]
 omega
theorem Sy.form_len (s:Sy):s.form.length<=2:=by cases s <;> simp [Sy.form]
theorem mj {H:Hp} {xs:List V} {ss:List Sy} {i:Nat} {x:V} (h:gA H xs ss) (e:xs[i]?=some x):∃ s,ss[i]?=some s/\aK H x s:=kC h e
theorem gf {H:Hp} {xs:List V} {ss:List Sy} (h:gA H xs ss):xs.length=ss.length:=by
 induction h with
 | nil=>rfl
 | cons _ _ ih=>rw [LP,LP,ih]
end L2
end
section
namespace L2
open PySem
noncomputable def J3 (t1 t2:String):Bool:=t1 == t2 || (t1 == "bool" && t2 == "int")
noncomputable def EL:List String:=["NoneType","bool","int","str","tuple","list","dict"]
noncomputable def BC:List String:=["bool","int","str","tuple","list"]
theorem zE (K:Fg) (t:String):Mg K (.type t) (.type t)=some true:=by unfold Mg; rw [if_pos (beq_self_eq_true _)]
theorem J4 {K:Fg} {t1 t2:String} {b:Bool} (h:(if (MC t1 == MC t2)=true then some true else if Rq t2=true then (RM t1).map (·.contains (.type t2)) else none)=some b):Mg K (.type t1) (.type t2)=some b:=h
theorem BD (K:Fg):∀ t1∈EL,∀ t2∈BC,Mg K (.type t1) (.type t2)=some (J3 t1 t2):=by
 have go:∀ t1∈EL,∀ t2∈BC,(if (MC t1 == MC t2)=true then some true else if Rq t2=true then (RM t1).map (·.contains (.type t2)) else none)=some (J3 t1 t2):=by decide +kernel
 exact fun t1 h1 t2 h2=>J4 (go t1 h1 t2 h2)
end L2
end
namespace L2
open PySem PyProof.Rows
section
variable {K:Fg} {vs:List V} {H:Hp} {Q:VK} {E:XK}
open KF
open Classical in
noncomputable def blV (n:Nat) (P:Nat->Prop):List V:=(Lv n).map fun i=>V.bl (decide (P i))
theorem cdf {p:Prop} (h:¬ p):false=@decide p (Nq p):=(@decide_eq_false p (Nq p) h).symm
theorem cdt {p:Prop} (h:p):true=@decide p (Nq p):=(@decide_eq_true p (Nq p) h).symm
theorem cde {p q:Prop} [i:Decidable p] (h:p↔q):decide p=@decide q (Nq q):=@decide_eq_decide p q i (Nq q) |>.mpr h
section
open Classical
variable {n i:Nat} {P P':Nat->Prop}
theorem cK (n:Nat) (P:Nat->Prop):(blV n P).length=n:=by unfold blV; simp
theorem nh (h:i < n):(blV n P)[i]?=some (.bl (decide (P i))):=by unfold blV; rw [Lx,MJ h]; rfl
theorem J5 (h:i < n):atI (blV n P) (i:Int)=some (.bl (decide (P i))):=cB (nh h)
theorem ni {x:V} (h:(blV n P)[i]?=some x):i < n/\x=.bl (decide (P i)):=by
 have hi:i < n:=by have:=(Li.mp h).1; rw [cK] at this; exact this
 rw [nh hi] at h
 exact ⟨hi,(Lu h).symm⟩
theorem qq (h:∀ i,i < n->(P i↔P' i)):blV n P=blV n P':=by
 unfold blV
 refine M9 fun i hi=>?_
 rw [show P i=P' i from propext (h i (MY.mp hi))]
theorem fw (n:Nat) (P:Nat->Prop):blV (n + 1) P=blV n P++[.bl (decide (P n))]:=by unfold blV; rw [N2,LI]; rfl
theorem Iu (h:i < n) {b:Bool} (hb:∀ j,j < n->j≠i->(P j↔P' j)) (hi:b=decide (P' i)):(blV n P).set i (.bl b)=blV n P':=by
 refine Nu fun k=>?_
 rw [Oa,cK]
 by_cases e:i=k
 ·subst e
  rw [if_pos rfl,if_pos h,nh h,hi]
 ·rw [if_neg e]
  by_cases hk:k < n
  ·rw [nh hk,nh hk,show P k=P' k from propext (hb k hk (fun z=>e z.symm))]
  ·rw [LJ (by rw [cK]; omega),LJ (by rw [cK]; omega)]
theorem zF (n:Nat) (h:∀ i,P i):(LX n [V.bl true]).flatten=blV n P:=by
 induction n with
 | zero=>rfl
 | succ n ih=>
  rw [fw,<-ih,OP,List.flatten_append,decide_eq_true (h n)]
  simp
theorem F8 (n:Nat) (P:Nat->Prop):∀ x∈blV n P,Ct x=true:=fun x hx=>by
 unfold blV at hx
 obtain ⟨i,_,rfl⟩:=Nz.mp hx
 rfl
end
noncomputable def rh (_:Fg):Sp:=fun vs H Q _=>∃ (a b:Addr) (n:Nat) (P P':Nat->Prop),vs=[.ref a,.ref b]/\H a=some (.lst (blV n P))/\H b=some (.lst (blV n P'))/\n<=100000/\
 ∀ p H',H p=none->am H H'->H' p=some (.lst (blV n fun i=>P i/\P' i))->Q (.ref p) H'
noncomputable def uJ (K:Fg):TS:=(aJ (bV (qb bL bL K (aa (ab 0) (aa (ab 1) af))) (fun _ _ _ _=>(jn K 2 (cc (ao 0) (cc (ao 1) jm)))) (fun _ _ _ _=>bH) (fun _ _ _ _=>(lV (ab 0) (ab 1))) [none,none]))
section
open Classical
theorem Iv (h:rh K vs H Q E):uJ K { nx:=fun _ H'=>Q .non H',rt:=Q } (start ["ones","others"] vs) H:=by
 obtain ⟨a,b,n,P,P',rfl,ea,eb,hn,q⟩:=h
 show uJ K _ [some _,some _] _
 unfold uJ
 walk_at "rd"
 refine qe (S1:=bL) (S2:=bL) _ _ (SqL.of ea) (SqL.of eb) (fun H' s=>s.seq (SqL.of ea)) (fun H' s=>s.seq (SqL.of eb)) (by rw [cK]; omega) (fun i acc _=>acc=blV i fun i=>P i/\P' i) (fun _ _=>rfl) ?_ ?_
 ·rintro p hp C s' H' fp i x y T acc H2 H3 hx hy ⟨s2,e2,l2,rfl⟩ hT s3 e3 e4
  obtain ⟨hi,rfl⟩:=ni hx
  obtain ⟨_,rfl⟩:=ni hy
  walk_at "rd"
  refine iJ (SqT.of e3) ?_
  walk_at "rd"
  by_cases h:P i
  ·rw [decide_eq_true h]
   refine p0 ?_
   walk_at "rd"
   refine bi.put hp (fun _ _ _ _ r _=>r) (s2.trans s3) e4 l2 ?_
   rw [fw]
   congr 3
   exact decide_eq_decide.mpr ⟨fun q=>⟨h,q⟩,fun q=>q.2⟩
  ·rw [decide_eq_false h]
   refine nP ?_
   refine bi.put hp (fun _ _ _ _ r _=>r) (s2.trans s3) e4 l2 ?_
   rw [fw]
   congr 3
   exact cdf fun q=>h q.1
 ·rintro p acc H2 hp s2 e2 rfl
  rw [cK,cK,O6] at e2
  exact q _ _ hp s2 e2
end
noncomputable def qr (_:Fg):Sp:=fun vs H Q _=>∃ (a b:Addr) (n:Nat) (P P':Nat->Prop),vs=[.ref a,.ref b]/\H a=some (.lst (blV n P))/\H b=some (.lst (blV n P'))/\n<=100000/\
 ∀ p H',H p=none->am H H'->H' p=some (.lst (blV n fun i=>P i\/P' i))->Q (.ref p) H'
noncomputable def ow (K:Fg):TS:=(aJ (bV (qb bL bL K (aa (ab 0) (aa (ab 1) af))) (fun _ _ _ _=>(jn K 2 (cc (ao 0) (cc (ao 1) jm)))) (fun _ _ _ _=>bH) (fun _ _ _ _=>(Fu (ab 0) (ab 1))) [none,none]))
section
open Classical
theorem EM (h:qr K vs H Q E):ow K { nx:=fun _ H'=>Q .non H',rt:=Q } (start ["ones","others"] vs) H:=by
 obtain ⟨a,b,n,P,P',rfl,ea,eb,hn,q⟩:=h
 show ow K _ [some _,some _] _
 unfold ow
 walk_at "rd"
 refine qe (S1:=bL) (S2:=bL) _ _ (SqL.of ea) (SqL.of eb) (fun H' s=>s.seq (SqL.of ea)) (fun H' s=>s.seq (SqL.of eb)) (by rw [cK]; omega) (fun i acc _=>acc=blV i fun i=>P i\/P' i) (fun _ _=>rfl) ?_ ?_
 ·rintro p hp C s' H' fp i x y T acc H2 H3 hx hy ⟨s2,e2,l2,rfl⟩ hT s3 e3 e4
  obtain ⟨hi,rfl⟩:=ni hx
  obtain ⟨_,rfl⟩:=ni hy
  walk_at "rd"
  refine iJ (SqT.of e3) ?_
  walk_at "rd"
  by_cases h:P i
  ·rw [decide_eq_true h]
   refine p0 ?_
   refine bi.put hp (fun _ _ _ _ r _=>r) (s2.trans s3) e4 l2 ?_
   rw [fw]
   congr 3
   exact cdt (.inl h)
  ·rw [decide_eq_false h]
   refine nP ?_
   walk_at "rd"
   refine bi.put hp (fun _ _ _ _ r _=>r) (s2.trans s3) e4 l2 ?_
   rw [fw]
   congr 3
   exact decide_eq_decide.mpr ⟨.inr,fun q=>q.resolve_left h⟩
 ·rintro p acc H2 hp s2 e2 rfl
  rw [cK,cK,O6] at e2
  exact q _ _ hp s2 e2
end
noncomputable def KN (n:Nat) (v:List Nat) (P:Nat->Prop) (i:Nat):Prop:=∀ j,j < n->v.getD j 0=v.getD i 0->P j
theorem ox {n:Nat} {v:List Nat} (h:Within n v) {i:Nat} (hi:i < n):v[i]?=some (v.getD i 0)/\v.getD i 0 < n:=by
 have hl:i < v.length:=by rw [h.1]; exact hi
 have e:v[i]?=some (v.getD i 0):=by rw [Lo,Ld hl]; rfl
 exact ⟨e,h.2 _ (Lw e)⟩
noncomputable def ju (_:Fg):Sp:=fun vs H Q _=>∃ (a b:Addr) (n:Nat) (v:List Nat) (P:Nat->Prop),vs=[.ref a,.ref b]/\H a=some (.lst (av v))/\H b=some (.lst (blV n P))/\Within n v/\n<=100000/\
 ∀ p H',H p=none->am H H'->H' p=some (.lst (blV n (KN n v P)))->Q (.ref p) H'
noncomputable def rj (K:Fg):TS:=(ar (aH (tOp FP (fv (aa (tC (.bl true)) af)) (tCB (b9 K) (aa (ab 0) af))) (ao 2))
 (ar (dk (qb bL bL K (aa (ab 0) (aa (ab 1) af))) (jn K 2 (cc (ao 3) (cc (ao 4) jm))) (bz (fZ (tB (ab 4))) (aH (tC (.bl false)) (pT (ab 2) (ab 3) lY)) bf))
 (aJ (bV (dg K (ab 0)) (fun _ _ _ _=>(ao 0)) (fun _ _ _ _=>bH) (fun _ _ _ _=>(tOp (cV K) (ab 1) (ab 0))) [none,some 2]))))
section
open Classical
theorem F9 (h:ju K vs H Q E):rj K { nx:=fun _ H'=>Q .non H',rt:=Q } (start ["view","truths","sure","least","truth"] vs) H:=by
 obtain ⟨a,b,n,v,P,rfl,ea,eb,hv,hn,q⟩:=h
 show rj K _ [some _,some _,none,none,none] _
 unfold rj
 have hvl:=hv.1
 walk_at "rd"
 refine ⟨by simp [Ll],fun l H1 hl s1 e1=>?_⟩
 walk_at "rd"
 refine fS (SqL.of (s1 _ _ ea)) ?_
 walk_at "rd"
 rw [bg,hvl]
 refine ⟨l,(n:Int),[.bl true],rfl,rfl,e1,by omega,by omega,by rw [Ll]; simp; omega,fun p H2 hp s2 e2=>?_⟩
 rw [N9,zF (P:=fun x=>∀ j,j < 0->v.getD j 0=x->P j) n (fun _ j h=>absurd h (by omega))] at e2
 have s02:=s1.trans s2
 have hpH:H p=none:=s1.free hp
 walk_at "rd"
 refine JV (S1:=bL) (S2:=bL) (av v) (blV n P) (SqL.of (s02 _ _ ea)) (SqL.of (s02 _ _ eb)) (fun i σ H3=>∃ (u1 u2:Option V),σ=[some (.ref a),some (.ref b),some (.ref p),u1,u2]/\am H H3/\H3 p=some (.lst (blV n fun x=>∀ j,j < i->v.getD j 0=x->P j))) ?_ ?_ ?_ ?_
 ·exact ⟨_,_,rfl,s02,e2⟩
 ·rintro i σ H3 ⟨u1,u2,rfl,s3,e3⟩
  exact ⟨SqL.of (s3 _ _ ea),SqL.of (s3 _ _ eb)⟩
 ·rintro i x y T σ H3 H4 hx hy ⟨u1,u2,rfl,s3,e3⟩ hT s4 eT
  obtain ⟨hi,rfl⟩:=ni hy
  obtain ⟨z,hz,rfl⟩:=iD hx
  obtain ⟨hz',hzn⟩:=ox hv hi
  rw [hz] at hz'
  have ez:z=v.getD i 0:=Lu hz'
  refine iJ (SqT.of eT) ?_
  walk_at "rd"
  by_cases h:P i
  ·rw [decide_eq_true h]
   walk_at "rd"
   refine ⟨_,_,rfl,s3.trans s4,?_⟩
   rw [s4 _ _ e3]
   congr 2
   refine qq fun x _=>⟨fun f j hj e=>?_,fun f j hj e=>f j (by omega) e⟩
   by_cases c:j=i
   ·rw [c]; exact h
   ·exact f j (by omega) e
  ·rw [decide_eq_false h]
   walk_at "rd"
   refine qd (s4 _ _ e3) (wm (by rw [cK,ez]; exact hzn)) ?_
   refine ⟨_,_,rfl,(s3.trans s4).off hpH iB,?_⟩
   rw [ay]
   congr 2
   refine Iu (by rw [ez]; exact hzn) (fun x _ hxz=>⟨fun f j hj e=>?_,fun f j hj e=>f j (by omega) e⟩) ?_
   ·by_cases c:j=i
    ·subst c
     exact absurd (e.symm.trans ez.symm) hxz
    ·exact f j (by omega) e
   ·exact cdf fun f=>h (f i (by omega) ez.symm)
 ·rintro σ H3 ⟨u1,u2,rfl,s3,e3⟩
  rw [bg,cK,hvl,O6] at e3
  walk_at "rd"
  refine gx (av v) (SqL.of (s3 _ _ ea)) (by rw [bg]; omega) (fun i acc _=>acc=blV i (KN n v P)) (fun _ _=>rfl) ?_ ?_
  ·rintro r hr C s' H' fp i x acc H4 hx ⟨s4,e4,l4,rfl⟩
   obtain ⟨z,hz,rfl⟩:=iD hx
   have hi:i < n:=by have:=(Li.mp hz).1; omega
   obtain ⟨hz',hzn⟩:=ox hv hi
   rw [hz] at hz'
   have ez:z=v.getD i 0:=Lu hz'
   walk_at "rd"
   refine ce (SqL.of (s4 _ _ e3)) (J5 (by rw [ez]; exact hzn)) ?_
   refine bi.put hr (fun _ _ _ _ r _=>r) s4 e4 l4 ?_
   rw [fw]
   congr 3
   rw [ez]
   rfl
  ·rintro r acc H4 hr s4 e4 rfl
   rw [bg,hvl] at e4
   exact q _ _ (s3.free hr) (s3.trans s4) e4
end
noncomputable def iN (_:Fg):Sp:=fun vs H Q _=>∃ (a b:Addr) (n:Nat) (ws:List (List Nat)) (P:Nat->Prop),vs=[.ref a,.ref b]/\cD H a ws/\H b=some (.lst (blV n P))/\(∀ v∈ws,Within n v)/\n<=100000/\
 ∀ p H',H p=none->am H H'->H' p=some (.lst (blV n fun i=>∀ v∈ws,KN n v P i))->Q (.ref p) H'
noncomputable def gB (K:Fg):TS:=(ar (aH (tOp FP (fv (aa (tC (.bl true)) af)) (tCB (b9 K) (aa (ab 1) af))) (ao 2))
 (ar (dk (dg K (ab 0)) (ao 3) (aH (au (rh K) [] E0 (aa (ab 2) (aa (au (ju K) [] E0 (aa (ab 3) (aa (ab 1) af))) af))) (ao 2)))
 (aJ (ab 2))))
theorem uK (h:iN K vs H Q E):gB K { nx:=fun _ H'=>Q .non H',rt:=Q } (start ["views","truths","answers","view"] vs) H:=by
 obtain ⟨a,b,n,ws,P,rfl,hV,eb,hw,hn,q⟩:=h
 show gB K _ [some _,some _,none,none] _
 unfold gB
 obtain ⟨rs,ea,hlr,hr⟩:=ou hV
 walk_at "rd"
 refine ⟨by simp [Ll],fun l H1 hl s1 e1=>?_⟩
 walk_at "rd"
 refine fS (SqL.of (s1 _ _ eb)) ?_
 walk_at "rd"
 rw [cK]
 refine ⟨l,(n:Int),[.bl true],rfl,rfl,e1,by omega,by omega,by rw [Ll]; simp; omega,fun p H2 hp s2 e2=>?_⟩
 rw [N9,zF (P:=fun i=>∀ v∈ws.take 0,KN n v P i) n (fun _ v h=>by simp at h)] at e2
 have s02:=s1.trans s2
 have hpH:H p=none:=s1.free hp
 walk_at "rd"
 refine kQ (rs.map V.ref) (SqL.of (s02 _ _ ea)) (fun i σ H3=>∃ (u1:Option V) (p:Addr),σ=[some (.ref a),some (.ref b),some (.ref p),u1]/\H p=none/\am H H3/\H3 p=some (.lst (blV n fun k=>∀ v∈ws.take i,KN n v P k))) ?_ ?_ ?_ ?_
 ·exact ⟨_,p,rfl,hpH,s02,e2⟩
 ·rintro i σ H3 _ ⟨u1,p,rfl,hp,s3,e3⟩
  exact SqL.of (s3 _ _ ea)
 ·rintro i x σ H3 hx ⟨u1,p,rfl,hp,s3,e3⟩
  obtain ⟨c,hc,rfl⟩:=ng hx
  obtain ⟨v,hv,ev⟩:=hr i c hc
  walk_at "rd"
  refine ⟨c,b,n,v,P,rfl,s3 _ _ ev,s3 _ _ eb,hw v (Lw hv),hn,fun k H4 hk s4 e4=>?_⟩
  walk_at "rd"
  refine ⟨p,k,n,_,_,rfl,s4 _ _ e3,e4,hn,fun k2 H5 hk2 s5 e5=>?_⟩
  have s35:=s4.trans s5
  refine ⟨_,k2,rfl,s3.free (s4.free hk2),s3.trans s35,?_⟩
  rw [e5]
  congr 2
  refine qq fun i _=>?_
  rw [cX hv]
  exact ⟨fun h w hw=>(LU.mp hw).elim (h.1 w) fun z=>by rw [Lg.mp z]; exact h.2,fun h=>⟨fun w hw=>h w (Nm _ hw),h v (by simp)⟩⟩
 ·rintro σ H3 ⟨u1,p,rfl,hp,s3,e3⟩
  rw [Lf,hlr,LZ] at e3
  walk_at "rd"
  exact q _ _ hp s3 e3
noncomputable def Iw (H:Hp) (a:Addr) (ps:List (List Int)):Prop:=∃ rs:List Addr,H a=some (.lst (rs.map V.ref))/\Paired (fun (r:Addr) (xs:List Int)=>H r=some (.tup (xs.map V.int))) rs ps
noncomputable def CA (n:Nat) (ps:List (List Int)) (v:List Nat) (j:Nat):Prop:=ps.getD j []=ps.getD (v.getD j 0) []
noncomputable def wo (_:Fg):Sp:=fun vs H Q _=>∃ (a b:Addr) (n:Nat) (v:List Nat) (ps:List (List Int)),vs=[.ref a,.ref b]/\Iw H a ps/\ps.length=n/\H b=some (.lst (av v))/\Within n v/\n<=100000/\
 ∀ p H',H p=none->am H H'->H' p=some (.lst (blV n (KN n v (CA n ps v))))->Q (.ref p) H'
theorem xu {H:Hp} {rs:List Addr} {ps:List (List Int)} (h:Paired (fun (r:Addr) (xs:List Int)=>H r=some (.tup (xs.map V.int))) rs ps) {i:Nat} (hi:i < ps.length):∃ r,rs[i]?=some r/\H r=some (.tup ((ps.getD i []).map V.int)):=by
 have hl:=L6 h
 obtain ⟨r,hr⟩:∃ r,rs[i]?=some r:=⟨_,Ld (by omega)⟩
 obtain ⟨xs,hx,e⟩:=ck h hr
 refine ⟨r,hr,?_⟩
 rw [Lo,hx]
 exact e
noncomputable def uL (K:Fg):TS:=(aJ (au (ju K) [] E0 (aa (ab 1) (aa (bV (qb bL bL K (aa (ab 0) (aa (ab 1) af))) (fun _ _ _ _=>(jn K 2 (cc (ao 0) (cc (ao 1) jm)))) (fun _ _ _ _=>bH) (fun _ _ _ _=>(tOp (nX (SqT K) false) (ab 0) (tOp (cV K) (ab 2) (ab 1)))) [none,none,some 0]) af))))
section
open Classical
theorem Ix (h:wo K vs H Q E):uL K { nx:=fun _ H'=>Q .non H',rt:=Q } (start ["piles","view"] vs) H:=by
 obtain ⟨a,b,n,v,ps,rfl,⟨rs,ea,hr⟩,hpl,eb,hv,hn,q⟩:=h
 show uL K _ [some _,some _] _
 unfold uL
 have hlr:rs.length=ps.length:=L6 hr
 have hvl:=hv.1
 walk_at "rd"
 refine qe (S1:=bL) (S2:=bL) (rs.map V.ref) (av v) (SqL.of ea) (SqL.of eb) (fun H' s=>s.seq (SqL.of ea)) (fun H' s=>s.seq (SqL.of eb)) (by rw [Lf]; omega) (fun i acc _=>acc=blV i (CA n ps v)) (fun _ _=>rfl) ?_ ?_
 ·rintro p hp C s' H' fp i x y T acc H2 H3 hx hy ⟨s2,e2,l2,rfl⟩ hT s3 e3 e4
  obtain ⟨c,hc,rfl⟩:=ng hx
  obtain ⟨z,hz,rfl⟩:=iD hy
  have hi:i < n:=by have:=(Li.mp hz).1; omega
  obtain ⟨hz',hzn⟩:=ox hv hi
  rw [hz] at hz'
  have ez:z=v.getD i 0:=Lu hz'
  obtain ⟨c',hc',ec⟩:=xu hr (i:=i) (by omega)
  rw [hc] at hc'
  cases hc'
  obtain ⟨d,hd,ed⟩:=xu hr (i:=z) (by omega)
  have s23:=s2.trans s3
  walk_at "rd"
  refine iJ (SqT.of e3) ?_
  walk_at "rd"
  refine ce (SqL.of (s23 _ _ ea)) (v:=.ref d) (cB (by rw [Lx,hd]; rfl)) ?_
  walk_at "rd"
  refine KD (SqT.of (s23 _ _ ec)) (SqT.of (s23 _ _ ed)) ?_
  refine bi.put hp (fun _ _ _ _ r _=>r) s23 e4 l2 ?_
  rw [fw]
  congr 3
  rw [ez]
  exact cde Iff.rfl
 ·rintro p acc H2 hp s2 e2 rfl
  rw [Lf,bg,hlr,hpl,hvl,O6] at e2
  walk_at "rd"
  exact ⟨b,p,n,v,_,rfl,s2 _ _ eb,e2,hv,hn,fun r H3 hr s3 e3=>q r H3 (s2.free hr) (s2.trans s3) e3⟩
end
end
section
open KF
noncomputable def TR (n:Nat) (ws vs:List (List Nat)):Sy->Nat->Prop
 | .holds w c,i=>(ws.getD i []).getD c 0=w
 | .sees h,i=>KN n (vs.getD h []) (CA n (ws.map fun w=>rf w (vs.length:Nat)) (vs.getD h [])) i
 | .not s,i=>¬ TR n ws vs s i
 | .and s t,i=>TR n ws vs s i/\TR n ws vs t i
 | .or s t,i=>TR n ws vs s i\/TR n ws vs t i
 | .knows h s,i=>KN n (vs.getD h []) (TR n ws vs s) i
 | .all g s,i=>∀ v∈g.map (fun h=>vs.getD h []),KN n v (TR n ws vs s) i
 | .common g s,i=>∀ j,j < n->eG (kD n (g.map fun h=>vs.getD h [])) i j->TR n ws vs s j
theorem uM {n:Nat} {P:Nat->Nat->Prop} {r:List Nat} (h:qm n P r) {i j:Nat} (hi:i < n) (hj:j < n):r.getD j 0=r.getD i 0↔eG P i j:=by
 have ei:r[i]?=some (r.getD i 0):=by rw [Lo,Ld (by rw [h.len]; exact hi)]; rfl
 have ej:r[j]?=some (r.getD j 0):=by rw [Lo,Ld (by rw [h.len]; exact hj)]; rfl
 constructor
 ·intro e
  have c1:=h.conn _ _ ei
  have c2:=h.conn _ _ ej
  rw [e] at c2
  exact .trans c1 (.symm c2)
 ·intro c
  have:=h.same i j hi hj c
  rw [ei,ej] at this
  exact (Lu this).symm
theorem A3 {n:Nat} {P:Nat->Nat->Prop} {r:List Nat} (h:qm n P r):Within n r:=⟨h.len,fun x hx=>by
 obtain ⟨i,hi⟩:=PJ.mp hx
 have:=h.le i x hi
 have:=(Li.mp hi).1
 rw [h.len] at this
 omega⟩
theorem Iy {n:Nat} {P:Nat->Nat->Prop} {r:List Nat} (h:qm n P r) {F:Nat->Prop} {i:Nat} (hi:i < n):KN n r F i↔∀ j,j < n->eG P i j->F j:=
 ⟨fun k j hj c=>k j hj ((uM h hi hj).mpr c),fun k j hj e=>k j hj ((uM h hi hj).mp e)⟩
theorem uN:∀ {g:List Nat} {m:Nat},g.Pairwise (· < ·)->(∀ k∈g,k < m)->g.length<=m:=by
 intro g m hp hk
 have go:∀ (l:List Nat) (lo:Nat),l.Pairwise (· < ·)->(∀ k∈l,lo<=k/\k < m)->l.length + lo<=m\/l=[]:=by
  intro l
  induction l with
  | nil=>intro _ _ _; exact .inr rfl
  | cons x r ih=>
   intro lo hp hk
   obtain ⟨h1,h2⟩:=Qz.mp hp
   have hx:=hk x (Lj ..)
   rcases ih (x + 1) h2 (fun k hkr=>⟨h1 k hkr,(hk k (Ln _ hkr)).2⟩) with h | h
   ·left; rw [LP]; omega
   ·left; rw [h]; simp; omega
 rcases go g 0 hp (fun k h=>⟨Me _,hk k h⟩) with h | h
 ·omega
 ·rw [h]; simp
structure Table (H:Hp) (a b:Addr) (c n:Nat) (ws vs:List (List Nat)):Prop where
 deals:bx H a ws
 len:ws.length=n
 cards:∀ w∈ws,w.length=c
 small:n<=100000
 few:c<=1000
 views:cD H b vs
 win:∀ v∈vs,Within n v
 hands:vs.length<=1000
theorem Table.same {H H':Hp} {a b:Addr} {c n:Nat} {ws vs:List (List Nat)} (t:Table H a b c n ws vs) (s:am H H'):Table H' a b c n ws vs:=⟨t.deals.same' s,t.len,t.cards,t.small,t.few,t.views.same s,t.win,t.hands⟩
theorem nj {ws:List (List Nat)} {i:Nat} {w:List Nat} (h:ws[i]?=some w):ws.getD i []=w:=by rw [Lo,h]; rfl
theorem rk {H:Hp} {b:Addr} {vs:List (List Nat)} (h:cD H b vs) {k:Nat} (hk:k < vs.length):∃ (rs:List Addr) (r:Addr),H b=some (.lst (rs.map V.ref))/\atI (rs.map V.ref) (k:Int)=some (.ref r)/\H r=some (.lst (av (vs.getD k [])))/\vs.getD k []∈vs:=by
 obtain ⟨rs,e,hl,hr⟩:=ou h
 obtain ⟨r,hrk⟩:∃ r,rs[k]?=some r:=⟨_,Ld (by omega)⟩
 obtain ⟨v,hv,ev⟩:=hr k r hrk
 refine ⟨rs,r,e,cB (by rw [Lx,hrk]; rfl),?_,?_⟩
 ·rw [nj hv]; exact ev
 ·rw [nj hv]; exact Lw hv
noncomputable def bR (_:Fg) (m:Nat):Sp:=fun vals H Q _=>∃ (a b:Addr) (x:V) (c n:Nat) (ws vs:List (List Nat)) (s:Sy),vals=[.ref a,.ref b,x]/\Table H a b c n ws vs/\aK H x s/\s.Ok c vs.length/\s.words<=m/\
 ∀ p H',H p=none->am H H'->H' p=some (.lst (blV n (TR n ws vs s)))->Q (.ref p) H'
noncomputable def jJ (K:Fg) (n:Nat):TS:=(ar (aH (tOp (cJ K) (ab 2) (tC (.int 0))) (ao 3))
 (ar (bz (aY (tOp rEq (ab 3) (tC (.str "holds")))) (aJ (bV (dg K (ab 0)) (fun _ _ _ _=>(ao 0)) (fun _ _ _ _=>bH) (fun _ _ _ _=>(tOp rEq (tOp (cJ K) (ab 0) (tOp (cJ K) (ab 1) (tC (.int 2)))) (tOp (cJ K) (ab 1) (tC (.int 1))))) [none,some 2])) bf)
 (ar (bz (aY (tOp rEq (ab 3) (tC (.str "sees")))) (aJ (au (wo K) [] E0 (aa (bV (dg K (ab 0)) (fun _ _ _ _=>(ao 0)) (fun _ _ _ _=>bH) (fun _ _ _ _=>(au (jH K) [] E0 (aa (ab 0) (aa (tCB (b9 K) (aa (ab 1) af)) af)))) [none,some 1]) (aa (tOp (cV K) (ab 1) (tOp (cJ K) (ab 2) (tC (.int 1)))) af)))) bf)
 (ar (bz (aY (tOp rEq (ab 3) (tC (.str "not")))) (aJ (bV (dg K (au (bR K n) [] E0 (aa (ab 0) (aa (ab 1) (aa (tOp (cJ K) (ab 2) (tC (.int 1))) af))))) (fun _ _ _ _=>(ao 0)) (fun _ _ _ _=>bH) (fun _ _ _ _=>(yv (ab 0))) [none])) bf)
 (ar (bz (aY (tOp rEq (ab 3) (tC (.str "and")))) (aJ (au (rh K) [] E0 (aa (au (bR K n) [] E0 (aa (ab 0) (aa (ab 1) (aa (tOp (cJ K) (ab 2) (tC (.int 1))) af)))) (aa (au (bR K n) [] E0 (aa (ab 0) (aa (ab 1) (aa (tOp (cJ K) (ab 2) (tC (.int 2))) af)))) af)))) bf)
 (ar (bz (aY (tOp rEq (ab 3) (tC (.str "or")))) (aJ (au (qr K) [] E0 (aa (au (bR K n) [] E0 (aa (ab 0) (aa (ab 1) (aa (tOp (cJ K) (ab 2) (tC (.int 1))) af)))) (aa (au (bR K n) [] E0 (aa (ab 0) (aa (ab 1) (aa (tOp (cJ K) (ab 2) (tC (.int 2))) af)))) af)))) bf)
 (ar (aH (au (bR K n) [] E0 (aa (ab 0) (aa (ab 1) (aa (tOp (cJ K) (ab 2) (tC (.int 2))) af)))) (ao 4))
 (ar (bz (aY (tOp rEq (ab 3) (tC (.str "knows")))) (aJ (au (ju K) [] E0 (aa (tOp (cV K) (ab 1) (tOp (cJ K) (ab 2) (tC (.int 1)))) (aa (ab 4) af)))) bf)
 (ar (aH (bV (v4 K (tOp (cJ K) (ab 2) (tC (.int 1)))) (fun _ _ _ _=>(ao 0)) (fun _ _ _ _=>bH) (fun _ _ _ _=>(tOp (cV K) (ab 1) (ab 0))) [none,some 1]) (ao 5))
 (ar (bz (aY (tOp rEq (ab 3) (tC (.str "all")))) (aJ (au (iN K) [] E0 (aa (ab 5) (aa (ab 4) af)))) bf)
 (aJ (au (ju K) [] E0 (aa (au (qp K) [] E0 (aa (tCB (b9 K) (aa (ab 0) af)) (aa (ab 5) af))) (aa (ab 4) af))))))))))))))
noncomputable abbrev A4:List Str:=["deals","views","S","word","inner","some"]
theorem qt {K:Fg} {vs:List V} {H:Hp} {Q:VK} {E:XK} (h:bR K 0 vs H Q E):False:=by
 obtain ⟨a,b,x,c,n,ws,vs,s,rfl,_,_,_,h,_⟩:=h
 have:=s.words_pos
 omega
theorem CB {H:Hp} {rs:List Addr} {ps:List (List Int)} {r:Addr} {xs:List Int} (h:Paired (fun (r:Addr) (xs:List Int)=>H r=some (.tup (xs.map V.int))) rs ps) (e:H r=some (.tup (xs.map V.int))):Paired (fun (r:Addr) (xs:List Int)=>H r=some (.tup (xs.map V.int))) (rs++[r]) (ps++[xs]):=by
 induction h with
 | nil=>exact .cons e .nil
 | cons a _ ih=>exact .cons a ih
theorem CC {H:Hp} {rs:List Addr} {vs:List (List Nat)} {r:Addr} {v:List Nat} (h:Paired (fun (r:Addr) (v:List Nat)=>H r=some (.lst (av v))) rs vs) (e:H r=some (.lst (av v))):Paired (fun (r:Addr) (v:List Nat)=>H r=some (.lst (av v))) (rs++[r]) (vs++[v]):=by
 induction h with
 | nil=>exact .cons e .nil
 | cons a _ ih=>exact .cons a ih
theorem EN {K:Fg} {H:Hp} {b e:Addr} {g:List Nat} {vs:List (List Nat)} {Q:VK} {σ₀:St} {gg:CF TG} {tt:CF TT} {te:CF TE} (hV:cD H b vs) (hg:∀ k∈g,k < vs.length) (hgl:g.length<=1000) (eg:H e=some (.tup (av g)))
  (hs:∀ C s' H' fp (k:Nat) (rs:List Addr) (r:Addr) H2 (R:V->Hp->Prop) (N:Hp->Prop),H2 b=some (.lst (rs.map V.ref))->atI (rs.map V.ref) (k:Int)=some (.ref r)->R (.ref r) H2->gg C s' H' fp (.int (k:Int)) σ₀ H2 fun σ2 H3=>tt C s' H' fp σ2 H3 fun c H4=>if c=true then te C s' H' fp σ2 H4 fun y H5=>R y H5 else N H4)
  (q:∀ p H',H p=none->am H H'->cD H' p (g.map fun h=>vs.getD h [])->Q (.ref p) H'):
  ∃ a',V.ref e=.ref a'/\(∃ xs,SqT K H a' xs)/\∀ p,H p=none->∃ W:Nat->Nat->List V->Hp->Prop,(∃ m,W 0 m [] (upd H p (.lst [])))/\∀ C s' H' fp,cg (Itt K a') (gg C s' H' fp) (tt C s' H' fp) (te C s' H' fp) σ₀ p Q W:=by
 obtain ⟨rs,eb,hl,hr⟩:=ou hV
 refine ⟨e,rfl,⟨_,SqT.of eg⟩,fun p hp=>FI (xs:=av g) (fun i acc H2=>am H H2/\H2 p=some (.lst acc)/\acc.length<=i/\∃ ts:List Addr,acc=ts.map V.ref/\Paired (fun (r:Addr) (v:List Nat)=>H r=some (.lst (av v))) ts ((g.take i).map fun h=>vs.getD h [])) ⟨aW hp _,ay,Le _,[],rfl,.nil⟩ (fun i acc H2 _ c=>⟨c.2.1,c.2.2.1⟩) (fun i acc H2 _ c=>c.1.tup (SqT.of eg)) (by rw [bg,Ll]; omega) (fun C s' H' fp i x acc H2 hx c=>?_) fun acc H2 c=>?_⟩
 ·obtain ⟨k,hk,rfl⟩:=iD hx
  have hkm:=hg k (Lw hk)
  obtain ⟨r,hrk⟩:∃ r,rs[k]?=some r:=⟨_,Ld (by omega)⟩
  obtain ⟨v,hv,ev⟩:=hr k r hrk
  obtain ⟨s2,e2,l2,ts,rfl,ht⟩:=c
  refine hs C s' H' fp k rs r H2 _ _ (s2 _ _ eb) (cB (by rw [Lx,hrk]; rfl)) ⟨e2,s2.upd hp _,ay,by simp at l2 ⊢; omega,ts++[r],by simp,?_⟩
  rw [cX hk,LI]
  exact CC ht (by show H r=some (.lst (av (vs.getD k []))); rw [nj hv]; exact ev)
 ·obtain ⟨s2,e2,l2,ts,rfl,ht⟩:=c
  rw [bg,LZ] at ht
  exact q p H2 hp s2 ⟨ts,e2,Paired.mapP ht fun r v h=>s2 _ _ h⟩
section
open Classical
theorem zG {K:Fg} {m:Nat} {vals:List V} {H:Hp} {Q:VK} {E:XK} (h:bR K (m + 1) vals H Q E):jJ K m { nx:=fun _ H'=>Q .non H',rt:=Q } (start A4 vals) H:=by
 obtain ⟨a,b,x,c,n,ws,vs,s,rfl,T,hS,hok,hw,q⟩:=h
 show jJ K m _ [some _,some _,some _,none,none,none] _
 unfold jJ
 obtain ⟨rs,ea,hr⟩:=id T.deals
 have hlr:rs.length=ws.length:=L6 hr
 have hn:=T.small
 have hlen:=T.len
 cases s with
 | holds w k=>
  obtain ⟨t,rfl,et⟩:=hS
  obtain ⟨hwh,hkc⟩:=hok
  walk_at "rd"
  refine bp (SqT.of et) (i:=0) rfl ?_
  walk_at "rd"
  refine dW rfl ?_
  walk_at "rd"
  refine gx (rs.map V.ref) (SqL.of ea) (by rw [Lf]; omega) (fun i acc _=>acc=blV i (TR n ws vs (.holds w k))) (fun _ _=>rfl) ?_ ?_
  ·rintro p hp C s' H' fp i x acc H2 hx ⟨s2,e2,l2,rfl⟩
   obtain ⟨d,hd,rfl⟩:=ng hx
   obtain ⟨u,hu,eu⟩:=ck hr hd
   have huc:=T.cards u (Lw hu)
   have e1:u[k]?=some (u.getD k 0):=by rw [Lo,Ld (by omega)]; rfl
   walk_at "rd"
   refine bp (SqT.of (s2 _ _ et)) (i:=2) rfl ?_
   walk_at "rd"
   refine bp (SqT.of (s2 _ _ eu)) (lp e1) ?_
   walk_at "rd"
   refine bp (SqT.of (s2 _ _ et)) (i:=1) rfl ?_
   walk_at "rd"
   refine bi.put hp (fun _ _ _ _ r _=>r) s2 e2 l2 ?_
   rw [fw]
   congr 3
   refine cde ?_
   show _↔(ws.getD i []).getD k 0=w
   rw [nj hu]
   omega
  ·rintro p acc H2 hp s2 e2 rfl
   rw [Lf,hlr,hlen] at e2
   exact q _ _ hp s2 e2
 | sees k=>
  obtain ⟨t,rfl,et⟩:=hS
  have hk:k < vs.length:=hok
  walk_at "rd"
  refine bp (SqT.of et) (i:=0) rfl ?_
  walk_at "rd"
  refine aU (by decide) ?_
  walk_at "rd"
  refine dW rfl ?_
  walk_at "rd"
  obtain ⟨vrs,evb,hvl,_⟩:=ou T.views
  refine gx (rs.map V.ref) (SqL.of ea) (by rw [Lf]; omega) (fun i acc H2=>∃ ts:List Addr,acc=ts.map V.ref/\Paired (fun (r:Addr) (xs:List Int)=>H2 r=some (.tup (xs.map V.int))) ts ((ws.take i).map fun w=>rf w (vs.length:Nat))) (fun _ _=>⟨[],rfl,.nil⟩) ?_ ?_
  ·rintro p hp C s' H' fp i x acc H2 hx ⟨s2,e2,l2,ts,rfl,ht⟩
   obtain ⟨d,hd,rfl⟩:=ng hx
   obtain ⟨u,hu,eu⟩:=ck hr hd
   have huc:=T.cards u (Lw hu)
   have:=T.few
   walk_at "rd"
   refine fS (SqL.of (s2 _ _ evb)) ?_
   walk_at "rd"
   rw [Lf,hvl]
   refine ⟨d,u.map fun (s:Nat)=>((s:Nat):Int),(vs.length:Nat),rfl,by rw [<-gd]; exact SqT.of (s2 _ _ eu),by rw [Lf]; omega,fun r H3 s3 e3=>?_⟩
   rw [Lf] at e3
   refine bi.put hp (fun _ _ _ _ ⟨ts,e,r⟩ k=>⟨ts,e,Paired.mapP r fun _ _ z=>k _ _ z⟩) (s2.trans s3) (s3 _ _ e2) l2 ⟨ts++[r],by simp,?_⟩
   rw [cX hu,LI]
   exact CB (Paired.mapP ht fun _ _ z=>s3 _ _ z) e3
  ·rintro p acc H2 hp s2 e2 ⟨ts,rfl,ht⟩
   rw [Lf,hlr,LZ] at ht
   walk_at "rd"
   refine bp (SqT.of (s2 _ _ et)) (i:=1) rfl ?_
   walk_at "rd"
   obtain ⟨vr,r,e1,e3,e4,e5⟩:=rk (T.views.same s2) hk
   refine ce (SqL.of e1) e3 ?_
   walk_at "rd"
   exact ⟨p,r,n,vs.getD k [],_,rfl,⟨ts,e2,ht⟩,by rw [Lf]; exact hlen,e4,T.win _ e5,hn,fun p2 H3 hp2 s3 e6=>q p2 H3 (s2.free hp2) (s2.trans s3) e6⟩
 | not s=>
  obtain ⟨t,y,rfl,et,hy⟩:=hS
  have hw':s.words<=m:=by simp only [Sy.words] at hw; omega
  walk_at "rd"
  refine bp (SqT.of et) (i:=0) rfl ?_
  walk_at "rd"
  refine aU (by decide) ?_
  walk_at "rd"
  refine aU (by decide) ?_
  walk_at "rd"
  refine dW rfl ?_
  walk_at "rd"
  refine bp (SqT.of et) (i:=1) rfl ?_
  walk_at "rd"
  refine ⟨a,b,y,c,n,ws,vs,s,rfl,T,hy,hok,hw',fun l H1 hl s1 e1=>?_⟩
  walk_at "rd"
  refine gx _ (SqL.of e1) (by rw [cK]; omega) (fun i acc _=>acc=blV i (TR n ws vs (.not s))) (fun _ _=>rfl) ?_ ?_
  ·rintro p hp C s' H' fp i x acc H2 hx ⟨s2,e2,l2,rfl⟩
   obtain ⟨hi,rfl⟩:=ni hx
   walk_at "rd"
   refine bi.put hp (fun _ _ _ _ r _=>r) s2 e2 l2 ?_
   rw [fw]
   congr 3
   by_cases z:TR n ws vs s i
   ·rw [decide_eq_true z]; exact cdf fun h=>h z
   ·rw [decide_eq_false z]; exact cdt z
  ·rintro p acc H2 hp s2 e2 rfl
   rw [cK] at e2
   exact q _ _ (s1.free hp) (s1.trans s2) e2
 | and s t=>
  obtain ⟨u,y,z,rfl,et,hy,hz⟩:=hS
  have hw1:s.words<=m:=by simp only [Sy.words] at hw; omega
  have hw2:t.words<=m:=by simp only [Sy.words] at hw; omega
  walk_at "rd"
  refine bp (SqT.of et) (i:=0) rfl ?_
  walk_at "rd"
  refine aU (by decide) ?_
  walk_at "rd"
  refine aU (by decide) ?_
  walk_at "rd"
  refine aU (by decide) ?_
  walk_at "rd"
  refine dW rfl ?_
  walk_at "rd"
  refine bp (SqT.of et) (i:=1) rfl ?_
  walk_at "rd"
  refine ⟨a,b,y,c,n,ws,vs,s,rfl,T,hy,hok.1,hw1,fun l H1 hl s1 e1=>?_⟩
  walk_at "rd"
  refine bp (SqT.of (s1 _ _ et)) (i:=2) rfl ?_
  walk_at "rd"
  refine ⟨a,b,z,c,n,ws,vs,t,rfl,T.same s1,hz.keep s1.keep,hok.2,hw2,fun l2 H2 hl2 s2 e2=>?_⟩
  walk_at "rd"
  exact ⟨l,l2,n,_,_,rfl,s2 _ _ e1,e2,hn,fun p H3 hp s3 e3=>q p H3 (s1.free (s2.free hp)) ((s1.trans s2).trans s3) e3⟩
 | or s t=>
  obtain ⟨u,y,z,rfl,et,hy,hz⟩:=hS
  have hw1:s.words<=m:=by simp only [Sy.words] at hw; omega
  have hw2:t.words<=m:=by simp only [Sy.words] at hw; omega
  walk_at "rd"
  refine bp (SqT.of et) (i:=0) rfl ?_
  walk_at "rd"
  refine aU (by decide) ?_
  walk_at "rd"
  refine aU (by decide) ?_
  walk_at "rd"
  refine aU (by decide) ?_
  walk_at "rd"
  refine aU (by decide) ?_
  walk_at "rd"
  refine dW rfl ?_
  walk_at "rd"
  refine bp (SqT.of et) (i:=1) rfl ?_
  walk_at "rd"
  refine ⟨a,b,y,c,n,ws,vs,s,rfl,T,hy,hok.1,hw1,fun l H1 hl s1 e1=>?_⟩
  walk_at "rd"
  refine bp (SqT.of (s1 _ _ et)) (i:=2) rfl ?_
  walk_at "rd"
  refine ⟨a,b,z,c,n,ws,vs,t,rfl,T.same s1,hz.keep s1.keep,hok.2,hw2,fun l2 H2 hl2 s2 e2=>?_⟩
  walk_at "rd"
  exact ⟨l,l2,n,_,_,rfl,s2 _ _ e1,e2,hn,fun p H3 hp s3 e3=>q p H3 (s1.free (s2.free hp)) ((s1.trans s2).trans s3) e3⟩
 | knows k s=>
  obtain ⟨t,y,rfl,et,hy⟩:=hS
  have hw':s.words<=m:=by simp only [Sy.words] at hw; omega
  walk_at "rd"
  refine bp (SqT.of et) (i:=0) rfl ?_
  walk_at "rd"
  refine aU (by decide) ?_
  walk_at "rd"
  refine aU (by decide) ?_
  walk_at "rd"
  refine aU (by decide) ?_
  walk_at "rd"
  refine aU (by decide) ?_
  walk_at "rd"
  refine aU (by decide) ?_
  walk_at "rd"
  refine bp (SqT.of et) (i:=2) rfl ?_
  walk_at "rd"
  refine ⟨a,b,y,c,n,ws,vs,s,rfl,T,hy,hok.2,hw',fun l H1 hl s1 e1=>?_⟩
  walk_at "rd"
  refine dW rfl ?_
  walk_at "rd"
  refine bp (SqT.of (s1 _ _ et)) (i:=1) rfl ?_
  walk_at "rd"
  obtain ⟨vr,r,e2,e3,e4,e5⟩:=rk (T.views.same s1) hok.1
  refine ce (SqL.of e2) e3 ?_
  walk_at "rd"
  exact ⟨r,l,n,vs.getD k [],_,rfl,e4,e1,T.win _ e5,hn,fun p2 H3 hp2 s3 e6=>q p2 H3 (s1.free hp2) (s1.trans s3) e6⟩
 | all g s=>
  obtain ⟨t,u,y,rfl,et,eu,hy⟩:=hS
  have hw':s.words<=m:=by simp only [Sy.words] at hw; omega
  obtain ⟨⟨hpw,hg⟩,hok'⟩:=hok
  walk_at "rd"
  refine bp (SqT.of et) (i:=0) rfl ?_
  walk_at "rd"
  refine aU (by decide) ?_
  walk_at "rd"
  refine aU (by decide) ?_
  walk_at "rd"
  refine aU (by decide) ?_
  walk_at "rd"
  refine aU (by decide) ?_
  walk_at "rd"
  refine aU (by decide) ?_
  walk_at "rd"
  refine bp (SqT.of et) (i:=2) rfl ?_
  walk_at "rd"
  refine ⟨a,b,y,c,n,ws,vs,s,rfl,T,hy,hok',hw',fun l H1 hl s1 e1=>?_⟩
  walk_at "rd"
  refine aU (by decide) ?_
  walk_at "rd"
  refine bp (SqT.of (s1 _ _ et)) (i:=1) rfl ?_
  refine EN (T.views.same s1) hg (LS (uN hpw hg) T.hands) (s1 _ _ eu) ?_ ?_
  ·intro C s' H' fp k rs r H2 R N e2 e3 hR
   walk_at "rd"
   exact ce (SqL.of e2) e3 hR
  ·intro p H2 hp s2 V2
   walk_at "rd"
   refine dW rfl ?_
   walk_at "rd"
   refine ⟨p,l,n,_,_,rfl,V2,s2 _ _ e1,?_,hn,fun p2 H3 hp2 s3 e6=>q p2 H3 (s1.free (s2.free hp2)) ((s1.trans s2).trans s3) e6⟩
   intro v hv
   obtain ⟨k,hk,rfl⟩:=Nz.mp hv
   obtain ⟨_,_,_,_,_,e5⟩:=rk T.views (hg k hk)
   exact T.win _ e5
 | common g s=>
  obtain ⟨t,u,y,rfl,et,eu,hy⟩:=hS
  have hw':s.words<=m:=by simp only [Sy.words] at hw; omega
  obtain ⟨⟨hpw,hg⟩,hok'⟩:=hok
  walk_at "rd"
  refine bp (SqT.of et) (i:=0) rfl ?_
  walk_at "rd"
  refine aU (by decide) ?_
  walk_at "rd"
  refine aU (by decide) ?_
  walk_at "rd"
  refine aU (by decide) ?_
  walk_at "rd"
  refine aU (by decide) ?_
  walk_at "rd"
  refine aU (by decide) ?_
  walk_at "rd"
  refine bp (SqT.of et) (i:=2) rfl ?_
  walk_at "rd"
  refine ⟨a,b,y,c,n,ws,vs,s,rfl,T,hy,hok',hw',fun l H1 hl s1 e1=>?_⟩
  walk_at "rd"
  refine aU (by decide) ?_
  walk_at "rd"
  refine bp (SqT.of (s1 _ _ et)) (i:=1) rfl ?_
  refine EN (T.views.same s1) hg (LS (uN hpw hg) T.hands) (s1 _ _ eu) ?_ ?_
  ·intro C s' H' fp k rs r H2 R N e2 e3 hR
   walk_at "rd"
   exact ce (SqL.of e2) e3 hR
  ·intro p H2 hp s2 V2
   have s12:=s1.trans s2
   have hwin:∀ v∈g.map (fun h=>vs.getD h []),Within n v:=by
    intro v hv
    obtain ⟨k,hk,rfl⟩:=Nz.mp hv
    obtain ⟨_,_,_,_,_,e5⟩:=rk T.views (hg k hk)
    exact T.win _ e5
   walk_at "rd"
   refine aU (by decide) ?_
   walk_at "rd"
   refine fS (SqL.of (s12 _ _ ea)) ?_
   walk_at "rd"
   rw [Lf,hlr,hlen]
   refine ⟨n,p,_,rfl,V2,hwin,hn,fun r j H3 hj hjn s3 e3=>?_⟩
   walk_at "rd"
   refine ⟨j,l,n,r,_,rfl,e3,s3 _ _ (s2 _ _ e1),A3 hj,hn,fun p2 H4 hp2 s4 e4=>q p2 H4 (s1.free (s2.free (s3.free hp2))) ((s12.trans s3).trans s4) ?_⟩
   rw [e4]
   congr 2
   exact qq fun i hi=>Iy hj hi
end
end
section
variable {K:Fg} {vs:List V} {H:Hp} {Q:VK} {E:XK}
noncomputable def d7 (v:List Nat) (as:List IA):List Nat:=be (v.zip as)
noncomputable def zH (p:Nat×IA):MK:=.inr [.inl (some ((p.1:Nat):Int)),.inl p.2]
theorem Ga (a b:Nat×IA) (e:zH a=zH b):a=b:=by
 have h:=OV e
 injection h with h1 h2
 injection h1 with h1
 injection h1 with h1
 injection h2 with h2 _
 injection h2 with h2
 obtain ⟨a1,a2⟩:=a
 obtain ⟨b1,b2⟩:=b
 simp only at h1 h2
 rw [show a1=b1 by omega,h2]
theorem A5 (v:List Nat) (as:List IA):be ((v.zip as).map zH)=d7 v as:=r6 (f:=zH) Ga _
noncomputable def tm (_:Fg):Sp:=fun vs H Q _=>∃ (a b:Addr) (v:List Nat) (ys:List V) (as:List IA),vs=[.ref a,.ref b]/\H a=some (.lst (av v))/\H b=some (.lst ys)/\ys.map iaV=as.map some/\v.length=as.length/\v.length<=100000/\
 ∀ p H',H p=none->am H H'->H' p=some (.lst (av (d7 v as)))->Q (.ref p) H'
theorem zI {H:Hp}:∀ {ts:List Addr} {v:List Nat} {ys:List V} {as:List IA},rg H ts ((av v).zip ys)->ys.map iaV=as.map some->Paired (cW H) (ts.map V.ref) ((v.zip as).map zH)
 | ts,[],ys,as,h,_=>by
  have e:(av []).zip ys=[]:=rfl
  rw [e] at h
  cases h
  rw [show ([]:List Nat).zip as=[] from rfl]
  exact .nil
 | ts,x :: v,[],as,h,e=>by
  have z:(av (x :: v)).zip ([]:List V)=[]:=by simp
  rw [z] at h
  cases h
  have:as=[]:=by
   cases as with
   | nil=>rfl
   | cons _ _=>simp at e
  rw [this]
  simp only [List.zip_nil_right]
  exact .nil
 | ts,x :: v,y :: ys,as,h,e=>by
  cases as with
  | nil=>simp at e
  | cons a as=>
   rw [LA,LA] at e
   injection e with e1 e2
   have z:(av (x :: v)).zip (y :: ys)=(.int (x:Int),y) :: (av v).zip ys:=rfl
   rw [z] at h
   cases h with
   | cons h t=>
    rw [MR,LA,LA]
    exact .cons ⟨_,_,rfl,h,.cons rfl (.cons e1 .nil)⟩ (zI t e2)
noncomputable def rl (K:Fg):TS:=(aJ (au (d5 K) [] E0 (aa (Cw bL bL K (aa (ab 0) (aa (ab 1) af))) af)))
theorem Gb (h:tm K vs H Q E):rl K { nx:=fun _ H'=>Q .non H',rt:=Q } (start ["view","values"] vs) H:=by
 obtain ⟨a,b,v,ys,as,rfl,ea,eb,hi,hl,hn,q⟩:=h
 show rl K _ [some _,some _] _
 unfold rl
 walk_at "rd"
 refine J1 ?_
 walk_at "rd"
 refine ⟨a,b,av v,ys,rfl,SqL.of ea,SqL.of eb,by rw [bg]; omega,fun p H1 hp s1 ⟨ts,e1,pt⟩=>?_⟩
 walk_at "rd"
 refine ⟨p,_,_,true,rfl,e1,zI pt hi,?_,by rw [Lf,Oz]; omega,fun p2 H2 hp2 s2 e2=>?_⟩
 ·intro k hk
  obtain ⟨w,_,rfl⟩:=Nz.mp hk
  rfl
 ·rw [A5] at e2
  exact q _ _ (s1.free hp2) (s1.trans s2) e2
end
end L2
section
namespace L2
open KF
section
variable {α β γ:Type} [DecidableEq α] [DecidableEq β] [DecidableEq γ]
theorem qu {ks:List α} {i:Nat} {k:α} (h:ks[i]?=some k):ks[ks.idxOf k]?=some k:=by
 rw [Ld (Qv (Lw h)),List.getElem_idxOf]
theorem j0 {ks:List α} {i:Nat} {k:α} (h:ks[i]?=some k):(be ks)[i]?=some (ks.idxOf k):=by unfold be; rw [Lx,h]; rfl
theorem uO {ks:List α} {j:Nat} {k:α} (h:ks[j]?=some k):ks.idxOf k<=j:=by obtain ⟨_,_,_,hle⟩:=uw (j0 h); exact hle
theorem j3 {l:List α} {i:Nat} (h:i < l.length):∃ x,l[i]?=some x:=⟨_,Ld h⟩
theorem sk {ks:List α} {ls:List β} (hl:ks.length=ls.length) (h:∀ i j,i < ks.length->j < ks.length->(ks[i]?=ks[j]?↔ls[i]?=ls[j]?)):be ks=be ls:=by
 refine Nu fun i=>?_
 by_cases hi:i < ks.length
 ·obtain ⟨k,hk⟩:=j3 hi
  obtain ⟨l,hL⟩:=j3 (l:=ls) (i:=i) (by omega)
  rw [j0 hk,j0 hL]
  have a1:=qu hk
  have b1:=qu hL
  have la:=uO hk
  have lb:=uO hL
  have e1:ls[ks.idxOf k]?=some l:=by rw [<-hL]; exact ((h _ _ (by omega) hi).mp (a1.trans hk.symm))
  have e2:ks[ls.idxOf l]?=some k:=by rw [<-hk]; exact ((h _ _ (by omega) hi).mpr (b1.trans hL.symm))
  have q1:=uO e1
  have q2:=uO e2
  congr 1
  omega
 ·rw [LJ (by rw [dE]; omega),LJ (by rw [dE]; omega)]
theorem EO {ks:List α} {i j:Nat} (hi:i < ks.length) (hj:j < ks.length):(be ks)[i]?=(be ks)[j]?↔ks[i]?=ks[j]?:=by
 obtain ⟨k,hk⟩:=j3 hi
 obtain ⟨l,hL⟩:=j3 hj
 rw [j0 hk,j0 hL,hk,hL]
 constructor
 ·intro e
  rw [<-qu hk,<-qu hL,Lu e]
 ·intro e
  rw [Lu e]
theorem sn (ks:List α):be (be ks)=be ks:=sk (dE ks) fun i j hi hj=>by rw [dE] at hi hj; exact EO hi hj
theorem EQ {ks:List α} {i m:Nat} (h:(be ks)[i]?=some m):ks[m]?=ks[i]?/\m<=i/\i < ks.length:=by
 obtain ⟨k,hk,rfl,hle⟩:=uw h
 exact ⟨(qu hk).trans hk.symm,hle,(Li.mp hk).1⟩
theorem Iz {v:List α} {as:List β} (hl:v.length=as.length) {i j:Nat} (hi:i < v.length) (hj:j < v.length):(v.zip as)[i]?=(v.zip as)[j]?↔v[i]?=v[j]?/\as[i]?=as[j]?:=by
 obtain ⟨x,hx⟩:=j3 hi
 obtain ⟨y,hy⟩:=j3 hj
 obtain ⟨a,ha⟩:=j3 (l:=as) (i:=i) (by omega)
 obtain ⟨b,hb⟩:=j3 (l:=as) (i:=j) (by omega)
 have e1:(v.zip as)[i]?=some (x,a):=by rw [Od]; exact ⟨hx,ha⟩
 have e2:(v.zip as)[j]?=some (y,b):=by rw [Od]; exact ⟨hy,hb⟩
 rw [e1,e2,hx,hy,ha,hb]
 simp only [LG.injEq,Prod.mk.injEq]
noncomputable def spl (v:List Nat) (as:List β):List Nat:=be (v.zip as)
theorem Gc {v:List Nat} {as:List β} (hv:be v=v) (h1:v.length=as.length) (h:∀ i j,i < v.length->j < v.length->v[i]?=v[j]?->as[i]?=as[j]?):spl v as=v:=by
 conv=>rhs; rw [<-hv]
 refine sk (by rw [Oz]; omega) fun i j hi hj=>?_
 rw [Oz] at hi hj
 rw [Iz h1 (by omega) (by omega)]
 exact ⟨fun q=>q.1,fun q=>⟨q,h i j (by omega) (by omega) q⟩⟩
end
end L2
end
namespace L2
open PySem PyProof.Rows
section
open KF
open Classical in
noncomputable def blA (n:Nat) (P:Nat->Prop):List IA:=(Lv n).map fun i=>some (if decide (P i) then 1 else 0)
theorem wp (n:Nat) (P:Nat->Prop):(blA n P).length=n:=by unfold blA; simp
theorem J6 (n:Nat) (P:Nat->Prop):(blV n P).map iaV=(blA n P).map some:=by
 unfold blV blA
 rw [NY,NY]
 exact M9 fun i _=>rfl
open Classical in
theorem BE {n i:Nat} {P:Nat->Prop} (h:i < n):(blA n P)[i]?=some (some (if decide (P i) then 1 else 0)):=by unfold blA; rw [Lx,MJ h]; rfl
theorem IB {n i j:Nat} {P:Nat->Prop} (hi:i < n) (hj:j < n):(blA n P)[i]?=(blA n P)[j]?↔(P i↔P j):=by
 rw [BE hi,BE hj]
 by_cases a:P i <;> by_cases b:P j <;> simp [a,b]
theorem qw {α:Type} [DecidableEq α] {ks:List α} {n:Nat} (h:ks.length=n):Within n (be ks):=⟨by rw [dE,h],fun x hx=>by
 obtain ⟨i,hi⟩:=PJ.mp hx
 obtain ⟨_,h1,h2⟩:=EQ hi
 omega⟩
theorem qx {n:Nat} {v:List Nat} {as:List IA} (hv:Within n v) (hl:as.length=n):Within n (d7 v as):=qw (by rw [Oz,hv.1,hl,O6])
theorem ER (v:List Nat) (as:List IA):be (d7 v as)=d7 v as:=sn _
noncomputable def lrn (vw:List (List Nat)) (g:List Nat) (as:List IA):List (List Nat):=g.foldl (fun w h=>w.set h (d7 (w.getD h []) as)) vw
theorem rn (as:List IA):∀ (g:List Nat) (vw:List (List Nat)),(lrn vw g as).length=vw.length
 | [],_=>rfl
 | h :: g,vw=>by
  show (lrn (vw.set h _) g as).length=_
  rw [rn as g,Nb]
theorem Gd (vw:List (List Nat)) (g:List Nat) (h:Nat) (as:List IA):lrn vw (g++[h]) as=(lrn vw g as).set h (d7 ((lrn vw g as).getD h []) as):=by
 unfold lrn
 rw [Tc]
 rfl
theorem ES {ws:List (List Nat)} {i j:Nat} {v:List Nat}:(ws.set i v).getD j []=if i=j/\i < ws.length then v else ws.getD j []:=by
 rw [Lo,Lo,Oa]
 by_cases e:i=j
 ·subst e
  by_cases h:i < ws.length
  ·simp [h]
  ·simp [h,LJ (Q5 h)]
 ·simp [e]
theorem BF (as:List IA):∀ (g:List Nat) (vw:List (List Nat)) (i:Nat),g.Nodup->i < vw.length->(lrn vw g as).getD i []=if i∈g then d7 (vw.getD i []) as else vw.getD i []
 | [],vw,i,_,_=>by simp [lrn]
 | h :: g,vw,i,nd,hi=>by
  obtain ⟨n1,n2⟩:=NL.mp nd
  show (lrn (vw.set h _) g as).getD i []=_
  rw [BF as g _ i n2 (by rw [Nb]; exact hi),ES]
  by_cases e:i=h
  ·subst e
   rw [if_neg n1,if_pos ⟨rfl,hi⟩,if_pos Lj]
  ·have e':¬ h=i:=fun z=>e z.symm
   have e1:(if h=i/\h < vw.length then d7 (vw.getD h []) as else vw.getD i [])=vw.getD i []:=if_neg fun z=>e' z.1
   rw [e1]
   by_cases m:i∈g
   ·rw [if_pos m,if_pos (Ln _ m)]
   ·rw [if_neg m,if_neg fun z=>(Lh.mp z).elim e m]
theorem Ge {ws vs:List (List Nat)} (hl:ws.length=vs.length) (h:∀ i,i < vs.length->ws.getD i []=vs.getD i []):ws=vs:=by
 refine Nu fun i=>?_
 by_cases hi:i < vs.length
 ·have:=h i hi
  rw [Lo,Lo,Ld hi,Ld (by omega)] at this
  rw [Ld hi,Ld (by omega)]
  exact congrArg some this
 ·rw [LJ (by omega),LJ (by omega)]
theorem IC (as:List IA) (vw:List (List Nat)):lrn vw (Lv vw.length) as=vw.map fun v=>d7 v as:=by
 refine Ge (by rw [rn,Lf]) fun i hi=>?_
 rw [Lf] at hi
 rw [BF as _ _ i List.nodup_range hi,if_pos (MY.mpr hi)]
 simp [Lo,hi]
theorem rq {as:List IA} {P:List Nat->Prop} (hs:∀ v,P v->P (d7 v as)):∀ (g:List Nat) (vw:List (List Nat)),(∀ h∈g,h < vw.length)->(∀ v∈vw,P v)->∀ v∈lrn vw g as,P v
 | [],_,_,h=>h
 | k :: g,vw,hk,h=>by
  show ∀ v∈lrn (vw.set k _) g as,P v
  refine rq hs g _ (fun x hx=>by rw [Nb]; exact hk x (Ln _ hx)) fun v hv=>?_
  rcases List.mem_or_eq_of_mem_set hv with z | z
  ·exact h v z
  ·rw [z]
   have hl:=hk k Lj
   refine hs _ (h _ ?_)
   rw [Lo,Ld hl]
   exact Om hl
set_option genInjectivity false in
structure TM where
 c:Nat
 ss:List Nat
 vw:List (List Nat)
 ds:List (List Nat×List V)
noncomputable def TM.ws (T:TM):List (List Nat):=KM.cq (T.ss++[T.c - T.ss.sum]) T.c
noncomputable def TM.n (T:TM):Nat:=T.ws.length
noncomputable def TM.k (T:TM):Nat:=T.ss.length
noncomputable def TM.tr (T:TM) (s:Sy):Nat->Prop:=TR T.n T.ws T.vw s
noncomputable def TM.learn (T:TM) (g:List Nat) (as:List IA) (ys:List V):TM:={ T with vw:=lrn T.vw g as,ds:=T.ds++[(g,ys)] }
noncomputable def TM.word (T:TM) (g:List Nat) (s:Sy):TM:=T.learn g (blA T.n (T.tr s)) (blV T.n (T.tr s))
noncomputable def TM.begun (c:Nat) (ss:List Nat):TM:=⟨c,ss,(Lv ss.length).map fun i=>lv (KM.cq (ss++[c - ss.sum]) c) ((i:Nat):Int),[]⟩
structure TM.Ok (T:TM):Prop where
 pk:qj T.c T.ss
 few:KM.cv T.c T.ss<=2000
 len:T.vw.length=T.k
 win:∀ v∈T.vw,Within T.n v
 can:∀ v∈T.vw,be v=v
theorem TM.Ok.n2 {T:TM} (h:T.Ok):T.n<=2000:=by
 show (KM.cq _ _).length<=_
 rw [KM.mP h.pk.sum]
 exact h.few
theorem TM.Ok.cards {T:TM} (h:T.Ok):∀ w∈T.ws,w.length=T.c:=fun w hw=>(KM.gT _ T.c w hw).len
theorem TM.Ok.begun {c:Nat} {ss:List Nat} (pk:qj c ss) (few:KM.cv c ss<=2000):(TM.begun c ss).Ok:=⟨pk,few,by show (List.map _ _).length=ss.length; rw [Lf,Mz],fun v hv=>by
 obtain ⟨i,_,rfl⟩:=Nz.mp hv
 exact qw (by rw [Lf]; rfl),fun v hv=>by
 obtain ⟨i,_,rfl⟩:=Nz.mp hv
 exact sn _⟩
theorem TM.Ok.learn {T:TM} (h:T.Ok) {g:List Nat} {as:List IA} {ys:List V} (hg:∀ x∈g,x < T.k) (hl:as.length=T.n):(T.learn g as ys).Ok:=
 ⟨h.pk,h.few,by show (lrn T.vw g as).length=_; rw [rn]; exact h.len,rq (fun v hv=>qx hv hl) g T.vw (by rw [h.len]; exact hg) h.win,rq (fun v _=>ER v as) g T.vw (by rw [h.len]; exact hg) h.can⟩
theorem TM.Ok.word {T:TM} (h:T.Ok) {g:List Nat} {s:Sy} (hg:∀ x∈g,x < T.k):(T.word g s).Ok:=h.learn hg (wp _ _)
end
section
variable {K:Fg} {vs:List V} {H:Hp} {Q:VK} {E:XK}
theorem ID {i lo hi:Int} (h1:lo<=i) (h2:i<=hi):cn (.int i) lo hi=true:=by
 show (decide (lo<=i) && decide (i<=hi))=true
 rw [decide_eq_true h1,decide_eq_true h2]
 rfl
noncomputable def dz (_:Fg):Sp:=fun vs H Q _=>∃ (i b:Int),vs=[.int i,.int b]/\Q (.bl (decide (0<=i) && decide (i<=b - 1))) H
noncomputable def kE (K:Fg):TS:=(aJ (au (dI K) [] E0 (aa (ab 0) (aa (tC (.int 0)) (aa (tOp (rI0 fun i j=>.int (i - j)) (ab 1) (tC (.int 1))) af)))))
theorem A6 (h:dz K vs H Q E):kE K { nx:=fun _ H'=>Q .non H',rt:=Q } (start ["thing","bound"] vs) H:=by
 obtain ⟨i,b,rfl,q⟩:=h
 show kE K _ [some _,some _] _
 unfold kE
 walk_at "rd"
 exact ⟨.int i,0,b - 1,rfl,eO.int _,q⟩
theorem iE {i b:Int} (h1:0<=i) (h2:i<=b):(decide (0<=i) && decide (i<=b))=true:=by rw [decide_eq_true h1,decide_eq_true h2]; rfl
noncomputable def iO (_:Fg):Sp:=fun vs H Q _=>∃ (a:Addr) (g:List Nat) (h:Nat),vs=[.ref a,.int h]/\H a=some (.tup (av g))/\g.Pairwise (· < ·)/\(∀ k∈g,k < h)/\Q (.bl true) H
noncomputable def jK (K:Fg):TS:=(ar (bz (fZ (tB (tCB (lh K) (aa (ab 0) (aa (tC (.ty "tuple")) af))))) (aJ (tC (.bl false))) bf)
 (ar (aH (tC (.int 0)) (ao 2))
 (ar (dk (v4 K (ab 0)) (ao 3) (ar (bz (fZ (tB (au (dI K) [] E0 (aa (ab 3) (aa (ab 2) (aa (tOp (rI0 fun i j=>.int (i - j)) (ab 1) (tC (.int 1))) af)))))) (aJ (tC (.bl false))) bf)
 (aH (tOp (rI0 fun i j=>.int (i + j)) (ab 3) (tC (.int 1))) (ao 2))))
 (aJ (tC (.bl true))))))
theorem zJ (h:iO K vs H Q E):jK K { nx:=fun _ H'=>Q .non H',rt:=Q } (start ["thing","hands","least","hand"] vs) H:=by
 obtain ⟨a,g,h,rfl,e,pw,hg,q⟩:=h
 show jK K _ [some _,some _,none,none] _
 unfold jK
 walk_at "rd"
 refine kB (.tup e) (jD K) ?_
 walk_at "rd"
 refine zk (av g) (SqT.of e) (fun i σ H2=>∃ (lo:Int) (st:Option V),σ=[some (.ref a),some (.int h),some (.int lo),st]/\H2=H/\∀ k∈g.drop i,lo<=(k:Int)) ⟨0,none,rfl,rfl,fun k _=>by omega⟩ (fun i σ H2 _ ⟨_,_,_,eH,_⟩=>by subst eH; exact SqT.of e) ?_ ?_
 ·rintro i y σ H2 hy ⟨lo,st,rfl,rfl,hlo⟩
  obtain ⟨k,hk,rfl⟩:=iD hy
  obtain ⟨h1,h2⟩:=Li.mp hk
  have hd:g.drop i=k :: g.drop (i + 1):=by rw [QW h1,h2]
  have hkh:=hg k (Lw hk)
  have pd:(g.drop i).Pairwise (· < ·):=pw.sublist (List.drop_sublist i g)
  rw [hd] at hlo pd
  have l1:=hlo k Lj
  walk_at "rd"
  refine ⟨.int (k:Int),lo,(h:Int) - 1,rfl,eO.int _,?_⟩
  rw [ID l1 (show (k:Int)<=(h:Int) - 1 by omega)]
  walk_at "rd"
  refine ⟨_,_,rfl,rfl,fun j hj=>?_⟩
  have:=(Qz.mp pd).1 j hj
  omega
 ·rintro σ H2 ⟨lo,st,rfl,rfl,_⟩
  walk_at "rd"
  exact q
noncomputable def mS (_:Fg):Sp:=fun vs H Q _=>∃ (v:V) (s:Sy),vs=[v]/\aK H v s/\∀ (p:Addr) (xs:List V) (H':Hp),am H H'->H p=none->H' p=some (.lst xs)->gA H' xs s.subs->xs.length<=2->Q (.ref p) H'
noncomputable def kG (K:Fg) (G:Glo):TS:=(ar (aH (tOp (Cj G.kvs G.forms) (tC (.ref G.forms)) (tOp (cJ K) (ab 0) (tC (.int 0)))) (ao 1))
 (aJ (bV (qb ig ig K (aa (ab 1) (aa (tSl (zm K) (ab 0) (nN (tC (.int 1))) jp) af))) (fun _ _ _ _=>(jn K 2 (cc (ao 0) (cc (ao 1) jm)))) (fun _ _ _ _=>(aY (tOp rEq (ab 0) (tC (.str "saying"))))) (fun _ _ _ _=>(ab 1)) [none,none])))
theorem A7 {K:Fg} {G:Glo} (g:uI K G) {vs:List V} {H:Hp} {Q:VK} {E:XK} (h:mS K vs H Q E):kG K G { nx:=fun _ H'=>Q .non H',rt:=Q } (start ["saying","form"] vs) H:=by
 obtain ⟨v,s,rfl,hs,q⟩:=h
 obtain ⟨a,items,rfl,ha,hl,hp⟩:=Ir hs
 obtain ⟨f,hf,tf⟩:=g.form s
 show kG K G _ [some _,none] _
 unfold kG
 walk_at "rd"
 refine bp (SqT.of ha) (kR _ _) ?_
 refine Hm hf ?_
 walk_at "rd"
 refine Ci (SqT.of ha) (mN _ _) fun b H1 hb s1 e1=>?_
 rw [sX] at e1
 walk_at "rd"
 have hml:min (s.form.map V.str).length items.length=s.form.length:=by rw [Lf,hl]; omega
 refine qe (S1:=ig) (S2:=ig) (s.form.map V.str) items (tf.sq _) (SqT.of e1) (fun H' _=>tf.sq _) (fun H' s'=>SqT.of (s' _ _ e1)) (by rw [Lf]; have:=s.form_len; omega) (fun i acc _=>acc=ip (s.form.take i) (items.take i)) (fun _ _=>rfl) ?_ ?_
 ·intro p hp' C s' H' fp i x y T acc H2 H3 hx hy ⟨s2,e2,l2,r2⟩ hT s3 e3 e4
  obtain ⟨z,hz,rfl⟩:∃ z,s.form[i]?=some z/\x=.str z:=by
   rw [Lx] at hx
   cases e:s.form[i]? with
   | none=>rw [e] at hx; cases hx
   | some z=>rw [e] at hx; exact ⟨z,rfl,(Lu hx).symm⟩
  have pt:=EK s.form items i z y hz hy
  subst r2
  refine iJ (SqT.of e3) ?_
  walk_at "rd"
  refine cC (fun c=>?_) (fun c=>?_)
  ·walk_at "rd"
   rw [if_pos c] at pt
   exact bi.put hp' (fun _ _ _ _ r _=>r) (s2.trans s3) e4 l2 pt.symm
  ·rw [if_neg c,NK] at pt
   exact bi.skip (s2.trans s3) e4 l2 pt.symm
 ·intro p acc H2 hp' s2 e2 r2
  rw [hml,<-hl,LZ,hl,LZ] at r2
  subst r2
  refine q p _ H2 (s1.trans s2) (s1.free hp') e2 (hp.keep (s1.trans s2).keep) (LS (F7 _ _) s.form_len)
noncomputable def iP (H:Hp) (c h:Nat) (p:Str) (x:V):Prop:=(p="holder"/\∃ k:Nat,x=.int k/\k<=h)\/(p="card"/\∃ k:Nat,x=.int k/\k < c)\/(p="hand"/\∃ k:Nat,x=.int k/\k < h)\/(p="hands"/\∃ a g,x=.ref a/\H a=some (.tup (av g))/\g.Pairwise (· < ·)/\∀ k∈g,k < h)\/p="saying"
noncomputable def wq (_:Fg):Sp:=fun vs H Q _=>∃ (c h:Nat) (p:Str) (x:V),vs=[.int c,.int h,.str p,x]/\iP H c h p x/\Q (.bl true) H
noncomputable def uP (K:Fg):TS:=(ar (bz (aY (tOp rEq (ab 2) (tC (.str "holder")))) (aJ (au (dz K) [] E0 (aa (ab 3) (aa (tOp (rI0 fun i j=>.int (i + j)) (ab 1) (tC (.int 1))) af)))) bf)
 (ar (bz (aY (tOp rEq (ab 2) (tC (.str "card")))) (aJ (au (dz K) [] E0 (aa (ab 3) (aa (ab 0) af)))) bf)
 (ar (bz (aY (tOp rEq (ab 2) (tC (.str "hand")))) (aJ (au (dz K) [] E0 (aa (ab 3) (aa (ab 1) af)))) bf)
 (ar (bz (aY (tOp rEq (ab 2) (tC (.str "hands")))) (aJ (au (iO K) [] E0 (aa (ab 3) (aa (ab 1) af)))) bf)
 (aJ (tC (.bl true)))))))
theorem IE (h:wq K vs H Q E):uP K { nx:=fun _ H'=>Q .non H',rt:=Q } (start ["cards","hands","place","part"] vs) H:=by
 obtain ⟨c,h,p,x,rfl,k,q⟩:=h
 show uP K _ [some _,some _,some _,some _] _
 unfold uP
 rcases k with ⟨rfl,k,rfl,hk⟩ | ⟨rfl,k,rfl,hk⟩ | ⟨rfl,k,rfl,hk⟩ | ⟨rfl,a,g,rfl,e,pw,hg⟩ | rfl
 ·walk_at "rd"
  refine dW rfl ?_
  walk_at "rd"
  refine ⟨_,_,rfl,?_⟩
  rw [iE (by omega) (by omega)]
  exact q
 ·walk_at "rd"
  refine aU (by decide +kernel) ?_
  walk_at "rd"
  refine dW rfl ?_
  walk_at "rd"
  refine ⟨_,_,rfl,?_⟩
  rw [iE (by omega) (by omega)]
  exact q
 ·walk_at "rd"
  refine aU (by decide +kernel) ?_
  walk_at "rd"
  refine aU (by decide +kernel) ?_
  walk_at "rd"
  refine dW rfl ?_
  walk_at "rd"
  refine ⟨_,_,rfl,?_⟩
  rw [iE (by omega) (by omega)]
  exact q
 ·walk_at "rd"
  refine aU (by decide +kernel) ?_
  walk_at "rd"
  refine aU (by decide +kernel) ?_
  walk_at "rd"
  refine aU (by decide +kernel) ?_
  walk_at "rd"
  refine dW rfl ?_
  walk_at "rd"
  exact ⟨a,g,h,rfl,e,pw,hg,q⟩
 ·walk_at "rd"
  refine aU (by decide +kernel) ?_
  walk_at "rd"
  refine aU (by decide +kernel) ?_
  walk_at "rd"
  refine aU (by decide +kernel) ?_
  walk_at "rd"
  refine aU (by decide +kernel) ?_
  walk_at "rd"
  exact q
theorem Gf {H:Hp} {c h:Nat} {v:V} {s:Sy} (hs:aK H v s) (ok:s.Ok c h):∃ a items,v=.ref a/\H a=some (.tup (.str s.word :: items))/\items.length=s.form.length/\∀ (i:Nat) (p:Str) (x:V),s.form[i]?=some p->items[i]?=some x->iP H c h p x:=by
 have one:∀ {p:Str} {x:V},iP H c h p x->∀ (i:Nat) (p':Str) (x':V),[p][i]?=some p'->[x][i]?=some x'->iP H c h p' x':=fun f i p' x' hp hx=>by
  match i,hp,hx with
  | 0,hp,hx=>cases hp; cases hx; exact f
 have two:∀ {p q:Str} {x y:V},iP H c h p x->iP H c h q y->∀ (i:Nat) (p':Str) (x':V),[p,q][i]?=some p'->[x,y][i]?=some x'->iP H c h p' x':=fun f g i p' x' hp hx=>by
  match i,hp,hx with
  | 0,hp,hx=>cases hp; cases hx; exact f
  | 1,hp,hx=>cases hp; cases hx; exact g
 have sy:∀ {x:V},iP H c h "saying" x:=.inr (.inr (.inr (.inr rfl)))
 cases s with
 | holds w k=>obtain ⟨a,e,q⟩:=hs; exact ⟨a,_,e,q,rfl,two (.inl ⟨rfl,w,rfl,ok.1⟩) (.inr (.inl ⟨rfl,k,rfl,ok.2⟩))⟩
 | sees k=>obtain ⟨a,e,q⟩:=hs; exact ⟨a,_,e,q,rfl,one (.inr (.inr (.inl ⟨rfl,k,rfl,ok⟩)))⟩
 | not s=>obtain ⟨a,x,e,q,r⟩:=hs; exact ⟨a,_,e,q,rfl,one sy⟩
 | and s t=>obtain ⟨a,x,y,e,q,r,r'⟩:=hs; exact ⟨a,_,e,q,rfl,two sy sy⟩
 | or s t=>obtain ⟨a,x,y,e,q,r,r'⟩:=hs; exact ⟨a,_,e,q,rfl,two sy sy⟩
 | knows k s=>obtain ⟨a,x,e,q,r⟩:=hs; exact ⟨a,_,e,q,rfl,two (.inr (.inr (.inl ⟨rfl,k,rfl,ok.1⟩))) sy⟩
 | all g s=>obtain ⟨a,b,x,e,q,j,r⟩:=hs; exact ⟨a,_,e,q,rfl,two (.inr (.inr (.inr (.inl ⟨rfl,b,g,rfl,j,ok.1.1,ok.1.2⟩)))) sy⟩
 | common g s=>obtain ⟨a,b,x,e,q,j,r⟩:=hs; exact ⟨a,_,e,q,rfl,two (.inr (.inr (.inr (.inl ⟨rfl,b,g,rfl,j,ok.1.1,ok.1.2⟩)))) sy⟩
theorem iP.same {H H':Hp} (s:am H H') {c h:Nat} {p:Str} {x:V} (f:iP H c h p x):iP H' c h p x:=by
 rcases f with f | f | f | ⟨e,a,g,e2,q,r⟩ | f
 ·exact .inl f
 ·exact .inr (.inl f)
 ·exact .inr (.inr (.inl f))
 ·exact .inr (.inr (.inr (.inl ⟨e,a,g,e2,s _ _ q,r⟩)))
 ·exact .inr (.inr (.inr (.inr f)))
noncomputable def oy (_:Fg):Sp:=fun vs H Q _=>∃ (c h:Nat) (v:V) (s:Sy),vs=[.int c,.int h,v]/\aK H v s/\s.Ok c h/\∀ H',am H H'->Q (.bl true) H'
noncomputable def mq (K:Fg) (G:Glo):TS:=(ar (bz (tOr (fZ (tB (tCB (lh K) (aa (ab 2) (aa (tC (.ty "tuple")) af))))) (aY (tOp rEq (tCB (b9 K) (aa (ab 2) af)) (tC (.int 0))))) (aJ (tC (.bl false))) bf)
 (ar (bz (tOr (fZ (tB (tCB (lh K) (aa (tOp (cJ K) (ab 2) (tC (.int 0))) (aa (tC (.ty "str")) af))))) (aY (tOp (zn G.kvs G.forms true) (tOp (cJ K) (ab 2) (tC (.int 0))) (tC (.ref G.forms))))) (aJ (tC (.bl false))) bf)
 (ar (aH (tOp (Cj G.kvs G.forms) (tC (.ref G.forms)) (tOp (cJ K) (ab 2) (tC (.int 0)))) (ao 3))
 (ar (bz (aY (tOp rNe (tCB (b9 K) (aa (ab 2) af)) (tOp (rI0 fun i j=>.int (i + j)) (tC (.int 1)) (tCB (b9 K) (aa (ab 3) af))))) (aJ (tC (.bl false))) bf)
 (aJ (tCB (Cf K) (aa (bV (qb ig ig K (aa (ab 3) (aa (tSl (zm K) (ab 2) (nN (tC (.int 1))) jp) af))) (fun _ _ _ _=>(jn K 2 (cc (ao 0) (cc (ao 1) jm)))) (fun _ _ _ _=>bH) (fun _ _ _ _=>(au (wq K) [] E0 (aa (ab 2) (aa (ab 3) (aa (ab 0) (aa (ab 1) af)))))) [none,none,some 0,some 1]) af)))))))
theorem J7 {H:Hp} {Q:VK} {kvs:List (Str×V)} {a:Addr} {k:Str} {v:V} (e:kvs.lookup k=some v) (h:Q (.bl false) H):zn kvs a true (.str k) (.ref a) H Q:=⟨rfl,k,rfl,by rw [e]; exact h⟩
theorem Gg (K:Fg):Mg K (.type "str") (.type "str")=some true:=zE K "str"
theorem CD {K:Fg} {G:Glo} (g:uI K G) {vs:List V} {H:Hp} {Q:VK} {E:XK} (h:oy K vs H Q E):mq K G { nx:=fun _ H'=>Q .non H',rt:=Q } (start ["cards","hands","thing","form"] vs) H:=by
 obtain ⟨c,h,v,s,rfl,hs,ok,q⟩:=h
 obtain ⟨a,items,rfl,ha,hl,hf⟩:=Gf hs ok
 obtain ⟨f,hk,tf⟩:=g.form s
 have hfl:=s.form_len
 show mq K G _ [some _,some _,some _,none] _
 unfold mq
 walk_at "rd"
 refine kB (.tup ha) (jD K) ?_
 walk_at "rd"
 refine aU (by show ¬ (((items.length + 1:Nat):Int)=0); omega) ?_
 walk_at "rd"
 refine bp (SqT.of ha) (kR _ _) ?_
 walk_at "rd"
 refine kB (.str _) (Gg K) ?_
 walk_at "rd"
 refine bp (SqT.of ha) (kR _ _) ?_
 walk_at "rd"
 refine J7 hk ?_
 walk_at "rd"
 refine bp (SqT.of ha) (kR _ _) ?_
 refine Hm hk ?_
 walk_at "rd"
 refine Bx (tf.sq _) ?_
 walk_at "rd"
 rw [Lf]
 refine zj (fun n=>absurd (show ((items.length + 1:Nat):Int)=1 + ((s.form.length:Nat):Int) by omega) n) (fun _=>?_)
 walk_at "rd"
 refine Ci (SqT.of ha) (mN _ _) fun b H1 hb s1 e1=>?_
 rw [sX] at e1
 walk_at "rd"
 refine qe (S1:=ig) (S2:=ig) (s.form.map V.str) items (tf.sq _) (SqT.of e1) (fun H' _=>tf.sq _) (fun H' s'=>SqT.of (s' _ _ e1)) (by rw [Lf]; omega) (fun i acc _=>acc=(LX i true).map V.bl) (fun _ _=>rfl) ?_ ?_
 ·rintro p hp C s' H' fp i x y T acc H2 H3 hx hy ⟨s2,e2,l2,rfl⟩ hT s3 e3 e4
  obtain ⟨z,hz,rfl⟩:∃ z,s.form[i]?=some z/\x=.str z:=by
   rw [Lx] at hx
   cases e:s.form[i]? with
   | none=>rw [e] at hx; cases hx
   | some z=>rw [e] at hx; exact ⟨z,rfl,(Lu hx).symm⟩
  refine iJ (SqT.of e3) ?_
  walk_at "rd"
  refine ⟨c,h,z,y,rfl,(hf i z y hz hy).same ((s1.trans s2).trans s3),?_⟩
  exact bi.put hp (fun _ _ _ _ r _=>r) (s2.trans s3) e4 l2 (by rw [OP,LI]; rfl)
 ·rintro p acc H2 hp s2 e2 rfl
  walk_at "rd"
  refine ⟨p,_,rfl,SqL.of e2,?_⟩
  rw [show ∀ n:Nat,(LX n true).all id=true from fun n=>by simp]
  exact q _ (s1.trans s2)
noncomputable def iQ (_:Fg):Sp:=fun vs H Q _=>∃ (l:Addr) (xs:List V) (ss:List Sy),vs=[.ref l]/\H l=some (.lst xs)/\gA H xs ss/\xs.length<=100/\∀ (p:Addr) (ys:List V) (H':Hp),am H H'->H p=none->H' p=some (.lst ys)->gA H' ys (ss.flatMap Sy.subs)->Q (.ref p) H'
noncomputable def gC (K:Fg):TS:=(ar (aH (fv af) (ao 1))
 (ar (dk (dg K (ab 0)) (ao 2) (dR (tBM K "list" wa (ab 1) (aa (au (mS K) [] E0 (aa (ab 2) af)) af))))
 (aJ (ab 1))))
theorem J8 {α β:Type} {F:α->β->Prop} {l l':List α} {m m':List β} (h:Paired F l m) (q:Paired F l' m'):Paired F (l++l') (m++m'):=by
 induction h with
 | nil=>exact q
 | cons x _ ih=>exact .cons x ih
theorem BG:∀ ss:List Sy,(ss.flatMap Sy.subs).length<=2 * ss.length
 | []=>Le _
 | s :: r=>by
  have:=BG r
  have:s.subs.length<=2:=by cases s <;> simp [Sy.subs]
  rw [QS,Lz,LP]
  omega
theorem uQ (h:iQ K vs H Q E):gC K { nx:=fun _ H'=>Q .non H',rt:=Q } (start ["sayings","parts","saying"] vs) H:=by
 obtain ⟨l,xs,ss,rfl,el,hx,h100,q⟩:=h
 show gC K _ [some _,none,none] _
 unfold gC
 have lxs:=gf hx
 walk_at "rd"
 refine ⟨by simp [Ll],fun p H1 hp s1 e1=>?_⟩
 walk_at "rd"
 refine kQ xs (SqL.of (s1 _ _ el)) (fun i σ H2=>∃ (u:Option V) (ys:List V),σ=[some (.ref l),some (.ref p),u]/\am H H2/\H2 p=some (.lst ys)/\gA H2 ys ((ss.take i).flatMap Sy.subs)) ⟨none,[],rfl,s1,e1,.nil⟩ ?_ ?_ ?_
 ·rintro i σ H2 hi ⟨u,ys,rfl,s2,_⟩
  exact SqL.of (s2 _ _ el)
 ·rintro i x σ H2 hxi ⟨u,ys,rfl,s2,e2,p2⟩
  obtain ⟨s,hs,is⟩:=mj hx hxi
  have lys:=gf p2
  have:=BG (ss.take i)
  rw [MF] at this
  walk_at "rd"
  refine ⟨.inl ⟨rfl,_,SqL.of e2⟩,?_⟩
  walk_at "rd"
  refine ⟨x,s,rfl,is.keep s2.keep,fun p3 zs H3 s3 hp3 e3 y3 l3=>?_⟩
  walk_at "rd"
  refine FQ (s3 _ _ e2) e3 (by rw [Ll]; omega) fun H4 o4 e4=>?_
  have k4:fq H3 H4:=fun b ws e=>(o4 b fun z=>by rw [z,s3 _ _ e2] at e; cases e).trans e
  refine ⟨_,ys++zs,rfl,(s2.trans s3).off hp o4,e4,?_⟩
  rw [MW,hs,Qc]
  refine J8 ((p2.keep s3.keep).keep k4) ?_
  show Paired _ zs (s.subs++[])
  rw [NK]
  exact y3.keep k4
 ·rintro σ H2 ⟨u,ys,rfl,s2,e2,p2⟩
  rw [lxs,LZ] at p2
  walk_at "rd"
  exact q p ys H2 s2 hp e2 p2
theorem zK:∀ ss:List Sy,(ss.map Sy.words).sum=ss.length + ((ss.flatMap Sy.subs).map Sy.words).sum
 | []=>rfl
 | s :: r=>by
  rw [LA,LN,zK r,s.words_subs,QS,LI,MP,LP]
  omega
theorem IF {c h:Nat} {s:Sy} (ok:s.Ok c h):∀ t∈s.subs,t.Ok c h:=by
 cases s with
 | holds w k=>exact fun t ht=>nomatch ht
 | sees k=>exact fun t ht=>nomatch ht
 | not s=>exact fun t ht=>by rw [Lg.mp ht]; exact ok
 | and s t=>exact fun u hu=>(Lh.mp hu).elim (fun z=>z ▸ ok.1) fun z=>Lg.mp z ▸ ok.2
 | or s t=>exact fun u hu=>(Lh.mp hu).elim (fun z=>z ▸ ok.1) fun z=>Lg.mp z ▸ ok.2
 | knows k s=>exact fun t ht=>by rw [Lg.mp ht]; exact ok.2
 | all g s=>exact fun t ht=>by rw [Lg.mp ht]; exact ok.2
 | common g s=>exact fun t ht=>by rw [Lg.mp ht]; exact ok.2
noncomputable def lx (_:Fg):Sp:=fun vs H Q _=>∃ (c h:Nat) (v:V) (s:Sy),vs=[.int c,.int h,v]/\aK H v s/\s.Ok c h/\s.words<=30/\∀ H',am H H'->Q (.bl true) H'
noncomputable def jL (K:Fg):TS:=(ar (bz (tOr (fZ (tB (au (gU K) [] E0 (aa (ab 0) af)))) (fZ (tB (au (gU K) [] E0 (aa (ab 1) af))))) (aJ (tC (.bl false))) bf)
 (ar (aH (tC (.int 0)) (ao 3))
 (ar (aH (fv (aa (ab 2) af)) (ao 4))
 (ar (kZ (aY (tOp (rI0 fun i j=>.bl (decide (j < i))) (tCB (b9 K) (aa (ab 4) af)) (tC (.int 0)))) (ar (aH (tOp (rI0 fun i j=>.int (i + j)) (ab 3) (tCB (b9 K) (aa (ab 4) af))) (ao 3))
 (ar (bz (tOr (aY (tOp (rI0 fun i j=>.bl (decide (j < i))) (ab 3) (tC (.int 30)))) (fZ (tB (tCB (Cf K) (aa (bV (dg K (ab 4)) (fun _ _ _ _=>(ao 0)) (fun _ _ _ _=>bH) (fun _ _ _ _=>(au (oy K) [] E0 (aa (ab 1) (aa (ab 2) (aa (ab 0) af))))) [none,some 0,some 1]) af))))) (aJ (tC (.bl false))) bf)
 (aH (au (iQ K) [] E0 (aa (ab 4) af)) (ao 4)))))
 (aJ (tC (.bl true)))))))
theorem zL (h:lx K vs H Q E):jL K { nx:=fun _ H'=>Q .non H',rt:=Q } (start ["cards","hands","thing","words","level"] vs) H:=by
 obtain ⟨c,h,v,s,rfl,hs,ok,hw,q⟩:=h
 show jL K _ [some _,some _,some _,none,none] _
 unfold jL
 walk_at "rd"
 refine ⟨_,rfl,eO.int _,?_⟩
 walk_at "rd"
 refine Ce ?_
 walk_at "rd"
 refine ⟨_,rfl,eO.int _,?_⟩
 walk_at "rd"
 refine Ce ?_
 walk_at "rd"
 refine ⟨by simp [Ll],fun p H1 hp s1 e1=>?_⟩
 refine jW ?_
 dsimp only [Nj,Nk]
 refine bu ?_
 refine yB (fun m σ H2=>∃ (W:Nat) (l:Addr) (xs:List V) (ss:List Sy),σ=[some (.int c),some (.int h),some v,some (.int W),some (.ref l)]/\am H H2/\H2 l=some (.lst xs)/\gA H2 xs ss/\(∀ t∈ss,t.Ok c h)/\m=(ss.map Sy.words).sum/\W + m<=30) s.words
  ⟨0,p,[v],[s],rfl,s1,e1,.cons (hs.keep s1.keep) .nil,fun t ht=>by rw [Lg.mp ht]; exact ok,by simp,by omega⟩ ?_
 rintro m σ H2 ⟨W,l,xs,ss,rfl,s2,e2,hx,hok,rfl,hW⟩
 have lxs:=gf hx
 have e:=zK ss
 walk_at "rd"
 refine cC (fun c0=>?_) (fun c0=>?_)
 ·refine yA ?_
  walk_at "rd"
  refine aU (by omega) ?_
  walk_at "rd"
  refine gx xs (SqL.of e2) (by omega) (fun i acc _=>acc=(LX i true).map V.bl) (fun _ _=>rfl) ?_ ?_
  ·rintro p' hp' C s' H' fp i x acc H3 hxi ⟨s3,e3,l3,rfl⟩
   obtain ⟨t,ht,it⟩:=mj hx hxi
   walk_at "rd"
   refine ⟨c,h,x,t,rfl,it.keep s3.keep,hok t (Lw ht),fun H4 s4=>?_⟩
   exact bi.put hp' (fun _ _ _ _ r _=>r) (s3.trans s4) (s4 _ _ e3) l3 (by rw [OP,LI]; rfl)
  ·rintro p' acc H3 hp' s3 e3 rfl
   walk_at "rd"
   refine ⟨p',_,rfl,SqL.of e3,?_⟩
   rw [show ∀ n:Nat,(LX n true).all id=true from fun n=>by simp]
   walk_at "rd"
   refine ⟨l,xs,ss,rfl,s3 _ _ e2,hx.keep s3.keep,by omega,fun p4 ys H4 s4 hp4 e4 y4=>?_⟩
   walk_at "rd"
   refine ⟨_,by omega,W + xs.length,p4,ys,_,rfl,(s2.trans s3).trans s4,e4,y4,fun t ht=>?_,rfl,by omega⟩
   obtain ⟨u,hu,ht⟩:=TU.mp ht
   exact IF (hok u hu) t ht
 ·walk_at "rd"
  exact q _ s2
end
section
variable {K:Fg} {vs:List V} {H:Hp} {Q:VK} {E:XK}
noncomputable def jM (K:Fg):TS:=(ar (aH (tOp (rI (fun _ j=>0 < j) fun i j=>.int (i % j)) (au (aZ K) [] E0 (aa (ab 0) (aa (ab 1) af))) (tC (.int 8))) (ao 3))
 (ar (bz (aY (tOp rEq (tOp (rI (fun _ j=>0 < j) fun i j=>.int (i % j)) (tOp (rI eU fun i j=>.int (i / j)) (au (aZ K) [] E0 (aa (ab 0) (aa (ab 1) af))) (tC (.int 8))) (tC (.int 16))) (tC (.int 5)))) (aH (tOp (rI0 fun i j=>.int (i + j)) (tC (.int 8)) (tOp (rI (fun _ j=>0 < j) fun i j=>.int (i % j)) (tOp (rI eU fun i j=>.int (i / j)) (au (aZ K) [] E0 (aa (ab 0) (aa (ab 1) af))) (tC (.int 128))) (tC (.int 5)))) (ao 3)) bf)
 (ar (aH (fv af) (ao 4))
 (ar (dk (eN (aa (tOp (rI0 fun i j=>.int (i + j)) (tC (.int 1)) (tOp (rI (fun _ j=>0 < j) fun i j=>.int (i % j)) (au (aZ K) [] E0 (aa (ab 0) (aa (tOp (rI0 fun i j=>.int (i + j)) (ab 1) (tC (.int 1))) af))) (tC (.int 5)))) af)) (ao 5) (dR (tBM K "list" fK (ab 4) (aa (tOp (rI (fun _ j=>0 < j) fun i j=>.int (i % j)) (au (aZ K) [] E0 (aa (ab 0) (aa (tOp (rI0 fun i j=>.int (i + j)) (tOp (rI0 fun i j=>.int (i + j)) (ab 1) (tC (.int 2))) (ab 5)) af))) (tOp (rI0 fun i j=>.int (i + j)) (tCB ut (aa (tC (.int 4)) (aa (tOp (rI0 fun i j=>.int (i - j)) (ab 3) (tCB (sV K) (aa (ab 4) af))) af))) (tC (.int 1)))) af))))
 (ar (kZ (aY (tOp (rI0 fun i j=>.bl (decide (j < i))) (au (gZ K) [] E0 (aa (ab 3) (aa (ab 4) af))) (ab 2))) (ar (bz (aY (tOp (rI0 fun i j=>.bl (decide (j < i))) (tCB (we K) (aa (ab 4) af)) (tOp (rI0 fun i j=>.int (i - j)) (ab 3) (tCB (sV K) (aa (ab 4) af))))) (aH (tOp (rI0 fun i j=>.int (i - j)) (tCB (we K) (aa (ab 4) af)) (tC (.int 1))) (pT (ab 4) (tBM K "list" zi (ab 4) (aa (tCB (we K) (aa (ab 4) af)) af)) lY)) bf)
 (aH (tOp (rI0 fun i j=>.int (i - j)) (ab 3) (tC (.int 1))) (ao 3))))
 (aJ (ci (aa (ab 3) (aa (ab 4) af)))))))))
theorem zM (h:ln K vs H Q E):jM K { nx:=fun _ H'=>Q .non H',rt:=Q } (start ["_law_script","_law_at","_law_most","_law_cards","_law_sizes","_law_k"] vs) H:=by
 obtain ⟨a,ns,at_,most,rfl,hSc,ha0,ha1,hm,g⟩:=h
 show jM K _ [some _,some _,some _,none,none,none] _
 unfold jM
 refine bu ?_
 walk_at "rs"
 refine ⟨a,ns,at_,rfl,hSc,ha0,by omega,?_⟩
 walk_at "rs"
 refine m6 fun NX hNX=>?_
 have key:∀ c:Nat,c<=12->NX [some (.ref a),some (.int at_),some (.int most),some (.int c),none,none] H:=by
  intro c hc
  refine hNX _ _ ?_
  refine bu ?_
  walk_at "rs"
  refine ⟨by simp [Ll],fun q H1 hq s1 e1=>?_⟩
  walk_at "rs"
  refine m6 fun NX hNX=>?_
  have hSc1:=hSc.same s1
  walk_at "rs"
  refine ⟨a,ns,at_ + 1,rfl,hSc1,by omega,by omega,?_⟩
  walk_at "rs"
  refine js (1 + br ns (at_ + 1) % 5).toNat rfl (by omega) (by omega) (fun i σ H2=>∃ (ss:List Nat) (st:Option V),σ=[some (.ref a),some (.int at_),some (.int most),some (.int c),some (.ref q),st]/\am H H2/\H2 q=some (.lst (av ss))/\ss.length=i/\ss.sum<=c) ⟨[],none,rfl,s1,e1,rfl,Me _⟩ ?_ ?_
  ·rintro i σ H2 hi ⟨ss,st,rfl,s2,e2,hl,hs⟩
   have hSc2:=hSc.same s2
   walk_at "rd"
   refine ⟨yz e2,?_⟩
   walk_at "rd"
   refine ⟨a,ns,at_ + 2 + (i:Int),rfl,hSc2,by omega,by omega,?_⟩
   walk_at "rd"
   refine Cg (ns:=ss.map fun (s:Nat)=>((s:Nat):Int)) (by rw [<-gd]; exact SqL.of e2) ?_
   walk_at "rd"
   rw [ik]
   obtain ⟨lst,hlst,hlst2⟩:∃ l:Nat,(if (c:Int) - ((ss.sum:Nat):Int) < 4 then (c:Int) - ((ss.sum:Nat):Int) else 4)=(l:Int)/\l<=c - ss.sum:=by
    by_cases h:(c:Int) - ((ss.sum:Nat):Int) < 4
    ·exact ⟨c - ss.sum,by rw [if_pos h]; omega,Le _⟩
    ·exact ⟨4,by rw [if_neg h]; rfl,by omega⟩
   rw [hlst]
   walk_at "rd"
   obtain ⟨z,hz,hz2⟩:∃ z:Nat,br ns (at_ + 2 + (i:Int)) % ((lst:Int) + 1)=(z:Int)/\z<=lst:=by
    have m1:=N1 (br ns (at_ + 2 + (i:Int))) (b:=(lst:Int) + 1) (by omega)
    have m2:=NG (br ns (at_ + 2 + (i:Int))) (b:=(lst:Int) + 1) (by omega)
    exact ⟨(br ns (at_ + 2 + (i:Int)) % ((lst:Int) + 1)).toNat,by omega,by omega⟩
   rw [hz]
   refine ii e2 (by rw [bg,Ll]; omega) fun H4 o4 e4=>?_
   rw [iC] at e4
   refine ⟨ss++[z],_,rfl,s2.off hq o4,e4,by rw [Lz,hl]; rfl,?_⟩
   rw [MP,LN,OM]
   omega
  ·rintro σ H2 ⟨ss,st,rfl,s2,e2,hl,hs⟩
   exact hNX _ _ (EF s2 hq e2 (by omega) (by omega) hs hc hm g)
 walk_at "rs"
 refine ⟨a,ns,at_,rfl,hSc,ha0,by omega,?_⟩
 walk_at "rs"
 refine cC (fun hb=>?_) (fun hb=>?_)
 ·walk_at "rs"
  refine ⟨a,ns,at_,rfl,hSc,ha0,by omega,?_⟩
  walk_at "rs"
  have:=key (8 + br ns at_ / 128 % 5).toNat (by omega)
  rw [show (((8 + br ns at_ / 128 % 5).toNat:Nat):Int)=8 + br ns at_ / 128 % 5 by omega] at this
  exact this
 ·walk_at "rs"
  have:=key (br ns at_ % 8).toNat (by omega)
  rw [show (((br ns at_ % 8).toNat:Nat):Int)=br ns at_ % 8 by omega] at this
  exact this
end
theorem bi.putW {H H4:Hp} {p:Addr} {R:Nat->List V->Hp->Prop} {i:Nat} {acc:List V} {y:V} (hp:H p=none) (s:am H H4) (e:H4 p=some (.lst acc)) (l:acc.length<=i) (r:∀ H6,Off p H4 H6->R (i + 1) (acc++[y]) H6):
  H4 p=some (.lst acc)/\bi H p R (i + 1) (acc++[y]) (upd H4 p (.lst (acc++[y]))):=
 ⟨e,s.upd hp _,ay,by rw [Lz]; exact Sg l 1,r _ iB⟩
section
variable {g:CF TG} {tt:CF TT} {te:CF TE} {σ₀:St} {Q:VK} {H:Hp} {K:Fg}
theorem ET {j:Int} (n:Nat) (hn:j.toNat=n) (hj:j<=1000000) (hj0:-1000000<=j) (R:Addr->Nat->List V->Hp->Prop) (h0:∀ p H',am H H'->R p 0 [] H')
  (hs:∀ p,H p=none->∀ C s' H' fp,∀ i acc H2,i < n->bi H p (R p) i acc H2->g C s' H' fp (.int i) σ₀ H2 fun σ2 H3=>tt C s' H' fp σ2 H3 fun b H4=>if b=true then te C s' H' fp σ2 H4 fun y H5=>H5 p=some (.lst acc)/\bi H p (R p) (i + 1) (acc++[y]) (upd H5 p (.lst (acc++[y]))) else bi H p (R p) (i + 1) acc H4)
  (hd:∀ p acc H2,H p=none->am H H2->H2 p=some (.lst acc)->R p n acc H2->Q (.ref p) H2):
  ∃ j':Int,[V.int j]=[.int j']/\-(2 ^ 62)<=j'/\j' < 2 ^ 62/\∀ p,H p=none->∃ W:Nat->Nat->List V->Hp->Prop,(∃ m,W 0 m [] (upd H p (.lst [])))/\∀ C s' H' fp,cg (Itr 0 j'.toNat) (g C s' H' fp) (tt C s' H' fp) (te C s' H' fp) σ₀ p Q W:=by
 refine ⟨j,rfl,by omega,by omega,fun p hp=>?_⟩
 subst hn
 exact nW (lo:=0) (bi H p (R p)) ⟨aW hp _,ay,Le _,h0 _ _ (aW hp _)⟩ (fun i acc H2 _ c=>⟨c.2.1,c.2.2.1⟩) (by rw [Ll]; omega) (fun C s' H' fp i acc H2 hi c=>by rw [Ra]; exact hs p hp C s' H' fp i acc H2 hi c) fun acc H2 c=>hd p acc H2 hp c.1 c.2.1 c.2.2.2
end
section
open PySem.Spec
theorem bQ.units64 {k:Nat} {A:Around} (r:bQ k A):A.units + 64 < cLine:=by have:=r.un; omega
section
variable {X:Cx}
theorem OpR.weak {f:Value->Value->Sem Value} {r r':R2} (h:OpR X f r) (w:∀ x y H Q,r' x y H Q->r x y H Q):OpR X f r':=fun pins s σ H x y v u Q I rx ry q=>h pins s σ H x y v u Q I rx ry (w x y H Q q)
theorem cS.weak {f:Value} {r r':List V->Hp->VK->Prop} (h:cS X f r) (w:∀ xs H Q,r' xs H Q->r xs H Q):cS X f r':=fun pins s σ H xs us Q I rx q=>h pins s σ H xs us Q I rx (w xs H Q q)
theorem qy:OpR X (N4 .Add) sW:=D0.weak fun _ _ _ _ ⟨l,b,xs,zs,e1,e2,h1,h2,hz,q⟩=>⟨l,b,xs,zs,e1,e2,h1,h2,hz,q.upd⟩
theorem EU:OpR X (N4 .Mult) FP:=Jz.weak fun _ _ _ _ ⟨l,k,xs,e1,e2,h1,h2,h3,hz,q⟩=>⟨l,k,xs,e1,e2,h1,h2,h3,hz,q.upd⟩
theorem jv:cS X (.type "list") (iI X.K):=zb.weak fun _ _ _ ⟨p,ys,e,h,q⟩=>⟨p,ys,e,h,q.upd⟩
theorem Gh:cS X (.type "tuple") (wf X.K):=oT.weak fun _ _ _ ⟨p,ys,e,h,q⟩=>⟨p,ys,e,.inl ⟨h,q.upd⟩⟩
theorem BH:SlR X (Ch X.K):=fun pins s σ H x v vl vu lo hi sl Q I rx hs pl pu ⟨a,xs,e,h,q⟩=>HX pins s σ H x v vl vu lo hi sl Q I rx hs pl pu ⟨a,xs,e,h,q.upd⟩
end
section
variable {X:Cx} {es:List Expr} {t:TA} {pos:Pos}
theorem bB {x1} (h:PA X es t):PE X (.Tuple es x1 pos) (ci t):=by
 intro pins s σ H Q I hq
 refine Sw (thn (h pos pins s σ H _ I hq) fun us s1 ⟨xs,H1,I1,r,z,q⟩=>⟨by rw [<-r.length]; exact z,?_⟩)
 have hf:H1 s1.heap.objs.size=none:=I1.hok.fresh (Le _)
 refine ⟨.ref s1.heap.objs.size,upd H1 s1.heap.objs.size (.tup xs),I1.laid (t':=s1.toks) (fun b u e=>Lb _ e) (Le _) ?_,rfl,q.upd _ hf⟩
 exact ⟨z,us,r,eR.new _ _⟩
theorem da (h:PA X es t):PE X (.List es pos) (fv t):=by
 intro pins s σ H Q I hq
 refine SN (thn (h pos pins s σ H _ I hq) fun us s1 ⟨xs,H1,I1,r,z,q⟩=>⟨by rw [<-r.length]; exact z,?_⟩)
 have hf:H1 s1.heap.objs.size=none:=I1.hok.fresh (Le _)
 refine ⟨.ref s1.heap.objs.size,upd H1 s1.heap.objs.size (.lst xs),I1.laid (t':=s1.toks) (fun b u e=>Lb _ e) (Le _) ?_,rfl,q.upd _ hf⟩
 exact ⟨z,us,0,r,Lk _ rfl⟩
end
section
variable {X:Cx} {es:List Expr} {te:TE} {t:TA}
theorem ap {v:Const} {j:Nat} {p:Pos} (ha:PE X (.Constant v j p) te) (hr:PA X es t):PA X (.Constant v j p :: es) (aa te t):=gr ha hr rfl
theorem ad {x:Str} {p:Pos} (ha:PE X (.Name x p) te) (hr:PA X es t):PA X (.Name x p :: es) (aa te t):=gr ha hr rfl
theorem aE {a b:Expr} {o:Operator} {p:Pos} (ha:PE X (.BinOp a o b p) te) (hr:PA X es t):PA X (.BinOp a o b p :: es) (aa te t):=gr ha hr rfl
theorem aL {f:Expr} {as:List Expr} {ks:List Keyword} {p:Pos} (ha:PE X (.Call f as ks p) te) (hr:PA X es t):PA X (.Call f as ks p :: es) (aa te t):=gr ha hr rfl
theorem ba {as:List Expr} {k:Nat} {p:Pos} (ha:PE X (.Tuple as k p) te) (hr:PA X es t):PA X (.Tuple as k p :: es) (aa te t):=gr ha hr rfl
theorem aM {a b:Expr} {p:Pos} (ha:PE X (.Subscript a b p) te) (hr:PA X es t):PA X (.Subscript a b p :: es) (aa te t):=gr ha hr rfl
theorem A8 {a:Expr} {os:List CmpOp} {bs:List Expr} {p:Pos} (ha:PE X (.Compare a os bs p) te) (hr:PA X es t):PA X (.Compare a os bs p :: es) (aa te t):=gr ha hr rfl
theorem bS {e:Expr} (ha:PE X e te) (hr:PA X es t) (hs:LD (e :: es) X.env=(false,eval e X.env) :: LD es X.env:=by rfl):PA X (e :: es) (aa te t):=gr ha hr hs
structure ah (N:List Str) (sc:Scope) (i:Nat) (x:Str):Prop where
 n:N[i]?=some x
 v:Vis sc x
 d:(x == ("__debug__":Str))=false
 c:(x == ("__classdict__":Str))=false
theorem pvQ {N:List Str} {sc:Scope} {i:Nat} {x:Str} {pos:Pos} (h:ah N sc i x) (hN:X.N=N) (hS:X.env.scope=sc):PE X (.Name x pos) (ab i):=by
 subst hN hS
 exact DJ h.n h.v h.d h.c
end
end
section
open PySem.Spec
theorem zN {X:Cx}:SlR X (zm X.K):=fun pins s σ H x v vl vu lo hi sl Q I rx hs pl pu ⟨a,xs,e,h,n,q⟩=>Jw pins s σ H x v vl vu lo hi sl Q I rx hs pl pu ⟨a,xs,e,h,n,q.upd⟩
noncomputable def uR (P:Program) (w:World) (K:Fg) (a:Addr) (kvs:List (Str×V)):Prop:=
 (a == Na)=false/\∃ (o:Obj) (es:Array SJ) (ep:Nat) (vs:List (Key×Value)),K.lookup a=some o/\o.ExactDict/\o.data=.dict es ep/\KeysOf (iA P w) es/\Pairs (iA P w) es.toList vs/\(vs.map (·.1)).Nodup/\
  Paired (fun (p:Str×V) (q:Key×Value)=>q.1=.inr p.1/\aI p.2 q.2) kvs vs
theorem kd {k:Str} {v:V}:∀ {kvs:List (Str×V)} {vs:List (Key×Value)},Paired (fun (p:Str×V) (q:Key×Value)=>q.1=.inr p.1/\aI p.2 q.2) kvs vs->kvs.lookup k=some v->∃ u,valueAt vs (.inr k)=some u/\aI v u
 | _,_,.nil,h=>by cases h
 | _,_,.cons (a:=p) (b:=q) r t,h=>by
  obtain ⟨x,y⟩:=p
  obtain ⟨kq,u⟩:=q
  obtain ⟨r1,r2⟩:=r
  simp only at r1 r2
  subst r1
  rw [My] at h
  unfold valueAt
  rw [LW]
  by_cases e:k=x
  ·subst e
   rw [beq_self_eq_true] at h
   cases h
   rw [show decide ((M6 k:Key)=M6 k)=true from decide_eq_true rfl]
   exact ⟨u,rfl,r2⟩
  ·rw [show (k == x)=false from beq_eq_false_iff_ne.mpr e] at h
   rw [show decide ((M6 x:Key)=M6 k)=false from decide_eq_false fun z=>e (OV z).symm]
   exact kd t h
section
variable {X:Cx} {o i:Expr} {pos:Pos} {td ty:TE} {a:Addr} {kvs:List (Str×V)}
theorem uR.of {pins:List (Addr×Obj)} {σ:St} {H:Hp} {s:Shared} (D:uR X.prog X.w X.K a kvs) (I:Inv X pins σ H s):∃ vs,s.heap.DictOf (iA X.prog X.w) a vs/\Paired (fun (p:Str×V) (q:Key×Value)=>q.1=.inr p.1/\aI p.2 q.2) kvs vs:=by
 obtain ⟨_,o,es,ep,vs,lk,ex,hd,hk,hp,nd,rel⟩:=D
 exact ⟨vs,⟨o,es,ep,I.kIn a o lk,ex,hd,hk,hp,nd⟩,rel⟩
theorem EV (D:uR X.prog X.w X.K a kvs) (ho:PE X o td) (hi:PE X i ty) (hs:FS i):PE X (.Subscript o i pos) (tOp (Cj kvs a) td ty):=by
 intro pins s σ H Q I h
 refine BA QX.lookup hs (thn (ho pins s σ H _ I h) fun u s1 ⟨x,H1,I1,rx,q1⟩=>thn (hi pins s1 σ H1 _ I1 q1) fun iv s2 ⟨y,H2,I2,ry,ex,k,v,ey,el,q2⟩=>?_)
 subst ex ey
 obtain rfl:u=LL a:=rx
 obtain ⟨vs,dd,rel⟩:=D.of I2
 obtain ⟨w',hw,rw'⟩:=kd rel el
 exact ⟨dd.typeIs,TX (Hn (k:=.inr k) ry) dd.mapOf hw ⟨v,H2,I2.tok _,rw',q2⟩⟩
theorem so {k:Str}:∀ {kvs:List (Str×V)} {vs:List (Key×Value)},Paired (fun (p:Str×V) (q:Key×Value)=>q.1=.inr p.1/\aI p.2 q.2) kvs vs->kvs.lookup k=none->valueAt vs (.inr k)=none
 | _,_,.nil,_=>rfl
 | _,_,.cons (a:=p) (b:=q) r t,h=>by
  obtain ⟨x,y⟩:=p
  obtain ⟨kq,u⟩:=q
  obtain ⟨r1,r2⟩:=r
  simp only at r1 r2
  subst r1
  rw [My] at h
  unfold valueAt
  rw [LW]
  by_cases e:k=x
  ·subst e
   rw [beq_self_eq_true] at h
   cases h
  ·rw [show (k == x)=false from beq_eq_false_iff_ne.mpr e] at h
   rw [show decide ((M6 x:Key)=M6 k)=false from decide_eq_false fun z=>e (OV z).symm]
   exact so t h
theorem zO (D:uR X.prog X.w X.K a kvs):OpR X (M7 .NotIn) (zn kvs a true):=by
 intro pins s σ H x y v u Q I rx ry h
 obtain ⟨rfl,k,rfl,q⟩:=h
 obtain rfl:u=LL a:=ry
 obtain ⟨vs,dd,rel⟩:=D.of I
 refine wpAny_notIn_of (Hn (k:=.inr k) rx) D.1 dd.mapOf ?_
 refine ⟨.bl (!(kvs.lookup k).isSome),H,I.tok _,?_,q⟩
 cases e:kvs.lookup k with
 | none=>rw [so rel e]; rfl
 | some v'=>
  obtain ⟨w',hw,_⟩:=kd rel e
  rw [hw]
  rfl
end
end
section
open PySem.Spec
structure Gi (P:Program) (w:World) (K:Fg) (mg:Str->Option Value) (G:Glo):Prop where
 ok:uI K G
 mf:mg "FORMS"=some (.ref G.forms)
 df:uR P w K G.forms G.kvs
theorem iF {K:Fg} {a:Addr} {od:Option Addr} {its:Array Value} {n:Nat} {sl:Array (Option Value)} (l:K.lookup a=some ⟨.type "tuple",od,.seq its n,sl⟩) (xs:List V) (hz:its.size<=Lr) (r:aG xs its.toList):ka K a xs:=⟨_,its,n,l,rfl,rfl,hz,r⟩
theorem IG {P:Program} {w:World} {K:Fg} {mg:Str->Option Value} {aF aC f1 f2 f3 f4 f5 f6 f7 f8:Addr} {k1 k2 k3 k4 k5 k6 k7 k8 u1 u2 u3 u4 u5 u6 u7 u8 u9 ua ub uc ud ue:Tok} {ep n1 n2 n3 n4 n5 n6 n7 n8:Nat} {o1 o2 o3 o4 o5 o6 o7 o8:Option Addr} {s1 s2 s3 s4 s5 s6 s7 s8:Array (Option Value)}
  (nF:(aF == Na)=false) (mf:mg "FORMS"=some (.ref aF))
  (lF:K.lookup aF=some ⟨.type "dict",none,.dict #[⟨Mq w.params "holds",.str "holds" k1,.ref f1⟩,⟨Mq w.params "not",.str "not" k2,.ref f2⟩,⟨Mq w.params "and",.str "and" k3,.ref f3⟩,⟨Mq w.params "or",.str "or" k4,.ref f4⟩,
   ⟨Mq w.params "knows",.str "knows" k5,.ref f5⟩,⟨Mq w.params "all",.str "all" k6,.ref f6⟩,⟨Mq w.params "common",.str "common" k7,.ref f7⟩,⟨Mq w.params "sees",.str "sees" k8,.ref f8⟩] ep,#[]⟩)
  (l1:K.lookup f1=some ⟨.type "tuple",o1,.seq #[.str "holder" u1,.str "card" u2] n1,s1⟩) (l2:K.lookup f2=some ⟨.type "tuple",o2,.seq #[.str "saying" u3] n2,s2⟩) (l3:K.lookup f3=some ⟨.type "tuple",o3,.seq #[.str "saying" u4,.str "saying" u5] n3,s3⟩) (l4:K.lookup f4=some ⟨.type "tuple",o4,.seq #[.str "saying" u6,.str "saying" u7] n4,s4⟩)
  (l5:K.lookup f5=some ⟨.type "tuple",o5,.seq #[.str "hand" u8,.str "saying" u9] n5,s5⟩) (l6:K.lookup f6=some ⟨.type "tuple",o6,.seq #[.str "hands" ua,.str "saying" ub] n6,s6⟩) (l7:K.lookup f7=some ⟨.type "tuple",o7,.seq #[.str "hands" uc,.str "saying" ud] n7,s7⟩) (l8:K.lookup f8=some ⟨.type "tuple",o8,.seq #[.str "hand" ue] n8,s8⟩)
  : Gi P w K mg ⟨aF,aC,f1,f2,f3,f4,f5,f6,f7,f8⟩ where
 mf:=mf
 ok:=⟨iF l1 _ (by show 2<=Lr; decide) (.cons ⟨_,rfl⟩ (.cons ⟨_,rfl⟩ .nil)),iF l2 _ (by show 1<=Lr; decide) (.cons ⟨_,rfl⟩ .nil),iF l3 _ (by show 2<=Lr; decide) (.cons ⟨_,rfl⟩ (.cons ⟨_,rfl⟩ .nil)),iF l4 _ (by show 2<=Lr; decide) (.cons ⟨_,rfl⟩ (.cons ⟨_,rfl⟩ .nil)),
  iF l5 _ (by show 2<=Lr; decide) (.cons ⟨_,rfl⟩ (.cons ⟨_,rfl⟩ .nil)),iF l6 _ (by show 2<=Lr; decide) (.cons ⟨_,rfl⟩ (.cons ⟨_,rfl⟩ .nil)),iF l7 _ (by show 2<=Lr; decide) (.cons ⟨_,rfl⟩ (.cons ⟨_,rfl⟩ .nil)),iF l8 _ (by show 1<=Lr; decide) (.cons ⟨_,rfl⟩ .nil)⟩
 df:=by
  refine ⟨nF,_,_,_,[(.inr "holds",.ref f1),(.inr "not",.ref f2),(.inr "and",.ref f3),(.inr "or",.ref f4),(.inr "knows",.ref f5),(.inr "all",.ref f6),(.inr "common",.ref f7),(.inr "sees",.ref f8)],lF,⟨rfl,rfl,rfl⟩,rfl,?_,?_,?_,?_⟩
  ·intro e he
   simp only [List.mem_toArray,Array.mem_def,Lh,Ml,or_false] at he
   rcases he with rfl | rfl | rfl | rfl | rfl | rfl | rfl | rfl
   ·exact ⟨.inr "holds",bm P w _ _,rfl⟩
   ·exact ⟨.inr "not",bm P w _ _,rfl⟩
   ·exact ⟨.inr "and",bm P w _ _,rfl⟩
   ·exact ⟨.inr "or",bm P w _ _,rfl⟩
   ·exact ⟨.inr "knows",bm P w _ _,rfl⟩
   ·exact ⟨.inr "all",bm P w _ _,rfl⟩
   ·exact ⟨.inr "common",bm P w _ _,rfl⟩
   ·exact ⟨.inr "sees",bm P w _ _,rfl⟩
  ·exact .cons (bm P w _ _) rfl (.cons (bm P w _ _) rfl (.cons (bm P w _ _) rfl (.cons (bm P w _ _) rfl (.cons (bm P w _ _) rfl (.cons (bm P w _ _) rfl (.cons (bm P w _ _) rfl (.cons (bm P w _ _) rfl .nil)))))))
  ·show ([.inr "holds",.inr "not",.inr "and",.inr "or",.inr "knows",.inr "all",.inr "common",.inr "sees"]:List Key).Nodup
   decide +kernel
  ·exact .cons ⟨rfl,rfl⟩ (.cons ⟨rfl,rfl⟩ (.cons ⟨rfl,rfl⟩ (.cons ⟨rfl,rfl⟩ (.cons ⟨rfl,rfl⟩ (.cons ⟨rfl,rfl⟩ (.cons ⟨rfl,rfl⟩ (.cons ⟨rfl,rfl⟩ .nil)))))))
end
section
open PySem.Spec
section
variable {P:Program} {w:World} {K:Fg} {mg:Str->Option Value} {base:Heap} {N:List Str} {qual:Str} {scope:Scope} {f:Addr} {cd:Value} {A:Around} {outer:List Env} {s:Shared} {H:Hp} {E:XK}
end
end
section
open PySem.Spec
section
variable {X:Cx} {pins:List (Addr×Obj)} {σ:St} {H:Hp} {s:Shared} {B h':Heap}
end
section
variable {X:Cx} {pins pn pins':List (Addr×Obj)} {σ:St} {H:Hp} {s:Shared} {B:Heap} {E:Value->Shared->Prop} {a:Addr}
end
end
section
open PySem.Spec PySem.W
section
variable {prog:Program} {w:World} {A:Around} {E:Value->Shared->Prop} {h:Heap} {g:Array R3} {d:Drawn} {t:Nat} {os:OsState} {a:Addr} {o:Obj} {C:Addr} {K:Frag}
end
end
section
open PySem.Spec PySem.W
end
section
open PySem.Spec PySem.W
section
variable {P:Program} {w:World} {K:Frag} {mg:Str->Option Value} {base:Heap} {k:Nat} {f:Addr} {fd:LB} {ps:List Str}
end
end
section
open PySem.Spec PySem.W
section
variable {P:Program} {w:World} {K:Frag} {mg:Str->Option Value} {base:Heap}
noncomputable def FnM (P:Program) (w:World) (K:Frag) (mg:Str->Option Value) (base:Heap) (k:Nat) (C:Addr) (m:Str) (ps:List Str) (sp:Sp):Prop:=
 ∃ f fd,gO P w K mg base CX0 k f fd ps sp/\y6 K C m f/\fk K fd ps []
structure iq (K:Frag) (C:Addr) (m qual:Str) (st:Stmt) (ps:List Str) (f:Addr) (fd:LB):Prop where
 fn:Fun K m qual st f fd
 mt:y6 K C m f
 b:fk K fd ps []
theorem iq.ok {C:Addr} {m qual:Str} {st:Stmt} {N ps:List Str} {f:Addr} {fd:LB} {k:Nat} {sp:Sp} (D:iq K C m qual st ps f fd) (S:aB N ps (ac st)) (len:∀ vs H Q E,sp vs H Q E->vs.length=ps.length)
  (hbody:∀ (cdv:Value) (A:Around) (outer:List Env) (s:Shared) (H:Hp) (vs:List V) (Q:VK) (E:XK),bQ k (A.deeper (envOfC qual (ac st) s.heap.objs.size f cdv))->sp vs H Q E->
   ∃ t,PSs (nL CX0 P w K mg base N qual (ac st) f cdv A outer s H E).nox (eV st) t/\t { nx:=fun _ H'=>Q .non H',rt:=Q } (start N vs) H):FnM P w K mg base (k + 1) C m ps sp:=
 ⟨f,fd,D.fn.ok S len hbody,D.mt,D.b⟩
noncomputable def FnI (P:Program) (w:World) (K:Frag) (mg:Str->Option Value) (base:Heap) (k:Nat) (C:Addr) (ps:List Str) (sp:Sp):Prop:=
 ∃ f fd,gO P w K mg base CX0 k f fd ps sp/\Mk K C f/\fk K fd ps []
structure zP (K:Frag) (C:Addr) (qual:Str) (st:Stmt) (ps:List Str) (f:Addr) (fd:LB):Prop where
 fn:Fun K "__init__" qual st f fd
 made:Mk K C f
 b:fk K fd ps []
theorem zP.ok {C:Addr} {qual:Str} {st:Stmt} {N ps:List Str} {f:Addr} {fd:LB} {k:Nat} {sp:Sp} (D:zP K C qual st ps f fd) (S:aB N ps (ac st)) (len:∀ vs H Q E,sp vs H Q E->vs.length=ps.length)
  (hbody:∀ (cdv:Value) (A:Around) (outer:List Env) (s:Shared) (H:Hp) (vs:List V) (Q:VK) (E:XK),bQ k (A.deeper (envOfC qual (ac st) s.heap.objs.size f cdv))->sp vs H Q E->
   ∃ t,PSs (nL CX0 P w K mg base N qual (ac st) f cdv A outer s H E).nox (eV st) t/\t { nx:=fun _ H'=>Q .non H',rt:=Q } (start N vs) H):FnI P w K mg base (k + 1) C ps sp:=
 ⟨f,fd,D.fn.ok S len hbody,D.made,D.b⟩
end
section
variable {X:Cx} {k:Nat} {C:Addr} {m:Str} {ps:List Str} {sp:Sp} {p pos apos:Pos} {o e:Expr} {es:List Expr} {ta:TE} {t:TA}
theorem bd {a:Expr} {f:Str} {p:Pos} {te:TE} (ha:PE X (.Attribute a f p) te) (hr:PA X es t):PA X (.Attribute a f p :: es) (aa te t):=gr ha hr rfl
theorem ir {pl:Sem Bool} (F:FnM X.prog X.w X.K X.mg X.base k C m ps sp) (hr:bQ k X.A) (c:Cls X.K C) (he:PE X o ta) (ha:PA X (e :: es) t)
  (hst:LD (e :: es) X.env=(false,eval e X.env) :: LD es X.env:=by rfl) (hpl:(backTo pos (LD es X.env)).any (·.1)=false:=by rfl)
  (ht:eval (.Call (.Attribute o m apos) (e :: es) [] pos) X.env=(do
   let ov <-eval o X.env
   standAt apos.atName
   let (f,first) <-holding [ov] (Qq ov m pl)
   TC pos f first (backTo pos (LD (e :: es) X.env)) (Py pos (OC [] X.env))):=by rfl):
  PE X (.Call (.Attribute o m apos) (e :: es) [] pos) (fj C m sp [] E0 ta t):=by
 obtain ⟨f,fd,ok,mt,b⟩:=F
 exact HR he c mt ok hr b .nil yy ha hst hpl ht
theorem qz {pl:Sem Bool} (F:FnM X.prog X.w X.K X.mg X.base k C m ps sp) (hr:bQ k X.A) (c:Cls X.K C) (he:PE X o ta)
  (ht:eval (.Call (.Attribute o m apos) [] [] pos) X.env=(do
   let ov <-eval o X.env
   standAt apos.atName
   let (f,first) <-holding [ov] (Qq ov m pl)
   TC pos f first (backTo pos (LD [] X.env)) (Py pos (OC [] X.env))):=by rfl):
  PE X (.Call (.Attribute o m apos) [] [] pos) (fj C m sp [] E0 ta af):=by
 obtain ⟨f,fd,ok,mt,b⟩:=F
 exact FE he c mt ok hr b .nil yy ht
theorem zQ {x:Str} (F:FnI X.prog X.w X.K X.mg X.base k C ps sp) (hr:bQ (k + 1) X.A) (hm:X.mg x=some (.ref C)) (ha:PA X (e :: es) t) (hg:Gl X x:=by rfl)
  (hdb:(x == ("__debug__":Str))=false:=by decide) (he:LD (e :: es) X.env=(false,eval e X.env) :: LD es X.env:=by rfl) (hpl:(backTo pos (LD es X.env)).any (·.1)=false:=by rfl):
  PE X (.Call (.Name x p) (e :: es) [] pos) (ui C sp [] E0 t):=by
 obtain ⟨f,fd,ok,mk,b⟩:=F
 exact HS mk ok hr hg hm b .nil yy ha hdb he hpl
end
end
section
open PySem.Spec PySem.W
structure oz (K:Frag) (C:Addr):Prop where
 cl:Cls K C
 n1:d3 K C "dealt"
 n2:d3 K C "cards"
 n3:d3 K C "sizes"
 n4:d3 K C "hands"
 n5:d3 K C "views"
 n6:d3 K C "deeds"
set_option genInjectivity false in
structure GF extends Glo where
 Table:Addr
structure d8 (P:Program) (w:World) (K:Frag) (mg:Str->Option Value) (G:GF):Prop where
 tb:Gi P w K mg G.toGlo
 m_Table:mg "Table"=some (.ref G.Table)
 ct:oz K G.Table
theorem d8.cl_Table {P:Program} {w:World} {K:Frag} {mg:Str->Option Value} {G:GF} (T:d8 P w K mg G):Cls K G.Table:=T.ct.cl
theorem Gj {P:Program} {w:World} {K:Frag} {mg:Str->Option Value} {G:Glo} {aT:Addr} (t:Gi P w K mg G) (m:mg "Table"=some (.ref aT)) (pg:plainGet K aT Ut=true) (hd:hasDictIn K aT=true) (po:plainOver K aT=true) (sa:findIn K (.ref aT) "__setattr__"=some (some (.builtin "object.__setattr__")))
  (n1:findIn K (.ref aT) "dealt"=some none) (n2:findIn K (.ref aT) "cards"=some none) (n3:findIn K (.ref aT) "sizes"=some none) (n4:findIn K (.ref aT) "hands"=some none) (n5:findIn K (.ref aT) "views"=some none) (n6:findIn K (.ref aT) "deeds"=some none):d8 P w K mg ⟨G,aT⟩:=
 ⟨t,m,⟨⟨pg,hd,po,sa⟩,n1,n2,n3,n4,n5,n6⟩⟩
end
end L2
section
namespace L2
open PySem
end L2
end
section
namespace L2
open PySem
noncomputable def tq (K:Fg) (t:TA):TE:=fun σ H Q=>t σ H fun xs H1=>∃ (p:Addr) (ns:List Int),xs=[.ref p]/\SqL K H1 p (ns.map V.int)/\ns.length < 64/\
 ∀ (q:Addr) (H':Hp) (ms:List Int),H1 q=none->am H1 H'->H' q=some (.lst (ms.map V.int))->ms.Pairwise (· < ·)->(∀ y,y∈ms↔y∈ns)->Q (.ref q) H'
theorem EW {K:Fg} {t:TA} {σ:St} {H:Hp} {Q:VK} (h:t σ H fun xs H1=>∃ (p:Addr) (ns:List Int),xs=[.ref p]/\SqL K H1 p (ns.map V.int)/\ns.length < 64/\
 ∀ (q:Addr) (H':Hp) (ms:List Int),H1 q=none->am H1 H'->H' q=some (.lst (ms.map V.int))->ms.Pairwise (· < ·)->(∀ y,y∈ms↔y∈ns)->Q (.ref q) H'):tq K t σ H Q:=h
theorem zR {α:Type} [DecidableEq α]:∀ {l m:List α},l.Nodup->(∀ x∈l,x∈m)->l.length<=m.length
 | [],m,_,_=>Me _
 | x :: l,m,nd,h=>by
  have hx:x∈m:=h x Lj
  obtain ⟨n1,n2⟩:=NL.mp nd
  have:=zR (m:=m.erase x) n2 fun y hy=>(List.mem_erase_of_ne (fun e:y=x=>n1 (e ▸ hy))).mpr (h y (Ln _ hy))
  rw [List.length_erase_of_mem hx] at this
  have:=List.length_pos_of_mem hx
  rw [LP]
  omega
end L2
end
namespace L2
open PySem PyProof.Rows
noncomputable def GE (P:Hp->V->Prop) (σ:St) (H0:Hp) (te:TE):Prop:=∀ H,am H0 H->∀ Q:VK,(∀ x H',am H H'->P H' x->Q x H')->te σ H Q
noncomputable def GA (P:Hp->V->Prop) (σ:St) (H0:Hp) (n:Nat) (ta:TA):Prop:=∀ H,am H0 H->∀ R:List V->Hp->Prop,(∀ xs H',am H H'->xs.length=n->(∀ x∈xs,P H' x)->R xs H')->ta σ H R
theorem GA.nil {P:Hp->V->Prop} {σ:St} {H0:Hp}:GA P σ H0 0 af:=fun H s R q=>Hj (q [] H (am.refl _) rfl fun _ h=>(nomatch h))
theorem GA.cons {P:Hp->V->Prop} (st:∀ H H' x,am H H'->P H x->P H' x) {σ:St} {H0:Hp} {n:Nat} {te:TE} {tr:TA} (b:GE P σ H0 te) (t:GA P σ H0 n tr):GA P σ H0 (n + 1) (aa te tr):=fun H s R q=>
 En (b H s _ fun x H1 s1 px=>t H1 (s.trans s1) _ fun xs H2 s2 hl hb=>q (x :: xs) H2 (s1.trans s2) (by rw [LP,hl]) fun y hy=>by
  rcases Lh.mp hy with rfl | hy
  ·exact st _ _ _ s2 px
  ·exact hb y hy)
theorem qA {P:Hp->V->Prop} (st:∀ H H' x,am H H'->P H x->P H' x) {σ:St} {H0 H:Hp} {n:Nat} {ta:TA} {R:List V->Hp->Prop} (s:am H0 H) (b:GA P σ H0 n ta) (q:∀ xs H',am H H'->xs.length=n->(∀ x∈xs,P H' x)->R xs H'):ta σ H R:=b H s R q
theorem kH (z:Int) {m:Int} (h:0 < m):∃ k:Nat,z % m=(k:Int)/\(k:Int) < m:=by
 have m1:=N1 z (b:=m) (by omega)
 have m2:=NG z h
 exact ⟨(z % m).toNat,by omega,by omega⟩
section
variable {K:Fg} {vs:List V} {H:Hp} {Q:VK} {E:XK}
noncomputable def dm (_:Fg):Sp:=fun vs H Q _=>∃ (z:Int) (h:Nat),vs=[.int z,.int h]/\h<=5/\∀ (p:Addr) (g:List Nat) (H':Hp),am H H'->H' p=some (.tup (av g))->g.Pairwise (· < ·)->(∀ k∈g,k < h)->Q (.ref p) H'
noncomputable def iR (K:Fg):TS:=(aJ (tCB (wf K) (aa (bV (eN (aa (ab 1) af)) (fun _ _ _ _=>(ao 0)) (fun _ _ _ _=>(aY (tOp rEq (tOp (rI (fun _ j=>0 < j) fun i j=>.int (i % j)) (tOp (rI eU fun i j=>.int (i / j)) (ab 1) (tOp (cV K) (fv (aa (tC (.int 1)) (aa (tC (.int 2)) (aa (tC (.int 4)) (aa (tC (.int 8)) (aa (tC (.int 16)) af)))))) (ab 0))) (tC (.int 2))) (tC (.int 1))))) (fun _ _ _ _=>(ab 0)) [none,some 0]) af)))
theorem at5 {i:Nat} (h:i < 5):∃ v:Int,atI [V.int 1,V.int 2,V.int 4,V.int 8,V.int 16] (i:Int)=some (.int v)/\0 < v/\v<=16:=by
 match i,h with
 | 0,_=>exact ⟨1,rfl,by decide,by decide⟩
 | 1,_=>exact ⟨2,rfl,by decide,by decide⟩
 | 2,_=>exact ⟨4,rfl,by decide,by decide⟩
 | 3,_=>exact ⟨8,rfl,by decide,by decide⟩
 | 4,_=>exact ⟨16,rfl,by decide,by decide⟩
theorem xK (h:dm K vs H Q E):iR K { nx:=fun _ H'=>Q .non H',rt:=Q } (start ["_law_number","_law_hands"] vs) H:=by
 obtain ⟨z,h,rfl,h5,q⟩:=h
 show iR K _ [some _,some _] _
 unfold iR
 walk_at "rd"
 refine nZ h (by omega) (by omega) (by omega) (fun i acc _=>∃ g:List Nat,acc=av g/\g.Pairwise (· < ·)/\∀ k∈g,k < i) (fun _ _=>⟨[],rfl,.nil,fun _ h=>(nomatch h)⟩) ?_ ?_
 ·rintro p hp C s' H' fp i acc H2 hi ⟨s2,e2,l2,g,rfl,pw,hb⟩
  walk_at "rd"
  refine ⟨by simp [Ll],fun b H3 hb3 s3 e3=>?_⟩
  walk_at "rd"
  obtain ⟨v,hv,v0,v16⟩:=at5 (i:=i) (by omega)
  refine ce (SqL.of e3) hv ?_
  walk_at "rd"
  have e23:=s3 _ _ e2
  refine cC (fun c=>?_) (fun c=>?_)
  ·walk_at "rd"
   refine bi.put hp (fun _ _ _ _ r _=>r) (s2.trans s3) e23 l2 ⟨g++[i],by rw [<-iC],?_,fun k hk=>?_⟩
   ·rw [P3]
    exact ⟨pw,Ri _ _,fun x hx y hy=>by rw [Lg] at hy; have:=hb x hx; omega⟩
   ·rcases LU.mp hk with hk | hk
    ·have:=hb k hk; omega
    ·rw [Lg] at hk; omega
  ·exact bi.skip (s2.trans s3) e23 l2 ⟨g,rfl,pw,fun k hk=>by have:=hb k hk; omega⟩
 ·intro p acc H2 hp s2 e2 ⟨g,hg,pw,hb⟩
  subst hg
  walk_at "rd"
  exact Ig (SqL.of e2) fun t H3 ht s3 e3=>q t g H3 (s2.trans s3) e3 pw hb
noncomputable def uS (H:Hp) (x:V):Option Sy->Prop
 | some t=>aK H x t
 | none=>(∃ i,x=.int i)\/∃ b g,x=.ref b/\H b=some (.tup (av g))
theorem uS.keep {H H':Hp} (k:fq H H') {x:V} {o:Option Sy} (h:uS H x o):uS H' x o:=by
 cases o with
 | some t=>exact aK.keep k h
 | none=>
  rcases h with h | ⟨b,g,e,h⟩
  ·exact .inl h
  ·exact .inr ⟨b,g,e,k _ _ h⟩
theorem BI {H:Hp} {v:V} {s:Sy} (h:aK H v s):∃ a items os,v=.ref a/\H a=some (.tup (.str s.word :: items))/\Paired (uS H) items os/\os.filterMap id=s.subs/\items.length<=2:=by
 cases s with
 | holds w c=>obtain ⟨a,e,h⟩:=h; exact ⟨a,_,[none,none],e,h,.cons (.inl ⟨_,rfl⟩) (.cons (.inl ⟨_,rfl⟩) .nil),rfl,by simp⟩
 | sees w=>obtain ⟨a,e,h⟩:=h; exact ⟨a,_,[none],e,h,.cons (.inl ⟨_,rfl⟩) .nil,rfl,by simp⟩
 | not s=>obtain ⟨a,x,e,h,r⟩:=h; exact ⟨a,_,[some s],e,h,.cons r .nil,rfl,by simp⟩
 | and s t=>obtain ⟨a,x,y,e,h,r,q⟩:=h; exact ⟨a,_,[some s,some t],e,h,.cons r (.cons q .nil),rfl,by simp⟩
 | or s t=>obtain ⟨a,x,y,e,h,r,q⟩:=h; exact ⟨a,_,[some s,some t],e,h,.cons r (.cons q .nil),rfl,by simp⟩
 | knows w s=>obtain ⟨a,x,e,h,r⟩:=h; exact ⟨a,_,[none,some s],e,h,.cons (.inl ⟨_,rfl⟩) (.cons r .nil),rfl,by simp⟩
 | all g s=>obtain ⟨a,b,x,e,h,i,r⟩:=h; exact ⟨a,_,[none,some s],e,h,.cons (.inr ⟨b,g,rfl,i⟩) (.cons r .nil),rfl,by simp⟩
 | common g s=>obtain ⟨a,b,x,e,h,i,r⟩:=h; exact ⟨a,_,[none,some s],e,h,.cons (.inr ⟨b,g,rfl,i⟩) (.cons r .nil),rfl,by simp⟩
noncomputable def dX (_:Fg) (n:Nat):Sp:=fun vs H Q _=>∃ (v:V) (s:Sy),vs=[v]/\aK H v s/\s.words<=n/\∀ H',am H H'->Q (.int (s.words:Nat)) H'
noncomputable def iS (K:Fg) (n:Nat):TS:=(ar (aH (tC (.int 1)) (ao 1))
 (ar (dk (v4 K (tSl (zm K) (ab 0) (nN (tC (.int 1))) jp)) (ao 2) (bz (yY (tB (tCB (lh K) (aa (ab 2) (aa (tC (.ty "tuple")) af)))) (yY (aY (tOp (nX (SqT K) true) (ab 2) (ci af))) (tB (tCB (lh K) (aa (tOp (cJ K) (ab 2) (tC (.int 0))) (aa (tC (.ty "str")) af)))))) (aH (tOp (rI0 fun i j=>.int (i + j)) (ab 1) (au (dX K n) [] E0 (aa (ab 2) af))) (ao 1)) bf))
 (aJ (ab 1))))
theorem oV (h:dX K 0 vs H Q E):False:=by
 obtain ⟨v,s,rfl,_,h,_⟩:=h
 have:=s.words_pos
 omega
theorem EX {K:Fg} {H:Hp} {Q:VK} {a b:Addr} {xs:List V} (h1:SqT K H a xs) (h2:SqT K H b []) (q:Q (.bl (!xs.isEmpty)) H):nX (SqT K) true (.ref a) (.ref b) H Q:=by
 refine ⟨a,b,xs,[],fun _=>true,rfl,rfl,h1,h2,fun j x y _ hy=>by simp at hy,?_⟩
 cases xs with
 | nil=>exact q
 | cons x r=>exact q
noncomputable def ke (os:List (Option Sy)):Nat:=((os.filterMap id).map Sy.words).sum
noncomputable def zT:Option Sy->Nat
 | some t=>t.words
 | none=>0
theorem EY (os:List (Option Sy)) (i:Nat) (o:Option Sy) (h:os[i]?=some o):ke (os.take (i + 1))=ke (os.take i) + zT o:=by
 unfold ke
 rw [MW,h,List.filterMap_append,LI,MP]
 cases o with
 | none=>simp [zT]
 | some t=>simp [zT]
theorem xL {K:Fg} {n:Nat} {vs:List V} {H:Hp} {Q:VK} {E:XK} (h:dX K (n + 1) vs H Q E):iS K n { nx:=fun _ H'=>Q .non H',rt:=Q } (start ["_law_saying_here","_law_found","_law_part"] vs) H:=by
 obtain ⟨v,s,rfl,hs,hw,q⟩:=h
 obtain ⟨a,items,os,rfl,e,hp,hos,h2⟩:=BI hs
 show iS K n _ [some _,none,none] _
 unfold iS
 walk_at "rd"
 refine Ci (SqT.of e) (mN _ _) fun b H1 hb s1 e1=>?_
 rw [sX] at e1
 have hw':=s.words_subs
 have hol:items.length=os.length:=by
  clear hos h2 e e1
  induction hp with
  | nil=>rfl
  | cons _ _ ih=>rw [LP,LP,ih]
 refine zk items (SqT.of e1) (fun i σ H2=>∃ st,σ=[some (.ref a),some (.int (1 + ke (os.take i):Nat)),st]/\am H1 H2) ⟨none,rfl,am.refl _⟩ (fun i σ H2 _ ⟨_,_,s2⟩=>SqT.of (s2 _ _ e1)) ?_ ?_
 ·rintro i x σ H2 hx ⟨st,rfl,s2⟩
  obtain ⟨o,ho,io⟩:=kC hp hx
  have ot:=EY os i o ho
  have io2:=io.keep (s1.trans s2).keep
  cases o with
  | none=>
   have ot':ke (os.take (i + 1))=ke (os.take i):=ot
   rcases io2 with ⟨j,rfl⟩ | ⟨g,gs,rfl,eg⟩
   ·walk_at "rd"
    refine kB (.int _) (BD K "int" (by decide) "tuple" (by decide)) ?_
    walk_at "rd"
    refine nP ?_
    walk_at "rd"
    exact ⟨_,by rw [ot'],s2⟩
   ·walk_at "rd"
    refine kB (.tup eg) (jD K) ?_
    walk_at "rd"
    refine ⟨by simp [Ll],fun u H3 hu s3 e3=>?_⟩
    refine EX (SqT.of (s3 _ _ eg)) (SqT.of e3) ?_
    walk_at "rd"
    cases gs with
    | nil=>
     refine nP ?_
     walk_at "rd"
     exact ⟨_,by rw [ot'],s2.trans s3⟩
    | cons k r=>
     refine p0 ?_
     walk_at "rd"
     refine bp (SqT.of (s3 _ _ eg)) (kR _ _) ?_
     walk_at "rd"
     refine kB (.int _) (BD K "int" (by decide) "str" (by decide)) ?_
     walk_at "rd"
     refine nP ?_
     walk_at "rd"
     exact ⟨_,by rw [ot'],s2.trans s3⟩
  | some t=>
   have ot':ke (os.take (i + 1))=ke (os.take i) + t.words:=ot
   have ts:t∈s.subs:=by rw [<-hos]; exact Qp.mpr ⟨some t,Lw ho,rfl⟩
   have hb':=Sy.sub_words ts
   obtain ⟨a2,items2,_,rfl,et,_⟩:=BI io2
   walk_at "rd"
   refine kB (.tup et) (jD K) ?_
   walk_at "rd"
   refine ⟨by simp [Ll],fun u H3 hu s3 e3=>?_⟩
   refine EX (SqT.of (s3 _ _ et)) (SqT.of e3) ?_
   walk_at "rd"
   refine p0 ?_
   walk_at "rd"
   refine bp (SqT.of (s3 _ _ et)) (kR _ _) ?_
   walk_at "rd"
   refine kB (.str _) (zE K "str") ?_
   walk_at "rd"
   refine ⟨_,t,rfl,aK.keep s3.keep io2,by omega,fun H4 s4=>?_⟩
   walk_at "rd"
   refine ⟨some (.ref a2),?_,(s2.trans s3).trans s4⟩
   rw [ot',show ((1 + ke (os.take i):Nat):Int) + ((t.words:Nat):Int)=((1 + (ke (os.take i) + t.words):Nat):Int) by omega]
 ·rintro σ H2 ⟨st,rfl,s2⟩
  walk_at "rd"
  have e:ke (os.take items.length)=(s.subs.map Sy.words).sum:=by rw [hol,LZ]; unfold ke; rw [hos]
  rw [e,<-hw']
  exact q _ (s1.trans s2)
structure gh (H H2:Hp) (r:Addr) (c h most:Nat) (ss:List Sy):Prop where
 same:am H H2
 new:H r=none
 at_:∃ xs,H2 r=some (.lst xs)/\gA H2 xs ss
 ne:ss≠[]
 ok:∀ s∈ss,s.Ok c h/\s.words<=most
theorem gh.push {H H2 H3:Hp} {r:Addr} {c h most:Nat} {ss:List Sy} {s:Sy} {v:V} {xs:List V} (R:gh H H2 r c h most ss) (e:H2 r=some (.lst xs)) (o:Off r H2 H3) (e3:H3 r=some (.lst (xs++[v]))) (hv:aK H2 v s) (ok:s.Ok c h) (w:s.words<=most):gh H H3 r c h most (ss++[s]) where
 same:=R.same.off R.new o
 new:=R.new
 at_:=by
  obtain ⟨ys,ey,p⟩:=R.at_
  rw [e] at ey
  cases ey
  exact ⟨_,e3,on (p.keep (o.keep e)) (.cons (hv.keep (o.keep e)) .nil)⟩
 ne:=by simp
 ok:=fun t ht=>by
  rcases LU.mp ht with ht | ht
  ·exact R.ok t ht
  ·rw [Lg] at ht; subst ht; exact ⟨ok,w⟩
theorem gh.to {H H2 H3:Hp} {r:Addr} {c h most:Nat} {ss:List Sy} (R:gh H H2 r c h most ss) (s:am H2 H3):gh H H3 r c h most ss where
 same:=R.same.trans s
 new:=R.new
 at_:=by obtain ⟨xs,e,p⟩:=R.at_; exact ⟨xs,s _ _ e,p.keep s.keep⟩
 ne:=R.ne
 ok:=R.ok
noncomputable def ly (K:Fg):Sp:=fun vs H Q _=>∃ (a:Addr) (ns:List Int) (at_:Int) (c h:Nat),vs=[.ref a,.int at_,.int c,.int h]/\fo K H a ns/\0<=at_/\at_<=1000/\1<=h/\∀ (r:Addr) (ss:List Sy) (H':Hp),gh H H' r c h 1 ss->ss.length<=4->Q (.ref r) H'
noncomputable def jN (K:Fg):TS:=(ar (aH (fv (aa (ci (aa (tC (.str "sees")) (aa (tOp (rI (fun _ j=>0 < j) fun i j=>.int (i % j)) (au (aZ K) [] E0 (aa (ab 0) (aa (ab 1) af))) (ab 3)) af))) af)) (ao 4))
 (ar (dk (eN (aa (tOp (rI NM fun i j=>.int (i * j)) (tC (.int 3)) (tCB JQ (aa (tOp (rI0 fun i j=>.bl (decide (j < i))) (ab 2) (tC (.int 0))) af))) af)) (ao 5) (ar (aH (au (aZ K) [] E0 (aa (ab 0) (aa (tOp (rI0 fun i j=>.int (i + j)) (tOp (rI0 fun i j=>.int (i + j)) (ab 1) (tC (.int 1))) (ab 5)) af))) (ao 6))
 (dR (tBM K "list" fK (ab 4) (aa (ci (aa (tC (.str "holds")) (aa (tOp (rI (fun _ j=>0 < j) fun i j=>.int (i % j)) (ab 6) (tOp (rI0 fun i j=>.int (i + j)) (ab 3) (tC (.int 1)))) (aa (tOp (rI (fun _ j=>0 < j) fun i j=>.int (i % j)) (tOp (rI eU fun i j=>.int (i / j)) (ab 6) (tC (.int 7))) (ab 2)) af)))) af)))))
 (aJ (ab 4))))
theorem zU (h:ly K vs H Q E):jN K { nx:=fun _ H'=>Q .non H',rt:=Q } (start ["_law_script","_law_at","_law_cards","_law_hands","_law_pool_here","_law_k","_law_cell_here"] vs) H:=by
 obtain ⟨a,ns,at_,c,h,rfl,hSc,ha0,ha1,h1,q⟩:=h
 show jN K _ [some _,some _,some _,some _,none,none,none] _
 unfold jN
 walk_at "rd"
 refine ⟨a,ns,at_,rfl,hSc,ha0,by omega,?_⟩
 walk_at "rd"
 obtain ⟨k,hk,hk2⟩:=kH (br ns at_) (m:=(h:Int)) (by omega)
 rw [hk]
 refine ⟨by simp [Ll],fun p1 H1 hp1 s1 e1=>?_⟩
 walk_at "rd"
 refine ⟨by simp [Ll],fun r H2 hr s2 e2=>?_⟩
 have R0:gh H H2 r c h 1 [.sees k]:=⟨s1.trans s2,s1.free hr,⟨_,e2,.cons ⟨p1,rfl,s2 _ _ e1⟩ .nil⟩,by simp,fun s hs=>by rw [Lg] at hs; subst hs; exact ⟨show k < h by omega,Le _⟩⟩
 walk_at "rd"
 obtain ⟨n,hn,hn3,hnc⟩:∃ n:Nat,((3:Int) * (if decide ((0:Int) < (c:Int))=true then 1 else 0))=(n:Int)/\n<=3/\(c=0->n=0):=by
  by_cases hc:(0:Int) < (c:Int)
  ·exact ⟨3,by rw [if_pos (decide_eq_true hc)]; rfl,Le _,fun z=>by omega⟩
  ·exact ⟨0,by rw [if_neg (by rw [decide_eq_false hc]; exact Lq)]; rfl,by decide,fun _=>rfl⟩
 rw [hn]
 refine js n (by omega) (by omega) (by omega) (fun i σ H3=>∃ (ss:List Sy) (v5 v6:Option V),σ=[some (.ref a),some (.int at_),some (.int c),some (.int h),some (.ref r),v5,v6]/\gh H H3 r c h 1 ss/\ss.length=i + 1) ⟨_,none,none,rfl,R0,rfl⟩ ?_ ?_
 ·rintro i σ H3 hi ⟨ss,v5,v6,rfl,R,hl⟩
  have hc:0 < c:=by
   rcases O8 c with z | z
   ·have:=hnc z; omega
   ·exact z
  obtain ⟨xs,e3,px⟩:=R.at_
  have hxl:=gf px
  walk_at "rd"
  refine ⟨a,ns,at_ + 1 + (i:Int),rfl,hSc.same R.same,by omega,by omega,?_⟩
  walk_at "rd"
  refine ⟨yz e3,?_⟩
  walk_at "rd"
  obtain ⟨k1,hk1,hk12⟩:=kH (br ns (at_ + 1 + (i:Int))) (m:=(h:Int) + 1) (by omega)
  obtain ⟨k2,hk2',hk22⟩:=kH (br ns (at_ + 1 + (i:Int)) / 7) (m:=(c:Int)) (by omega)
  rw [hk1,hk2']
  refine ⟨by simp [Ll],fun p4 H4 hp4 s4 e4=>?_⟩
  walk_at "rd"
  refine ii (s4 _ _ e3) (by rw [Ll]; omega) fun H5 o5 e5=>?_
  exact ⟨_,_,_,rfl,(R.to s4).push (s4 _ _ e3) o5 e5 (s:=.holds k1 k2) ⟨p4,rfl,e4⟩ ⟨by omega,by omega⟩ (Le _),by rw [Lz,hl]; rfl⟩
 ·rintro σ H3 ⟨ss,v5,v6,rfl,R,hl⟩
  walk_at "rd"
  exact q r ss H3 R (by omega)
noncomputable def gD (c h:Nat) (H:Hp) (x:V):Prop:=∃ s:Sy,aK H x s/\s.Ok c h/\s.words<=63
theorem gD.same {c h:Nat} {H H':Hp} {x:V} (g:gD c h H x) (s:am H H'):gD c h H' x:=by
 obtain ⟨t,i,o,w⟩:=g
 exact ⟨t,i.keep s.keep,o,w⟩
theorem qB {H:Hp}:∀ {l:List V} {m:List Sy},gA H l m->l≠[]->∃ x y,atI l (-1)=some x/\y∈m/\aK H x y:=by
 intro l m p hne
 have hl:=gf p
 have hp:0 < l.length:=Qb.mpr hne
 obtain ⟨x,hx⟩:∃ x,l[l.length - 1]?=some x:=⟨_,Ld (by omega)⟩
 obtain ⟨y,hy,iy⟩:=mj p hx
 refine ⟨x,y,?_,Lw hy,iy⟩
 unfold atI ixN
 rw [if_neg (by decide),if_pos (by omega),show (-1 + (l.length:Int)).toNat=l.length - 1 by omega]
 exact hx
noncomputable def eY (K:Fg):Sp:=fun vs H Q _=>∃ (a:Addr) (ns:List Int) (at_:Int) (c h most:Nat),vs=[.ref a,.int at_,.int c,.int h,.int most]/\fo K H a ns/\0<=at_/\at_<=1000/\1<=h/\h<=5/\1<=most/\most<=30/\∀ (v:V) (s:Sy) (H':Hp),am H H'->aK H' v s->s.Ok c h->s.words<=most->Q v H'
noncomputable def g0 (K:Fg):TS:=(ar (aH (au (ly K) [] E0 (aa (ab 0) (aa (ab 1) (aa (ab 2) (aa (ab 3) af))))) (ao 5))
 (ar (dk (eN (aa (tOp (rI (fun _ j=>0 < j) fun i j=>.int (i % j)) (au (aZ K) [] E0 (aa (ab 0) (aa (tOp (rI0 fun i j=>.int (i + j)) (ab 1) (tC (.int 4))) af))) (tC (.int 12))) af)) (ao 6) (ar (aH (au (aZ K) [] E0 (aa (ab 0) (aa (tOp (rI0 fun i j=>.int (i + j)) (tOp (rI0 fun i j=>.int (i + j)) (ab 1) (tC (.int 5))) (ab 6)) af))) (ao 7))
 (ar (aH (tOp (cV K) (ab 5) (tUn (rU fun i=>.int (-i)) (tC (.int 1)))) (ao 8))
 (ar (aH (tOp (cV K) (ab 5) (tOp (rI (fun _ j=>0 < j) fun i j=>.int (i % j)) (tOp (rI eU fun i j=>.int (i / j)) (ab 7) (tC (.int 12))) (tCB (b9 K) (aa (ab 5) af)))) (ao 9))
 (ar (aH (fv (aa (ci (aa (tC (.str "not")) (aa (ab 8) af))) (aa (ci (aa (tC (.str "and")) (aa (ab 8) (aa (ab 9) af)))) (aa (ci (aa (tC (.str "or")) (aa (ab 9) (aa (ab 8) af)))) (aa (ci (aa (tC (.str "not")) (aa (ab 9) af))) af))))) (ao 10))
 (ar (aH (tOp sW (ab 10) (fv (aa (ci (aa (tC (.str "knows")) (aa (tOp (rI (fun _ j=>0 < j) fun i j=>.int (i % j)) (tOp (rI eU fun i j=>.int (i / j)) (ab 7) (tC (.int 7))) (ab 3)) (aa (ab 8) af)))) (aa (ci (aa (tC (.str "knows")) (aa (tOp (rI (fun _ j=>0 < j) fun i j=>.int (i % j)) (tOp (rI eU fun i j=>.int (i / j)) (ab 7) (tC (.int 7))) (ab 3)) (aa (ci (aa (tC (.str "not")) (aa (ab 8) af))) af)))) af)))) (ao 10))
 (ar (aH (tOp sW (ab 10) (fv (aa (ci (aa (tC (.str "all")) (aa (au (dm K) [] E0 (aa (tOp (rI eU fun i j=>.int (i / j)) (ab 7) (tC (.int 36))) (aa (ab 3) af))) (aa (ab 8) af)))) (aa (ci (aa (tC (.str "common")) (aa (au (dm K) [] E0 (aa (tOp (rI eU fun i j=>.int (i / j)) (ab 7) (tC (.int 36))) (aa (ab 3) af))) (aa (ab 9) af)))) af)))) (ao 10))
 (ar (aH (tOp sW (ab 10) (fv (aa (ci (aa (tC (.str "common")) (aa (au (dm K) [] E0 (aa (tOp (rI eU fun i j=>.int (i / j)) (ab 7) (tC (.int 36))) (aa (ab 3) af))) (aa (ab 8) af)))) (aa (ci (aa (tC (.str "knows")) (aa (tOp (rI (fun _ j=>0 < j) fun i j=>.int (i % j)) (tOp (rI eU fun i j=>.int (i / j)) (ab 7) (tC (.int 7))) (ab 3)) (aa (ab 9) af)))) af)))) (ao 10))
 (ar (aH (tOp sW (ab 10) (fv (aa (ci (aa (tC (.str "and")) (aa (ab 9) (aa (ci (aa (tC (.str "not")) (aa (ab 8) af))) af)))) (aa (ci (aa (tC (.str "or")) (aa (ab 8) (aa (ci (aa (tC (.str "knows")) (aa (tOp (rI (fun _ j=>0 < j) fun i j=>.int (i % j)) (tOp (rI eU fun i j=>.int (i / j)) (ab 7) (tC (.int 7))) (ab 3)) (aa (ab 9) af)))) af)))) af)))) (ao 10))
 (bz (aY (tOp (rI0 fun i j=>.bl (decide (i<=j))) (au (dX K 70) [] E0 (aa (tOp (cV K) (ab 10) (tOp (rI (fun _ j=>0 < j) fun i j=>.int (i % j)) (ab 7) (tC (.int 12)))) af)) (ab 4))) (dR (tBM K "list" fK (ab 5) (aa (tOp (cV K) (ab 10) (tOp (rI (fun _ j=>0 < j) fun i j=>.int (i % j)) (ab 7) (tC (.int 12)))) af))) bf))))))))))
 (aJ (tOp (cV K) (ab 5) (tUn (rU fun i=>.int (-i)) (tC (.int 1)))))))
theorem wt (h:eY K vs H Q E):g0 K { nx:=fun _ H'=>Q .non H',rt:=Q } (start ["_law_script","_law_at","_law_cards","_law_hands","_law_most","_law_pool_here","_law_k","_law_cell_here","_law_one","_law_other","_law_some"] vs) H:=by
 obtain ⟨a,ns,at_,c,h,most,rfl,hSc,ha0,ha1,h1,h5,hm1,hm30,q⟩:=h
 show g0 K _ [some _,some _,some _,some _,some _,none,none,none,none,none,none] _
 unfold g0
 walk_at "rd"
 refine ⟨a,ns,at_,c,h,rfl,hSc,ha0,ha1,h1,fun r ss0 H1 R0 hl4=>?_⟩
 walk_at "rd"
 refine ⟨a,ns,at_ + 4,rfl,hSc.same R0.same,by omega,by omega,?_⟩
 walk_at "rd"
 have R1:gh H H1 r c h most ss0:=⟨R0.same,R0.new,R0.at_,R0.ne,fun s hs=>⟨(R0.ok s hs).1,by have:=(R0.ok s hs).2; omega⟩⟩
 refine js (br ns (at_ + 4) % 12).toNat rfl (by omega) (by omega) (fun i σ H2=>∃ (ss:List Sy) (v6 v7 v8 v9 v10:Option V),σ=[some (.ref a),some (.int at_),some (.int c),some (.int h),some (.int most),some (.ref r),v6,v7,v8,v9,v10]/\gh H H2 r c h most ss/\ss.length<=4 + i) ⟨ss0,none,none,none,none,none,rfl,R1,by omega⟩ ?_ ?_
 ·rintro i σ H2 hi ⟨ss,v6,v7,v8,v9,v10,rfl,R,hl⟩
  obtain ⟨xs,e2,px⟩:=R.at_
  have hxl:=gf px
  have hne:xs≠[]:=fun z=>R.ne (Ot.mp (by rw [<-hxl,z]; rfl))
  have hpos:0 < xs.length:=Qb.mpr hne
  refine jW ?_
  dsimp only [Nj,Nk]
  refine bu ?_
  walk_at "rs"
  refine ⟨a,ns,at_ + 5 + (i:Int),rfl,hSc.same R.same,by omega,by omega,?_⟩
  generalize br ns (at_ + 5 + (i:Int))=z
  walk_at "rs"
  refine bu ?_
  walk_at "rs"
  obtain ⟨x1,s1,hx1,hs1,is1⟩:=qB px hne
  obtain ⟨ok1,w1⟩:=R.ok s1 hs1
  refine ce (SqL.of e2) hx1 ?_
  walk_at "rs"
  refine bu ?_
  walk_at "rs"
  obtain ⟨x2,hx2,hm2⟩:=Eo xs (z / 12) rfl hpos
  obtain ⟨j2,hj2⟩:=Sh hm2
  obtain ⟨s2,hs2,is2⟩:=mj px hj2
  obtain ⟨ok2,w2⟩:=R.ok s2 (Lw hs2)
  refine ce (SqL.of e2) hx2 ?_
  walk_at "rs"
  refine bu ?_
  refine ku ?_
  refine qZ ?_
  refine qA (P:=gD c h) (fun _ _ _ s g=>g.same s) (H0:=H2) (n:=4) (am.refl _) ?_ fun ys0 Hy0 sy0 ly0 by0=>?_
  ·skip
   refine GA.cons (fun _ _ _ s g=>g.same s) (n:=3) ?_ ?_
   ·intro H' s' Q q
    have i1:=is1.keep s'.keep
    have i2:=is2.keep s'.keep
    walk_at "rd"
    refine ⟨by simp [Ll],fun p1 G1 hp1 t1 e1=>?_⟩
    have I1:aK G1 (.ref p1) (.not s1):=⟨p1,_,rfl,e1,(aK.keep (am.keep t1) i1)⟩
    exact q _ _ t1 ⟨_,I1,ok1,by simp only [Sy.words]; omega⟩
   refine GA.cons (fun _ _ _ s g=>g.same s) (n:=2) ?_ ?_
   ·intro H' s' Q q
    have i1:=is1.keep s'.keep
    have i2:=is2.keep s'.keep
    walk_at "rd"
    refine ⟨by simp [Ll],fun p1 G1 hp1 t1 e1=>?_⟩
    have I1:aK G1 (.ref p1) (.and s1 s2):=⟨p1,_,_,rfl,e1,(aK.keep (am.keep t1) i1),(aK.keep (am.keep t1) i2)⟩
    exact q _ _ t1 ⟨_,I1,⟨ok1,ok2⟩,by simp only [Sy.words]; omega⟩
   refine GA.cons (fun _ _ _ s g=>g.same s) (n:=1) ?_ ?_
   ·intro H' s' Q q
    have i1:=is1.keep s'.keep
    have i2:=is2.keep s'.keep
    walk_at "rd"
    refine ⟨by simp [Ll],fun p1 G1 hp1 t1 e1=>?_⟩
    have I1:aK G1 (.ref p1) (.or s2 s1):=⟨p1,_,_,rfl,e1,(aK.keep (am.keep t1) i2),(aK.keep (am.keep t1) i1)⟩
    exact q _ _ t1 ⟨_,I1,⟨ok2,ok1⟩,by simp only [Sy.words]; omega⟩
   refine GA.cons (fun _ _ _ s g=>g.same s) (n:=0) ?_ ?_
   ·intro H' s' Q q
    have i1:=is1.keep s'.keep
    have i2:=is2.keep s'.keep
    walk_at "rd"
    refine ⟨by simp [Ll],fun p1 G1 hp1 t1 e1=>?_⟩
    have I1:aK G1 (.ref p1) (.not s2):=⟨p1,_,rfl,e1,(aK.keep (am.keep t1) i2)⟩
    exact q _ _ t1 ⟨_,I1,ok2,by simp only [Sy.words]; omega⟩
   exact GA.nil
  refine ⟨by rw [ly0,Ll]; decide,fun l0 Hl0 hl0 sl0 el0=>?_⟩
  have sL0:am H2 Hl0:=sy0.trans sl0
  have L0:ys0.length=4:=ly0
  have B0:∀ x∈ys0,gD c h Hl0 x:=fun x hx=>(by0 x hx).same sl0
  have eL0:=el0
  refine jW ?_
  dsimp only [Nj,Nk]
  generalize hX0:ys0=X0 at *
  refine bu ?_
  refine ku ?_
  refine sU ?_
  refine nY rfl ?_
  refine qZ ?_
  refine qA (P:=gD c h) (fun _ _ _ s g=>g.same s) (H0:=H2) (n:=2) sL0 ?_ fun ys1 Hy1 sy1 ly1 by1=>?_
  ·skip
   refine GA.cons (fun _ _ _ s g=>g.same s) (n:=1) ?_ ?_
   ·intro H' s' Q q
    have i1:=is1.keep s'.keep
    have i2:=is2.keep s'.keep
    walk_at "rd"
    obtain ⟨kk1,hk1,hk21⟩:=kH (z / 7) (m:=(h:Int)) (by omega)
    rw [hk1]
    refine ⟨by simp [Ll],fun p1 G1 hp1 t1 e1=>?_⟩
    have I1:aK G1 (.ref p1) (.knows kk1 s1):=⟨p1,_,rfl,e1,(aK.keep (am.keep t1) i1)⟩
    exact q _ _ t1 ⟨_,I1,⟨by omega,ok1⟩,by simp only [Sy.words]; omega⟩
   refine GA.cons (fun _ _ _ s g=>g.same s) (n:=0) ?_ ?_
   ·intro H' s' Q q
    have i1:=is1.keep s'.keep
    have i2:=is2.keep s'.keep
    walk_at "rd"
    refine ⟨by simp [Ll],fun p1 G1 hp1 t1 e1=>?_⟩
    have I1:aK G1 (.ref p1) (.not s1):=⟨p1,_,rfl,e1,(aK.keep (am.keep t1) i1)⟩
    walk_at "rd"
    obtain ⟨kk2,hk2,hk22⟩:=kH (z / 7) (m:=(h:Int)) (by omega)
    rw [hk2]
    refine ⟨by simp [Ll],fun p2 G2 hp2 t2 e2=>?_⟩
    have I2:aK G2 (.ref p2) (.knows kk2 (.not s1)):=⟨p2,_,rfl,e2,(aK.keep (am.keep t2) I1)⟩
    exact q _ _ (t1.trans t2) ⟨_,I2,⟨by omega,ok1⟩,by simp only [Sy.words]; omega⟩
   exact GA.nil
  refine ⟨by rw [ly1,Ll]; decide,fun l1 Hl1 hl1 sl1 el1=>?_⟩
  refine uu (sl1 _ _ (sy1 _ _ eL0)) el1 (by rw [L0,ly1,Ll]; decide) fun m1 Hm1 hm1 sm1 em1=>?_
  have sA1:=(sy1.trans sl1).trans sm1
  have sL1:am H2 Hm1:=sL0.trans sA1
  have L1:(X0++ys1).length=6:=by rw [Lz,L0,ly1]
  have B1:∀ x∈X0++ys1,gD c h Hm1 x:=fun x hx=>by
   rcases LU.mp hx with hx | hx
   ·exact (B0 x hx).same sA1
   ·exact (by1 x hx).same (sl1.trans sm1)
  have eL1:=em1
  refine jW ?_
  dsimp only [Nj,Nk]
  generalize X0++ys1=X1 at L1 B1 eL1
  clear B0 L0 eL0 by1 ly1 el1 em1
  refine bu ?_
  refine ku ?_
  refine sU ?_
  refine nY rfl ?_
  refine qZ ?_
  refine qA (P:=gD c h) (fun _ _ _ s g=>g.same s) (H0:=H2) (n:=2) sL1 ?_ fun ys2 Hy2 sy2 ly2 by2=>?_
  ·skip
   refine GA.cons (fun _ _ _ s g=>g.same s) (n:=1) ?_ ?_
   ·intro H' s' Q q
    have i1:=is1.keep s'.keep
    have i2:=is2.keep s'.keep
    walk_at "rd"
    refine ⟨_,h,rfl,h5,fun g1 gs1 G1 t1 eg1 pw1 hb1=>?_⟩
    walk_at "rd"
    refine ⟨by simp [Ll],fun p2 G2 hp2 t2 e2=>?_⟩
    have I2:aK G2 (.ref p2) (.all gs1 s1):=⟨p2,g1,_,rfl,e2,t2 _ _ eg1,(aK.keep (am.keep (t1.trans t2)) i1)⟩
    exact q _ _ (t1.trans t2) ⟨_,I2,⟨⟨pw1,hb1⟩,ok1⟩,by simp only [Sy.words]; omega⟩
   refine GA.cons (fun _ _ _ s g=>g.same s) (n:=0) ?_ ?_
   ·intro H' s' Q q
    have i1:=is1.keep s'.keep
    have i2:=is2.keep s'.keep
    walk_at "rd"
    refine ⟨_,h,rfl,h5,fun g1 gs1 G1 t1 eg1 pw1 hb1=>?_⟩
    walk_at "rd"
    refine ⟨by simp [Ll],fun p2 G2 hp2 t2 e2=>?_⟩
    have I2:aK G2 (.ref p2) (.common gs1 s2):=⟨p2,g1,_,rfl,e2,t2 _ _ eg1,(aK.keep (am.keep (t1.trans t2)) i2)⟩
    exact q _ _ (t1.trans t2) ⟨_,I2,⟨⟨pw1,hb1⟩,ok2⟩,by simp only [Sy.words]; omega⟩
   exact GA.nil
  refine ⟨by rw [ly2,Ll]; decide,fun l2 Hl2 hl2 sl2 el2=>?_⟩
  refine uu (sl2 _ _ (sy2 _ _ eL1)) el2 (by rw [L1,ly2,Ll]; decide) fun m2 Hm2 hm2 sm2 em2=>?_
  have sA2:=(sy2.trans sl2).trans sm2
  have sL2:am H2 Hm2:=sL1.trans sA2
  have L2:(X1++ys2).length=8:=by rw [Lz,L1,ly2]
  have B2:∀ x∈X1++ys2,gD c h Hm2 x:=fun x hx=>by
   rcases LU.mp hx with hx | hx
   ·exact (B1 x hx).same sA2
   ·exact (by2 x hx).same (sl2.trans sm2)
  have eL2:=em2
  refine jW ?_
  dsimp only [Nj,Nk]
  generalize X1++ys2=X2 at L2 B2 eL2
  clear B1 L1 eL1 by2 ly2 el2 em2
  refine bu ?_
  refine ku ?_
  refine sU ?_
  refine nY rfl ?_
  refine qZ ?_
  refine qA (P:=gD c h) (fun _ _ _ s g=>g.same s) (H0:=H2) (n:=2) sL2 ?_ fun ys3 Hy3 sy3 ly3 by3=>?_
  ·skip
   refine GA.cons (fun _ _ _ s g=>g.same s) (n:=1) ?_ ?_
   ·intro H' s' Q q
    have i1:=is1.keep s'.keep
    have i2:=is2.keep s'.keep
    walk_at "rd"
    refine ⟨_,h,rfl,h5,fun g1 gs1 G1 t1 eg1 pw1 hb1=>?_⟩
    walk_at "rd"
    refine ⟨by simp [Ll],fun p2 G2 hp2 t2 e2=>?_⟩
    have I2:aK G2 (.ref p2) (.common gs1 s1):=⟨p2,g1,_,rfl,e2,t2 _ _ eg1,(aK.keep (am.keep (t1.trans t2)) i1)⟩
    exact q _ _ (t1.trans t2) ⟨_,I2,⟨⟨pw1,hb1⟩,ok1⟩,by simp only [Sy.words]; omega⟩
   refine GA.cons (fun _ _ _ s g=>g.same s) (n:=0) ?_ ?_
   ·intro H' s' Q q
    have i1:=is1.keep s'.keep
    have i2:=is2.keep s'.keep
    walk_at "rd"
    obtain ⟨kk1,hk1,hk21⟩:=kH (z / 7) (m:=(h:Int)) (by omega)
    rw [hk1]
    refine ⟨by simp [Ll],fun p1 G1 hp1 t1 e1=>?_⟩
    have I1:aK G1 (.ref p1) (.knows kk1 s2):=⟨p1,_,rfl,e1,(aK.keep (am.keep t1) i2)⟩
    exact q _ _ t1 ⟨_,I1,⟨by omega,ok2⟩,by simp only [Sy.words]; omega⟩
   exact GA.nil
  refine ⟨by rw [ly3,Ll]; decide,fun l3 Hl3 hl3 sl3 el3=>?_⟩
  refine uu (sl3 _ _ (sy3 _ _ eL2)) el3 (by rw [L2,ly3,Ll]; decide) fun m3 Hm3 hm3 sm3 em3=>?_
  have sA3:=(sy3.trans sl3).trans sm3
  have sL3:am H2 Hm3:=sL2.trans sA3
  have L3:(X2++ys3).length=10:=by rw [Lz,L2,ly3]
  have B3:∀ x∈X2++ys3,gD c h Hm3 x:=fun x hx=>by
   rcases LU.mp hx with hx | hx
   ·exact (B2 x hx).same sA3
   ·exact (by3 x hx).same (sl3.trans sm3)
  have eL3:=em3
  refine jW ?_
  dsimp only [Nj,Nk]
  generalize X2++ys3=X3 at L3 B3 eL3
  clear B2 L2 eL2 by3 ly3 el3 em3
  refine bu ?_
  refine ku ?_
  refine sU ?_
  refine nY rfl ?_
  refine qZ ?_
  refine qA (P:=gD c h) (fun _ _ _ s g=>g.same s) (H0:=H2) (n:=2) sL3 ?_ fun ys4 Hy4 sy4 ly4 by4=>?_
  ·skip
   refine GA.cons (fun _ _ _ s g=>g.same s) (n:=1) ?_ ?_
   ·intro H' s' Q q
    have i1:=is1.keep s'.keep
    have i2:=is2.keep s'.keep
    walk_at "rd"
    refine ⟨by simp [Ll],fun p1 G1 hp1 t1 e1=>?_⟩
    have I1:aK G1 (.ref p1) (.not s1):=⟨p1,_,rfl,e1,(aK.keep (am.keep t1) i1)⟩
    walk_at "rd"
    refine ⟨by simp [Ll],fun p2 G2 hp2 t2 e2=>?_⟩
    have I2:aK G2 (.ref p2) (.and s2 (.not s1)):=⟨p2,_,_,rfl,e2,(aK.keep (am.keep (t1.trans t2)) i2),(aK.keep (am.keep t2) I1)⟩
    exact q _ _ (t1.trans t2) ⟨_,I2,⟨ok2,ok1⟩,by simp only [Sy.words]; omega⟩
   refine GA.cons (fun _ _ _ s g=>g.same s) (n:=0) ?_ ?_
   ·intro H' s' Q q
    have i1:=is1.keep s'.keep
    have i2:=is2.keep s'.keep
    walk_at "rd"
    obtain ⟨kk1,hk1,hk21⟩:=kH (z / 7) (m:=(h:Int)) (by omega)
    rw [hk1]
    refine ⟨by simp [Ll],fun p1 G1 hp1 t1 e1=>?_⟩
    have I1:aK G1 (.ref p1) (.knows kk1 s2):=⟨p1,_,rfl,e1,(aK.keep (am.keep t1) i2)⟩
    walk_at "rd"
    refine ⟨by simp [Ll],fun p2 G2 hp2 t2 e2=>?_⟩
    have I2:aK G2 (.ref p2) (.or s1 (.knows kk1 s2)):=⟨p2,_,_,rfl,e2,(aK.keep (am.keep (t1.trans t2)) i1),(aK.keep (am.keep t2) I1)⟩
    exact q _ _ (t1.trans t2) ⟨_,I2,⟨ok1,⟨by omega,ok2⟩⟩,by simp only [Sy.words]; omega⟩
   exact GA.nil
  refine ⟨by rw [ly4,Ll]; decide,fun l4 Hl4 hl4 sl4 el4=>?_⟩
  refine uu (sl4 _ _ (sy4 _ _ eL3)) el4 (by rw [L3,ly4,Ll]; decide) fun m4 Hm4 hm4 sm4 em4=>?_
  have sA4:=(sy4.trans sl4).trans sm4
  have sL4:am H2 Hm4:=sL3.trans sA4
  have L4:(X3++ys4).length=12:=by rw [Lz,L3,ly4]
  have B4:∀ x∈X3++ys4,gD c h Hm4 x:=fun x hx=>by
   rcases LU.mp hx with hx | hx
   ·exact (B3 x hx).same sA4
   ·exact (by4 x hx).same (sl4.trans sm4)
  have eL4:=em4
  refine jW ?_
  dsimp only [Nj,Nk]
  generalize X3++ys4=X4 at L4 B4 eL4
  clear B3 L3 eL3 by4 ly4 el4 em4
  obtain ⟨y,hy,my⟩:=Eo X4 z (m:=12) L4 (by decide)
  obtain ⟨sy,iy,oky,wy⟩:=B4 y my
  have R4:=R.to sL4
  have e24:=sL4 _ _ e2
  walk_at "rd"
  refine ce (SqL.of eL4) hy ?_
  walk_at "rd"
  refine ⟨y,sy,rfl,iy,by omega,fun H5 s5=>?_⟩
  walk_at "rd"
  refine cC (fun cm=>?_) (fun cm=>?_)
  ·walk_at "rd"
   refine ⟨yz (s5 _ _ e24),?_⟩
   walk_at "rd"
   refine ce (SqL.of (s5 _ _ eL4)) hy ?_
   walk_at "rd"
   refine ii (s5 _ _ e24) (by rw [Ll]; omega) fun H6 o6 e6=>?_
   exact ⟨_,_,_,_,_,_,rfl,(R4.to s5).push (s5 _ _ e24) o6 e6 (iy.keep s5.keep) oky (by omega),by rw [Lz]; show ss.length + 1<=_; omega⟩
  ·walk_at "rd"
   exact ⟨_,_,_,_,_,_,rfl,R4.to s5,by omega⟩
 ·rintro σ H2 ⟨ss,v6,v7,v8,v9,v10,rfl,R,hl⟩
  obtain ⟨xs,e2,px⟩:=R.at_
  have hxl:=gf px
  have hne:xs≠[]:=fun z=>R.ne (Ot.mp (by rw [<-hxl,z]; rfl))
  obtain ⟨x1,s1,hx1,hs1,is1⟩:=qB px hne
  walk_at "rd"
  exact ce (SqL.of e2) hx1 (q x1 s1 H2 R.same is1 (R.ok s1 hs1).1 (R.ok s1 hs1).2)
end
section
variable {K:Fg} {vs:List V} {H:Hp} {Q:VK} {E:XK}
open KF
noncomputable def iaR:IA->V
 | none=>.non
 | some c=>.int c
theorem KJ (a:IA):iaV (iaR a)=some a:=by cases a <;> rfl
noncomputable def wAt (w:List Nat) (c:Int):Int:=(w.getD c.toNat 0:Nat)
noncomputable def qC (w:List Nat) (h:Int) (cs:List Int) (a:IA):Prop:=
 (a=none/\∀ c∈cs,wAt w c≠h)\/∃ c,a=some c/\c∈cs/\wAt w c=h/\∀ d∈cs,wAt w d=h->c<=d
theorem qC.uniq {w:List Nat} {h:Int} {cs ds:List Int} (m:∀ y,y∈cs↔y∈ds) {a b:IA} (x:qC w h cs a) (y:qC w h ds b):a=b:=by
 rcases x with ⟨rfl,x⟩ | ⟨c,rfl,x1,x2,x3⟩
 ·rcases y with ⟨rfl,_⟩ | ⟨d,rfl,y1,y2,_⟩
  ·rfl
  ·exact absurd y2 (x d ((m d).mpr y1))
 ·rcases y with ⟨rfl,y⟩ | ⟨d,rfl,y1,y2,y3⟩
  ·exact absurd x2 (y c ((m c).mp x1))
  ·have h1:=x3 d ((m d).mpr y1) y2
   have h2:=y3 c ((m c).mp x1) x2
   rw [show c=d by omega]
theorem Gk {w:List Nat} {c:Int} (h0:0<=c) (h1:c < w.length):atI (av w) c=some (.int (wAt w c)):=by
 obtain ⟨n,rfl⟩:∃ n:Nat,c=(n:Int):=⟨c.toNat,by omega⟩
 have hn:n < w.length:=by omega
 refine cB ?_
 unfold wAt av
 rw [Lx,Ld hn]
 simp [Lo,Ld hn]
noncomputable def kf (_:Fg):Sp:=fun vs H Q _=>∃ (t p:Addr) (w:List Nat) (h:Int) (ms:List Int),vs=[.ref t,.int h,.ref p]/\H t=some (.tup (av w))/\H p=some (.lst (ms.map V.int))/\ms.Pairwise (· < ·)/\(∀ c∈ms,0<=c/\c < w.length)/\
 ∀ a,qC w h ms a->Q (iaR a) H
noncomputable def iT (K:Fg):TS:=(ar (dk (dg K (ab 2)) (ao 3) (bz (aY (tOp rEq (tOp (cJ K) (ab 0) (ab 3)) (ab 1))) (aJ (ab 3)) bf))
 (aJ (tC .non)))
theorem xM (h:kf K vs H Q E):iT K { nx:=fun _ H'=>Q .non H',rt:=Q } (start ["deal","holder","rising","card"] vs) H:=by
 obtain ⟨t,p,w,h,ms,rfl,et,ep,pw,hb,q⟩:=h
 show iT K _ [some _,some _,some _,none] _
 unfold iT
 walk_at "rd"
 refine kQ (ms.map V.int) (SqL.of ep) (fun i σ' H2=>∃ u:Option V,σ'=[some (.ref t),some (.int h),some (.ref p),u]/\H2=H/\∀ c∈ms.take i,wAt w c≠h) ⟨none,rfl,rfl,fun c hc=>by simp at hc⟩ ?_ ?_ ?_
 ·rintro i σ' H2 hi ⟨u,rfl,rfl,_⟩
  exact SqL.of ep
 ·rintro i x σ' H2 hx ⟨u,rfl,rfl,hn⟩
  rw [Lx] at hx
  obtain ⟨c,hc,rfl⟩:=RI.mp hx
  have hm:c∈ms:=Lw hc
  walk_at "rd"
  refine bp (SqT.of et) (Gk (hb c hm).1 (hb c hm).2) ?_
  walk_at "rd"
  by_cases e:wAt w c=h
  ·rw [if_pos (decide_eq_true e)]
   walk_at "rd"
   refine q (some c) (.inr ⟨c,rfl,hm,e,fun d hd he=>?_⟩)
   obtain ⟨j,hj⟩:=Sh hd
   obtain ⟨hi1,hi2⟩:=Li.mp hc
   obtain ⟨hj1,hj2⟩:=Li.mp hj
   rcases QT j i with z | z | z
   ·exact absurd he (hn d (PJ.mpr ⟨j,by rw [O3 z]; exact hj⟩))
   ·subst z
    rw [<-hi2,<-hj2]
    exact Int.le_refl _
   ·have:=Oe.mp pw i j hi1 hj1 z
    rw [hi2,hj2] at this
    omega
  ·rw [if_neg (by rw [decide_eq_false e]; exact Lq)]
   walk_at "rd"
   refine ⟨_,rfl,rfl,fun d hd=>?_⟩
   rw [MW,hc] at hd
   rcases LU.mp hd with z | z
   ·exact hn d z
   ·rw [Lg.mp z]
    exact e
 ·rintro σ' H2 ⟨u,rfl,rfl,hn⟩
  walk_at "rd"
  rw [Lf,LZ] at hn
  exact q none (.inl ⟨rfl,hn⟩)
noncomputable def cL (_:Fg):Sp:=fun vs H Q _=>∃ z:Str,vs=[.bl true,.str z]/\Q .non H
noncomputable def fU (K:Fg):TS:=(bz (fZ (tB (ab 0))) pS bf)
theorem tw (h:cL K vs H Q E):fU K { nx:=fun _ H'=>Q .non H',rt:=Q } (start ["fit","reason"] vs) H:=by
 obtain ⟨z,rfl,q⟩:=h
 show fU K _ [some _,some _] _
 unfold fU
 walk_at "rd"
 exact q
noncomputable def lz (_:Fg):Sp:=fun vs H Q _=>∃ (p:Addr) (ns:List Int) (c:Int),vs=[.ref p,.int c]/\H p=some (.lst (ns.map V.int))/\ns.length<=1000/\(∀ n∈ns,0<=n/\n < c)/\∀ H',am H H'->Q (.bl true) H'
noncomputable def jO (K:Fg):TS:=(aJ (lV (tCB (lh K) (aa (ab 0) (aa (tC (.ty "list")) af))) (tCB (Cf K) (aa (bV (dg K (ab 0)) (fun _ _ _ _=>(ao 0)) (fun _ _ _ _=>bH) (fun _ _ _ _=>(au (dz K) [] E0 (aa (ab 0) (aa (ab 1) af)))) [none,some 1]) af))))
theorem zV (h:lz K vs H Q E):jO K { nx:=fun _ H'=>Q .non H',rt:=Q } (start ["thing","cards"] vs) H:=by
 obtain ⟨p,ns,c,rfl,ep,hl,hb,q⟩:=h
 show jO K _ [some _,some _] _
 unfold jO
 walk_at "rd"
 refine kB (.lst ep) (r0 K) ?_
 walk_at "rd"
 refine gx (ns.map V.int) (SqL.of ep) (by rw [Lf]; omega) (fun i acc _=>acc=(LX i true).map V.bl) (fun _ _=>rfl) ?_ ?_
 ·rintro p' hp' C s' H' fp i x acc H2 hx ⟨s2,e2,l2,rfl⟩
  obtain ⟨z,hz,rfl⟩:=ED hx
  have ⟨b1,b2⟩:=hb z (Lw hz)
  walk_at "rd"
  refine ⟨z,c,rfl,?_⟩
  rw [iE b1 (show z<=c - 1 by omega)]
  exact bi.put hp' (fun i acc H H' r k=>r) s2 e2 l2 (by rw [OP,LI]; rfl)
 ·rintro p' acc H2 hp' s2 e2 rfl
  walk_at "rd"
  refine ⟨p',LX ns.length true,rfl,SqL.of (by rw [e2,Lf]),?_⟩
  have ha:(LX ns.length true).all id=true:=by simp
  rw [ha]
  exact q H2 s2
theorem j4 {K:Fg} {ta tv:TE} {f:Str} {D:jk} {σ:St} {H:Hp} (h:tv σ H fun y H1=>ta σ H1 fun x H2=>∃ a C dx fs,x=.ref a/\H2 a=some (.ins C dx fs)/\Cls K C/\d3 K C f/\fs.length < 1000/\D.nx σ (upd H2 a (.ins C dx (gc f y fs)))):mM K ta tv f D σ H:=h
theorem cG {K:Fg} {ta:TE} {f:Str} {σ:St} {H:Hp} {Q:VK} (h:ta σ H fun x H1=>∃ a C dx fs v,x=.ref a/\H1 a=some (.ins C dx fs)/\Cls K C/\d3 K C f/\fs.lookup f=some v/\Q v H1):du K ta f σ H Q:=h
theorem EZ {C:Addr} {sp:Sp} {dvs:List V} {E:XK} {t:TA} {σ:St} {H:Hp} {Q:VK} (h:t σ H fun vs H1=>∀ x dx,H1 x=none->H1 dx=none->dx≠x->sp (.ref x :: (vs++dvs)) (upd (upd H1 dx (.own x)) x (.ins C dx [])) (fun v H2=>v=.non/\Q (.ref x) H2) E):ui C sp dvs E t σ H Q:=h
theorem gW {C:Addr} {m:Str} {sp:Sp} {dvs:List V} {E:XK} {ta:TE} {t:TA} {σ:St} {H:Hp} {Q:VK} (h:ta σ H fun x H1=>∃ a dx fs,x=.ref a/\H1 a=some (.ins C dx fs)/\fs.lookup m=none/\t σ H1 fun vs H2=>sp (x :: (vs++dvs)) H2 Q E):fj C m sp dvs E ta t σ H Q:=h
noncomputable def Kx (x:Addr) (H H':Hp):Prop:=∀ b o,b≠x->H b=some o->H' b=some o
theorem Kx.refl (x:Addr) (H:Hp):Kx x H H:=fun _ _ _ e=>e
theorem Kx.same {x:Addr} {H H1 H2:Hp} (k:Kx x H H1) (s:am H1 H2):Kx x H H2:=fun b o n e=>s _ _ (k b o n e)
theorem Kx.upd {x:Addr} {H H1:Hp} {u:HO} (k:Kx x H H1):Kx x H (L2.upd H1 x u):=fun b o n e=>by rw [aP n]; exact k b o n e
theorem gi {H H':Hp} {x p:Addr} {ws:List (List Nat)} {C dx:Addr} {fs:List (Str×V)} (D:bx H p ws) (hx:H x=some (.ins C dx fs)) (k:Kx x H H'):bx H' p ws:=by
 obtain ⟨rs,e,hr⟩:=D
 refine ⟨rs,k _ _ (fun z=>by rw [z,hx] at e; cases e) e,Paired.mapP hr fun a w e=>k _ _ (fun z=>by rw [z,hx] at e; cases e) e⟩
theorem iU {H:Hp} {x b:Addr} {C dx:Addr} {fs:List (Str×V)} {xs:List V} (hx:H x=some (.ins C dx fs)) (e:H b=some (.lst xs)):b≠x:=fun z=>by rw [z,hx] at e; cases e
theorem mr {R:Hp->Prop} {H:Hp} {a C dx:Addr} {fs:List (Str×V)} (h:∀ H3,Kx a H H3->H3 a=some (.ins C dx fs)->R H3):R (upd H a (.ins C dx fs)):=h _ (Kx.upd (Kx.refl _ _)) ay
structure Kp (M:List Addr) (H H':Hp):Prop where
 k:∀ b o,H b=some o->(b∉M\/∀ xs,o≠.lst xs)->H' b=some o
 f:∀ b,H' b=none->H b=none
theorem Kp.of {M:List Addr} {H H':Hp} (s:am H H'):Kp M H H':=⟨fun b o e _=>s b o e,fun b h=>s.free h⟩
theorem Kp.trans {M:List Addr} {H H1 H2:Hp} (a:Kp M H H1) (b:Kp M H1 H2):Kp M H H2:=⟨fun x o e h=>b.k x o (a.k x o e h) h,fun x h=>a.f x (b.f x h)⟩
theorem Kp.mono {M N:List Addr} {H H':Hp} (a:Kp M H H') (h:∀ b∈M,b∈N):Kp N H H':=⟨fun x o e q=>a.k x o e (q.imp (fun n m=>n (h x m)) id),a.f⟩
theorem Kp.keep {M:List Addr} {H H':Hp} (a:Kp M H H'):fq H H':=fun b xs e=>a.k b _ e (.inr fun _ z=>nomatch z)
theorem Kp.tup {M:List Addr} {H H':Hp} (a:Kp M H H') {b:Addr} {xs:List V} (e:H b=some (.tup xs)):H' b=some (.tup xs):=a.keep _ _ e
theorem Kp.ins {M:List Addr} {H H':Hp} (a:Kp M H H') {b C dx:Addr} {fs:List (Str×V)} (e:H b=some (.ins C dx fs)):H' b=some (.ins C dx fs):=a.k b _ e (.inr fun _ z=>nomatch z)
theorem Kp.lst {M:List Addr} {H H':Hp} (a:Kp M H H') {b:Addr} {o:HO} (n:b∉M) (e:H b=some o):H' b=some o:=a.k b _ e (.inl n)
theorem Kp.new {M:List Addr} {H0 H H':Hp} (s:am H0 H) (a:Kp M H H') (h:∀ b∈M,H0 b=none):am H0 H':=fun b o e=>a.lst (fun m=>by rw [h b m] at e; cases e) (s b o e)
theorem Kp.upd {M:List Addr} {H H':Hp} {l:Addr} {xs ys:List V} (a:Kp M H H') (e:H' l=some (.lst xs)) (hl:l∈M):Kp M H (L2.upd H' l (.lst ys)):=⟨fun b o q n=>by
 by_cases z:b=l
 ·subst z
  have:=a.k _ _ q n
  rw [e] at this
  cases this
  rcases n with n | n
  ·exact absurd hl n
  ·exact absurd rfl (n _)
 ·rw [aP z]
  exact a.k b o q n,fun b h=>by
 by_cases z:b=l
 ·subst z
  rw [ay] at h
  cases h
 ·rw [aP z] at h
  exact a.f b h⟩
theorem Kp.off {M:List Addr} {H H1 H2:Hp} {l:Addr} {xs ys:List V} (a:Kp M H H1) (e:H1 l=some (.lst xs)) (hl:l∈M) (o:Off l H1 H2) (e2:H2 l=some (.lst ys)):Kp M H H2:=by
 have:H2=L2.upd H1 l (.lst ys):=by
  funext b
  by_cases z:b=l
  ·subst z; rw [ay]; exact e2
  ·rw [aP z]; exact o b z
 rw [this]
 exact a.upd e hl
noncomputable def uT (M:List Addr) (H:Hp) (d:V) (m:List Nat×List V):Prop:=∃ t h v,d=.ref t/\H t=some (.tup [.ref h,.ref v])/\H h=some (.tup (av m.1))/\H v=some (.lst m.2)/\v∉M
theorem uT.kp {M N:List Addr} {H H':Hp} {d:V} {m:List Nat×List V} (h:uT M H d m) (a:Kp N H H') (hn:∀ b∈N,b∈M):uT M H' d m:=by
 obtain ⟨t,x,v,e,h1,h2,h3,h4⟩:=h
 exact ⟨t,x,v,e,a.tup h1,a.tup h2,a.lst (fun z=>h4 (hn _ z)) h3,h4⟩
noncomputable def tz (pd ps pv pe:Addr) (T:TM):List (Str×V):=[("dealt",.ref pd),("cards",.int T.c),("sizes",.ref ps),("hands",.int T.k),("views",.ref pv),("deeds",.ref pe)]
structure TbX (G:GF) (M:List Addr) (H:Hp) (x pv pe:Addr) (T:TM) (dx pd ps:Addr) (qs:List Addr) (es:List V):Prop where
 hx:H x=some (.ins G.Table dx (tz pd ps pv pe T))
 dl:bx H pd T.ws
 nd:pd∉M
 sz:H ps=some (.lst (av T.ss))
 ns:ps∉M
 vs:H pv=some (.lst (qs.map V.ref))
 qv:Paired (fun (q:Addr) (v:List Nat)=>H q=some (.lst (av v))/\q∉M) qs T.vw
 pes:H pe=some (.lst es)
 ed:Paired (uT M H) es T.ds
structure Tb (G:GF) (M:List Addr) (H:Hp) (x pv pe:Addr) (T:TM):Prop where
 ok:T.Ok
 ex:∃ dx pd ps qs es,TbX G M H x pv pe T dx pd ps qs es
 ne:pv≠pe
 mv:pv∈M
 me:pe∈M
 al:∀ b∈M,H b≠none
theorem bx.kp {M:List Addr} {H H':Hp} {p:Addr} {ws:List (List Nat)} (d:bx H p ws) (a:Kp M H H') (n:p∉M):bx H' p ws:=d.to' a.keep fun rs e=>a.lst n e
theorem Tb.kp {G:GF} {M N:List Addr} {H H':Hp} {x pv pe:Addr} {T:TM} (t:Tb G M H x pv pe T) (a:Kp N H H') (hn:∀ b∈N,b∈M) (n1:pv∉N) (n2:pe∉N):Tb G M H' x pv pe T:=by
 obtain ⟨dx,pd,ps,qs,es,X⟩:=t.ex
 exact ⟨t.ok,⟨dx,pd,ps,qs,es,a.ins X.hx,X.dl.kp a fun z=>X.nd (hn _ z),X.nd,a.lst (fun z=>X.ns (hn _ z)) X.sz,X.ns,a.lst n1 X.vs,Paired.mapP X.qv fun _ _ ⟨e,n⟩=>⟨a.lst (fun z=>n (hn _ z)) e,n⟩,a.lst n2 X.pes,Paired.mapP X.ed fun _ _ h=>h.kp a hn⟩,t.ne,t.mv,t.me,fun b hb z=>t.al b hb (a.f b z)⟩
theorem Tb.same {G:GF} {M:List Addr} {H H':Hp} {x pv pe:Addr} {T:TM} (t:Tb G M H x pv pe T) (s:am H H'):Tb G M H' x pv pe T:=t.kp (N:=[]) (Kp.of s) (fun _ z=>nomatch z) (fun z=>nomatch z) (fun z=>nomatch z)
theorem Tb.grow {G:GF} {M N:List Addr} {H:Hp} {x pv pe:Addr} {T:TM} (t:Tb G M H x pv pe T) {H':Hp} (s:am H H') (hn:∀ b∈N,H b=none) (ha:∀ b∈N,H' b≠none):Tb G (N++M) H' x pv pe T:=by
 obtain ⟨dx,pd,ps,qs,es,X⟩:=t.ex
 have go:∀ {b:Addr} {o:HO},H b=some o->b∉M->b∉N++M:=fun e n z=>by
  rcases LU.mp z with z | z
  ·rw [hn _ z] at e; cases e
  ·exact n z
 have hd:pd∉N++M:=by
  obtain ⟨rs,e,_⟩:=X.dl
  exact go e X.nd
 exact ⟨t.ok,⟨dx,pd,ps,qs,es,s _ _ X.hx,X.dl.same' s,hd,s _ _ X.sz,go X.sz X.ns,s _ _ X.vs,Paired.mapP X.qv fun _ _ ⟨e,n⟩=>⟨s _ _ e,go e n⟩,s _ _ X.pes,Paired.mapP X.ed fun _ _ ⟨t,h,v,e,h1,h2,h3,h4⟩=>⟨t,h,v,e,s _ _ h1,s _ _ h2,s _ _ h3,go h3 h4⟩⟩,t.ne,L9 _ t.mv,L9 _ t.me,fun b hb=>by
  rcases LU.mp hb with z | z
  ·exact ha b z
  ·intro y
   exact t.al b z (s.free y)⟩
theorem Tb.off {G:GF} {M:List Addr} {H:Hp} {x pv pe:Addr} {T:TM} (t:Tb G M H x pv pe T) {p:Addr} (h:H p=none):p∉M:=fun z=>t.al p z h
theorem Tb.at {G:GF} {M:List Addr} {H:Hp} {x pv pe:Addr} {T:TM} (t:Tb G M H x pv pe T) (m:Str) (h1:(m == "dealt")=false) (h2:(m == "cards")=false) (h3:(m == "sizes")=false) (h4:(m == "hands")=false) (h5:(m == "views")=false) (h6:(m == "deeds")=false):∃ dx fs,H x=some (.ins G.Table dx fs)/\fs.lookup m=none:=by
 obtain ⟨dx,pd,ps,qs,es,X⟩:=t.ex
 refine ⟨dx,_,X.hx,?_⟩
 simp only [tz,OB,h1,h2,h3,h4,h5,h6]
noncomputable def dn (_:Fg) (G:GF):Sp:=fun vs H Q _=>∃ (M:List Addr) (x dx a:Addr) (c:Nat) (ss:List Nat),vs=[.ref x,.int c,.ref a]/\H x=some (.ins G.Table dx [])/\H a=some (.lst (av ss))/\qj c ss/\KM.cv c ss<=2000/\(∀ b∈M,H b≠none)/\x∉M/\
 ∀ (H':Hp) (pv pe:Addr),Kx x H H'->H pv=none->H pe=none->Tb G (pv :: pe :: M) H' x pv pe (TM.begun c ss)->Q .non H'
noncomputable def iV (K:Fg) (G:GF):TS:=(ar (mM K (ab 0) (au (jG K) [] E0 (aa (ab 1) (aa (ab 2) af))) "dealt")
 (ar (mM K (ab 0) (ab 1) "cards")
 (ar (mM K (ab 0) (tCB (iI K) (aa (ab 2) af)) "sizes")
 (ar (mM K (ab 0) (tCB (b9 K) (aa (ab 2) af)) "hands")
 (ar (mM K (ab 0) (bV (eN (aa (du K (ab 0) "hands") af)) (fun _ _ _ _=>(ao 0)) (fun _ _ _ _=>bH) (fun _ _ _ _=>(au (kb K) [] E0 (aa (du K (ab 1) "dealt") (aa (ab 0) af)))) [none,some 0]) "views")
 (mM K (ab 0) (fv af) "deeds"))))))
noncomputable abbrev zW:List Str:=["self","cards","sizes"]
theorem qD {α β:Type} {F:α->β->Prop} {l:List α} {m:List β} {a:α} {b:β} (h:Paired F l m) (q:F a b):Paired F (l++[a]) (m++[b]):=by
 induction h with
 | nil=>exact .cons q .nil
 | cons x _ ih=>exact .cons x ih
theorem zX {R:Addr->List Nat->Prop}:∀ {acc:List V} {f:Nat->List Nat},(∀ j:Nat,j < acc.length->∃ q,acc[j]?=some (.ref q)/\R q (f j))->∃ qs:List Addr,acc=qs.map V.ref/\Paired R qs ((Lv acc.length).map f)
 | [],_,_=>⟨[],rfl,.nil⟩
 | x :: acc,f,h=>by
  obtain ⟨qs,e,p⟩:=zX (acc:=acc) (f:=fun j=>f (j + 1)) fun j hj=>by
   obtain ⟨q,h1,h2⟩:=h (j + 1) (by rw [LP]; omega)
   exact ⟨q,by simpa using h1,h2⟩
  obtain ⟨q,h1,h2⟩:=h 0 (by simp)
  refine ⟨q :: qs,by rw [LA,<-e]; exact congrArg (· :: acc) (by simpa using h1),?_⟩
  rw [LP,RG,LA,NY]
  exact .cons h2 p
theorem xN {K:Fg} {G:GF} (ct:oz K G.Table) {vs:List V} {H:Hp} {Q:VK} {E:XK} (h:dn K G vs H Q E):iV K G { nx:=fun _ H'=>Q .non H',rt:=Q } (start zW vs) H:=by
 obtain ⟨M,x,dx,a,c,ss,rfl,hx,e,pk,hm,hM,hxM,q⟩:=h
 have nk:∀ {H1:Hp} {b:Addr} {fs:List (Str×V)},Kx x H H1->H1 x=some (.ins G.Table dx fs)->H1 b=none->H b=none:=fun {H1 b fs} kk ex eb=>by
  cases e:H b with
  | none=>rfl
  | some o=>
   by_cases z:b=x
   ·rw [z,ex] at eb; cases eb
   ·rw [kk _ _ z e] at eb; cases eb
 have h5:=pk.l5
 have nxa:a≠x:=fun z=>by rw [z,hx] at e; cases e
 show iV K G _ [some _,some _,some _] _
 unfold iV
 refine bu (j4 ?_)
 walk_at "rd"
 refine ⟨c,a,ss,rfl,e,pk,hm,fun p H1 s1 hp D1=>?_⟩
 have okT:=TM.Ok.begun pk hm
 have hws:∀ w∈KM.cq (ss++[c - ss.sum]) c,w.length<=1000:=fun w hw=>by
  have:=(KM.gT _ c w hw).len
  have:=pk.c12
  omega
 have hwl:(KM.cq (ss++[c - ss.sum]) c).length<=2000:=by rw [KM.mP pk.sum]; exact hm
 obtain ⟨ws,hWs⟩:∃ ws,ws=KM.cq (ss++[c - ss.sum]) c:=⟨_,rfl⟩
 rw [<-hWs] at hws hwl D1
 walk_at "rd"
 refine ⟨x,G.Table,dx,[],rfl,s1 _ _ hx,ct.cl,ct.n1,by simp,mr fun H2 l2 x2=>?_⟩
 have k2:Kx x H H2:=fun b o n e=>l2 _ _ n (s1 _ _ e)
 have D2:=gi D1 (s1 _ _ hx) l2
 refine bu (j4 ?_)
 walk_at "rd"
 refine ⟨x,G.Table,dx,_,rfl,x2,ct.cl,ct.n2,NH rfl,mr fun H3 l3 x3=>?_⟩
 have k3:Kx x H H3:=fun b o n e=>l3 _ _ n (k2 _ _ n e)
 have D3:=gi D2 x2 l3
 refine bu (j4 ?_)
 walk_at "rd"
 refine li (SqL.of (k3 _ _ nxa e)) fun l4 H4 hl4 s4 e4=>?_
 have nxl:l4≠x:=iU (s4 _ _ x3) e4
 walk_at "rd"
 refine ⟨x,G.Table,dx,_,rfl,s4 _ _ x3,ct.cl,ct.n3,NH rfl,mr fun H5 l5 x5=>?_⟩
 have k5:Kx x H H5:=fun b o n e=>l5 _ _ n (s4 _ _ (k3 _ _ n e))
 have D5:=gi (D3.same' s4) (s4 _ _ x3) l5
 have a5:=k5 _ _ nxa e
 refine bu (j4 ?_)
 walk_at "rd"
 rw [bg]
 refine ⟨x,G.Table,dx,_,rfl,x5,ct.cl,ct.n4,NH rfl,mr fun H6 l6 x6=>?_⟩
 have k6:Kx x H H6:=fun b o n e=>l6 _ _ n (k5 _ _ n e)
 have D6:=gi D5 x5 l6
 have e46:H6 l4=some (.lst (av ss)):=l6 _ _ nxl (l5 _ _ nxl e4)
 refine bu (j4 ?_)
 walk_at "rd"
 refine cG ?_
 walk_at "rd"
 refine ⟨x,G.Table,dx,_,_,rfl,x6,ct.cl,ct.n4,rfl,?_⟩
 walk_at "rd"
 refine ET ss.length (by omega) (by omega) (by omega) (fun p' i acc H2=>acc.length=i/\∀ j:Nat,j < i->∃ q,acc[j]?=some (.ref q)/\(q≠p'/\q∉M)/\H2 q=some (.lst (av (lv ws (j:Int))))) (fun _ _ _=>⟨rfl,fun j hj=>absurd hj (Oy _)⟩) ?_ ?_
 ·intro p' hp' C s' H' fp i acc H7 hi ⟨s7,e7,l7,r7⟩
  walk_at "rd"
  refine cG ?_
  walk_at "rd"
  refine ⟨x,G.Table,dx,_,_,rfl,s7 _ _ x6,ct.cl,ct.n1,rfl,?_⟩
  walk_at "rd"
  refine ⟨p,ws,(i:Int),rfl,D6.same' s7,hws,by omega,fun q8 H8 hq8 s8 e8=>?_⟩
  obtain ⟨r1,r2⟩:=r7
  refine bi.putW hp' (s7.trans s8) (s8 _ _ e7) l7 fun H9 o9=>⟨by rw [Lz,r1]; rfl,fun j hj=>?_⟩
  by_cases hj2:j < i
  ·obtain ⟨q,h1,h2,h3⟩:=r2 j hj2
   exact ⟨q,by rw [Ob (by omega)]; exact h1,h2,(o9 _ h2.1).trans (s8 _ _ h3)⟩
  ·have ej:j=i:=by omega
   subst ej
   have hqp:q8≠p':=fun z=>by rw [z,e7] at hq8; cases hq8
   exact ⟨q8,by rw [OR (by omega),r1,Rc]; rfl,⟨hqp,fun z=>hM _ z (nk (k6.same s7) (s7 _ _ x6) hq8)⟩,(o9 _ hqp).trans e8⟩
 ·intro pv acc H7 hpv s7 e7 ⟨r1,r2⟩
  walk_at "rd"
  refine ⟨x,G.Table,dx,_,rfl,s7 _ _ x6,ct.cl,ct.n5,NH rfl,mr fun H8 kk x8=>?_⟩
  have k8:Kx x H H8:=fun b o n e=>kk _ _ n (s7 _ _ (k6 _ _ n e))
  have D8:=gi (D6.same' s7) (s7 _ _ x6) kk
  have v8:=kk _ _ (iU (s7 _ _ x6) e7) e7
  refine j4 ?_
  walk_at "rd"
  refine ⟨by simp [Ll],fun pe H9 hpe s9 e9=>?_⟩
  walk_at "rd"
  refine ⟨x,G.Table,dx,_,rfl,s9 _ _ x8,ct.cl,ct.n6,NH rfl,mr fun HA kz xA=>?_⟩
  have kA:Kx x H HA:=fun b o n e=>kz _ _ n (s9 _ _ (k8 _ _ n e))
  have gv:=nk k6 x6 hpv
  have ge:=nk k8 x8 hpe
  have npv:pv≠pe:=aS v8 hpe
  have npd:p∉pv :: pe :: M:=fun z=>by
   obtain ⟨rs6,er6,_⟩:=id D6
   rcases Lh.mp z with z | z
   ·rw [z] at er6; rw [er6] at hpv; cases hpv
   ·rcases Lh.mp z with z | z
    ·obtain ⟨rs8,er8,_⟩:=id D8
     rw [z] at er8; rw [er8] at hpe; cases hpe
    ·exact hM _ z hp
  have e48:=kk _ _ nxl (s7 _ _ e46)
  have nps:l4∉pv :: pe :: M:=fun z=>by
   rcases Lh.mp z with z | z
   ·rw [z] at e46; rw [e46] at hpv; cases hpv
   ·rcases Lh.mp z with z | z
    ·rw [z] at e48; rw [e48] at hpe; cases hpe
    ·exact hM _ z (nk k3 x3 hl4)
  have rr:=zX (R:=fun q v=>(q≠pv/\q∉M)/\H8 q=some (.lst (av v))) (f:=fun j=>lv ws ((j:Nat):Int)) (fun j hj=>by
   obtain ⟨q,h1,h2,h3⟩:=r2 j (by rw [<-r1]; exact hj)
   exact ⟨q,h1,h2,kk _ _ (iU (s7 _ _ x6) h3) h3⟩)
  rw [r1] at rr
  obtain ⟨qs,rfl,hqs⟩:=rr
  have up:∀ {b:Addr} {xs:List V},H8 b=some (.lst xs)->HA b=some (.lst xs):=fun e=>kz _ _ (iU (s9 _ _ x8) (s9 _ _ e)) (s9 _ _ e)
  have pe9:=kz _ _ (iU (s9 _ _ x8) e9) e9
  refine q HA pv pe kA gv ge ⟨okT,⟨dx,p,l4,qs,[],xA,?_,npd,up e48,nps,up v8,?_,pe9,.nil⟩,npv,Lj,Ln _ Lj,fun b hb y=>?_⟩
  ·show bx _ p (KM.cq (ss++[c - ss.sum]) c)
   rw [<-hWs]
   exact gi (D8.same' s9) (s9 _ _ x8) kz
  ·show Paired _ qs ((Lv ss.length).map fun i=>lv (KM.cq (ss++[c - ss.sum]) c) ((i:Nat):Int))
   rw [<-hWs]
   refine Paired.mapP hqs fun a' v ⟨h2,h3⟩=>⟨up h3,fun z=>?_⟩
   rcases Lh.mp z with z | z
   ·exact h2.1 z
   ·rcases Lh.mp z with z | z
    ·rw [z] at h3; rw [h3] at hpe; cases hpe
    ·exact h2.2 z
  ·rcases Lh.mp hb with z | z
   ·rw [z,up v8] at y; cases y
   ·rcases Lh.mp z with z | z
    ·rw [z,pe9] at y; cases y
    ·cases eb:H b with
     | none=>exact hM b z eb
     | some o=>rw [kA b o (fun w=>hxM (w ▸ z)) eb] at y; cases y
end
section
open KF
noncomputable def jw (_:Fg) (G:GF):Sp:=fun vs H Q _=>∃ (M:List Addr) (x pv pe:Addr) (T:TM),vs=[.ref x]/\Tb G M H x pv pe T/\∀ (p:Addr) (H':Hp),H p=none->am H H'->bx H' p T.ws->Q (.ref p) H'
noncomputable def g9 (K:Fg) (G:GF):TS:=(aJ (tCB (iI K) (aa (du K (ab 0) "dealt") af)))
noncomputable abbrev xO:List Str:=["self"]
theorem wu {K:Fg} {G:GF} (ct:oz K G.Table) {vs:List V} {H:Hp} {Q:VK} {E:XK} (h:jw K G vs H Q E):g9 K G { nx:=fun _ H'=>Q .non H',rt:=Q } (start xO vs) H:=by
 obtain ⟨M,x,pv,pe,T,rfl,t,q⟩:=h
 obtain ⟨dx,pd,ps,qs,es,X⟩:=t.ex
 show g9 K G _ [some _] _
 unfold g9
 walk_at "rd"
 refine cG ?_
 walk_at "rd"
 refine ⟨x,G.Table,dx,_,_,rfl,X.hx,ct.cl,ct.n1,rfl,?_⟩
 walk_at "rd"
 obtain ⟨rs,er,hr⟩:=X.dl
 refine li (SqL.of er) fun p H1 hp s1 e1=>?_
 exact q p H1 hp s1 ⟨rs,e1,Paired.mapP hr fun a w e=>s1 _ _ e⟩
noncomputable def gE (_:Fg) (G:GF):Sp:=fun vs H Q _=>∃ (M:List Addr) (x pv pe tp vp:Addr) (T:TM) (g:List Nat) (as:List IA) (ys:List V),vs=[.ref x,.ref tp,.ref vp]/\Tb G M H x pv pe T/\H tp=some (.tup (av g))/\(∀ h∈g,h < T.k)/\H vp=some (.lst ys)/\vp∉M/\ys.map iaV=as.map some/\as.length=T.n/\T.ds.length < 1000/\
 ∀ (p:Addr) (H':Hp),H p=none->Kp [pv,pe] H H'->H' p=some (.lst ys)->Tb G M H' x pv pe (T.learn g as ys)->Q (.ref p) H'
noncomputable def hJ (K:Fg) (G:GF):TS:=(ar (dk (v4 K (ab 1)) (ao 3) (aH (au (tm K) [] E0 (aa (tOp (cV K) (du K (ab 0) "views") (ab 3)) (aa (ab 2) af))) (pT (du K (ab 0) "views") (ab 3) lY)))
 (ar (dR (tBM K "list" fK (du K (ab 0) "deeds") (aa (ci (aa (ab 1) (aa (ab 2) af))) af)))
 (aJ (tCB (iI K) (aa (ab 2) af)))))
noncomputable abbrev xP:List Str:=["self","hands","values","hand"]
theorem KK {n j:Nat} (h:j < n):ixN n (j:Int)=some j:=by
 unfold ixN
 rw [if_pos (by omega),if_pos (by omega)]
 simp
theorem CG {α β:Type} {F:α->β->Prop} {l:List α} {m:List β} (h:Paired F l m) {a:α} {b:β} (r:F a b):∀ i:Nat,Paired F (l.set i a) (m.set i b):=by
 induction h with
 | nil=>exact fun i=>.nil
 | cons r' t ih=>
  intro i
  cases i with
  | zero=>exact .cons r t
  | succ i=>exact .cons r' (ih i)
theorem wv {K:Fg} {G:GF} (ct:oz K G.Table) {vs:List V} {H:Hp} {Q:VK} {E:XK} (h:gE K G vs H Q E):hJ K G { nx:=fun _ H'=>Q .non H',rt:=Q } (start xP vs) H:=by
 obtain ⟨M,x,pv,pe,tp,vp,T,g,as,ys,rfl,t,et,hg,evp,nvp,hia,hla,hds,q⟩:=h
 obtain ⟨dx,pd,ps,qs,es,X⟩:=t.ex
 have n2:=t.ok.n2
 show hJ K G _ [some _,some _,some _,none] _
 unfold hJ
 walk_at "rd"
 have me1:pv∈[pv,pe]:=Lj
 have me2:pe∈[pv,pe]:=Ln _ Lj
 have sub:∀ b∈[pv,pe],b∈M:=fun b hb=>by
  rcases Lh.mp hb with z | z
  ·rw [z]; exact t.mv
  ·rw [Lg.mp z]; exact t.me
 have nvp':vp∉[pv,pe]:=fun z=>nvp (sub _ z)
 refine zk (av g) (SqT.of et) (fun j σ' H2=>∃ (u:Option V) (qs2:List Addr),σ'=[some (.ref x),some (.ref tp),some (.ref vp),u]/\Kp [pv] H H2/\H2 pv=some (.lst (qs2.map V.ref))/\Paired (fun (q:Addr) (v:List Nat)=>H2 q=some (.lst (av v))/\q∉M) qs2 (lrn T.vw (g.take j) as)) ⟨none,qs,rfl,Kp.of (am.refl _),X.vs,X.qv⟩ ?_ ?_ ?_
 ·rintro j σ' H2 hj ⟨u,qs2,rfl,k2,_⟩
  exact SqT.of (k2.tup et)
 ·rintro j y σ' H2 hy ⟨u,qs2,rfl,k2,e2,p2⟩
  obtain ⟨hd,hh,rfl⟩:=iD hy
  have hk:=hg hd (Lw hh)
  have hx2:=k2.ins X.hx
  have lq:qs2.length=T.vw.length:=by rw [L6 p2,rn]
  have hdl:hd < qs2.length:=by rw [lq,t.ok.len]; exact hk
  have hq:qs2[hd]?=some (qs2[hd]'hdl):=Ld _
  generalize qs2[hd]'hdl=qi at hq
  obtain ⟨v,hv,h1,h2⟩:=ck p2 hq
  have hvw:Within T.n v:=rq (P:=Within T.n) (fun v hv=>qx hv hla) (g.take j) T.vw (fun h hh=>by rw [t.ok.len]; exact hg h (List.mem_of_mem_take hh)) t.ok.win v (Lw hv)
  walk_at "rd"
  refine cG ?_
  walk_at "rd"
  refine ⟨x,G.Table,dx,_,_,rfl,hx2,ct.cl,ct.n5,rfl,?_⟩
  walk_at "rd"
  refine ce (SqL.of e2) (cB (v:=.ref qi) (by rw [Lx,hq]; rfl)) ?_
  walk_at "rd"
  refine ⟨qi,vp,v,ys,as,rfl,h1,k2.lst (fun z=>nvp' (by rw [Lg.mp z]; exact me1)) evp,hia,by rw [hvw.1,hla],by rw [hvw.1]; omega,fun q' H3 hq' s3 e3=>?_⟩
  walk_at "rd"
  refine cG ?_
  walk_at "rd"
  refine ⟨x,G.Table,dx,_,_,rfl,s3 _ _ hx2,ct.cl,ct.n5,rfl,?_⟩
  walk_at "rd"
  refine qd (s3 _ _ e2) (KK (by rw [Lf]; exact hdl)) ?_
  have nq:q'≠pv:=(aS e2 hq').symm
  have nqM:q'∉M:=fun z=>t.al _ z (k2.f _ hq')
  refine ⟨_,qs2.set hd q',rfl,(k2.trans (Kp.of s3)).upd (s3 _ _ e2) (Lg.mpr rfl),by rw [ay,List.map_set],?_⟩
  rw [cX hh,Gd,nj hv]
  refine CG (Paired.mapP p2 fun a w ⟨z1,z2⟩=>⟨?_,z2⟩) ⟨by rw [aP nq]; exact e3,nqM⟩ hd
  rw [aP (show a≠pv from fun z=>z2 (by rw [z]; exact t.mv))]
  exact s3 _ _ z1
 ·rintro σ' H2 ⟨u,qs2,rfl,k2,e2,p2⟩
  rw [bg,LZ] at p2
  have hx2:=k2.ins X.hx
  have ee2:=k2.lst (fun z=>t.ne (Lg.mp z).symm) X.pes
  walk_at "rd"
  refine cG ?_
  walk_at "rd"
  refine ⟨x,G.Table,dx,_,_,rfl,hx2,ct.cl,ct.n6,rfl,?_⟩
  refine ⟨.inl ⟨rfl,_,SqL.of ee2⟩,?_⟩
  walk_at "rd"
  refine ⟨by simp [Ll],fun p3 H3 hp3 s3 e3=>?_⟩
  walk_at "rd"
  have les:es.length=T.ds.length:=L6 X.ed
  refine ii (s3 _ _ ee2) (by rw [Ll]; omega) fun H4 o4 e4=>?_
  have k4:Kp [pv,pe] H H4:=((k2.mono fun b hb=>by rw [Lg.mp hb]; exact me1).trans (Kp.of s3)).off (s3 _ _ ee2) me2 o4 e4
  walk_at "rd"
  refine li (SqL.of (k4.lst nvp' evp)) fun p5 H5 hp5 s5 e5=>?_
  have k5:=k4.trans (Kp.of s5)
  have keep4:∀ {b:Addr} {o:HO},b≠pe->H2 b=some o->H5 b=some o:=fun nb e=>s5 _ _ ((o4 _ nb).trans (s3 _ _ e))
  refine q p5 H5 (k4.f _ hp5) k5 e5 ⟨t.ok.learn hg hla,⟨dx,pd,ps,qs2,es++[.ref p3],k5.ins X.hx,X.dl.kp k5 fun z=>X.nd (sub _ z),X.nd,k5.lst (fun z=>X.ns (sub _ z)) X.sz,X.ns,keep4 t.ne e2,Paired.mapP p2 fun a w ⟨z1,z2⟩=>⟨keep4 (show a≠pe from fun z=>z2 (by rw [z]; exact t.me)) z1,z2⟩,s5 _ _ e4,?_⟩,t.ne,t.mv,t.me,fun b hb z=>t.al b hb (k5.f b z)⟩
  refine qD (Paired.mapP X.ed fun _ _ h=>h.kp k5 sub) ⟨p3,tp,vp,rfl,?_,k5.tup et,k5.lst nvp' evp,nvp⟩
  exact s5 _ _ ((o4 _ (fun z=>by rw [z] at hp3; rw [ee2] at hp3; cases hp3)).trans e3)
noncomputable def iW (_:Fg) (G:GF):Sp:=fun vs H Q _=>∃ (M:List Addr) (x pv pe:Addr) (T:TM) (v:V) (s:Sy),vs=[.ref x,v]/\Tb G M H x pv pe T/\aK H v s/\s.Ok T.c T.k/\s.words<=30/\
 ∀ p H',H p=none->am H H'->H' p=some (.lst (blV T.n (T.tr s)))->Q (.ref p) H'
noncomputable def gF (K:Fg) (G:GF):TS:=(ar (bz (fZ (tB (au (lx K) [] E0 (aa (du K (ab 0) "cards") (aa (du K (ab 0) "hands") (aa (ab 1) af)))))) pS bf)
 (aJ (au (bR K 35) [] E0 (aa (du K (ab 0) "dealt") (aa (du K (ab 0) "views") (aa (ab 1) af))))))
noncomputable abbrev ww:List Str:=["self","S"]
theorem Tb.tab {G:GF} {M:List Addr} {H:Hp} {x pv pe:Addr} {T:TM} {dx pd ps:Addr} {qs:List Addr} {es:List V} (ok:T.Ok) (X:TbX G M H x pv pe T dx pd ps qs es):Table H pd pv T.c T.n T.ws T.vw:=
 ⟨X.dl,rfl,ok.cards,by have:=ok.n2; omega,by have:=ok.pk.c12; omega,⟨qs,X.vs,Paired.mapP X.qv fun _ _ h=>h.1⟩,ok.win,by rw [ok.len]; have:=ok.pk.l5; show T.ss.length<=1000; omega⟩
theorem uU {K:Fg} {G:GF} (ct:oz K G.Table) {vs:List V} {H:Hp} {Q:VK} {E:XK} (h:iW K G vs H Q E):gF K G { nx:=fun _ H'=>Q .non H',rt:=Q } (start ww vs) H:=by
 obtain ⟨M,x,pv,pe,T,v,s,rfl,t,hS,hok,hw,q⟩:=h
 obtain ⟨dx,pd,ps,qs,es,X⟩:=t.ex
 show gF K G _ [some _,some _] _
 unfold gF
 walk_at "rd"
 refine cG ?_
 walk_at "rd"
 refine ⟨x,G.Table,dx,_,_,rfl,X.hx,ct.cl,ct.n2,rfl,?_⟩
 walk_at "rd"
 refine cG ?_
 walk_at "rd"
 refine ⟨x,G.Table,dx,_,_,rfl,X.hx,ct.cl,ct.n4,rfl,?_⟩
 walk_at "rd"
 refine ⟨T.c,T.k,v,s,rfl,hS,hok,hw,fun H1 s1=>?_⟩
 have x1:=s1 _ _ X.hx
 walk_at "rd"
 refine cG ?_
 walk_at "rd"
 refine ⟨x,G.Table,dx,_,_,rfl,x1,ct.cl,ct.n1,rfl,?_⟩
 walk_at "rd"
 refine cG ?_
 walk_at "rd"
 refine ⟨x,G.Table,dx,_,_,rfl,x1,ct.cl,ct.n5,rfl,?_⟩
 walk_at "rd"
 refine ⟨pd,pv,v,T.c,T.n,T.ws,T.vw,s,rfl,(Tb.tab t.ok X).same s1,hS.keep s1.keep,by rw [t.ok.len]; exact hok,by omega,fun p H2 hp2 s2 e2=>?_⟩
 walk_at "rd"
 exact q p H2 (s1.free hp2) (s1.trans s2) e2
noncomputable def fC (_:Fg) (G:GF):Sp:=fun vs H Q _=>∃ (M:List Addr) (x pv pe tp:Addr) (T:TM) (g:List Nat) (v:V) (s:Sy),vs=[.ref x,.ref tp,v]/\Tb G M H x pv pe T/\H tp=some (.tup (av g))/\g.Pairwise (· < ·)/\(∀ h∈g,h < T.k)/\aK H v s/\s.Ok T.c T.k/\s.words<=30/\T.ds.length < 1000/\
 ∀ p H',H p=none->Kp [pv,pe] H H'->H' p=some (.lst (blV T.n (T.tr s)))->Tb G M H' x pv pe (T.word g s)->Q (.ref p) H'
noncomputable def iX (K:Fg) (G:GF):TS:=(ar (dR (au (cL K) [] E0 (aa (au (iO K) [] E0 (aa (ab 1) (aa (du K (ab 0) "hands") af))) (aa (tC (.str "this is no tuple of hands")) af))))
 (aJ (fj G.Table "learn" (gE K G) [] E0 (ab 0) (aa (ab 1) (aa (fj G.Table "truths" (iW K G) [] E0 (ab 0) (aa (ab 2) af)) af)))))
noncomputable abbrev zY:List Str:=["self","hands","S"]
theorem xQ {K:Fg} {G:GF} (ct:oz K G.Table) {vs:List V} {H:Hp} {Q:VK} {E:XK} (h:fC K G vs H Q E):iX K G { nx:=fun _ H'=>Q .non H',rt:=Q } (start zY vs) H:=by
 obtain ⟨M,x,pv,pe,tp,T,g,v,s,rfl,t,et,pw,hg,hS,hok,hw,hds,q⟩:=h
 obtain ⟨dx,pd,ps,qs,es,X⟩:=t.ex
 show iX K G _ [some _,some _,some _] _
 unfold iX
 walk_at "rd"
 refine cG ?_
 walk_at "rd"
 refine ⟨x,G.Table,dx,_,_,rfl,X.hx,ct.cl,ct.n4,rfl,?_⟩
 walk_at "rd"
 refine ⟨tp,g,T.k,rfl,et,pw,hg,?_⟩
 walk_at "rd"
 refine ⟨_,rfl,?_⟩
 walk_at "rd"
 obtain ⟨dx1,fs1,hx1,hl1⟩:=t.at "learn" (by decide +kernel) (by decide +kernel) (by decide +kernel) (by decide +kernel) (by decide +kernel) (by decide +kernel)
 refine gW ?_
 walk_at "rd"
 refine ⟨x,dx1,fs1,rfl,hx1,hl1,?_⟩
 walk_at "rd"
 obtain ⟨dx2,fs2,hx2,hl2⟩:=t.at "truths" (by decide +kernel) (by decide +kernel) (by decide +kernel) (by decide +kernel) (by decide +kernel) (by decide +kernel)
 refine gW ?_
 walk_at "rd"
 refine ⟨x,dx2,fs2,rfl,hx2,hl2,?_⟩
 walk_at "rd"
 refine ⟨M,x,pv,pe,T,v,s,rfl,t,hS,hok,hw,fun p1 H1 hp1 s1 e1=>?_⟩
 walk_at "rd"
 refine ⟨M,x,pv,pe,tp,p1,T,g,_,_,rfl,t.same s1,s1 _ _ et,hg,e1,t.off hp1,J6 _ _,wp _ _,hds,fun p2 H2 hp2 k2 e2 t2=>?_⟩
 walk_at "rd"
 exact q p2 H2 (s1.free hp2) ((Kp.of s1).trans k2) e2 t2
noncomputable def uV (w:List Nat) (h:Int) (ns:List Int):IA:=(ns.filter fun c=>decide (wAt w c=h)).min?
theorem E1 (w:List Nat) (h:Int) (ns:List Int):qC w h ns (uV w h ns):=by
 unfold uV
 cases e:(ns.filter fun c=>decide (wAt w c=h)).min? with
 | none=>
  rw [List.min?_eq_none_iff] at e
  refine .inl ⟨rfl,fun c hc z=>?_⟩
  have:c∈ns.filter fun c=>decide (wAt w c=h):=NJ.mpr ⟨hc,decide_eq_true z⟩
  rw [e] at this
  cases this
 | some m=>
  rw [List.min?_eq_some_iff] at e
  obtain ⟨h1,h2⟩:=e
  obtain ⟨h3,h4⟩:=NJ.mp h1
  exact .inr ⟨m,rfl,h3,of_decide_eq_true h4,fun d hd z=>h2 d (NJ.mpr ⟨hd,decide_eq_true z⟩)⟩
noncomputable def j5 (ws:List (List Nat)) (h:Int) (ns:List Int):List IA:=ws.map fun w=>uV w h ns
noncomputable def TM.show (T:TM) (i:Nat) (h:Int) (ns:List Int):TM:=T.learn [i] (j5 T.ws h ns) ((j5 T.ws h ns).map iaR)
noncomputable def kg (_:Fg) (G:GF):Sp:=fun vs H Q _=>∃ (M:List Addr) (x pv pe l:Addr) (T:TM) (i:Nat) (h:Int) (ns:List Int),vs=[.ref x,.int i,.int h,.ref l]/\Tb G M H x pv pe T/\H l=some (.lst (ns.map V.int))/\i < T.k/\0<=h/\h<=T.k/\ns.length < 64/\(∀ n∈ns,0<=n/\n < T.c)/\T.ds.length < 1000/\
 ∀ p H',H p=none->Kp [pv,pe] H H'->H' p=some (.lst ((j5 T.ws h ns).map iaR))->Tb G M H' x pv pe (T.show i h ns)->Q (.ref p) H'
noncomputable def iY (K:Fg) (G:GF):TS:=(ar (dR (au (cL K) [] E0 (aa (au (dz K) [] E0 (aa (ab 1) (aa (du K (ab 0) "hands") af))) (aa (tC (.str "this is no hand")) af))))
 (ar (dR (au (cL K) [] E0 (aa (au (dz K) [] E0 (aa (ab 2) (aa (tOp (rI0 fun i j=>.int (i + j)) (du K (ab 0) "hands") (tC (.int 1))) af))) (aa (tC (.str "this is no holder")) af))))
 (ar (dR (au (cL K) [] E0 (aa (au (lz K) [] E0 (aa (ab 3) (aa (du K (ab 0) "cards") af))) (aa (tC (.str "this is no list of cards")) af))))
 (ar (aH (tq K (aa (ab 3) af)) (ao 4))
 (aJ (fj G.Table "learn" (gE K G) [] E0 (ab 0) (aa (ci (aa (ab 1) af)) (aa (bV (dg K (du K (ab 0) "dealt")) (fun _ _ _ _=>(ao 0)) (fun _ _ _ _=>bH) (fun _ _ _ _=>(au (kf K) [] E0 (aa (ab 0) (aa (ab 1) (aa (ab 2) af))))) [none,some 2,some 4]) af))))))))
noncomputable abbrev zZ:List Str:=["self","hand","holder","some","rising"]
theorem xR {K:Fg} {G:GF} (ct:oz K G.Table) {vs:List V} {H:Hp} {Q:VK} {E:XK} (h:kg K G vs H Q E):iY K G { nx:=fun _ H'=>Q .non H',rt:=Q } (start zZ vs) H:=by
 obtain ⟨M,x,pv,pe,l,T,i,h,ns,rfl,t,el,hi,h0,h1,hns,hnb,hds,q⟩:=h
 obtain ⟨dx,pd,ps,qs,es,X⟩:=t.ex
 have n2:=t.ok.n2
 show iY K G _ [some _,some _,some _,some _,none] _
 unfold iY
 walk_at "rd"
 refine cG ?_
 walk_at "rd"
 refine ⟨x,G.Table,dx,_,_,rfl,X.hx,ct.cl,ct.n4,rfl,?_⟩
 walk_at "rd"
 refine ⟨(i:Int),(T.k:Int),rfl,?_⟩
 rw [iE (by omega) (by omega)]
 walk_at "rd"
 refine ⟨_,rfl,?_⟩
 walk_at "rd"
 refine cG ?_
 walk_at "rd"
 refine ⟨x,G.Table,dx,_,_,rfl,X.hx,ct.cl,ct.n4,rfl,?_⟩
 walk_at "rd"
 refine ⟨h,(T.k:Int) + 1,rfl,?_⟩
 rw [iE (by omega) (by omega)]
 walk_at "rd"
 refine ⟨_,rfl,?_⟩
 walk_at "rd"
 refine cG ?_
 walk_at "rd"
 refine ⟨x,G.Table,dx,_,_,rfl,X.hx,ct.cl,ct.n2,rfl,?_⟩
 walk_at "rd"
 refine ⟨l,ns,(T.c:Int),rfl,el,by omega,hnb,fun H1 s1=>?_⟩
 walk_at "rd"
 refine ⟨_,rfl,?_⟩
 walk_at "rd"
 refine EW ?_
 walk_at "rd"
 refine ⟨l,ns,rfl,SqL.of (s1 _ _ el),hns,fun rp H2 ms hrp s2 e2 pw mm=>?_⟩
 have s12:=s1.trans s2
 have t2:=t.same s12
 walk_at "rd"
 obtain ⟨dx1,fs1,hx1,hl1⟩:=t2.at "learn" (by decide +kernel) (by decide +kernel) (by decide +kernel) (by decide +kernel) (by decide +kernel) (by decide +kernel)
 refine gW ?_
 walk_at "rd"
 refine ⟨x,dx1,fs1,rfl,hx1,hl1,?_⟩
 walk_at "rd"
 refine ⟨by simp [Ll],fun tp H3 htp s3 e3=>?_⟩
 walk_at "rd"
 refine cG ?_
 walk_at "rd"
 have s13:=s12.trans s3
 refine ⟨x,G.Table,dx,_,_,rfl,s13 _ _ X.hx,ct.cl,ct.n1,rfl,?_⟩
 obtain ⟨rs,er,hr⟩:=X.dl.same' s13
 have lr:rs.length=T.n:=L6 hr
 refine gx (rs.map V.ref) (SqL.of er) (by rw [Lf]; omega) (fun j acc _=>acc=(j5 (T.ws.take j) h ns).map iaR) (fun H' _=>rfl) ?_ ?_
 ·rintro p' hp' C s' H' fp j xx acc H6 hxx ⟨s6,e6,l6,rfl⟩
  obtain ⟨b',hb',rfl⟩:=zD hxx
  obtain ⟨w,hwi,ew⟩:=ck hr hb'
  have hw1:=t.ok.cards w (Lw hwi)
  walk_at "rd"
  refine ⟨b',rp,w,h,ms,rfl,s6 _ _ ew,s6 _ _ (s3 _ _ e2),pw,fun c hc=>by rw [hw1]; exact hnb c ((mm c).mp hc),fun a ha=>?_⟩
  have ea:a=uV w h ns:=ha.uniq mm (E1 w h ns)
  subst ea
  refine bi.put hp' (fun _ _ _ _ r _=>r) s6 e6 l6 ?_
  rw [cX hwi]
  unfold j5
  rw [LI,LI]
  rfl
 ·rintro pl acc H6 hpl s6 e6 rfl
  rw [Lf,lr,show T.n=T.ws.length from rfl,LZ] at e6
  walk_at "rd"
  have s16:=s13.trans s6
  refine ⟨M,x,pv,pe,tp,pl,T,[i],j5 T.ws h ns,_,rfl,t.same s16,s6 _ _ e3,fun k hk=>by rw [Lg.mp hk]; exact hi,e6,t.off (s13.free hpl),by rw [NY]; exact M9 fun a _=>KJ a,by unfold j5; rw [Lf]; rfl,hds,fun p2 H7 hp2 k7 e7 t7=>?_⟩
  walk_at "rd"
  exact q p2 H7 (s16.free hp2) ((Kp.of s16).trans k7) e7 t7
noncomputable def gG (_:Fg) (G:GF):Sp:=fun vs H Q _=>∃ (M:List Addr) (x pv pe:Addr) (T:TM),vs=[.ref x]/\Tb G M H x pv pe T/\
 ∀ (x' pv' pe':Addr) H',H x'=none->H pv'=none->H pe'=none->am H H'->Tb G (pv' :: pe' :: M) H' x' pv' pe' T->Q (.ref x') H'
noncomputable def hU (K:Fg) (G:GF):TS:=(ar (aH (ui G.Table (dn K G) [] E0 (aa (du K (ab 0) "cards") (aa (du K (ab 0) "sizes") af))) (ao 1))
 (ar (mM K (ab 1) (tCB (iI K) (aa (du K (ab 0) "views") af)) "views")
 (ar (mM K (ab 1) (tCB (iI K) (aa (du K (ab 0) "deeds") af)) "deeds")
 (aJ (ab 1)))))
noncomputable abbrev xS:List Str:=["self","other"]
theorem wx {K:Fg} {G:GF} (ct:oz K G.Table) {vs:List V} {H:Hp} {Q:VK} {E:XK} (h:gG K G vs H Q E):hU K G { nx:=fun _ H'=>Q .non H',rt:=Q } (start xS vs) H:=by
 obtain ⟨M,x,pv,pe,T,rfl,t,q⟩:=h
 obtain ⟨dx,pd,ps,qs,es,X⟩:=t.ex
 show hU K G _ [some _,none] _
 unfold hU
 refine bu (ku (EZ ?_))
 walk_at "rd"
 refine cG ?_
 walk_at "rd"
 refine ⟨x,G.Table,dx,_,_,rfl,X.hx,ct.cl,ct.n2,rfl,?_⟩
 walk_at "rd"
 refine cG ?_
 walk_at "rd"
 refine ⟨x,G.Table,dx,_,_,rfl,X.hx,ct.cl,ct.n3,rfl,?_⟩
 walk_at "rd"
 intro x' dx' hx' hdx' hne
 have st:am H (upd (upd H dx' (.own x')) x' (.ins G.Table dx' [])):=((am.refl H).upd hdx' _).upd hx' _
 have x'M:x'∉M:=fun z=>t.al _ z hx'
 refine ⟨M,x',dx',ps,T.c,T.ss,rfl,ay,st _ _ X.sz,t.ok.pk,t.ok.few,fun b hb z=>t.al b hb (st.free z),x'M,fun H1 pv0 pe0 k1 hpv0 hpe0 t1=>?_⟩
 have s1:am H H1:=fun b o e=>k1 _ _ (aS e hx') (st _ _ e)
 obtain ⟨dx1,pd1,ps1,qs1,es1,X1⟩:=t1.ex
 refine ⟨rfl,?_⟩
 walk_at "rd"
 refine j4 ?_
 walk_at "rd"
 refine cG ?_
 walk_at "rd"
 refine ⟨x,G.Table,dx,_,_,rfl,s1 _ _ X.hx,ct.cl,ct.n5,rfl,?_⟩
 walk_at "rd"
 refine li (SqL.of (s1 _ _ X.vs)) fun pv' H2 hpv' s2 e2=>?_
 walk_at "rd"
 refine ⟨x',G.Table,dx1,_,rfl,s2 _ _ X1.hx,ct.cl,ct.n5,by simp [tz],mr fun H3 kx3 x3=>?_⟩
 have nxv:pv'≠x':=iU (s2 _ _ X1.hx) e2
 have s3:am H H3:=fun b o e=>kx3 _ _ (aS e hx') (s2 _ _ (s1 _ _ e))
 have e3:=kx3 _ _ nxv e2
 have dl3:=gi (X1.dl.same' s2) (s2 _ _ X1.hx) kx3
 have sz3:=kx3 _ _ (iU (s2 _ _ X1.hx) (s2 _ _ X1.sz)) (s2 _ _ X1.sz)
 walk_at "rd"
 refine j4 ?_
 walk_at "rd"
 refine cG ?_
 walk_at "rd"
 refine ⟨x,G.Table,dx,_,_,rfl,s3 _ _ X.hx,ct.cl,ct.n6,rfl,?_⟩
 walk_at "rd"
 refine li (SqL.of (s3 _ _ X.pes)) fun pe' H4 hpe' s4 e4=>?_
 walk_at "rd"
 refine ⟨x',G.Table,dx1,_,rfl,s4 _ _ x3,ct.cl,ct.n6,NH rfl,mr fun H5 kx5 x5=>?_⟩
 have s5:am H H5:=fun b o e=>kx5 _ _ (aS e hx') (s4 _ _ (s3 _ _ e))
 have e5:=kx5 _ _ (iU (s4 _ _ x3) e4) e4
 have v5:=kx5 _ _ nxv (s4 _ _ e3)
 have dl5:=gi (dl3.same' s4) (s4 _ _ x3) kx5
 have sz5:=kx5 _ _ (iU (s4 _ _ x3) (s4 _ _ sz3)) (s4 _ _ sz3)
 walk_at "rd"
 have gv:H pv'=none:=s1.free hpv'
 have ge:H pe'=none:=s3.free hpe'
 have nve:pv'≠pe':=aS e3 hpe'
 have nM:∀ {b:Addr} {o:HO},H b=some o->b∉M->b∉pv' :: pe' :: M:=fun e n z=>by
  rcases Lh.mp z with z | z
  ·rw [z,gv] at e; cases e
  ·rcases Lh.mp z with z | z
   ·rw [z,ge] at e; cases e
   ·exact n z
 have nd1:pd1∉pv' :: pe' :: M:=fun z=>by
  obtain ⟨rs1,er1,_⟩:=X1.dl
  obtain ⟨rs3,er3,_⟩:=dl3
  rcases Lh.mp z with z | z
  ·rw [z,hpv'] at er1; cases er1
  ·rcases Lh.mp z with z | z
   ·rw [z,hpe'] at er3; cases er3
   ·exact X1.nd (Ln _ (Ln _ z))
 have ns1:ps1∉pv' :: pe' :: M:=fun z=>by
  have er1:=X1.sz
  rcases Lh.mp z with z | z
  ·rw [z,hpv'] at er1; cases er1
  ·rcases Lh.mp z with z | z
   ·rw [z,hpe'] at sz3; cases sz3
   ·exact X1.ns (Ln _ (Ln _ z))
 refine q x' pv' pe' H5 hx' gv ge s5 ⟨t.ok,⟨dx1,pd1,ps1,qs,es,x5,dl5,nd1,sz5,ns1,v5,Paired.mapP X.qv fun _ _ ⟨e,n⟩=>⟨s5 _ _ e,nM e n⟩,e5,Paired.mapP X.ed fun _ _ ⟨t,h,v,e,h1,h2,h3,h4⟩=>⟨t,h,v,e,s5 _ _ h1,s5 _ _ h2,s5 _ _ h3,nM h3 h4⟩⟩,nve,Lj,Ln _ Lj,fun b hb z=>?_⟩
 rcases Lh.mp hb with y | y
 ·rw [y,v5] at z; cases z
 ·rcases Lh.mp y with y | y
  ·rw [y,e5] at z; cases z
  ·exact t.al b y (s5.free z)
end
section
open KF
noncomputable def dv (sys:List Sy) (j:Nat):Sy:=sys.getD (j % sys.length) (.sees 0)
noncomputable def TM.turn (T:TM) (sys:List Sy):Nat->TM
 | 0=>T
 | j + 1=>(T.turn sys j).word (Lv T.k) (dv sys j)
noncomputable def TM.told (T:TM) (sys:List Sy) (j:Nat):Nat->Prop:=(T.turn sys j).tr (dv sys j)
noncomputable def TM.still (T:TM) (sys:List Sy):Nat->Nat
 | 0=>0
 | j + 1=>if (T.turn sys (j + 1)).vw=(T.turn sys j).vw then T.still sys j + 1 else 0
structure TM.Len (T:TM) (sys:List Sy) (turns L:Nat):Prop where
 le:L<=turns
 go:∀ i,i < L->T.still sys i < sys.length
 st:L=turns\/sys.length<=T.still sys L
theorem lB (T:TM) (sys:List Sy):∀ j,(T.turn sys j).c=T.c/\(T.turn sys j).ss=T.ss
 | 0=>⟨rfl,rfl⟩
 | j + 1=>lB T sys j
theorem nn (T:TM) (sys:List Sy) (j:Nat):(T.turn sys j).ws=T.ws:=by unfold TM.ws; rw [(lB T sys j).1,(lB T sys j).2]
theorem uW (T:TM) (sys:List Sy) (j:Nat):(T.turn sys j).n=T.n:=by unfold TM.n; rw [nn]
theorem iZ (T:TM) (sys:List Sy) (j:Nat):(T.turn sys j).k=T.k:=by unfold TM.k; rw [(lB T sys j).2]
theorem rA (T:TM) (sys:List Sy):∀ j,(T.turn sys j).ds.length=T.ds.length + j
 | 0=>rfl
 | j + 1=>by
  show ((T.turn sys j).ds++[_]).length=_
  rw [Lz,rA T sys j]
  rfl
theorem wz {T:TM} (h:T.Ok) (sys:List Sy):∀ j,(T.turn sys j).Ok
 | 0=>h
 | j + 1=>(wz h sys j).word fun x hx=>by rw [iZ]; exact MY.mp hx
theorem Aa {T:TM} (h:T.Ok) (s:Sy):(T.word (Lv T.k) s).vw=T.vw.map fun v=>d7 v (blA T.n (T.tr s)):=by
 show lrn T.vw (Lv T.k) _=_
 rw [<-h.len,IC]
theorem BJ {T:TM} (h:T.Ok) (sys:List Sy) (j:Nat):(T.turn sys (j + 1)).vw=(T.turn sys j).vw.map fun v=>d7 v (blA T.n (T.told sys j)):=by
 have:=Aa (wz h sys j) (dv sys j)
 rw [iZ,uW] at this
 exact this
theorem Len.uniq {T:TM} {sys:List Sy} {a b L M:Nat} (h1:T.Len sys a L) (h2:T.Len sys b M):M<=L\/(L=a/\a<=M):=by
 by_cases z:M<=L
 ·exact .inl z
 ·rcases h1.st with e | e
  ·exact .inr ⟨e,by omega⟩
  ·have:=h2.go L (by omega)
   omega
theorem Ab {T U:TM} (h1:T.ws=U.ws) (h2:T.vw=U.vw) (s:Sy):T.tr s=U.tr s:=by
 unfold TM.tr TM.n
 rw [h1,h2]
end
noncomputable def Gm:R2:=fun x y H Q=>∃ a b vs ws,x=.ref a/\y=.ref b/\cD H a vs/\cD H b ws/\Q (.bl (decide (vs=ws))) H
theorem KL {a b:Addr} {vs ws:List (List Nat)} {H:Hp} {Q:VK} (h1:cD H a vs) (h2:cD H b ws) (q:Q (.bl (decide (vs=ws))) H):Gm (.ref a) (.ref b) H Q:=⟨a,b,vs,ws,rfl,rfl,h1,h2,q⟩
noncomputable def yE:List V->Hp->VK->Prop:=fun xs H Q=>∃ (p:Addr) (n:Nat),xs=[.ref p]/\H p=some (.rng 0 (n:Int))/\n<=1000000/\New H (.tup ((Lv n).map fun (i:Nat)=>V.int ((i:Nat):Int))) fun p H2=>Q (.ref p) H2
noncomputable def CH (ta:TA):TE:=tCB yE (aa (tCB Cv ta) af)
theorem Ht {H:Hp} {Q:VK} {n:Nat} (hn:n<=1000000) (h:New H (.tup ((Lv n).map fun (i:Nat)=>V.int ((i:Nat):Int))) fun p H2=>Q (.ref p) H2):New H (.rng 0 (n:Int)) fun p H2=>yE [.ref p] H2 Q:=
 fun p H' _ s e=>⟨p,n,rfl,e,hn,fun l H2 hl s2 e2=>h l H2 (s.free hl) (s.trans s2) e2⟩
theorem E2 {σ:St} {H:Hp} {Q:VK} {ta:TA} (h:ta σ H fun vs H1=>∃ n:Nat,vs=[.int (n:Int)]/\n<=1000000/\New H1 (.rng 0 (n:Int)) fun p H2=>yE [.ref p] H2 Q):CH ta σ H Q:=h
noncomputable def Its (n:Nat):It:=⟨fun i _=>i < n,fun i H x H'=>H'=H/\x=.int (2 * i),fun i _=>n<=i⟩
noncomputable def CI (ta:TA):TI:=fun σ H R=>ta σ H fun vs H1=>∃ i:Int,vs=[.int 0,.int i,.int 2]/\0<=i/\i < 1000000/\R (Its ((i + 1) / 2).toNat) H1
theorem IH {ta:TA} {σ:St} {H:Hp} {R:It->Hp->Prop} (h:ta σ H fun vs H1=>∃ i:Int,vs=[.int 0,.int i,.int 2]/\0<=i/\i < 1000000/\R (Its ((i + 1) / 2).toNat) H1):CI ta σ H R:=h
section
variable {g:CF TG} {tt:CF TT} {te:CF TE} {σ₀:St} {Q:VK} {H:Hp} {K:Fg}
theorem II {j:Nat} (m:Nat) (hm:m=(j + 1) / 2) (hj:j<=100000) (R:Nat->List V->Hp->Prop) (h0:∀ H',am H H'->R 0 [] H')
  (hs:∀ p,H p=none->∀ C s' H' fp,∀ i acc H2,i < m->bi H p R i acc H2->g C s' H' fp (.int ((2 * i:Nat):Int)) σ₀ H2 fun σ2 H3=>tt C s' H' fp σ2 H3 fun b H4=>if b=true then te C s' H' fp σ2 H4 fun y H5=>H5 p=some (.lst acc)/\bi H p R (i + 1) (acc++[y]) (upd H5 p (.lst (acc++[y]))) else bi H p R (i + 1) acc H4)
  (hd:∀ p acc H2,H p=none->am H H2->H2 p=some (.lst acc)->R m acc H2->Q (.ref p) H2):
  ∃ i:Int,[V.int 0,V.int (j:Int),V.int 2]=[.int 0,.int i,.int 2]/\0<=i/\i < 1000000/\∀ p,H p=none->∃ W:Nat->Nat->List V->Hp->Prop,(∃ m,W 0 m [] (upd H p (.lst [])))/\∀ C s' H' fp,cg (Its ((i + 1) / 2).toNat) (g C s' H' fp) (tt C s' H' fp) (te C s' H' fp) σ₀ p Q W:=by
 refine ⟨(j:Int),rfl,by omega,by omega,fun p hp=>?_⟩
 have em:(((j:Int) + 1) / 2).toNat=m:=by omega
 rw [em]
 exact kP (Y:=fun i H x H1=>H1=H/\x=.int (2 * (i:Int))) (bi H p R) ⟨aW hp _,ay,Le _,h0 _ (aW hp _)⟩ (fun i acc H2 _ c=>⟨c.2.1,c.2.2.1⟩) (by rw [Ll]; omega) (fun i acc H hi w=>hi) (fun acc H w=>Le _) (fun i acc H x H1 hi w y=>y) (fun C s' H' fp i x acc H2 H1 hi w y=>by
   obtain ⟨e,e2⟩:=y
   subst e e2
   exact hs p hp C s' H' fp i acc _ hi w) fun acc H2 c=>hd p acc H2 hp c.1 c.2.1 c.2.2.2
end
section
open KF
noncomputable def tE (H:Hp) (p:Addr) (sys:List Sy):Prop:=∃ xs:List V,H p=some (.lst xs)/\Paired (aK H) xs sys
theorem tE.same {H H':Hp} {p:Addr} {sys:List Sy} (h:tE H p sys) (s:am H H'):tE H' p sys:=let ⟨xs,e,q⟩:=h; ⟨xs,s _ _ e,Paired.mapP q fun _ _ z=>z.keep s.keep⟩
theorem mw {sys:List Sy} {j:Nat} (h:0 < sys.length):sys[j % sys.length]?=some (dv sys j):=by
 unfold dv
 rw [Lo,Ld (Si _ h)]
 rfl
theorem mT {α β:Type} {F:α->β->Prop}:∀ {xs:List α} {ys:List β} {i:Nat} {y:β},Paired F xs ys->ys[i]?=some y->∃ x,xs[i]?=some x/\F x y
 | _,_,_,_,.nil,e=>by simp at e
 | _,_,0,_,.cons r _,e=>by simp at e; subst e; exact ⟨_,rfl,r⟩
 | _,_,i + 1,y,.cons _ t,e=>by
  obtain ⟨u,h1,h2⟩:=mT (i:=i) (y:=y) t (by simpa using e)
  exact ⟨u,by simpa using h1,h2⟩
noncomputable def Ac (H0 H:Hp) (p:Addr) (n:Nat) (f:Nat->Nat->Prop) (L:Nat):Prop:=∃ rs:List Addr,H p=some (.lst (rs.map V.ref))/\Paired (fun (r:Addr) (i:Nat)=>H r=some (.lst (blV n (f i)))/\r≠p/\H0 r=none) rs (Lv L)
noncomputable def kS (_:Fg) (G:GF):Sp:=fun vs H Q _=>∃ (M:List Addr) (x pv pe sl:Addr) (T:TM) (sys:List Sy) (turns:Nat),vs=[.ref x,.ref sl,.int turns]/\Tb G M H x pv pe T/\tE H sl sys/\0 < sys.length/\(∀ s∈sys,s.Ok T.c T.k/\s.words<=30)/\turns<=100/\T.ds.length<=500/\
 ∀ (p:Addr) (L:Nat) H',H p=none->am H H'->Ac H H' p T.n (T.told sys) L->T.Len sys turns L->Q (.ref p) H'
noncomputable def uX (K:Fg) (G:GF):TS:=(ar (aH (fj G.Table "again" (gG K G) [] E0 (ab 0) af) (ao 3))
 (ar (aH (CH (aa (du K (ab 3) "hands") af)) (ao 4))
 (ar (aH (fv af) (ao 5))
 (ar (aH (tC (.int 0)) (ao 6))
 (ar (kZ (yY (aY (tOp (rI0 fun i j=>.bl (decide (i < j))) (tCB (b9 K) (aa (ab 5) af)) (ab 2))) (aY (tOp (rI0 fun i j=>.bl (decide (i < j))) (ab 6) (tCB (b9 K) (aa (ab 1) af))))) (ar (aH (tCB (iI K) (aa (du K (ab 3) "views") af)) (ao 7))
 (ar (dR (tBM K "list" fK (ab 5) (aa (fj G.Table "word" (fC K G) [] E0 (ab 3) (aa (ab 4) (aa (tOp (cV K) (ab 1) (tOp (rI (fun _ j=>0 < j) fun i j=>.int (i % j)) (tCB (b9 K) (aa (ab 5) af)) (tCB (b9 K) (aa (ab 1) af)))) af))) af)))
 (aH (tIf (aY (tOp Gm (du K (ab 3) "views") (ab 7))) (tOp (rI0 fun i j=>.int (i + j)) (ab 6) (tC (.int 1))) (tC (.int 0))) (ao 6)))))
 (aJ (ab 5)))))))
noncomputable abbrev J9:List Str:=["table","sayings","turns","own","everyone","told","still","before"]
theorem IJ {K:Fg} {G:GF} (ct:oz K G.Table) {vs:List V} {H:Hp} {Q:VK} {E:XK} (h:kS K G vs H Q E):uX K G { nx:=fun _ H'=>Q .non H',rt:=Q } (start J9 vs) H:=by
 obtain ⟨M,x,pv,pe,sl,T,sys,turns,rfl,t,hsl,h0,hsys,ht,hds,q⟩:=h
 have hk5:T.k<=5:=t.ok.pk.l5
 show uX K G _ [some _,some _,some _,none,none,none,none,none] _
 unfold uX
 walk_at "rd"
 obtain ⟨dx1,fs1,hx1,hl1⟩:=t.at "again" (by decide +kernel) (by decide +kernel) (by decide +kernel) (by decide +kernel) (by decide +kernel) (by decide +kernel)
 refine gW ?_
 walk_at "rd"
 refine ⟨x,dx1,fs1,rfl,hx1,hl1,?_⟩
 walk_at "rd"
 refine ⟨M,x,pv,pe,T,rfl,t,fun x' pv' pe' H1 hx' hpv' hpe' s1 t1=>?_⟩
 walk_at "rd"
 refine E2 ?_
 walk_at "rd"
 refine cG ?_
 walk_at "rd"
 obtain ⟨dx,pd,ps,qs,es,X⟩:=t1.ex
 refine ⟨x',G.Table,dx,_,_,rfl,X.hx,ct.cl,ct.n4,rfl,?_⟩
 walk_at "rd"
 refine ⟨T.k,rfl,by omega,Ht (by omega) fun tp H2 htp s2 e2=>?_⟩
 have e2':H2 tp=some (.tup (av (Lv T.k))):=e2
 walk_at "rd"
 refine ⟨by simp [Ll],fun p H3 hp s3 e3=>?_⟩
 walk_at "rd"
 have t3:Tb G (p :: pv' :: pe' :: M) H3 x' pv' pe' T:=(t1.same s2).grow (N:=[p]) s3 (fun b hb=>by rw [Lg.mp hb]; exact hp) (fun b hb=>by rw [Lg.mp hb,e3]; exact fun z=>nomatch z)
 have s13:=(s1.trans s2).trans s3
 have hp0:H p=none:=s1.free (s2.free hp)
 have npv:pv'≠p:=fun z=>by
  have:=(t1.same s2).al pv' Lj
  rw [z] at this
  exact this hp
 have npe:pe'≠p:=fun z=>by
  have:=(t1.same s2).al pe' (Ln _ Lj)
  rw [z] at this
  exact this hp
 obtain ⟨xs,exs,hxs⟩:=hsl
 have lxs:xs.length=sys.length:=L6 hxs
 have new3:∀ b∈[p,pv',pe'],H b=none:=fun b hb=>by
  rcases Lh.mp hb with z | z
  ·rw [z]; exact hp0
  ·rcases Lh.mp z with z | z
   ·rw [z]; exact hpv'
   ·rw [Lg.mp z]; exact hpe'
 refine yB (fun m σ H4=>∃ (j:Nat) (u:Option V) (rs:List Addr),m=turns - j/\j<=turns/\σ=[some (.ref x),some (.ref sl),some (.int turns),some (.ref x'),some (.ref tp),some (.ref p),some (.int (T.still sys j:Nat)),u]/\am H H4/\H4 tp=some (.tup (av (Lv T.k)))/\Tb G (p :: pv' :: pe' :: M) H4 x' pv' pe' (T.turn sys j)/\H4 p=some (.lst (rs.map V.ref))/\Paired (fun (r:Addr) (i:Nat)=>H4 r=some (.lst (blV T.n (T.told sys i)))/\r∉p :: pv' :: pe' :: M/\H r=none) rs (Lv j)/\∀ i,i < j->T.still sys i < sys.length) turns ⟨0,none,[],by omega,Me _,rfl,s13,s3 _ _ e2',t3,e3,.nil,fun i hi=>absurd hi (Oy _)⟩ ?_
 rintro m σ H4 ⟨j,u,rs,rfl,hj,rfl,s4,e4,t4,ep4,p4,hgo⟩
 have lrs:rs.length=j:=by rw [L6 p4,Mz]
 walk_at "rd"
 rw [Lf,lrs]
 have fin:(j=turns\/sys.length<=T.still sys j)->Q (.ref p) H4:=fun z=>q p j H4 hp0 s4 ⟨rs,ep4,Paired.mapP p4 fun r i ⟨z1,z2,z3⟩=>⟨z1,fun y=>z2 (by rw [y]; exact Lj),z3⟩⟩ ⟨hj,hgo,z⟩
 refine cC (fun c1=>?_) (fun c1=>?_)
 ·walk_at "rd"
  refine fS (ys:=xs) (SqL.of (s4 _ _ exs)) ?_
  walk_at "rd"
  rw [lxs]
  refine cC (fun c2=>?_) (fun c2=>?_)
  ·refine yA ?_
   have hjt:j < turns:=by omega
   have hst:T.still sys j < sys.length:=by omega
   walk_at "rd"
   refine cG ?_
   walk_at "rd"
   obtain ⟨dx4,pd4,ps4,qs4,es4,X4⟩:=t4.ex
   refine ⟨x',G.Table,dx4,_,_,rfl,X4.hx,ct.cl,ct.n5,rfl,?_⟩
   walk_at "rd"
   refine li (SqL.of X4.vs) fun b H5 hb s5 e5=>?_
   have t5:=t4.same s5
   walk_at "rd"
   refine ⟨.inl ⟨rfl,_,SqL.of (s5 _ _ ep4)⟩,?_⟩
   walk_at "rd"
   obtain ⟨dx5,fs5,hx5,hl5⟩:=t5.at "word" (by decide +kernel) (by decide +kernel) (by decide +kernel) (by decide +kernel) (by decide +kernel) (by decide +kernel)
   refine gW ?_
   walk_at "rd"
   refine ⟨x',dx5,fs5,rfl,hx5,hl5,?_⟩
   walk_at "rd"
   refine fS (ys:=rs.map V.ref) (SqL.of (s5 _ _ ep4)) ?_
   walk_at "rd"
   refine fS (ys:=xs) (SqL.of (s5 _ _ (s4 _ _ exs))) ?_
   walk_at "rd"
   rw [Lf,lrs,lxs]
   obtain ⟨v,hv,iv⟩:=mT hxs (mw (sys:=sys) (j:=j) h0)
   rw [show ((j:Int) % (sys.length:Int))=((j % sys.length:Nat):Int) from rfl]
   refine ce (SqL.of (s5 _ _ (s4 _ _ exs))) (cB hv) ?_
   walk_at "rd"
   obtain ⟨ok1,ok2⟩:=hsys (dv sys j) (Lw (mw h0))
   have hdj:=rA T sys j
   refine ⟨_,x',pv',pe',tp,T.turn sys j,Lv T.k,v,dv sys j,rfl,t5,s5 _ _ e4,OF,fun h hh=>by rw [iZ]; exact MY.mp hh,iv.keep (s4.trans s5).keep,by rw [iZ,(lB T sys j).1]; exact ok1,ok2,by omega,fun p6 H6 hp6 k6 e6 t6=>?_⟩
   rw [uW] at e6
   walk_at "rd"
   have n6:p∉[pv',pe']:=fun z=>by
    rcases Lh.mp z with z | z
    ·exact npv z.symm
    ·exact npe (Lg.mp z).symm
   have ep6:=k6.lst n6 (s5 _ _ ep4)
   refine ii ep6 (by rw [Lf,Ll]; omega) fun H7 o7 e7=>?_
   have k7:Kp [p] H6 H7:=(Kp.of (am.refl H6)).off ep6 (Lg.mpr rfl) o7 e7
   have t7:=t6.kp k7 (fun b hb=>by rw [Lg.mp hb]; exact Lj) (fun z=>npv (Lg.mp z)) (fun z=>npe (Lg.mp z))
   have p6M:p6∉p :: pv' :: pe' :: M:=t5.off hp6
   have k57:Kp [p,pv',pe'] H5 H7:=(k6.mono fun b hb=>Ln _ hb).trans (k7.mono fun b hb=>by rw [Lg.mp hb]; exact Lj)
   have sub3:∀ b∈[p,pv',pe'],b∈p :: pv' :: pe' :: M:=fun b hb=>by
    rcases Lh.mp hb with z | z
    ·rw [z]; exact Lj
    ·rcases Lh.mp z with z | z
     ·rw [z]; exact Ln _ Lj
     ·rw [Lg.mp z]; exact Ln _ (Ln _ Lj)
   have bM:b∉p :: pv' :: pe' :: M:=t4.off hb
   walk_at "rd"
   refine cG ?_
   walk_at "rd"
   obtain ⟨dx7,pd7,ps7,qs7,es7,X7⟩:=t7.ex
   refine ⟨x',G.Table,dx7,_,_,rfl,X7.hx,ct.cl,ct.n5,rfl,?_⟩
   walk_at "rd"
   have vb:cD H7 b (T.turn sys j).vw:=⟨qs4,k57.lst (fun z=>bM (sub3 _ z)) e5,Paired.mapP X4.qv fun _ _ ⟨z1,z2⟩=>k57.lst (fun z=>z2 (sub3 _ z)) (s5 _ _ z1)⟩
   have vn:cD H7 pv' (T.turn sys (j + 1)).vw:=⟨qs7,X7.vs,Paired.mapP X7.qv fun _ _ z=>z.1⟩
   refine KL vn vb ?_
   have s7:am H H7:=k57.new (s4.trans s5) new3
   have done:∀ z:Nat,z=T.still sys (j + 1)->∃ m',m' < turns - j/\∃ (j':Nat) (u:Option V) (rs:List Addr),m'=turns - j'/\j'<=turns/\[some (.ref x),some (.ref sl),some (.int turns),some (.ref x'),some (.ref tp),some (.ref p),some (.int (z:Nat)),some (.ref b)]=[some (.ref x),some (.ref sl),some (.int turns),some (.ref x'),some (.ref tp),some (.ref p),some (.int (T.still sys j':Nat)),u]/\am H H7/\H7 tp=some (.tup (av (Lv T.k)))/\Tb G (p :: pv' :: pe' :: M) H7 x' pv' pe' (T.turn sys j')/\H7 p=some (.lst (rs.map V.ref))/\Paired (fun (r:Addr) (i:Nat)=>H7 r=some (.lst (blV T.n (T.told sys i)))/\r∉p :: pv' :: pe' :: M/\H r=none) rs (Lv j')/\∀ i,i < j'->T.still sys i < sys.length:=by
    intro z hz
    refine ⟨turns - (j + 1),by omega,j + 1,some (.ref b),rs++[p6],rfl,hjt,by rw [hz],s7,k57.tup (s5 _ _ e4),t7,by rw [e7,LI]; rfl,?_,fun i hi=>?_⟩
    ·rw [N2]
     refine qD (Paired.mapP p4 fun r i ⟨z1,z2,z3⟩=>⟨k57.lst (fun y=>z2 (sub3 _ y)) (s5 _ _ z1),z2,z3⟩) ⟨k7.lst (fun y=>p6M (by rw [Lg.mp y]; exact Lj)) e6,p6M,(s4.trans s5).free hp6⟩
    ·by_cases y:i=j
     ·rw [y]; exact hst
     ·exact hgo i (by omega)
   by_cases c3:(T.turn sys (j + 1)).vw=(T.turn sys j).vw
   ·rw [decide_eq_true c3]
    walk_at "rd"
    refine done (T.still sys j + 1) ?_
    show _=if _ then _ else _
    rw [if_pos c3]
   ·rw [decide_eq_false c3]
    walk_at "rd"
    refine done 0 ?_
    show _=if _ then _ else _
    rw [if_neg c3]
  ·walk_at "rd"
   exact fin (.inr (by omega))
 ·walk_at "rd"
  exact fin (.inl (by omega))
end
section
variable {K:Fg} {vs:List V} {H:Hp} {Q:VK} {E:XK}
open KF
set_option genInjectivity false in
inductive Dd where
 | word (g:List Nat) (s:Sy)
 | show (i:Nat) (h:Int) (ns:List Int)
noncomputable def uY (N:Addr->Prop) (H:Hp) (v:V):Dd->Prop
 | .word g s=>∃ a b x,v=.ref a/\H a=some (.tup [.str "word",.ref b,x])/\H b=some (.tup (av g))/\aK H x s
 | .show i h ns=>∃ a l,v=.ref a/\H a=some (.tup [.str "show",.int i,.int h,.ref l])/\H l=some (.lst (ns.map V.int))/\N l
noncomputable def Dd.Ok (c k:Nat):Dd->Prop
 | .word g s=>g.Pairwise (· < ·)/\(∀ h∈g,h < k)/\s.Ok c k/\s.words<=14
 | .show i h ns=>i < k/\0<=h/\h<=k/\ns.length < 6/\∀ n∈ns,0<=n/\n < c
noncomputable def TM.deed (T:TM):Dd->TM
 | .word g s=>T.word g s
 | .show i h ns=>T.show i h ns
noncomputable def TM.dtold (T:TM):Dd->List V
 | .word g s=>blV T.n (T.tr s)
 | .show i h ns=>(j5 T.ws h ns).map iaR
theorem uY.to {N N':Addr->Prop} {H H':Hp} {v:V} {d:Dd} (h:uY N H v d) (k:fq H H') (f:∀ l xs,N l->H l=some (.lst xs)->H' l=some (.lst xs)/\N' l):uY N' H' v d:=by
 cases d with
 | word g s=>obtain ⟨a,b,x,e,h1,h2,h3⟩:=h; exact ⟨a,b,x,e,k _ _ h1,k _ _ h2,h3.keep k⟩
 | «show» i hh ns=>obtain ⟨a,l,e,h1,h2,h3⟩:=h; exact ⟨a,l,e,k _ _ h1,(f _ _ h3 h2).1,(f _ _ h3 h2).2⟩
theorem E3 (T:TM) (d:Dd):(T.deed d).c=T.c/\(T.deed d).ss=T.ss:=by cases d <;> exact ⟨rfl,rfl⟩
theorem IL (T:TM) (d:Dd):(T.deed d).ds.length=T.ds.length + 1:=by
 cases d <;> (show (T.ds++[_]).length=_; rw [Lz]; rfl)
noncomputable def lC (K:Fg):Sp:=fun vs H Q _=>∃ (a:Addr) (ns:List Int) (at_:Int) (c k:Nat),vs=[.ref a,.int at_,.int c,.int k]/\fo K H a ns/\0<=at_/\at_<=900/\1<=k/\k<=5/\
 ∀ (v:V) (d:Dd) H',am H H'->uY (fun l=>H l=none) H' v d->d.Ok c k->Q v H'
noncomputable def jP (K:Fg):TS:=(ar (aH (au (aZ K) [] E0 (aa (ab 0) (aa (ab 1) af))) (ao 4))
 (ar (bz (tOr (aY (tOp (rI0 fun i j=>.bl (decide (j < i))) (tOp (rI (fun _ j=>0 < j) fun i j=>.int (i % j)) (ab 4) (tC (.int 3))) (tC (.int 0)))) (aY (tOp rEq (ab 2) (tC (.int 0))))) (aJ (ci (aa (tC (.str "word")) (aa (au (dm K) [] E0 (aa (tOp (rI eU fun i j=>.int (i / j)) (ab 4) (tC (.int 3))) (aa (ab 3) af))) (aa (au (eY K) [] E0 (aa (ab 0) (aa (tOp (rI0 fun i j=>.int (i + j)) (ab 1) (tC (.int 1))) (aa (ab 2) (aa (ab 3) (aa (tC (.int 14)) af)))))) af))))) bf)
 (ar (aH (bV (eN (aa (tOp (rI (fun _ j=>0 < j) fun i j=>.int (i % j)) (au (aZ K) [] E0 (aa (ab 0) (aa (tOp (rI0 fun i j=>.int (i + j)) (ab 1) (tC (.int 2))) af))) (tC (.int 6))) af)) (fun _ _ _ _=>(ao 0)) (fun _ _ _ _=>bH) (fun _ _ _ _=>(tOp (rI (fun _ j=>0 < j) fun i j=>.int (i % j)) (au (aZ K) [] E0 (aa (ab 2) (aa (tOp (rI0 fun i j=>.int (i + j)) (tOp (rI0 fun i j=>.int (i + j)) (ab 3) (tC (.int 3))) (ab 0)) af))) (ab 1))) [none,some 2,some 0,some 1]) (ao 5))
 (aJ (ci (aa (tC (.str "show")) (aa (tOp (rI (fun _ j=>0 < j) fun i j=>.int (i % j)) (tOp (rI eU fun i j=>.int (i / j)) (ab 4) (tC (.int 3))) (ab 3)) (aa (tOp (rI (fun _ j=>0 < j) fun i j=>.int (i % j)) (tOp (rI eU fun i j=>.int (i / j)) (ab 4) (tC (.int 21))) (tOp (rI0 fun i j=>.int (i + j)) (ab 3) (tC (.int 1)))) (aa (ab 5) af)))))))))
theorem Ad (h:lC K vs H Q E):jP K { nx:=fun _ H'=>Q .non H',rt:=Q } (start ["_law_script","_law_at","_law_cards","_law_hands","_law_cell_here","_law_some"] vs) H:=by
 obtain ⟨a,ns,at_,c,k,rfl,hSc,ha0,ha1,hk1,hk5,q⟩:=h
 show jP K _ [some _,some _,some _,some _,none,none] _
 unfold jP
 refine bu ?_
 walk_at "rs"
 refine ⟨a,ns,at_,rfl,hSc,by omega,by omega,?_⟩
 walk_at "rs"
 refine m6 fun NX hNX=>?_
 have wordy:aJ (ci (aa (tC (.str "word")) (aa (au (dm K) [] E0 (aa (tOp (rI eU fun i j=>.int (i / j)) (ab 4) (tC (.int 3))) (aa (ab 3) af))) (aa (au (eY K) [] E0 (aa (ab 0) (aa (tOp (rI0 fun i j=>.int (i + j)) (ab 1) (tC (.int 1))) (aa (ab 2) (aa (ab 3) (aa (tC (.int 14)) af)))))) af)))) { nx:=NX,rt:=Q } [some (.ref a),some (.int at_),some (.int c),some (.int k),some (.int (br ns at_)),none] H:=by
  walk_at "rd"
  refine ⟨_,k,rfl,hk5,fun tp g H1 s1 e1 pw hb=>?_⟩
  walk_at "rd"
  refine ⟨a,ns,at_ + 1,c,k,14,rfl,hSc.same s1,by omega,by omega,hk1,hk5,by decide,by decide,fun v s H2 s2 hS hok hw=>?_⟩
  walk_at "rd"
  refine ⟨by simp [Ll],fun t3 H3 ht3 s3 e3=>?_⟩
  exact q _ (.word g s) H3 ((s1.trans s2).trans s3) ⟨t3,tp,v,rfl,e3,s3 _ _ (s2 _ _ e1),hS.keep s3.keep⟩ ⟨pw,hb,hok,hw⟩
 walk_at "rs"
 refine cC (fun c1=>?_) (fun c1=>?_)
 ·exact wordy
 ·walk_at "rs"
  refine cC (fun c2=>?_) (fun c2=>?_)
  ·exact wordy
  ·have c0:0 < c:=by omega
   walk_at "rs"
   refine hNX _ _ ?_
   walk_at "rd"
   refine ⟨a,ns,at_ + 2,rfl,hSc,by omega,by omega,?_⟩
   walk_at "rd"
   obtain ⟨mn,hmn,hmn6⟩:∃ mn:Nat,br ns (at_ + 2) % 6=(mn:Int)/\mn < 6:=⟨(br ns (at_ + 2) % 6).toNat,by omega,by omega⟩
   rw [hmn]
   refine nZ mn (by omega) (by omega) (by omega) (fun j acc _=>∃ ms:List Int,acc=ms.map V.int/\ms.length=j/\∀ n∈ms,0<=n/\n < (c:Int)) (fun _ _=>⟨[],rfl,rfl,fun _ z=>nomatch z⟩) ?_ ?_
   ·rintro p' hp' C s' H' fp j acc H8 hj ⟨s8,e8,l8,ms,rfl,lm,hms⟩
    walk_at "rd"
    refine ⟨a,ns,at_ + 3 + (j:Int),rfl,hSc.same s8,by omega,by omega,?_⟩
    walk_at "rd"
    refine bi.put hp' (fun _ _ _ _ r _=>r) s8 e8 l8 ⟨ms++[br ns (at_ + 3 + (j:Int)) % (c:Int)],by rw [LI]; rfl,by simp [lm],fun n hn=>?_⟩
    rcases LU.mp hn with z | z
    ·exact hms n z
    ·rw [Lg.mp z]
     exact ⟨N1 _ (by omega),NG _ (by omega)⟩
   ·rintro l acc H2 hl s2 e2 ⟨ms,rfl,lm,hms⟩
    walk_at "rd"
    obtain ⟨i,hi,hik⟩:=kH (br ns at_ / 3) (m:=(k:Int)) (by omega)
    rw [hi]
    refine ⟨by simp [Ll],fun t3 H3 ht3 s3 e3=>?_⟩
    exact q _ (.show i (br ns at_ / 21 % ((k:Int) + 1)) ms) H3 (s2.trans s3) ⟨t3,l,rfl,e3,s3 _ _ e2,hl⟩ ⟨by omega,N1 _ (by omega),by have:=NG (br ns at_ / 21) (show 0 < (k:Int) + 1 by omega); omega,by omega,hms⟩
noncomputable def lD (_:Fg) (G:GF):Sp:=fun vs H Q _=>∃ (M:List Addr) (x pv pe:Addr) (T:TM) (v:V) (d:Dd),vs=[.ref x,v]/\Tb G M H x pv pe T/\uY (fun l=>l∉M) H v d/\d.Ok T.c T.k/\T.ds.length < 1000/\
 ∀ p H',H p=none->Kp [pv,pe] H H'->H' p=some (.lst (T.dtold d))->Tb G M H' x pv pe (T.deed d)->Q (.ref p) H'
noncomputable def jQ (K:Fg) (G:GF):TS:=(ar (bz (aY (tOp rEq (tOp (cJ K) (ab 1) (tC (.int 0))) (tC (.str "word")))) (aJ (fj G.Table "word" (fC K G) [] E0 (ab 0) (aa (tOp (cJ K) (ab 1) (tC (.int 1))) (aa (tOp (cJ K) (ab 1) (tC (.int 2))) af)))) bf)
 (aJ (fj G.Table "show" (kg K G) [] E0 (ab 0) (aa (tOp (cJ K) (ab 1) (tC (.int 1))) (aa (tOp (cJ K) (ab 1) (tC (.int 2))) (aa (tCB (iI K) (aa (tOp (cJ K) (ab 1) (tC (.int 3))) af)) af))))))
noncomputable abbrev A9:List Str:=["_law_table","_law_deed_here"]
theorem Ae {K:Fg} {G:GF} {vs:List V} {H:Hp} {Q:VK} {E:XK} (h:lD K G vs H Q E):jQ K G { nx:=fun _ H'=>Q .non H',rt:=Q } (start A9 vs) H:=by
 obtain ⟨M,x,pv,pe,T,v,d,rfl,t,hd,ok,hds,q⟩:=h
 show jQ K G _ [some _,some _] _
 unfold jQ
 cases d with
 | word g s=>
  obtain ⟨a,b,y,rfl,h1,h2,h3⟩:=hd
  obtain ⟨o1,o2,o3,o4⟩:=ok
  walk_at "rd"
  refine bp (SqT.of h1) (i:=0) rfl ?_
  walk_at "rd"
  refine dW rfl ?_
  walk_at "rd"
  obtain ⟨dx1,fs1,hx1,hl1⟩:=t.at "word" (by decide +kernel) (by decide +kernel) (by decide +kernel) (by decide +kernel) (by decide +kernel) (by decide +kernel)
  refine gW ?_
  walk_at "rd"
  refine ⟨x,dx1,fs1,rfl,hx1,hl1,?_⟩
  walk_at "rd"
  refine bp (SqT.of h1) (i:=1) rfl ?_
  walk_at "rd"
  refine bp (SqT.of h1) (i:=2) rfl ?_
  walk_at "rd"
  exact ⟨M,x,pv,pe,b,T,g,y,s,rfl,t,h2,o1,o2,h3,o3,by omega,hds,q⟩
 | «show» i hh ns=>
  obtain ⟨a,l,rfl,h1,h2,h3⟩:=hd
  obtain ⟨o1,o2,o3,o4,o5⟩:=ok
  walk_at "rd"
  refine bp (SqT.of h1) (i:=0) rfl ?_
  walk_at "rd"
  refine aU (by decide) ?_
  walk_at "rd"
  obtain ⟨dx1,fs1,hx1,hl1⟩:=t.at "show" (by decide +kernel) (by decide +kernel) (by decide +kernel) (by decide +kernel) (by decide +kernel) (by decide +kernel)
  refine gW ?_
  walk_at "rd"
  refine ⟨x,dx1,fs1,rfl,hx1,hl1,?_⟩
  walk_at "rd"
  refine bp (SqT.of h1) (i:=1) rfl ?_
  walk_at "rd"
  refine bp (SqT.of h1) (i:=2) rfl ?_
  walk_at "rd"
  refine bp (SqT.of h1) (i:=3) rfl ?_
  walk_at "rd"
  refine li (SqL.of h2) fun l1 H1 hl1' s1 e1=>?_
  walk_at "rd"
  exact ⟨M,x,pv,pe,l1,T,i,hh,ns,rfl,t.same s1,e1,o1,o2,o3,by omega,o5,hds,fun p H2 hp k2 e2 t2=>q p H2 (s1.free hp) ((Kp.of s1).trans k2) e2 t2⟩
end
section
open KF
theorem IM {T:TM} {sys:List Sy} {a b L M:Nat} (h1:T.Len sys (a + b) L) (h2:T.Len sys a M):M=min a L:=by
 have:=h1.le
 have:=h2.le
 rcases Len.uniq h1 h2 with z | z <;> rcases Len.uniq h2 h1 with y | y <;> omega
noncomputable def oA:Sy:=.or (.sees 0) (.not (.sees 0))
theorem IN (T:TM) (i:Nat):T.tr oA i:=Classical.em _
theorem Ba {T:TM} (h:T.Ok) {P:Nat->Prop} (hp:∀ i,i < T.n->P i) {v:List Nat} (hv:v∈T.vw):d7 v (blA T.n P)=v:=by
 obtain ⟨hl,_⟩:=h.win v hv
 refine Gc (h.can v hv) (by rw [wp]; exact hl) fun i j hi hj _=>?_
 rw [hl] at hi hj
 rw [IB hi hj]
 exact ⟨fun _=>hp j hj,fun _=>hp i hi⟩
theorem E4 {T:TM} (h:T.Ok):(T.word (Lv T.k) oA).vw=T.vw:=by
 rw [Aa h]
 conv=>rhs; rw [<-List.map_id T.vw]
 exact M9 fun v hv=>Ba h (fun i _=>IN T i) hv
noncomputable def btw:List Sy->List Sy
 | []=>[]
 | s :: r=>s :: oA :: btw r
theorem rB:∀ sys,(btw sys).length=2 * sys.length
 | []=>rfl
 | s :: r=>by show (btw r).length + 1 + 1=2 * (r.length + 1); rw [rB r]; omega
theorem Af:∀ (sys:List Sy) (s:Sy),btw (sys++[s])=btw sys++[s,oA]
 | [],_=>rfl
 | a :: r,s=>by show a :: oA :: btw (r++[s])=_; rw [Af r s]; rfl
theorem E5:∀ (sys:List Sy) (i:Nat),i < sys.length->(btw sys)[2 * i]?=sys[i]?/\(btw sys)[2 * i + 1]?=some oA
 | [],i,h=>absurd h (Oy _)
 | s :: r,0,_=>⟨rfl,rfl⟩
 | s :: r,i + 1,h=>by
  have:=E5 r i (by simpa using h)
  rw [show 2 * (i + 1)=2 * i + 1 + 1 by omega]
  exact this
theorem Ag {sys:List Sy} (h:0 < sys.length) (j:Nat):dv (btw sys) (2 * j)=dv sys j/\dv (btw sys) (2 * j + 1)=oA:=by
 unfold dv
 have hm:=Si j h
 obtain ⟨h1,h2⟩:=E5 sys (j % sys.length) hm
 rw [rB,Nat.mul_mod_mul_left,show (2 * j + 1) % (2 * sys.length)=2 * (j % sys.length) + 1 from ?_,Lo,Lo,Lo,h1,h2]
 ·exact ⟨rfl,rfl⟩
 ·conv=>lhs; rw [<-Nat.div_add_mod j sys.length]
  rw [show 2 * (sys.length * (j / sys.length) + j % sys.length) + 1=(2 * (j % sys.length) + 1) + (2 * sys.length) * (j / sys.length) by rw [Nat.mul_add,MX]; omega,Nat.add_mul_mod_self_left]
  exact Nat.mod_eq_of_lt (by omega)
theorem Ah {T:TM} (ok:T.Ok) {sys:List Sy} (h:0 < sys.length):∀ j,(T.turn (btw sys) (2 * j)).vw=(T.turn sys j).vw
 | 0=>rfl
 | j + 1=>by
  have ih:=Ah ok h j
  obtain ⟨e1,e2⟩:=Ag h j
  have hB:=wz ok (btw sys) (2 * j + 1)
  have a:(T.turn (btw sys) (2 * j + 1)).vw=(T.turn sys (j + 1)).vw:=by
   rw [BJ ok,BJ ok,ih]
   have:T.told (btw sys) (2 * j)=T.told sys j:=by
    unfold TM.told
    rw [e1]
    exact Ab (by rw [nn,nn]) ih _
   rw [this]
  show ((T.turn (btw sys) (2 * j + 1)).word (Lv T.k) (dv (btw sys) (2 * j + 1))).vw=_
  rw [e2,<-iZ T (btw sys) (2 * j + 1),E4 hB]
  exact a
theorem Gn {T:TM} (ok:T.Ok) {sys:List Sy} (h:0 < sys.length) (j:Nat):T.told (btw sys) (2 * j)=T.told sys j:=by
 unfold TM.told
 rw [(Ag h j).1]
 exact Ab (by rw [nn,nn]) (Ah ok h j) _
theorem E6 {sys:List Sy} (q j:Nat):dv sys (sys.length * q + j)=dv sys j:=by
 unfold dv
 rw [Nat.mul_add_mod]
theorem BK (T:TM) (sys:List Sy) (q:Nat):∀ j,(T.turn sys (sys.length * q)).turn sys j=T.turn sys (sys.length * q + j)
 | 0=>rfl
 | j + 1=>by
  show ((T.turn sys (sys.length * q)).turn sys j).word (Lv (T.turn sys (sys.length * q)).k) (dv sys j)=(T.turn sys (sys.length * q + j)).word (Lv T.k) (dv sys (sys.length * q + j))
  rw [BK T sys q j,iZ,E6]
theorem IO (T:TM) (sys:List Sy) (q j:Nat):(T.turn sys (sys.length * q)).told sys j=T.told sys (sys.length * q + j):=by
 unfold TM.told
 rw [BK,E6]
end
section
variable {K:Fg} {vs:List V} {H:Hp} {Q:VK} {E:XK}
open KF
theorem eP.same {K:Fg} {H H':Hp} (s:am H H') {n:Nat} {x y:V} (h:eP K H n x y):eP K H' n x y:=by
 induction h with
 | flat h=>exact .flat h
 | lst e1 e2 hl _ ih=>exact .lst (s.seq e1) (s.seq e2) hl ih
 | tup e1 e2 hl _ ih=>exact .tup (s.tup e1) (s.tup e2) hl ih
theorem E7 (xs:List V) (e:Nat->Bool):Cc xs [] e:=fun j x y _ hy=>by simp at hy
theorem Go {K:Fg} {H:Hp} {Q:VK} {a b:Addr} (h1:SqL K H a []) (h2:SqL K H b []) (h:Q (.bl true) H):nX (SqL K) false (.ref a) (.ref b) H Q:=⟨a,b,[],[],fun _=>true,rfl,rfl,h1,h2,E7 _ _,h⟩
noncomputable def hZ (K:Fg):Sp:=fun vs H Q _=>∃ (a b:Addr) (xs ys:List V),vs=[.ref a,.ref b]/\H a=some (.lst xs)/\H b=some (.lst ys)/\xs.length<=1000/\ys.length<=1000/\(∀ (i:Nat) (x y:V),xs[i]?=some x->ys[i]?=some y->eP K H 1 x y)/\∀ H',am H H'->Q (.bl true) H'
noncomputable def i3 (K:Fg):TS:=(aJ (tOp (nX (SqL K) false) (bV (eN (aa (tCB ut (aa (tCB (b9 K) (aa (ab 0) af)) (aa (tCB (b9 K) (aa (ab 1) af)) af))) af)) (fun _ _ _ _=>(ao 0)) (fun _ _ _ _=>(aY (tOp (jX K true) (tOp (cV K) (ab 1) (ab 0)) (tOp (cV K) (ab 2) (ab 0))))) (fun _ _ _ _=>(ab 0)) [none,some 0,some 1]) (fv af)))
theorem xT (h:hZ K vs H Q E):i3 K { nx:=fun _ H'=>Q .non H',rt:=Q } (start ["_law_ones","_law_others"] vs) H:=by
 obtain ⟨a,b,xs,ys,rfl,ea,eb,hx,hy,hs,q⟩:=h
 show i3 K _ [some _,some _] _
 unfold i3
 walk_at "rd"
 obtain ⟨m,hm,hm1,hm2⟩:∃ m:Nat,(if (ys.length:Int) < (xs.length:Int) then (ys.length:Int) else (xs.length:Int))=(m:Int)/\m<=xs.length/\m<=ys.length:=by
  by_cases z:(ys.length:Int) < (xs.length:Int)
  ·exact ⟨ys.length,by rw [if_pos z],by omega,Le _⟩
  ·exact ⟨xs.length,by rw [if_neg z],Le _,by omega⟩
 rw [hm]
 refine nZ m (by omega) (by omega) (by omega) (fun j acc _=>acc=[]) (fun _ _=>rfl) ?_ ?_
 ·rintro p' hp' C s' H' fp j acc H2 hj ⟨s2,e2,l2,rfl⟩
  have hxj:xs[j]?=some (xs[j]'(by omega)):=Ld _
  generalize xs[j]'(by omega)=xj at hxj
  have hyj:ys[j]?=some (ys[j]'(by omega)):=Ld _
  generalize ys[j]'(by omega)=yj at hyj
  walk_at "rd"
  refine ce (SqL.of (s2 _ _ ea)) (cB hxj) ?_
  walk_at "rd"
  refine ce (SqL.of (s2 _ _ eb)) (cB hyj) ?_
  walk_at "rd"
  refine wl 1 (by decide) ((hs j xj yj hxj hyj).same s2) ?_
  walk_at "rd"
  exact bi.skip s2 e2 l2 rfl
 ·rintro p' acc H2 hp' s2 e2 rfl
  walk_at "rd"
  refine ⟨by simp [Ll],fun p3 H3 hp3 s3 e3=>?_⟩
  refine Go (SqL.of (s3 _ _ e2)) (SqL.of e3) ?_
  walk_at "rd"
  exact q H3 (s2.trans s3)
noncomputable def i4 (_:Fg):Sp:=fun vs H Q _=>∃ (a:Addr) (sys:List Sy),vs=[.ref a]/\tE H a sys/\sys.length<=100/\∀ p H',H p=none->am H H'->tE H' p (btw sys)->Q (.ref p) H'
noncomputable def gH (K:Fg):TS:=(ar (aH (fv af) (ao 1))
 (ar (dk (dg K (ab 0)) (ao 2) (ar (dR (tBM K "list" fK (ab 1) (aa (ab 2) af)))
 (dR (tBM K "list" fK (ab 1) (aa (ci (aa (tC (.str "or")) (aa (ci (aa (tC (.str "sees")) (aa (tC (.int 0)) af))) (aa (ci (aa (tC (.str "not")) (aa (ci (aa (tC (.str "sees")) (aa (tC (.int 0)) af))) af))) af)))) af)))))
 (aJ (ab 1))))
theorem uZ (h:i4 K vs H Q E):gH K { nx:=fun _ H'=>Q .non H',rt:=Q } (start ["_law_sayings","_law_found","_law_saying_here"] vs) H:=by
 obtain ⟨a,sys,rfl,⟨xs,ea,hx⟩,hl,q⟩:=h
 show gH K _ [some _,none,none] _
 unfold gH
 have lxs:xs.length=sys.length:=L6 hx
 walk_at "rd"
 refine ⟨by simp [Ll],fun p H1 hp s1 e1=>?_⟩
 walk_at "rd"
 refine kQ xs (SqL.of (s1 _ _ ea)) (fun i σ H2=>∃ (u:Option V) (ys:List V),σ=[some (.ref a),some (.ref p),u]/\am H H2/\H2 p=some (.lst ys)/\Paired (aK H2) ys (btw (sys.take i))) ⟨none,[],rfl,s1,e1,.nil⟩ ?_ ?_ ?_
 ·rintro i σ H2 hi ⟨u,ys,rfl,s2,e2,p2⟩
  exact SqL.of (s2 _ _ ea)
 ·rintro i x σ H2 hxi ⟨u,ys,rfl,s2,e2,p2⟩
  obtain ⟨s,hsi,is⟩:=ck hx hxi
  have hi:i < sys.length:=(Li.mp hsi).1
  have lys:ys.length<=200:=by rw [L6 p2,rB,MF]; omega
  walk_at "rd"
  refine ⟨.inl ⟨rfl,_,SqL.of e2⟩,?_⟩
  walk_at "rd"
  refine ii e2 (by rw [Ll]; omega) fun H3 o3 e3=>?_
  have s3:am H H3:=s2.off hp o3
  have k3:fq H2 H3:=fun b zs e=>(o3 b fun z=>by rw [z,e2] at e; cases e).trans e
  walk_at "rd"
  refine ⟨.inl ⟨rfl,_,SqL.of e3⟩,?_⟩
  walk_at "rd"
  refine ⟨by simp [Ll],fun t4 H4 ht4 s4 e4=>?_⟩
  walk_at "rd"
  refine ⟨by simp [Ll],fun t5 H5 ht5 s5 e5=>?_⟩
  walk_at "rd"
  refine ⟨by simp [Ll],fun t6 H6 ht6 s6 e6=>?_⟩
  walk_at "rd"
  refine ⟨by simp [Ll],fun t7 H7 ht7 s7 e7=>?_⟩
  walk_at "rd"
  have s37:=((s4.trans s5).trans s6).trans s7
  refine ii (s37 _ _ e3) (by rw [Lz,Ll,OK]; omega) fun H8 o8 e8=>?_
  have k8:fq H7 H8:=fun b zs e=>(o8 b fun z=>by rw [z,s37 _ _ e3] at e; cases e).trans e
  have k28:fq H2 H8:=fun b zs e=>k8 _ _ (s37 _ _ (k3 _ _ e))
  refine ⟨_,(ys++[x])++[.ref t7],rfl,(s3.trans s37).off hp o8,e8,?_⟩
  rw [cX hsi,Af,N8]
  have it:aK H8 (.ref t7) oA:=⟨t7,.ref t4,.ref t6,rfl,k8 _ _ e7,⟨t4,rfl,k8 _ _ (s7 _ _ (s6 _ _ (s5 _ _ e4)))⟩,⟨t6,.ref t5,rfl,k8 _ _ (s7 _ _ e6),⟨t5,rfl,k8 _ _ (s7 _ _ (s6 _ _ e5))⟩⟩⟩
  have p8:Paired (aK H8) ys (btw (sys.take i)):=Paired.mapP p2 fun _ _ z=>z.keep k28
  have:=qD (qD p8 ((is.keep s2.keep).keep k28)) it
  rw [N8,N8] at this
  exact this
 ·rintro σ H2 ⟨u,ys,rfl,s2,e2,p2⟩
  rw [lxs,LZ] at p2
  walk_at "rd"
  exact q p H2 hp s2 ⟨ys,e2,p2⟩
theorem Ka (n d k:Nat):HT.sIx n d (some (k:Int))=min k n:=by show (if (k:Int) < 0 then ((k:Int) + (n:Int)).toNat else min (k:Int).toNat n)=_; rw [if_neg (by omega),N9]
theorem Kb (xs:List V) (k:Nat):gP xs none (some (k:Int))=xs.take k:=by
 unfold gP
 rw [show HT.sIx xs.length 0 none=0 from rfl,Ka,List.drop_zero,SW]
 by_cases h:k<=xs.length
 ·rw [Ur h]
 ·rw [Nat.min_eq_right (by omega),LZ,OD (by omega)]
theorem Gp (xs:List V) {k:Nat} (h:k<=xs.length):gP xs (some (k:Int)) none=xs.drop k:=by
 unfold gP
 rw [Ka,Ur h]
 show (xs.drop k).take (xs.length - k)=xs.drop k
 rw [OD (by rw [Pz]; exact Le _)]
theorem Ac.get {H0 H:Hp} {p:Addr} {n:Nat} {f:Nat->Nat->Prop} {L:Nat} (h:Ac H0 H p n f L):∃ xs:List V,H p=some (.lst xs)/\xs.length=L/\∀ (i:Nat) (x:V),xs[i]?=some x->∃ r,x=.ref r/\H r=some (.lst (blV n (f i))):=by
 obtain ⟨rs,e,q⟩:=h
 have lr:rs.length=L:=by rw [L6 q,Mz]
 refine ⟨_,e,by rw [Lf,lr],fun i x hx=>?_⟩
 obtain ⟨r,hr,rfl⟩:=zD hx
 obtain ⟨j,hj,h1,_⟩:=ck q hr
 have hi:i < L:=by rw [<-lr]; exact (Li.mp hr).1
 rw [MJ hi] at hj
 cases hj
 exact ⟨r,rfl,h1⟩
theorem j6 {K:Fg} {H:Hp} {n:Nat} {P P':Nat->Prop} {x y:V} (hx:∃ r,x=.ref r/\H r=some (.lst (blV n P))) (hy:∃ r,y=.ref r/\H r=some (.lst (blV n P'))) (e:P=P'):eP K H 1 x y:=by
 obtain ⟨r,rfl,h1⟩:=hx
 obtain ⟨r',rfl,h2⟩:=hy
 subst e
 exact Cu (SqL.of h1) (SqL.of h2) (F8 _ _)
theorem dC {H H':Hp} (s:am H H') {n:Nat} {P:Nat->Prop} {x:V} (h:∃ r,x=.ref r/\H r=some (.lst (blV n P))):∃ r,x=.ref r/\H' r=some (.lst (blV n P)):=let ⟨r,e,q⟩:=h; ⟨r,e,s _ _ q⟩
theorem BL {P:Sy->Prop}:∀ {sys:List Sy},(∀ s∈sys,P s)->P oA->∀ s∈btw sys,P s
 | [],_,_,s,hs=>nomatch hs
 | a :: r,h,ht,s,hs=>by
  rcases Lh.mp hs with z | z
  ·rw [z]; exact h a Lj
  ·rcases Lh.mp z with z | z
   ·rw [z]; exact ht
   ·exact BL (fun s hs=>h s (Ln _ hs)) ht s z
noncomputable abbrev Kc (K:Fg):Sp:=ur K
noncomputable def yF (K:Fg) (G:GF):TS:=(ar (aH (au (ln K) [] E0 (aa (ab 0) (aa (tC (.int 0)) (aa (tC (.int 60)) af)))) (jn K 2 (cc (ao 1) (cc (ao 2) jm))))
 (ar (aH (tCB (b9 K) (aa (ab 2) af)) (ao 3))
 (ar (aH (ui G.Table (dn K G) [] E0 (aa (ab 1) (aa (ab 2) af))) (ao 4))
 (ar (dk (eN (aa (tOp (rI (fun _ j=>0 < j) fun i j=>.int (i % j)) (au (aZ K) [] E0 (aa (ab 0) (aa (tC (.int 7)) af))) (tC (.int 3))) af)) (ao 5) (dR (au (lD K G) [] E0 (aa (ab 4) (aa (au (lC K) [] E0 (aa (ab 0) (aa (tOp (rI0 fun i j=>.int (i + j)) (tC (.int 36)) (tOp (rI NM fun i j=>.int (i * j)) (tC (.int 10)) (ab 5))) (aa (ab 1) (aa (ab 3) af))))) af)))))
 (ar (aH (bV (eN (aa (tOp (rI0 fun i j=>.int (i + j)) (tC (.int 1)) (tOp (rI (fun _ j=>0 < j) fun i j=>.int (i % j)) (au (aZ K) [] E0 (aa (ab 0) (aa (tC (.int 8)) af))) (tC (.int 3)))) af)) (fun _ _ _ _=>(ao 0)) (fun _ _ _ _=>bH) (fun _ _ _ _=>(au (eY K) [] E0 (aa (ab 1) (aa (tOp (rI0 fun i j=>.int (i + j)) (tC (.int 10)) (tOp (rI NM fun i j=>.int (i * j)) (tC (.int 9)) (ab 0))) (aa (ab 2) (aa (ab 3) (aa (tC (.int 12)) af))))))) [none,some 0,some 1,some 3]) (ao 6))
 (ar (aH (tOp (rI NM fun i j=>.int (i * j)) (tCB (b9 K) (aa (ab 6) af)) (tOp (rI (fun _ j=>0 < j) fun i j=>.int (i % j)) (au (aZ K) [] E0 (aa (ab 0) (aa (tC (.int 9)) af))) (tC (.int 6)))) (ao 7))
 (ar (aH (tOp (rI (fun _ j=>0 < j) fun i j=>.int (i % j)) (tOp (rI eU fun i j=>.int (i / j)) (au (aZ K) [] E0 (aa (ab 0) (aa (tC (.int 9)) af))) (tC (.int 6))) (tOp (rI0 fun i j=>.int (i - j)) (tC (.int 60)) (ab 7))) (ao 8))
 (ar (aH (au (kS K G) [] E0 (aa (ab 4) (aa (ab 6) (aa (tOp (rI0 fun i j=>.int (i + j)) (ab 7) (ab 8)) af)))) (ao 9))
 (ar (aH (au (kS K G) [] E0 (aa (ab 4) (aa (ab 6) (aa (ab 7) af)))) (ao 10))
 (ar (bz (tOr (aY (tOp (jX K true) (tSl (Ch K) (ab 9) jp (nN (ab 7))) (ab 10))) (tOr (aY (tOp (rI0 fun i j=>.bl (decide (j < i))) (tCB (b9 K) (aa (ab 10) af)) (ab 7))) (aY (tOp (rI0 fun i j=>.bl (decide (j < i))) (tCB (b9 K) (aa (ab 9) af)) (tOp (rI0 fun i j=>.int (i + j)) (ab 7) (ab 8)))))) (aJ (tC (.bl false))) bf)
 (ar (aH (au (kS K G) [] E0 (aa (ab 4) (aa (au (i4 K) [] E0 (aa (ab 6) af)) (aa (tCB ut (aa (tC (.int 60)) (aa (tOp (rI NM fun i j=>.int (i * j)) (tC (.int 2)) (tOp (rI0 fun i j=>.int (i + j)) (ab 7) (ab 8))) af))) af)))) (ao 11))
 (ar (bz (fZ (tB (au (hZ K) [] E0 (aa (bV (CI (aa (tC (.int 0)) (aa (tCB (b9 K) (aa (ab 11) af)) (aa (tC (.int 2)) af)))) (fun _ _ _ _=>(ao 0)) (fun _ _ _ _=>bH) (fun _ _ _ _=>(tOp (cV K) (ab 1) (ab 0))) [none,some 11]) (aa (ab 9) af))))) (aJ (tC (.bl false))) bf)
 (ar (bz (aY (tOp (rI0 fun i j=>.bl (decide (i < j))) (tCB (b9 K) (aa (ab 10) af)) (ab 7))) (aJ (tOp (jX K false) (ab 9) (ab 10))) bf)
 (ar (aH (fj G.Table "again" (gG K G) [] E0 (ab 4) af) (ao 12))
 (ar (dk (eN (aa (ab 7) af)) (ao 13) (bz (aY (tOp (jX K true) (fj G.Table "word" (fC K G) [] E0 (ab 12) (aa (CH (aa (ab 3) af)) (aa (tOp (cV K) (ab 6) (tOp (rI (fun _ j=>0 < j) fun i j=>.int (i % j)) (ab 13) (tCB (b9 K) (aa (ab 6) af)))) af))) (tOp (cV K) (ab 10) (ab 13)))) (aJ (tC (.bl false))) bf))
 (aJ (lV (au (hZ K) [] E0 (aa (au (kS K G) [] E0 (aa (ab 12) (aa (ab 6) (aa (ab 8) af)))) (aa (tSl (Ch K) (ab 9) (nN (ab 7)) jp) af))) (tOp rEq (tCB (b9 K) (aa (au (jG K) [] E0 (aa (ab 1) (aa (ab 2) af))) af)) (tCB (b9 K) (aa (fj G.Table "deals" (jw K G) [] E0 (ab 4) af) af))))))))))))))))))))
noncomputable abbrev KO:List Str:=["_law_script","_law_cards","_law_sizes","_law_hands","_law_table","_law_k","_law_sayings","_law_first","_law_second","_law_whole","_law_ahead","_law_between_here","_law_other","_law_turn"]
theorem Kd {K:Fg} {G:GF} {vs:List V} {H:Hp} {Q:VK} {E:XK} (h:Kc K vs H Q E):yF K G { nx:=fun _ H'=>Q .non H',rt:=Q } (start KO vs) H:=by
 obtain ⟨a,ns,rfl,hSc,g⟩:=h
 show yF K G _ [some _,none,none,none,none,none,none,none,none,none,none,none,none,none] _
 unfold yF
 refine bu ?_
 walk_at "rs"
 refine ⟨a,ns,0,60,rfl,hSc,by decide,by decide,by decide,fun c ss tp q H1 s1 htp hq e1 eq1 pk hm=>?_⟩
 refine iJ (SqT.of e1) ?_
 have h1:=pk.l1
 have h5:=pk.l5
 have c12:=pk.c12
 walk_at "rs"
 refine bu ?_
 walk_at "rs"
 rw [bg]
 refine bu (ku (EZ ?_))
 walk_at "rd"
 intro x dx hx hdx hne
 have st:am H1 (upd (upd H1 dx (.own x)) x (.ins G.Table dx [])):=((am.refl H1).upd hdx _).upd hx _
 refine ⟨[],x,dx,q,c,ss,rfl,ay,st _ _ eq1,pk,by omega,(fun b hb=>nomatch hb),(fun hb=>nomatch hb),fun H2 pv pe kx hpv hpe t2=>?_⟩
 have s2:am H1 H2:=fun b o e=>kx _ _ (aS e hx) (st _ _ e)
 have hpv1:=st.free hpv
 have hpe1:=st.free hpe
 have new2:∀ b∈[pv,pe],H1 b=none:=fun b hb=>by
  rcases Lh.mp hb with z | z
  ·rw [z]; exact hpv1
  ·rw [Lg.mp z]; exact hpe1
 have hSc1:=hSc.same s1
 refine ⟨rfl,?_⟩
 walk_at "rs"
 refine m6 fun NX hNX=>?_
 walk_at "rd"
 refine ⟨a,ns,7,rfl,hSc1.same s2,by decide,by decide,?_⟩
 walk_at "rd"
 obtain ⟨m,hm7,hm3⟩:∃ m:Nat,br ns 7 % 3=(m:Int)/\m < 3:=⟨(br ns 7 % 3).toNat,by omega,by omega⟩
 rw [hm7]
 refine js m (by omega) (by omega) (by omega) (fun i σ H3=>∃ (u5:Option V) (T:TM),σ=[some (.ref a),some (.int c),some (.ref q),some (.int ss.length),some (.ref x),u5,none,none,none,none,none,none,none,none]/\am H1 H3/\Tb G [pv,pe] H3 x pv pe T/\T.c=c/\T.ss=ss/\T.ds.length=i) ⟨none,_,rfl,s2,t2,rfl,rfl,rfl⟩ ?_ ?_
 ·rintro i σ H3 hi ⟨u5,T,rfl,s3,t3,hc,hss,hds⟩
  walk_at "rd"
  refine ⟨a,ns,36 + 10 * (i:Int),c,ss.length,rfl,hSc1.same s3,by omega,by omega,h1,h5,fun v d H4 s4 hd ok=>?_⟩
  walk_at "rd"
  have hk:T.k=ss.length:=by unfold TM.k; rw [hss]
  refine ⟨[pv,pe],x,pv,pe,T,v,d,rfl,t3.same s4,hd.to (fun _ _ e=>e) (fun l xs hl e=>⟨e,t3.off hl⟩),by rw [hc,hk]; exact ok,by omega,fun p5 H5 hp5 k5 e5 t5=>?_⟩
  walk_at "rd"
  exact ⟨_,T.deed d,rfl,k5.new (s3.trans s4) new2,t5,(E3 T d).1.trans hc,(E3 T d).2.trans hss,by rw [IL,hds]⟩
 ·rintro σ H3 ⟨u5,T,rfl,s3,t3,hc,hss,hds⟩
  refine hNX _ _ ?_
  clear hNX
  have hk:T.k=ss.length:=by unfold TM.k; rw [hss]
  have eq3:H3 q=some (.lst (av ss)):=s3 _ _ eq1
  have hSc3:=hSc1.same s3
  have n2:=t3.ok.n2
  refine bu ?_
  walk_at "rd"
  refine ⟨a,ns,8,rfl,hSc3,by decide,by decide,?_⟩
  walk_at "rd"
  obtain ⟨m8,hm8,hm81,hm83⟩:∃ m:Nat,1 + br ns 8 % 3=(m:Int)/\1<=m/\m<=3:=⟨(1 + br ns 8 % 3).toNat,by omega,by omega,by omega⟩
  rw [hm8]
  refine nZ m8 (by omega) (by omega) (by omega) (fun j acc H'=>∃ sys:List Sy,Paired (aK H') acc sys/\sys.length=j/\∀ s∈sys,s.Ok c ss.length/\s.words<=12) (fun _ _=>⟨[],.nil,rfl,fun _ z=>nomatch z⟩) ?_ ?_
  ·rintro p' hp' C s' H' fp j acc H4 hj ⟨s4,e4,l4,sys,hsy,ls,hall⟩
   walk_at "rd"
   refine ⟨a,ns,10 + 9 * (j:Int),c,ss.length,12,rfl,hSc3.same s4,by omega,by omega,h1,h5,by decide,by decide,fun v s H5 s5 hS hok hw=>?_⟩
   walk_at "rd"
   refine bi.put hp' (fun _ _ _ _ ⟨sys,z1,z2,z3⟩ k=>⟨sys,Paired.mapP z1 fun _ _ z=>z.keep k,z2,z3⟩) (s4.trans s5) (s5 _ _ e4) l4 ⟨sys++[s],qD (Paired.mapP hsy fun _ _ z=>z.keep s5.keep) hS,by rw [Lz,ls]; rfl,fun z hz=>?_⟩
   rcases LU.mp hz with y | y
   ·exact hall z y
   ·rw [Lg.mp y]; exact ⟨hok,hw⟩
  ·rintro sl acc H4 hsl s4 e4 ⟨sys,hsy,ls,hall⟩
   have S4:tE H4 sl sys:=⟨acc,e4,hsy⟩
   have t4:=t3.same s4
   have lacc:acc.length=sys.length:=L6 hsy
   have h0:0 < sys.length:=by omega
   have hallT:∀ s∈sys,s.Ok T.c T.k/\s.words<=30:=fun s hs=>by rw [hc,hk]; exact ⟨(hall s hs).1,by have:=(hall s hs).2; omega⟩
   walk_at "rs"
   refine bu ?_
   walk_at "rs"
   rw [lacc]
   refine ⟨a,ns,9,rfl,hSc3.same s4,by decide,by decide,?_⟩
   walk_at "rs"
   obtain ⟨q6,hq6,hq6l⟩:∃ q6:Nat,br ns 9 % 6=(q6:Int)/\q6 < 6:=⟨(br ns 9 % 6).toNat,by omega,by omega⟩
   rw [hq6,show (sys.length:Int) * (q6:Int)=((sys.length * q6:Nat):Int) from rfl]
   have hf15:sys.length * q6<=15:=by
    have:sys.length * q6<=3 * 5:=Nat.mul_le_mul (by omega) (by omega)
    omega
   refine bu ?_
   walk_at "rs"
   refine ⟨a,ns,9,rfl,hSc3.same s4,by decide,by decide,?_⟩
   walk_at "rs"
   obtain ⟨sc,hsc,hscl⟩:=kH (br ns 9 / 6) (m:=60 - ((sys.length * q6:Nat):Int)) (by omega)
   rw [hsc]
   refine bu ?_
   walk_at "rs"
   refine ⟨[pv,pe],x,pv,pe,sl,T,sys,sys.length * q6 + sc,rfl,t4,S4,h0,hallT,by omega,by omega,fun pw L1 H5 hpw s5 P5 len1=>?_⟩
   walk_at "rs"
   refine bu ?_
   walk_at "rs"
   refine ⟨[pv,pe],x,pv,pe,sl,T,sys,sys.length * q6,rfl,t4.same s5,S4.same s5,h0,hallT,by omega,by omega,fun pa L2 H6 hpa s6 P6 len2=>?_⟩
   have eL:=IM len1 len2
   have hL1:=len1.le
   have hL2:=len2.le
   obtain ⟨xw,ew5,lw,gw5⟩:=P5.get
   obtain ⟨xa,ea6,la,ga6⟩:=P6.get
   have ew6:=s6 _ _ ew5
   have gw6:∀ (i:Nat) (x:V),xw[i]?=some x->∃ r,x=.ref r/\H6 r=some (.lst (blV T.n (T.told sys i))):=fun i x hx=>dC s6 (gw5 i x hx)
   walk_at "rs"
   refine bu ?_
   walk_at "rs"
   refine Hl (SqL.of ew6) fun p7 H7 hp7 s7 e7=>?_
   rw [Kb] at e7
   walk_at "rs"
   refine wl 2 (by decide) (.lst (SqL.of e7) (SqL.of (s7 _ _ ea6)) (by rw [MF,lw,la,eL]) fun i y z hy hz=>?_) ?_
   ·have hy':xw[i]?=some y:=by
     by_cases hi:i < sys.length * q6
     ·rw [O3 hi] at hy; exact hy
     ·rw [LJ (by rw [MF]; omega)] at hy; cases hy
    exact j6 (dC s7 (gw6 i y hy')) (dC s7 (ga6 i z hz)) rfl
   walk_at "rs"
   refine fS (ys:=xa) (SqL.of (s7 _ _ ea6)) ?_
   walk_at "rs"
   refine aU (by omega) ?_
   walk_at "rs"
   refine fS (ys:=xw) (SqL.of (s7 _ _ ew6)) ?_
   walk_at "rs"
   refine aU (by omega) ?_
   walk_at "rs"
   refine bu ?_
   walk_at "rs"
   have s47:=(s5.trans s6).trans s7
   refine ⟨sl,sys,rfl,S4.same s47,by omega,fun bl H8 hbl s8 S8=>?_⟩
   walk_at "rs"
   obtain ⟨bt,hbt,hbt60⟩:∃ bt:Nat,(if 2 * (((sys.length * q6:Nat):Int) + (sc:Int)) < 60 then 2 * (((sys.length * q6:Nat):Int) + (sc:Int)) else 60)=(bt:Int)/\bt<=60:=by
    by_cases z:2 * (((sys.length * q6:Nat):Int) + (sc:Int)) < 60
    ·exact ⟨2 * (sys.length * q6 + sc),by rw [if_pos z]; omega,by omega⟩
    ·exact ⟨60,by rw [if_neg z]; rfl,by omega⟩
   rw [hbt]
   have s48:=s47.trans s8
   have hallB:∀ s∈btw sys,s.Ok T.c T.k/\s.words<=30:=fun s hs=>BL hallT ⟨⟨by rw [hk]; exact h1,by rw [hk]; exact h1⟩,by decide⟩ s hs
   refine ⟨[pv,pe],x,pv,pe,bl,T,btw sys,bt,rfl,t4.same s48,S8,by rw [rB]; omega,hallB,by omega,by omega,fun pb L3 H9 hpb s9 P9 len3=>?_⟩
   obtain ⟨xb,eb9,lb,gb9⟩:=P9.get
   have s49:=s48.trans s9
   have s69:=(s7.trans s8).trans s9
   have ew9:=s69 _ _ ew6
   have ea9:=s69 _ _ ea6
   have hL3:=len3.le
   walk_at "rs"
   refine bu ?_
   walk_at "rs"
   refine IH ?_
   walk_at "rs"
   refine II ((xb.length + 1) / 2) rfl (by omega) (fun j acc H'=>acc.length=j/\∀ (i:Nat) (y:V),acc[i]?=some y->∃ r,y=.ref r/\H9 r=some (.lst (blV T.n (T.told (btw sys) (2 * i))))) (fun _ _=>⟨rfl,fun i y hy=>nomatch hy⟩) ?_ ?_
   ·rintro p' hp' C s' H' fp j acc HA hj ⟨sA,eA,lA,la',ha'⟩
    have hxj:xb[2 * j]?=some (xb[2 * j]'(by omega)):=Ld _
    generalize xb[2 * j]'(by omega)=xj at hxj
    walk_at "rd"
    refine ce (SqL.of (sA _ _ eb9)) (cB hxj) ?_
    walk_at "rd"
    refine bi.put hp' (fun _ _ _ _ z _=>z) sA eA lA ⟨by rw [Lz,la']; rfl,fun i y hy=>?_⟩
    by_cases hi:i < acc.length
    ·rw [Ob hi] at hy
     exact ha' i y hy
    ·have ei:i=acc.length:=by
      have:=(Li.mp hy).1
      rw [Lz,OK] at this
      omega
     rw [ei,OR (Le _),Rc] at hy
     cases hy
     rw [ei,la']
     exact gb9 _ _ hxj
   ·rintro pp acc HA hpp sA eA ⟨la',ha'⟩
    walk_at "rs"
    refine ⟨pp,pw,acc,xw,rfl,eA,sA _ _ ew9,by omega,by omega,fun i y z hy hz=>j6 (dC sA (ha' i y hy)) (dC (s69.trans sA) (gw6 i z hz)) (Gn t3.ok h0 i),fun HB sB=>?_⟩
    have s6B:=(s69.trans sA).trans sB
    have s4B:=(s49.trans sA).trans sB
    walk_at "rs"
    refine bu ?_
    walk_at "rs"
    refine fS (ys:=xa) (SqL.of (s6B _ _ ea6)) ?_
    walk_at "rs"
    refine cC (fun cl=>?_) (fun cl=>?_)
    ·walk_at "rd"
     refine Ip 2 (by decide) (.lst (SqL.of (s6B _ _ ew6)) (SqL.of (s6B _ _ ea6)) (by rw [lw,la]; omega) fun i y z hy hz=>j6 (dC s6B (gw6 i y hy)) (dC s6B (ga6 i z hz)) rfl) ?_
     walk_at "rd"
     exact g _
    ·have eLf:L2=sys.length * q6:=by omega
     have tB:=t4.same s4B
     walk_at "rs"
     refine bu ?_
     walk_at "rs"
     obtain ⟨dxC,fsC,hxC,hlC⟩:=tB.at "again" (by decide +kernel) (by decide +kernel) (by decide +kernel) (by decide +kernel) (by decide +kernel) (by decide +kernel)
     refine gW ?_
     walk_at "rs"
     refine ⟨x,dxC,fsC,rfl,hxC,hlC,?_⟩
     walk_at "rs"
     refine ⟨[pv,pe],x,pv,pe,T,rfl,tB,fun x' pv' pe' HC hx' hpv' hpe' sC tC=>?_⟩
     have newC:∀ b∈[pv',pe'],HB b=none:=fun b hb=>by
      rcases Lh.mp hb with z | z
      ·rw [z]; exact hpv'
      ·rw [Lg.mp z]; exact hpe'
     walk_at "rs"
     refine bu ?_
     walk_at "rs"
     refine js (sys.length * q6) (by omega) (by omega) (by omega) (fun j σ HD=>∃ u13:Option V,σ=[some (.ref a),some (.int c),some (.ref q),some (.int ss.length),some (.ref x),u5,some (.ref sl),some (.int ((sys.length * q6:Nat):Int)),some (.int sc),some (.ref pw),some (.ref pa),some (.ref pb),some (.ref x'),u13]/\am HB HD/\Tb G (pv' :: pe' :: [pv,pe]) HD x' pv' pe' (T.turn sys j)) ⟨none,rfl,sC,tC⟩ ?_ ?_
     ·rintro j σ HD hj ⟨u13,rfl,sD,tD⟩
      walk_at "rd"
      obtain ⟨dxD,fsD,hxD,hlD⟩:=tD.at "word" (by decide +kernel) (by decide +kernel) (by decide +kernel) (by decide +kernel) (by decide +kernel) (by decide +kernel)
      refine gW ?_
      walk_at "rd"
      refine ⟨x',dxD,fsD,rfl,hxD,hlD,?_⟩
      walk_at "rd"
      refine E2 ?_
      walk_at "rd"
      refine ⟨ss.length,rfl,by omega,Ht (by omega) fun tpE HE htpE sE eE=>?_⟩
      have eE':HE tpE=some (.tup (av (Lv T.k))):=by rw [hk]; exact eE
      walk_at "rd"
      obtain ⟨xs4,exs4,hxs4⟩:=S4
      have sBE:=(s4B.trans sD).trans sE
      refine fS (ys:=xs4) (SqL.of (sBE _ _ exs4)) ?_
      have lxs4:xs4.length=sys.length:=L6 hxs4
      walk_at "rd"
      rw [lxs4,show ((j:Int) % (sys.length:Int))=((j % sys.length:Nat):Int) from rfl]
      obtain ⟨v,hv,iv⟩:=mT hxs4 (mw (sys:=sys) (j:=j) h0)
      refine ce (SqL.of (sBE _ _ exs4)) (cB hv) ?_
      walk_at "rd"
      obtain ⟨ok1,ok2⟩:=hallT (dv sys j) (Lw (mw h0))
      have hdj:=rA T sys j
      refine ⟨_,x',pv',pe',tpE,T.turn sys j,Lv T.k,v,dv sys j,rfl,tD.same sE,eE',OF,fun h hh=>by rw [iZ]; exact MY.mp hh,iv.keep sBE.keep,by rw [iZ,(lB T sys j).1]; exact ok1,ok2,by omega,fun pF HF hpF kF eF tF=>?_⟩
      rw [uW] at eF
      have sF:am HB HF:=kF.new (sD.trans sE) newC
      walk_at "rd"
      have hxj:xa[j]?=some (xa[j]'(by omega)):=Ld _
      generalize xa[j]'(by omega)=xj at hxj
      refine ce (SqL.of (sF _ _ (s6B _ _ ea6))) (cB hxj) ?_
      walk_at "rd"
      refine wl 1 (by decide) (j6 ⟨pF,rfl,eF⟩ (dC (s6B.trans sF) (ga6 j xj hxj)) rfl) ?_
      walk_at "rd"
      exact ⟨_,rfl,sF,tF⟩
     ·rintro σ HD ⟨u13,rfl,sD,tD⟩
      have sBD:=s4B.trans sD
      have s6D:=s6B.trans sD
      walk_at "rd"
      have hdj:=rA T sys (sys.length * q6)
      refine ⟨_,x',pv',pe',sl,T.turn sys (sys.length * q6),sys,sc,rfl,tD,S4.same sBD,h0,fun s hs=>by rw [iZ,(lB _ _ _).1]; exact hallT s hs,by omega,by omega,fun pG L4 HG hpG sG PG lenG=>?_⟩
      obtain ⟨xg,eg,lg,gg⟩:=PG.get
      have hL4:=lenG.le
      walk_at "rd"
      refine Hl (SqL.of (sG _ _ (s6D _ _ ew6))) fun pI HI hpI sI eI=>?_
      rw [Gp _ (by omega)] at eI
      walk_at "rd"
      refine ⟨pG,pI,xg,xw.drop (sys.length * q6),rfl,sI _ _ eg,eI,by omega,by rw [Pz]; omega,fun i y z hy hz=>?_,fun HJ sJ=>?_⟩
      ·rw [List.getElem?_drop] at hz
       refine j6 (dC sI (gg i y hy)) (dC ((s6D.trans sG).trans sI) (by rw [uW]; exact gw6 _ z hz)) ?_
       exact IO T sys q6 i
      ·have sDJ:=(sG.trans sI).trans sJ
       walk_at "rd"
       refine ⟨c,q,ss,rfl,sDJ _ _ (sBD _ _ (s4 _ _ eq3)),pk,by omega,fun pK HK sK hpK dK=>?_⟩
       walk_at "rd"
       obtain ⟨rK,erK,hrK⟩:=dK
       refine fS (ys:=rK.map V.ref) (SqL.of erK) ?_
       walk_at "rd"
       have tK:=t4.same ((sBD.trans sDJ).trans sK)
       obtain ⟨dxK,fsK,hxK,hlK⟩:=tK.at "deals" (by decide +kernel) (by decide +kernel) (by decide +kernel) (by decide +kernel) (by decide +kernel) (by decide +kernel)
       refine gW ?_
       walk_at "rd"
       refine ⟨x,dxK,fsK,rfl,hxK,hlK,?_⟩
       walk_at "rd"
       refine ⟨[pv,pe],x,pv,pe,T,rfl,tK,fun pN HN hpN sN dN=>?_⟩
       walk_at "rd"
       obtain ⟨rN,erN,hrN⟩:=dN
       refine fS (ys:=rN.map V.ref) (SqL.of erN) ?_
       walk_at "rd"
       have eqn:(rK.map V.ref).length=(rN.map V.ref).length:=by
        rw [Lf,Lf,L6 hrK,L6 hrN]
        unfold TM.ws
        rw [hc,hss]
       rw [eqn,decide_eq_true rfl]
       exact g _
end
section
open PySem.Spec
theorem DA.stay {a:Addr} {kvs:List (IA×V)} {h1 h2:Heap} (d:DA a kvs h1) (k:∀ o,h1.get? a=some o->h2.get? a=some o):DA a kvs h2:=by
 obtain ⟨z,y,P,w,vs,r,o,es,ep,e,c⟩:=d
 exact ⟨z,y,P,w,vs,r,o,es,ep,k _ e,c⟩
theorem DB.stay {a:Addr} {zs:List (List IK×Addr×V)} {h1 h2:Heap} (d:DB a zs h1) (k:∀ o,h1.get? a=some o->h2.get? a=some o):DB a zs h2:=by
 obtain ⟨z,y,xs,r,o,es,ep,e,c⟩:=d
 exact ⟨z,y,xs,r,o,es,ep,k _ e,c⟩
theorem DA.ok {P:Program} {w:World} {H:Hp} {h:Heap} {a:Addr} {kvs:List (IA×V)} (d:DA a kvs h):bD P w H h a (dA a kvs):=by
 obtain ⟨_,_,_,_,_,_,o,_,_,e,_⟩:=id d
 exact ⟨d,⟨o,e⟩,fun _ _ d k=>d.stay k⟩
theorem DB.ok {P:Program} {w:World} {H:Hp} {h:Heap} {a:Addr} {zs:List (List IK×Addr×V)} (d:DB a zs h):bD P w H h a (dB a zs):=by
 obtain ⟨_,_,_,_,o,_,_,e,_⟩:=id d
 exact ⟨d,⟨o,e⟩,fun _ _ d k=>d.stay k⟩
theorem ZX.length {zs:List (List IK×Addr×V)} {xs:List (List IK×Addr×Value)} (r:ZX zs xs):zs.length=xs.length:=L6 r
theorem ZX.val {zs:List (List IK×Addr×V)} {xs:List (List IK×Addr×Value)} (r:ZX zs xs) (k:List IK):gN (atZ zs k) ((atKey xs k).map (·.2)):=by
 unfold ZX at r
 induction r with
 | nil=>exact NV
 | @cons p q ps qs h t ih=>
  obtain ⟨h1,_,h2⟩:=h
  by_cases e:p.1=k
  ·have e':q.1=k:=h1.symm.trans e
   have b:atKey (q :: qs) k=some q.2:=by simp [atKey,LW,e']
   have c:atZ (p :: ps) k=some p.2.2:=by simp [atZ,LW,e]
   rw [c,b]; exact h2
  ·have e':¬ q.1=k:=fun z=>e (h1.trans z)
   have b:atKey (q :: qs) k=atKey qs k:=by simp [atKey,LW,e']
   have c:atZ (p :: ps) k=atZ ps k:=by simp [atZ,LW,e]
   rw [c,b]; exact ih
noncomputable def lE (zs:List (List IK×Addr×V)) (k:List IK) (b:Addr) (v:V):List (List IK×Addr×V):=
 if (atZ zs k).isSome then zs.map (fun x=>if x.1=k then (x.1,x.2.1,v) else x) else zs++[(k,b,v)]
theorem ZX.repl {zs:List (List IK×Addr×V)} {xs:List (List IK×Addr×Value)} (r:ZX zs xs) (k:List IK) {v:V} {u:Value} (rv:aI v u):ZX (zs.map fun x=>if x.1=k then (x.1,x.2.1,v) else x) (xs.map (putAt k u)):=by
 unfold ZX at r ⊢
 induction r with
 | nil=>exact .nil
 | @cons p q ps qs h t ih=>
  rw [LA,LA]
  refine .cons ?_ ih
  obtain ⟨h1,h2,h3⟩:=h
  unfold putAt
  by_cases e:p.1=k
  ·rw [if_pos e,if_pos (h1.symm.trans e)]; exact ⟨h1,h2,rv⟩
  ·rw [if_neg e,if_neg (fun z=>e (h1.trans z))]; exact ⟨h1,h2,h3⟩
theorem ZX.put {zs:List (List IK×Addr×V)} {xs:List (List IK×Addr×Value)} (r:ZX zs xs) (k:List IK) {b:Addr} {v:V} {u:Value} (rv:aI v u):ZX (lE zs k b v) (storedH xs k b u):=by
 have e:(atZ zs k).isSome=(atKey xs k).isSome:=by
  rw [(r.val k).isSome_eq,Option.isSome_map]
 unfold lE storedH
 rw [e]
 by_cases q:(atKey xs k).isSome=true
 ·rw [if_pos q,if_pos q]; exact r.repl k rv
 ·rw [if_neg q,if_neg q]; exact Paired.snoc r ⟨rfl,rfl,rv⟩
theorem IP (zs:List (List IK×Addr×V)) (k j:List IK) (b:Addr) (v:V):atZ (lE zs k b v) j=if j=k then some v else atZ zs j:=by
 have hm:∀ ys:List (List IK×Addr×V),atZ (ys.map fun x=>if x.1=k then (x.1,x.2.1,v) else x) j=(atZ ys j).map fun y=>if j=k then v else y:=by
  intro ys
  induction ys with
  | nil=>rfl
  | cons p r ih=>
   rw [LA]
   unfold atZ at ih ⊢
   by_cases h:p.1=k
   ·rw [if_pos h]
    by_cases e:p.1=j
    ·simp [LW,e,e.symm.trans h]
    ·simp [LW,e]; simpa using ih
   ·rw [if_neg h]
    by_cases e:p.1=j
    ·have:¬ j=k:=fun z=>h (e.trans z)
     simp [LW,e,this]
    ·simp [LW,e]; simpa using ih
 have ha:∀ ys:List (List IK×Addr×V),atZ ys k=none->atZ (ys++[(k,b,v)]) j=if j=k then some v else atZ ys j:=by
  intro ys
  induction ys with
  | nil=>
   intro _
   by_cases e:k=j
   ·simp [atZ,LW,e]
   ·have:¬ j=k:=fun z=>e z.symm
    simp [atZ,LW,e,this]
  | cons p r ih=>
   intro hn
   have hk:¬ p.1=k:=fun z=>by simp [atZ,LW,z] at hn
   have hn':atZ r k=none:=by simpa [atZ,LW,hk] using hn
   have ih':=ih hn'
   by_cases e:p.1=j
   ·have:¬ j=k:=fun z=>hk (e.trans z)
    simp [atZ,LW,e,this]
   ·have c:atZ (p :: (r++[(k,b,v)])) j=atZ (r++[(k,b,v)]) j:=by simp [atZ,LW,e]
    have c':atZ (p :: r) j=atZ r j:=by simp [atZ,LW,e]
    rw [TQ,c,c',ih']
 unfold lE
 cases q:atZ zs k with
 | some y=>
  rw [if_pos (show (some y).isSome=true from rfl),hm]
  by_cases e:j=k
  ·subst e; rw [q,if_pos rfl]; simp
  ·rw [if_neg e]; cases atZ zs j <;> simp [e]
 | none=>rw [if_neg (show ¬ (none:Option V).isSome=true by decide)]; exact ha zs q
theorem sr (zs:List (List IK×Addr×V)) (k:List IK) (b:Addr) (v:V):(lE zs k b v).length<=zs.length + 1:=by
 unfold lE
 split
 ·rw [Lf]; omega
 ·rw [Lz,LP,Uk]; omega
theorem Gq {zs:List (List IK×Addr×V)} {k:List IK} {b:Addr} {v:V} {z:List IK×Addr×V} (h:z∈lE zs k b v):(∃ z0∈zs,z.1=z0.1/\z.2.1=z0.2.1)\/(z.1=k/\z.2.1=b):=by
 unfold lE at h
 split at h
 ·obtain ⟨z0,h0,rfl⟩:=Nz.mp h
  refine .inl ⟨z0,h0,?_⟩
  split <;> exact ⟨rfl,rfl⟩
 ·rcases LU.mp h with h | h
  ·exact .inl ⟨z,h,rfl,rfl⟩
  ·rw [Lg.mp h]; exact .inr ⟨rfl,rfl⟩
section
variable {X:Cx} {pins:List (Addr×Obj)} {σ:St} {H:Hp} {s:Shared} {a:Addr} {y v:V} {u r:Value} {A:Around} {E:Value->Shared->Prop} {srt:Bool} {f:MK->Option V} {n:Nat} {k:MK}
theorem yG {k:IA} (h:iaV y=some k) (ry:aI y u):n9 k u=true:=by
 cases y with
 | non=>cases h; cases ry; rfl
 | bl b=>cases h; cases ry; simp [n9]
 | int i=>cases h; obtain ⟨t,rfl⟩:=ry; simp [n9]
 | _=>cases h
theorem BM {P:Program} {w:World}:∀ {ks:List IA} {ys:List V} {us:List Value},ys.map iaV=ks.map some->aG ys us->ItemsAre (cY P w) ks us
 | [],[],_,_,.nil=>.nil
 | k :: ks,y :: ys,_,e,.cons h t=>by
  rw [LA,LA] at e
  injection e with e1 e2
  exact .cons (yG e1 h) (BM e2 t)
 | [],_ :: _,_,e,_=>by simp at e
 | _ :: _,[],_,e,_=>by simp at e
theorem E8 (ok:HOk X.prog X.w H s.heap) {c:Addr} {xs:List V} (e:H c=some (.tup xs)):∃ its,aG xs its/\∃ o n,s.heap.get? c=some o/\o.cls=.type "tuple"/\o.data=.seq its.toArray n:=by
 obtain ⟨_,its,r,o,h1,h2,⟨n,h3⟩,_⟩:=(show bD X.prog X.w H s.heap c (.tup xs) from ok c _ e)
 exact ⟨its,r,o,n,h1,h2,h3⟩
theorem IQ (ok:HOk X.prog X.w H s.heap) {k:IK} (h:l9 H y k) (ry:aI y u):cH X.prog X.w s.heap k u:=by
 cases k with
 | inl a=>exact yG h ry
 | inr as=>
  obtain ⟨c,ys,rfl,e,q⟩:=h
  cases ry
  obtain ⟨its,rv,o,n,h1,h2,h3⟩:=E8 ok e
  exact ⟨c,rfl,o,its.toArray,n,h1,h2,h3,by simpa using BM q rv⟩
theorem Gr (ok:HOk X.prog X.w H s.heap) {xs:List V} {ks:List IK} {us:List Value} (p:Paired (l9 H) xs ks):aG xs us->Paired (cH X.prog X.w s.heap) ks us:=by
 induction p generalizing us with
 | nil=>intro q; cases q; exact .nil
 | cons h t ih=>intro q; cases q with
  | cons r q=>exact .cons (IQ ok h r) (ih q)
theorem CJ (ok:HOk X.prog X.w H s.heap) {c:Addr} {ks:List IK} (h:cW H (.ref c) (.inr ks)):gQ X.prog X.w s.heap ks c:=by
 obtain ⟨c',xs,e,ec,q⟩:=h
 cases e
 obtain ⟨its,rv,o,n,h1,h2,h3⟩:=E8 ok ec
 exact ⟨o,its.toArray,n,h1,h2,h3,by simpa using Gr ok q rv⟩
theorem BN (h:cW H y k) (hs:ma k=true):∃ c ks,y=.ref c/\k=.inr ks:=by
 cases k with
 | inl _=>cases hs
 | inr ks=>obtain ⟨c,xs,e,_⟩:=h; exact ⟨c,ks,e,rfl⟩
theorem E9 {P P':Program} {w w':World} {es:List SJ} {vs:List (IA×Value)} (h:Pairs (cY P w) es vs):Pairs (cY P' w') es vs:=by
 induction h with
 | nil=>exact .nil
 | cons a b _ ih=>exact .cons a b ih
theorem CK {kvs:List (IA×V)} (ok:HOk X.prog X.w H s.heap) (e:H a=some (dA a kvs)):kvs.length<=Lr/\(a == Na)=false/\∃ vs,KV kvs vs/\s.heap.DictOf (cY X.prog X.w) a vs:=by
 obtain ⟨⟨z,y,P,w,vs,r,o,es,ep,h1,h2,h3,h4,h5,h6⟩,_⟩:=(show bD X.prog X.w H s.heap a (dA a kvs) from ok a _ e)
 exact ⟨z,y,vs,r,o,es,ep,h1,h2,h3,h4,E9 h5,h6⟩
theorem CL {zs:List (List IK×Addr×V)} (ok:HOk X.prog X.w H s.heap) (e:H a=some (dB a zs)) (hk:∀ z∈zs,cW H (.ref z.2.1) (.inr z.1)):zs.length<=Lr/\(a == Na)=false/\∃ xs,ZX zs xs/\s.heap.DictOfH (qg X.prog X.w) a xs:=by
 obtain ⟨⟨z,y,xs,r,o,es,ep,h1,h2,h3,h4,h5⟩,_⟩:=(show bD X.prog X.w H s.heap a (dB a zs) from ok a _ e)
 refine ⟨z,y,xs,r,o,es,ep,h1,h2,h3,h4,?_,h5⟩
 have all:∀ {l:List (List IK×Addr×V)} {m:List (List IK×Addr×Value)},ZX l m->(∀ z∈l,cW H (.ref z.2.1) (.inr z.1))->∀ x∈m,(qg X.prog X.w).is s.heap x.1 x.2.1:=by
  intro l m q
  unfold ZX at q
  induction q with
  | nil=>intro _ x hx; exact nomatch hx
  | @cons p q ps qs hq t ih=>
   intro hk x hx
   rcases Lh.mp hx with e | hx
   ·subst e
    have:=hk p (Lj ..)
    rw [hq.1,hq.2.1] at this
    exact CJ ok this
   ·exact ih (fun z hz=>hk z (Ln _ hz)) x hx
 exact all r hk
theorem KP {Q:Value->Shared->Prop} (hu:A.units + 2 < cLine) (I:Inv X pins σ H s) (d:Dx H a srt f n) (hk:cW H y k) (hs:ma k=srt) (ry:aI y u) (ev:f k=some v) (h:∀ w' s',Inv X pins σ H s'->aI v w'->Q w' s'):
  wpAny (model X.prog X.w) A (getItem (.ref a) u) Q E s:=by
 rcases d with ⟨rfl,kvs,e,hf,_⟩ | ⟨rfl,zs,e,hz,hf,_⟩
 ·cases k with
  | inr _=>cases hs
  | inl k=>
   obtain ⟨z,hd,vs,rel,dd⟩:=CK I.hok e
   obtain ⟨w',hw,rw'⟩:=gN.some_of (v:=v) (o:=valueAt vs k) (by rw [<-ev,<-hf k]; exact rel.val k)
   exact TX (knd:=cY X.prog X.w) (yG hk ry) dd.mapOf hw (h w' _ (I.tok _) rw')
 ·obtain ⟨c,ks,rfl,rfl⟩:=BN hk hs
  cases ry
  obtain ⟨z,hd,xs,rel,dd⟩:=CL I.hok e hz
  obtain ⟨w',hw,rw'⟩:=gN.some_of (v:=v) (o:=(atKey xs ks).map (·.2)) (by rw [<-ev,<-hf ks]; exact rel.val ks)
  obtain ⟨p,hp,hp2⟩:=RI.mp hw
  refine wpAny_getItem_heap (knd:=qg X.prog X.w) hu (CJ I.hok hk) dd hp ?_
  rw [hp2]
  exact h w' _ (I.tok _) rw'
theorem tG {o:HO}:Off a H (upd H a o):=fun b hb=>aP hb
theorem Ke {h':Heap} {t':Nat} {kvs kvs':List (IA×V)} {vs':List (IA×Value)} (I:Inv X pins σ H s) (e:H a=some (dA a kvs)) (hs:LC a s.heap h') (z:kvs'.length<=Lr) (hd:(a == Na)=false) (rel:KV kvs' vs') (dd:h'.DictOf (cY X.prog X.w) a vs'):
  Inv X pins σ (upd H a (dA a kvs')) { s with heap:=h',toks:=t' }:=by
 have he:∃ q,h'.get? a=some q:=let ⟨q,_,_,hq,_⟩:=dd; ⟨q,hq⟩
 exact Bz I (by rw [e]; exact NV) hs he (DA.ok ⟨z,hd,X.prog,X.w,vs',rel,dd⟩)
theorem Kf {h':Heap} {t':Nat} {zs zs':List (List IK×Addr×V)} {xs':List (List IK×Addr×Value)} (I:Inv X pins σ H s) (e:H a=some (dB a zs)) (hs:LC a s.heap h') (z:zs'.length<=Lr) (hd:(a == Na)=false) (rel:ZX zs' xs') (dd:h'.DictOfH (qg X.prog X.w) a xs'):
  Inv X pins σ (upd H a (dB a zs')) { s with heap:=h',toks:=t' }:=by
 obtain ⟨o,es,ep,h1,h2,h3,h4,_,h5⟩:=dd
 exact Bz I (by rw [e]; exact NV) hs ⟨o,h1⟩ (DB.ok ⟨z,hd,xs',rel,o,es,ep,h1,h2,h3,h4,h5⟩)
theorem IR {kvs:List (IA×V)} {k:IA} (e:H a=some (dA a kvs)) (hf:∀ k,fR kvs k=f (.inl k)) (hn:kvs.length<=n):Dx (upd H a (dA a (qf kvs k v))) a false (og f (.inl k) v) (n + 1):=by
 refine .inl ⟨rfl,_,ay,fun j=>?_,?_⟩
 ·rw [FR]
  unfold og
  by_cases q:j=k
  ·rw [if_pos q,if_pos (by rw [q])]
  ·rw [if_neg q,if_neg (fun z=>q (To z)),hf j]
 ·have:=r9 kvs k v; omega
theorem IS {zs:List (List IK×Addr×V)} {k:List IK} {c:Addr} (e:H a=some (dB a zs)) (hz:∀ z∈zs,cW H (.ref z.2.1) (.inr z.1)) (hk:cW H (.ref c) (.inr k)) (hf:∀ k,atZ zs k=f (.inr k)) (hn:zs.length<=n):
  Dx (upd H a (dB a (lE zs k c v))) a true (og f (.inr k) v) (n + 1):=by
 have kp:fq H (upd H a (dB a (lE zs k c v))):=tG.keepD fun xs q=>by rw [e] at q; cases q
 refine .inr ⟨rfl,_,ay,fun z h=>?_,fun j=>?_,?_⟩
 ·rcases Gq h with ⟨z0,h0,e1,e2⟩ | ⟨e1,e2⟩
  ·rw [e1,e2]; exact (hz z0 h0).keep kp
  ·rw [e1,e2]; exact hk.keep kp
 ·rw [IP]
  unfold og
  by_cases q:j=k
  ·rw [if_pos q,if_pos (by rw [q])]
  ·rw [if_neg q,if_neg (fun z=>q (OV z)),hf j]
 ·have:=sr zs k c v; omega
theorem va {d a:Addr} {knd:HeapKind X.prog X.w (List IK)} {xs:List (List IK×Addr×Value)} {k:List IK} {v:Value} {Q:Value->Shared->Prop} (hu:knd.room A) (hkey:knd.is s.heap k a) (hm:s.heap.DictOfH knd d xs)
  (h1:∀ p,atKey xs k=some p->Q p.2 { s with toks:=s.toks + knd.draws k })
  (h2:atKey xs k=none->∀ h',h'.DictOfH knd d (storedH xs k a v)->LC d s.heap h'->Q v { s with heap:=h',toks:=s.toks + knd.draws k })
  (hsz:xs.length<=Lr):wpAny (model X.prog X.w) A (Qj d (.ref a) v) Q E s:=by
 obtain ⟨o,es,ep,ho,hc,hd,he,his,hn⟩:=hm
 unfold Qj
 try with_reducible refine Mx ?_
 refine La (knd.pyHash hu hkey ?_)
 refine La (wpAny_dictFind_heap (s:={ s with toks:=s.toks + knd.draws k }) hu hkey ho hd he his hn ?_ ?_)
 ·intro hno
  have hnot:k∉xs.map (·.1):=not_mem_keys_of_get hno
  refine La (NC (La (wpAny_updateDictKeys (hz:=by have e:=size_of_entries he; omega) (s:={ s with toks:=s.toks + knd.draws k }) ho hd (Lc (h2 (Po hno) _ ⟨_,_,ep + 1,Mh _ ho (Obj.isFreed_of_dict (Sj hd _)),
   hc.mapDictKeys _,Sj hd _,?_,?_,?_⟩ (Mi ..))))))
  ·rw [Tw (Po hno)]
   simp [he,entryOfKey]
  ·rw [Tw (Po hno)]
   intro x hx
   rcases LU.mp hx with hx | hx
   ·exact knd.keeps (his x hx) ho hd (Mi ..)
   ·simp only [Lg] at hx
    subst hx
    exact knd.keeps hkey ho hd (Mi ..)
  ·rw [Tw (Po hno)]
   rw [LI,Td]
   refine ⟨hn,by simp,?_⟩
   intro x hx y hy
   simp only [LA,OJ,Lg] at hy
   subst hy
   exact fun e=>hnot (e ▸ hx)
 ·intro j p hj
  refine La (wpAny_dictEntries (s:={ s with toks:=s.toks + knd.draws k }) ho hd ?_)
  rw [entry_at he j,hj]
  exact La (NC (Lc (h1 p (atKey_of_get hn hj))))
theorem mz {d:Addr} {key dflt:Value} {Q:Fin->Shared->Prop} (hT:s.TypeIs (.ref d) "dict") (hd:(d == Na)=false) (h:wpAny (model X.prog X.w) A (Qj d key dflt) (fun v s'=>Q (.done (.ret v)) s') E s):
  wpAny (model X.prog X.w) A (Builtin.«dict.setdefault» ⟨[.ref d,key,dflt],[]⟩) Q E s:=by
 unfold Builtin.«dict.setdefault»
 refine La ?_
 unfold Builtin.Dict.keyAndDefault
 refine La (wpAny_notOrdered_dict hT ?_)
 show wpAny _ _ (pure (d,key,some dflt)) _ _ s
 refine Lc ?_
 show wpAny _ _ (if (d == Na)=true then _ else (Qj d key dflt >>= _)) _ _ s
 rw [if_neg (by rw [hd]; exact Lq)]
 exact La (M1 h (fun v s' q=>Lc q) fun _ _ x=>x)
theorem Ai (I:Inv X pins σ H s) (d:Dx H a srt f n):s.TypeIs (.ref a) "dict"/\∀ b,LL a=.ref b->∃ ob,s.heap.get? b=some ob/\ob.dict=none:=by
 rcases d with ⟨_,kvs,e,_,_⟩ | ⟨_,zs,e,hz,_,_⟩
 ·obtain ⟨_,_,vs,_,dd⟩:=CK I.hok e
  refine ⟨dd.typeIs,fun b q=>?_⟩
  cases q
  obtain ⟨ob,_,_,h1,h2,_⟩:=dd
  exact ⟨ob,h1,h2.2.1⟩
 ·obtain ⟨_,_,xs,_,dd⟩:=CL I.hok e hz
  refine ⟨dd.typeIs,fun b q=>?_⟩
  cases q
  obtain ⟨ob,_,_,h1,h2,_⟩:=dd
  exact ⟨ob,h1,h2.2.1⟩
theorem Kg {Q:Value->Shared->Prop} (hu:A.units + 2 < cLine) (I:Inv X pins σ H s) (d:Dx H a srt f n) (hk:cW H y k) (hs:ma k=srt) (hn:n < Lr) (ry:aI y u) (rv:aI v r)
  (h1:∀ x w' s',f k=some x->aI x w'->Inv X pins σ H s'->Q w' s')
  (h2:f k=none->∀ H' s',Off a H H'->Dx H' a srt (og f k v) (n + 1)->Inv X pins σ H' s'->Q r s'):wpAny (model X.prog X.w) A (call (.builtin "dict.setdefault") [.ref a,u,r]) Q E s:=by
 have hT:=(Ai I d).1
 refine LY Qk hT PySem.F.entry_dict_setdefault ?_ (PySem.F.args_dict_setdefault_3 _ _ _)
 rcases d with ⟨rfl,kvs,e,hf,hl⟩ | ⟨rfl,zs,e,hz,hf,hl⟩
 ·cases k with
  | inr _=>cases hs
  | inl k=>
   obtain ⟨z,hd,vs,rel,dd⟩:=CK I.hok e
   have hvz:vs.length<=Lr:=by rw [<-rel.length]; exact z
   have hl':(qf kvs k v).length<=Lr:=by have:=r9 kvs k v; omega
   refine mz hT hd (kt_dictSetDefault_pairs (knd:=cY X.prog X.w) (hsz:=hvz) (yG hk ry) dd (fun w' hw=>?_) fun hno h' dd' hs'=>?_)
   ·have q:=rel.val k
    rw [hf k,hw] at q
    cases ef:f (.inl k) with
    | none=>rw [ef] at q; exact (show False from q).elim
    | some x=>rw [ef] at q; exact ⟨w',rfl,h1 x w' _ ef q (I.tok _)⟩
   ·have q:=rel.val k
    rw [hf k,hno] at q
    have ef:f (.inl k)=none:=by
     cases ef:f (.inl k) with
     | none=>rfl
     | some x=>rw [ef] at q; exact (show False from q).elim
    exact ⟨r,rfl,h2 ef _ _ tG (IR e hf hl) (Ke I e hs' hl' hd (rel.put k rv) dd')⟩
 ·obtain ⟨c,ks,rfl,rfl⟩:=BN hk hs
  cases ry
  obtain ⟨z,hd,xs,rel,dd⟩:=CL I.hok e hz
  have hvz:xs.length<=Lr:=by rw [<-rel.length]; exact z
  have hl':(lE zs ks c v).length<=Lr:=by have:=sr zs ks c v; omega
  refine mz hT hd (va (X:=X) (knd:=qg X.prog X.w) hu (CJ I.hok hk) dd (fun p hp=>?_) (fun hno h' dd' hs'=>?_) hvz)
  ·have q:=rel.val ks
   rw [hf ks,hp] at q
   cases ef:f (.inr ks) with
   | none=>rw [ef] at q; exact (show False from q).elim
   | some x=>rw [ef] at q; exact ⟨p.2,rfl,h1 x p.2 _ ef q (I.tok _)⟩
  ·have q:=rel.val ks
   rw [hf ks,hno] at q
   have ef:f (.inr ks)=none:=by
    cases ef:f (.inr ks) with
    | none=>rfl
    | some x=>rw [ef] at q; exact (show False from q).elim
   exact ⟨r,rfl,h2 ef _ _ tG (IS (c:=c) e hz hk hf hl) (Kf I e hs' hl' hd (rel.put ks rv) dd')⟩
end
section
variable {X:Cx}
theorem IT {o i:Expr} {pos:Pos} {td ty:TE} (hu:X.A.units + 64 < cLine) (ho:PE X o td) (hi:PE X i ty) (hs:FS i):PE X (.Subscript o i pos) (tOp Cm td ty):=by
 intro pins s σ H Q I h
 refine BA QX.lookup hs (thn (ho pins s σ H _ I h) fun u s1 ⟨x,H1,I1,rx,q1⟩=>thn (hi pins s1 σ H1 _ I1 q1) fun iv s2 ⟨y,H2,I2,ry,a,srt,f,n,k,v,ex,d,hk,hs',ev,q2⟩=>?_)
 subst ex
 obtain rfl:u=LL a:=rx
 exact ⟨(Ai I2 d).1,KP (by omega) I2 d hk hs' ry ev fun w' s3 I3 rw'=>⟨v,H2,I3,rw',q2⟩⟩
theorem Gs {pos:Pos}:PE X (.Dict [] [] pos) zr:=fun pins s σ H Q I h=>by
 obtain ⟨srt,h⟩:=h
 have hd:(s.heap.objs.size == Na)=false:=beq_eq_false_iff_ne.mpr (MU (LR I.big))
 have hp:=I.hok.fresh (Le s.heap.objs.size)
 cases srt with
 | false=>
  refine TY ⟨.ref s.heap.objs.size,_,I.laid (a:=s.heap.objs.size) (o:=dA s.heap.objs.size []) (t':=s.toks) (fun _ _ q=>Lb _ q) (Le _) (DA.ok ⟨Me _,hd,X.prog,X.w,[],.nil,Heap.DictOf.new s.heap⟩),rfl,?_⟩
  exact h _ _ hp (aW hp _) (.inl ⟨rfl,[],ay,fun _=>rfl,Le _⟩)
 | true=>
  refine TY ⟨.ref s.heap.objs.size,_,I.laid (a:=s.heap.objs.size) (o:=dB s.heap.objs.size []) (t':=s.toks) (fun _ _ q=>Lb _ q) (Le _) (DB.ok ⟨Me _,hd,[],.nil,_,#[],0,Lk _ rfl,⟨rfl,rfl,rfl⟩,rfl,rfl,List.nodup_nil⟩),rfl,?_⟩
  exact h _ _ hp (aW hp _) (.inr ⟨rfl,[],ay,fun z hz=>(nomatch hz),fun _=>rfl,Le _⟩)
noncomputable def MtX (X:Cx) (id:String) (r:V->List V->Hp->VK->Prop):Prop:=
 ∀ (pins:List (Addr×Obj)) (s:Shared) (σ:St) (H:Hp) (x:V) (ys:List V) (u:Value) (us:List Value) (Q:VK),Inv X pins σ H s->aI x u->aG ys us->r x ys H Q->
  wpAny (model X.prog X.w) X.A (call (.builtin id) (u :: us)) (EP X pins σ Q) X.xe s
theorem wA (hu:X.A.units + 64 < cLine):MtX X "dict.setdefault" zt:=by
 intro pins s σ H x ys u us Q I rx rys h
 obtain ⟨a,srt,f,n,k,y,v,rfl,rfl,d,hk,hs,hn,q1,q2⟩:=h
 cases rx
 cases rys with
 | cons r1 t1=>cases t1 with
  | cons r2 t2=>
   cases t2
   exact Kg (by omega) I d hk hs hn r1 r2 (fun x w' s' ef rw' I'=>⟨x,H,I',rw',q1 x ef⟩) fun ef H' s' o' d' I'=>⟨v,H',I',r2,q2 ef H' o' d'⟩
theorem KQ {o e:Expr} {es:List Expr} {name:Str} {id:String} {r:V->List V->Hp->VK->Prop} {to:TE} {t:TA} {apos cpos:Pos} (slot:Slot "dict" name id) (hty:typeOf (.builtin id)=pure (.type "method_descriptor")) (hm:MtX X id r) (ho:PE X o to) (ha:PA X (e :: es) t)
  (hbase:OQ o name X.env (eval o X.env)=eval o X.env:=by rfl)
  (hfew:((backTo cpos (LD (e :: es) X.env)).all (fun x=>!x.1) && (Py cpos (OC [] X.env)).all (fun x=>x.1.isSome)
   && decide ((e :: es).length + ([]:List Keyword).length + (if ([]:List Keyword).isEmpty then 0 else 1) < 30))=true:=by rfl)
  (hline:(apos.endLine == cpos.line)=true:=by rfl) (hs:LD (e :: es) X.env=(false,eval e X.env) :: LD es X.env:=by rfl) (hplain:(backTo cpos (LD es X.env)).any (·.1)=false:=by rfl):
  PE X (.Call (.Attribute o name apos) (e :: es) [] cpos) (tXM r to t):=by
 intro pins s σ H Q I h
 refine Pq hbase hfew hline rfl (thn (ho pins s σ H _ I h) fun v s1 ⟨x,H1,I1,r1,⟨a,srt,f,n,ex,d⟩,q1⟩=>?_)
 subst ex
 obtain rfl:v=LL a:=r1
 obtain ⟨h1,h2⟩:=Ai I1 d
 refine ⟨"dict",id,PySem.F.plainAttrs_dict,slot,hty,h1,h2,?_⟩
 have hA:=ha cpos pins s1 σ H1 _ I1 q1
 rw [hs] at hA ⊢
 refine Pr (by show (false || (backTo cpos (LD es X.env)).any (·.1))=false; rw [hplain] <;> rfl) (PR ?_)
 exact thn hA fun us s2 ⟨vs,H2,I2,r2,q2⟩=>hm pins s2 σ H2 (.ref a) vs (.ref a) us Q I2 rfl r2 q2
end
end
section
open PySem.Spec
section
variable {X:Cx}
end
end
section
open PySem.Spec
mutual
inductive Dat (K:Fg) (H:Hp):V->PyData->Prop where
 | non:Dat K H .non .none
 | bl (b:Bool):Dat K H (.bl b) (.bool b)
 | int (i:Int):Dat K H (.int i) (.int i)
 | str (x:Str):Dat K H (.str x) (.str x)
 | lst {a:Addr} {xs:List V} {ds:List PyData} (e:SqL K H a xs) (h:i5 K H xs ds):Dat K H (.ref a) (.list ds)
 | tup {a:Addr} {xs:List V} {ds:List PyData} (e:SqT K H a xs) (h:i5 K H xs ds):Dat K H (.ref a) (.tuple ds)
inductive i5 (K:Fg) (H:Hp):List V->List PyData->Prop where
 | nil:i5 K H [] []
 | cons {x:V} {xs:List V} {d:PyData} {ds:List PyData} (h:Dat K H x d) (t:i5 K H xs ds):i5 K H (x :: xs) (d :: ds)
end
section
variable {X:Cx} {pins:List (Addr×Obj)} {σ:St} {H:Hp} {s:Shared}
mutual
theorem Dat.reads (I:Inv X pins σ H s):∀ {x:V} {d:PyData} {u:Value},Dat X.K H x d->aI x u->∃ as,Reads s.heap u d as
 | _,_,_,.non,r=>by cases r; exact ⟨_,.none⟩
 | _,_,_,.bl b,r=>by cases r; exact ⟨_,.bool b⟩
 | _,_,_,.int i,r=>by obtain ⟨t,rfl⟩:=r; exact ⟨_,.int i t⟩
 | _,_,_,.str x,r=>by obtain ⟨t,rfl⟩:=r; exact ⟨_,.str x t⟩
 | _,_,_,.lst e h,r=>by
  cases r
  obtain ⟨its,rv,⟨o,n,h1,h2,h3,h4⟩,_⟩:=I.list e
  obtain ⟨as,ra⟩:=i5.reads I h rv
  exact ⟨_,.list h1 h2 h4 (by simpa using ra)⟩
 | _,_,_,.tup e h,r=>by
  cases r
  obtain ⟨its,rv,⟨o,h1,h2,n,h3⟩,_⟩:=I.tuple e
  obtain ⟨as,ra⟩:=i5.reads I h rv
  exact ⟨_,.tuple h1 h2 h3 (by simpa using ra)⟩
theorem i5.reads (I:Inv X pins σ H s):∀ {xs:List V} {ds:List PyData} {us:List Value},i5 X.K H xs ds->aG xs us->∃ as,ReadsAll s.heap us ds as
 | _,_,_,.nil,.nil=>⟨_,.nil⟩
 | _,_,_,.cons h t,.cons r q=>by
  obtain ⟨as,ra⟩:=Dat.reads I h r
  obtain ⟨bs,rb⟩:=i5.reads I t q
  exact ⟨_,.cons ra rb⟩
end
end
noncomputable def K9 (K:Fg) (neg:Bool):R2:=fun x y H Q=>∃ d e,Dat K H x d/\Dat K H y e/\On d=true/\On e=true/\Q (.bl (if neg then !PyData.eqv d e else Pd d e)) H
section
variable {X:Cx}
theorem Kh (hu:X.A.units + 64 < cLine):OpR X (M7 .Eq) (K9 X.K false):=by
 intro pins s σ H x y v u Q I rx ry h
 obtain ⟨d,e,hd,he,sd,se,q⟩:=h
 obtain ⟨as,ra⟩:=hd.reads I rx
 obtain ⟨bs,rb⟩:=he.reads I ry
 exact eq_dataH ra rb sd se hu ⟨.bl (Pd d e),H,I,rfl,q⟩
end
end
section
open PySem.Spec
mutual
theorem Gu {K:Fg} {H:Hp}:∀ {n:Nat} {x y:V},eP K H n x y->∃ d,Dat K H x d/\Dat K H y d/\d.canLay0=true/\d.depth<=n
 | n,x,_,.flat h=>by
  cases x with
  | non=>exact ⟨_,.non,.non,rfl,Me _⟩
  | bl b=>exact ⟨_,.bl b,.bl b,rfl,Me _⟩
  | int i=>exact ⟨_,.int i,.int i,rfl,Me _⟩
  | _=>cases h
 | _,_,_,.lst (xs:=xs) (ys:=ys) e1 e2 hl h=>by
  obtain ⟨ds,h1,h2,h3,h4⟩:=CM xs ys hl h
  exact ⟨_,.lst e1 h1,.lst e2 h2,h3,TZ h4⟩
 | _,_,_,.tup (xs:=xs) (ys:=ys) e1 e2 hl h=>by
  obtain ⟨ds,h1,h2,h3,h4⟩:=CM xs ys hl h
  exact ⟨_,.tup e1 h1,.tup e2 h2,h3,TZ h4⟩
theorem CM {K:Fg} {H:Hp} {n:Nat}:∀ (xs ys:List V),xs.length=ys.length->(∀ (i:Nat) (x y:V),xs[i]?=some x->ys[i]?=some y->eP K H n x y)->∃ ds,i5 K H xs ds/\i5 K H ys ds/\Nw ds=true/\NP ds<=n
 | [],[],_,_=>⟨[],.nil,.nil,rfl,Me _⟩
 | x :: xs,y :: ys,hl,h=>by
  obtain ⟨d,a1,a2,a3,a4⟩:=Gu (h 0 x y rfl rfl)
  obtain ⟨ds,b1,b2,b3,b4⟩:=CM xs ys (by simpa using hl) (fun i x y hx hy=>h (i + 1) x y hx hy)
  refine ⟨d :: ds,.cons a1 b1,.cons a2 b2,?_,?_⟩
  ·show (d.canLay0 && Nw ds)=true
   rw [a3,b3]; rfl
  ·show max d.depth (NP ds)<=n
   omega
 | [],_ :: _,hl,_=>by simp at hl
 | _ :: _,[],hl,_=>by simp at hl
end
section
variable {X:Cx}
theorem Gv (hu:X.A.units + 64 < cLine):OpR X (M7 .Eq) (jX X.K false):=by
 intro pins s σ H x y v u Q I rx ry h
 obtain ⟨n,hn,hd,q⟩:=h
 obtain ⟨d,h1,h2,h3,h4⟩:=Gu hd
 obtain ⟨as,ra⟩:=h1.reads I rx
 obtain ⟨bs,rb⟩:=h2.reads I ry
 have sh:On d=true:=by unfold On; rw [h3,decide_eq_true (by omega)]; rfl
 refine eq_dataH ra rb sh sh hu ⟨.bl true,H,I,?_,q⟩
 rw [SeqAt.eqv_refl d h3]; rfl
theorem tH (hu:X.A.units + 64 < cLine):OpR X (M7 .NotEq) (jX X.K true):=by
 intro pins s σ H x y v u Q I rx ry h
 obtain ⟨n,hn,hd,q⟩:=h
 obtain ⟨d,h1,h2,h3,h4⟩:=Gu hd
 obtain ⟨as,ra⟩:=h1.reads I rx
 obtain ⟨bs,rb⟩:=h2.reads I ry
 have sh:On d=true:=by unfold On; rw [h3,decide_eq_true (by omega)]; rfl
 refine ne_dataH ra rb sh sh hu ⟨.bl false,H,I,?_,q⟩
 rw [SeqAt.eqv_refl d h3]; rfl
end
end
section
open PySem.Spec
theorem Aj {scope:Scope} {env:Env} {x:Str} (h:scope.names.lookup x=some .cell\/scope.names.lookup x=some .free):(relabel scope env).names.lookup x=some .cell\/(relabel scope env).names.lookup x=some .free:=by
 have go:∀ ns:List (Str×L7),(ns.lookup x=some .cell\/ns.lookup x=some .free)->
   (ns.map fun (n,k)=>if (k == MO && env.scope.kind == .function && env.kindOf n == some .cell) then (n,Pu) else (n,k)).lookup x=some .cell\/
   (ns.map fun (n,k)=>if (k == MO && env.scope.kind == .function && env.kindOf n == some .cell) then (n,Pu) else (n,k)).lookup x=some .free:=by
  intro ns
  induction ns with
  | nil=>intro q; rcases q with q | q <;> simp at q
  | cons y r ih=>
   obtain ⟨n,k'⟩:=y
   intro q
   rw [LA]
   rw [My] at q
   by_cases hc:(k' == MO && env.scope.kind == .function && env.kindOf n == some .cell)=true
   ·simp only [hc,if_true]
    rw [My]
    cases e:x == n with
    | true=>exact .inl rfl
    | false=>rw [e] at q; exact ih q
   ·simp only [hc]
    rw [if_neg (by simp),My]
    cases e:x == n with
    | true=>rw [e] at q; exact q
    | false=>rw [e] at q; exact ih q
 exact go scope.names h
theorem Fa {inner outer:Scope} {cl:List (Str×Addr)} {C:Addr} {env:Env} (h:∀ y∈inner.names,y.2=.free->outer.names.lookup y.1=some .cell\/outer.names.lookup y.1=some .free):
  ∀ y∈inner.names,y.2=.free->(Sd outer cl C env).scope.names.lookup y.1=some .cell\/(Sd outer cl C env).scope.names.lookup y.1=some .free:=fun y hy hk=>Aj (h y hy hk)
end
end L2
section
namespace L2
open PySem
noncomputable def Rs (xs:List Nat):Prop:=xs.Pairwise (· < ·)
theorem xv (xs:Array Nat) (i d:Nat) (h:i < xs.size):xs.getD i d=xs.toList[i]'(by simpa using h):=by
 rw [Sk,dif_pos h]
 simp
theorem wB (xs:Array Nat) (j:Nat) (hr:Rs xs.toList):∀ (fuel lo hi:Nat),hi - lo<=fuel->lo<=hi->hi<=xs.size->(∀ i (h:i < xs.toList.length),i < lo->xs.toList[i] < j)->(∀ i (h:i < xs.toList.length),hi<=i->j<=xs.toList[i])->
  lo<=NS xs j fuel lo hi/\NS xs j fuel lo hi<=hi/\(∀ i (h:i < xs.toList.length),i < NS xs j fuel lo hi->xs.toList[i] < j)/\(∀ i (h:i < xs.toList.length),NS xs j fuel lo hi<=i->j<=xs.toList[i])
 | 0,lo,hi,hf,hl,hs,h1,h2=>by
  have e:hi=lo:=by omega
  subst e
  exact ⟨Le _,Le _,h1,h2⟩
 | fuel + 1,lo,hi,hf,hl,hs,h1,h2=>by
  have eq:NS xs j (fuel + 1) lo hi=(if lo < hi then (if xs.getD ((lo + hi) / 2) j < j then NS xs j fuel ((lo + hi) / 2 + 1) hi else NS xs j fuel lo ((lo + hi) / 2)) else lo):=rfl
  by_cases hlt:lo < hi
  ·have hm:(lo + hi) / 2 < xs.size:=by omega
   have hm':(lo + hi) / 2 < xs.toList.length:=by simpa using hm
   have pw:=Oe.mp hr
   rw [if_pos hlt,xv xs _ _ hm] at eq
   by_cases hc:xs.toList[(lo + hi) / 2] < j
   ·rw [if_pos hc] at eq
    obtain ⟨a,b,c,d⟩:=wB xs j hr fuel ((lo + hi) / 2 + 1) hi (by omega) (by omega) hs (fun i h hi'=>by
     rcases SX i ((lo + hi) / 2) with z | z
     ·have:=pw i ((lo + hi) / 2) h hm' z
      omega
     ·have e:i=(lo + hi) / 2:=by omega
      subst e
      exact hc) h2
    rw [eq]
    exact ⟨by omega,b,c,d⟩
   ·rw [if_neg hc] at eq
    obtain ⟨a,b,c,d⟩:=wB xs j hr fuel lo ((lo + hi) / 2) (by omega) (by omega) (by omega) h1 (fun i h hi'=>by
     rcases SX ((lo + hi) / 2) i with z | z
     ·have:=pw ((lo + hi) / 2) i hm' h z
      omega
     ·have e:i=(lo + hi) / 2:=by omega
      subst e
      omega)
    rw [eq]
    exact ⟨a,by omega,c,d⟩
  ·rw [if_neg hlt] at eq
   have e:hi=lo:=by omega
   subst e
   rw [eq]
   exact ⟨Le _,Le _,h1,h2⟩
theorem kI (xs:Array Nat) (j:Nat) (hr:Rs xs.toList):LK xs j<=xs.size/\(∀ i (h:i < xs.toList.length),i < LK xs j->xs.toList[i] < j)/\(∀ i (h:i < xs.toList.length),LK xs j<=i->j<=xs.toList[i]):=by
 obtain ⟨_,b,c,d⟩:=wB xs j hr xs.size 0 xs.size (by omega) (Me _) (Le _) (fun i h z=>absurd z (Oy _)) (fun i h z=>absurd (by simpa using h) (QY.mpr z))
 exact ⟨b,c,d⟩
theorem CN (xs:Array Nat) (hr:Rs xs.toList) {i:Nat} (h:i < xs.toList.length):LK xs (xs.toList[i] + 1)=i + 1:=by
 obtain ⟨b,c,d⟩:=kI xs (xs.toList[i] + 1) hr
 have pw:=Oe.mp hr
 rcases QT (LK xs (xs.toList[i] + 1)) (i + 1) with z | z | z
 ·have:=d i h (by omega)
  omega
 ·exact z
 ·have hi:i + 1 < xs.toList.length:=by simp at *; omega
  have:=c (i + 1) hi (by omega)
  have:=pw i (i + 1) h hi (by omega)
  omega
theorem CO (xs:Array Nat) (hr:Rs xs.toList):LK xs 0=0:=by
 obtain ⟨b,c,_⟩:=kI xs 0 hr
 rcases O8 (LK xs 0) with z | z
 ·exact z
 ·have h0:0 < xs.toList.length:=by simp; omega
  have:=c 0 h0 z
  omega
theorem Ki (xs:Array Nat) (hr:Rs xs.toList) {j:Nat} (hj:j∉xs.toList):Rs (LF.insertAt xs (LK xs j) j).toList:=by
 obtain ⟨b,c,d⟩:=kI xs j hr
 rw [LF.toList_insertAt]
 have hr':(xs.toList.take (LK xs j)++xs.toList.drop (LK xs j)).Pairwise (· < ·):=by rw [OL]; exact hr
 rw [P3] at hr'
 obtain ⟨p1,p2,p3⟩:=hr'
 have lo:∀ a∈xs.toList.take (LK xs j),a < j:=fun a ha=>by
  obtain ⟨i,hi,rfl⟩:=P4.mp ha
  rw [List.getElem_take]
  have hi':i < min (LK xs j) xs.toList.length:=by simpa using hi
  exact c i (by omega) (by omega)
 have hi:∀ a∈xs.toList.drop (LK xs j),j < a:=fun a ha=>by
  obtain ⟨i,hi,rfl⟩:=P4.mp ha
  rw [List.getElem_drop]
  have hl:i < xs.toList.length - LK xs j:=by simpa using hi
  have h1:LK xs j + i < xs.toList.length:=by omega
  have:=d _ h1 (M4 _ _)
  rcases O9 this with z | z
  ·exact z
  ·exact absurd (z ▸ Om h1) hj
 refine P3.mpr ⟨p1,Qz.mpr ⟨hi,p2⟩,fun a ha x hx=>?_⟩
 rcases Lh.mp hx with rfl | hx
 ·exact lo a ha
 ·exact p3 a ha x hx
theorem Gw {xs:Array Nat} (hr:Rs xs.toList) {j:Nat} (h:¬ (xs[LK xs j]? == some j)=true):j∉xs.toList:=fun hm=>by
 obtain ⟨b,c,d⟩:=kI xs j hr
 obtain ⟨k,hk,e⟩:=P4.mp hm
 have pw:=Oe.mp hr
 have h1:LK xs j<=k:=Q5 fun z=>by
  have:=c k hk z
  omega
 have h2:LK xs j=k:=by
  rcases O9 h1 with z | z
  ·have hl:LK xs j < xs.toList.length:=by omega
   have:=d _ hl (Le _)
   have:=pw _ k hl hk z
   omega
  ·exact z
 refine h ?_
 rw [h2,<-N3,Ld hk,e]
 exact beq_self_eq_true _
theorem Fb {t:LF} (hr:Rs t.place.toList) {j:Nat} (h:∀ i,t.slot j≠.live i):j∉t.place.toList:=by
 refine Gw hr fun z=>?_
 have:=h (LK t.place j)
 unfold LF.slot at this
 rw [if_pos z] at this
 exact this rfl
theorem oB {t:LF} {f:Nat->Int} {h:Int}:∀ (fuel:Nat) (p:LF.Probe) {j:Nat} {d:Option Nat},(∀ x,p.dummy=some x->∀ i,t.slot x≠.live i)->Te t f h fuel p=some (.empty j d)->∀ i,t.slot (d.getD j)≠.live i
 | 0,_,_,_,_,e=>by cases e
 | fuel + 1,p,j,d,hd,e=>by
  have ha:∀ q:LF.Probe,(t.advance q).dummy=q.dummy:=fun q=>by
   unfold LF.advance
   split <;> rfl
  unfold Te at e
  cases hs:t.slot p.j with
  | empty=>
   rw [hs] at e
   injection e with e
   injection e with e1 e2
   subst e1 e2
   intro i
   cases hx:p.dummy with
   | none=>show t.slot p.j≠_; rw [hs]; intro z; cases z
   | some x=>exact hd x hx i
  | dummy=>
   rw [hs] at e
   refine oB fuel _ (fun x hx i=>?_) e
   rw [ha] at hx
   cases hx
   rw [hs]; intro z; cases z
  | live k=>
   rw [hs] at e
   dsimp only at e
   split at e
   ·cases e
   ·exact oB fuel _ (fun x hx=>hd x (by rw [ha] at hx; exact hx)) e
theorem CP {t:LF} (hr:Rs t.place.toList) {h:Int} {j:Nat} {b:Bool} (e:t.freeSlot h=some (j,b)):j∉t.place.toList:=by
 unfold LF.freeSlot at e
 split at e
 ·rename_i j' d' he
  cases e
  exact Fb hr (oB _ _ (fun x hx=>by cases hx) he)
 ·cases e
theorem Gx (n:Nat):Rs (Array.range n).toList:=by
 rw [Array.toList_range]
 exact OF
theorem kJ (t:LF) (n:Nat):Rs (t.standIn n).place.toList:=Gx n
theorem Fc {t:LF} (hr:Rs t.place.toList) (es:Array (Int×Value)) (h:Int) (x:Value):Rs (layNew t es h x).2.1.place.toList/\(layNew t es h x).2.1.led=t.led:=by
 unfold layNew
 split
 ·rename_i slot wd he
  dsimp only
  unfold LF.orStandIn
  split
  ·exact ⟨Ki _ hr (CP hr he),rfl⟩
  ·exact ⟨kJ _ _,rfl⟩
 ·exact ⟨kJ _ _,rfl⟩
theorem IU {mask finger moves:Nat} {led plain:Bool} {hs:Array Int} {t:LF} {o:Array Nat} (e:LF.laid mask finger moves led plain hs=some (t,o)):Rs t.place.toList/\t.led=led:=by
 unfold LF.laid at e
 obtain ⟨owner,_,e⟩:=Option.bind_eq_some_iff.mp e
 cases e
 refine ⟨?_,rfl⟩
 show ((((Lv (mask + 1)).filterMap fun j=>(owner.getD j none).map (j,·)).map (·.1)).toArray).toList.Pairwise (· < ·)
 have sub:List.Sublist (((Lv (mask + 1)).filterMap fun j=>(owner.getD j none).map (j,·)).map (·.1)) (Lv (mask + 1)):=by
  rw [List.map_filterMap]
  have:∀ l:List Nat,List.Sublist (l.filterMap fun j=>((owner.getD j none).map (j,·)).map (·.1)) l:=by
   intro l
   induction l with
   | nil=>exact .slnil
   | cons a l ih=>
    rw [OY]
    cases owner.getD a none with
    | none=>exact .cons _ ih
    | some v=>exact .cons₂ _ ih
  exact this _
 exact OF.sublist sub
theorem Bb {t:LF} (hr:Rs t.place.toList) (es:Array (Int×Value)) (wanted:Nat):Rs (Ql t es wanted).2.1.place.toList/\(Ql t es wanted).2.1.led=t.led:=by
 unfold Ql
 split
 ·rename_i t' order he
  dsimp only
  split
  ·exact IU he
  ·exact ⟨kJ _ _,rfl⟩
 ·exact ⟨kJ _ _,rfl⟩
end L2
end
section
namespace L2
open PySem
section
variable {prog:Program} {w:World} {K:Type} [DecidableEq K] {knd:KeyKind prog w K} {A:Around} {E:Value->Shared->Prop} {s:Shared}
noncomputable def Ent (knd:KeyKind prog w K) (k:K) (e:Int×Value):Prop:=knd.is k e.2=true/\e.1=knd.hash k/\e.2.scannable=true
inductive bY {α β:Type} (F:α->β->Prop):List α->List β->Prop
 | nil:bY F [] []
 | cons {a b l m}:F a b->bY F l m->bY F (a :: l) (b :: m)
theorem bY.len {α β:Type} {F:α->β->Prop} {l:List α} {m:List β} (h:bY F l m):l.length=m.length:=by
 induction h with
 | nil=>rfl
 | cons _ _ ih=>rw [LP,LP,ih]
theorem bY.app {α β:Type} {F:α->β->Prop} {l l':List α} {m m':List β} (h:bY F l m) (h':bY F l' m'):bY F (l++l') (m++m'):=by
 induction h with
 | nil=>exact h'
 | cons r _ ih=>exact .cons r ih
theorem bY.right {α β:Type} {F:α->β->Prop} {l:List α} {m:List β} (h:bY F l m):∀ b∈m,∃ a∈l,F a b:=by
 induction h with
 | nil=>intro b hb; cases hb
 | cons r _ ih=>
  intro b hb
  rcases Lh.mp hb with rfl | hb
  ·exact ⟨_,Lj,r⟩
  ·obtain ⟨a,ha,f⟩:=ih b hb
   exact ⟨a,Ln _ ha,f⟩
theorem bY.perm {α β:Type} {F:α->β->Prop} {m m':List β} (p:ML m m'):∀ {l:List α},bY F l m->∃ l',ML l l'/\bY F l' m':=by
 induction p with
 | nil=>intro l h; cases h; exact ⟨[],.nil,.nil⟩
 | cons b _ ih=>
  intro l h
  cases h with
  | cons r t=>
   obtain ⟨l',p,q⟩:=ih t
   exact ⟨_ :: l',.cons _ p,.cons r q⟩
 | swap b c m=>
  intro l h
  cases h with
  | cons r t=>cases t with
   | cons r' t'=>exact ⟨_,.swap _ _ _,.cons r' (.cons r t')⟩
 | trans _ _ ih1 ih2=>
  intro l h
  obtain ⟨l1,p1,q1⟩:=ih1 h
  obtain ⟨l2,p2,q2⟩:=ih2 q1
  exact ⟨l2,p1.trans p2,q2⟩
noncomputable def dq (knd:KeyKind prog w K) (h:Heap) (a:Addr) (ks:List K) (led:Bool):Prop:=
 ∃ o es ep t,h.get? a=some o/\o.ExactSet/\o.data=.set es ep t/\bY (Ent knd) ks es.toList/\ks.Nodup/\es.size < Pa/\t.fits es.size=true/\Rs t.place.toList/\t.led=led
theorem Kj {ks:List K} {l:List (Int×Value)} (h:bY (Ent knd) ks l):ElemsOf knd l:=fun e he=>by
 obtain ⟨k,_,f1,f2,f3⟩:=h.right e he
 exact ⟨⟨k,f1,f2⟩,f3⟩
theorem stored {h:Heap} {a:Addr} {o:Obj} {es es':Array (Int×Value)} {ep:Nat} {t t':LF} {ks':List K} {led:Bool} (g1:h.get? a=some o) (g2:o.ExactSet) (g3:o.data=.set es ep t) (pr:bY (Ent knd) ks' es'.toList) (nd:ks'.Nodup) (sb:es'.size < Pa) (ft:t'.fits es'.size=true) (rs:Rs t'.place.toList) (ld:t'.led=led):
  (h.update a (QZ es' t')).get? a=some { o with data:=.set es' (ep + 1) t' }/\dq knd (h.update a (QZ es' t')) a ks' led:=by
 have hg:(h.update a (QZ es' t')).get? a=some { o with data:=.set es' (ep + 1) t' }:=by
  have z:=Mh (QZ es' t') g1 (by rw [putSet_of _ _ g3]; rfl)
  rw [z,putSet_of _ _ g3]
 exact ⟨hg,_,es',ep + 1,t',hg,g2,rfl,pr,nd,sb,ft,rs,ld⟩
theorem Gy {ks:List K} {l:List (Int×Value)} {k:K} (h:bY (Ent knd) ks l) {j:Nat} (e:l.findIdx? (fun e=>knd.is k e.2)=some j):k∈ks:=by
 obtain ⟨hj,hp,_⟩:=NA.mp e
 obtain ⟨k',hk',f1,_⟩:=h.right _ (Om hj)
 exact knd.inj _ _ _ hp f1 ▸ hk'
theorem Fd {ks:List K} {l:List (Int×Value)} {k:K} (h:bY (Ent knd) ks l) (e:l.findIdx? (fun e=>knd.is k e.2)=none):k∉ks:=by
 have n:=O1.mp e
 induction h with
 | nil=>intro z; cases z
 | cons r _ ih=>
  intro z
  rcases Lh.mp z with rfl | z
  ·have:=n _ Lj
   rw [r.1] at this
   cases this
  ·exact ih (O1.mpr fun e he=>n e (Ln _ he)) (fun e he=>n e (Ln _ he)) z
theorem xy {g:Bool->Sem Unit} (hg:∀ (b:Bool) (z:Shared) (P:Unit->Shared->Prop),P () z->wpAny (model prog w) A (g b) P E z) {a:Addr} {o:Obj} {es fs:Array (Int×Value)} {ep:Nat} {t u:LF} {ks:List K} {led wd:Bool}
  (g1:s.heap.get? a=some o) (g2:o.ExactSet) (g3:o.data=.set es ep t) (kq:bY (Ent knd) ks fs.toList) (nd:ks.Nodup) (sb:fs.size < Pa) (fu:u.fits fs.size=true) (ru:Rs u.place.toList) (lu:u.led=led) {R:Option Bool->Shared->Prop}
  (q:∀ h' ks',LC a s.heap h'->dq knd h' a ks' led->ML ks' ks->R (some true) { s with heap:=h' }):
  wpAny (model prog w) A (storeSet a fs u >>= fun _=>if (!wd && u.tooFull)=true then (g (Ql u fs (Oi fs.size)).2.2 >>= fun _=>storeSet a (Ql u fs (Oi fs.size)).1 (Ql u fs (Oi fs.size)).2.1 >>= fun _=>pure (some true)) else pure (some true)) R E s:=by
 apply La
 refine Tf g1 g3 ?_ (Tg sb)
 obtain ⟨g4,R1⟩:=stored (knd:=knd) g1 g2 g3 kq nd sb fu ru lu
 have b1:=Mi s.heap a (QZ fs u)
 split
 ·have pm:=relayAll_perm u fs (Oi fs.size)
  have pf:=relayAll_fits u fs (Oi fs.size)
  have ⟨pr,pl⟩:=Bb ru fs (Oi fs.size)
  generalize Ql u fs (Oi fs.size)=L at *
  obtain ⟨fs',u',gv⟩:=L
  dsimp only at pm pf pr pl ⊢
  obtain ⟨ks',kp,kq'⟩:=bY.perm pm.symm kq
  have hz:fs'.size=fs.size:=by rw [<-LV,pm.length_eq,LV]
  apply La
  apply hg
  apply La
  refine Tf g4 rfl ?_ (Tg (by rw [hz]; exact sb))
  obtain ⟨_,R2⟩:=stored (knd:=knd) g4 g2 rfl kq' (kp.nodup_iff.mp nd) (by rw [hz]; exact sb) pf pr (pl.trans lu)
  exact Lc (q _ ks' (b1.trans (Mi _ a _)) R2 kp.symm)
 ·exact Lc (q _ ks b1 R1 (ML.refl _))
theorem IV {a:Addr} {ks:List K} {led:Bool} {k:K} {x:Value} {Q:Bool->Shared->Prop} (hk:knd.is k x=true) (hx:x.scannable=true) (R:dq knd s.heap a ks led) (room:ks.length + 1 < Pa)
  (q:∀ h' ks' b,LC a s.heap h'->dq knd h' a ks' led->(∀ y,y∈ks'↔y∈ks\/y=k)->ks'.length<=ks.length + 1->Q b { s with heap:=h' }):wpAny (model prog w) A (setAddHashed a x (knd.hash k)) Q E s:=by
 obtain ⟨o,es,ep,t,g1,g2,g3,pr,nd,sb,ft,rs,ld⟩:=id R
 have el:=Kj pr
 have hlen:ks.length=es.size:=by rw [pr.len,LV]
 unfold setAddHashed setAddHashedIn
 apply Mx
 apply La
 apply MN g1 g3 ft
 dsimp only
 rw [if_pos (byScan_of hx sb el)]
 unfold setAddByScan
 apply La
 apply La
 apply NC
 apply La
 apply wpAny_setScan_of hk g1 g3 ft el
 cases fe:List.findIdx? (fun e=>knd.is k e.2) es.toList with
 | some j=>
  dsimp only
  apply Lc
  apply Lc
  have z:=q s.heap ks false (Th a s.heap) R (fun y=>⟨.inl,fun h=>h.elim id fun e=>e ▸ Gy pr fe⟩) (Og _)
  cases s
  exact z
 | none=>
  dsimp only
  have hk0:=Fd pr fe
  have pm:=layNew_perm t es (knd.hash k) x
  have pf:=layNew_fits t es (knd.hash k) x
  have ⟨pr1,pl1⟩:=Fc rs es (knd.hash k) x
  generalize layNew t es (knd.hash k) x=L at *
  obtain ⟨es1,t1,wd,gv⟩:=L
  dsimp only at pm pf pr1 pl1 ⊢
  rw [QU] at pm
  obtain ⟨ks1,kp,kq⟩:=bY.perm pm.symm (pr.app (.cons (⟨hk,rfl,hx⟩:Ent knd k (knd.hash k,x)) .nil))
  have hz:es1.size=es.size + 1:=by rw [<-LV,pm.length_eq,Lz,LV]; rfl
  have sb1:es1.size < Pa:=by rw [hz,<-hlen]; exact room
  have nd1:ks1.Nodup:=kp.nodup_iff.mp (Td.mpr ⟨nd,Ri _ _,fun y hy z hz' e=>hk0 (by rw [Lg] at hz'; rw [<-hz',<-e]; exact hy)⟩)
  have fin:∀ h' ks',LC a s.heap h'->dq knd h' a ks' led->ML ks' ks1->Q true { s with heap:=h' }:=fun h' ks' b R' pp=>
   q h' ks' true b R' (fun y=>by rw [pp.mem_iff,<-kp.mem_iff,LU,Lg]) (by rw [pp.length_eq,<-kp.length_eq,Lz]; exact Le _)
  apply La
  have gw:∀ (b:Bool) (z:Shared) (P:Unit->Shared->Prop),P () z->wpAny (model prog w) A (match b with | true=>rule "set.scan.the-table-gave-way" | false=>pure ()) P E z:=fun b z P hP=>by cases b <;> first | exact Lc hP | exact NC hP
  refine gw gv _ _ ?_
  split
  ·apply La
   rw [hashByValue_scannable 8 hx]
   apply Lc
   refine xy (led:=led) (fun b z P hP=>by cases b <;> first | exact Lc hP | exact NC hP) g1 g2 g3 kq nd1 sb1 ?_ ?_ ?_ fun h' ks' b R' pp=>?_
   ·split
    ·exact pf
    ·exact LF.fits_plain_off pf
   ·split <;> exact pr1
   ·split <;> exact pl1.trans ld
   ·exact Lc (fin h' ks' b R' pp)
  ·apply La
   apply Lc
   simp only [↓reduceIte]
   refine xy (led:=led) (fun b z P hP=>by cases b <;> first | exact Lc hP | exact NC hP) g1 g2 g3 kq nd1 sb1 pf pr1 (pl1.trans ld) fun h' ks' b R' pp=>?_
   exact Lc (fin h' ks' b R' pp)
end
end L2
end
namespace L2
open PySem PyProof.Rows
section
open PySem.Spec
section
variable {prog:Program} {w:World} {K:Type} [DecidableEq K] {knd:KeyKind prog w K} {A:Around} {R:Result->Shared->Prop} {I:Addr} {fp wr:List Addr} {G:Array R3->Array R3->Prop} {n:Nat} {P:Nat->Value->Prop} {St:Nat->Shared->Prop}
theorem dq.at {h h':Heap} {a:Addr} {ks:List K} {led:Bool} (r:dq knd h a ks led) (k:∀ o,h.get? a=some o->h'.get? a=some o):dq knd h' a ks led:=by
 obtain ⟨o,es,ep,t,e,z⟩:=r
 exact ⟨o,es,ep,t,k o e,z⟩
theorem Gz (W:WalksS prog w A.in1 I fp wr G n P St) (S:Addr) (free:S∉fp) (key:Nat->K) (hkey:∀ i v,P i v->knd.is (key i) v=true/\v.scannable=true) (room:n + 1 < Pa) {led:Bool}:
  ∀ (m i:Nat) (s:Shared) (ks:List K),n - i=m->i<=n->St i s->dq knd s.heap S ks led->(∀ y,y∈ks↔∃ j,j < i/\key j=y)->ks.length<=i->
   (∀ s' ks',Moved (S :: wr) G s s'->dq knd s'.heap S ks' led->(∀ y,y∈ks'↔∃ j,j < n/\key j=y)->R (.ok (.ret .none)) s')->
   codeAny (model prog w) A (.builtin "set.update.loop" ⟨[.ref S,.ref I],[]⟩) R s:=by
 have nw:S∉wr:=fun z=>free (W.sub _ z)
 have up:∀ b∈wr,b∈S :: wr:=fun b z=>Ln _ z
 intro m
 induction m with
 | zero=>
  intro i s ks hm hi st r mem len done
  obtain rfl:i=n:=by omega
  apply M0 Rj
  rw [ME Pj _]
  show wpAny _ A.in1 (pyNext (.ref I) >>= _) _ _ s
  apply La
  refine W.done s _ _ st fun z mv=>?_
  show wpAny _ A.in1 (ret MB) _ _ z
  exact Lc (done z ks (mv.mono up) (r.at fun o e=>mv.heap S _ nw e) mem)
 | succ m ih=>
  intro i s ks hm hi st r mem len done
  have lt:i < n:=by omega
  apply M0 Rj
  rw [ME Pj _]
  show wpAny _ A.in1 (pyNext (.ref I) >>= _) _ _ s
  apply La
  refine W.item i s _ _ lt st fun v z pv stz mv=>?_
  obtain ⟨kv,sv⟩:=hkey i v pv
  have rz:dq knd z.heap S ks led:=r.at fun o e=>mv.heap S _ nw e
  show wpAny _ A.in1 (holding [v] (setAdd S v) >>= _) _ _ z
  apply La
  apply Mx
  unfold setAdd
  apply Mx
  apply La
  refine knd.pyHash kv ?_
  refine IV (s:={ z with toks:=z.toks + 1 }) kv sv rz (by omega) fun h' ks' b sb r' mem' len'=>?_
  refine Lc ⟨NT Pj _,ih (i + 1) _ ks' (by omega) lt (W.frame _ z _ _ stz (Og _) fun c hc o e=>?_) r' (fun y=>?_) (by omega) fun z' ks2 mv2 r2 mem2=>?_⟩
  ·rw [sb.2 c (fun e':c=S=>free (by rw [<-e']; exact hc))]
   exact e
  ·rw [mem',mem]
   constructor
   ·rintro (⟨j,hj,e⟩ | e)
    ·exact ⟨j,by omega,e⟩
    ·exact ⟨i,by omega,e.symm⟩
   ·rintro ⟨j,hj,e⟩
    rcases SX j i with q | q
    ·exact .inl ⟨j,q,e⟩
    ·have:j=i:=by omega
     subst this
     exact .inr e.symm
  ·refine done z' ks2 (Moved.trans W.gtrans ((mv.mono up).then_heap (Og _) fun c o hc e=>?_) mv2) r2 mem2
   rw [sb.2 c (fun e':c=S=>hc (by rw [e']; exact Lj))]
   exact e
end
end
section
open PySem.Spec
section
variable {prog:Program} {w:World} {A:Around} {E:Value->Shared->Prop} {s:Shared}
noncomputable def dS (w:World):Bool:=w.params.followText "set-order"
noncomputable abbrev mU (w:World):Obj:={ cls:=.type "set",dict:=none,data:=.set #[] 0 (.fresh 0 0 (!dS w)) }
theorem GB (x:Value) {Q:Value->Shared->Prop} (q:Q (.ref s.heap.objs.size) { s with heap:=s.heap.push (mU w) }):codeAny (model prog w) A (.call (.builtin "set.__new__") ⟨[.type "set",x],[]⟩) (wants Q E) s:=by
 apply Rv
 show wpAny _ A.in1 (do T1 "set.__new__" ⟨[.type "set",x],[]⟩; again (.builtin "set.__new__" ⟨[.type "set",x],[]⟩)) _ _ s
 apply La
 apply Qo (PySem.F.newCall_set_1 x)
 refine Lc ⟨NT RS _,?_⟩
 apply M0 PySem.F.entry_set_new
 rw [ME RS _]
 unfold Builtin.«set.__new__»
 unfold Builtin.Frozenset.newClass
 have self_:=sub_set_self
 obtain ⟨hp,g,d,tk,os⟩:=s
 dsimp only
 wp_walk
 apply Re
 apply Lc
 dsimp only
 simp only [newObj]
 apply La
 apply wpAny_alloc
 apply Lc
 exact Lc q
theorem dq.new {K:Type} [DecidableEq K] {knd:KeyKind prog w K} {h:Heap} {a:Addr} (e:h.get? a=some (mU w)):dq knd h a [] (!dS w):=
 ⟨_,#[],0,_,e,⟨rfl,rfl,rfl⟩,rfl,.nil,.nil,by decide,rfl,.nil,rfl⟩
end
end
section
open PySem.Spec
section
variable {prog:Program} {w:World} {K:Type} [DecidableEq K] {knd:KeyKind prog w K} {A:Around} {E:Value->Shared->Prop} {s:Shared}
theorem IW {l:Addr} {xs:Array Value} (key:Nat->K) {Q:Value->Shared->Prop} (calm:A.handled=none) (hl:s.heap.IsList l xs) (hkey:∀ i v,xs[i]?=some v->knd.is (key i) v=true/\v.scannable=true) (room:xs.size + 1 < Pa)
  (q:∀ (h':Heap) (tk:Nat) (ks:List K),dq knd h' s.heap.objs.size ks (!dS w)->(∀ y,y∈ks↔∃ j,j < xs.size/\key j=y)->(∀ b o,b < s.heap.objs.size->s.heap.get? b=some o->h'.get? b=some o)->Q (.ref s.heap.objs.size) { s with heap:=h',toks:=tk }):
  wpAny (model prog w) A (call (.type "set") [.ref l]) Q E s:=by
 have ft:=PySem.F.called_set
 obtain ⟨c0,tl0,mro0⟩:=ft.mro
 have made0:=ft.made
 have sub0:=ft.sub
 have not0:=ft.notType
 have can0:=ft.canCreate
 have chk0:=PySem.F.typeCall_set_1 (.ref l)
 apply T8
 apply Rv
 show wpAny _ _ (callAny (.type "set") _) _ _ _
 refine Lc ⟨Code.quiet_builtin _ (by decide +kernel),?_⟩
 apply M0 PySem.F.entry_type_call
 rw [Around.under_plain (weight_type_call_type "set" [.ref l] []) rfl]
 repeat (any_goals (first | assumption | wp_step))
 refine Oj (GB (.ref l) (E:=E) (Q:=fun ob z=>ob=.ref s.heap.objs.size/\z={ s with heap:=s.heap.push (mU w) }) ⟨rfl,rfl⟩) fun r z hz=>?_
 cases r with
 | error e=>exact hz
 | ok fl=>
  cases fl with
  | next=>exact hz.elim
  | brk=>exact hz.elim
  | cont=>exact hz.elim
  | ret ob=>
   obtain ⟨rfl,rfl⟩:=hz
   have got:(s.heap.push (mU w)).get? s.heap.objs.size=some (mU w):=Lk _ rfl
   have isT:QI { s with heap:=s.heap.push (mU w) } (.ref s.heap.objs.size) "set":=⟨_,got,rfl⟩
   have look0:=ft.init.lookup
   have bind0:=ft.init.bind (.ref s.heap.objs.size)
   repeat (any_goals (first | assumption | wp_step))
   refine Oj (codeAny_call_builtin (R:=wants (fun r z=>r=.none/\∃ h' tk ks,z={ s with heap:=h',toks:=tk }/\dq knd h' s.heap.objs.size ks (!dS w)/\(∀ y,y∈ks↔∃ j,j < xs.size/\key j=y)/\∀ b o,b < s.heap.objs.size->s.heap.get? b=some o->h'.get? b=some o) E) ft.init.plain PySem.F.entry_set_init (check_set_init_1 isT ?_)) fun r z hz=>?_
   ·obtain ⟨ob,gl,cl,nl,dl⟩:=hl
    obtain ⟨a1,a2,a3,a4⟩:=ob
    simp only at cl dl
    subst cl dl
    have gl1:(s.heap.push (mU w)).get? l=some { cls:=.type "list",dict:=a2,data:=.seq xs nl,slots:=a4 }:=Lb _ gl
    have sls:=PySem.F.sub_list_set
    have slf:=PySem.F.sub_list_frozenset
    have nd0:(MC "list" == MC "dict")=false:=by decide
    have il:(s.heap.push (mU w)).IsList l xs:=⟨_,gl1,rfl,nl,rfl⟩
    unfold Builtin.«set.__init__»
    unfold noKeywords
    unfold Builtin.Frozenset.updateFrom
    generalize gPI:pyIter=PI
    wp_walk
    subst gPI
    apply OH il
    apply La
    apply RU
    have lt:l < s.heap.objs.size:=Lm gl
    have sz:(s.heap.push (mU w)).objs.size=s.heap.objs.size + 1:=Ma _ _
    have fr:s.heap.objs.size∉[(s.heap.push (mU w)).objs.size,l]:=by
     rw [sz]
     intro hm
     rcases Lh.1 hm with e | hm
     ·exact absurd e (LR (MS _))
     ·rcases Lh.1 hm with e | hm
      ·exact absurd e.symm (LR lt)
      ·exact nomatch hm
    refine Gz (knd:=knd) ((Ue (by simp [calm]) _ l (by rw [sz]; exact LR (MM lt)) xs).toS) s.heap.objs.size fr key (fun i v hv=>hkey i v hv) room (led:=!dS w) (xs.size - 0) 0 _ [] (by omega) (Me _) ⟨⟨_,Lk _ rfl,rfl,rfl⟩,il.push _⟩ (dq.new (Lb _ got)) (fun y=>⟨fun z=>(nomatch z),fun ⟨j,hj,_⟩=>absurd hj (Oy _)⟩) (Le _) fun z ks mv r mem=>?_
    obtain ⟨h',g',d',tk',os'⟩:=z
    obtain rfl:g'=s.gens:=mv.gens
    obtain rfl:d'=s.drawn:=mv.drawn
    obtain rfl:os'=s.os:=mv.os
    show wpAny _ _ _ _ _ _
    refine Lc ?_
    show wpAny _ _ (ret MB) _ _ _
    refine Lc ⟨rfl,h',tk',ks,rfl,r,mem,fun b o hb e=>mv.heap b o (fun hm=>?_) (Lb _ (Lb _ e))⟩
    rcases Lh.1 hm with e | hm
    ·exact absurd e (LR hb)
    ·rcases Lh.1 hm with e | hm
     ·rw [sz] at e
      exact absurd e (LR (MM hb))
     ·exact nomatch hm
   ·cases r with
    | error e=>exact hz
    | ok fl=>
     cases fl with
     | next=>exact hz.elim
     | brk=>exact hz.elim
     | cont=>exact hz.elim
     | ret r=>
      obtain ⟨rfl,h',tk,ks,rfl,r1,r2,r3⟩:=hz
      repeat (any_goals (first | assumption | wp_step))
      exact q _ _ ks r1 r2 r3
end
end
section
open PySem.Spec
theorem eZ:Slot "set_iterator" "__next__" "set_iterator.__next__":=by
 refine Slot.of (owner:="set_iterator") (n:="__next__") ?_ ?_ ?_ ?_ ?_ ?_
 ·rw [P7,ON]
  kernel_rfl
 ·decide +kernel
 ·decide +kernel
 ·decide +kernel
 ·first
   | exact .inl (by decide +kernel)
   | exact .inr (by decide +kernel)
 ·rw [RV]
  kernel_rfl
theorem BO:Slot "set_iterator" "__iter__" "set_iterator.__iter__":=by
 refine Slot.of (owner:="set_iterator") (n:="__iter__") ?_ ?_ ?_ ?_ ?_ ?_
 ·rw [P7,ON]
  kernel_rfl
 ·decide +kernel
 ·decide +kernel
 ·decide +kernel
 ·first
   | exact .inl (by decide +kernel)
   | exact .inr (by decide +kernel)
 ·rw [RV]
  kernel_rfl
theorem oC:entryFor table "set_iterator.__next__"=some Builtin.«set_iterator.__next__»:=by
 apply entryFor_of_tree
 kernel_rfl
theorem GC:entryFor table "set_iterator.__iter__"=some Builtin.«dict_keyiterator.__iter__»:=by
 refine entryFor_alias (id':="dict_keyiterator.__iter__") ?_ rfl ?_ ?_
 ·kernel_rfl
 ·decide +kernel
 ·kernel_rfl
theorem IX:entryFor table "set.__iter__"=some Builtin.«frozenset.__iter__»:=by
 refine entryFor_alias (id':="frozenset.__iter__") ?_ rfl ?_ ?_
 ·kernel_rfl
 ·decide +kernel
 ·kernel_rfl
theorem Ak:Manifest.owners.lookup (String.ofList ['r','o','t','a','r','e','t','i','_','t','e','s'].reverse)=some Manifest.sig_set_iterator:=by kernel_rfl
theorem oE (a:Value):argsOk "set_iterator.__next__" ⟨[a],[]⟩:=by
 unfold argsOk
 rw [signature?_of (id:="set_iterator.__next__") (n:=['_','_','t','x','e','n','_','_']) (o:=['r','o','t','a','r','e','t','i','_','t','e','s']) (by kernel_rfl) Ak]
 kernel_rfl
theorem GD (a:Value):argsOk "set_iterator.__iter__" ⟨[a],[]⟩:=by
 unfold argsOk
 rw [signature?_of (id:="set_iterator.__iter__") (n:=['_','_','r','e','t','i','_','_']) (o:=['r','o','t','a','r','e','t','i','_','t','e','s']) (by kernel_rfl) Ak]
 kernel_rfl
end
section
open PySem.Spec
noncomputable def SAt (h:Heap) (a:Addr) (es:Array (Int×Value)) (ep:Nat) (t:LF):Prop:=∃ o,h.get? a=some o/\o.data=.set es ep t/\t.fits es.size=true
noncomputable def dw (h:Heap) (I a:Addr) (f:Value) (i n ep:Nat):Prop:=∃ o,h.get? I=some o/\o.cls=.type "set_iterator"/\o.data=.fields #[f,.int i 0,.ref a,.int n 0,.int ep 0]
theorem SAt.at {h h':Heap} {a:Addr} {es:Array (Int×Value)} {ep:Nat} {t:LF} (x:SAt h a es ep t) (k:∀ o,h.get? a=some o->h'.get? a=some o):SAt h' a es ep t:=by
 obtain ⟨o,e,r⟩:=x
 exact ⟨o,k o e,r⟩
theorem dw.at {h h':Heap} {I a:Addr} {f:Value} {i n ep:Nat} (x:dw h I a f i n ep) (k:∀ o,h.get? I=some o->h'.get? I=some o):dw h' I a f i n ep:=by
 obtain ⟨o,e,r⟩:=x
 exact ⟨o,k o e,r⟩
theorem dw.type {s:Shared} {I a:Addr} {f:Value} {i n ep:Nat} (x:dw s.heap I a f i n ep):s.TypeIs (.ref I) "set_iterator":=by
 obtain ⟨o,e,c,_⟩:=x
 exact ⟨o,e,c⟩
theorem dw.set {h:Heap} {I a:Addr} {f g:Value} {i n ep:Nat} (x:dw h I a f i n ep):dw (h.update I (QJ (·.setIfInBounds 0 g))) I a g i n ep:=by
 obtain ⟨o,e,c,d⟩:=x
 refine ⟨_,Mh _ e (PD (NW d _)),(QQ ..).trans c,?_⟩
 rw [NW d]
 simp
theorem dw.step {h:Heap} {I a:Addr} {f:Value} {i n ep:Nat} (x:dw h I a f i n ep):dw (h.update I (QJ (·.setIfInBounds 1 (rawInt ((i:Int) + 1))))) I a f (i + 1) n ep:=by
 obtain ⟨o,e,c,d⟩:=x
 refine ⟨_,Mh _ e (PD (NW d _)),(QQ ..).trans c,?_⟩
 rw [NW d]
 simp [rawInt]
section
variable {prog:Program} {w:World} {A:Around} {E:Value->Shared->Prop} {s:Shared} {I a:Addr} {es:Array (Int×Value)} {ep:Nat} {t:LF} {i:Nat}
theorem rC {Q:Bool->Shared->Prop} (q:Q (dS w) s):wpAny (model prog w) A setsByText Q E s:=by
 unfold setsByText
 apply La
 apply Re
 exact Lc q
theorem BP {slot:Nat} {Q:Option (Value×Nat)->Shared->Prop} (b:dS w=true) (hs:SAt s.heap a es ep t) (q:Q ((Pb (w.params.setOrder a ep) es)[i]?.map fun e=>(e.2,slot)) s):wpAny (model prog w) A (setNext a slot i ep) Q E s:=by
 obtain ⟨o,g1,g3,ft⟩:=hs
 unfold setNext
 apply La
 apply MN g1 g3 ft
 dsimp only
 apply La
 apply rC
 rw [if_pos b,if_neg (by simp)]
 apply La
 unfold setWalk
 apply La
 apply MN g1 g3 ft
 dsimp only
 apply La
 apply rC
 rw [if_pos b]
 apply La
 apply Re
 apply Lc
 exact Lc q
theorem BQ {slot:Nat} {Q:Option (Value×Nat)->Shared->Prop} (b:dS w=false) (pl:(!t.plain && decide (es.size > 1))=false) (ld:t.led=true) (hs:SAt s.heap a es ep t)
  (q:Q (match es[LK t.place slot]?,t.place[LK t.place slot]? with | some (_,x),some j=>some (x,j + 1) | _,_=>none) s):wpAny (model prog w) A (setNext a slot i ep) Q E s:=by
 obtain ⟨o,g1,g3,ft⟩:=hs
 unfold setNext
 apply La
 apply MN g1 g3 ft
 dsimp only
 apply La
 apply rC
 rw [if_neg (by rw [b]; exact Lq)]
 show wpAny _ _ (if (!t.plain && decide (es.size > 1))=true then _ else _) _ _ _
 rw [if_neg (by rw [pl]; exact Lq)]
 apply La
 show wpAny _ _ (if (!t.led && !es.isEmpty)=true then _ else _) _ _ _
 rw [if_neg (by rw [ld]; simp)]
 apply Lc
 exact Lc q
theorem IY {p:Nat} {x:Int×Value} {Q:Value->Shared->Prop} (hs:SAt s.heap a es ep t) (hx:es[p]?=some x) (q:Q x.2 s):wpAny (model prog w) A (setNextDrawn a p ep) Q E s:=by
 obtain ⟨o,g1,g3,ft⟩:=hs
 unfold setNextDrawn
 apply La
 apply MN g1 g3 ft
 dsimp only
 rw [if_neg (by simp),hx]
 exact Lc q
theorem BR {slot nx:Nat} {x:Value} {Q:Option Value->Shared->Prop} (hit:dw s.heap I a (.int slot 0) i es.size ep) (hs:SAt s.heap a es ep t)
  (hx:∀ (A:Around) (E:Value->Shared->Prop) (Q:Option (Value×Nat)->Shared->Prop),Q (some (x,nx)) s->wpAny (model prog w) A (setNext a slot i ep) Q E s)
  (q:∀ h',dw h' I a (.int nx 0) (i + 1) es.size ep->LC I s.heap h'->Q (some x) { s with heap:=h' }):wpAny (model prog w) A (pyNext (.ref I)) Q E s:=by
 obtain ⟨o,g1,g3,ft⟩:=id hs
 obtain ⟨u,e1,e2,e3⟩:=id hit
 unfold pyNext
 apply La
 apply N6
 refine Mf (name:=Nf "__next__") hit.type eZ ?_
 refine LY eZ hit.type oC ?_ (oE _)
 refine La (Lc ?_)
 refine La (Qm e1 e3 ?_)
 dsimp only
 apply La
 unfold Q0
 apply La
 apply MN g1 g3 ft
 apply Lc
 rw [if_neg (by simp)]
 apply La
 refine hx _ _ _ ?_
 dsimp only
 refine La (NU e1 e3 (by simp) ?_)
 have it1:dw (s.heap.update I (QJ (·.setIfInBounds 0 (rawInt (nx:Int))))) I a (.int nx 0) i es.size ep:=hit.set
 obtain ⟨u',e1',e2',e3'⟩:=id it1
 refine La (NU e1' e3' (by simp) ?_)
 exact Lc ⟨_,rfl,Lc (q _ it1.step ((Mi _ I _).trans (Mi _ I _)))⟩
theorem Fe {slot:Nat} {Q:Option Value->Shared->Prop} (calm:A.handled=none) (hit:dw s.heap I a (.int slot 0) i es.size ep) (hs:SAt s.heap a es ep t)
  (hx:∀ (A:Around) (E:Value->Shared->Prop) (Q:Option (Value×Nat)->Shared->Prop),Q none s->wpAny (model prog w) A (setNext a slot i ep) Q E s)
  (q:∀ h',OX I s.heap h'->Q none { s with heap:=h' }):wpAny (model prog w) A (pyNext (.ref I)) Q E s:=by
 obtain ⟨o,g1,g3,ft⟩:=id hs
 obtain ⟨u,e1,e2,e3⟩:=id hit
 unfold pyNext
 apply La
 apply N6
 refine Mf (name:=Nf "__next__") hit.type eZ ?_
 refine LY eZ hit.type oC ?_ (oE _)
 refine La (Lc ?_)
 refine La (Qm e1 e3 ?_)
 dsimp only
 apply La
 unfold Q0
 apply La
 apply MN g1 g3 ft
 apply Lc
 rw [if_neg (by simp)]
 apply La
 refine hx _ _ _ ?_
 dsimp only
 refine La (NU e1 e3 (by simp) ?_)
 show wpAny _ _ (newExc (.type "StopIteration") [] >>= _) _ _ _
 apply La
 simp only [newExc,TH]
 apply La
 refine Md ?_ (by size_fits)
 apply La
 refine Qo (a:=MB) (by rfl) ?_
 refine Md ?_ (by size_fits)
 simp only [raiseNew]
 refine La (Ss ?_)
 rw [show A.in1.handled=none from calm]
 refine Tr ?_
 apply La
 refine Ni (T:="StopIteration") (b:=true) ?_ Pc ?_
 ·exact ⟨_,Lk _ rfl,rfl⟩
 ·exact Lc (q _ (((Mi _ I _).extBut.push _).push _))
theorem GG {d:Addr} {ps:Array Value} {p:Nat} {x:Int×Value} {Q:Option Value->Shared->Prop} (hit:dw s.heap I a (.ref d) i es.size ep) (hs:SAt s.heap a es ep t) (ht:s.heap.IsTuple d ps) (hp:ps[i]?=some (.int p 0)) (hx:es[p]?=some x)
  (q:∀ h',dw h' I a (.ref d) (i + 1) es.size ep->LC I s.heap h'->Q (some x.2) { s with heap:=h' }):wpAny (model prog w) A (pyNext (.ref I)) Q E s:=by
 obtain ⟨o,g1,g3,ft⟩:=id hs
 obtain ⟨u,e1,e2,e3⟩:=id hit
 unfold pyNext
 apply La
 apply N6
 refine Mf (name:=Nf "__next__") hit.type eZ ?_
 refine LY eZ hit.type oC ?_ (oE _)
 refine La (Lc ?_)
 refine La (Qm e1 e3 ?_)
 dsimp only
 apply La
 unfold Q0
 apply La
 apply MN g1 g3 ft
 apply Lc
 rw [if_neg (by simp)]
 obtain ⟨v,f1,f2,n,f3⟩:=id ht
 apply La
 refine Mv f1 f3 ?_
 dsimp only
 rw [show ((i:Int)).toNat=i from rfl,hp]
 dsimp only
 apply La
 refine IY hs hx ?_
 refine La (NU e1 e3 (by simp) ?_)
 exact Lc ⟨_,rfl,Lc (q _ hit.step (Mi _ I _))⟩
theorem IZ {d:Addr} {ps:Array Value} {Q:Option Value->Shared->Prop} (calm:A.handled=none) (hit:dw s.heap I a (.ref d) i es.size ep) (hs:SAt s.heap a es ep t) (ht:s.heap.IsTuple d ps) (hp:ps[i]?=none)
  (q:∀ h',OX I s.heap h'->Q none { s with heap:=h' }):wpAny (model prog w) A (pyNext (.ref I)) Q E s:=by
 obtain ⟨o,g1,g3,ft⟩:=id hs
 obtain ⟨u,e1,e2,e3⟩:=id hit
 unfold pyNext
 apply La
 apply N6
 refine Mf (name:=Nf "__next__") hit.type eZ ?_
 refine LY eZ hit.type oC ?_ (oE _)
 refine La (Lc ?_)
 refine La (Qm e1 e3 ?_)
 dsimp only
 apply La
 unfold Q0
 apply La
 apply MN g1 g3 ft
 apply Lc
 rw [if_neg (by simp)]
 obtain ⟨v,f1,f2,n,f3⟩:=id ht
 apply La
 refine Mv f1 f3 ?_
 dsimp only
 rw [show ((i:Int)).toNat=i from rfl,hp]
 dsimp only
 refine La (NU e1 e3 (by simp) ?_)
 have it1:dw (s.heap.update I (QJ (·.setIfInBounds 0 (rawInt 0)))) I a (rawInt 0) i es.size ep:=hit.set
 obtain ⟨u',e1',e2',e3'⟩:=id it1
 refine La (NU e1' e3' (by simp) ?_)
 show wpAny _ _ (newExc (.type "StopIteration") [] >>= _) _ _ _
 apply La
 simp only [newExc,TH]
 apply La
 refine Md ?_ (by size_fits)
 apply La
 refine Qo (a:=MB) (by rfl) ?_
 refine Md ?_ (by size_fits)
 simp only [raiseNew]
 refine La (Ss ?_)
 rw [show A.in1.handled=none from calm]
 refine Tr ?_
 apply La
 refine Ni (T:="StopIteration") (b:=true) ?_ Pc ?_
 ·exact ⟨_,Lk _ rfl,rfl⟩
 ·exact Lc (q _ ((((Mi _ I _).trans (Mi _ I _)).extBut.push _).push _))
theorem wC {f:Value} {n:Nat} {Q:Value->Shared->Prop} (hit:dw s.heap I a f i n ep) (q:Q (.ref I) s):wpAny (model prog w) A (pyIter (.ref I)) Q E s:=by
 refine Ti hit.type BO ?_
 refine LY BO hit.type GC ?_ (GD _)
 show wpAny _ _ (ret (.ref I)) _ _ s
 exact Lc ⟨_,rfl,"set_iterator",_,hit.type,eZ.lookup,q⟩
end
end
section
open PySem.Spec
theorem wD {α:Type}:∀ (l:List α) (i:Nat) (h:i < l.length),ML (l[i] :: l.eraseIdx i) l
 | x :: l,0,_=>.refl _
 | x :: l,i + 1,h=>(ML.swap x _ _).trans (.cons x (wD l i (Nat.lt_of_succ_lt_succ h)))
theorem BS {α:Type} (next:Nat->Nat):∀ (fuel k:Nat) (left:List α) (out:Array α),left.length=fuel->ML (Pb.go next fuel k left out).toList (out.toList++left)
 | 0,k,left,out,h=>by
  obtain rfl:=Ot.mp h
  rw [NK]
  exact .refl _
 | fuel + 1,k,left,out,h=>by
  have hl:next k % left.length < left.length:=Si _ (by omega)
  show ML (match left[next k % left.length]? with | some x=>Pb.go next fuel (k + 1) (left.eraseIdx (next k % left.length)) (out.push x) | none=>out).toList _
  rw [Ld hl]
  refine (BS next fuel (k + 1) _ _ (by rw [QK hl,h]; rfl)).trans ?_
  rw [QU,N8]
  exact ML.append_left _ (wD _ _ hl)
theorem qE {α:Type} (next:Nat->Nat) (xs:Array α):ML (Pb next xs).toList xs.toList:=BS next xs.size 0 xs.toList #[] (by simp)
section
variable {prog:Program} {w:World} {A:Around} {E:Value->Shared->Prop} {s:Shared} {I a:Addr} {es:Array (Int×Value)} {ep:Nat} {t:LF} {i:Nat}
theorem GH {src:Source} {n:Nat} {Q:Nat->Shared->Prop} (hn:n≠0) (q:∀ i dr,i < n->Q i { s with drawn:=dr }):wpAny (model prog w) A (choose src n) Q E s:=fun _ _ _=>⟨hn,q _ _ (Si _ (Nat.pos_of_ne_zero hn))⟩
theorem xz {α:Type}:∀ (n:Nat) (xs:List α) (s:Shared) (Q:List α->Shared->Prop),xs.length=n->(∀ ys dr,ML ys xs->Q ys { s with drawn:=dr })->wpAny (model prog w) A (drawOrder n xs) Q E s
 | 0,xs,s,Q,h,q=>by
  obtain rfl:=Ot.mp h
  exact Lc (q [] s.drawn .nil)
 | n + 1,[],s,Q,h,q=>nomatch h
 | n + 1,x :: xs,s,Q,h,q=>by
  unfold drawOrder
  apply La
  refine GH (by simp) fun i dr hi=>?_
  rw [Ld hi]
  dsimp only
  apply La
  refine xz n _ _ _ (by rw [QK hi,h]; rfl) fun ys dr' p=>?_
  exact Lc (q _ _ ((ML.cons _ p).trans (wD _ _ hi)))
noncomputable abbrev Ord (ord:List (Int×Value)) (i:Nat) (v:Value):Prop:=∃ e,ord[i]?=some e/\e.2=v
theorem I0 (calm:A.handled=none) (b:dS w=true) (hne:a≠I):
  Walks prog w A I [I,a] [I] es.size (Ord (Pb (w.params.setOrder a ep) es).toList) (fun i h=>(∃ slot:Nat,dw h I a (.int slot 0) i es.size ep)/\SAt h a es ep t) where
 sub:=fun b hb=>by
  rw [Lg.mp hb]
  exact Lj
 frame:=fun i h h' st k=>⟨st.1.elim fun n z=>⟨n,z.at (k I Lj)⟩,st.2.at (k a (Ln _ Lj))⟩
 item:=fun i s Q E hi st q=>by
  obtain ⟨⟨slot,it⟩,hs⟩:=st
  have len:=(qE (w.params.setOrder a ep) es).length_eq
  have hl:i < (Pb (w.params.setOrder a ep) es).size:=by
   rw [<-LV,len,LV]
   exact hi
  refine BR (x:=(Pb (w.params.setOrder a ep) es)[i].2) (nx:=slot) it hs (fun A E Q h=>BP b hs ?_) fun h' it' sb=>?_
  ·rw [Nc hl]
   exact h
  ·refine q _ h' s.toks ⟨_,?_,rfl⟩ ⟨⟨slot,it'⟩,hs.at fun o e=>?_⟩ fun c o hc e=>?_
   ·rw [N3,Nc hl]
   ·exact sb.extBut a o hne e
   ·exact sb.extBut c o (fun z=>hc (by rw [z]; exact Lj)) e
 done:=fun s Q E st q=>by
  obtain ⟨⟨slot,it⟩,hs⟩:=st
  have len:=(qE (w.params.setOrder a ep) es).length_eq
  have hl:(Pb (w.params.setOrder a ep) es).size<=es.size:=by
   rw [<-LV,len,LV]
   exact Le _
  refine Fe calm it hs (fun A E Q h=>BP b hs ?_) fun h' xb=>q h' s.toks fun c o hc e=>?_
  ·rw [Pt hl]
   exact h
  ·exact xb c o (fun z=>hc (by rw [z]; exact Lj)) e
 self:=fun i s Q E st q=>st.1.elim fun n z=>wC z q
noncomputable def tI (t:LF):Nat->Nat
 | 0=>0
 | j + 1=>t.place.getD j 0 + 1
theorem vc (rs:Rs t.place.toList):∀ i,i<=t.place.size->LK t.place (tI t i)=i
 | 0,_=>CO _ rs
 | j + 1,h=>by
  have hj:j < t.place.size:=h
  have hj':j < t.place.toList.length:=by simpa using hj
  have e:tI t (j + 1)=t.place.toList[j] + 1:=by rw [tI,xv _ _ _ hj]
  rw [e]
  exact CN _ rs hj'
theorem Ja (calm:A.handled=none) (b:dS w=false) (pl:(!t.plain && decide (es.size > 1))=false) (ld:t.led=true) (rs:Rs t.place.toList) (sz:t.place.size=es.size) (hne:a≠I):
  Walks prog w A I [I,a] [I] es.size (Ord es.toList) (fun i h=>dw h I a (.int (tI t i:Nat) 0) i es.size ep/\SAt h a es ep t) where
 sub:=fun b hb=>by
  rw [Lg.mp hb]
  exact Lj
 frame:=fun i h h' st k=>⟨st.1.at (k I Lj),st.2.at (k a (Ln _ Lj))⟩
 item:=fun i s Q E hi st q=>by
  obtain ⟨it,hs⟩:=st
  have hp:i < t.place.size:=by rw [sz]; exact hi
  refine BR (x:=es[i].2) (nx:=tI t (i + 1)) it hs (fun A E Q h=>BQ b pl ld hs ?_) fun h' it' sb=>?_
  ·rw [vc rs i (Mj hp),Nc hi,Nc hp]
   have e:tI t (i + 1)=t.place[i] + 1:=by
    rw [tI,Sk,dif_pos hp]
    rfl
   rw [e] at h
   exact h
  ·refine q _ h' s.toks ⟨_,?_,rfl⟩ ⟨it',hs.at fun o e=>?_⟩ fun c o hc e=>?_
   ·rw [N3,Nc hi]
   ·exact sb.extBut a o hne e
   ·exact sb.extBut c o (fun z=>hc (by rw [z]; exact Lj)) e
 done:=fun s Q E st q=>by
  obtain ⟨it,hs⟩:=st
  refine Fe calm it hs (fun A E Q h=>BQ b pl ld hs ?_) fun h' xb=>q h' s.toks fun c o hc e=>?_
  ·rw [vc rs es.size (by rw [sz]; exact Le _),Pt (Le _)]
   exact h
  ·exact xb c o (fun z=>hc (by rw [z]; exact Lj)) e
 self:=fun i s Q E st q=>wC st.1 q
theorem oj (es:Array (Int×Value)):((Lv es.size).map fun p=>es.getD p (0,.none))=es.toList:=by
 apply List.ext_getElem
 ·simp
 ·intro i h1 h2
  have hi:i < es.size:=by simpa using h2
  rw [List.getElem_map,Qy,Sk,dif_pos hi]
  simp
theorem Jb (calm:A.handled=none) {d:Addr} {ps:List Nat} (pm:ML ps (Lv es.size)) (hne:a≠I) (hd:d≠I):
  Walks prog w A I [I,a,d] [I] es.size (Ord (ps.map fun p=>es.getD p (0,.none))) (fun i h=>dw h I a (.ref d) i es.size ep/\SAt h a es ep t/\h.IsTuple d (ps.map fun p=>Of (p:Nat) 0).toArray) where
 sub:=fun b hb=>by
  rw [Lg.mp hb]
  exact Lj
 frame:=fun i h h' st k=>⟨st.1.at (k I Lj),st.2.1.at (k a (Ln _ Lj)),st.2.2.at (k d (Ln _ (Ln _ Lj)))⟩
 item:=fun i s Q E hi st q=>by
  obtain ⟨it,hs,ht⟩:=st
  have len:=pm.length_eq
  rw [Mz] at len
  have hl:i < ps.length:=by rw [len]; exact hi
  have lt:ps[i] < es.size:=MY.mp (pm.mem_iff.mp (Om hl))
  refine GG (p:=ps[i]) (x:=es[ps[i]]) it hs ht ?_ (Nc lt) fun h' it' sb=>?_
  ·rw [RW,Lx,Ld hl]
   rfl
  ·refine q _ h' s.toks ⟨_,?_,rfl⟩ ⟨it',hs.at fun o e=>?_,ht.at fun o e=>?_⟩ fun c o hc e=>?_
   ·rw [Lx,Ld hl]
    show some (es.getD ps[i] (0,.none))=_
    rw [Sk,dif_pos lt]
    rfl
   ·exact sb.extBut a o hne e
   ·exact sb.extBut d o hd e
   ·exact sb.extBut c o (fun z=>hc (by rw [z]; exact Lj)) e
 done:=fun s Q E st q=>by
  obtain ⟨it,hs,ht⟩:=st
  have len:=pm.length_eq
  refine IZ calm it hs ht ?_ fun h' xb=>q h' s.toks fun c o hc e=>?_
  ·apply Pt
   simp [len]
  ·exact xb c o (fun z=>hc (by rw [z]; exact Lj)) e
 self:=fun i s Q E st q=>wC st.1 q
end
end
section
open PySem.Spec
theorem bY.get {α β:Type} {F:α->β->Prop} {l:List α} {m:List β} (h:bY F l m):∀ {i:Nat} {b:β},m[i]?=some b->∃ a,l[i]?=some a/\F a b:=by
 induction h with
 | nil=>intro i b e; cases e
 | cons r _ ih=>
  intro i b e
  cases i with
  | zero=>
   obtain rfl:_=b:=Lu e
   exact ⟨_,rfl,r⟩
  | succ i=>exact ih e
section
variable {prog:Program} {w:World} {K:Type} [DecidableEq K] {knd:KeyKind prog w K} {A:Around} {E:Value->Shared->Prop} {s:Shared} {I a:Addr} {es:Array (Int×Value)} {ep:Nat} {t:LF} {i:Nat}
theorem tJ {fp wr:List Addr} {n:Nat} {P P':Nat->Value->Prop} {St:Nat->Heap->Prop} (W:Walks prog w A I fp wr n P St) (f:∀ i v,P i v->P' i v):Walks prog w A I fp wr n P' St where
 sub:=W.sub
 frame:=W.frame
 item:=fun i s Q E hi st q=>W.item i s Q E hi st fun v h' tk pv=>q v h' tk (f i v pv)
 done:=W.done
 self:=W.self
noncomputable abbrev cZ (knd:KeyKind prog w K) (ord:List K) (i:Nat) (v:Value):Prop:=∃ k,ord[i]?=some k/\knd.is k v=true
theorem wE {ks:List K} {l m:List (Int×Value)} (pr:bY (Ent knd) ks m) (p:ML l m):∃ ord,ML ord ks/\∀ i v,Ord l i v->cZ knd ord i v:=by
 obtain ⟨ord,q,pr'⟩:=bY.perm p.symm pr
 refine ⟨ord,q.symm,fun i v h=>?_⟩
 obtain ⟨e,he,rfl⟩:=h
 obtain ⟨k,hk,r⟩:=pr'.get he
 exact ⟨k,hk,r.1⟩
noncomputable abbrev itO (f:Value) (a:Addr) (n ep:Nat):Obj:={ cls:=.type "set_iterator",data:=.fields #[f,.int (0:Nat) 0,.ref a,.int n 0,.int ep 0] }
theorem BT {f:Value} {F:Fin->Shared->Prop} (hs:SAt s.heap a es ep t) (q:F (.done (.ret (.ref s.heap.objs.size))) { s with heap:=s.heap.push (itO f a es.size ep) }):
  wpAny (model prog w) A (do ret (<-newFields "set_iterator" [f,rawInt 0,.ref a,rawInt es.size,rawInt (<-setEpoch a)])) F E s:=by
 obtain ⟨o,g1,g3,ft⟩:=hs
 apply La
 refine wpAny_setEpoch_of g1 g3 ft ?_
 apply La
 unfold newFields
 refine Md ?_
 exact Lc q
theorem GI {ks:List K} {Q:Value->Shared->Prop} (calm:A.handled=none) (r:dq knd s.heap a ks (!dS w))
  (q:∀ (I:Addr) (h':Heap) (dr) (fp:List Addr) (St:Nat->Heap->Prop) (ord:List K),ML ord ks->Walks prog w A I fp [I] ks.length (cZ knd ord) St->St 0 h'->(∀ b∈fp,b < h'.objs.size)->(∀ b∈fp,b=a\/s.heap.objs.size<=b)->s.heap.objs.size<=I->I∈fp->(∀ b o,s.heap.get? b=some o->h'.get? b=some o)->Q (.ref I) { s with heap:=h',drawn:=dr }):
  wpAny (model prog w) A (pyIter (.ref a)) Q E s:=by
 obtain ⟨o,es,ep,t,g1,g2,g3,pr,nd,sb,ft,rs,ld⟩:=id r
 have hs:SAt s.heap a es ep t:=⟨o,g1,g3,ft⟩
 have ty:s.TypeIs (.ref a) "set":=⟨o,g1,g2.1⟩
 have len:es.size=ks.length:=by rw [pr.len,LV]
 have lt:a < s.heap.objs.size:=Lm g1
 rw [<-len] at q
 have sz:t.place.size=es.size:=by
  simp only [LF.fits,MG,beq_iff_eq] at ft
  exact ft.1
 refine Ti ty RX ?_
 refine LY RX ty IX ?_ (PySem.F.args_set_iter_1 _)
 unfold Builtin.«frozenset.__iter__»
 refine La (Lc ?_)
 apply La
 unfold Builtin.Frozenset.sizeOf
 apply La
 unfold Q0
 apply La
 apply MN g1 g3 ft
 apply Lc
 apply Lc
 apply La
 unfold setDrawn
 apply La
 apply MN g1 g3 ft
 dsimp only
 apply La
 apply rC
 apply Lc
 show wpAny _ _ (if (!dS w && (!t.plain && decide (es.size > 1)))=true then _ else _) _ _ _
 by_cases c:(!dS w && (!t.plain && decide (es.size > 1)))=true
 ·rw [if_pos c]
  apply La
  refine xz _ _ _ _ Mz fun ps dr pm=>?_
  apply La
  refine RO ?_ (by rw [Lf,pm.length_eq,Mz]; exact LS (Mj sb) (by decide))
  have pz:=Ma s.heap { cls:=.type "tuple",data:=.seq (ps.map fun (i:Nat)=>rawInt i).toArray }
  have hs1:=hs.at (h':=s.heap.push { cls:=.type "tuple",data:=.seq (ps.map fun (i:Nat)=>rawInt i).toArray }) fun o e=>Lb _ e
  have tu:(s.heap.push { cls:=.type "tuple",data:=.seq (ps.map fun (i:Nat)=>rawInt i).toArray }).IsTuple s.heap.objs.size (ps.map fun p=>Of (p:Nat) 0).toArray:=⟨_,Lk _ rfl,rfl,0,rfl⟩
  have kp0:∀ b o,s.heap.get? b=some o->(s.heap.push { cls:=.type "tuple",data:=.seq (ps.map fun (i:Nat)=>rawInt i).toArray }).get? b=some o:=fun b o e=>Lb _ e
  generalize s.heap.push { cls:=.type "tuple",data:=.seq (ps.map fun (i:Nat)=>rawInt i).toArray }=hp at *
  have lt1:a < hp.objs.size:=by rw [pz]; exact MM lt
  have kp:∀ b o,s.heap.get? b=some o->hp.get? b=some o:=kp0
  refine BT (s:={ s with drawn:=dr,heap:=hp }) hs1 ⟨_,rfl,"set_iterator",_,⟨_,Lk _ rfl,rfl⟩,eZ.lookup,?_⟩
  obtain ⟨ord,p1,p2⟩:=wE pr (l:=ps.map fun p=>es.getD p (0,.none)) (by rw [<-oj es]; exact pm.map _)
  refine q hp.objs.size _ dr [hp.objs.size,a,s.heap.objs.size] _ ord p1 (tJ (Jb (A:=A) (es:=es) (ep:=ep) (t:=t) calm pm (LR lt1) (d:=s.heap.objs.size) (LR (by rw [pz]; exact MS _))) p2) ⟨⟨_,Lk _ rfl,rfl,rfl⟩,hs1.at fun o e=>Lb _ e,tu.push _⟩ (fun b hb=>?_) (fun b hb=>?_) (by rw [pz]; exact Og _) Lj fun b o e=>Lb _ (kp b o e)
  ·rw [Ma]
   rcases Lh.mp hb with e | hb
   ·rw [e]
    exact MS _
   ·rcases Lh.mp hb with e | hb
    ·rw [e]
     exact MM lt1
    ·rw [Lg.mp hb,pz]
     exact MM (MS _)
  ·rcases Lh.mp hb with e | hb
   ·exact .inr (by rw [e,pz]; exact Og _)
   ·rcases Lh.mp hb with e | hb
    ·exact .inl e
    ·exact .inr (by rw [Lg.mp hb]; exact Le _)
 ·rw [if_neg c]
  apply La
  apply Lc
  refine BT hs ⟨_,rfl,"set_iterator",_,⟨_,Lk _ rfl,rfl⟩,eZ.lookup,?_⟩
  have it0:dw (s.heap.push (itO (rawInt 0) a es.size ep)) s.heap.objs.size a (.int (0:Nat) 0) 0 es.size ep:=⟨_,Lk _ rfl,rfl,rfl⟩
  have hs0:SAt (s.heap.push (itO (rawInt 0) a es.size ep)) a es ep t:=hs.at fun o e=>Lb _ e
  have inb:∀ b∈[s.heap.objs.size,a],b < (s.heap.push (itO (rawInt 0) a es.size ep)).objs.size:=fun b hb=>by
   rw [Ma]
   rcases Lh.mp hb with e | hb
   ·rw [e]
    exact MS _
   ·rw [Lg.mp hb]
    exact MM lt
  have out:∀ b∈[s.heap.objs.size,a],b=a\/s.heap.objs.size<=b:=fun b hb=>by
   rcases Lh.mp hb with e | hb
   ·exact .inr (by rw [e]; exact Le _)
   ·exact .inl (Lg.mp hb)
  cases b:dS w with
  | true=>
   obtain ⟨ord,p1,p2⟩:=wE pr (qE (w.params.setOrder a ep) es)
   refine q s.heap.objs.size _ s.drawn _ _ ord p1 (tJ (I0 (A:=A) (es:=es) (ep:=ep) (t:=t) calm b (LR lt)) p2) ⟨⟨0,it0⟩,hs0⟩ inb out (Le _) Lj fun b o e=>Lb _ e
  | false=>
   have pl:(!t.plain && decide (es.size > 1))=false:=by
    rw [b] at c
    simpa using c
   have l1:t.led=true:=by rw [ld,b]; rfl
   obtain ⟨ord,p1,p2⟩:=wE pr (ML.refl es.toList)
   refine q s.heap.objs.size _ s.drawn _ _ ord p1 (tJ (Ja (A:=A) (es:=es) (ep:=ep) (t:=t) calm b pl l1 rs sz (LR lt)) p2) ⟨it0,hs0⟩ inb out (Le _) Lj fun b o e=>Lb _ e
end
end
section
open PySem.Spec PySem.W
section
variable {prog:Program} {w:World} {K:Type} [DecidableEq K] {knd:KeyKind prog w K} {A:Around} {E:Value->Shared->Prop} {s:Shared} {a:Addr}
theorem GJ {Q:Bool->Shared->Prop} (ty:s.TypeIs (.ref a) "set") (q:Q false s):wpAny (model prog w) A (NZ (.ref a)) Q E s:=by
 unfold NZ
 apply La
 refine MQ ty PySem.F.slot_set_len.lookup ?_
 generalize hid:("set.__len__":String)=nm
 wp_delta
 rw [show splitId nm=some ("set","__len__") from by subst hid; decide +kernel]
 subst hid
 apply La
 refine Ni (T:="set") (b:=true) ty (by rw [RV]; kernel_rfl) ?_
 refine Rw (fun z=>absurd z (by decide)) fun _=>?_
 refine Rw (fun _=>?_) fun z=>absurd (by decide +kernel) z
 apply La
 refine PQ ty ?_
 exact Lc q
theorem dq.type {ks:List K} {led:Bool} (r:dq knd s.heap a ks led):s.TypeIs (.ref a) "set":=by
 obtain ⟨o,es,ep,t,g1,g2,_⟩:=r
 exact ⟨o,g1,g2.1⟩
theorem dq.small {h:Heap} {ks:List K} {led:Bool} (r:dq knd h a ks led):ks.length < Pa:=by
 obtain ⟨o,es,ep,t,g1,g2,g3,pr,nd,sb,_⟩:=r
 rw [pr.len,LV]
 exact sb
theorem CQ {ks:List K} {R:Result->Shared->Prop} (calm:A.handled=none) (r:dq knd s.heap a ks (!dS w)) (S:Addr) (ne:S≠a) (hS:s.heap.get? S=some { cls:=.type "list",data:=.seq #[] })
  (q:∀ (s':Shared) h' dr tk ord acc c,s'={ s with heap:=h',drawn:=dr,toks:=tk }->ML ord ks->(∀ b o,b≠S->s.heap.get? b=some o->h'.get? b=some o)->h'.get? S=some { cls:=.type "list",dict:=none,data:=.seq acc c,slots:=#[] }->ItemsOf (cZ knd ord) acc ks.length->R (.ok (.ret (.ref S))) s'):
  wpAny (model prog w) A.in1 (Mu (.ref S) (.ref a) (.ref S)) (fun fin s'=>match fin with | .done f=>R (.ok f) s' | .again c'=>c'.quiet=true/\codeAny (model prog w) A c' R s') (fun e s'=>R (.error e) s') s:=by
 have hn:ks.length<=Lr:=LS (Mj r.small) (by decide)
 unfold Mu
 apply La
 refine PQ (T:="set") r.type ?_
 have h1:Oo (.ref S) (.ref a)=false:=by simp [Oo,ne]
 have h2:(MC "set" == MC "list")=false:=by decide
 have h3:(MC "set" == MC "tuple")=false:=by decide
 simp only [h1,h2,h3,Bool.or_false,Mt,if_false]
 apply La
 refine GI (A:=A.in1) calm r fun I h' dr fp St ord pm W st inb out ge Ifp kp=>?_
 have hS1:=kp _ _ hS
 have lS:S < s.heap.objs.size:=Lm hS
 have r1:dq knd h' a ks (!dS w):=r.at fun o e=>kp a o e
 have nS:S∉fp:=fun hm=>by
  rcases out S hm with z | z
  ·exact ne z
  ·exact absurd lS (QY.mpr z)
 have loop:∀ (h2:Heap) (c:Nat),(∀ b o,b≠S->h'.get? b=some o->h2.get? b=some o)->h2.get? S=some { cls:=.type "list",dict:=none,data:=.seq #[] c,slots:=#[] }->codeAny (model prog w) A (.builtin "list.extend.loop" ⟨[.ref S,.ref I,.ref S],[]⟩) R { s with heap:=h2,drawn:=dr }:=fun h2 c k2 e2=>by
  refine codeAny_extend_loopS W.toS hn S nS (.ref S) ks.length 0 _ #[] c rfl (Me _) (W.frame 0 _ _ st fun b hb o e=>k2 b o (fun z=>nS (z ▸ hb)) e) e2 (ItemsOf.nil _) fun s' acc c' mv e3 it=>?_
  rw [Moved.eq_with mv]
  refine q _ s'.heap dr s'.toks ord acc c' rfl pm (fun b o hb e=>mv.heap b o (fun hm=>?_) (k2 b o hb (kp b o e))) e3 it
  rcases Lh.mp hm with z | hm
  ·exact hb z
  ·rw [Lg.mp hm] at e
   exact absurd (Lm e) (QY.mpr ge)
 apply La
 apply Mx
 refine GJ (s:={ s with heap:=h',drawn:=dr }) r1.type ?_
 refine Rw (fun _=>?_) fun _=>?_
 ·apply La
  apply NC
  apply La
  show wpAny _ _ (QA S (·.push .none) >>= fun _=>QA S (·.pop)) _ _ _
  apply La
  refine OA hS1 rfl ?_
  have hS2:=Mh (MD (·.push MB)) hS1 rfl
  refine OA (hz:=by seq_fits) hS2 rfl ?_
  have hS3:=Mh (MD (·.pop)) hS2 rfl
  refine Lc ⟨NT Nd _,loop _ _ (fun b o hb e=>?_) hS3⟩
  rw [MT _ _ (MU hb),MT _ _ (MU hb)]
  exact e
 ·exact Lc ⟨NT Nd _,loop _ _ (fun b o hb e=>e) hS1⟩
theorem Bc {ks:List K} {R:List Value->Shared->Prop} (calm:A.handled=none) (r:dq knd s.heap a ks (!dS w))
  (q:∀ h' dr tk ord (acc:Array Value),ML ord ks->(∀ b o,s.heap.get? b=some o->h'.get? b=some o)->s.heap.objs.size < h'.objs.size->ItemsOf (cZ knd ord) acc ks.length->R acc.toList { s with heap:=h',drawn:=dr,toks:=tk }):
  wpAny (model prog w) A (collect (.ref a)) R E s:=by
 have lt:a < s.heap.objs.size:=by
  obtain ⟨o,es,ep,t,g1,_⟩:=r
  exact Lm g1
 unfold collect
 apply La
 apply RU
 apply M0 entry_proto_collect'
 rw [ME PySem.F.plain_proto_collect _]
 show wpAny _ A.in1 (newList [] >>= fun l=>again (.builtin "list.__iadd__" ⟨[l,.ref a],[]⟩)) _ _ s
 apply La
 refine Md ?_
 refine Lc ⟨NT Rk _,?_⟩
 apply M0 entry_list_iadd'
 rw [ME Rk _]
 show wpAny _ A.in1 (Mu (.ref s.heap.objs.size) (.ref a) (.ref s.heap.objs.size)) _ _ _
 have key:=CQ (A:=A) (s:={ s with heap:=s.heap.push { cls:=.type "list",data:=.seq ([]:List Value).toArray } })
  (R:=fun (u:Result) (s':Shared)=>∃ h' dr tk ord acc c,u=.ok (.ret (.ref s.heap.objs.size))/\s'={ s with heap:=h',drawn:=dr,toks:=tk }/\ML ord ks/\(∀ b o,s.heap.get? b=some o->h'.get? b=some o)/\
   h'.get? s.heap.objs.size=some { cls:=.type "list",dict:=none,data:=.seq acc c,slots:=#[] }/\ItemsOf (cZ knd ord) acc ks.length)
  calm (r.at fun o e=>Lb _ e) s.heap.objs.size (Ny lt) (Lk _ rfl)
  fun s' h' dr tk ord acc c e pm kp e3 it=>⟨h',dr,tk,ord,acc,c,rfl,e,pm,fun b o eb=>kp b o (LR (Lm eb)) (Lb _ eb),e3,it⟩
 refine M1 key (fun fin s' x=>?_) fun e s' x=>?_
 ·cases fin with
  | done f=>
   obtain ⟨h',dr,tk,ord,acc,c,e,rfl,pm,kp,e3,it⟩:=x
   cases e
   show wpAny _ A (load s.heap.objs.size >>= _) _ _ _
   apply La
   refine R6 e3 ?_
   exact Lc (q h' dr tk ord acc pm kp (Lm e3) it)
  | again c1=>
   refine ⟨x.1,Oj x.2 fun u s2 y=>?_⟩
   obtain ⟨h',dr,tk,ord,acc,c,rfl,rfl,pm,kp,e3,it⟩:=y
   show wpAny _ A (load s.heap.objs.size >>= _) _ _ _
   apply La
   refine R6 e3 ?_
   exact Lc (q h' dr tk ord acc pm kp (Lm e3) it)
 ·obtain ⟨h',dr,tk,ord,acc,c,e',_⟩:=x
  cases e'
end
end
section
open PySem.Spec
section
variable {X:Cx}
end
end
section
open PySem.Spec
section
variable {prog:Program} {w:World} {A:Around} {R:Result->Shared->Prop} {I:Addr} {fp wr:List Addr} {n:Nat} {P:Nat->Value->Prop} {St:Nat->Heap->Prop} {kw:List (Str×Value)}
end
end
section
open PySem.Spec
section
variable {prog:Program} {w:World} {A:Around} {E:Value->Shared->Prop} {s:Shared}
end
end
section
open PySem.Spec
section
variable {X:Cx}
end
end
section
open PySem.Calls
section
variable {X:Cx}
end
end
section
open PySem.Spec PySem.Calls
section
variable {prog:Program} {w:World} {A:Around} {E:Value->Shared->Prop} {s:Shared} {a:Addr}
theorem xB:∀ {ord:List Int} {l:List Value},l.length=ord.length->(∀ i v,l[i]?=some v->cZ (intKind prog w) ord i v)->IntsAre l ord
 | [],[],_,_=>.nil
 | [],_ :: _,h,_=>nomatch h
 | _ :: _,[],h,_=>nomatch h
 | k :: ord,v :: l,h,t=>by
  obtain ⟨k',hk,hv⟩:=t 0 v rfl
  obtain rfl:k=k':=Lu hk
  obtain ⟨tk,rfl⟩:=SY hv
  exact .cons k tk (xB (Nat.succ.inj h) fun i u hu=>t (i + 1) u hu)
theorem CS {ks:List Int} {Q:Value->Shared->Prop} (calm:A.handled=none) (r:dq (intKind prog w) s.heap a ks (!dS w)) (h64:ks.length < 64)
  (q:∀ (p:Addr) (h':Heap) (dr) (tk:Nat) (out:Array Value) (e:Nat) (ms:List Int),(∀ b o,s.heap.get? b=some o->h'.get? b=some o)->s.heap.objs.size<=p->h'.get? p=some (seqObj "list" out e)->IntsAre out.toList ms->ms.Perm ks->ms.Pairwise (·<=·)->Q (.ref p) { s with heap:=h',drawn:=dr,toks:=tk }):
  wpAny (model prog w) A (call (.builtin "sorted") [.ref a]) Q E s:=by
 refine call_function_entry kind_sorted plain_sorted entry_sorted (args_sorted1 _) ?_
 unfold Builtin.«sorted»
 refine La (m:=checkCount "sorted" 1 1 _) (Lc ?_)
 apply La
 refine Bc (A:=A.in1) calm r fun h' dr tk ord acc pm kp gt it=>?_
 have len:acc.toList.length=ks.length:=by rw [LV]; exact it.1
 have ia:IntsAre acc.toList ord:=xB (by rw [len,pm.length_eq]) fun i v e=>it.2 i v (by rw [<-N3]; exact e)
 apply La
 refine wpAny_newList ?_ (by rw [len]; exact LS (Mj h64) (by decide))
 have hoL:(h'.push (seqObj "list" acc.toList.toArray 0)).get? h'.objs.size=some (seqObj "list" acc.toList.toArray 0):=Lk _ rfl
 have ge:s.heap.objs.size<=h'.objs.size:=Mj gt
 apply La
 apply Mx
 refine LY slot_list_sort ⟨_,hoL,rfl⟩ entry_list_sort ?_ (args_list_sort _)
 refine list_sort_tree hoL ia (by rw [len]; exact h64) fun out ms a1 a2 a3=>⟨_,rfl,?_⟩
 obtain ⟨e,he⟩:=sortedHeap_at (n:=0) (vs:=acc.toList) (out:=out) hoL
 refine Lc ⟨_,rfl,q _ _ dr tk out e ms (fun b o eb=>?_) ge he a1 (a2.trans pm) a3⟩
 have hb:=Lm eb
 rw [sortedHeap_old (LR (LH hb ge)) (by rw [size_push']; exact MM (LH hb ge))]
 exact Lb _ (kp b o eb)
end
section
variable {X:Cx}
theorem Inv.drew {pins:List (Addr×Obj)} {σ:St} {H:Hp} {s:Shared} (I:Inv X pins σ H s) (dr):Inv X pins σ H { s with drawn:=dr }:=by
 cases I
 constructor <;> assumption
end
end
section
open PySem.Spec PySem.Calls
theorem BU:∀ {l:List Value} {ns:List Int} {i:Nat} {v:Value},IntsAre l ns->l[i]?=some v->∃ t,v=.int (ns.getD i 0) t
 | _,_,_,_,.nil,e=>nomatch e
 | _,_,0,_,.cons n t _,e=>⟨t,(Lu e).symm⟩
 | _,_,i + 1,_,.cons n t h,e=>by
  obtain ⟨t',e'⟩:=BU (i:=i) h e
  exact ⟨t',e'⟩
section
variable {X:Cx}
theorem CT {e:Expr} {p p2 pos pos2:Pos} {t:TA} (hc:X.calm=true) (hm:X.mg "sorted"=none) (hm2:X.mg "set"=none) (ha:PA X [e] t) (hg:Gl X "sorted":=by rfl) (hg2:Gl X "set":=by rfl)
  (he:LD [e] X.env=(false,eval e X.env) :: LD [] X.env:=by rfl) (hpl:(backTo pos2 (LD [] X.env)).any (·.1)=false:=by rfl)
  (he1:LD [.Call (.Name "set" p2) [e] [] pos2] X.env=(false,eval (.Call (.Name "set" p2) [e] [] pos2) X.env) :: LD [] X.env:=by rfl) (hpl1:(backTo pos (LD [] X.env)).any (·.1)=false:=by rfl):
  PE X (.Call (.Name "sorted" p) [.Call (.Name "set" p2) [e] [] pos2] [] pos) (tq X.K t):=by
 intro pins s σ H Q I h
 refine ND (fY I hg hm boot_sorted ?_ (by decide) (by decide))
 refine PP ?_ he1 hpl1
 rw [he1]
 show wpAny _ _ (spliced ((false,eval (.Call (.Name "set" p2) [e] [] pos2) X.env) :: backTo pos (LD [] X.env))) _ _ s
 refine Qr ?_
 refine ND (fY I hg2 hm2 boot_set ?_ (by decide) (by decide))
 refine Ms (thn (ha pos2 pins s σ H _ I h) fun us s1 ⟨vs,H1,I1,r1,q1⟩=>?_) he hpl
 obtain ⟨l,ns,rfl,hq,hl,q⟩:=q1
 obtain ⟨u,rfl,rx⟩:=r1.one
 cases rx
 obtain ⟨its,rv,pl,hz⟩:=I1.list hq
 have hi:=nO rv
 have hlen:its.length=ns.length:=by have:=rv.length; rw [Lf] at this; omega
 have calm:X.A.handled=none:=I.ok.hd hc
 refine IW (knd:=intKind X.prog X.w) (fun i=>ns.getD i 0) calm pl.isList (fun i v hv=>?_) (by rw [Ls,hlen]; exact Ov (Nat.succ_le_of_lt hl) (by decide)) fun h' tk ks r mem kp=>?_
 ·rw [RW] at hv
  obtain ⟨tk,rfl⟩:=BU hi hv
  exact ⟨by first | simp [intKind,Rx] | (unfold intKind; simp [Rx]),rfl⟩
 have memI:∀ y,y∈ks↔y∈ns:=fun y=>by
  rw [mem,Ls,hlen]
  constructor
  ·rintro ⟨j,hj,rfl⟩
   rw [Lo,Ld hj]
   exact Om hj
  ·intro hy
   obtain ⟨j,hj,rfl⟩:=List.getElem_of_mem hy
   refine ⟨j,hj,?_⟩
   rw [Lo,Ld hj]
   rfl
 have nd:ks.Nodup:=by
  obtain ⟨o,es,ep,t,g1,g2,g3,pr,nd,_⟩:=r
  exact nd
 refine QP ?_
 refine CS calm r (Ov (zR nd fun y hy=>(memI y).mp hy) hl) fun q' h2 dr tk2 out ex ms kp2 ge hx a1 a2 a3=>?_
 have kk:∀ b o,s1.heap.get? b=some o->h2.get? b=some o:=fun b o eb=>kp2 b o (kp b o (Lm eb) eb)
 have ge1:s1.heap.objs.size<=q':=by
  obtain ⟨o,es,ep,t,g1,_⟩:=r
  exact Mj (LH (Lm g1) ge)
 have hf:H1 q'=none:=I1.hok.fresh ge1
 have nm:ms.Nodup:=a2.nodup_iff.mpr nd
 have ml:ms.length < 64:=by
  rw [a2.length_eq]
  exact Ov (zR nd fun y hy=>(memI y).mp hy) hl
 refine ⟨.ref q',_,(I1.laid (t':=tk2) (o:=.lst (ms.map V.int)) kk ge1 ?_).drew dr,rfl,q _ _ ms hf (aW hf _) ay ?_ fun y=>?_⟩
 ·exact ⟨by rw [Lf,Ll]; omega,out.toList,ex,pZ a1,by rw [hx,Array.toArray_toList]⟩
 ·exact (a3.and nm).imp fun ⟨z1,z2⟩=>by omega
 ·rw [a2.mem_iff,memI]
end
end
section
variable {σ:St} {H:Hp} {Q:VK} {a:Addr} {kvs:List (Key×V)} {i:Int} {v:V}
end
section
variable {g:CF TG} {tt:CF TT} {te:CF TE} {σ₀:St} {Q:VK} {H:Hp}
end
section
open PySem.Spec
section
variable {X:Cx}
end
end
section
open PySem.Spec
section
variable {X:Cx}
end
end
section
open PySem.Spec
section
variable {X:Cx}
theorem qF:cS X (.type "range") Cv:=by
 intro pins s σ H xs us Q I r h
 obtain ⟨n,rfl,hn,q⟩:=h
 obtain ⟨u,rfl,rx⟩:=lW r
 obtain ⟨t,rfl⟩:=rx
 exact call_range_1 ⟨.ref s.heap.objs.size,_,I.laid (a:=s.heap.objs.size) (o:=.rng 0 (n:Int)) (t':=s.toks + 1 + 1) (fun _ _ q=>Lb _ q) (Le _) ⟨_,_,_,Lk _ rfl⟩,rfl,q.upd _ (I.hok.fresh (Le _))⟩
theorem xC {n:Nat} {acc:Array Value} (h:ItemsOf (fun i v=>∃ t,v=.int ((0:Int) + i * 1) t) acc n):aG ((Lv n).map fun (i:Nat)=>V.int ((i:Nat):Int)) acc.toList:=by
 obtain ⟨hl,hi⟩:=h
 have go:∀ (xs:List V) (us:List Value),xs.length=us.length->(∀ (j:Nat) (x:V) (u:Value),xs[j]?=some x->us[j]?=some u->aI x u)->aG xs us:=by
  intro xs
  induction xs with
  | nil=>intro us hl _; cases us with
   | nil=>exact .nil
   | cons _ _=>simp at hl
  | cons x r ih=>intro us hl h; cases us with
   | nil=>simp at hl
   | cons u t=>exact .cons (h 0 x u rfl rfl) (ih t (by simpa using hl) fun j x u hx hu=>h (j + 1) x u hx hu)
 refine go _ _ (by simp [hl]) fun j x u hx hu=>?_
 rw [Lx] at hx
 cases e:(Lv n)[j]? with
 | none=>rw [e] at hx; cases hx
 | some z=>
  rw [e] at hx
  cases hx
  obtain ⟨h1,h2⟩:=Li.mp e
  rw [Qy] at h2
  subst h2
  obtain ⟨t,rfl⟩:=hi j u (by rw [<-N3]; exact hu)
  exact ⟨t,by simp⟩
theorem Ff (hc:X.calm=true):cS X (.type "list") yD:=by
 intro pins s σ H xs us Q I r h
 obtain ⟨p,n,rfl,e,hn,q⟩:=h
 obtain ⟨u,rfl,rx⟩:=lW r
 cases rx
 obtain ⟨t,u,v,hr⟩:=(show bD X.prog X.w H s.heap p (.rng 0 (n:Int)) from I.hok p _ e)
 refine call_list_range (n:=n) (show X.A.handled=none from I.ok.hd hc) hr (Us (by omega) (by omega) (by omega) (by omega)) ?_ (by omega) fun h' tk acc' c' kp e' it=>?_
 ·rw [Sn]; split <;> omega
 ·exact ⟨.ref s.heap.objs.size,_,I.laid (t':=tk) kp (Le _) (show bD X.prog X.w _ h' _ (.lst _) from ⟨by rw [Lf,Mz,Ll]; omega,acc'.toList,c',xC it,by simpa using e'⟩),rfl,q.upd _ (I.hok.fresh (Le _))⟩
end
end
section
open PySem.Spec
noncomputable abbrev lG (h:Heap) (z TI TO:Addr) (f0:Value) (f:Bool):Prop:=
 h.get? z=some { cls:=.type "zip",dict:=none,data:=.fields #[f0,.bool f,.bool false,.ref TI,.ref TO],slots:=#[] }
section
variable {prog:Program} {w:World} {A:Around} {E:Value->Shared->Prop} {s:Shared}
theorem vd {z TI TO a:Addr} {f:Bool} {oa:Obj} {Q:Bool->Shared->Prop} (hz:lG s.heap z TI TO (rawInt a) f) (ha:s.heap.get? a=some oa) (h:∀ g1,lG g1 z TI TO (rawInt a) true->LC z s.heap g1->Q false { s with heap:=g1 }):
  wpAny (model prog w) A (L8 (.ref z)) Q E s:=by
 obtain ⟨hp,g,d,tk₀,os⟩:=s
 unfold L8
 refine La (Mn hz rfl (x:=rawInt a) rfl ?_)
 show wpAny _ _ (loadIfAlive ((a:Int).toNat) >>= _) _ _ _
 rw [N9]
 refine La (PySem.W.kdx_alive ha ?_)
 simp only [Option.isNone_some,Mt,if_false]
 refine La (Mn hz rfl (x:=.bool f) rfl ?_)
 cases f with
 | true=>
  rw [if_neg (show ¬ ((Mo true != Mo true)=true) from Lq)]
  exact Lc (h hp hz (Th _ _))
 | false=>
  rw [if_pos (show (Mo false != Mo true)=true from rfl)]
  exact La (NF hz (by simp) fun h₃ he₃ hs₃=>Lc (h h₃ he₃ hs₃))
theorem Fh {z TI TO j1 j2 a:Addr} {f:Bool} {oa:Obj} {fp1 fp2:List Addr} {n1 n2 k:Nat} {P1 P2:Nat->Value->Prop} {S1 S2:Nat->Heap->Prop} {Q:Value->Shared->Prop} (Z:iH z TI TO j1 j2 fp1 fp2)
  (D1:Draws prog w A j1 fp1 n1 P1 S1) (D2:Draws prog w A j2 fp2 n2 P2 S2) (hz:lG s.heap z TI TO (rawInt a) f) (ha:s.heap.get? a=some oa) (hTI:IsPair s.heap TI (.ref j1) (.ref j2)) (h1:S1 k s.heap) (h2:S2 k s.heap) (l1:k < n1) (l2:k < n2)
  (hQ:∀ x y h' tk,P1 k x->P2 k y->lG h' z TI TO (rawInt a) true->S1 (k + 1) h'->S2 (k + 1) h'->IsPair h' s.heap.objs.size x y->
   (∀ c o,c∉[z,j1,j2]->s.heap.get? c=some o->h'.get? c=some o)->Q (.ref s.heap.objs.size) { s with heap:=h',toks:=tk }):
  wpAny (model prog w) A (Builtin.«zip.__next__» ⟨[.ref z],[]⟩) (fun fin s'=>∃ v,fin=.done (.ret v)/\Q v s') E s:=by
 obtain ⟨hp,g,d,tk₀,os⟩:=s
 show wpAny _ _ (field (.ref z) 2 >>= _) _ _ _
 refine La (Mn hz rfl (x:=.bool false) rfl ?_)
 show wpAny _ _ (field (.ref z) 3 >>= _) _ _ _
 refine La (Mn hz rfl (x:=.ref TI) rfl ?_)
 refine La (Mv hTI rfl ?_)
 show wpAny _ _ (L8 (.ref z) >>= _) _ _ _
 refine La (vd hz ha fun g1 hz1 hs1=>?_)
 replace hs1:LC z hp g1:=hs1
 simp only [Mt,if_false]
 refine La ?_
 rw [<-Ox]
 simp only [O0,Qi]
 refine La ?_
 refine La (Mx ?_)
 show wpAny _ _ (L5 (.ref j1) >>= _) _ _ _
 refine La (D1.item k ⟨g1,g,d,tk₀,os⟩ _ _ l1 (D1.but h1 hs1 Z.b1) fun x g2 tk1 px st1 hs2=>Lc ?_)
 replace hs2:LC j1 g1 g2:=hs2
 refine Lc ?_
 refine La ?_
 refine La (Mx ?_)
 show wpAny _ _ (L5 (.ref j2) >>= _) _ _ _
 refine La (D2.item k ⟨g2,g,d,tk1,os⟩ _ _ l2 (D2.but (D2.but h2 hs1 Z.b4) hs2 Z.b6) fun y g3 tk2 py st2 hs3=>Lc ?_)
 replace hs3:LC j2 g2 g3:=hs3
 refine Lc ?_
 refine Lc ?_
 show wpAny _ _ (TH [x,y] >>= fun r=>ret r) _ _ _
 have hsz:g3.objs.size=hp.objs.size:=by rw [hs3.1,hs2.1,hs1.1]
 refine La (RO (Lc ⟨_,rfl,?_⟩))
 have up:∀ c o,g3.get? c=some o->(g3.push { cls:=.type "tuple",data:=.seq #[x,y] }).get? c=some o:=fun c o e=>Lb _ e
 have hz3:lG g3 z TI TO (rawInt a) true:=hs3.extBut _ _ Z.a4.symm (hs2.extBut _ _ Z.a3.symm hz1)
 have hT:IsPair (g3.push { cls:=.type "tuple",data:=.seq #[x,y] }) hp.objs.size x y:=by rw [<-hsz]; exact Lk _ rfl
 show Q (.ref g3.objs.size) _
 rw [hsz]
 refine hQ x y _ tk2 px py (up _ _ hz3) (D1.frame _ _ _ (D1.but st1 hs3 Z.b3) fun c _ o e=>up c o e) (D2.frame _ _ _ st2 fun c _ o e=>up c o e) hT fun c o hc e=>?_
 simp only [Lh,Ml,or_false,not_or] at hc
 exact up c o (hs3.extBut _ _ hc.2.2 (hs2.extBut _ _ hc.2.1 (hs1.extBut _ _ hc.1 e)))
theorem GK {z TI TO j1 j2 a:Addr} {f:Bool} {oa:Obj} {fp1 fp2:List Addr} {n1 n2 k:Nat} {P1 P2:Nat->Value->Prop} {S1 S2:Nat->Heap->Prop} {Q:Fin->Shared->Prop} (Z:iH z TI TO j1 j2 fp1 fp2)
  (D1:Draws prog w A j1 fp1 n1 P1 S1) (D2:Draws prog w A j2 fp2 n2 P2 S2) (hz:lG s.heap z TI TO (rawInt a) f) (ha:s.heap.get? a=some oa) (hTI:IsPair s.heap TI (.ref j1) (.ref j2)) (h1:S1 k s.heap) (h2:S2 k s.heap) (l:k=min n1 n2)
  (hE:∀ h' e tk,(∀ c o,c∉[z,TI,TO,j1,j2]->s.heap.get? c=some o->h'.get? c=some o)->(∃ o,h'.get? e=some o/\o.cls=.type "StopIteration")->E (.ref e) { s with heap:=h',toks:=tk }):
  wpAny (model prog w) A (Builtin.«zip.__next__» ⟨[.ref z],[]⟩) Q E s:=by
 obtain ⟨hp,g,d,tk₀,os⟩:=s
 have kp:∀ {h':Heap},(∀ c o,c≠z->c≠j1->c≠j2->hp.get? c=some o->h'.get? c=some o)->∀ c o,c∉[z,TI,TO,j1,j2]->hp.get? c=some o->h'.get? c=some o:=fun {h'} q c o hc e=>by
  simp only [Lh,Ml,or_false,not_or] at hc
  exact q c o hc.1 hc.2.2.2.1 hc.2.2.2.2 e
 show wpAny _ _ (field (.ref z) 2 >>= _) _ _ _
 refine La (Mn hz rfl (x:=.bool false) rfl ?_)
 show wpAny _ _ (field (.ref z) 3 >>= _) _ _ _
 refine La (Mn hz rfl (x:=.ref TI) rfl ?_)
 refine La (Mv hTI rfl ?_)
 show wpAny _ _ (L8 (.ref z) >>= _) _ _ _
 refine La (vd hz ha fun g1 hz1 hs1=>?_)
 replace hs1:LC z hp g1:=hs1
 simp only [Mt,if_false]
 refine La ?_
 rw [<-Ox]
 simp only [O0,Qi]
 refine La ?_
 refine La (Mx ?_)
 show wpAny _ _ (L5 (.ref j1) >>= _) _ _ _
 by_cases hk:k=n1
 ·subst hk
  refine La (D1.done ⟨g1,g,d,tk₀,os⟩ _ _ (D1.but h1 hs1 Z.b1) fun g2 e hs2 he=>?_)
  replace hs2:OX j1 g1 g2:=hs2
  exact hE g2 e tk₀ (kp fun c o c1 c2 _ q=>hs2 _ _ c2 (hs1.extBut _ _ c1 q)) he
 ·have hlt:k < n1:=by omega
  have hk2:k=n2:=by omega
  refine La (D1.item k ⟨g1,g,d,tk₀,os⟩ _ _ hlt (D1.but h1 hs1 Z.b1) fun x g2 tk1 px st1 hs2=>Lc ?_)
  replace hs2:LC j1 g1 g2:=hs2
  refine Lc ?_
  refine La ?_
  refine La (Mx ?_)
  show wpAny _ _ (L5 (.ref j2) >>= _) _ _ _
  subst hk2
  refine La (D2.done ⟨g2,g,d,tk1,os⟩ _ _ (D2.but (D2.but h2 hs1 Z.b4) hs2 Z.b6) fun g3 e hs3 he=>?_)
  replace hs3:OX j2 g2 g3:=hs3
  exact hE g3 e tk1 (kp fun c o c1 c2 c3 q=>hs3 _ _ c3 (hs2.extBut _ _ c2 (hs1.extBut _ _ c1 q))) he
noncomputable def ZSt (h:Heap) (z TI TO S:Addr) (i:Nat) (far:Addr->Prop):Prop:=(i=0/\IsZip h z TI TO .none/\∃ u v,IsPair h TO u v)\/∃ (a:Addr) (f:Bool) (oa:Obj),lG h z TI TO (rawInt a) f/\h.get? a=some oa/\far a/\a≠S
noncomputable def ZTs (P1 P2:Nat->Value->Prop) (lo:Addr) (h:Heap) (ts:List Addr):Prop:=∀ (j:Nat) (t:Addr),ts[j]?=some t->lo<=t/\∃ x y,P1 j x/\P2 j y/\IsPair h t x y
end
section
variable {prog:Program} {w:World} {A:Around} {s:Shared} {R:Result->Shared->Prop}
theorem GL {z TI TO j1 j2 S lo:Addr} {fp1 fp2:List Addr} {n1 n2:Nat} {P1 P2:Nat->Value->Prop} {S1 S2:Nat->Heap->Prop} (hh:A.handled=none) (Z:iH z TI TO j1 j2 fp1 fp2)
  (D1:Draws prog w A.in1.in1 j1 fp1 n1 P1 S1) (D2:Draws prog w A.in1.in1 j2 fp2 n2 P2 S2) (hn:min n1 n2<=Lr) (hS:S∉[z,TI,TO,j1,j2]) (hS1:S∉fp1) (hS2:S∉fp2) (hlo:∀ c∈[z,TI,TO,j1,j2,S],c < lo) (hlo1:∀ c∈fp1,c < lo) (hlo2:∀ c∈fp2,c < lo) (res:Value) {h₁:Heap}
  (hR:∀ h' tk acc c ts,(∀ b o,b∉[z,TI,TO,j1,j2]->b≠S->h₁.get? b=some o->h'.get? b=some o)->h'.get? S=some { cls:=.type "list",dict:=none,data:=.seq acc c,slots:=#[] }->ts.length=min n1 n2->ZTs P1 P2 lo h' ts->
   acc.toList=ts.map LL->R (.ok (.ret res)) { s with heap:=h',toks:=tk }):
  ∀ (m i:Nat) (h:Heap) (tk c:Nat) (acc:Array Value) (ts:List Addr),min n1 n2 - i=m->i<=min n1 n2->ZSt h z TI TO S i (fun a=>lo<=a)->IsPair h TI (.ref j1) (.ref j2)->S1 i h->S2 i h->(∀ b o,b∉[z,TI,TO,j1,j2]->b≠S->h₁.get? b=some o->h.get? b=some o)->
   h.get? S=some { cls:=.type "list",dict:=none,data:=.seq acc c,slots:=#[] }->acc.toList=ts.map LL->ts.length=i->ZTs P1 P2 lo h ts->lo<=h.objs.size->
   codeAny (model prog w) A (.builtin "list.extend.loop" ⟨[.ref S,.ref z,res],[]⟩) R { s with heap:=h,toks:=tk }:=by
 have notin:∀ t,lo<=t->t∉[z,TI,TO,j1,j2]/\t≠S/\t∉fp1/\t∉fp2:=fun t ht=>⟨fun hm=>by
  have:=hlo t (show t∈[z,TI,TO,j1,j2]++[S] from Nm _ hm)
  exact absurd ht (P8.mpr this),fun e=>by
  have:=hlo S (by simp)
  rw [e] at ht
  exact absurd ht (P8.mpr this),fun hm=>absurd ht (P8.mpr (hlo1 t hm)),fun hm=>absurd ht (P8.mpr (hlo2 t hm))⟩
 intro m
 induction m with
 | zero=>
  intro i h tk c acc ts hk hi hst hTI st1 st2 hkeep hSS hacc hal hG hls
  have hin:i=min n1 n2:=by omega
  refine M0 Q1 ?_
  rw [ME Nd _]
  show wpAny _ A.in1 (pyNext (.ref z) >>= _) _ _ _
  have done:∀ h':Heap,∀ tk',(∀ c o,c∉[z,TI,TO,j1,j2]->h.get? c=some o->h'.get? c=some o)->R (.ok (.ret res)) { s with heap:=h',toks:=tk' }:=fun h' tk' kp=>by
   refine hR h' tk' acc c ts (fun b o h1 h2 e=>kp b o h1 (hkeep b o h1 h2 e)) (kp S _ hS hSS) (by omega) (fun j t hj=>?_) hacc
   obtain ⟨hlt,x,y,p1,p2,e⟩:=hG j t hj
   exact ⟨hlt,x,y,p1,p2,kp t _ (notin t hlt).1 e⟩
  have hT:QI { s with heap:=h,toks:=tk } (.ref z) "zip":=by
   rcases hst with ⟨_,hz,_⟩ | ⟨a,f,oa,hz,_⟩
   ·exact ⟨_,hz,rfl⟩
   ·exact ⟨_,hz,rfl⟩
  unfold pyNext
  refine La (La (N6 (Mf (name:=Nf "__next__") hT NN (LY NN hT PB ?_ (Pm _)))))
  rcases hst with ⟨_,hz,u,v,hTO⟩ | ⟨a,f,oa,hz,ha,_,_⟩
  ·refine zh (s:={ s with heap:=h,toks:=tk }) Z D1 D2 hz hTI hTO st1 st2 hin fun h' e tk' kp he=>?_
   obtain ⟨o,ho,hcl⟩:=he
   exact La (Ni (T:="StopIteration") (b:=true) ⟨o,ho,hcl⟩ Pc (Lc (Lc (done h' tk' kp))))
  ·refine GK (s:={ s with heap:=h,toks:=tk }) Z D1 D2 hz ha hTI st1 st2 hin fun h' e tk' kp he=>?_
   obtain ⟨o,ho,hcl⟩:=he
   exact La (Ni (T:="StopIteration") (b:=true) ⟨o,ho,hcl⟩ Pc (Lc (Lc (done h' tk' kp))))
 | succ m ih=>
  intro i h tk c acc ts hk hi hst hTI st1 st2 hkeep hSS hacc hal hG hls
  have hlt:i < min n1 n2:=by omega
  have hsz:acc.size=i:=by rw [<-LV,hacc,Lf,hal]
  refine M0 Q1 ?_
  rw [ME Nd _]
  show wpAny _ A.in1 (pyNext (.ref z) >>= _) _ _ _
  have hT:QI { s with heap:=h,toks:=tk } (.ref z) "zip":=by
   rcases hst with ⟨_,hz,_⟩ | ⟨a,f,oa,hz,_⟩
   ·exact ⟨_,hz,rfl⟩
   ·exact ⟨_,hz,rfl⟩
  have item:∀ (h':Heap) (tk':Nat) (x y:Value),P1 i x->P2 i y->ZSt h' z TI TO S (i + 1) (fun a=>lo<=a)->S1 (i + 1) h'->S2 (i + 1) h'->IsPair h' h.objs.size x y->(∀ c o,c∉[z,TO,j1,j2]->h.get? c=some o->h'.get? c=some o)->
    wpAny (model prog w) A.in1 (Rl (.ref S) (·.push (LL h.objs.size)) >>= fun _=>again (.builtin "list.extend.loop" ⟨[.ref S,.ref z,res],[]⟩)) (fun fin s'=>match fin with | .done f=>R (.ok f) s' | .again c'=>c'.quiet=true/\codeAny (model prog w) A c' R s') (fun e s'=>R (.error e) s') { s with heap:=h',toks:=tk' }:=by
   intro h' tk' x y px py hst' st1' st2' ht kp
   have sub:∀ c,c∉[z,TI,TO,j1,j2]->c∉[z,TO,j1,j2]:=fun c hc hm=>hc (by
    simp only [Lh,Ml,or_false] at hm ⊢
    rcases hm with e | e | e | e
    ·exact .inl e
    ·exact .inr (.inr (.inl e))
    ·exact .inr (.inr (.inr (.inl e)))
    ·exact .inr (.inr (.inr (.inr e))))
   have hS':=kp S _ (sub S hS) hSS
   have up:∀ b o,b≠S->h'.get? b=some o->(h'.update S (MD (·.push (LL h.objs.size)))).get? b=some o:=fun b o hb e=>(MT _ _ (MU hb)).trans e
   have hSl:S < h.objs.size:=Lm hSS
   have zS:∀ c∈[z,TI,TO,j1,j2],c≠S:=fun c hc e=>hS (by rw [<-e]; exact hc)
   have hTI':IsPair h' TI (.ref j1) (.ref j2):=kp TI _ (by
    simp only [Lh,Ml,or_false,not_or]
    exact ⟨Z.a1,Z.a5,Z.a6,Z.a7⟩) hTI
   show wpAny _ A.in1 (QA S (·.push (LL h.objs.size)) >>= _) _ _ _
   refine La ?_
   refine OA hS' rfl (Lc ⟨NT Nd _,ih (i + 1) _ tk' _ (acc.push (LL h.objs.size)) (ts++[h.objs.size]) (by omega) hlt ?_ (up TI _ (zS TI (by simp)) hTI')
    (D1.frame _ _ _ st1' fun b hb o e=>up b o (fun q=>hS1 (by rw [<-q]; exact hb)) e) (D2.frame _ _ _ st2' fun b hb o e=>up b o (fun q=>hS2 (by rw [<-q]; exact hb)) e)
    (fun b o h1 h2 e=>up b o h2 (kp b o (sub b h1) (hkeep b o h1 h2 e))) (Mh _ hS' rfl) (by rw [QU,hacc,LI]; rfl) (by rw [Lz,hal]; rfl) ?_ ?_⟩) (by rw [hsz]; omega) (by show (acc.push (LL h.objs.size)).size<=Lr + 1; rw [Array.size_push,hsz]; omega)
   ·rcases hst' with ⟨e,_⟩ | ⟨a,f,oa,hz,ha,hfar,haS⟩
    ·omega
    ·exact .inr ⟨a,f,oa,up _ _ (zS z (by simp)) hz,up _ _ haS ha,hfar,haS⟩
   ·intro j t hj
    rcases QT j ts.length with c | c | c
    ·rw [Ob c] at hj
     obtain ⟨hl,x',y',p1,p2,e⟩:=hG j t hj
     obtain ⟨n1',n2',_,_⟩:=notin t hl
     exact ⟨hl,x',y',p1,p2,up t _ n2' (kp t _ (sub t n1') e)⟩
    ·subst c
     have hb:h.objs.size=t:=by simpa using hj
     subst hb
     rw [hal]
     exact ⟨hls,x,y,px,py,up _ _ (Ny hSl) ht⟩
    ·rw [LJ (by rw [Lz,OK]; omega)] at hj
     cases hj
   ·have e:(h'.update S (MD (·.push (LL h.objs.size)))).get? h.objs.size=_:=up _ _ (Ny hSl) ht
    exact LS hls (Mj (Lm e))
  unfold pyNext
  refine La (La (N6 (Mf (name:=Nf "__next__") hT NN (LY NN hT PB ?_ (Pm _)))))
  have hSl:S < h.objs.size:=Lm hSS
  rcases hst with ⟨_,hz,u,v,hTO⟩ | ⟨a,f,oa,hz,ha,hfar,haS⟩
  ·refine xi (s:={ s with heap:=h,toks:=tk }) Z D1 D2 hz hTI hTO st1 st2 (by omega) (by omega) fun x y h' tk' px py z1 z2 z3 z4 z5 z6 z7=>Lc ?_
   refine item h' tk' x y px py (.inr ⟨_,false,_,z1,z5,hls,Ny hSl⟩) z3 z4 z5 fun c o hc e=>?_
   by_cases q:c=TI
   ·rw [q] at e ⊢
    have:o=_:=Lu (e.symm.trans hTI)
    rw [this]
    exact z7
   ·refine z6 c o ?_ e
    simp only [Lh,Ml,or_false,not_or] at hc ⊢
    exact ⟨hc.1,q,hc.2⟩
  ·refine Fh (s:={ s with heap:=h,toks:=tk }) Z D1 D2 hz ha hTI st1 st2 (by omega) (by omega) fun x y h' tk' px py z1 z3 z4 z5 z6=>Lc ?_
   have na:=(notin a hfar).1
   refine item h' tk' x y px py (.inr ⟨a,true,oa,z1,z6 a oa ?_ ha,hfar,haS⟩) z3 z4 z5 fun c o hc e=>z6 c o ?_ e
   ·simp only [Lh,Ml,or_false,not_or] at na ⊢
    exact ⟨na.1,na.2.2.2.1,na.2.2.2.2⟩
   ·simp only [Lh,Ml,or_false,not_or] at hc ⊢
    exact ⟨hc.1,hc.2.2.1,hc.2.2.2⟩
end
end
section
open PySem.Spec
theorem Inv.news {X:Cx} {pins:List (Addr×Obj)} {σ:St} {H H':Hp} {s:Shared} {h':Heap} {t':Nat} (I:Inv X pins σ H s) (k:∀ b u,s.heap.get? b=some u->h'.get? b=some u) (hH:∀ b,b < s.heap.objs.size->H' b=H b)
  (new:∀ a o,s.heap.objs.size<=a->H' a=some o->bD X.prog X.w H' h' a o):Inv X pins σ H' { s with heap:=h',toks:=t' }:=by
 have same:∀ b o,H b=some o->H' b=some o:=fun b o e=>(hH b (I.hok.lt e)).trans e
 refine I.un ⟨fun b o q _ _ _=>k b o q,fun b o q _ _ _=>⟨o.slots,k b o q⟩,fun b o q n _=>(hH b (Lm q)).trans n,fun b o q _=>⟨o,k b o q⟩,fun b xs e=>same b _ e,fun b o u e=>same b _ e,fun b ps e=>⟨#[],by rw [same b _ e]; simp⟩⟩ fun a o e=>?_
 by_cases c:a < s.heap.objs.size
 ·rw [hH a c] at e
  exact (I.hok a o e).stay (fun b u _ q=>k b u q) (fun b q=>same b _ q) fun b xs q=>same b _ q
 ·exact new a o (QY.mp c) e
theorem GM {prog:Program} {w:World} {A:Around} {E:Value->Shared->Prop} {s:Shared} {z:Addr} {Q:Bool->Shared->Prop} (hT:s.TypeIs (.ref z) "zip") (h:Q true s):wpAny (model prog w) A (NZ (.ref z)) Q E s:=by
 unfold NZ
 refine La (MQ hT (show R7 (.type "zip") "__len__"=pure none by rw [P7,ON]; kernel_rfl) ?_)
 show wpAny _ _ (specialOf (LL z) (Nf "__length_hint__") >>= _) _ _ _
 refine La (MQ hT (show R7 (.type "zip") "__length_hint__"=pure none by rw [P7,ON]; kernel_rfl) ?_)
 exact Lc h
section
variable {prog:Program} {w:World} {A:Around} {E:Value->Shared->Prop} {s:Shared}
theorem CU {z TI TO j1 j2 S:Addr} {fp1 fp2:List Addr} {n1 n2:Nat} {P1 P2:Nat->Value->Prop} {S1 S2:Nat->Heap->Prop} {R:Result->Shared->Prop} (hh:A.handled=none) (Z:iH z TI TO j1 j2 fp1 fp2)
  (D1:Draws prog w A.in1.in1 j1 fp1 n1 P1 S1) (D2:Draws prog w A.in1.in1 j2 fp2 n2 P2 S2) (hn:min n1 n2<=Lr) (hS:S∉[z,TI,TO,j1,j2]) (hS1:S∉fp1) (hS2:S∉fp2) (hlo:∀ c∈[z,TI,TO,j1,j2,S],c < s.heap.objs.size) (hlo1:∀ c∈fp1,c < s.heap.objs.size) (hlo2:∀ c∈fp2,c < s.heap.objs.size)
  (hz:IsZip s.heap z TI TO .none) {u v:Value} (hTO:IsPair s.heap TO u v) (hTI:IsPair s.heap TI (.ref j1) (.ref j2)) (st1:S1 0 s.heap) (st2:S2 0 s.heap) {c₀:Nat} (hSS:s.heap.get? S=some { cls:=.type "list",data:=.seq #[] c₀ })
  (hR:∀ h' tk acc c ts,(∀ b o,b∉[z,TI,TO,j1,j2]->b≠S->s.heap.get? b=some o->h'.get? b=some o)->h'.get? S=some { cls:=.type "list",dict:=none,data:=.seq acc c,slots:=#[] }->ts.length=min n1 n2->ZTs P1 P2 s.heap.objs.size h' ts->
   acc.toList=ts.map LL->R (.ok (.ret .none)) { s with heap:=h',toks:=tk }):
  wpAny (model prog w) A.in1 (Mu (.ref S) (.ref z) .none)
   (fun fin s'=>match fin with | .done f=>R (.ok f) s' | .again c'=>c'.quiet=true/\codeAny (model prog w) A c' R s') (fun e s'=>R (.error e) s') s:=by
 have zS:∀ c∈[z,TI,TO,j1,j2],c≠S:=fun c hc e=>hS (by rw [<-e]; exact hc)
 have hT:s.TypeIs (.ref z) "zip":=⟨_,hz,rfl⟩
 unfold Mu
 refine La (PQ (T:="zip") hT ?_)
 have h1:Oo (.ref S) (.ref z)=false:=by simp [Oo,(zS z (by simp)).symm]
 have h2:(MC "zip" == MC "list")=false:=by decide
 have h3:(MC "zip" == MC "tuple")=false:=by decide
 simp only [h1,h2,h3,Bool.or_false,Mt,if_false]
 refine La (Q8 hz ?_)
 refine La (Mx (GM hT ?_))
 rw [if_pos (by simp)]
 refine La (NC ?_)
 refine La ?_
 show wpAny _ _ (QA S (·.push .none) >>= fun _=>QA S (·.pop)) _ _ _
 refine La (OA hSS rfl ?_)
 have hS₂:=Mh (MD (·.push MB)) hSS rfl
 refine OA (hz:=by seq_fits) hS₂ rfl ?_
 have hS₃:=Mh (MD (·.pop)) hS₂ rfl
 have oth:∀ b o,b≠S->s.heap.get? b=some o->((s.heap.update S (MD (·.push MB))).update S (MD (·.pop))).get? b=some o:=fun b o hb e=>
  (MT _ _ (MU hb)).trans ((MT _ _ (MU hb)).trans e)
 refine Lc ⟨NT Nd _,GL (s:=s) (lo:=s.heap.objs.size) (h₁:=s.heap) hh Z D1 D2 hn hS hS1 hS2 hlo hlo1 hlo2 .none hR (min n1 n2) 0 _ _ _ #[] [] (SW _) (Me _) (.inl ⟨rfl,oth z _ (zS z (by simp)) hz,u,v,oth TO _ (zS TO (by simp)) hTO⟩) (oth TI _ (zS TI (by simp)) hTI)
  (D1.frame _ _ _ st1 fun b hb o e=>oth b o (fun q=>hS1 (by rw [<-q]; exact hb)) e) (D2.frame _ _ _ st2 fun b hb o e=>oth b o (fun q=>hS2 (by rw [<-q]; exact hb)) e) (fun b o _ hb e=>oth b o hb e) hS₃ rfl rfl (fun j t hj=>by simp at hj) ?_⟩
 rw [Rf,Rf]
 exact Le _
theorem GN {z TI TO j1 j2:Addr} {fp1 fp2:List Addr} {n1 n2:Nat} {P1 P2:Nat->Value->Prop} {S1 S2:Nat->Heap->Prop} {Q:Value->Shared->Prop} (hh:A.handled=none) (Z:iH z TI TO j1 j2 fp1 fp2)
  (D1:∀ A':Around,A'.handled=none->Draws prog w A' j1 fp1 n1 P1 S1) (D2:∀ A':Around,A'.handled=none->Draws prog w A' j2 fp2 n2 P2 S2) (hn:min n1 n2<=Lr) (hlo:∀ c∈[z,TI,TO,j1,j2],c < s.heap.objs.size) (hlo1:∀ c∈fp1,c < s.heap.objs.size) (hlo2:∀ c∈fp2,c < s.heap.objs.size)
  (hz:IsZip s.heap z TI TO .none) {u v:Value} (hTO:IsPair s.heap TO u v) (hTI:IsPair s.heap TI (.ref j1) (.ref j2)) (st1:S1 0 s.heap) (st2:S2 0 s.heap)
  (hQ:∀ h' tk acc c ts,(∀ b o,b∉[z,TI,TO,j1,j2]->s.heap.get? b=some o->h'.get? b=some o)->h'.get? s.heap.objs.size=some { cls:=.type "list",dict:=none,data:=.seq acc c,slots:=#[] }->ts.length=min n1 n2->ZTs P1 P2 (s.heap.objs.size + 1) h' ts->
   acc.toList=ts.map LL->Q (.ref s.heap.objs.size) { s with heap:=h',toks:=tk }):
  wpAny (model prog w) A (call (.type "list") [.ref z]) Q E s:=by
 refine callType_codes (Q₁:=fun obj s₁=>obj=.ref s.heap.objs.size/\s₁={ s with heap:=s.heap.push { cls:=.type "list",data:=.seq #[] } }) PySem.F.called_list (PySem.F.typeCall_list_1 _) PySem.F.entry_list_init
  (code_list_new _ ⟨rfl,rfl⟩) fun obj s₁ h₁=>?_
 obtain ⟨rfl,rfl⟩:=h₁
 have hS:(s.heap.push { cls:=.type "list",data:=.seq #[] }).get? s.heap.objs.size=some { cls:=.type "list",data:=.seq #[] }:=Lk _ rfl
 refine ⟨⟨_,hS,rfl⟩,PySem.F.args_list_init_2 _ _,?_⟩
 show wpAny _ _ (do let old <-RJ (.ref s.heap.objs.size); Rl (.ref s.heap.objs.size) (fun _=>#[]); letGo old.toList.reverse; Mu (.ref s.heap.objs.size) (.ref z) .none) _ _ _
 refine La ?_
 unfold RJ
 refine La (Mv hS rfl (Lc ?_))
 show wpAny _ _ (QA s.heap.objs.size (fun _=>#[]) >>= fun _=>letGo (#[]:Array Value).toList.reverse >>= fun _=>Mu (.ref s.heap.objs.size) (.ref z) .none) _ _ _
 refine La (OA hS rfl ?_)
 have hS₂:=Mh (MD (fun _=>(#[]:Array Value))) hS rfl
 have oth:∀ b o,b≠s.heap.objs.size->(s.heap.push { cls:=.type "list",data:=.seq #[] }).get? b=some o->((s.heap.push { cls:=.type "list",data:=.seq #[] }).update s.heap.objs.size (MD (fun _=>(#[]:Array Value)))).get? b=some o:=
  fun b o hb e=>(MT _ _ (MU hb)).trans e
 have oth':∀ b o,s.heap.get? b=some o->((s.heap.push { cls:=.type "list",data:=.seq #[] }).update s.heap.objs.size (MD (fun _=>(#[]:Array Value)))).get? b=some o:=fun b o e=>oth b o (LR (Lm e)) (Lb _ e)
 have sz:((s.heap.push { cls:=.type "list",data:=.seq #[] }).update s.heap.objs.size (MD (fun _=>(#[]:Array Value)))).objs.size=s.heap.objs.size + 1:=by rw [Rf,Ma]
 refine La (RH ?_)
 refine CU (A:=A.in1) hh Z (D1 _ hh) (D2 _ hh) hn (fun hm=>M5 _ (hlo _ hm)) (fun hm=>M5 _ (hlo1 _ hm)) (fun hm=>M5 _ (hlo2 _ hm)) (fun c hc=>?_) (fun c hc=>?_) (fun c hc=>?_) (oth' _ _ hz) (oth' _ _ hTO) (oth' _ _ hTI)
  ((D1 _ hh).frame _ _ _ st1 fun b _ o e=>oth' b o e) ((D2 _ hh).frame _ _ _ st2 fun b _ o e=>oth' b o e) hS₂ (fun h' tk acc c ts hk hS' hl hG hacc=>?_)
 ·show c < ((s.heap.push { cls:=.type "list",data:=.seq #[] }).update s.heap.objs.size (MD (fun _=>(#[]:Array Value)))).objs.size
  rw [sz]
  rcases LU.mp (show c∈[z,TI,TO,j1,j2]++[s.heap.objs.size] from hc) with hc | hc
  ·exact MM (hlo c hc)
  ·rw [Lg.mp hc]; exact MS _
 ·show c < ((s.heap.push { cls:=.type "list",data:=.seq #[] }).update s.heap.objs.size (MD (fun _=>(#[]:Array Value)))).objs.size
  rw [sz]
  exact MM (hlo1 c hc)
 ·show c < ((s.heap.push { cls:=.type "list",data:=.seq #[] }).update s.heap.objs.size (MD (fun _=>(#[]:Array Value)))).objs.size
  rw [sz]
  exact MM (hlo2 c hc)
 ·have hG':ZTs P1 P2 (s.heap.objs.size + 1) h' ts:=by rw [<-sz]; exact hG
  exact ⟨rfl,hQ h' tk acc c ts (fun b o hb e=>hk b o hb (LR (Lm e)) (oth' b o e)) hS' hl hG' hacc⟩
end
section
variable {X:Cx}
theorem Jc {h:Heap} {us vs:List Value} {xs ys:List V} {lo:Addr} {ts:List Addr} (ru:aG xs us) (rv:aG ys vs) (hl:ts.length=min us.length vs.length) (G:ZTs (fun i v=>us.toArray[i]?=some v) (fun i v=>vs.toArray[i]?=some v) lo h ts):
  ∀ (i:Nat) (t:Addr),ts[i]?=some t->lo<=t/\∃ x y u v,xs[i]?=some x/\ys[i]?=some y/\aI x u/\aI y v/\IsPair h t u v:=fun i t ht=>by
 obtain ⟨h1,u,v,p1,p2,e⟩:=G i t ht
 have hi:i < ts.length:=(Li.mp ht).1
 have l1:=ru.length
 have l2:=rv.length
 obtain ⟨x,hx⟩:∃ x,xs[i]?=some x:=⟨_,Ld (by omega)⟩
 obtain ⟨y,hy⟩:∃ y,ys[i]?=some y:=⟨_,Ld (by omega)⟩
 obtain ⟨u',hu',ru'⟩:=ru.get hx
 obtain ⟨v',hv',rv'⟩:=rv.get hy
 have eu:u=u':=by
  have:us.toArray[i]?=some u':=by simpa using hu'
  rw [this] at p1
  exact (Lu p1).symm
 have ev:v=v':=by
  have:vs.toArray[i]?=some v':=by simpa using hv'
  rw [this] at p2
  exact (Lu p2).symm
 subst eu ev
 exact ⟨h1,x,y,u,v,hx,hy,ru',rv',e⟩
theorem Al {x y:V} {u:Value} (a:aI x u) (b:aI y u):x=y:=by
 cases x <;> cases y <;> simp only [aI] at a b <;> first
  | rfl
  | (subst a; cases b; rfl)
  | (subst a; cases b; done)
  | (obtain ⟨t,rfl⟩:=a; obtain ⟨t',e⟩:=b; cases e; rfl)
  | (obtain ⟨t,rfl⟩:=a; obtain ⟨t',e⟩:=b; cases e; done)
  | (obtain ⟨t,rfl⟩:=a; cases b; done)
  | (subst a; obtain ⟨t',e⟩:=b; cases e; done)
theorem Jd (S1 S2:Src) {a b:Expr} {ta:TA} {p pos p2 pos2:Pos} (hc:X.calm=true) (hgl:Gl X "list") (hml:X.mg "list"=none) (hg:Gl X "zip") (hm:X.mg "zip"=none) (ha:PA X [a,b] ta)
  (hs:LD [a,b] X.env=[(false,eval a X.env),(false,eval b X.env)]:=by rfl) (hs2:LD [b] X.env=[(false,eval b X.env)]:=by rfl)
  (hs3:LD [.Call (.Name "zip" p2) [a,b] [] pos2] X.env=[(false,eval (.Call (.Name "zip" p2) [a,b] [] pos2) X.env)]:=by rfl):
  PE X (.Call (.Name "list" p) [.Call (.Name "zip" p2) [a,b] [] pos2] [] pos) (Cw S1 S2 X.K ta):=by
 intro pins s σ H Q I h
 refine ND (fY I hgl hml Oh (Ms ?_ hs3 rfl))
 rw [hs3]
 show wpAny _ _ (spliced [(false,eval (.Call (.Name "zip" p2) [a,b] [] pos2) X.env)]) _ _ s
 refine Qr ?_
 refine Call_ (fY I hg hm boot_zip (Ms (thn (ha pos2 pins s σ H _ I h) fun us s1 ⟨vs,H1,I1,r1,q1⟩=>?_) (by rw [hs,hs2]) (by rw [hs2]; rfl)))
 obtain ⟨l1,l2,xs,ys,e,hq1,hq2,hxl,q⟩:=q1
 subst e
 obtain ⟨u,v,rfl,ru,rv⟩:=r1.two
 cases ru
 cases rv
 obtain ⟨us1,rv1,p1,_⟩:=S1.get I1 hq1
 obtain ⟨us2,rv2,p2',_⟩:=S2.get I1 hq2
 refine SS F.called_zip (by decide) (TL _ _) (Uh _ _) (fun obj=>Sf obj _ _) Ui (Bv S1 S2 l1 l2 us1.toArray us2.toArray) ⟨p1,p2',?_⟩
 generalize hn:s1.heap.objs.size=n
 have z1:(zh1 S1 s1.heap l1).objs.size=n + 1:=by rw [Ma,hn]
 have z2:(zh2 S1 S2 s1.heap l1 l2).objs.size=n + 2:=by rw [Ma,z1]
 have z3:(zh3 S1 S2 s1.heap l1 l2).objs.size=n + 3:=by rw [Ma,z2]
 have z4:(zh4 S1 S2 s1.heap l1 l2).objs.size=n + 4:=by rw [Ma,z3]
 have z5:(zh5 S1 S2 s1.heap l1 l2).objs.size=n + 5:=by rw [Ma,z4]
 have g5:(zh5 S1 S2 s1.heap l1 l2).get? (zh4 S1 S2 s1.heap l1 l2).objs.size=some _:=Lk _ rfl
 have g4:(zh5 S1 S2 s1.heap l1 l2).get? (zh3 S1 S2 s1.heap l1 l2).objs.size=some _:=Lb _ (Lk _ rfl)
 have g3:(zh5 S1 S2 s1.heap l1 l2).get? (zh2 S1 S2 s1.heap l1 l2).objs.size=some _:=Lb _ (Lb _ (Lk _ rfl))
 have g2:(zh5 S1 S2 s1.heap l1 l2).get? (zh1 S1 s1.heap l1).objs.size=some _:=Lb _ (Lb _ (Lb _ (Lk _ rfl)))
 have g1:(zh5 S1 S2 s1.heap l1 l2).get? s1.heap.objs.size=some _:=Lb _ (Lb _ (Lb _ (Lb _ (Lk _ rfl))))
 have kp:∀ c o,s1.heap.get? c=some o->(zh5 S1 S2 s1.heap l1 l2).get? c=some o:=fun c o e=>
  Lb _ (Lb _ (Lb _ (Lb _ (Lb _ e))))
 show _/\_
 rw [z2,z3,z4] at g5
 rw [z1,z2,hn] at g3
 rw [z3] at g4
 rw [z1] at g2
 rw [hn] at g1
 rw [z4]
 refine ⟨⟨_,g5,rfl⟩,QP ?_⟩
 have lt1:l1 < n:=by
  obtain ⟨o,_,ho,_⟩:=S1.isSeq p1
  rw [<-hn]; exact Lm ho
 have lt2:l2 < n:=by
  obtain ⟨o,_,ho,_⟩:=S2.isSeq p2'
  rw [<-hn]; exact Lm ho
 have five:∀ c:Nat,c∈[n + 4,n + 2,n + 3,n,n + 1]->n<=c/\c < n + 5:=fun c hc=>by
  simp only [Lh,Ml,or_false] at hc
  omega
 have nel:∀ l c:Nat,l < n->n<=c->c≠l:=fun l c h1 h2=>by omega
 have Z:iH (n + 4) (n + 2) (n + 3) n (n + 1) [n,l1] [n + 1,l2]:=zap (by simp) (fun c hc=>nel l1 c lt1 (five c hc).1) (fun c hc=>nel l2 c lt2 (five c hc).1)
 have is1:S1.Is (zh5 S1 S2 s1.heap l1 l2) l1 us1.toArray:=S1.isKeep p1 fun o e=>kp _ _ e
 have is2:S2.Is (zh5 S1 S2 s1.heap l1 l2) l2 us2.toArray:=S2.isKeep p2' fun o e=>kp _ _ e
 refine GN (s:={ s1 with heap:=zh5 S1 S2 s1.heap l1 l2 }) (n1:=us1.toArray.size) (n2:=us2.toArray.size) (I1.ok.hd hc) Z (fun A' hA=>S1.draws hA n l1 (nel l1 n lt1 (Le _)).symm us1.toArray) (fun A' hA=>S2.draws hA (n + 1) l2 (nel l2 (n + 1) lt2 (Og _)).symm us2.toArray) ?_ ?_ ?_ ?_ g5 g4 g3 ⟨S1.mkI g1 rfl rfl,is1⟩ ⟨S2.mkI g2 rfl rfl,is2⟩ ?_
 ·have:=rv1.length
  simp only [Ls]
  rw [Ll]
  omega
 ·intro c hc
  show c < (zh5 S1 S2 s1.heap l1 l2).objs.size
  rw [z5]
  exact (five c hc).2
 ·intro c hc
  show c < (zh5 S1 S2 s1.heap l1 l2).objs.size
  rw [z5]
  rcases Lh.mp hc with rfl | hc
  ·exact Nat.lt_add_of_pos_right (by decide)
  ·rw [Lg.mp hc]; exact LH lt1 (M4 _ _)
 ·intro c hc
  show c < (zh5 S1 S2 s1.heap l1 l2).objs.size
  rw [z5]
  rcases Lh.mp hc with rfl | hc
  ·exact Nat.add_lt_add_left (by decide) n
  ·rw [Lg.mp hc]; exact LH lt2 (M4 _ _)
 intro h' tk acc c ts hk hS' hl hG hacc
 have hS'':h'.get? (n + 5)=some { cls:=.type "list",dict:=none,data:=.seq acc c,slots:=#[] }:=by rw [<-z5]; exact hS'
 have hG':ZTs (fun i v=>us1.toArray[i]?=some v) (fun i v=>us2.toArray[i]?=some v) (n + 5 + 1) h' ts:=by rw [<-z5]; exact hG
 have hl':ts.length=min us1.length us2.length:=by simpa using hl
 have G:=Jc rv1 rv2 hl' hG'
 have old:∀ b o,s1.heap.get? b=some o->h'.get? b=some o:=fun b o e=>hk b o (fun hm=>by
  have:=Lm e
  rw [hn] at this
  exact absurd (five b hm).1 (P8.mpr this)) (kp b o e)
 have l1':=rv1.length
 have l2':=rv2.length
 let H':Hp:=fun b=>if b=n + 5 then some (.lst (ts.map V.ref)) else match ts.findIdx? (· == b) with
  | some i=>(match xs[i]?,ys[i]? with | some x,some y=>some (.tup [x,y]) | _,_=>H1 b)
  | none=>H1 b
 have big:∀ (i:Nat) (t:Addr),ts[i]?=some t->n + 6<=t:=fun i t ht=>(G i t ht).1
 have Hts:∀ (i:Nat) (t:Addr),ts[i]?=some t->∃ x y u v,H' t=some (.tup [x,y])/\xs[i]?=some x/\ys[i]?=some y/\aI x u/\aI y v/\IsPair h' t u v:=by
  intro i t ht
  obtain ⟨hlo,x,y,u,v,hx,hy,rx,ry,e⟩:=G i t ht
  refine ⟨x,y,u,v,?_,hx,hy,rx,ry,e⟩
  have net:t≠n + 5:=fun q=>by rw [q] at hlo; exact absurd hlo (P8.mpr (MS _))
  show (if t=n + 5 then _ else _)=_
  rw [if_neg net]
  cases hf:ts.findIdx? (· == t) with
  | none=>
   have:=O1.mp hf t (Lw ht)
   simp at this
  | some i0=>
   obtain ⟨h0,h1,_⟩:=NA.mp hf
   have ht0:ts[i0]?=some t:=by rw [Ld h0]; congr 1; exact eq_of_beq h1
   obtain ⟨_,x0,y0,u0,v0,hx0,hy0,rx0,ry0,e0⟩:=G i0 t ht0
   have eq:=Lu (e0.symm.trans e)
   have eu:u0=u/\v0=v:=by
    injection eq with _ _ eq
    injection eq with eq _
    simp at eq
    exact eq
   rw [eu.1] at rx0
   rw [eu.2] at ry0
   simp only [hx0,hy0]
   rw [Al rx0 rx,Al ry0 ry]
 have hH:∀ b,b < s1.heap.objs.size->H' b=H1 b:=by
  intro b hb
  rw [hn] at hb
  have ne5:b≠n + 5:=fun q=>by rw [q] at hb; exact absurd hb (QY.mpr (M4 _ _))
  show (if b=n + 5 then _ else _)=_
  rw [if_neg ne5]
  cases hf:ts.findIdx? (· == b) with
  | none=>rfl
  | some i0=>
   obtain ⟨h0,h1,_⟩:=NA.mp hf
   have ht0:ts[i0]?=some b:=by rw [Ld h0]; congr 1; exact eq_of_beq h1
   have:=big i0 b ht0
   exact absurd (LH hb (LS (M4 _ _) this)) (M5 _)
 have e5:H' (n + 5)=some (.lst (ts.map V.ref)):=if_pos rfl
 have hvals:aG (ts.map V.ref) acc.toList:=by
  have go:∀ l:List Addr,aG (l.map V.ref) (l.map LL):=fun l=>by
   induction l with
   | nil=>exact .nil
   | cons t r ih=>exact .cons rfl ih
  rw [hacc]
  exact go ts
 have I2:Inv X pins σ H' { s1 with heap:=h',toks:=tk }:=I1.news old hH fun a o ha eo=>by
  by_cases c5:a=n + 5
  ·subst c5
   rw [e5] at eo
   cases eo
   refine ⟨?_,acc.toList,c,hvals,by simpa using hS''⟩
   rw [Lf,hl',Ll]
   omega
  ·have eo':(match ts.findIdx? (· == a) with
    | some i=>(match xs[i]?,ys[i]? with | some x,some y=>some (HO.tup [x,y]) | _,_=>H1 a)
    | none=>H1 a)=some o:=by
    have:H' a=some o:=eo
    rw [show H' a=(if a=n + 5 then some (.lst (ts.map V.ref)) else match ts.findIdx? (· == a) with
     | some i=>(match xs[i]?,ys[i]? with | some x,some y=>some (.tup [x,y]) | _,_=>H1 a)
     | none=>H1 a) from rfl,if_neg c5] at this
    exact this
   have hfr:H1 a=none:=I1.hok.fresh ha
   cases hf:ts.findIdx? (· == a) with
   | none=>rw [hf] at eo'; rw [show H1 a=some o from eo'] at hfr; cases hfr
   | some i0=>
    obtain ⟨h0,h1,_⟩:=NA.mp hf
    have ht0:ts[i0]?=some a:=by rw [Ld h0]; congr 1; exact eq_of_beq h1
    obtain ⟨_,x0,y0,u0,v0,hx0,hy0,rx0,ry0,e0⟩:=G i0 a ht0
    rw [hf] at eo'
    simp only [hx0,hy0] at eo'
    cases eo'
    exact ⟨(by show 2<=Lr; decide),[u0,v0],.cons rx0 (.cons ry0 .nil),_,e0,rfl,⟨0,rfl⟩,rfl⟩
 have hp5:H1 (n + 5)=none:=I1.hok.fresh (by rw [hn]; exact M4 _ _)
 have hsame:am H1 H':=fun b o eb=>by
  rw [hH b (I1.hok.lt eb)]
  exact eb
 show ∃ v H',_/\_/\_
 refine ⟨.ref (n + 5),H',I2,by rw [<-z5]; rfl,q _ _ hp5 hsame ⟨ts,e5,?_⟩⟩
 have go:∀ (l:List Addr) (m:List (V×V)),l.length=m.length->(∀ (i:Nat) (t:Addr) (pq:V×V),l[i]?=some t->m[i]?=some pq->H' t=some (.tup [pq.1,pq.2]))->rg H' l m:=by
  intro l
  induction l with
  | nil=>intro m hl _; cases m with
   | nil=>exact .nil
   | cons _ _=>simp at hl
  | cons t r ih=>intro m hl hh; cases m with
   | nil=>simp at hl
   | cons pq m=>exact .cons (hh 0 t pq rfl rfl) (ih m (by simpa using hl) fun i t pq h1 h2=>hh (i + 1) t pq h1 h2)
 refine go _ _ (by rw [Oz]; omega) fun i t pq ht hpq=>?_
 obtain ⟨x,y,u,v,e,hx,hy,_⟩:=Hts i t ht
 rw [e]
 have:(xs.zip ys)[i]?=some (x,y):=by rw [Od]; exact ⟨hx,hy⟩
 rw [this] at hpq
 cases hpq
 rfl
end
end
section
open PySem.Spec
section
variable {prog:Program} {w:World} {A:Around} {E:Value->Shared->Prop} {s:Shared}
theorem xU {Q:List Value->Shared->Prop} {r:Addr} {a b c:Int} {t u v:Tok} {n:Nat} (hh:A.handled=none) (hr:IsRange s.heap r a b c t u v) (hsmall:Qd a b c=true) (hn:Np a b c=n) (hlen:n<=2 ^ 24)
  (hQ:∀ (h':Heap) (tk:Nat) (acc':Array Value),(∀ b o,s.heap.get? b=some o->h'.get? b=some o)->ItemsOf (fun i v=>∃ t,v=.int (a + i * c) t) acc' n->Q acc'.toList { s with heap:=h',toks:=tk }):
  wpAny (model prog w) A (collect (.ref r)) Q E s:=by
 unfold collect
 refine La (RU (M0 F.entry_proto_collect ?_))
 rw [ME F.plain_proto_collect _]
 show wpAny _ A.in1 (newList [] >>= fun l=>again (.builtin "list.__iadd__" ⟨[l,.ref r],[]⟩)) _ _ s
 refine La (Md ?_)
 refine Lc ⟨NT Tj _,M0 F.entry_list_iadd ?_⟩
 rw [ME Tj _]
 show wpAny _ A.in1 (Mu (.ref s.heap.objs.size) (.ref r) (.ref s.heap.objs.size)) _ _ _
 have hS:(s.heap.push { cls:=.type "list",data:=.seq ([]:List Value).toArray }).get? s.heap.objs.size=some { cls:=.type "list",data:=.seq #[] 0 }:=Lk _ rfl
 have fin':∀ (h':Heap) (tk c':Nat) (acc':Array Value),(∀ b o,b≠s.heap.objs.size->(s.heap.push { cls:=.type "list",data:=.seq ([]:List Value).toArray }).get? b=some o->h'.get? b=some o)->h'.get? s.heap.objs.size=some { cls:=.type "list",dict:=none,data:=.seq acc' c',slots:=#[] }->ItemsOf (fun i v=>∃ t,v=.int (a + i * c) t) acc' n->wpAny (model prog w) A (match LL s.heap.objs.size with
   | LL a=>do
    match (<-load a).data with
     | Data.seq xs _=>pure xs.toList
     | _=>unsupported "internal:collect"
   | _=>unsupported "internal:collect") Q E { s with heap:=h',toks:=tk }:=by
  intro h' tk c' acc' hk hS' hacc
  show wpAny _ A (load s.heap.objs.size >>= _) _ _ _
  refine La (R6 hS' ?_)
  refine Lc ?_
  exact hQ h' tk acc' (fun b o e=>hk b o (LR (Lm e)) (Lb _ e)) hacc
 refine M1 (wpAny_extend_range (A:=A) (R:=fun r s'=>r=.ok (.ret (.ref s.heap.objs.size))/\∃ (h':Heap) (tk c':Nat) (acc':Array Value),s'={ s with heap:=h',toks:=tk }/\(∀ b o,b≠s.heap.objs.size->(s.heap.push { cls:=.type "list",data:=.seq ([]:List Value).toArray }).get? b=some o->h'.get? b=some o)/\h'.get? s.heap.objs.size=some { cls:=.type "list",dict:=none,data:=.seq acc' c',slots:=#[] }/\ItemsOf (fun i v=>∃ t,v=.int (a + i * c) t) acc' n)
  (s:={ s with heap:=s.heap.push { cls:=.type "list",data:=.seq ([]:List Value).toArray } }) hh (Lb _ hr) hsmall hn hlen s.heap.objs.size (.ref s.heap.objs.size) 0 hS fun h' tk acc' c' hk hS' hacc=>⟨rfl,h',tk,c',acc',rfl,hk,hS',hacc⟩) (fun fin s' h=>?_) (fun e s' h=>?_)
 ·cases fin with
  | done f=>
   obtain ⟨e,h',tk,c',acc',rfl,h1,h2,h3⟩:=h
   cases e
   exact fin' h' tk c' acc' h1 h2 h3
  | again c'=>exact ⟨h.1,Oj h.2 fun r s'' hr=>by obtain ⟨rfl,h',tk,c',acc',rfl,h1,h2,h3⟩:=hr; exact fin' h' tk c' acc' h1 h2 h3⟩
 ·exact absurd h.1 (by simp)
theorem tL {Q:Value->Shared->Prop} {r:Addr} {a b c:Int} {t u v:Tok} {n:Nat} (hh:A.handled=none) (hr:IsRange s.heap r a b c t u v) (hsmall:Qd a b c=true) (hn:Np a b c=n) (hlen:n<=2 ^ 24)
  (hQ:∀ (h':Heap) (tk:Nat) (acc':Array Value),(∀ b o,s.heap.get? b=some o->h'.get? b=some o)->ItemsOf (fun i v=>∃ t,v=.int (a + i * c) t) acc' n->Q (.ref h'.objs.size) { s with heap:=h'.push { cls:=.type "tuple",data:=.seq acc' },toks:=tk }):
  wpAny (model prog w) A (call (.type "tuple") [.ref r]) Q E s:=by
 refine callType_codes (Q₁:=fun obj s₁=>s₁.TypeIs obj "tuple"/\Q obj s₁) RY (F.typeCall_tuple_1 _) F.entry_object_init ?_ fun obj s₁ h₁=>?_
 ·refine Rv ?_
  show wpAny _ A.in1.in1 (do T1 "tuple.__new__" ⟨[.type "tuple",.ref r],[]⟩; again (.builtin "tuple.__new__" ⟨[.type "tuple",.ref r],[]⟩)) _ _ s
  refine La (Qo (F.newCall_tuple_1 _) (Lc ⟨NT Tn _,M0 F.entry_tuple_new ?_⟩))
  rw [ME Tn _]
  have hsub:=sub_tuple_self
  have hinit:=init_tuple_lookup
  have hmh:=madeHere_tuple
  have hTI:QI s (.ref r) "range":=⟨_,hr,rfl⟩
  wp_walk using PQ hTI,xU (A:=A.in1.in1) (show A.in1.in1.handled=none from hh) hr hsmall hn hlen
  intro h' tk acc hk hacc
  show wpAny _ _ (Ng acc.toList.toArray >>= fun v=>ret v) _ _ _
  unfold Ng
  have hz:acc.size<=Lr:=by rw [hacc.1,Ll]; omega
  refine La (Md ?_ (by show acc.toList.toArray.size<=Lr; simpa using hz))
  refine Lc ?_
  have e:acc.toList.toArray=acc:=by simp
  rw [e]
  exact ⟨⟨_,Lk _ rfl,rfl⟩,hQ h' tk acc hk hacc⟩
 ·exact ⟨h₁.1,Se obj _,object_init_meets RY.init.lookup RY.made (by decide) prog w A.in1 _ s₁ ⟨h₁.1,rfl,h₁.2⟩⟩
end
section
variable {X:Cx} {tg:Expr}
theorem xD (hc:X.calm=true):cS X (.type "tuple") yE:=by
 intro pins s σ H xs us Q I r h
 obtain ⟨p,n,rfl,e,hn,q⟩:=h
 obtain ⟨u,rfl,rx⟩:=lW r
 cases rx
 obtain ⟨t,u,v,hr⟩:=(show bD X.prog X.w H s.heap p (.rng 0 (n:Int)) from I.hok p _ e)
 refine tL (n:=n) (show X.A.handled=none from I.ok.hd hc) hr (Us (by omega) (by omega) (by omega) (by omega)) ?_ (by omega) fun h' tk acc' kp it=>?_
 ·rw [Sn]; split <;> omega
 ·have I1:Inv X pins σ H { s with heap:=h',toks:=tk }:=I.kept (t':=tk) kp
  have I2:Inv X pins σ (upd H h'.objs.size (.tup ((Lv n).map fun (i:Nat)=>V.int ((i:Nat):Int)))) { s with heap:=h'.push { cls:=.type "tuple",data:=.seq acc' },toks:=tk }:=
   I1.laid (t':=tk) (fun b o e=>Lb _ e) (Le _) (show bD X.prog X.w _ _ _ (.tup _) from ⟨by rw [Lf,Mz,Ll]; omega,acc'.toList,xC it,by simpa using eR.new h' acc'⟩)
  exact ⟨.ref h'.objs.size,_,I2,rfl,q.upd _ (I1.hok.fresh (Le _))⟩
theorem GO {P:Program} {w:World} {K:Fg} {tg:Expr} (it:Addr) (n:Nat):pV P w K tg (Its n) [it] it (fun i h=>Rz h it ((0:Int) + (i:Nat) * 2) ((n:Int) - (i:Nat)) 2) where
 mem:=by simp
 obj:=fun i h st b hb=>by
  have e:b=it:=by simpa using hb
  subst e
  exact ⟨_,st,fun v z=>by
   have z':Data.fields _=Data.cell v:=z
   cases z'⟩
 keep:=fun i h h' st k=>k it (by simp) _ st
 item:=by
  intro X hP hw hK hc i pins s σ H E I hf st hg
  subst hP hw hK
  obtain ⟨f0,f1,f2,f3,f4,f5⟩:=hf it (by simp)
  have W:=Walks.range (prog:=X.prog) (w:=X.w) (I.ok.hd hc) it 0 2 n
  refine W.item i s _ _ hg st fun v h' tk hv st' kk=>?_
  obtain ⟨t,rfl⟩:=hv
  have I1:Inv X pins σ H { s with heap:=h',toks:=tk }:=I.turned (fun b o hb e=>kk b o (by simpa using hb) e) f0 f1 f3 f4 f5
  refine ⟨_,rfl,yw (s:={ s with heap:=h',toks:=tk }) (n:="range_iterator") st' rfl rfl (by decide) ⟨.int (2 * i),H,I1,⟨t,?_⟩,⟨rfl,rfl⟩,st',fun b hb=>(hf b hb).1⟩⟩
  rw [show (0:Int) + (i:Int) * 2=2 * (i:Int) by omega]
 done:=by
  intro X hP hw hK hc i pins s σ H E I hf st hg
  subst hP hw hK
  obtain ⟨f0,f1,f2,f3,f4,f5⟩:=hf it (by simp)
  exact RA (I.ok.hd hc) st (by have:n<=i:=hg; omega) fun h' eb=>⟨rfl,I.turned (t':=s.toks) (fun b o hb e=>eb b o hb e) f0 f1 f3 f4 f5⟩
 self:=fun _ _ _ _ _ st h=>RB st h
theorem Am {lo:Int} (h1:0<=lo):Np 0 lo 2=(lo + 1) / 2:=by
 unfold Np
 rw [if_pos (by decide)]
 by_cases h:(0:Int) < lo
 ·rw [if_pos h]; omega
 ·rw [if_neg h]; omega
theorem Kk {pins:List (Addr×Obj)} {σ:St} {H:Hp} {s:Shared} {R:It->Hp->Prop} {E:Value->Shared->Prop} {lo:Int} {t u v:Tok} {tk:Nat} (I:Inv X pins σ H s) (h1:0<=lo) (h2:lo < 1000000)
  (q:R (Its ((lo + 1) / 2).toNat) H):wpAny (model X.prog X.w) X.A (pyIter (.ref s.heap.objs.size)) (PIE X pins σ tg R) E { s with heap:=s.heap.push { cls:=.type "range",data:=.fields #[.int 0 t,.int lo u,.int 2 v] },toks:=tk }:=by
 refine SI (IsRange.new ..) ?small ?_
 case small=>
  unfold Qd
  rw [Am h1]
  simp [Builtin.Range.rangeFitsLong]
  omega
 have I1:Inv X pins σ H { s with heap:=s.heap.push { cls:=.type "range",data:=.fields #[.int 0 t,.int lo u,.int 2 v] },toks:=tk }:=I.kept fun b o e=>Lb _ e
 refine ⟨(s.heap.push { cls:=.type "range",data:=.fields #[.int 0 t,.int lo u,.int 2 v] }).objs.size,[(s.heap.push { cls:=.type "range",data:=.fields #[.int 0 t,.int lo u,.int 2 v] }).objs.size],_,_,H,rfl,
  I1.kept (t':=tk) fun b o e=>Lb _ e,GO _ ((lo + 1) / 2).toNat,?_,fun b hb=>?_,q⟩
 ·have e1:(0:Int) + ((0:Nat):Int) * 2=0:=by simp
  have e2:((((lo + 1) / 2).toNat:Nat):Int) - ((0:Nat):Int)=Np 0 lo 2:=by
   rw [Am h1]; omega
  show Rz _ _ ((0:Int) + ((0:Nat):Int) * 2) (((((lo + 1) / 2).toNat:Nat):Int) - ((0:Nat):Int)) 2
  rw [e1,e2]
  exact Lk _ rfl
 ·have e:b=(s.heap.push { cls:=.type "range",data:=.fields #[.int 0 t,.int lo u,.int 2 v] }).objs.size:=by simpa using hb
  subst e
  exact I1.fpOk (Le _) (I1.hok.fresh (Le _))
theorem Fi {a b d:Expr} {ta:TA} {p pos:Pos} (hg:Gl X "range") (hm:X.mg "range"=none) (ha:PA X [a,b,d] ta) (hs:LD [a,b,d] X.env=[(false,eval a X.env),(false,eval b X.env),(false,eval d X.env)]:=by rfl) (hs2:LD [b,d] X.env=[(false,eval b X.env),(false,eval d X.env)]:=by rfl):
  PI X tg (.Call (.Name "range" p) [a,b,d] [] pos) (CI ta):=by
 intro pins s σ H R I h
 refine Call_ (fY I hg hm QV (Ms (thn (ha pos pins s σ H _ I h) fun us s1 ⟨vs,H1,I1,r1,q1⟩=>?_) (by rw [hs,hs2]) (by rw [hs2]; rfl)))
 obtain ⟨i,e,q1,q2,q⟩:=q1
 subst e
 cases r1 with
 | cons r rr=>
  cases rr with
  | cons r' rr=>
   cases rr with
   | cons r'' rr=>
    cases rr
    obtain ⟨t,rfl⟩:=r
    obtain ⟨t',rfl⟩:=r'
    obtain ⟨t'',rfl⟩:=r''
    exact call_range_3 (by decide) (Kk I1 q1 q2 q) (Lp (RC (by omega)))
end
end
section
open PySem.Spec
noncomputable def vwD (v:List Nat):PyData:=.list (v.map fun (k:Nat)=>.int (k:Int))
theorem xE:∀ v w:List Nat,QL (v.map fun (k:Nat)=>Pe (k:Int)) (w.map fun (k:Nat)=>Pe (k:Int))=decide (v=w)
 | [],[]=>rfl
 | [],_ :: _=>rfl
 | _ :: _,[]=>rfl
 | a :: v,b :: w=>by
  rw [LA,LA,QL,xE v w,Pd,Ou,MG,decide_eq_true_iff,decide_eq_true_iff,Rr,beq_iff_eq,Int.ofNat_inj]
theorem ve:∀ v w:List (List Nat),QL (v.map vwD) (w.map vwD)=decide (v=w)
 | [],[]=>rfl
 | [],_ :: _=>rfl
 | _ :: _,[]=>rfl
 | a :: v,b :: w=>by
  rw [LA,LA,QL,ve v w]
  have:Pd (vwD a) (vwD b)=decide (a=b):=by
   unfold vwD
   rw [Pd]
   exact xE a b
  rw [this,Ou,MG,decide_eq_true_iff,decide_eq_true_iff,decide_eq_true_iff,Rr]
theorem xF:∀ w:List Nat,Nw (w.map fun (k:Nat)=>Pe (k:Int))=true
 | []=>rfl
 | k :: g=>by show (true && Nw _)=true; rw [xF g]; rfl
theorem vf:∀ w:List (List Nat),Nw (w.map vwD)=true
 | []=>rfl
 | k :: g=>by show (Nw (k.map fun (k:Nat)=>Pe (k:Int)) && Nw _)=true; rw [xF k,vf g]; rfl
theorem vg:∀ g:List Nat,NP (g.map fun (k:Nat)=>Pe (k:Int))=0
 | []=>rfl
 | k :: g=>by show max 0 (NP _)=0; rw [vg g]; rfl
theorem su:∀ g:List (List Nat),NP (g.map vwD)<=1
 | []=>Me _
 | k :: g=>by
  show max (NP (k.map fun (k:Nat)=>Pe (k:Int)) + 1) (NP _)<=1
  rw [vg k]
  have:=su g
  omega
theorem oW (g:List (List Nat)):On (.list (g.map vwD))=true:=by
 unfold On
 rw [show PyData.canLay0 (.list (g.map vwD))=Nw (g.map vwD) from rfl,vf g,decide_eq_true ?_]
 ·rfl
 ·show NP (g.map vwD) + 1<=64
  have:=su g
  omega
theorem xG {K:Fg} {H:Hp}:∀ v:List Nat,i5 K H (av v) (v.map fun (k:Nat)=>Pe (k:Int))
 | []=>.nil
 | k :: v=>.cons (.int _) (xG v)
theorem vh {K:Fg} {H:Hp} {rs:List Addr} {vs:List (List Nat)} (h:Paired (fun (r:Addr) (v:List Nat)=>H r=some (.lst (av v))) rs vs):i5 K H (rs.map V.ref) (vs.map vwD):=by
 induction h with
 | nil=>exact .nil
 | cons r _ ih=>exact .cons (.lst (SqL.of r) (xG _)) ih
theorem Kl {X:Cx} (hu:X.A.units + 64 < cLine):OpR X (M7 .Eq) Gm:=by
 intro pins s σ H x y v u Q I rx ry h
 obtain ⟨a,b,vs,ws,rfl,rfl,⟨rs,e1,p1⟩,⟨ts,e2,p2⟩,q⟩:=h
 refine Kh hu pins s σ H _ _ v u Q I rx ry ⟨_,_,.lst (SqL.of e1) (vh p1),.lst (SqL.of e2) (vh p2),oW vs,oW ws,?_⟩
 show Q (.bl (Pd (.list (vs.map vwD)) (.list (ws.map vwD)))) H
 rw [Pd,ve]
 exact q
end
end L2
section
namespace L2
open PySem
end L2
end
namespace L2
open PySem PyProof.Rows
section
open PySem.Spec PySem.Calls
section
variable {X:Cx}
end
end
end L2
section
namespace L2
open PySem PySem.Spec PySem.W PyProof.Rows
noncomputable def FnA (K:Frag) (x q:Str) (st:Stmt) (f:Addr):Prop:=∃ (oc:Value) (od:Option Addr) (kV doc pm:Value) (an:Option Addr) (cd ct:Value) (sl:Array (Option Value)),K.lookup f=some ⟨oc,od,.func (fnOf x q (jr st) (eV st) (ac st) .none kV doc pm an cd ct),sl⟩/\codeIn K cd q=true/\keepIn K (.ref f)=true
noncomputable def DfA (K:Frag) (x:Str) (st:Stmt):Prop:=∃ f,nsIn K LO x=some (some (.ref f))/\FnA K x x st f
noncomputable def MtA (K:Frag) (C:Addr) (m q:Str) (st:Stmt):Prop:=∃ f,findIn K (.ref C) m=some (some (.ref f))/\isFn K (.ref f)=true/\FnA K m q st f
theorem FnA.fn {K:Frag} {x q:Str} {st:Stmt} {f:Addr} (h:FnA K x q st f):∃ fd,Fun K x q st f fd:=let ⟨_,_,_,_,_,_,_,_,_,l,c,k⟩:=h; ⟨_,Ec l c k⟩
noncomputable abbrev BdA (x q:Str) (st:Stmt) (ps:List Str):Prop:=∀ (kV doc pm:Value) (an:Option Addr) (cdv ct:Value) (us:List Value),us.length=ps.length->bindArgs (fnOf x q (jr st) (eV st) (ac st) .none kV doc pm an cdv ct) ⟨us,[]⟩=pure (ps.zip us)
theorem DfA.df {K:Frag} {mg:Str->Option Value} {h:Heap} {x:Str} {st:Stmt} {ps:List Str} (X:K.In h) (G:h.Ns LO mg) (q:DfA K x st) (b:BdA x x st ps):∃ f fd,Def K mg x st ps f fd:=
 let ⟨f,a,l⟩:=q; let ⟨fd,F⟩:=l.fn; ⟨f,fd,F,mg_of X G a,F.binds b⟩
theorem MtA.df {K:Frag} {C:Addr} {m q:Str} {st:Stmt} {ps:List Str} (h:MtA K C m q st) (b:BdA m q st ps):∃ f fd,iq K C m q st ps f fd:=
 let ⟨f,a,i,l⟩:=h; let ⟨fd,F⟩:=l.fn; ⟨f,fd,F,⟨a,i,F.kp⟩,F.binds b⟩
theorem MtA.di {K:Frag} {C:Addr} {q:Str} {st:Stmt} {ps:List Str} (h:MtA K C "__init__" q st) (mk:makesIn K C=true) (kc:keepIn K (.ref C)=true) (b:BdA "__init__" q st ps):∃ f fd,zP K C q st ps f fd:=
 let ⟨f,a,i,l⟩:=h; let ⟨fd,F⟩:=l.fn; ⟨f,fd,F,⟨mk,a,i,kc⟩,F.binds b⟩
theorem DfA.law {K:Frag} {mg:Str->Option Value} {h:Heap} {x p:Str} {st:Stmt} {fa:Addr} (X:K.In h) (G:h.Ns LO mg) (q:DfA K x st) (b:BdA x x st [p]) (hf:mg x=some (.ref fa))
  (bb:∀ (kV doc pm:Value) (an:Option Addr) (cdv ct:Value) (s:Shared) (v:Value),BindsTo s (fnOf x x (jr st) (eV st) (ac st) .none kV doc pm an cdv ct) ⟨[v],[]⟩ [(p,v)]):∃ fd,Def K mg x st [p] fa fd/\∀ (s:Shared) (v:Value),BindsTo s fd ⟨[v],[]⟩ [(p,v)]:=by
 obtain ⟨f,a,_,_,kV,doc,pm,an,cdv,ct,_,l,c,k⟩:=q
 have e:=hf.symm.trans (mg_of X G a)
 cases e
 have F:=Ec l c k
 exact ⟨_,⟨F,mg_of X G a,F.binds b⟩,bb kV doc pm an cdv ct⟩
end L2
end
namespace Kc_k43
open PySem L2 PyProof.Rows
local macro_rules | `(tactic| walk_at "v")=>`(tactic| exact ⟨rfl,by first | exact Lp rfl | exact OT (Lp rfl) | exact OT (OT rfl),by decide,by decide⟩)
local macro_rules | `(tactic| walk_at "w")=>`(tactic| exact ⟨rfl,rfl,rfl,by decide +kernel,rfl,by decide +kernel,by decide +kernel⟩)
local macro_rules | `(tactic| walk_at "l")=>`(tactic| (intro _ _ _ _ h; first | (obtain ⟨_,e,_⟩:=h; subst e; rfl) | (obtain ⟨_,_,e,_⟩:=h; subst e; rfl) | (obtain ⟨_,_,_,e,_⟩:=h; subst e; rfl) | (obtain ⟨_,_,_,_,e,_⟩:=h; subst e; rfl) | (obtain ⟨_,_,_,_,_,e,_⟩:=h; subst e; rfl) | (obtain ⟨_,_,_,_,_,_,e,_⟩:=h; subst e; rfl) | (obtain ⟨_,_,_,_,_,_,_,e,_⟩:=h; subst e; rfl) | (obtain ⟨_,_,_,_,_,_,_,_,e,_⟩:=h; subst e; rfl) | (obtain ⟨_,_,_,_,_,_,_,_,_,e,_⟩:=h; subst e; rfl) | (obtain ⟨_,_,_,_,_,_,_,_,_,_,e,_⟩:=h; subst e; rfl) | (obtain ⟨_,_,_,_,_,_,_,_,_,_,_,e,_⟩:=h; subst e; rfl) | (obtain ⟨_,_,_,_,_,_,_,_,_,_,_,_,e,_⟩:=h; subst e; rfl) | (obtain ⟨_,_,_,_,_,_,_,_,_,_,_,_,_,e,_⟩:=h; subst e; rfl) | (obtain ⟨_,_,_,_,_,_,_,_,_,_,_,_,_,_,e,_⟩:=h; subst e; rfl) | (obtain ⟨_,_,_,_,_,_,_,_,_,_,_,_,_,_,_,e,_⟩:=h; subst e; rfl) | (obtain ⟨_,_,_,_,_,_,_,_,_,_,_,_,_,_,_,_,e,_⟩:=h; subst e; rfl)))
local macro_rules | `(tactic| walk_at "c")=>`(tactic| (refine ⟨rfl,?_,?_,?_,?_,rfl,?_⟩ <;> decide +kernel))
local macro_rules | `(tactic| walk_at "e")=>`(tactic| (refine ⟨rfl,?_,?_,?_,?_,rfl,?_⟩ <;> first | decide +kernel | exact Fa (by decide +kernel)))
theorem pvA {X:Cx} {N:List Str} {sc:Scope} {i:Nat} {x:Str} {pos:Pos} (h:ah N sc i x) (hN:X.N=N:=by exact rfl) (hS:X.env.scope=sc:=by exact rfl):PE X (.Name x pos) (ab i):=pvQ h hN hS
theorem rmD {n k:Nat} {A:Around} (h:bQ k A) (e:n<=k:=by decide):bQ n A:=h.mono e
noncomputable abbrev gj:List Str:=["_law_script","_law_cards","_law_sizes","_law_hands","_law_table","_law_k","_law_sayings","_law_first","_law_second","_law_whole","_law_ahead","_law_between_here","_law_other","_law_turn"]
noncomputable abbrev kh:List Str:=["_law_script","_law_at","_law_cards","_law_hands","_law_most","_law_pool_here","_law_k","_law_cell_here","_law_one","_law_other","_law_some"]
noncomputable abbrev qG:List Str:=["_law_script","_law_at","_law_cards","_law_hands","_law_pool_here","_law_k","_law_cell_here"]
noncomputable abbrev mV:List Str:=["_law_script","_law_at","_law_cards","_law_hands"]
noncomputable abbrev qH:List Str:=["_law_script","_law_at","_law_cards","_law_hands","_law_cell_here","_law_some"]
noncomputable abbrev oF:List Str:=["table","sayings","turns","own","everyone","told","still","before"]
noncomputable abbrev tM:List Str:=["_law_script","_law_at","_law_most","_law_cards","_law_sizes","_law_k"]
noncomputable abbrev An:List Str:=["_law_script","_law_at","_law_cards","_law_hands","_law_most"]
noncomputable abbrev lH:List Str:=["deals","views","S","word","inner","some"]
noncomputable abbrev fz:List Str:=["cards","sizes"]
noncomputable abbrev mB:List Str:=["many","views","points","view","thing","least"]
noncomputable abbrev jR:List Str:=["cards","hands","place","part"]
noncomputable abbrev dU:List Str:=["ones","others"]
noncomputable abbrev jS:List Str:=["cards","hands","thing"]
noncomputable abbrev oG:List Str:=["begun","room","longer","deal","who","most"]
noncomputable abbrev mC:List Str:=["_law_number","_law_hands"]
noncomputable abbrev kK:List Str:=["thing","least","most"]
noncomputable abbrev gI:List Str:=["self","cards","sizes"]
noncomputable abbrev mD:List Str:=["_law_table","_law_deed_here"]
noncomputable abbrev oH:List Str:=["cards","hands","thing","words","level"]
noncomputable abbrev oI:List Str:=["view","truths","sure","least","truth"]
noncomputable abbrev kL:List Str:=["_law_ones","_law_others"]
noncomputable abbrev rD:List Str:=["self","hand","holder","some","rising"]
noncomputable abbrev kM:List Str:=["self","hands","S"]
noncomputable abbrev vi:List Str:=["_law_script","_law_k"]
noncomputable abbrev vj:List Str:=["_law_cards","_law_sizes","_law_found","_law_many"]
noncomputable abbrev vk:List Str:=["_law_script","_law_at","_law_most"]
noncomputable abbrev rE:List Str:=["points","one","other","first","second"]
noncomputable abbrev vm:List Str:=["cards","sizes","room","begun","card"]
noncomputable abbrev rF:List Str:=["cards","sizes","many","left","size"]
noncomputable abbrev oJ:List Str:=["deal","holder","rising"]
noncomputable abbrev vo:List Str:=["self","hand","holder","some"]
noncomputable abbrev mE:List Str:=["thing","bound"]
noncomputable abbrev rG:List Str:=["marks","firsts","thing","mark"]
noncomputable abbrev vq:List Str:=["self","hands","values"]
noncomputable abbrev yH:List Str:=["cards","hands","thing","form"]
noncomputable abbrev vt:List Str:=["table","sayings","turns"]
noncomputable abbrev yI:List Str:=["_law_sayings","_law_found","_law_saying_here"]
noncomputable abbrev mF:List Str:=["thing","cards"]
noncomputable abbrev vv:List Str:=["_law_cards","_law_sizes"]
noncomputable abbrev vx:List Str:=["views","truths","answers","view"]
noncomputable abbrev yJ:List Str:=["_law_saying_here","_law_found","_law_part"]
noncomputable abbrev mG:List Str:=["deals","hand"]
noncomputable abbrev kN:List Str:=["piles","view"]
noncomputable abbrev oK:List Str:=["fit","reason"]
noncomputable abbrev vy:List Str:=["points","one","other"]
noncomputable abbrev mH:List Str:=["deal","who"]
noncomputable abbrev mI:List Str:=["view","values"]
noncomputable abbrev vz:List Str:=["deal","holder","rising","card"]
noncomputable abbrev vA:List Str:=["thing","hands","least","hand"]
noncomputable abbrev vB:List Str:=["self","hands","values","hand"]
noncomputable abbrev vC:List Str:=["many","taken","ways","step"]
noncomputable abbrev vD:List Str:=["view","truths"]
noncomputable abbrev rH:List Str:=["deals","views","S"]
noncomputable abbrev yK:List Str:=["_law_script","_law_k","_law_number"]
noncomputable abbrev vE:List Str:=["points","thing"]
noncomputable abbrev yL:List Str:=["_law_many","_law_found","_law_k"]
noncomputable abbrev vF:List Str:=["thing","hands"]
noncomputable abbrev rJ:List Str:=["_law_saying_here"]
noncomputable abbrev h7:List Str:=["self"]
noncomputable abbrev vG:List Str:=["views","truths"]
noncomputable abbrev mJ:List Str:=["self","S"]
noncomputable abbrev yM:List Str:=["sayings","parts","saying"]
noncomputable abbrev vH:List Str:=["many","taken"]
noncomputable abbrev vI:List Str:=["begun","room"]
noncomputable abbrev vJ:List Str:=["many","views"]
noncomputable abbrev vK:List Str:=["_law_sayings"]
noncomputable abbrev Hu:List Str:=["_law_k","_law_script","_law_cards","_law_hands"]
noncomputable abbrev CV:List Str:=["place","part","cards","hands"]
noncomputable abbrev yN:List Str:=["points","thing","end"]
noncomputable abbrev Hv:List Str:=["_law_k","_law_cards","_law_script","_law_at"]
noncomputable abbrev rL:List Str:=["one","other"]
noncomputable abbrev vL:List Str:=["_law_many"]
noncomputable abbrev oM:List Str:=["thing"]
noncomputable abbrev rM:List Str:=["_law_script"]
noncomputable abbrev CW:List Str:=["pile","least","piles"]
noncomputable abbrev vM:List Str:=["sayings"]
noncomputable abbrev CY:List Str:=["card","holder","who"]
noncomputable abbrev yO:List Str:=["saying","form"]
noncomputable abbrev vN:List Str:=["saying"]
noncomputable abbrev GP (P:Program) (w:World) (K:Fg) (mg:Str->Option Value) (base:Heap) (G:GF) (k:Nat):Prop:=FnB P w K mg base k "play" vt (kS K G)
noncomputable abbrev CZ (P:Program) (w:World) (K:Fg) (mg:Str->Option Value) (base:Heap) (k:Nat):Prop:=FnB P w K mg base k "is_whole" oM (gU K)
noncomputable abbrev Ao (P:Program) (w:World) (K:Fg) (mg:Str->Option Value) (base:Heap) (k:Nat):Prop:=FnB P w K mg base k "is_within" kK (dI K)
noncomputable abbrev Ap (P:Program) (w:World) (K:Fg) (mg:Str->Option Value) (base:Heap) (k:Nat):Prop:=FnB P w K mg base k "is_below" mE (dz K)
noncomputable abbrev C0 (P:Program) (w:World) (K:Fg) (mg:Str->Option Value) (base:Heap) (k:Nat):Prop:=FnB P w K mg base k "are_hands" vF (iO K)
noncomputable abbrev GQ (P:Program) (w:World) (K:Fg) (mg:Str->Option Value) (base:Heap) (k:Nat):Prop:=FnB P w K mg base k "is_pack" fz (ol K)
noncomputable abbrev GR (P:Program) (w:World) (K:Fg) (mg:Str->Option Value) (base:Heap) (k:Nat):Prop:=FnB P w K mg base k "choices" vH (om K)
noncomputable abbrev GS (P:Program) (w:World) (K:Fg) (mg:Str->Option Value) (base:Heap) (k:Nat):Prop:=FnB P w K mg base k "how_many" fz (mR K)
noncomputable abbrev GT (P:Program) (w:World) (K:Fg) (mg:Str->Option Value) (base:Heap) (k:Nat):Prop:=FnB P w K mg base k "with_one_more" vI (im K)
noncomputable abbrev C1 (P:Program) (w:World) (K:Fg) (mg:Str->Option Value) (base:Heap) (k:Nat):Prop:=FnB P w K mg base k "deals_of" fz (jG K)
noncomputable abbrev yP (P:Program) (w:World) (K:Fg) (mg:Str->Option Value) (base:Heap) (k:Nat):Prop:=FnB P w K mg base k "cards_of" mH (jH K)
noncomputable abbrev C2 (P:Program) (w:World) (K:Fg) (mg:Str->Option Value) (base:Heap) (k:Nat):Prop:=FnB P w K mg base k "is_word" jS (oy K)
noncomputable abbrev C3 (P:Program) (w:World) (K:Fg) (mg:Str->Option Value) (base:Heap) (k:Nat):Prop:=FnB P w K mg base k "parts_of_all" vM (iQ K)
noncomputable abbrev C4 (P:Program) (w:World) (K:Fg) (mg:Str->Option Value) (base:Heap) (k:Nat):Prop:=FnB P w K mg base k "is_saying" jS (lx K)
noncomputable abbrev C5 (P:Program) (w:World) (K:Fg) (mg:Str->Option Value) (base:Heap) (k:Nat):Prop:=FnB P w K mg base k "fits" jR (wq K)
noncomputable abbrev C6 (P:Program) (w:World) (K:Fg) (mg:Str->Option Value) (base:Heap) (k:Nat):Prop:=FnB P w K mg base k "parts_of" vN (mS K)
noncomputable abbrev yQ (P:Program) (w:World) (K:Fg) (mg:Str->Option Value) (base:Heap) (k:Nat):Prop:=FnB P w K mg base k "least_with_same" ["marks"] (d5 K)
noncomputable abbrev C7 (P:Program) (w:World) (K:Fg) (mg:Str->Option Value) (base:Heap) (k:Nat):Prop:=FnB P w K mg base k "first_view" mG (kb K)
noncomputable abbrev C8 (P:Program) (w:World) (K:Fg) (mg:Str->Option Value) (base:Heap) (k:Nat):Prop:=FnB P w K mg base k "split" mI (tm K)
noncomputable abbrev yR (P:Program) (w:World) (K:Fg) (mg:Str->Option Value) (base:Heap) (k:Nat):Prop:=FnB P w K mg base k "end_of" vE (jZ K)
noncomputable abbrev C9 (P:Program) (w:World) (K:Fg) (mg:Str->Option Value) (base:Heap) (k:Nat):Prop:=FnB P w K mg base k "link" vy (wn K)
noncomputable abbrev Da (P:Program) (w:World) (K:Fg) (mg:Str->Option Value) (base:Heap) (k:Nat):Prop:=FnB P w K mg base k "joined" vJ (qp K)
noncomputable abbrev yS (P:Program) (w:World) (K:Fg) (mg:Str->Option Value) (base:Heap) (k:Nat):Prop:=FnB P w K mg base k "both" dU (rh K)
noncomputable abbrev Db (P:Program) (w:World) (K:Fg) (mg:Str->Option Value) (base:Heap) (k:Nat):Prop:=FnB P w K mg base k "either" dU (qr K)
noncomputable abbrev vO (P:Program) (w:World) (K:Fg) (mg:Str->Option Value) (base:Heap) (k:Nat):Prop:=FnB P w K mg base k "known" vD (ju K)
noncomputable abbrev Dc (P:Program) (w:World) (K:Fg) (mg:Str->Option Value) (base:Heap) (k:Nat):Prop:=FnB P w K mg base k "known_to_all" vG (iN K)
noncomputable abbrev De (P:Program) (w:World) (K:Fg) (mg:Str->Option Value) (base:Heap) (k:Nat):Prop:=FnB P w K mg base k "seen" kN (wo K)
noncomputable abbrev yT (P:Program) (w:World) (K:Fg) (mg:Str->Option Value) (base:Heap) (k:Nat):Prop:=FnB P w K mg base k "refuse_unless" oK (cL K)
noncomputable abbrev Df (P:Program) (w:World) (K:Fg) (mg:Str->Option Value) (base:Heap) (k:Nat):Prop:=FnB P w K mg base k "are_cards" mF (lz K)
noncomputable abbrev Dg (P:Program) (w:World) (K:Fg) (mg:Str->Option Value) (base:Heap) (k:Nat):Prop:=FnB P w K mg base k "least_held" oJ (kf K)
noncomputable abbrev oN (P:Program) (w:World) (K:Fg) (mg:Str->Option Value) (base:Heap) (k:Nat):Prop:=FnB P w K mg base k "_law_cell" vi (aZ K)
noncomputable abbrev Dh (P:Program) (w:World) (K:Fg) (mg:Str->Option Value) (base:Heap) (k:Nat):Prop:=FnB P w K mg base k "_law_product" vL (fT K)
noncomputable abbrev Di (P:Program) (w:World) (K:Fg) (mg:Str->Option Value) (base:Heap) (k:Nat):Prop:=FnB P w K mg base k "_law_count" vv (gZ K)
noncomputable abbrev Dj (P:Program) (w:World) (K:Fg) (mg:Str->Option Value) (base:Heap) (k:Nat):Prop:=FnB P w K mg base k "_law_pack" vk (ln K)
noncomputable abbrev yU (P:Program) (w:World) (K:Fg) (mg:Str->Option Value) (base:Heap) (k:Nat):Prop:=FnB P w K mg base k "_law_group" mC (dm K)
noncomputable abbrev Dk (P:Program) (w:World) (K:Fg) (mg:Str->Option Value) (base:Heap) (k:Nat):Prop:=FnB P w K mg base k "_law_pool" mV (ly K)
noncomputable abbrev Hw (P:Program) (w:World) (K:Fg) (mg:Str->Option Value) (base:Heap) (k:Nat):Prop:=FnB P w K mg base k "_law_words" rJ (dX K 70)
noncomputable abbrev yV (P:Program) (w:World) (K:Fg) (mg:Str->Option Value) (base:Heap) (k:Nat):Prop:=FnB P w K mg base k "_law_saying" An (eY K)
noncomputable abbrev Dl (P:Program) (w:World) (K:Fg) (mg:Str->Option Value) (base:Heap) (k:Nat):Prop:=FnB P w K mg base k "_law_deed" mV (lC K)
noncomputable abbrev Dm (P:Program) (w:World) (K:Fg) (mg:Str->Option Value) (base:Heap) (G:GF) (k:Nat):Prop:=FnB P w K mg base k "_law_done" mD (lD K G)
noncomputable abbrev Dn (P:Program) (w:World) (K:Fg) (mg:Str->Option Value) (base:Heap) (k:Nat):Prop:=FnB P w K mg base k "_law_alike" kL (hZ K)
noncomputable abbrev Do (P:Program) (w:World) (K:Fg) (mg:Str->Option Value) (base:Heap) (k:Nat):Prop:=FnB P w K mg base k "_law_between" vK (i4 K)
noncomputable abbrev Hx (P:Program) (w:World) (K:Fg) (mg:Str->Option Value) (base:Heap) (k:Nat):Prop:=FnB P w K mg base k "truths_of" rH (bR K 35)
noncomputable abbrev Dp (P:Program) (w:World) (K:Fg) (mg:Str->Option Value) (base:Heap) (G:GF) (k:Nat):Prop:=FnM P w K mg base k G.Table "again" h7 (gG K G)
noncomputable abbrev Aq (P:Program) (w:World) (K:Fg) (mg:Str->Option Value) (base:Heap) (G:GF) (k:Nat):Prop:=FnM P w K mg base k G.Table "word" kM (fC K G)
noncomputable abbrev GU (P:Program) (w:World) (K:Fg) (mg:Str->Option Value) (base:Heap) (G:GF) (k:Nat):Prop:=FnM P w K mg base k G.Table "show" vo (kg K G)
noncomputable abbrev GV (P:Program) (w:World) (K:Fg) (mg:Str->Option Value) (base:Heap) (G:GF) (k:Nat):Prop:=FnM P w K mg base k G.Table "deals" h7 (jw K G)
noncomputable abbrev Dq (P:Program) (w:World) (K:Fg) (mg:Str->Option Value) (base:Heap) (G:GF) (k:Nat):Prop:=FnM P w K mg base k G.Table "learn" vq (gE K G)
noncomputable abbrev GW (P:Program) (w:World) (K:Fg) (mg:Str->Option Value) (base:Heap) (G:GF) (k:Nat):Prop:=FnM P w K mg base k G.Table "truths" mJ (iW K G)
seal L2.PE L2.PA L2.PS L2.PSs L2.PT L2.PW L2.PI L2.PG L2.PGs L2.PO L2.PTL L2.OpR L2.UnR L2.cS L2.SlR L2.IxR L2.Fw
noncomputable def top (i:Nat):Stmt:=PySem.Challenge.pw_knowcards_k43_whole_plays_go_on.main.body.getD i (.Pass ⟨0,0,0,0⟩)
noncomputable abbrev fD:Stmt:=top 2
theorem jx:aB oF vt (ac fD):=by walk_at "w"
theorem GX:ah oF (ac fD) 0 "table":=by walk_at "v"
theorem tN:ah oF (ac fD) 1 "sayings":=by walk_at "v"
theorem GY:ah oF (ac fD) 2 "turns":=by walk_at "v"
theorem oO:ah oF (ac fD) 3 "own":=by walk_at "v"
theorem GZ:ah oF (ac fD) 4 "everyone":=by walk_at "v"
theorem oP:ah oF (ac fD) 5 "told":=by walk_at "v"
theorem Ar:ah oF (ac fD) 6 "still":=by walk_at "v"
theorem G0:ah oF (ac fD) 7 "before":=by walk_at "v"
noncomputable abbrev i6:Stmt:=top 10
theorem Bd:aB oM oM (ac i6):=by walk_at "w"
theorem qI:ah oM (ac i6) 0 "thing":=by walk_at "v"
noncomputable abbrev eJ:Stmt:=top 11
theorem As:aB kK kK (ac eJ):=by walk_at "w"
theorem oX:ah kK (ac eJ) 0 "thing":=by walk_at "v"
theorem xV:ah kK (ac eJ) 1 "least":=by walk_at "v"
theorem xW:ah kK (ac eJ) 2 "most":=by walk_at "v"
noncomputable abbrev gJ:Stmt:=top 12
theorem Be:aB mE mE (ac gJ):=by walk_at "w"
theorem At:ah mE (ac gJ) 0 "thing":=by walk_at "v"
theorem Au:ah mE (ac gJ) 1 "bound":=by walk_at "v"
noncomputable abbrev dD:Stmt:=top 13
theorem i7:aB vA vF (ac dD):=by walk_at "w"
theorem oY:ah vA (ac dD) 0 "thing":=by walk_at "v"
theorem xX:ah vA (ac dD) 1 "hands":=by walk_at "v"
theorem xY:ah vA (ac dD) 2 "least":=by walk_at "v"
theorem oZ:ah vA (ac dD) 3 "hand":=by walk_at "v"
noncomputable abbrev gk:Stmt:=top 18
theorem Dr:aB fz fz (ac gk):=by walk_at "w"
theorem sw:ah fz (ac gk) 0 "cards":=by walk_at "v"
theorem jT:ah fz (ac gk) 1 "sizes":=by walk_at "v"
noncomputable abbrev dy:Stmt:=top 19
theorem fM:aB rF fz (ac dy):=by walk_at "w"
theorem qJ:ah rF (ac dy) 0 "cards":=by walk_at "v"
theorem qK:ah rF (ac dy) 1 "sizes":=by walk_at "v"
theorem qL:ah rF (ac dy) 2 "many":=by walk_at "v"
theorem qM:ah rF (ac dy) 3 "left":=by walk_at "v"
theorem qN:ah rF (ac dy) 4 "size":=by walk_at "v"
noncomputable abbrev fh:Stmt:=top 20
theorem kO:aB vC vH (ac fh):=by walk_at "w"
theorem Bf:ah vC (ac fh) 0 "many":=by walk_at "v"
theorem Bg:ah vC (ac fh) 1 "taken":=by walk_at "v"
theorem sx:ah vC (ac fh) 2 "ways":=by walk_at "v"
theorem sH:ah vC (ac fh) 3 "step":=by walk_at "v"
noncomputable abbrev d9:Stmt:=top 21
theorem gX:aB vm fz (ac d9):=by walk_at "w"
theorem lI:ah vm (ac d9) 0 "cards":=by walk_at "v"
theorem lJ:ah vm (ac d9) 1 "sizes":=by walk_at "v"
theorem Av:ah vm (ac d9) 2 "room":=by walk_at "v"
theorem qO:ah vm (ac d9) 3 "begun":=by walk_at "v"
noncomputable abbrev bE:Stmt:=top 22
theorem dJ:aB oG vI (ac bE):=by walk_at "w"
theorem rS:ah oG (ac bE) 0 "begun":=by walk_at "v"
theorem rT:ah oG (ac bE) 1 "room":=by walk_at "v"
theorem km:ah oG (ac bE) 2 "longer":=by walk_at "v"
theorem kn:ah oG (ac bE) 3 "deal":=by walk_at "v"
theorem ko:ah oG (ac bE) 4 "who":=by walk_at "v"
theorem rV:ah oG (ac bE) 5 "most":=by walk_at "v"
noncomputable abbrev gK:Stmt:=top 23
theorem Bh:aB mH mH (ac gK):=by walk_at "w"
theorem Aw:ah mH (ac gK) 0 "deal":=by walk_at "v"
noncomputable abbrev cr:Stmt:=top 27
theorem gm:aB oH jS (ac cr):=by walk_at "w"
theorem xZ:ah oH (ac cr) 0 "cards":=by walk_at "v"
theorem ya:ah oH (ac cr) 1 "hands":=by walk_at "v"
theorem yb:ah oH (ac cr) 2 "thing":=by walk_at "v"
theorem o0:ah oH (ac cr) 3 "words":=by walk_at "v"
theorem h8:ah oH (ac cr) 4 "level":=by walk_at "v"
noncomputable abbrev gn:Stmt:=top 28
theorem vP:aB yH jS (ac gn):=by walk_at "w"
theorem eK:ah yH (ac gn) 2 "thing":=by walk_at "v"
theorem sL:ah yH (ac gn) 3 "form":=by walk_at "v"
noncomputable abbrev j7:Stmt:=top 29
theorem Je:aB jR jR (ac j7):=by walk_at "w"
theorem G3:ah jR (ac j7) 0 "cards":=by walk_at "v"
theorem tO:ah jR (ac j7) 1 "hands":=by walk_at "v"
theorem oQ:ah jR (ac j7) 2 "place":=by walk_at "v"
theorem oR:ah jR (ac j7) 3 "part":=by walk_at "v"
noncomputable abbrev fA:Stmt:=top 30
theorem sO:aB yO vN (ac fA):=by walk_at "w"
theorem qP:ah yO (ac fA) 0 "saying":=by walk_at "v"
theorem Ax:ah yO (ac fA) 1 "form":=by walk_at "v"
noncomputable abbrev cM:Stmt:=top 31
theorem i8:aB yM vM (ac cM):=by walk_at "w"
theorem tP:ah yM (ac cM) 0 "sayings":=by walk_at "v"
theorem lK:ah yM (ac cM) 1 "parts":=by walk_at "v"
theorem tQ:ah yM (ac cM) 2 "saying":=by walk_at "v"
noncomputable abbrev fb:Stmt:=top 33
theorem yc:aB mG mG (ac fb):=by walk_at "w"
theorem wF:ah mG (ac fb) 0 "deals":=by walk_at "v"
noncomputable abbrev kT:Stmt:=top 34
theorem G4:aB mI mI (ac kT):=by walk_at "w"
theorem Fj:ah mI (ac kT) 0 "view":=by walk_at "v"
theorem Fk:ah mI (ac kT) 1 "values":=by walk_at "v"
noncomputable abbrev bA:Stmt:=top 35
theorem ee:aB rG ["marks"] (ac bA):=by walk_at "w"
theorem jj:ah rG (ac bA) 0 "marks":=by walk_at "v"
theorem pP:ah rG (ac bA) 1 "firsts":=by walk_at "v"
theorem pQ:ah rG (ac bA) 2 "thing":=by walk_at "v"
theorem pR:ah rG (ac bA) 3 "mark":=by walk_at "v"
noncomputable abbrev dL:Stmt:=top 36
theorem j8:aB mB vJ (ac dL):=by walk_at "w"
theorem vQ:ah mB (ac dL) 0 "many":=by walk_at "v"
theorem Ds:ah mB (ac dL) 1 "views":=by walk_at "v"
theorem Dt:ah mB (ac dL) 2 "points":=by walk_at "v"
theorem Du:ah mB (ac dL) 3 "view":=by walk_at "v"
theorem Dv:ah mB (ac dL) 4 "thing":=by walk_at "v"
theorem Dw:ah mB (ac dL) 5 "least":=by walk_at "v"
noncomputable abbrev i9:Stmt:=top 37
theorem wG:aB rE vy (ac i9):=by walk_at "w"
theorem tR:ah rE (ac i9) 0 "points":=by walk_at "v"
theorem G5:ah rE (ac i9) 1 "one":=by walk_at "v"
theorem G6:ah rE (ac i9) 2 "other":=by walk_at "v"
theorem Ay:ah rE (ac i9) 3 "first":=by walk_at "v"
theorem Az:ah rE (ac i9) 4 "second":=by walk_at "v"
noncomputable abbrev iu:Stmt:=top 38
theorem qQ:aB yN vE (ac iu):=by walk_at "w"
theorem ja:ah yN (ac iu) 0 "points":=by walk_at "v"
theorem Dy:ah yN (ac iu) 1 "thing":=by walk_at "v"
theorem gL:ah yN (ac iu) 2 "end":=by walk_at "v"
noncomputable abbrev bF:Stmt:=top 40
theorem gp:aB lH rH (ac bF):=by walk_at "w"
theorem cf:ah lH (ac bF) 0 "deals":=by walk_at "v"
theorem cE:ah lH (ac bF) 1 "views":=by walk_at "v"
theorem bT:ah lH (ac bF) 2 "S":=by walk_at "v"
theorem dt:ah lH (ac bF) 3 "word":=by walk_at "v"
theorem ki:ah lH (ac bF) 4 "inner":=by walk_at "v"
theorem pc:ah lH (ac bF) 5 "some":=by walk_at "v"
noncomputable abbrev lL:Stmt:=top 41
theorem Jf:aB dU dU (ac lL):=by walk_at "w"
theorem G7:ah dU (ac lL) 0 "ones":=by walk_at "v"
theorem G8:ah dU (ac lL) 1 "others":=by walk_at "v"
noncomputable abbrev iw:Stmt:=top 42
theorem Fl:aB dU dU (ac iw):=by walk_at "w"
theorem Dz:ah dU (ac iw) 0 "ones":=by walk_at "v"
theorem DC:ah dU (ac iw) 1 "others":=by walk_at "v"
noncomputable abbrev fN:Stmt:=top 43
theorem oS:aB oI vD (ac fN):=by walk_at "w"
theorem qR:ah oI (ac fN) 0 "view":=by walk_at "v"
theorem Fm:ah oI (ac fN) 1 "truths":=by walk_at "v"
theorem Fn:ah oI (ac fN) 2 "sure":=by walk_at "v"
theorem Fo:ah oI (ac fN) 3 "least":=by walk_at "v"
theorem Fp:ah oI (ac fN) 4 "truth":=by walk_at "v"
noncomputable abbrev cp:Stmt:=top 44
theorem fV:aB vx vG (ac cp):=by walk_at "w"
theorem tS:ah vx (ac cp) 0 "views":=by walk_at "v"
theorem lM:ah vx (ac cp) 1 "truths":=by walk_at "v"
theorem lN:ah vx (ac cp) 2 "answers":=by walk_at "v"
theorem tT:ah vx (ac cp) 3 "view":=by walk_at "v"
noncomputable abbrev lO:Stmt:=top 45
theorem Jg:aB kN kN (ac lO):=by walk_at "w"
theorem G9:ah kN (ac lO) 0 "piles":=by walk_at "v"
theorem AA:ah kN (ac lO) 1 "view":=by walk_at "v"
noncomputable abbrev eh:Stmt:=top 48
theorem tU:aB oK oK (ac eh):=by walk_at "w"
theorem rW:ah oK (ac eh) 0 "fit":=by walk_at "v"
noncomputable abbrev fO:Stmt:=top 49
theorem AB:aB mF mF (ac fO):=by walk_at "w"
theorem ph:ah mF (ac fO) 0 "thing":=by walk_at "v"
noncomputable abbrev db:Stmt:=top 50
theorem pi:aB vz oJ (ac db):=by walk_at "w"
theorem wH:ah vz (ac db) 0 "deal":=by walk_at "v"
theorem wI:ah vz (ac db) 1 "holder":=by walk_at "v"
theorem wJ:ah vz (ac db) 2 "rising":=by walk_at "v"
theorem np:ah vz (ac db) 3 "card":=by walk_at "v"
noncomputable abbrev eM:Stmt:=top 52
theorem jb:aB yK vi (ac eM):=by walk_at "w"
theorem fE:ah yK (ac eM) 0 "_law_script":=by walk_at "v"
theorem dY:ah yK (ac eM) 1 "_law_k":=by walk_at "v"
theorem h9:ah yK (ac eM) 2 "_law_number":=by walk_at "v"
noncomputable abbrev cN:Stmt:=top 53
theorem fW:aB yL vL (ac cN):=by walk_at "w"
theorem tV:ah yL (ac cN) 0 "_law_many":=by walk_at "v"
theorem lP:ah yL (ac cN) 1 "_law_found":=by walk_at "v"
theorem tW:ah yL (ac cN) 2 "_law_k":=by walk_at "v"
noncomputable abbrev dc:Stmt:=top 54
theorem ib:aB vj vv (ac dc):=by walk_at "w"
theorem nr:ah vj (ac dc) 0 "_law_cards":=by walk_at "v"
theorem nu:ah vj (ac dc) 1 "_law_sizes":=by walk_at "v"
theorem nv:ah vj (ac dc) 2 "_law_found":=by walk_at "v"
theorem wK:ah vj (ac dc) 3 "_law_many":=by walk_at "v"
noncomputable abbrev cu:Stmt:=top 55
theorem fc:aB tM vk (ac cu):=by walk_at "w"
theorem fF:ah tM (ac cu) 0 "_law_script":=by walk_at "v"
theorem fG:ah tM (ac cu) 1 "_law_at":=by walk_at "v"
theorem yd:ah tM (ac cu) 2 "_law_most":=by walk_at "v"
theorem fH:ah tM (ac cu) 3 "_law_cards":=by walk_at "v"
theorem bU:ah tM (ac cu) 4 "_law_sizes":=by walk_at "v"
theorem ye:ah tM (ac cu) 5 "_law_k":=by walk_at "v"
noncomputable abbrev dM:Stmt:=top 56
theorem fI:aB yJ rJ (ac dM):=by walk_at "w"
theorem wL:ah yJ (ac dM) 0 "_law_saying_here":=by walk_at "v"
theorem ny:ah yJ (ac dM) 1 "_law_found":=by walk_at "v"
theorem gM:ah yJ (ac dM) 2 "_law_part":=by walk_at "v"
noncomputable abbrev ff:Stmt:=top 57
theorem yf:aB mC mC (ac ff):=by walk_at "w"
theorem wM:ah mC (ac ff) 1 "_law_hands":=by walk_at "v"
noncomputable abbrev ca:Stmt:=top 58
theorem jc:aB qG mV (ac ca):=by walk_at "w"
theorem pj:ah qG (ac ca) 0 "_law_script":=by walk_at "v"
theorem pA:ah qG (ac ca) 1 "_law_at":=by walk_at "v"
theorem pB:ah qG (ac ca) 2 "_law_cards":=by walk_at "v"
theorem pD:ah qG (ac ca) 3 "_law_hands":=by walk_at "v"
theorem pE:ah qG (ac ca) 4 "_law_pool_here":=by walk_at "v"
theorem yg:ah qG (ac ca) 5 "_law_k":=by walk_at "v"
theorem pH:ah qG (ac ca) 6 "_law_cell_here":=by walk_at "v"
noncomputable abbrev bh:Stmt:=top 59
theorem bC:aB kh An (ac bh):=by walk_at "w"
theorem jd:ah kh (ac bh) 0 "_law_script":=by walk_at "v"
theorem je:ah kh (ac bh) 1 "_law_at":=by walk_at "v"
theorem vR:ah kh (ac bh) 2 "_law_cards":=by walk_at "v"
theorem bZ:ah kh (ac bh) 3 "_law_hands":=by walk_at "v"
theorem vS:ah kh (ac bh) 4 "_law_most":=by walk_at "v"
theorem ek:ah kh (ac bh) 5 "_law_pool_here":=by walk_at "v"
theorem vT:ah kh (ac bh) 6 "_law_k":=by walk_at "v"
theorem bG:ah kh (ac bh) 7 "_law_cell_here":=by walk_at "v"
theorem bN:ah kh (ac bh) 8 "_law_one":=by walk_at "v"
theorem cy:ah kh (ac bh) 9 "_law_other":=by walk_at "v"
theorem cO:ah kh (ac bh) 10 "_law_some":=by walk_at "v"
noncomputable abbrev cb:Stmt:=top 60
theorem lQ:aB qH mV (ac cb):=by walk_at "w"
theorem kj:ah qH (ac cb) 0 "_law_script":=by walk_at "v"
theorem kl:ah qH (ac cb) 1 "_law_at":=by walk_at "v"
theorem pJ:ah qH (ac cb) 2 "_law_cards":=by walk_at "v"
theorem ic:ah qH (ac cb) 3 "_law_hands":=by walk_at "v"
theorem ie:ah qH (ac cb) 4 "_law_cell_here":=by walk_at "v"
theorem yh:ah qH (ac cb) 5 "_law_some":=by walk_at "v"
noncomputable abbrev fP:Stmt:=top 62
theorem AC:aB mD mD (ac fP):=by walk_at "w"
theorem pL:ah mD (ac fP) 0 "_law_table":=by walk_at "v"
theorem dZ:ah mD (ac fP) 1 "_law_deed_here":=by walk_at "v"
noncomputable abbrev dO:Stmt:=top 63
theorem yi:aB kL kL (ac dO):=by walk_at "w"
theorem wN:ah kL (ac dO) 0 "_law_ones":=by walk_at "v"
theorem wO:ah kL (ac dO) 1 "_law_others":=by walk_at "v"
noncomputable abbrev cP:Stmt:=top 64
theorem jf:aB yI vK (ac cP):=by walk_at "w"
theorem tX:ah yI (ac cP) 0 "_law_sayings":=by walk_at "v"
theorem iz:ah yI (ac cP) 1 "_law_found":=by walk_at "v"
theorem tY:ah yI (ac cP) 2 "_law_saying_here":=by walk_at "v"
noncomputable abbrev dj:Stmt:=top 65
theorem eB:aB gj rM (ac dj):=by walk_at "w"
theorem kU:ah gj (ac dj) 0 "_law_script":=by walk_at "v"
theorem wP:ah gj (ac dj) 1 "_law_cards":=by walk_at "v"
theorem wQ:ah gj (ac dj) 2 "_law_sizes":=by walk_at "v"
theorem BV:ah gj (ac dj) 3 "_law_hands":=by walk_at "v"
theorem kW:ah gj (ac dj) 4 "_law_table":=by walk_at "v"
theorem Jh:ah gj (ac dj) 5 "_law_k":=by walk_at "v"
theorem jy:ah gj (ac dj) 6 "_law_sayings":=by walk_at "v"
theorem fQ:ah gj (ac dj) 7 "_law_first":=by walk_at "v"
theorem rO:ah gj (ac dj) 8 "_law_second":=by walk_at "v"
theorem nA:ah gj (ac dj) 9 "_law_whole":=by walk_at "v"
theorem lR:ah gj (ac dj) 10 "_law_ahead":=by walk_at "v"
theorem Ha:ah gj (ac dj) 11 "_law_between_here":=by walk_at "v"
theorem AD:ah gj (ac dj) 12 "_law_other":=by walk_at "v"
theorem AE:ah gj (ac dj) 13 "_law_turn":=by walk_at "v"
noncomputable abbrev de:Stmt:=jq (top 47) 0
theorem yk:aB gI gI (ac de):=by walk_at "w"
theorem cQ:ah gI (ac de) 0 "self":=by walk_at "v"
theorem nB:ah gI (ac de) 1 "cards":=by walk_at "v"
theorem jz:ah gI (ac de) 2 "sizes":=by walk_at "v"
noncomputable abbrev fJ:Stmt:=jq (top 47) 1
theorem wR:aB h7 h7 (ac fJ):=by walk_at "w"
theorem vU:ah h7 (ac fJ) 0 "self":=by walk_at "v"
noncomputable abbrev dP:Stmt:=jq (top 47) 3
theorem yl:aB kM kM (ac dP):=by walk_at "w"
theorem jA:ah kM (ac dP) 0 "self":=by walk_at "v"
theorem nC:ah kM (ac dP) 1 "hands":=by walk_at "v"
theorem wS:ah kM (ac dP) 2 "S":=by walk_at "v"
noncomputable abbrev cz:Stmt:=jq (top 47) 4
theorem pM:aB rD vo (ac cz):=by walk_at "w"
theorem fg:ah rD (ac cz) 0 "self":=by walk_at "v"
theorem nD:ah rD (ac cz) 1 "hand":=by walk_at "v"
theorem wT:ah rD (ac cz) 2 "holder":=by walk_at "v"
theorem nE:ah rD (ac cz) 3 "some":=by walk_at "v"
noncomputable abbrev dF:Stmt:=jq (top 47) 5
theorem vV:aB mJ mJ (ac dF):=by walk_at "w"
theorem fB:ah mJ (ac dF) 0 "self":=by walk_at "v"
theorem lT:ah mJ (ac dF) 1 "S":=by walk_at "v"
noncomputable abbrev d2:Stmt:=jq (top 47) 7
theorem nG:aB ["self","other"] h7 (ac d2):=by walk_at "w"
theorem fX:ah ["self","other"] (ac d2) 0 "self":=by walk_at "v"
theorem jg:ah ["self","other"] (ac d2) 1 "other":=by walk_at "v"
noncomputable abbrev cF:Stmt:=jq (top 47) 8
theorem nH:aB vB vq (ac cF):=by walk_at "w"
theorem jh:ah vB (ac cF) 0 "self":=by walk_at "v"
theorem mK:ah vB (ac cF) 1 "hands":=by walk_at "v"
theorem ji:ah vB (ac cF) 2 "values":=by walk_at "v"
theorem mL:ah vB (ac cF) 3 "hand":=by walk_at "v"
section
variable {P:Program} {w:World} {K:Fg} {mg:Str->Option Value} {base:Heap} {f:Addr} {fd:LB}
theorem Ji (D:Def K mg "play" fD vt f fd) (B:Blt mg) {G:GF} (T:d8 P w K mg G) (U8:Dp P w K mg base G 8) (U13:Aq P w K mg base G 41):GP P w K mg base G 42:=by
 refine D.ok jx (by walk_at "l") fun _ _ _ _ _ _ _ _ hr h=>?_
 have hux:=hr.units64
 exact ⟨uX K G,(ag (az (i:=3) jx.nd rfl (Lp rfl) (qz U8 (rmD hr) T.cl_Table (pvA GX)))
  (ag (az (i:=4) jx.nd rfl (Lp rfl) (bK (xD rfl) rfl B.tuple Pf (aL (bK qF rfl B.range QV (bd (bW (pvA oO) rfl) ae)) ae)))
  (ag (az (i:=5) jx.nd rfl (Lp rfl) (da ae))
  (ag (az (i:=6) jx.nd rfl (Lp rfl) aj)
  (ag (nK LM (PW.pt (yZ (aN uf (ax aD rfl B.len Mm (ad (pvA oP) ae)) (pvA GY) (aO _)) (Bo (aN uf (pvA Ar) (ax aD rfl B.len Mm (ad (pvA tN) ae)) (aO _))))) (ag (az (i:=7) jx.nd rfl (Lp rfl) (bK jv rfl B.list Oh (bd (bW (pvA oO) rfl) ae)))
  (ag (cA (jC Mp MH MI d4 (pvA oP) (aL (ir U13 (rmD hr) T.cl_Table (pvA oO) (ad (pvA GZ) (aM (aV bw (pvA tN) (aq bn (ax aD rfl B.len Mm (ad (pvA oP) ae)) (ax aD rfl B.len Mm (ad (pvA tN) ae))) (fun _ _=>rfl)) ae))) ae)))
  (ai (az (i:=6) jx.nd rfl (Lp rfl) (Fv (aN (Kl hux) (bW (pvA oO) rfl) (pvA G0) (aO _)) (aq bc (pvA Ar) aj) aj))))))
  (ai (aw (pvA oP)))))))),IJ T.ct h⟩
theorem Bi (D:Def K mg "is_whole" i6 oM f fd) (B:Blt mg):CZ P w K mg base 1:=by
 refine D.ok Bd (by walk_at "l") fun _ _ _ _ _ _ _ _ hr h=>?_
 exact ⟨uA K,(ai (aw (mW (ax fm rfl B.isinstance Nx (ad (pvA qI) (ad (gq (v:=.ty "int") rfl B.int boot_int rfl) ae))) (kY (DK (ax fm rfl B.isinstance Nx (ad (pvA qI) (ad (gq (v:=.ty "bool") rfl B.bool boot_bool rfl) ae)))))))),AY h⟩
theorem AF (D:Def K mg "is_within" eJ kK f fd) (B:Blt mg) (U32:CZ P w K mg base 1):Ao P w K mg base 2:=by
 refine D.ok As (by walk_at "l") fun _ _ _ _ _ _ _ _ hr h=>?_
 exact ⟨sj K,(ai (aw (mW (ak U32 (rmD hr) (ad (pvA oX) ae)) (kY (FA yx yx (pvA xV) (pvA oX) (pvA xW)))))),zA h⟩
theorem Bj (D:Def K mg "is_below" gJ mE f fd) (B:Blt mg) (U23:Ao P w K mg base 2):Ap P w K mg base 3:=by
 refine D.ok Be (by walk_at "l") fun _ _ _ _ _ _ _ _ hr h=>?_
 exact ⟨kE K,(ai (aw (ak U23 (rmD hr) (ad (pvA At) (ap aj (aE (aq gb (pvA Au) aj) ae)))))),A6 h⟩
theorem AG (D:Def K mg "are_hands" dD vF f fd) (B:Blt mg) (U23:Ao P w K mg base 2):C0 P w K mg base 3:=by
 refine D.ok i7 (by walk_at "l") fun _ _ _ _ _ _ _ _ hr h=>?_
 exact ⟨jK K,(ag (bj (dG (cU (ax fm rfl B.isinstance Nx (ad (pvA oY) (ad (gq (v:=.ty "tuple") rfl B.tuple Pf rfl) ae))))) (ai (aw dQ)) aQ)
  (ag (az (i:=2) i7.nd rfl (Lp rfl) aj)
  (ag (bP LM rfl (t9 (pvA oY)) (aA (i:=3) i7.nd rfl (Lp rfl)) (ag (bj (dG (cU (ak U23 (rmD hr) (ad (pvA oZ) (ad (pvA xY) (aE (aq gb (pvA xX) aj) ae)))))) (ai (aw dQ)) aQ)
  (ai (az (i:=2) i7.nd rfl (Lp rfl) (aq bc (pvA oZ) aj)))))
  (ai (aw dQ))))),zJ h⟩
theorem DD (D:Def K mg "is_pack" gk fz f fd) (B:Blt mg) {t_MOST_CARDS:Tok} (m_MOST_CARDS:mg "MOST_CARDS"=some (.int 12 t_MOST_CARDS)) {t_MOST_HANDS:Tok} (m_MOST_HANDS:mg "MOST_HANDS"=some (.int 5 t_MOST_HANDS)) (U23:Ao P w K mg base 2):GQ P w K mg base 3:=by
 refine D.ok Dr (by walk_at "l") fun _ _ _ _ _ _ _ _ hr h=>?_
 exact ⟨xr K,(ag (bj (dG (cU (ak U23 (rmD hr) (ad (pvA sw) (ap aj (ad (jl (v:=(.int 12)) rfl m_MOST_CARDS ⟨_,rfl⟩) ae)))))) (ai (aw dQ)) aQ)
  (ag (bj (PW.pt (lU (dG (cU (ax fm rfl B.isinstance Nx (ad (pvA jT) (ad (gq (v:=.ty "list") rfl B.list Oh rfl) ae))))) (kX (dG (cU (ak U23 (rmD hr) (aL (ax aD rfl B.len Mm (ad (pvA jT) ae)) (ap aj (ad (jl (v:=(.int 5)) rfl m_MOST_HANDS ⟨_,rfl⟩) ae))))))))) (ai (aw dQ)) aQ)
  (ai (aw (mW (ax (lZ rfl) rfl B.all T2 (bS (bJ (sc:=(ac gk)) (NX:=fz) (N:=["size","cards"]) (ix:=[none,some 0]) rfl (by walk_at "c") (b7 (pvA jT)) (by intros; exact (aA (i:=0) (show (["size","cards"]:List Str).Nodup by decide +kernel) rfl (Lp rfl))) (by intros; exact bO) (by intros; exact (ak U23 (rmD hr) (ad (pv 0) (ap aj (ad (pv 1) ae)))))) ae)) (kY (jo yx (ax (jV rfl) rfl B.sum Sl (ad (pvA jT) ae)) (pvA sw) (aO _)))))))),Cq h⟩
theorem Bk (D:Def K mg "how_many" dy fz f fd) (B:Blt mg) (U38:GR P w K mg base 1) (U39:GQ P w K mg base 3):GS P w K mg base 4:=by
 refine D.ok fM (by walk_at "l") fun _ _ _ _ _ _ _ _ hr h=>?_
 exact ⟨uC K,(ag (bj (dG (cU (ak U39 (rmD hr) (ad (pvA qJ) (ad (pvA qK) ae))))) (ai nJ) aQ)
  (ag (az (i:=2) fM.nd rfl (Lp rfl) aj)
  (ag (az (i:=3) fM.nd rfl (Lp rfl) (pvA qJ))
  (ag (bP LM rfl (b7 (pvA qK)) (aA (i:=4) fM.nd rfl (Lp rfl)) (ag (az (i:=2) fM.nd rfl (Lp rfl) (aq dh (pvA qL) (ak U38 (rmD hr) (ad (pvA qM) (ad (pvA qN) ae)))))
  (ai (az (i:=3) fM.nd rfl (Lp rfl) (aq gb (pvA qM) (pvA qN))))))
  (ai (aw (pvA qL))))))),AZ h⟩
theorem DE (D:Def K mg "choices" fh vH f fd) (B:Blt mg):GR P w K mg base 1:=by
 refine D.ok kO (by walk_at "l") fun _ _ _ _ _ _ _ _ hr h=>?_
 exact ⟨xt K,(ag (az (i:=2) kO.nd rfl (Lp rfl) aj)
  (ag (bP LM rfl (bX rfl B.range (ad (pvA Bg) ae)) (aA (i:=3) kO.nd rfl (Lp rfl)) (ai (az (i:=2) kO.nd rfl (Lp rfl) (aq b8 (aq dh (pvA sx) (aq gb (pvA Bf) (pvA sH))) (aq bc (pvA sH) aj)))))
  (ai (aw (pvA sx))))),Cr h⟩
theorem Bl (D:Def K mg "deals_of" d9 fz f fd) (B:Blt mg) {t_MOST_DEALS:Tok} (m_MOST_DEALS:mg "MOST_DEALS"=some (.int 2000 t_MOST_DEALS)) (U33:GS P w K mg base 4) (U1:GT P w K mg base 1):C1 P w K mg base 5:=by
 refine D.ok gX (by walk_at "l") fun _ _ _ _ _ _ _ _ hr h=>?_
 exact ⟨uD K,(ag (bj (aN jB (ak U33 (rmD hr) (ad (pvA lI) (ad (pvA lJ) ae))) (jl (v:=(.int 2000)) rfl m_MOST_DEALS ⟨_,rfl⟩) (aO _)) (ai nJ) aQ)
  (ag (az (i:=2) gX.nd rfl (Lp rfl) (aq D0 (pvA lJ) (y7 (aE (aq gb (pvA lI) (ax (jV rfl) rfl B.sum Sl (ad (pvA lJ) ae))) ae))))
  (ag (az (i:=3) gX.nd rfl (Lp rfl) (y7 (ba (DV ae) ae)))
  (ag (bP LM rfl (bX rfl B.range (ad (pvA lI) ae)) (aA (i:=4) gX.nd rfl (Lp rfl)) (ai (az (i:=3) gX.nd rfl (Lp rfl) (ak U1 (rmD hr) (ad (pvA qO) (ad (pvA Av) ae))))))
  (ai (aw (pvA qO))))))),A0 h⟩
theorem tZ (D:Def K mg "with_one_more" bE vI f fd) (B:Blt mg):GT P w K mg base 1:=by
 refine D.ok dJ (by walk_at "l") fun _ _ _ _ _ _ _ _ hr h=>?_
 exact ⟨mi K,(ag (az (i:=2) dJ.nd rfl (Lp rfl) (y7 ae))
  (ag (bP LM rfl (b7 (pvA rS)) (aA (i:=3) dJ.nd rfl (Lp rfl)) (ai (bP LM rfl (qY bL rfl B.enumerate (by decide) (ad (pvA rT) ae)) (ga rfl (bv (aA (i:=4) dJ.nd rfl (Lp rfl)) (bv (aA (i:=5) dJ.nd rfl (Lp rfl)) eS))) (ai (bj (aN uf (Kr PySem.F.plainAttrs_tuple Q9 PySem.F.type_tuple_count El (pvA kn) (ad (pvA ko) ae)) (pvA rV) (aO _)) (ai (cA (jC Mp MH MI d4 (pvA km) (aE (aq Ib (pvA kn) (DV (ad (pvA ko) ae))) ae)))) aQ)))))
  (ai (aw (pvA km))))),sZ h⟩
theorem Bm (D:Def K mg "cards_of" gK mH f fd) (B:Blt mg):yP P w K mg base 1:=by
 refine D.ok Bh (by walk_at "l") fun _ _ _ _ _ _ _ _ hr h=>?_
 exact ⟨uE K,(ai (aw (bK oT rfl B.tuple Pf (bS (bJ (sc:=(ac gK)) (NX:=mH) (N:=CY) (ix:=[none,none,some 1]) rfl (by walk_at "c") (qY ig rfl B.enumerate (by decide) (ad (pvA Aw) ae)) (by intros; exact (ga rfl (bv (aA (i:=0) (show (CY:List Str).Nodup by decide +kernel) rfl (Lp rfl)) (bv (aA (i:=1) (show (CY:List Str).Nodup by decide +kernel) rfl (Lp rfl)) eS)))) (by intros; exact (qW (aN cT (pv 1) (pv 2) (aO _)))) (by intros; exact (pv 0))) ae)))),A1 h⟩
theorem AH (D:Def K mg "is_saying" cr jS f fd) (B:Blt mg) {t_MOST_WORDS:Tok} (m_MOST_WORDS:mg "MOST_WORDS"=some (.int 30 t_MOST_WORDS)) (U32:CZ P w K mg base 1) (U37:C2 P w K mg base 5) (U5:C3 P w K mg base 2):C4 P w K mg base 6:=by
 refine D.ok gm (by walk_at "l") fun _ _ _ _ _ _ _ _ hr h=>?_
 exact ⟨jL K,(ag (bj (PW.pt (lU (dG (cU (ak U32 (rmD hr) (ad (pvA xZ) ae)))) (kX (dG (cU (ak U32 (rmD hr) (ad (pvA ya) ae))))))) (ai (aw dQ)) aQ)
  (ag (az (i:=3) gm.nd rfl (Lp rfl) aj)
  (ag (az (i:=4) gm.nd rfl (Lp rfl) (da (ad (pvA yb) ae)))
  (ag (nK LM (aN jB (ax aD rfl B.len Mm (ad (pvA h8) ae)) aj (aO _)) (ag (az (i:=3) gm.nd rfl (Lp rfl) (aq bc (pvA o0) (ax aD rfl B.len Mm (ad (pvA h8) ae))))
  (ag (bj (PW.pt (lU (aN jB (pvA o0) (jl (v:=(.int 30)) rfl m_MOST_WORDS ⟨_,rfl⟩) (aO _)) (kX (dG (cU (ax (lZ rfl) rfl B.all T2 (bS (bJ (sc:=(ac cr)) (NX:=oH) (N:=["one","cards","hands"]) (ix:=[none,some 0,some 1]) rfl (by walk_at "c") (b7 (pvA h8)) (by intros; exact (aA (i:=0) (show (["one","cards","hands"]:List Str).Nodup by decide +kernel) rfl (Lp rfl))) (by intros; exact bO) (by intros; exact (ak U37 (rmD hr) (ad (pv 1) (ad (pv 2) (ad (pv 0) ae)))))) ae))))))) (ai (aw dQ)) aQ)
  (ai (az (i:=4) gm.nd rfl (Lp rfl) (ak U5 (rmD hr) (ad (pvA h8) ae)))))))
  (ai (aw dQ)))))),zL h⟩
theorem DF (D:Def K mg "is_word" gn jS f fd) (B:Blt mg) {G:GF} (T:d8 P w K mg G) (U45:C5 P w K mg base 4):C2 P w K mg base 5:=by
 refine D.ok vP (by walk_at "l") fun _ _ _ _ _ _ _ _ hr h=>?_
 have m_FORMS:=T.tb.mf
 have d_FORMS:=T.tb.df
 exact ⟨mq K G.toGlo,(ag (bj (PW.pt (lU (dG (cU (ax fm rfl B.isinstance Nx (ad (pvA eK) (ad (gq (v:=.ty "tuple") rfl B.tuple Pf rfl) ae))))) (kX (aN cT (ax aD rfl B.len Mm (ad (pvA eK) ae)) aj (aO _))))) (ai (aw dQ)) aQ)
  (ag (bj (PW.pt (lU (dG (cU (ax fm rfl B.isinstance Nx (aM (aV bI (pvA eK) aj (fun _ _=>rfl)) (ad (gq (v:=.ty "str") rfl B.str boot_str rfl) ae))))) (kX (aN (zO d_FORMS) (aV bI (pvA eK) aj (fun _ _=>rfl)) (jl (v:=(.ref G.forms)) rfl m_FORMS rfl) rfl)))) (ai (aw dQ)) aQ)
  (ag (az (i:=3) vP.nd rfl (Lp rfl) (EV d_FORMS (jl (v:=(.ref G.forms)) rfl m_FORMS rfl) (aV bI (pvA eK) aj (fun _ _=>rfl)) (fun _ _=>rfl)))
  (ag (bj (aN Hf (ax aD rfl B.len Mm (ad (pvA eK) ae)) (aq bc aj (ax aD rfl B.len Mm (ad (pvA sL) ae))) (aO _)) (ai (aw dQ)) aQ)
  (ai (aw (ax (lZ rfl) rfl B.all T2 (bS (bJ (sc:=(ac gn)) (NX:=yH) (N:=CV) (ix:=[none,none,some 0,some 1]) rfl (by walk_at "c") (m5 ig ig rfl B.zip (ad (pvA sL) (aM (lc zN (pvA eK) (mZ aj) mY) ae))) (by intros; exact (ga rfl (bv (aA (i:=0) (show (CV:List Str).Nodup by decide +kernel) rfl (Lp rfl)) (bv (aA (i:=1) (show (CV:List Str).Nodup by decide +kernel) rfl (Lp rfl)) eS)))) (by intros; exact bO) (by intros; exact (ak U45 (rmD hr) (ad (pv 2) (ad (pv 3) (ad (pv 0) (ad (pv 1) ae))))))) ae)))))))),CD T.tb.ok h⟩
theorem Jj (D:Def K mg "fits" j7 jR f fd) (B:Blt mg) (U25:C0 P w K mg base 3) (U35:Ap P w K mg base 3):C5 P w K mg base 4:=by
 refine D.ok Je (by walk_at "l") fun _ _ _ _ _ _ _ _ hr h=>?_
 exact ⟨uP K,(ag (bj (aN cT (pvA oQ) aX (aO _)) (ai (aw (ak U35 (rmD hr) (ad (pvA oR) (aE (aq bc (pvA tO) aj) ae))))) aQ)
  (ag (bj (aN cT (pvA oQ) aX (aO _)) (ai (aw (ak U35 (rmD hr) (ad (pvA oR) (ad (pvA G3) ae))))) aQ)
  (ag (bj (aN cT (pvA oQ) aX (aO _)) (ai (aw (ak U35 (rmD hr) (ad (pvA oR) (ad (pvA tO) ae))))) aQ)
  (ag (bj (aN cT (pvA oQ) aX (aO _)) (ai (aw (ak U25 (rmD hr) (ad (pvA oR) (ad (pvA tO) ae))))) aQ)
  (ai (aw dQ)))))),IE h⟩
theorem Bn (D:Def K mg "parts_of" fA vN f fd) (B:Blt mg) {G:GF} (T:d8 P w K mg G):C6 P w K mg base 1:=by
 refine D.ok sO (by walk_at "l") fun _ _ _ _ _ _ _ _ hr h=>?_
 have m_FORMS:=T.tb.mf
 have d_FORMS:=T.tb.df
 exact ⟨kG K G.toGlo,(ag (az (i:=1) sO.nd rfl (Lp rfl) (EV d_FORMS (jl (v:=(.ref G.forms)) rfl m_FORMS rfl) (aV bI (pvA qP) aj (fun _ _=>rfl)) (fun _ _=>rfl)))
  (ai (aw (bJ (sc:=(ac fA)) (NX:=yO) (N:=["place","part"]) (ix:=[none,none]) rfl (by walk_at "c") (m5 ig ig rfl B.zip (ad (pvA Ax) (aM (lc zN (pvA qP) (mZ aj) mY) ae))) (by intros; exact (ga rfl (bv (aA (i:=0) (show (["place","part"]:List Str).Nodup by decide +kernel) rfl (Lp rfl)) (bv (aA (i:=1) (show (["place","part"]:List Str).Nodup by decide +kernel) rfl (Lp rfl)) eS)))) (by intros; exact (qW (aN cT (pv 0) aX (aO _)))) (by intros; exact (pv 1)))))),A7 T.tb.ok h⟩
theorem vW (D:Def K mg "parts_of_all" cM vM f fd) (B:Blt mg) (U31:C6 P w K mg base 1):C3 P w K mg base 2:=by
 refine D.ok i8 (by walk_at "l") fun _ _ _ _ _ _ _ _ hr h=>?_
 exact ⟨gC K,(ag (az (i:=1) i8.nd rfl (Lp rfl) (da ae))
  (ag (bP LM rfl (b7 (pvA tP)) (aA (i:=2) i8.nd rfl (Lp rfl)) (ai (cA (jC Mp PySem.F.slot_list_extend PySem.F.type_list_extend DZ (pvA lK) (aL (ak U31 (rmD hr) (ad (pvA tQ) ae)) ae)))))
  (ai (aw (pvA lK))))),uQ h⟩
theorem ym (D:Def K mg "first_view" fb mG f fd) (B:Blt mg) (U34:yP P w K mg base 1) (U0:yQ P w K mg base 1):C7 P w K mg base 2:=by
 refine D.ok yc (by walk_at "l") fun _ _ _ _ _ _ _ _ hr h=>?_
 exact ⟨iM K,(ai (aw (ak U0 (rmD hr) (bS (bJ (sc:=(ac fb)) (NX:=mG) (N:=["deal","hand"]) (ix:=[none,some 1]) rfl (by walk_at "c") (b7 (pvA wF)) (by intros; exact (aA (i:=0) (show (["deal","hand"]:List Str).Nodup by decide +kernel) rfl (Lp rfl))) (by intros; exact bO) (by intros; exact (ak U34 (rmD hr) (ad (pv 0) (ad (pv 1) ae))))) ae)))),xJ h⟩
theorem Hb (D:Def K mg "split" kT mI f fd) (B:Blt mg) (U0:yQ P w K mg base 1):C8 P w K mg base 2:=by
 refine D.ok G4 (by walk_at "l") fun _ _ _ _ _ _ _ _ hr h=>?_
 exact ⟨rl K,(ai (aw (ak U0 (rmD hr) (aL (Jd bL bL rfl rfl B.list rfl B.zip (ad (pvA Fj) (ad (pvA Fk) ae))) ae)))),Gb h⟩
theorem qS (D:Def K mg "least_with_same" bA ["marks"] f fd) (B:Blt mg):yQ P w K mg base 1:=by
 refine D.ok ee (by walk_at "l") fun _ _ _ _ _ _ _ _ hr h=>?_
 have hux:=hr.units64
 exact ⟨eQ K,(ag (az (i:=1) ee.nd rfl (OT rfl) Gs)
  (ag (bP LM rfl (qY bL rfl B.enumerate (by decide) (ad (pvA jj) ae)) (ga rfl (bv (aA (i:=2) ee.nd rfl (Lp rfl)) (bv (aA (i:=3) ee.nd rfl (Lp rfl)) eS))) (ai (cA (KQ Qk PySem.F.type_dict_setdefault (wA hux) (pvA pP) (ad (pvA pR) (ad (pvA pQ) ae))))))
  (ai (aw (bJ (sc:=(ac bA)) (NX:=rG) (N:=["mark","firsts"]) (ix:=[none,some 1]) rfl (by walk_at "c") (b7 (pvA jj)) (by intros; exact (aA (i:=0) (show (["mark","firsts"]:List Str).Nodup by decide +kernel) rfl (Lp rfl))) (by intros; exact bO) (by intros; exact (IT hux (pv 1) (pv 0) (fun _ _=>rfl)))))))),ql h⟩
theorem Fq (D:Def K mg "joined" dL vJ f fd) (B:Blt mg) (U41:yR P w K mg base 1) (U47:C9 P w K mg base 2):Da P w K mg base 3:=by
 refine D.ok j8 (by walk_at "l") fun _ _ _ _ _ _ _ _ hr h=>?_
 exact ⟨oq K,(ag (az (i:=2) j8.nd rfl (OT rfl) (bK (Ff rfl) rfl B.list Oh (aL (bK qF rfl B.range QV (ad (pvA vQ) ae)) ae)))
  (ag (bP LM rfl (b7 (pvA Ds)) (aA (i:=3) j8.nd rfl (Lp rfl)) (ai (bP LM rfl (qY bL rfl B.enumerate (by decide) (ad (pvA Du) ae)) (ga rfl (bv (aA (i:=4) j8.nd rfl (Lp rfl)) (bv (aA (i:=5) j8.nd rfl (Lp rfl)) eS))) (ai (cA (ak U47 (rmD hr) (ad (pvA Dt) (ad (pvA Dv) (ad (pvA Dw) ae)))))))))
  (ai (aw (bJ (sc:=(ac dL)) (NX:=mB) (N:=["thing","points"]) (ix:=[none,some 2]) rfl (by walk_at "c") (bX rfl B.range (ad (pvA vQ) ae)) (by intros; exact (aA (i:=0) (show (["thing","points"]:List Str).Nodup by decide +kernel) rfl (Lp rfl))) (by intros; exact bO) (by intros; exact (ak U41 (rmD hr) (ad (pv 1) (ad (pv 0) ae))))))))),EJ h⟩
theorem Jk (D:Def K mg "link" i9 vy f fd) (B:Blt mg) (U41:yR P w K mg base 1):C9 P w K mg base 2:=by
 refine D.ok wG (by walk_at "l") fun _ _ _ _ _ _ _ _ hr h=>?_
 exact ⟨uH K,(ag (az (i:=3) wG.nd rfl (Lp rfl) (ak U41 (rmD hr) (ad (pvA tR) (ad (pvA G5) ae))))
  (ag (az (i:=4) wG.nd rfl (Lp rfl) (ak U41 (rmD hr) (ad (pvA tR) (ad (pvA G6) ae))))
  (ai (mX (ax (lX rfl) rfl B.min T3 (ad (pvA Ay) (ad (pvA Az) ae))) (pU (pvA tR) (ax (DQ rfl) rfl B.max T4 (ad (pvA Ay) (ad (pvA Az) ae))) lf))))),Iq h⟩
theorem Fr (D:Def K mg "end_of" iu vE f fd) (B:Blt mg):yR P w K mg base 1:=by
 refine D.ok qQ (by walk_at "l") fun _ _ _ _ _ _ _ _ hr h=>?_
 exact ⟨oo K,(ag (az (i:=2) qQ.nd rfl (Lp rfl) (pvA Dy))
  (ag (nK LM (aN Hf (aV bw (pvA ja) (pvA gL) (fun _ _=>rfl)) (pvA gL) (aO _)) (ag (mX (aV bw (pvA ja) (aV bw (pvA ja) (pvA gL) (fun _ _=>rfl)) (fun _ _=>rfl)) (pU (pvA ja) (pvA gL) lf))
  (ai (az (i:=2) qQ.nd rfl (Lp rfl) (aV bw (pvA ja) (pvA gL) (fun _ _=>rfl))))))
  (ai (aw (pvA gL))))),EI h⟩
theorem qT (D:Def K mg "truths_of" bF rH f fd) (B:Blt mg) (U46:yS P w K mg base 1) (U34:yP P w K mg base 1) (U40:Db P w K mg base 1) (U42:Da P w K mg base 3) (U43:vO P w K mg base 1) (U3:Dc P w K mg base 2) (U48:De P w K mg base 2):∀ n,FnB P w K mg base (4 + n) "truths_of" rH (bR K n)
 | 0=>D.ok (k:=3) gp (fun vs H Q E h=>(qt h).elim) (fun cdv A outer s H vs Q E hr h=>(qt h).elim)
 | n + 1=>by
  have U27:=qT D B U46 U34 U40 U42 U43 U3 U48 n
  refine D.ok (k:=4 + n) gp (by walk_at "l") fun _ _ _ _ _ _ _ _ hr h=>?_
  exact ⟨jJ K n,(ag (az (i:=3) gp.nd rfl (Lp rfl) (aV bI (pvA bT) aj (fun _ _=>rfl)))
  (ag (bj (aN cT (pvA dt) aX (aO _)) (ai (aw (bJ (sc:=(ac bF)) (NX:=lH) (N:=["deal","S"]) (ix:=[none,some 2]) rfl (by walk_at "c") (b7 (pvA cf)) (by intros; exact (aA (i:=0) (show (["deal","S"]:List Str).Nodup by decide +kernel) rfl (Lp rfl))) (by intros; exact bO) (by intros; exact (jo cT (aV bI (pv 0) (aV bI (pv 1) aj (fun _ _=>rfl)) (fun _ _=>rfl)) (aV bI (pv 1) aj (fun _ _=>rfl)) (aO _)))))) aQ)
  (ag (bj (aN cT (pvA dt) aX (aO _)) (ai (aw (ak U48 (hr.mono (by omega)) (bS (bJ (sc:=(ac bF)) (NX:=lH) (N:=["deal","views"]) (ix:=[none,some 1]) rfl (by walk_at "c") (b7 (pvA cf)) (by intros; exact (aA (i:=0) (show (["deal","views"]:List Str).Nodup by decide +kernel) rfl (Lp rfl))) (by intros; exact bO) (by intros; exact (ak U34 (hr.mono (by omega)) (ad (pv 0) (aL (ax aD rfl B.len Mm (ad (pv 1) ae)) ae))))) (aM (aV bw (pvA cE) (aV bI (pvA bT) aj (fun _ _=>rfl)) (fun _ _=>rfl)) ae))))) aQ)
  (ag (bj (aN cT (pvA dt) aX (aO _)) (ai (aw (bJ (sc:=(ac bF)) (NX:=lH) (N:=["truth"]) (ix:=[none]) rfl (by walk_at "c") (b7 (ak U27 (hr.mono (by omega)) (ad (pvA cf) (ad (pvA cE) (aM (aV bI (pvA bT) aj (fun _ _=>rfl)) ae))))) (by intros; exact (aA (i:=0) (show (["truth"]:List Str).Nodup by decide +kernel) rfl (Lp rfl))) (by intros; exact bO) (by intros; exact (DK (pv 0)))))) aQ)
  (ag (bj (aN cT (pvA dt) aX (aO _)) (ai (aw (ak U46 (hr.mono (by omega)) (aL (ak U27 (hr.mono (by omega)) (ad (pvA cf) (ad (pvA cE) (aM (aV bI (pvA bT) aj (fun _ _=>rfl)) ae)))) (aL (ak U27 (hr.mono (by omega)) (ad (pvA cf) (ad (pvA cE) (aM (aV bI (pvA bT) aj (fun _ _=>rfl)) ae)))) ae))))) aQ)
  (ag (bj (aN cT (pvA dt) aX (aO _)) (ai (aw (ak U40 (hr.mono (by omega)) (aL (ak U27 (hr.mono (by omega)) (ad (pvA cf) (ad (pvA cE) (aM (aV bI (pvA bT) aj (fun _ _=>rfl)) ae)))) (aL (ak U27 (hr.mono (by omega)) (ad (pvA cf) (ad (pvA cE) (aM (aV bI (pvA bT) aj (fun _ _=>rfl)) ae)))) ae))))) aQ)
  (ag (az (i:=4) gp.nd rfl (Lp rfl) (ak U27 (hr.mono (by omega)) (ad (pvA cf) (ad (pvA cE) (aM (aV bI (pvA bT) aj (fun _ _=>rfl)) ae)))))
  (ag (bj (aN cT (pvA dt) aX (aO _)) (ai (aw (ak U43 (hr.mono (by omega)) (aM (aV bw (pvA cE) (aV bI (pvA bT) aj (fun _ _=>rfl)) (fun _ _=>rfl)) (ad (pvA ki) ae))))) aQ)
  (ag (nV (i:=5) gp.nd rfl rfl (sc:=(ac bF)) (NX:=lH) (N:=["hand","views"]) (ix:=[none,some 1]) rfl (by walk_at "c") (t9 (aV bI (pvA bT) aj (fun _ _=>rfl))) (by intros; exact (aA (i:=0) (show (["hand","views"]:List Str).Nodup by decide +kernel) rfl (Lp rfl))) (by intros; exact bO) (by intros; exact (aV bw (pv 1) (pv 0) (fun _ _=>rfl))))
  (ag (bj (aN cT (pvA dt) aX (aO _)) (ai (aw (ak U3 (hr.mono (by omega)) (ad (pvA pc) (ad (pvA ki) ae))))) aQ)
  (ai (aw (ak U43 (hr.mono (by omega)) (aL (ak U42 (hr.mono (by omega)) (aL (ax aD rfl B.len Mm (ad (pvA cf) ae)) (ad (pvA pc) ae))) (ad (pvA ki) ae))))))))))))))),zG h⟩
theorem Jl (D:Def K mg "both" lL dU f fd) (B:Blt mg):yS P w K mg base 1:=by
 refine D.ok Jf (by walk_at "l") fun _ _ _ _ _ _ _ _ hr h=>?_
 exact ⟨uJ K,(ai (aw (bJ (sc:=(ac lL)) (NX:=dU) (N:=rL) (ix:=[none,none]) rfl (by walk_at "c") (m5 bL bL rfl B.zip (ad (pvA G7) (ad (pvA G8) ae))) (by intros; exact (ga rfl (bv (aA (i:=0) (show (rL:List Str).Nodup by decide +kernel) rfl (Lp rfl)) (bv (aA (i:=1) (show (rL:List Str).Nodup by decide +kernel) rfl (Lp rfl)) eS)))) (by intros; exact bO) (by intros; exact (mW (pv 0) (kY (pv 1))))))),Iv h⟩
theorem Fs (D:Def K mg "either" iw dU f fd) (B:Blt mg):Db P w K mg base 1:=by
 refine D.ok Fl (by walk_at "l") fun _ _ _ _ _ _ _ _ hr h=>?_
 exact ⟨ow K,(ai (aw (bJ (sc:=(ac iw)) (NX:=dU) (N:=rL) (ix:=[none,none]) rfl (by walk_at "c") (m5 bL bL rfl B.zip (ad (pvA Dz) (ad (pvA DC) ae))) (by intros; exact (ga rfl (bv (aA (i:=0) (show (rL:List Str).Nodup by decide +kernel) rfl (Lp rfl)) (bv (aA (i:=1) (show (rL:List Str).Nodup by decide +kernel) rfl (Lp rfl)) eS)))) (by intros; exact bO) (by intros; exact (Kn (pv 0) (kY (pv 1))))))),EM h⟩
theorem Hc (D:Def K mg "known" fN vD f fd) (B:Blt mg):vO P w K mg base 1:=by
 refine D.ok oS (by walk_at "l") fun _ _ _ _ _ _ _ _ hr h=>?_
 exact ⟨rj K,(ag (az (i:=2) oS.nd rfl (OT rfl) (aq EU (da (ap dQ ae)) (ax aD rfl B.len Mm (ad (pvA qR) ae))))
  (ag (bP LM rfl (m5 bL bL rfl B.zip (ad (pvA qR) (ad (pvA Fm) ae))) (ga rfl (bv (aA (i:=3) oS.nd rfl (Lp rfl)) (bv (aA (i:=4) oS.nd rfl (Lp rfl)) eS))) (ai (bj (dG (cU (pvA Fp))) (ai (mX dQ (pU (pvA Fn) (pvA Fo) lf))) aQ)))
  (ai (aw (bJ (sc:=(ac fN)) (NX:=oI) (N:=["least","sure"]) (ix:=[none,some 2]) rfl (by walk_at "c") (b7 (pvA qR)) (by intros; exact (aA (i:=0) (show (["least","sure"]:List Str).Nodup by decide +kernel) rfl (Lp rfl))) (by intros; exact bO) (by intros; exact (aV bw (pv 1) (pv 0) (fun _ _=>rfl)))))))),F9 h⟩
theorem vX (D:Def K mg "known_to_all" cp vG f fd) (B:Blt mg) (U46:yS P w K mg base 1) (U43:vO P w K mg base 1):Dc P w K mg base 2:=by
 refine D.ok fV (by walk_at "l") fun _ _ _ _ _ _ _ _ hr h=>?_
 exact ⟨gB K,(ag (az (i:=2) fV.nd rfl (Lp rfl) (aq EU (da (ap dQ ae)) (ax aD rfl B.len Mm (ad (pvA lM) ae))))
  (ag (bP LM rfl (b7 (pvA tS)) (aA (i:=3) fV.nd rfl (Lp rfl)) (ai (az (i:=2) fV.nd rfl (Lp rfl) (ak U46 (rmD hr) (ad (pvA lN) (aL (ak U43 (rmD hr) (ad (pvA tT) (ad (pvA lM) ae))) ae))))))
  (ai (aw (pvA lN))))),uK h⟩
theorem Jm (D:Def K mg "seen" lO kN f fd) (B:Blt mg) (U43:vO P w K mg base 1):De P w K mg base 2:=by
 refine D.ok Jg (by walk_at "l") fun _ _ _ _ _ _ _ _ hr h=>?_
 have hu:=hr.units0
 exact ⟨uL K,(ai (aw (ak U43 (rmD hr) (ad (pvA AA) (bS (bJ (sc:=(ac lO)) (NX:=kN) (N:=CW) (ix:=[none,none,some 0]) rfl (by walk_at "c") (m5 bL bL rfl B.zip (ad (pvA G9) (ad (pvA AA) ae))) (by intros; exact (ga rfl (bv (aA (i:=0) (show (CW:List Str).Nodup by decide +kernel) rfl (Lp rfl)) (bv (aA (i:=1) (show (CW:List Str).Nodup by decide +kernel) rfl (Lp rfl)) eS)))) (by intros; exact bO) (by intros; exact (jo (JC hu) (pv 0) (aV bw (pv 2) (pv 1) (fun _ _=>rfl)) (aO _)))) ae))))),Ix h⟩
theorem t0 (D:Def K mg "refuse_unless" eh oK f fd) (B:Blt mg):yT P w K mg base 1:=by
 refine D.ok tU (by walk_at "l") fun _ _ _ _ _ _ _ _ hr h=>?_
 exact ⟨fU K,(ai (bj (dG (cU (pvA rW))) (ai nJ) aQ)),tw h⟩
theorem AI (D:Def K mg "are_cards" fO mF f fd) (B:Blt mg) (U35:Ap P w K mg base 3):Df P w K mg base 4:=by
 refine D.ok AB (by walk_at "l") fun _ _ _ _ _ _ _ _ hr h=>?_
 exact ⟨jO K,(ai (aw (mW (ax fm rfl B.isinstance Nx (ad (pvA ph) (ad (gq (v:=.ty "list") rfl B.list Oh rfl) ae))) (kY (ax (lZ rfl) rfl B.all T2 (bS (bJ (sc:=(ac fO)) (NX:=mF) (N:=["card","cards"]) (ix:=[none,some 1]) rfl (by walk_at "c") (b7 (pvA ph)) (by intros; exact (aA (i:=0) (show (["card","cards"]:List Str).Nodup by decide +kernel) rfl (Lp rfl))) (by intros; exact bO) (by intros; exact (ak U35 (rmD hr) (ad (pv 0) (ad (pv 1) ae))))) ae)))))),zV h⟩
theorem yn (D:Def K mg "least_held" db oJ f fd) (B:Blt mg):Dg P w K mg base 1:=by
 refine D.ok pi (by walk_at "l") fun _ _ _ _ _ _ _ _ hr h=>?_
 exact ⟨iT K,(ag (bP LM rfl (b7 (pvA wJ)) (aA (i:=3) pi.nd rfl (Lp rfl)) (ai (bj (aN cT (aV bI (pvA wH) (pvA np) (fun _ _=>rfl)) (pvA wI) (aO _)) (ai (aw (pvA np))) aQ)))
  (ai (aw Js))),xM h⟩
theorem AJ (D:Def K mg "_law_cell" eM vi f fd) (B:Blt mg):oN P w K mg base 1:=by
 refine D.ok jb (by walk_at "l") fun _ _ _ _ _ _ _ _ hr h=>?_
 exact ⟨jI K,(ag (bj (aN uf (pvA dY) (ax aD rfl B.len Mm (ad (pvA fE) ae)) (aO _)) (ai (aw (aV bw (pvA fE) (pvA dY) (fun _ _=>rfl)))) aQ)
  (ag (az (i:=2) jb.nd rfl (Lp rfl) (aq bc (aq dh (pvA dY) aj) aj))
  (ag (bj (aN jB (ax aD rfl B.len Mm (ad (pvA fE) ae)) aj (aO _)) (ai (az (i:=2) jb.nd rfl (Lp rfl) (aq bc (aq dh (aV bw (pvA fE) (aq bn (aq dh (pvA dY) aj) (ax aD rfl B.len Mm (ad (pvA fE) ae))) (fun _ _=>rfl)) aj) (aq dh (pvA dY) aj)))) aQ)
  (ag (az (i:=2) jb.nd rfl (Lp rfl) (aq bn (aq dh (pvA h9) (pvA h9)) aj))
  (ai (aw (aq bn (aq dh (aq bc (pvA h9) (pvA dY)) (aq bc (pvA h9) aj)) aj))))))),zB h⟩
theorem vY (D:Def K mg "_law_product" cN vL f fd) (B:Blt mg):Dh P w K mg base 1:=by
 refine D.ok fW (by walk_at "l") fun _ _ _ _ _ _ _ _ hr h=>?_
 exact ⟨gz K,(ag (az (i:=1) fW.nd rfl (Lp rfl) aj)
  (ag (bP LM rfl (bX rfl B.range (ad (pvA tV) ae)) (aA (i:=2) fW.nd rfl (Lp rfl)) (ai (az (i:=1) fW.nd rfl (Lp rfl) (aq dh (pvA lP) (aq bc (pvA tW) aj)))))
  (ai (aw (pvA lP))))),uF h⟩
theorem yo (D:Def K mg "_law_count" dc vv f fd) (B:Blt mg) (U4:Dh P w K mg base 1):Di P w K mg base 2:=by
 refine D.ok ib (by walk_at "l") fun _ _ _ _ _ _ _ _ hr h=>?_
 exact ⟨iL K,(ag (az (i:=2) ib.nd rfl (Lp rfl) (ak U4 (rmD hr) (ad (pvA nr) ae)))
  (ag (bP LM rfl (b7 (aq qy (pvA nu) (da (aE (aq gb (pvA nr) (ax (jV rfl) rfl B.sum Sl (ad (pvA nu) ae))) ae)))) (aA (i:=3) ib.nd rfl (Lp rfl)) (ai (az (i:=2) ib.nd rfl (Lp rfl) (aq b8 (pvA nv) (ak U4 (rmD hr) (ad (pvA wK) ae))))))
  (ai (aw (pvA nv))))),xI h⟩
theorem AK (D:Def K mg "_law_pack" cu vk f fd) (B:Blt mg) (U29:oN P w K mg base 1) (U15:Di P w K mg base 2):Dj P w K mg base 3:=by
 refine D.ok fc (by walk_at "l") fun _ _ _ _ _ _ _ _ hr h=>?_
 exact ⟨jM K,(ag (az (i:=3) fc.nd rfl (Lp rfl) (aq bn (ak U29 (rmD hr) (ad (pvA fF) (ad (pvA fG) ae))) aj))
  (ag (bj (aN cT (aq bn (aq b8 (ak U29 (rmD hr) (ad (pvA fF) (ad (pvA fG) ae))) aj) aj) aj (aO _)) (ai (az (i:=3) fc.nd rfl (Lp rfl) (aq bc aj (aq bn (aq b8 (ak U29 (rmD hr) (ad (pvA fF) (ad (pvA fG) ae))) aj) aj)))) aQ)
  (ag (az (i:=4) fc.nd rfl (Lp rfl) (da ae))
  (ag (bP LM rfl (bX rfl B.range (aE (aq bc aj (aq bn (ak U29 (rmD hr) (ad (pvA fF) (aE (aq bc (pvA fG) aj) ae))) aj)) ae)) (aA (i:=5) fc.nd rfl (Lp rfl)) (ai (cA (jC Mp MH MI d4 (pvA bU) (aE (aq bn (ak U29 (rmD hr) (ad (pvA fF) (aE (aq bc (aq bc (pvA fG) aj) (pvA ye)) ae))) (aq bc (ax (lX rfl) rfl B.min T3 (ap aj (aE (aq gb (pvA fH) (ax (jV rfl) rfl B.sum Sl (ad (pvA bU) ae))) ae))) aj)) ae)))))
  (ag (nK LM (aN jB (ak U15 (rmD hr) (ad (pvA fH) (ad (pvA bU) ae))) (pvA yd) (aO _)) (ag (bj (aN jB (ax (qc rfl) rfl B.max T4 (ad (pvA bU) ae)) (aq gb (pvA fH) (ax (jV rfl) rfl B.sum Sl (ad (pvA bU) ae))) (aO _)) (ai (mX (aq gb (ax (qc rfl) rfl B.max T4 (ad (pvA bU) ae)) aj) (pU (pvA bU) (jC Mp Rh PySem.F.type_list_index FM (pvA bU) (aL (ax (qc rfl) rfl B.max T4 (ad (pvA bU) ae)) ae)) lf))) aQ)
  (ai (az (i:=3) fc.nd rfl (Lp rfl) (aq gb (pvA fH) aj)))))
  (ai (aw (bB (ad (pvA fH) (ad (pvA bU) ae)))))))))),zM h⟩
theorem pO (D:Def K mg "_law_words" dM rJ f fd) (B:Blt mg):∀ n,FnB P w K mg base (1 + n) "_law_words" rJ (dX K n)
 | 0=>D.ok (k:=0) fI (fun vs H Q E h=>(oV h).elim) (fun cdv A outer s H vs Q E hr h=>(oV h).elim)
 | n + 1=>by
  have U18:=pO D B n
  refine D.ok (k:=1 + n) fI (by walk_at "l") fun _ _ _ _ _ _ _ _ hr h=>?_
  have hu:=hr.units0
  exact ⟨iS K n,(ag (az (i:=1) fI.nd rfl (Lp rfl) aj)
  (ag (bP LM rfl (t9 (lc zN (pvA wL) (mZ aj) mY)) (aA (i:=2) fI.nd rfl (Lp rfl)) (ai (bj (PW.pt (yZ (cU (ax fm rfl B.isinstance Nx (ad (pvA gM) (ad (gq (v:=.ty "tuple") rfl B.tuple Pf rfl) ae)))) (yZ (aN (JD hu) (pvA gM) (bB ae) (aO _)) (Bo (cU (ax fm rfl B.isinstance Nx (aM (aV bI (pvA gM) aj (fun _ _=>rfl)) (ad (gq (v:=.ty "str") rfl B.str boot_str rfl) ae)))))))) (ai (az (i:=1) fI.nd rfl (Lp rfl) (aq bc (pvA ny) (ak U18 (hr.mono (by omega)) (ad (pvA gM) ae))))) aQ)))
  (ai (aw (pvA ny))))),xL h⟩
theorem yp (D:Def K mg "_law_group" ff mC f fd) (B:Blt mg):yU P w K mg base 1:=by
 refine D.ok yf (by walk_at "l") fun _ _ _ _ _ _ _ _ hr h=>?_
 exact ⟨iR K,(ai (aw (bK Gh rfl B.tuple Pf (bS (bJ (sc:=(ac ff)) (NX:=mC) (N:=["_law_hand","_law_number"]) (ix:=[none,some 0]) rfl (by walk_at "c") (bX rfl B.range (ad (pvA wM) ae)) (by intros; exact (aA (i:=0) (show (["_law_hand","_law_number"]:List Str).Nodup by decide +kernel) rfl (Lp rfl))) (by intros; exact (qW (aN cT (aq bn (aq b8 (pv 1) (aV bw (da (ap aj (ap aj (ap aj (ap aj (ap aj ae)))))) (pv 0) (fun _ _=>rfl))) aj) aj (aO _)))) (by intros; exact (pv 0))) ae)))),xK h⟩
theorem AL (D:Def K mg "_law_pool" ca mV f fd) (B:Blt mg) (U29:oN P w K mg base 1):Dk P w K mg base 2:=by
 refine D.ok jc (by walk_at "l") fun _ _ _ _ _ _ _ _ hr h=>?_
 exact ⟨jN K,(ag (az (i:=4) jc.nd rfl (Lp rfl) (da (ba (bB (ap aX (aE (aq bn (ak U29 (rmD hr) (ad (pvA pj) (ad (pvA pA) ae))) (pvA pD)) ae))) ae)))
  (ag (bP LM rfl (bX rfl B.range (aE (aq dh aj (bK DR rfl B.int boot_int (A8 (jo jB (pvA pB) aj (aO _)) ae))) ae)) (aA (i:=5) jc.nd rfl (Lp rfl)) (ag (az (i:=6) jc.nd rfl (Lp rfl) (ak U29 (rmD hr) (ad (pvA pj) (aE (aq bc (aq bc (pvA pA) aj) (pvA yg)) ae))))
  (ai (cA (jC Mp MH MI d4 (pvA pE) (ba (bB (ap aX (aE (aq bn (pvA pH) (aq bc (pvA pD) aj)) (aE (aq bn (aq b8 (pvA pH) aj) (pvA pB)) ae)))) ae))))))
  (ai (aw (pvA pE))))),zU h⟩
theorem wU (D:Def K mg "_law_saying" bh An f fd) (B:Blt mg) (U29:oN P w K mg base 1) (U12:yU P w K mg base 1) (U22:Dk P w K mg base 2) (U18:Hw P w K mg base 71):yV P w K mg base 72:=by
 refine D.ok bC (by walk_at "l") fun _ _ _ _ _ _ _ _ hr h=>?_
 exact ⟨g0 K,(ag (az (i:=5) bC.nd rfl (Lp rfl) (ak U22 (rmD hr) (ad (pvA jd) (ad (pvA je) (ad (pvA vR) (ad (pvA bZ) ae))))))
  (ag (bP LM rfl (bX rfl B.range (aE (aq bn (ak U29 (rmD hr) (ad (pvA jd) (aE (aq bc (pvA je) aj) ae))) aj) ae)) (aA (i:=6) bC.nd rfl (Lp rfl)) (ag (az (i:=7) bC.nd rfl (Lp rfl) (ak U29 (rmD hr) (ad (pvA jd) (aE (aq bc (aq bc (pvA je) aj) (pvA vT)) ae))))
  (ag (az (i:=8) bC.nd rfl (Lp rfl) (aV bw (pvA ek) (He DN aj) (fun _ _=>rfl)))
  (ag (az (i:=9) bC.nd rfl (Lp rfl) (aV bw (pvA ek) (aq bn (aq b8 (pvA bG) aj) (ax aD rfl B.len Mm (ad (pvA ek) ae))) (fun _ _=>rfl)))
  (ag (az (i:=10) bC.nd rfl (Lp rfl) (da (ba (bB (ap aX (ad (pvA bN) ae))) (ba (bB (ap aX (ad (pvA bN) (ad (pvA cy) ae)))) (ba (bB (ap aX (ad (pvA cy) (ad (pvA bN) ae)))) (ba (bB (ap aX (ad (pvA cy) ae))) ae))))))
  (ag (az (i:=10) bC.nd rfl (Lp rfl) (aq qy (pvA cO) (da (ba (bB (ap aX (aE (aq bn (aq b8 (pvA bG) aj) (pvA bZ)) (ad (pvA bN) ae)))) (ba (bB (ap aX (aE (aq bn (aq b8 (pvA bG) aj) (pvA bZ)) (ba (bB (ap aX (ad (pvA bN) ae))) ae)))) ae)))))
  (ag (az (i:=10) bC.nd rfl (Lp rfl) (aq qy (pvA cO) (da (ba (bB (ap aX (aL (ak U12 (rmD hr) (aE (aq b8 (pvA bG) aj) (ad (pvA bZ) ae))) (ad (pvA bN) ae)))) (ba (bB (ap aX (aL (ak U12 (rmD hr) (aE (aq b8 (pvA bG) aj) (ad (pvA bZ) ae))) (ad (pvA cy) ae)))) ae)))))
  (ag (az (i:=10) bC.nd rfl (Lp rfl) (aq qy (pvA cO) (da (ba (bB (ap aX (aL (ak U12 (rmD hr) (aE (aq b8 (pvA bG) aj) (ad (pvA bZ) ae))) (ad (pvA bN) ae)))) (ba (bB (ap aX (aE (aq bn (aq b8 (pvA bG) aj) (pvA bZ)) (ad (pvA cy) ae)))) ae)))))
  (ag (az (i:=10) bC.nd rfl (Lp rfl) (aq qy (pvA cO) (da (ba (bB (ap aX (ad (pvA cy) (ba (bB (ap aX (ad (pvA bN) ae))) ae)))) (ba (bB (ap aX (ad (pvA bN) (ba (bB (ap aX (aE (aq bn (aq b8 (pvA bG) aj) (pvA bZ)) (ad (pvA cy) ae)))) ae)))) ae)))))
  (ai (bj (aN yx (ak U18 (rmD hr) (aM (aV bw (pvA cO) (aq bn (pvA bG) aj) (fun _ _=>rfl)) ae)) (pvA vS) (aO _)) (ai (cA (jC Mp MH MI d4 (pvA ek) (aM (aV bw (pvA cO) (aq bn (pvA bG) aj) (fun _ _=>rfl)) ae)))) aQ)))))))))))
  (ai (aw (aV bw (pvA ek) (He DN aj) (fun _ _=>rfl)))))),wt h⟩
theorem AM (D:Def K mg "_law_deed" cb mV f fd) (B:Blt mg) (U29:oN P w K mg base 1) (U12:yU P w K mg base 1) (U9:yV P w K mg base 72):Dl P w K mg base 73:=by
 refine D.ok lQ (by walk_at "l") fun _ _ _ _ _ _ _ _ hr h=>?_
 exact ⟨jP K,(ag (az (i:=4) lQ.nd rfl (Lp rfl) (ak U29 (rmD hr) (ad (pvA kj) (ad (pvA kl) ae))))
  (ag (bj (PW.pt (lU (aN jB (aq bn (pvA ie) aj) aj (aO _)) (kX (aN cT (pvA pJ) aj (aO _))))) (ai (aw (bB (ap aX (aL (ak U12 (rmD hr) (aE (aq b8 (pvA ie) aj) (ad (pvA ic) ae))) (aL (ak U9 (rmD hr) (ad (pvA kj) (aE (aq bc (pvA kl) aj) (ad (pvA pJ) (ad (pvA ic) (ap aj ae)))))) ae)))))) aQ)
  (ag (nV (i:=5) lQ.nd rfl rfl (sc:=(ac cb)) (NX:=qH) (N:=Hv) (ix:=[none,some 2,some 0,some 1]) rfl (by walk_at "c") (bX rfl B.range (aE (aq bn (ak U29 (rmD hr) (ad (pvA kj) (aE (aq bc (pvA kl) aj) ae))) aj) ae)) (by intros; exact (aA (i:=0) (show (Hv:List Str).Nodup by decide +kernel) rfl (Lp rfl))) (by intros; exact bO) (by intros; exact (aq bn (ak U29 (rmD hr) (ad (pv 2) (aE (aq bc (aq bc (pv 3) aj) (pv 0)) ae))) (pv 1))))
  (ai (aw (bB (ap aX (aE (aq bn (aq b8 (pvA ie) aj) (pvA ic)) (aE (aq bn (aq b8 (pvA ie) aj) (aq bc (pvA ic) aj)) (ad (pvA yh) ae)))))))))),Ad h⟩
theorem AN (D:Def K mg "_law_done" fP mD f fd) (B:Blt mg) {G:GF} (T:d8 P w K mg G) (U19:GU P w K mg base G 5) (U13:Aq P w K mg base G 41):Dm P w K mg base G 42:=by
 refine D.ok AC (by walk_at "l") fun _ _ _ _ _ _ _ _ hr h=>?_
 exact ⟨jQ K G,(ag (bj (aN cT (aV bI (pvA dZ) aj (fun _ _=>rfl)) aX (aO _)) (ai (aw (ir U13 (rmD hr) T.cl_Table (pvA pL) (aM (aV bI (pvA dZ) aj (fun _ _=>rfl)) (aM (aV bI (pvA dZ) aj (fun _ _=>rfl)) ae))))) aQ)
  (ai (aw (ir U19 (rmD hr) T.cl_Table (pvA pL) (aM (aV bI (pvA dZ) aj (fun _ _=>rfl)) (aM (aV bI (pvA dZ) aj (fun _ _=>rfl)) (aL (bK jv rfl B.list Oh (aM (aV bI (pvA dZ) aj (fun _ _=>rfl)) ae)) ae))))))),Ae h⟩
theorem yq (D:Def K mg "_law_alike" dO kL f fd) (B:Blt mg):Dn P w K mg base 1:=by
 refine D.ok yi (by walk_at "l") fun _ _ _ _ _ _ _ _ hr h=>?_
 have hu:=hr.units0
 have hux:=hr.units64
 exact ⟨i3 K,(ai (aw (jo (JE hu) (bJ (sc:=(ac dO)) (NX:=kL) (N:=["_law_k","_law_ones","_law_others"]) (ix:=[none,some 0,some 1]) rfl (by walk_at "c") (bX rfl B.range (aL (ax (lX rfl) rfl B.min T3 (aL (ax aD rfl B.len Mm (ad (pvA wN) ae)) (aL (ax aD rfl B.len Mm (ad (pvA wO) ae)) ae))) ae)) (by intros; exact (aA (i:=0) (show (["_law_k","_law_ones","_law_others"]:List Str).Nodup by decide +kernel) rfl (Lp rfl))) (by intros; exact (qW (aN (tH hux) (aV bw (pv 1) (pv 0) (fun _ _=>rfl)) (aV bw (pv 2) (pv 0) (fun _ _=>rfl)) (aO _)))) (by intros; exact (pv 0))) (da ae) (aO _)))),xT h⟩
theorem vZ (D:Def K mg "_law_between" cP vK f fd) (B:Blt mg):Do P w K mg base 1:=by
 refine D.ok jf (by walk_at "l") fun _ _ _ _ _ _ _ _ hr h=>?_
 exact ⟨gH K,(ag (az (i:=1) jf.nd rfl (Lp rfl) (da ae))
  (ag (bP LM rfl (b7 (pvA tX)) (aA (i:=2) jf.nd rfl (Lp rfl)) (ag (cA (jC Mp MH MI d4 (pvA iz) (ad (pvA tY) ae)))
  (ai (cA (jC Mp MH MI d4 (pvA iz) (ba (bB (ap aX (ba (bB (ap aX (ap aj ae))) (ba (bB (ap aX (ba (bB (ap aX (ap aj ae))) ae))) ae)))) ae))))))
  (ai (aw (pvA iz))))),uZ h⟩
theorem Km (D:Def K mg "law" dj rM f fd) (B:Blt mg) {G:GF} (T:d8 P w K mg G) (U8:Dp P w K mg base G 8) (U10:GV P w K mg base G 1) (U17:FnI P w K mg base 6 G.Table gI (dn K G)) (U13:Aq P w K mg base G 41) (U14:Dn P w K mg base 1) (U7:Do P w K mg base 1) (U29:oN P w K mg base 1) (U21:Dl P w K mg base 73) (U26:Dm P w K mg base G 42) (U28:Dj P w K mg base 3) (U9:yV P w K mg base 72) (U36:C1 P w K mg base 5) (U49:GP P w K mg base G 42):gO P w K mg base CX0 74 f fd rM (ur K):=by
 refine D.fn.ok eB (by walk_at "l") fun _ _ _ _ _ _ _ _ hr h=>?_
 have hux:=hr.units64
 exact ⟨yF K G,(ag (mX (ak U28 (rmD hr) (ad (pvA kU) (ap aj (ap aj ae)))) (ga rfl (bv (aA (i:=1) eB.nd rfl (OT rfl)) (bv (aA (i:=2) eB.nd rfl (Lp rfl)) eS))))
  (ag (az (i:=3) eB.nd rfl (OT rfl) (ax aD rfl B.len Mm (ad (pvA wQ) ae)))
  (ag (az (i:=4) eB.nd rfl (Lp rfl) (zQ U17 (rmD hr) T.m_Table (ad (pvA wP) (ad (pvA wQ) ae))))
  (ag (bP LM rfl (bX rfl B.range (aE (aq bn (ak U29 (rmD hr) (ad (pvA kU) (ap aj ae))) aj) ae)) (aA (i:=5) eB.nd rfl (Lp rfl)) (ai (cA (ak U26 (rmD hr) (ad (pvA kW) (aL (ak U21 (rmD hr) (ad (pvA kU) (aE (aq bc aj (aq dh aj (pvA Jh))) (ad (pvA wP) (ad (pvA BV) ae))))) ae))))))
  (ag (nV (i:=6) eB.nd rfl rfl (sc:=(ac dj)) (NX:=gj) (N:=Hu) (ix:=[none,some 0,some 1,some 3]) rfl (by walk_at "c") (bX rfl B.range (aE (aq bc aj (aq bn (ak U29 (rmD hr) (ad (pvA kU) (ap aj ae))) aj)) ae)) (by intros; exact (aA (i:=0) (show (Hu:List Str).Nodup by decide +kernel) rfl (Lp rfl))) (by intros; exact bO) (by intros; exact (ak U9 (rmD hr) (ad (pv 1) (aE (aq bc aj (aq dh aj (pv 0))) (ad (pv 2) (ad (pv 3) (ap aj ae))))))))
  (ag (az (i:=7) eB.nd rfl (Lp rfl) (aq dh (ax aD rfl B.len Mm (ad (pvA jy) ae)) (aq bn (ak U29 (rmD hr) (ad (pvA kU) (ap aj ae))) aj)))
  (ag (az (i:=8) eB.nd rfl (Lp rfl) (aq bn (aq b8 (ak U29 (rmD hr) (ad (pvA kU) (ap aj ae))) aj) (aq gb aj (pvA fQ))))
  (ag (az (i:=9) eB.nd rfl (Lp rfl) (ak U49 (rmD hr) (ad (pvA kW) (ad (pvA jy) (aE (aq bc (pvA fQ) (pvA rO)) ae)))))
  (ag (az (i:=10) eB.nd rfl (Lp rfl) (ak U49 (rmD hr) (ad (pvA kW) (ad (pvA jy) (ad (pvA fQ) ae)))))
  (ag (bj (PW.pt (lU (aN (tH hux) (lc BH (pvA nA) mY (mZ (pvA fQ))) (pvA lR) (aO _)) (lU (aN jB (ax aD rfl B.len Mm (ad (pvA lR) ae)) (pvA fQ) (aO _)) (kX (aN jB (ax aD rfl B.len Mm (ad (pvA nA) ae)) (aq bc (pvA fQ) (pvA rO)) (aO _)))))) (ai (aw dQ)) aQ)
  (ag (az (i:=11) eB.nd rfl (OT rfl) (ak U49 (rmD hr) (ad (pvA kW) (aL (ak U7 (rmD hr) (ad (pvA jy) ae)) (aL (ax (lX rfl) rfl B.min T3 (ap aj (aE (aq dh aj (aq bc (pvA fQ) (pvA rO))) ae))) ae)))))
  (ag (bj (dG (cU (ak U14 (rmD hr) (bS (bJ (sc:=(ac dj)) (NX:=gj) (N:=["_law_k","_law_between_here"]) (ix:=[none,some 11]) rfl (by walk_at "c") (Fi rfl B.range (ap aj (aL (ax aD rfl B.len Mm (ad (pvA Ha) ae)) (ap aj ae)))) (by intros; exact (aA (i:=0) (show (["_law_k","_law_between_here"]:List Str).Nodup by decide +kernel) rfl (Lp rfl))) (by intros; exact bO) (by intros; exact (aV bw (pv 1) (pv 0) (fun _ _=>rfl)))) (ad (pvA nA) ae))))) (ai (aw dQ)) aQ)
  (ag (bj (aN uf (ax aD rfl B.len Mm (ad (pvA lR) ae)) (pvA fQ) (aO _)) (ai (aw (jo (Gv hux) (pvA nA) (pvA lR) (aO _)))) aQ)
  (ag (az (i:=12) eB.nd rfl (Lp rfl) (qz U8 (rmD hr) T.cl_Table (pvA kW)))
  (ag (bP LM rfl (bX rfl B.range (ad (pvA fQ) ae)) (aA (i:=13) eB.nd rfl (Lp rfl)) (ai (bj (aN (tH hux) (ir U13 (rmD hr) T.cl_Table (pvA AD) (aL (bK (xD rfl) rfl B.tuple Pf (aL (bK qF rfl B.range QV (ad (pvA BV) ae)) ae)) (aM (aV bw (pvA jy) (aq bn (pvA AE) (ax aD rfl B.len Mm (ad (pvA jy) ae))) (fun _ _=>rfl)) ae))) (aV bw (pvA lR) (pvA AE) (fun _ _=>rfl)) (aO _)) (ai (aw dQ)) aQ)))
  (ai (aw (mW (ak U14 (rmD hr) (aL (ak U49 (rmD hr) (ad (pvA AD) (ad (pvA jy) (ad (pvA rO) ae)))) (aM (lc BH (pvA nA) (mZ (pvA fQ)) mY) ae))) (kY (jo cT (ax aD rfl B.len Mm (aL (ak U36 (rmD hr) (ad (pvA wP) (ad (pvA wQ) ae))) ae)) (ax aD rfl B.len Mm (aL (qz U10 (rmD hr) T.cl_Table (pvA kW)) ae)) (aO _))))))))))))))))))))),Kd h⟩
theorem yr {G:GF} (D:zP K G.Table "Table.__init__" de gI f fd) (B:Blt mg) (T:d8 P w K mg G) (U36:C1 P w K mg base 5) (U16:C7 P w K mg base 2):FnI P w K mg base 6 G.Table gI (dn K G):=by
 refine D.ok yk (by walk_at "l") fun _ _ _ _ _ _ _ _ hr h=>?_
 exact ⟨iV K G,(ag (jU (pvA cQ) (ak U36 (rmD hr) (ad (pvA nB) (ad (pvA jz) ae))) rfl)
  (ag (jU (pvA cQ) (pvA nB) rfl)
  (ag (jU (pvA cQ) (bK jv rfl B.list Oh (ad (pvA jz) ae)) rfl)
  (ag (jU (pvA cQ) (ax aD rfl B.len Mm (ad (pvA jz) ae)) rfl)
  (ag (jU (pvA cQ) (bJ (sc:=(ac de)) (NX:=gI) (N:=["hand","self"]) (ix:=[none,some 0]) rfl (by walk_at "c") (bX rfl B.range (bd (bW (pvA cQ) rfl) ae)) (by intros; exact (aA (i:=0) (show (["hand","self"]:List Str).Nodup by decide +kernel) rfl (Lp rfl))) (by intros; exact bO) (by intros; exact (ak U16 (rmD hr) (bd (bW (pv 1) rfl) (ad (pv 0) ae))))) rfl)
  (ai (jU (pvA cQ) (da ae) rfl))))))),xN T.ct h⟩
theorem wV {G:GF} (D:iq K G.Table "deals" "Table.deals" fJ h7 f fd) (B:Blt mg) (T:d8 P w K mg G):GV P w K mg base G 1:=by
 refine D.ok wR (by walk_at "l") fun _ _ _ _ _ _ _ _ hr h=>?_
 exact ⟨g9 K G,(ai (aw (bK jv rfl B.list Oh (bd (bW (pvA vU) rfl) ae)))),wu T.ct h⟩
theorem yt {G:GF} (D:iq K G.Table "word" "Table.word" dP kM f fd) (B:Blt mg) (T:d8 P w K mg G) (U11:Dq P w K mg base G 3) (U6:GW P w K mg base G 40) (U25:C0 P w K mg base 3) (U2:yT P w K mg base 1):Aq P w K mg base G 41:=by
 refine D.ok yl (by walk_at "l") fun _ _ _ _ _ _ _ _ hr h=>?_
 exact ⟨iX K G,(ag (cA (ak U2 (rmD hr) (aL (ak U25 (rmD hr) (ad (pvA nC) (bd (bW (pvA jA) rfl) ae))) (ap aX ae))))
  (ai (aw (ir U11 (rmD hr) T.cl_Table (pvA jA) (ad (pvA nC) (aL (ir U6 (rmD hr) T.cl_Table (pvA jA) (ad (pvA wS) ae)) ae)))))),xQ T.ct h⟩
theorem yu {G:GF} (D:iq K G.Table "show" "Table.show" cz vo f fd) (B:Blt mg) (T:d8 P w K mg G) (m_set:mg "set"=none) (U11:Dq P w K mg base G 3) (U24:Df P w K mg base 4) (U35:Ap P w K mg base 3) (U20:Dg P w K mg base 1) (U2:yT P w K mg base 1):GU P w K mg base G 5:=by
 refine D.ok pM (by walk_at "l") fun _ _ _ _ _ _ _ _ hr h=>?_
 exact ⟨iY K G,(ag (cA (ak U2 (rmD hr) (aL (ak U35 (rmD hr) (ad (pvA nD) (bd (bW (pvA fg) rfl) ae))) (ap aX ae))))
  (ag (cA (ak U2 (rmD hr) (aL (ak U35 (rmD hr) (ad (pvA wT) (aE (aq bc (bW (pvA fg) rfl) aj) ae))) (ap aX ae))))
  (ag (cA (ak U2 (rmD hr) (aL (ak U24 (rmD hr) (ad (pvA nE) (bd (bW (pvA fg) rfl) ae))) (ap aX ae))))
  (ag (az (i:=4) pM.nd rfl (OT rfl) (CT rfl B.sorted m_set (ad (pvA nE) ae)))
  (ai (aw (ir U11 (rmD hr) T.cl_Table (pvA fg) (ba (bB (ad (pvA nD) ae)) (bS (bJ (sc:=(ac cz)) (NX:=rD) (N:=oJ) (ix:=[none,some 2,some 4]) rfl (by walk_at "c") (b7 (bW (pvA fg) rfl)) (by intros; exact (aA (i:=0) (show (oJ:List Str).Nodup by decide +kernel) rfl (Lp rfl))) (by intros; exact bO) (by intros; exact (ak U20 (rmD hr) (ad (pv 0) (ad (pv 1) (ad (pv 2) ae)))))) ae))))))))),xR T.ct h⟩
theorem v2 {G:GF} (D:iq K G.Table "truths" "Table.truths" dF mJ f fd) (B:Blt mg) (T:d8 P w K mg G) (U30:C4 P w K mg base 6) (U27:Hx P w K mg base 39):GW P w K mg base G 40:=by
 refine D.ok vV (by walk_at "l") fun _ _ _ _ _ _ _ _ hr h=>?_
 exact ⟨gF K G,(ag (bj (dG (cU (ak U30 (rmD hr) (bd (bW (pvA fB) rfl) (bd (bW (pvA fB) rfl) (ad (pvA lT) ae)))))) (ai nJ) aQ)
  (ai (aw (ak U27 (rmD hr) (bd (bW (pvA fB) rfl) (bd (bW (pvA fB) rfl) (ad (pvA lT) ae))))))),uU T.ct h⟩
theorem wW {G:GF} (D:iq K G.Table "again" "Table.again" d2 h7 f fd) (B:Blt mg) (T:d8 P w K mg G) (U17:FnI P w K mg base 6 G.Table gI (dn K G)):Dp P w K mg base G 8:=by
 refine D.ok nG (by walk_at "l") fun _ _ _ _ _ _ _ _ hr h=>?_
 exact ⟨hU K G,(ag (az (i:=1) nG.nd rfl (Lp rfl) (zQ U17 (rmD hr) T.m_Table (bd (bW (pvA fX) rfl) (bd (bW (pvA fX) rfl) ae))))
  (ag (jU (pvA jg) (bK jv rfl B.list Oh (bd (bW (pvA fX) rfl) ae)) rfl)
  (ag (jU (pvA jg) (bK jv rfl B.list Oh (bd (bW (pvA fX) rfl) ae)) rfl)
  (ai (aw (pvA jg)))))),wx T.ct h⟩
theorem wX {G:GF} (D:iq K G.Table "learn" "Table.learn" cF vq f fd) (B:Blt mg) (T:d8 P w K mg G) (U44:C8 P w K mg base 2):Dq P w K mg base G 3:=by
 refine D.ok nH (by walk_at "l") fun _ _ _ _ _ _ _ _ hr h=>?_
 exact ⟨hJ K G,(ag (bP LM rfl (t9 (pvA mK)) (aA (i:=3) nH.nd rfl (Lp rfl)) (ai (mX (ak U44 (rmD hr) (aM (aV bw (bW (pvA jh) rfl) (pvA mL) (fun _ _=>rfl)) (ad (pvA ji) ae))) (pU (bW (pvA jh) rfl) (pvA mL) lf))))
  (ag (cA (jC Mp MH MI d4 (bW (pvA jh) rfl) (ba (bB (ad (pvA mK) (ad (pvA ji) ae))) ae)))
  (ai (aw (bK jv rfl B.list Oh (ad (pvA ji) ae)))))),wv T.ct h⟩
theorem KR (B:Blt mg) {G:GF} {f1:Addr} {fd1:LB} (V99:Def K mg "play" fD vt f1 fd1) {f2:Addr} {fd2:LB} (V82:Def K mg "is_whole" i6 oM f2 fd2) {f3:Addr} {fd3:LB} (V73:Def K mg "is_within" eJ kK f3 fd3) {f4:Addr} {fd4:LB} (V85:Def K mg "is_below" gJ mE f4 fd4) {f5:Addr} {fd5:LB} (V75:Def K mg "are_hands" dD vF f5 fd5) {f6:Addr} {fd6:LB} (V89:Def K mg "is_pack" gk fz f6 fd6) {f7:Addr} {fd7:LB} (V83:Def K mg "how_many" dy fz f7 fd7) {f8:Addr} {fd8:LB} (V88:Def K mg "choices" fh vH f8 fd8) {f9:Addr} {fd9:LB} (V86:Def K mg "deals_of" d9 fz f9 fd9) {f10:Addr} {fd10:LB} (V51:Def K mg "with_one_more" bE vI f10 fd10) {f11:Addr} {fd11:LB} (V84:Def K mg "cards_of" gK mH f11 fd11) {f12:Addr} {fd12:LB} (V79:Def K mg "is_saying" cr jS f12 fd12) {f13:Addr} {fd13:LB} (V87:Def K mg "is_word" gn jS f13 fd13) {f14:Addr} {fd14:LB} (V95:Def K mg "fits" j7 jR f14 fd14) {f15:Addr} {fd15:LB} (V81:Def K mg "parts_of" fA vN f15 fd15) {f16:Addr} {fd16:LB} (V55:Def K mg "parts_of_all" cM vM f16 fd16) {f17:Addr} {fd17:LB} (V66:Def K mg "first_view" fb mG f17 fd17) {f18:Addr} {fd18:LB} (V94:Def K mg "split" kT mI f18 fd18) {f19:Addr} {fd19:LB} (V50:Def K mg "least_with_same" bA ["marks"] f19 fd19) {f20:Addr} {fd20:LB} (V92:Def K mg "joined" dL vJ f20 fd20) {f21:Addr} {fd21:LB} (V97:Def K mg "link" i9 vy f21 fd21) {f22:Addr} {fd22:LB} (V91:Def K mg "end_of" iu vE f22 fd22) {f23:Addr} {fd23:LB} (V77:Def K mg "truths_of" bF rH f23 fd23) {f24:Addr} {fd24:LB} (V96:Def K mg "both" lL dU f24 fd24) {f25:Addr} {fd25:LB} (V90:Def K mg "either" iw dU f25 fd25) {f26:Addr} {fd26:LB} (V93:Def K mg "known" fN vD f26 fd26) {f27:Addr} {fd27:LB} (V53:Def K mg "known_to_all" cp vG f27 fd27) {f28:Addr} {fd28:LB} (V98:Def K mg "seen" lO kN f28 fd28) {f29:Addr} {fd29:LB} (V52:Def K mg "refuse_unless" eh oK f29 fd29) {f30:Addr} {fd30:LB} (V74:Def K mg "are_cards" fO mF f30 fd30) {f31:Addr} {fd31:LB} (V70:Def K mg "least_held" db oJ f31 fd31) {f32:Addr} {fd32:LB} (V80:Def K mg "_law_cell" eM vi f32 fd32) {f33:Addr} {fd33:LB} (V54:Def K mg "_law_product" cN vL f33 fd33) {f34:Addr} {fd34:LB} (V65:Def K mg "_law_count" dc vv f34 fd34) {f35:Addr} {fd35:LB} (V78:Def K mg "_law_pack" cu vk f35 fd35) {f36:Addr} {fd36:LB} (V68:Def K mg "_law_words" dM rJ f36 fd36) {f37:Addr} {fd37:LB} (V62:Def K mg "_law_group" ff mC f37 fd37) {f38:Addr} {fd38:LB} (V72:Def K mg "_law_pool" ca mV f38 fd38) {f39:Addr} {fd39:LB} (V59:Def K mg "_law_saying" bh An f39 fd39) {f40:Addr} {fd40:LB} (V71:Def K mg "_law_deed" cb mV f40 fd40) {f41:Addr} {fd41:LB} (V76:Def K mg "_law_done" fP mD f41 fd41) {f42:Addr} {fd42:LB} (V64:Def K mg "_law_alike" dO kL f42 fd42) {f43:Addr} {fd43:LB} (V57:Def K mg "_law_between" cP vK f43 fd43) {f44:Addr} {fd44:LB} (V100:Def K mg "law" dj rM f44 fd44) {f45:Addr} {fd45:LB} (V67:zP K G.Table "Table.__init__" de gI f45 fd45) {f46:Addr} {fd46:LB} (V60:iq K G.Table "deals" "Table.deals" fJ h7 f46 fd46) {f47:Addr} {fd47:LB} (V63:iq K G.Table "word" "Table.word" dP kM f47 fd47) {f48:Addr} {fd48:LB} (V69:iq K G.Table "show" "Table.show" cz vo f48 fd48) {f49:Addr} {fd49:LB} (V56:iq K G.Table "truths" "Table.truths" dF mJ f49 fd49) {f50:Addr} {fd50:LB} (V58:iq K G.Table "again" "Table.again" d2 h7 f50 fd50) {f51:Addr} {fd51:LB} (V61:iq K G.Table "learn" "Table.learn" cF vq f51 fd51) (T:d8 P w K mg G) {t_MOST_CARDS:Tok} (m_MOST_CARDS:mg "MOST_CARDS"=some (.int 12 t_MOST_CARDS)) {t_MOST_HANDS:Tok} (m_MOST_HANDS:mg "MOST_HANDS"=some (.int 5 t_MOST_HANDS)) {t_MOST_DEALS:Tok} (m_MOST_DEALS:mg "MOST_DEALS"=some (.int 2000 t_MOST_DEALS)) {t_MOST_WORDS:Tok} (m_MOST_WORDS:mg "MOST_WORDS"=some (.int 30 t_MOST_WORDS)) (m_set:mg "set"=none):gO P w K mg base CX0 74 f44 fd44 rM (ur K):=by
 have U38:GR P w K mg base 1:=DE V88 B
 have U32:CZ P w K mg base 1:=Bi V82 B
 have U23:Ao P w K mg base 2:=AF V73 B U32
 have U39:GQ P w K mg base 3:=DD V89 B m_MOST_CARDS m_MOST_HANDS U23
 have U33:GS P w K mg base 4:=Bk V83 B U38 U39
 have U1:GT P w K mg base 1:=tZ V51 B
 have U36:C1 P w K mg base 5:=Bl V86 B m_MOST_DEALS U33 U1
 have U34:yP P w K mg base 1:=Bm V84 B
 have U0:yQ P w K mg base 1:=qS V50 B
 have U16:C7 P w K mg base 2:=ym V66 B U34 U0
 have U17:FnI P w K mg base 6 G.Table gI (dn K G):=yr V67 B T U36 U16
 have U8:Dp P w K mg base G 8:=wW V58 B T U17
 have U10:GV P w K mg base G 1:=wV V60 B T
 have U44:C8 P w K mg base 2:=Hb V94 B U0
 have U11:Dq P w K mg base G 3:=wX V61 B T U44
 have U25:C0 P w K mg base 3:=AG V75 B U23
 have U35:Ap P w K mg base 3:=Bj V85 B U23
 have U45:C5 P w K mg base 4:=Jj V95 B U25 U35
 have U37:C2 P w K mg base 5:=DF V87 B T U45
 have U31:C6 P w K mg base 1:=Bn V81 B T
 have U5:C3 P w K mg base 2:=vW V55 B U31
 have U30:C4 P w K mg base 6:=AH V79 B m_MOST_WORDS U32 U37 U5
 have U46:yS P w K mg base 1:=Jl V96 B
 have U40:Db P w K mg base 1:=Fs V90 B
 have U41:yR P w K mg base 1:=Fr V91 B
 have U47:C9 P w K mg base 2:=Jk V97 B U41
 have U42:Da P w K mg base 3:=Fq V92 B U41 U47
 have U43:vO P w K mg base 1:=Hc V93 B
 have U3:Dc P w K mg base 2:=vX V53 B U46 U43
 have U48:De P w K mg base 2:=Jm V98 B U43
 have U27:Hx P w K mg base 39:=qT V77 B U46 U34 U40 U42 U43 U3 U48 35
 have U6:GW P w K mg base G 40:=v2 V56 B T U30 U27
 have U2:yT P w K mg base 1:=t0 V52 B
 have U13:Aq P w K mg base G 41:=yt V63 B T U11 U6 U25 U2
 have U14:Dn P w K mg base 1:=yq V64 B
 have U7:Do P w K mg base 1:=vZ V57 B
 have U29:oN P w K mg base 1:=AJ V80 B
 have U12:yU P w K mg base 1:=yp V62 B
 have U22:Dk P w K mg base 2:=AL V72 B U29
 have U18:Hw P w K mg base 71:=pO V68 B 70
 have U9:yV P w K mg base 72:=wU V59 B U29 U12 U22 U18
 have U21:Dl P w K mg base 73:=AM V71 B U29 U12 U9
 have U24:Df P w K mg base 4:=AI V74 B U35
 have U20:Dg P w K mg base 1:=yn V70 B
 have U19:GU P w K mg base G 5:=yu V69 B T m_set U11 U24 U35 U20 U2
 have U26:Dm P w K mg base G 42:=AN V76 B T U19 U13
 have U4:Dh P w K mg base 1:=vY V54 B
 have U15:Di P w K mg base 2:=yo V65 B U4
 have U28:Dj P w K mg base 3:=AK V78 B U29 U15
 have U49:GP P w K mg base G 42:=Ji V99 B T U8 U13
 exact Km V100 B T U8 U10 U17 U13 U14 U7 U29 U21 U26 U28 U9 U36 U49
end
@[elab_as_elim] theorem ofLen1 {α:Type} {P:List α->Prop} (us:List α) (hl:us.length=1) (h:∀ a0:α,P [a0]):P us:=match us,hl with | [a0],_=>h a0
@[elab_as_elim] theorem ofLen2 {α:Type} {P:List α->Prop} (us:List α) (hl:us.length=2) (h:∀ a0 a1:α,P [a0,a1]):P us:=match us,hl with | [a0,a1],_=>h a0 a1
@[elab_as_elim] theorem ofLen3 {α:Type} {P:List α->Prop} (us:List α) (hl:us.length=3) (h:∀ a0 a1 a2:α,P [a0,a1,a2]):P us:=match us,hl with | [a0,a1,a2],_=>h a0 a1 a2
@[elab_as_elim] theorem ofLen4 {α:Type} {P:List α->Prop} (us:List α) (hl:us.length=4) (h:∀ a0 a1 a2 a3:α,P [a0,a1,a2,a3]):P us:=match us,hl with | [a0,a1,a2,a3],_=>h a0 a1 a2 a3
@[elab_as_elim] theorem ofLen5 {α:Type} {P:List α->Prop} (us:List α) (hl:us.length=5) (h:∀ a0 a1 a2 a3 a4:α,P [a0,a1,a2,a3,a4]):P us:=match us,hl with | [a0,a1,a2,a3,a4],_=>h a0 a1 a2 a3 a4
local macro_rules | `(tactic| walk_at "b1")=>`(tactic| exact fun _ _ _ _ _ _ us hl=>ofLen1 us hl fun _=>rfl)
local macro_rules | `(tactic| walk_at "b2")=>`(tactic| exact fun _ _ _ _ _ _ us hl=>ofLen2 us hl fun _ _=>rfl)
local macro_rules | `(tactic| walk_at "b3")=>`(tactic| exact fun _ _ _ _ _ _ us hl=>ofLen3 us hl fun _ _ _=>rfl)
local macro_rules | `(tactic| walk_at "b4")=>`(tactic| exact fun _ _ _ _ _ _ us hl=>ofLen4 us hl fun _ _ _ _=>rfl)
local macro_rules | `(tactic| walk_at "b5")=>`(tactic| exact fun _ _ _ _ _ _ us hl=>ofLen5 us hl fun _ _ _ _ _=>rfl)
theorem all_mk {l:W.OpenLaw} {w:World} {K:Fg} {h:Heap} {mg:Str->Option Value} {fa:Addr} (X:K.In h) (G:h.Ns LO mg) (hfa:mg "law"=some (.ref fa))
  {t_MOST_CARDS:Tok}  {t_MOST_HANDS:Tok}  {t_MOST_DEALS:Tok}  {t_MOST_WORDS:Tok}   {aF fm1 fm2 fm3 fm4 fm5 fm6 fm7 fm8:Addr} {tk1 tk2 tk3 tk4 tk5 tk6 tk7 tk8 tu1 tu2 tu3 tu4 tu5 tu6 tu7 tu8 tu9 tu10 tu11 tu12 tu13 tu14:Tok} {epF tn1 tn2 tn3 tn4 tn5 tn6 tn7 tn8:Nat} {to1 to2 to3 to4 to5 to6 to7 to8:Option Addr} {ts1 ts2 ts3 ts4 ts5 ts6 ts7 ts8:Array (Option Value)} {aT:Addr}
  (q1:DfA K "play" fD)
  (q2:DfA K "is_whole" i6)
  (q3:DfA K "is_within" eJ)
  (q4:DfA K "is_below" gJ)
  (q5:DfA K "are_hands" dD)
  (q6:DfA K "is_pack" gk)
  (q7:DfA K "how_many" dy)
  (q8:DfA K "choices" fh)
  (q9:DfA K "deals_of" d9)
  (q10:DfA K "with_one_more" bE)
  (q11:DfA K "cards_of" gK)
  (q12:DfA K "is_saying" cr)
  (q13:DfA K "is_word" gn)
  (q14:DfA K "fits" j7)
  (q15:DfA K "parts_of" fA)
  (q16:DfA K "parts_of_all" cM)
  (q17:DfA K "first_view" fb)
  (q18:DfA K "split" kT)
  (q19:DfA K "least_with_same" bA)
  (q20:DfA K "joined" dL)
  (q21:DfA K "link" i9)
  (q22:DfA K "end_of" iu)
  (q23:DfA K "truths_of" bF)
  (q24:DfA K "both" lL)
  (q25:DfA K "either" iw)
  (q26:DfA K "known" fN)
  (q27:DfA K "known_to_all" cp)
  (q28:DfA K "seen" lO)
  (q29:DfA K "refuse_unless" eh)
  (q30:DfA K "are_cards" fO)
  (q31:DfA K "least_held" db)
  (q32:DfA K "_law_cell" eM)
  (q33:DfA K "_law_product" cN)
  (q34:DfA K "_law_count" dc)
  (q35:DfA K "_law_pack" cu)
  (q36:DfA K "_law_words" dM)
  (q37:DfA K "_law_group" ff)
  (q38:DfA K "_law_pool" ca)
  (q39:DfA K "_law_saying" bh)
  (q40:DfA K "_law_deed" cb)
  (q41:DfA K "_law_done" fP)
  (q42:DfA K "_law_alike" dO)
  (q43:DfA K "_law_between" cP)
  (q44:DfA K "law" dj)
  (q45:MtA K aT "__init__" "Table.__init__" de)
  (q46:MtA K aT "deals" "Table.deals" fJ)
  (q47:MtA K aT "word" "Table.word" dP)
  (q48:MtA K aT "show" "Table.show" cz)
  (q49:MtA K aT "truths" "Table.truths" dF)
  (q50:MtA K aT "again" "Table.again" d2)
  (q51:MtA K aT "learn" "Table.learn" cF)
  (y1:Nr K LO "MOST_CARDS"=some (some (.int 12 t_MOST_CARDS)))
  (y2:Nr K LO "MOST_HANDS"=some (some (.int 5 t_MOST_HANDS)))
  (y3:Nr K LO "MOST_DEALS"=some (some (.int 2000 t_MOST_DEALS)))
  (y4:Nr K LO "MOST_WORDS"=some (some (.int 30 t_MOST_WORDS)))
  (y5:Nr K LO "set"=some none)
  (x1:Nr K LO "FORMS"=some (some (.ref aF)))
  (x2:K.lookup aF=some ⟨.type "dict",none,.dict #[⟨Mq w.params "holds",.str "holds" tk1,.ref fm1⟩,⟨Mq w.params "not",.str "not" tk2,.ref fm2⟩,⟨Mq w.params "and",.str "and" tk3,.ref fm3⟩,⟨Mq w.params "or",.str "or" tk4,.ref fm4⟩,⟨Mq w.params "knows",.str "knows" tk5,.ref fm5⟩,⟨Mq w.params "all",.str "all" tk6,.ref fm6⟩,⟨Mq w.params "common",.str "common" tk7,.ref fm7⟩,⟨Mq w.params "sees",.str "sees" tk8,.ref fm8⟩] epF,#[]⟩)
  (x3:K.lookup fm1=some ⟨.type "tuple",to1,.seq #[.str "holder" tu1,.str "card" tu2] tn1,ts1⟩)
  (x4:K.lookup fm2=some ⟨.type "tuple",to2,.seq #[.str "saying" tu3] tn2,ts2⟩)
  (x5:K.lookup fm3=some ⟨.type "tuple",to3,.seq #[.str "saying" tu4,.str "saying" tu5] tn3,ts3⟩)
  (x6:K.lookup fm4=some ⟨.type "tuple",to4,.seq #[.str "saying" tu6,.str "saying" tu7] tn4,ts4⟩)
  (x7:K.lookup fm5=some ⟨.type "tuple",to5,.seq #[.str "hand" tu8,.str "saying" tu9] tn5,ts5⟩)
  (x8:K.lookup fm6=some ⟨.type "tuple",to6,.seq #[.str "hands" tu10,.str "saying" tu11] tn6,ts6⟩)
  (x9:K.lookup fm7=some ⟨.type "tuple",to7,.seq #[.str "hands" tu12,.str "saying" tu13] tn7,ts7⟩)
  (x10:K.lookup fm8=some ⟨.type "tuple",to8,.seq #[.str "hand" tu14] tn8,ts8⟩)
  (x11:(aF == Na)=false)
  (x12:Nr K LO "Table"=some (some (.ref aT)))
  (x13:W.plainGet K aT Ut=true)
  (x14:W.hasDictIn K aT=true)
  (x15:W.plainOver K aT=true)
  (x16:Qn K (.ref aT) "__setattr__"=some (some (.builtin "object.__setattr__")))
  (x17:W.makesIn K aT=true)
  (x18:W.keepIn K (.ref aT)=true)
  (x19:Qn K (.ref aT) "dealt"=some none)
  (x20:Qn K (.ref aT) "cards"=some none)
  (x21:Qn K (.ref aT) "sizes"=some none)
  (x22:Qn K (.ref aT) "hands"=some none)
  (x23:Qn K (.ref aT) "views"=some none)
  (x24:Qn K (.ref aT) "deeds"=some none)
  (z1:Nr K LO "len"=some none) (z2:Nr K LO "range"=some none) (z3:Nr K LO "tuple"=some none) (z4:Nr K LO "list"=some none) (z5:Nr K LO "int"=some none) (z6:Nr K LO "bool"=some none) (z7:Nr K LO "str"=some none) (z8:Nr K LO "dict"=some none) (z9:Nr K LO "sum"=some none) (z10:Nr K LO "all"=some none) (z11:Nr K LO "min"=some none) (z12:Nr K LO "max"=some none) (z13:Nr K LO "sorted"=some none) (z14:Nr K LO "enumerate"=some none) (z15:Nr K LO "zip"=some none) (z16:Nr K LO "isinstance"=some none):
  ∃ fd:LB,(∀ (s:Shared) (v:Value),BindsTo s fd ⟨[v],[]⟩ [("_law_script",v)])/\∀ base:Heap,K.In base->base.Ns LO mg->gO l.prog w K mg base CX0 74 fa fd rM (ur K):=by
 have B:Blt mg:=⟨MA X G z1,MA X G z2,MA X G z3,MA X G z4,MA X G z5,MA X G z6,MA X G z7,MA X G z8,MA X G z9,MA X G z10,MA X G z11,MA X G z12,MA X G z13,MA X G z14,MA X G z15,MA X G z16⟩
 obtain ⟨_,_,D1⟩:=q1.df (ps:=vt) X G (by walk_at "b3")
 obtain ⟨_,_,D2⟩:=q2.df (ps:=oM) X G (by walk_at "b1")
 obtain ⟨_,_,D3⟩:=q3.df (ps:=kK) X G (by walk_at "b3")
 obtain ⟨_,_,D4⟩:=q4.df (ps:=mE) X G (by walk_at "b2")
 obtain ⟨_,_,D5⟩:=q5.df (ps:=vF) X G (by walk_at "b2")
 obtain ⟨_,_,D6⟩:=q6.df (ps:=fz) X G (by walk_at "b2")
 obtain ⟨_,_,D7⟩:=q7.df (ps:=fz) X G (by walk_at "b2")
 obtain ⟨_,_,D8⟩:=q8.df (ps:=vH) X G (by walk_at "b2")
 obtain ⟨_,_,D9⟩:=q9.df (ps:=fz) X G (by walk_at "b2")
 obtain ⟨_,_,D10⟩:=q10.df (ps:=vI) X G (by walk_at "b2")
 obtain ⟨_,_,D11⟩:=q11.df (ps:=mH) X G (by walk_at "b2")
 obtain ⟨_,_,D12⟩:=q12.df (ps:=jS) X G (by walk_at "b3")
 obtain ⟨_,_,D13⟩:=q13.df (ps:=jS) X G (by walk_at "b3")
 obtain ⟨_,_,D14⟩:=q14.df (ps:=jR) X G (by walk_at "b4")
 obtain ⟨_,_,D15⟩:=q15.df (ps:=vN) X G (by walk_at "b1")
 obtain ⟨_,_,D16⟩:=q16.df (ps:=vM) X G (by walk_at "b1")
 obtain ⟨_,_,D17⟩:=q17.df (ps:=mG) X G (by walk_at "b2")
 obtain ⟨_,_,D18⟩:=q18.df (ps:=mI) X G (by walk_at "b2")
 obtain ⟨_,_,D19⟩:=q19.df (ps:=["marks"]) X G (by walk_at "b1")
 obtain ⟨_,_,D20⟩:=q20.df (ps:=vJ) X G (by walk_at "b2")
 obtain ⟨_,_,D21⟩:=q21.df (ps:=vy) X G (by walk_at "b3")
 obtain ⟨_,_,D22⟩:=q22.df (ps:=vE) X G (by walk_at "b2")
 obtain ⟨_,_,D23⟩:=q23.df (ps:=rH) X G (by walk_at "b3")
 obtain ⟨_,_,D24⟩:=q24.df (ps:=dU) X G (by walk_at "b2")
 obtain ⟨_,_,D25⟩:=q25.df (ps:=dU) X G (by walk_at "b2")
 obtain ⟨_,_,D26⟩:=q26.df (ps:=vD) X G (by walk_at "b2")
 obtain ⟨_,_,D27⟩:=q27.df (ps:=vG) X G (by walk_at "b2")
 obtain ⟨_,_,D28⟩:=q28.df (ps:=kN) X G (by walk_at "b2")
 obtain ⟨_,_,D29⟩:=q29.df (ps:=oK) X G (by walk_at "b2")
 obtain ⟨_,_,D30⟩:=q30.df (ps:=mF) X G (by walk_at "b2")
 obtain ⟨_,_,D31⟩:=q31.df (ps:=oJ) X G (by walk_at "b3")
 obtain ⟨_,_,D32⟩:=q32.df (ps:=vi) X G (by walk_at "b2")
 obtain ⟨_,_,D33⟩:=q33.df (ps:=vL) X G (by walk_at "b1")
 obtain ⟨_,_,D34⟩:=q34.df (ps:=vv) X G (by walk_at "b2")
 obtain ⟨_,_,D35⟩:=q35.df (ps:=vk) X G (by walk_at "b3")
 obtain ⟨_,_,D36⟩:=q36.df (ps:=rJ) X G (by walk_at "b1")
 obtain ⟨_,_,D37⟩:=q37.df (ps:=mC) X G (by walk_at "b2")
 obtain ⟨_,_,D38⟩:=q38.df (ps:=mV) X G (by walk_at "b4")
 obtain ⟨_,_,D39⟩:=q39.df (ps:=An) X G (by walk_at "b5")
 obtain ⟨_,_,D40⟩:=q40.df (ps:=mV) X G (by walk_at "b4")
 obtain ⟨_,_,D41⟩:=q41.df (ps:=mD) X G (by walk_at "b2")
 obtain ⟨_,_,D42⟩:=q42.df (ps:=kL) X G (by walk_at "b2")
 obtain ⟨_,_,D43⟩:=q43.df (ps:=vK) X G (by walk_at "b1")
 obtain ⟨fd,D44,hb⟩:=q44.law X G (by walk_at "b1") hfa fun _ _ _ _ _ _ _ _=>.of_eq rfl
 obtain ⟨_,_,D45⟩:=q45.di (ps:=gI) x17 x18 (by walk_at "b3")
 obtain ⟨_,_,D46⟩:=q46.df (ps:=h7) (by walk_at "b1")
 obtain ⟨_,_,D47⟩:=q47.df (ps:=kM) (by walk_at "b3")
 obtain ⟨_,_,D48⟩:=q48.df (ps:=vo) (by walk_at "b4")
 obtain ⟨_,_,D49⟩:=q49.df (ps:=mJ) (by walk_at "b2")
 obtain ⟨_,_,D50⟩:=q50.df (ps:=h7) (by walk_at "b1")
 obtain ⟨_,_,D51⟩:=q51.df (ps:=vq) (by walk_at "b3")
 refine ⟨fd,hb,fun base _ _=>?_⟩
 have T:d8 l.prog w K mg _:=Gj (IG (aC:=0) x11 (RZ X G x1) x2 x3 x4 x5 x6 x7 x8 x9 x10) (RZ X G x12) x13 x14 x15 x16 x19 x20 x21 x22 x23 x24
 exact KR B D1 D2 D3 D4 D5 D6 D7 D8 D9 D10 D11 D12 D13 D14 D15 D16 D17 D18 D19 D20 D21 D22 D23 D24 D25 D26 D27 D28 D29 D30 D31 D32 D33 D34 D35 D36 D37 D38 D39 D40 D41 D42 D43 D44 D45 D46 D47 D48 D49 D50 D51 T (RZ X G y1) (RZ X G y2) (RZ X G y3) (RZ X G y4) (MA X G y5)
end Kc_k43
local macro_rules | `(tactic| walk_at "q1")=>`(tactic| exact ⟨_,by k_is,_,_,_,_,_,_,_,_,_,by k_is,by k_is,by k_is⟩)
local macro_rules | `(tactic| walk_at "q2")=>`(tactic| exact ⟨_,by k_is,by k_is,_,_,_,_,_,_,_,_,_,by k_is,by k_is,by k_is⟩)
noncomputable def PySem.W.Fast.tw16701288880724660435 : PySem.Program := PySem.Challenge.pw_knowcards_k43_whole_plays_go_on
theorem PySem.W.Fast.te16701288880724660435 : PySem.Challenge.pw_knowcards_k43_whole_plays_go_on = PySem.W.Fast.tw16701288880724660435 := rfl
noncomputable def PySem.W.Fast.tw10963987709103200444 : PySem.Params → PySem.W.Frag := fun _ => []
theorem PySem.W.Fast.te10963987709103200444 : (fun _ => [] : PySem.Params → PySem.W.Frag) = PySem.W.Fast.tw10963987709103200444 := rfl
noncomputable def PySem.W.Fast.tw14660875568455107905 : PySem.Program := PySem.Challenge.pw_knowcards_k43_whole_plays_go_on
theorem PySem.W.Fast.te14660875568455107905 : PySem.Challenge.pw_knowcards_k43_whole_plays_go_on = PySem.W.Fast.tw14660875568455107905 := rfl
noncomputable def PySem.W.Fast.tw5047733676706661231 : PySem.Params → PySem.Obj := fun _ => default
theorem PySem.W.Fast.te5047733676706661231 : (fun _ => default : PySem.Params → PySem.Obj) = PySem.W.Fast.tw5047733676706661231 := rfl
open PySem PySem.W PyProof.Rows
set_option maxRecDepth 100000 in
set_option maxHeartbeats 0 in
theorem PySem.Challenge.cw_knowcards_k43_whole_plays_go_on_holds : PySem.Challenge.rw_knowcards_k43_whole_plays_go_on.Holds := by
 w_on; o_law; k_head; (case hw=>w_witness2)
 k_fill
 refine L2.FK (l:=PySem.Challenge.rw_knowcards_k43_whole_plays_go_on) (k:=74) (x:="_law_script") rfl rfl ⟨rfl,by decide,by decide⟩ (fun w h Y=>PySem.W.kIn_of Y) ?F
 case F=>
  intro w mg fa h KX G hmg
  refine' Kc_k43.all_mk KX G hmg ?q1 ?q2 ?q3 ?q4 ?q5 ?q6 ?q7 ?q8 ?q9 ?q10 ?q11 ?q12 ?q13 ?q14 ?q15 ?q16 ?q17 ?q18 ?q19 ?q20 ?q21 ?q22 ?q23 ?q24 ?q25 ?q26 ?q27 ?q28 ?q29 ?q30 ?q31 ?q32 ?q33 ?q34 ?q35 ?q36 ?q37 ?q38 ?q39 ?q40 ?q41 ?q42 ?q43 ?q44 ?q45 ?q46 ?q47 ?q48 ?q49 ?q50 ?q51 ?y1 ?y2 ?y3 ?y4 ?y5 ?x1 ?x2 ?x3 ?x4 ?x5 ?x6 ?x7 ?x8 ?x9 ?x10 ?x11 ?x12 ?x13 ?x14 ?x15 ?x16 ?x17 ?x18 ?x19 ?x20 ?x21 ?x22 ?x23 ?x24 ?z1 ?z2 ?z3 ?z4 ?z5 ?z6 ?z7 ?z8 ?z9 ?z10 ?z11 ?z12 ?z13 ?z14 ?z15 ?z16
  (case q1=>walk_at "q1")
  (case q2=>walk_at "q1")
  (case q3=>walk_at "q1")
  (case q4=>walk_at "q1")
  (case q5=>walk_at "q1")
  (case q6=>walk_at "q1")
  (case q7=>walk_at "q1")
  (case q8=>walk_at "q1")
  (case q9=>walk_at "q1")
  (case q10=>walk_at "q1")
  (case q11=>walk_at "q1")
  (case q12=>walk_at "q1")
  (case q13=>walk_at "q1")
  (case q14=>walk_at "q1")
  (case q15=>walk_at "q1")
  (case q16=>walk_at "q1")
  (case q17=>walk_at "q1")
  (case q18=>walk_at "q1")
  (case q19=>walk_at "q1")
  (case q20=>walk_at "q1")
  (case q21=>walk_at "q1")
  (case q22=>walk_at "q1")
  (case q23=>walk_at "q1")
  (case q24=>walk_at "q1")
  (case q25=>walk_at "q1")
  (case q26=>walk_at "q1")
  (case q27=>walk_at "q1")
  (case q28=>walk_at "q1")
  (case q29=>walk_at "q1")
  (case q30=>walk_at "q1")
  (case q31=>walk_at "q1")
  (case q32=>walk_at "q1")
  (case q33=>walk_at "q1")
  (case q34=>walk_at "q1")
  (case q35=>walk_at "q1")
  (case q36=>walk_at "q1")
  (case q37=>walk_at "q1")
  (case q38=>walk_at "q1")
  (case q39=>walk_at "q1")
  (case q40=>walk_at "q1")
  (case q41=>walk_at "q1")
  (case q42=>walk_at "q1")
  (case q43=>walk_at "q1")
  (case q44=>walk_at "q1")
  (case y1=>k_is)
  (case y2=>k_is)
  (case y3=>k_is)
  (case y4=>k_is)
  (case y5=>k_is)
  (case x1=>k_is)
  (case x2=>k_is)
  (case x3=>k_is)
  (case x4=>k_is)
  (case x5=>k_is)
  (case x6=>k_is)
  (case x7=>k_is)
  (case x8=>k_is)
  (case x9=>k_is)
  (case x10=>k_is)
  (case x11=>rfl)
  (case x12=>k_is)
  (case x13=>k_is)
  (case x14=>k_is)
  (case x15=>k_is)
  (case x16=>k_is)
  (case x17=>k_is)
  (case x18=>k_is)
  (case x19=>k_is)
  (case x20=>k_is)
  (case x21=>k_is)
  (case x22=>k_is)
  (case x23=>k_is)
  (case x24=>k_is)
  (case q45=>walk_at "q2")
  (case q46=>walk_at "q2")
  (case q47=>walk_at "q2")
  (case q48=>walk_at "q2")
  (case q49=>walk_at "q2")
  (case q50=>walk_at "q2")
  (case q51=>walk_at "q2")
  (case z1=>k_is); (case z2=>k_is); (case z3=>k_is); (case z4=>k_is); (case z5=>k_is); (case z6=>k_is); (case z7=>k_is); (case z8=>k_is); (case z9=>k_is); (case z10=>k_is); (case z11=>k_is); (case z12=>k_is); (case z13=>k_is); (case z14=>k_is); (case z15=>k_is); (case z16=>k_is)
