import PyProof.Rows.All
import Wide.All
import OpenK.AllK
import Wide.FinOn
import Lean
import PyProof.EqAt
import PyProof.EqKinds
import PyProof.TupleCall
import PyProof.NeKinds
import PyProof.SumWalkG
import PyProof.ConsumeWalk
import KE.IntBitsLaws
import PyProof.ZipIter
import KE.KTryMore
import PyProof.ExcArgsOwn
import KE.KDictLaws
import KE.KEqDict
import PyProof.Rows.EqDataRows
import PyProof.SetScanFacts
import PyProof.SetKind
import PyProof.Rows.SetFrom
import KE.KDictSum
import PyProof.ListMulRoad
import PyProof.Rows.CallKwBuiltin
import PyProof.Rows.SeqMore
import PyProof.WalkInts
import KE.KMinBuiltin
import KE.KRevSl
import PyProof.Rows.SortShell
import PyProof.DictWalks
import PyProof.ListRange
import KE.KItemsList
import PyProof.Rows.Range3
import PyProof.TupleOfGen
import PyProof.TupleOfSeq
import KE.KRevIter
import PyProof.RulesTry
import PySem.Challenge.RW_knowcards_k38_whole_open_words_are_commo
set_option Elab.async false
set_option linter.all false
set_option maxRecDepth 100000
set_option maxHeartbeats 4000000
set_option compiler.extract_closed false
open Array renaming append_assoc → S5, forIn_toList → OX, getD → SE, getElem?_eq_getElem → NK, getElem?_eq_none → PU, getElem?_toList → Ow, length_toList → Mr, toList_push → Rf
open Bool renaming and_eq_true → M7, and_false → QB, beq_eq_decide_eq → P7, eq_iff_iff → Qe, false_and → Qz, false_eq_true → MR, false_ne_true → LM, not_true → Pg, true_and → PX
open Classical renaming propDecidable → NW
open False renaming elim → NH
open ForInStep renaming yield → OW
open Iff renaming rfl → UI
open Int renaming emod_lt_of_pos → MS, emod_nonneg → M4, le_antisymm → UF, natCast_ediv → Ug, natCast_mul → RQ, toNat_natCast → OC, zero_add → Ry
open List renaming Perm → M9, all_cons → Pf, all_eq_true → Ua, all_map → Qk, any_cons → SM, append_assoc → Q9, append_nil → Oa, cons_append → Ud, countP_cons → Uc, count_append → Rb, count_cons → UE, drop_eq_getElem_cons → Rh, ext_getElem? → Od, filterMap_cons → Pj, filter_append → QS, filter_cons → NR, filter_cons_of_neg → Pz, filter_cons_of_pos → Py, find?_cons → Mu, findIdx?_eq_none_iff → Pl, findIdx?_eq_some_iff_getElem → N1, flatMap_append → Qy, flatMap_cons → Rc, flatten_cons → PD, foldl → Uu, foldl_append → PJ, foldl_cons → Uv, forIn_cons → Ou, forIn_nil → O6, getD_eq_getElem?_getD → LV, getElem?_append_left → OF, getElem?_append_right → Pe, getElem?_eq_getElem → Lz, getElem?_eq_none → Mn, getElem?_eq_some_iff → LD, getElem?_map → LS, getElem?_of_mem → SB, getElem?_range → M8, getElem?_set → OE, getElem?_set_ne → Sm, getElem?_set_self → RW, getElem?_take_of_lt → Rp, getElem?_toArray → Sh, getElem?_zip_eq_some → OH, getElem_mem → Oi, getElem_range → QT, idxOf_append → Tx, idxOf_cons → Uz, idxOf_lt_length_of_mem → QQ, length_append → LY, length_cons → Mh, length_drop → P0, length_eq_zero_iff → OU, length_eraseIdx_of_lt → Q4, length_filter_le → Sb, length_map → LF, length_nil → UA, length_pos_iff → Qx, length_range → Nb, length_reverse → SY, length_set → NI, length_singleton → R8, length_take → M6, length_zip → M5, lookup → OZ, lookup_cons → MY, map_append → Ma, map_congr_left → Nq, map_cons → LZ, map_map → Oq, map_nil → O5, mem_append → Mm, mem_append_left → Nx, mem_append_right → MA, mem_cons → LA, mem_cons_of_mem → LJ, mem_cons_self → LG, mem_filter → N9, mem_filterMap → QK, mem_flatMap → Ue, mem_iff_getElem → Qs, mem_iff_getElem? → P9, mem_map → NC, mem_map_of_mem → SX, mem_of_getElem? → LU, mem_of_mem_take → SC, mem_range → Nf, mem_singleton → LB, nodup_append → TB, nodup_cons → Nv, not_mem_nil → Mq, of_mem_zip → RL, pairwise_append → Qr, pairwise_cons → QU, pairwise_iff_getElem → OI, pairwise_lt_range → Om, pairwise_singleton → PB, range → LO, range_succ → OY, range_succ_eq_map → R3, replicate → Mv, replicate_succ → OS, replicate_succ' → Pc, set_cons_succ → NQ, set_cons_zero → NP, size_toArray → LQ, sum_append → Ni, sum_cons → Mg, sum_nil → O8, take_add_one → Nr, take_append_drop → Ov, take_length → Mw, take_of_length_le → PQ, zipIdx_cons → P4, zipIdx_nil → Ql, zip_cons_cons → Nl, zip_nil_left → NZ
open Nat renaming add_assoc → Q0, add_le_add_right → SA, add_mul → T2, eq_of_mul_eq_mul_right → Q1, eq_zero_or_pos → Pq, le_add_right → MM, le_of_ble_eq_true → N7, le_of_eq → Qf, le_of_lt → ML, le_of_not_lt → Rt, le_refl → LC, le_succ → OK, le_trans → Me, lt_irrefl → Nz, lt_of_le_of_lt → OV, lt_of_lt_of_le → L8, lt_or_eq_of_le → Pr, lt_or_ge → Tp, lt_succ_of_lt → Na, lt_succ_self → Nm, lt_trichotomy → Re, min_eq_left → UG, min_le_right → Rr, min_self → Oo, mul_assoc → NB, mul_comm → NN, mul_left_comm → Oe, mul_pos → TZ, ne_of_gt → NA, ne_of_lt → Ml, not_le → Qu, not_lt → Rj, not_lt_zero → Qq, one_mul → T1, sub_self → RA, sub_zero → To, succ_le_succ → Uj, succ_pos → Tn, zero_le → MJ
open Ne renaming symm → Mz
open Option renaming getD_none → T8, isSome_iff_exists → Ro, map_eq_some_iff → PR, map_some → Qn, some → L7
open Option.some renaming inj → LR
open Or renaming inl → LL, inr → Pp
open PyProof.Rows renaming Subscript_ → Us, boot_all → Uk, boot_isinstance → N0, boot_list → OM, boot_max → Ul, boot_range → Up, boot_sum → SG, boot_tuple → Qv, callWith_builtin1 → Qg, callWith_type1 → MI, slot_tuple_getitem → OT, subscriptTail → SK, subscriptTail_builtinR → RZ
open PyProof.Rows.F renaming entry_set_update_loop → RG, plain_set_update_loop → PC
open PySem renaming DictEntry → S8, FuncData → LX, GenState → Sl, IntMulOk → Oz, IsTupleKey → UC, NameKind → My, PassesOwn → MC, SetTable → L6, Within → Rn, assignEach → Qc, atKey_none_of_get → PK, attributeBase → Pd, backToKw → PZ, behindInMarks → QX, beq_builtin_none → Rz, binaryOp → Oy, bootBuiltins → Pm, boot_len → N4, builtinLookup_eq_fast → O9, builtinsNs → Um, callSpecialIfBoundUnlessNone? → O2, callType_new → Rv, callWith → T7, call_meets → Qj, cellsFrom → UL, checkBuiltinCall → RB, closureFor → Sv, codeAny_builtin → Nw, codeAny_mono → OO, codeAny_of_tree → RS, compEnvC → Sw, compareOp → N5, concat_meets → Te, dictSetDefault → QE, eqBool → Tj, eqIsQuiet → RP, eqIsQuiet_byValue → Tz, fastBuiltinMro → R9, fits_of_scanBound → TJ, foldedSetIterable → Q6, getMethod → QL, intBits_le_64 → QW, intBits_le_64 → SW, intBits_mul_le → Sd, isInstance → UD, isSubtype_stop → O7, isSubtype_tuple_tuple → P8, isSubtype_type → Sg, keywordEach → O0, letOwnedTupleGo → Qd, mainGlobals → Mi, mem_of_lookup → MW, newTuple → T9, noFill_tuple_add → Rq, pickOrder → Pu, plainId_quiet → Og, rangeSize_one → SI, reduceHash → UB, relayAll → QG, scanBound → Pt, seqIndex_neg → Tf, seqIndex_of → TX, seq_tuple_add → SJ, setEntries → Rl, signature?_of → SO, sizeLine → LN, sizeLine_eq → LI, sliceBounds → Pi, slot_list_getitem → Tv, small_one → UJ, starEach → L5, storedH_new → T3, subscripted → RY, swapsWith → S6, sysModules → NG, typeIs_int → Ut, typeLookup → So, typeLookup_type → Qt, updateSeq → Qa, wpAny_Call_Name_kw → N6, wpAny_Call_method_late → PM, wpAny_Dict_empty → Ui, wpAny_List_spliced → Td, wpAny_Name → Uo, wpAny_Tuple_spliced → SQ, wpAny_askSetting → RC, wpAny_assign_Name → Tr, wpAny_attempt → N3, wpAny_bind → Lw, wpAny_call → Ur, wpAny_callSpecial?_slot → Mx, wpAny_callSpecialIfBoundUnlessNone?_slot → Ob, wpAny_call_entry → Mp, wpAny_comprehension_free → Ru, wpAny_execs_cons → T5, wpAny_execs_nil → Qb, wpAny_field → Mt, wpAny_fieldsOf → QH, wpAny_forIn_list → P5, wpAny_getItem_of → Uh, wpAny_handled → SL, wpAny_holding → MX, wpAny_isInstance → Ny, wpAny_ite_split → RU, wpAny_letGo → OL, wpAny_letOwnedTupleGo_zip → Rg, wpAny_load → Sn, wpAny_mono → Nh, wpAny_newObj_type → MF, wpAny_newTuple → QD, wpAny_of_eq → QJ, wpAny_onRaise → N2, wpAny_passesOwn → Ot, wpAny_pure → Ly, wpAny_pyHash_int → T4, wpAny_pyIter_enum → Tw, wpAny_pyIter_list → O3, wpAny_pyIter_revIter → SF, wpAny_pyIter_slot → TL, wpAny_pyIter_tuple → S7, wpAny_pyIter_zip → Pb, wpAny_ret_mkInt → Qo, wpAny_rule → NJ, wpAny_runValue → Sf, wpAny_seqItems → Ms, wpAny_setField → Oh, wpAny_setField_rec → MH, wpAny_setState_of → Nc, wpAny_specialOf → Nk, wpAny_standAt → SH, wpAny_storeSet_of → TH, wpAny_throw → TY, wpAny_truthy_bool → NY, wpAny_tupleItemsOf → QR, wpAny_typeOf → Qh, wpAny_updateSeq → Ox, wpAny_updateSeq_pair → Qm
open PySem.Around renaming under → Ta, under_plainId → M1
open PySem.Builtin.Int renaming intBits → ME
open PySem.Builtin.List renaming listExtendWith → MT, listItems → R5, listLengthHint → Os, listSameRef → OR, listTooLong → OP, listUpdate → RI
open PySem.Builtin.Range renaming rangeSize → Pw, small → SZ
open PySem.Builtin.Slice renaming sliceAdjust → Pk, sliceApplied → QY, slicePlaces → OG
open PySem.Builtin.SmallTypes renaming nextOf → L9, ownedTupleHandOut → NO, ownedTupleIsFree → Mb
open PySem.Builtin.Tuple renaming tupleExact → NM, tupleHashOf → Np, tupleItemsOf → QZ
open PySem.Calls renaming Name_function_global → QV, callWith_builtin → PN, evalArgs_plain → Qi, spliced_cons → QM, spliced_nil → Q8
open PySem.Code renaming isFrame → Tc
open PySem.F renaming args_object_init_2 → Sx, args_object_init_3 → Sz, args_tuple_add_2 → Po, args_tuple_iterator_next_1 → QC, args_zip_next_1 → OD, called_tuple → Sj, called_zip → Ti, entry_extend_loop → Rm, entry_tuple_add → Px, entry_tuple_iterator_next → QO, entry_zip_new → RO, entry_zip_next → OQ, newCall_zip_2 → Uy, plainAttrs_list → Nd, plain_extend_loop → NL, plain_list_iadd → RH, plain_list_iadd → TN, plain_set_new → Se, plain_tuple_new → TQ, slot_NoneType_hash → OB, slot_bool_hash → O1, slot_dict_getitem → Ri, slot_dict_setdefault → QF, slot_int_rmul → Uw, slot_list_append → NS, slot_list_index → RF, slot_set_iter → Si, slot_tuple_add → PL, slot_tuple_count → Rx, slot_tuple_eq → Qp, slot_tuple_hash → PH, slot_tuple_iterator_next → OA, slot_zip_next → Nj, typeCall_zip_2 → Ub, type_list_append → NT
open PySem.Heap renaming ExtBut → Ol, SameBut → LP, get?_push_of_some → Lx, get?_push_size → LH, get?_update_other → Nn, get?_update_self → MB, lt_size → LK, size_push → Mo, size_update → RD
open PySem.Heap.SameBut renaming refl → TK, update → MD
open PySem.NameKind renaming cell → PV, free → Ng
open PySem.Obj renaming cls_mapFields → Ra, data_mapDictKeys → SD, data_mapFields → On, isFreed_of_fields → P6, mapFields → Q3, mapSeq → MV, putSet → Rk
open PySem.Paired renaming length → MN
open PySem.PassesOwn renaming never → Md
open PySem.PyData renaming canLayAll0 → TC, depthAll → UH, keyHash → MP
open PySem.SeqAt renaming EqAt → Mj, RcNeAt → Th
open PySem.SeqAt.EqAt renaming bool_bool → Su, bool_int → SS, bool_none → Ss, int_bool → SV, int_int → Tg, int_none → SU, int_str → S0, none_bool → Sr, none_int → SR, same → RM, str_int → S4
open PySem.SetTable renaming below → Mc, grown → ON
open PySem.SetTable.below renaming go → Of
open PySem.SetTable.probe renaming go → TF
open PySem.Shared renaming TypeIs → Q2, heap → PP
open PySem.Str renaming empty → UK, ofString → Nt
open PySem.Value renaming bool → MO, builtin → SN, float → TV, int → OJ, isInt → RV, isInt_shape → Tq, none → MZ, ref → Mf, str → RJ, type → M0
open PySem.W renaming callWith_K → QN, cellsFrom_some → RX, codeIn → R7, emptyDict → NF, findIn → NV, findIn → QI, fnOf → Pn, handedIn → T6, hasDictIn → Q7, instObj → N8, isFn → S9, keepIn → O4, kia_one → Nu, kitMeta → RN, kitOne → MG, kitx_dict → Tu, kitx_list → Tt, lookIn → QA, makesIn → Uq, methodCall_KW → R6, methodObj → Q5, mg_none_of → MU, mg_of → Sk, nsIn → NU, plainGet → PY, plainGet_of → Qw, plainOver → Ts, takerIn → RK
open PySem.W.WData renaming int → PF, layable → Sa, layableAll → Rw, list → QP, weight → Pa, weightAll → RE
open PySem.Walks renaming list → Ux
open Sum renaming inl → Oc, inr → ND
open Sum.inl renaming inj → TU
open Sum.inr renaming inj → Ph
open True renaming intro → Oj
noncomputable abbrev Fg:=PySem.W.Frag
section
namespace L2
open PySem PySem.Spec PyProof.Rows
noncomputable abbrev Key:=Sum Int Str
noncomputable def rL:Key->Value->Bool
 | .inl k,v=>RV k v
 | .inr x,v=>Value.isStrOf x v
noncomputable def Lh (w:World):Key->Int
 | .inl k=>hashInt k
 | .inr x=>hashStr w x
theorem cY:∀ {k:Key} {v:Value},rL k v=true->(∃ i t,k=Oc i/\v=OJ i t)\/(∃ x t,k=ND x/\v=RJ x t)
 | .inl i,v,h=>by
  obtain ⟨t,e⟩:=Tq (k:=i) (v:=v) h
  exact .inl ⟨i,t,rfl,e⟩
 | .inr x,v,h=>by
  obtain ⟨t,e⟩:=Value.isStrOf_shape (x:=x) (v:=v) h
  exact .inr ⟨x,t,rfl,e⟩
theorem El (i:Int) (t:Tok):rL (.inl i) (.int i t)=true:=by simp [rL,RV]
theorem Em (x:Str) (t:Tok):rL (.inr x) (.str x t)=true:=by simp [rL,Value.isStrOf]
theorem JF (a b:Int):decide ((Oc a:Key)=Oc b)=(a == b):=by
 by_cases e:a=b
 ·subst e; simp
 ·have h:¬ (Oc a:Key)=Oc b:=fun q=>e (TU q)
  rw [decide_eq_false h]
  exact (beq_eq_false_iff_ne.mpr e).symm
theorem JG (a b:Str):decide ((ND a:Key)=ND b)=decide (a=b):=by
 by_cases e:a=b
 ·subst e; simp
 ·have h:¬ (ND a:Key)=ND b:=fun q=>e (Ph q)
  rw [decide_eq_false h,decide_eq_false e]
theorem JH (a:Int) (b:Str):decide ((Oc a:Key)=ND b)=false:=decide_eq_false (fun q=>nomatch q)
theorem JI (a:Str) (b:Int):decide ((ND a:Key)=Oc b)=false:=decide_eq_false (fun q=>nomatch q)
noncomputable def iX (prog:Program) (w:World):PySem.KeyKind prog w Key where
 is:=rL
 hash:=Lh w
 inj:=fun v a b ha hb=>by
  rcases cY ha with ⟨i,t,rfl,rfl⟩ | ⟨x,t,rfl,rfl⟩
  ·rcases cY hb with ⟨j,u,rfl,e⟩ | ⟨y,u,rfl,e⟩
   ·injection e with e1 _; rw [e1]
   ·exact nomatch e
  ·rcases cY hb with ⟨j,u,rfl,e⟩ | ⟨y,u,rfl,e⟩
   ·exact nomatch e
   ·injection e with e1 _; rw [e1]
 byValue:=fun k v h=>by
  rcases cY h with ⟨i,t,rfl,rfl⟩ | ⟨x,t,rfl,rfl⟩ <;> rfl
 pyHash:=fun hv h=>by
  rcases cY hv with ⟨i,t,rfl,rfl⟩ | ⟨x,t,rfl,rfl⟩
  ·exact T4 h
  ·exact wpAny_pyHash_str h
 eqBool:=fun hu hv h=>by
  rcases cY hu with ⟨i,t,rfl,rfl⟩ | ⟨x,t,rfl,rfl⟩
  ·rcases cY hv with ⟨j,u,rfl,rfl⟩ | ⟨y,u,rfl,rfl⟩
   ·rw [JF] at h; exact wpAny_eqBool_int h
   ·rw [JH] at h; exact S0 i t y u _ _ _ _ h
  ·rcases cY hv with ⟨j,u,rfl,rfl⟩ | ⟨y,u,rfl,rfl⟩
   ·rw [JI] at h; exact S4 x t j u _ _ _ _ h
   ·rw [JG] at h; exact wpAny_eqBool_str h
 «strs»:=fun k x t v h=>by
  rcases cY h with ⟨i,u,rfl,e⟩ | ⟨y,u,rfl,e⟩
  ·exact nomatch e
  ·injection e with e1 _
   subst e1
   cases v <;> rfl
theorem Bb (prog:Program) (w:World) (i:Int) (t:Tok):(iX prog w).is (.inl i) (.int i t)=true:=El i t
theorem br (prog:Program) (w:World) (x:Str) (t:Tok):(iX prog w).is (.inr x) (.str x t)=true:=Em x t
end L2
namespace L2
open PySem PySem.Spec PyProof.Rows
inductive V where
 | non | bl (b:Bool) | int (i:Int) | str (x:Str) | byt (b:Array UInt8) | flt (b:UInt64) | ref (a:Addr) | ty (n:String)
 deriving DecidableEq
noncomputable def aH:V->Value->Prop
 | .non,u=>u=MZ
 | .bl b,u=>u=MO b
 | .int i,u=>∃ t,u=OJ i t
 | .str x,u=>∃ t,u=RJ x t
 | .byt b,u=>∃ t,u=Value.bytes b t
 | .flt b,u=>∃ t,u=TV b t
 | .ref a,u=>u=Mf a
 | .ty n,u=>u=M0 n
noncomputable abbrev aG:List V->List Value->Prop:=Paired aH
theorem aG.length {xs:List V} {us:List Value} (r:aG xs us):xs.length=us.length:=MN r
theorem aG.get:∀ {xs:List V} {us:List Value} {i:Nat} {x:V},aG xs us->xs[i]?=some x->∃ u,us[i]?=some u/\aH x u
 | _,_,_,_,.nil,e=>by simp at e
 | _,_,0,_,.cons r _,e=>by simp at e; subst e; exact ⟨_,rfl,r⟩
 | _,_,i + 1,x,.cons _ t,e=>by
  obtain ⟨u,h1,h2⟩:=aG.get (i:=i) (x:=x) t (by simpa using e)
  exact ⟨u,by simpa using h1,h2⟩
theorem aG.set {x:V} {u:Value} (r:aH x u):∀ {xs:List V} {us:List Value} (i:Nat),aG xs us->aG (xs.set i x) (us.set i u)
 | _,_,_,.nil=>.nil
 | _,_,0,.cons _ t=>.cons r t
 | _,_,i + 1,.cons q t=>.cons q (aG.set r i t)
theorem aG.append:∀ {xs ys:List V} {us ws:List Value},aG xs us->aG ys ws->aG (xs++ys) (us++ws)
 | _,_,_,_,.nil,s=>s
 | _,_,_,_,.cons r t,s=>.cons r (aG.append t s)
theorem aG.take:∀ {xs:List V} {us:List Value} (n:Nat),aG xs us->aG (xs.take n) (us.take n)
 | _,_,0,_=>.nil
 | _,_,_ + 1,.nil=>.nil
 | _,_,n + 1,.cons r t=>.cons r (aG.take n t)
theorem aG.drop:∀ {xs:List V} {us:List Value} (n:Nat),aG xs us->aG (xs.drop n) (us.drop n)
 | _,_,0,r=>r
 | _,_,_ + 1,.nil=>.nil
 | _,_,n + 1,.cons _ t=>aG.drop n t
noncomputable def h9:Option V->Option Value->Prop
 | some v,some u=>aH v u
 | none,none=>True
 | _,_=>False
noncomputable def KV {κ:Type}:List (κ×V)->List (κ×Value)->Prop:=Paired fun (p:κ×V) (q:κ×Value)=>p.1=q.1/\aH p.2 q.2
noncomputable def kV:Key->V
 | .inl i=>.int i
 | .inr x=>.str x
inductive HO where
 | lst (xs:List V)
 | tup (xs:List V)
 | dK (kvs:List (Key×V)) | dT (kvs:List (List Key×V))
 | set (S:Int->Bool) (n:Nat)
 | ins (C dx:Addr) (fs:List (Str×V))
 | own (x:Addr)
 | xd (fs:List (Str×V))
 | met (f x:Addr)
 | rng (lo hi:Int)
 | frz (o:Obj) (u:HO)
 | tbl (ps:Array Value)
 | ext (φ:Heap->Prop)
noncomputable abbrev Hp:=Addr->Option HO
noncomputable def upd (H:Hp) (a:Addr) (o:HO):Hp:=fun b=>if b=a then some o else H b
theorem az {H:Hp} {a:Addr} {o:HO}:upd H a o a=some o:=by unfold upd; rw [if_pos rfl]
theorem aO {H:Hp} {a b:Addr} {o:HO} (h:b≠a):upd H a o b=H b:=by unfold upd; rw [if_neg h]
theorem HJ {H:Hp} {a b:Addr} {o u:HO} (h:H a=some o) (h':H b=some u) (d:o≠u):a≠b:=by
 intro e; subst e; rw [h] at h'; exact d (LR h')
theorem aS {H:Hp} {a b:Addr} {o:HO} (h:H a=some o) (h':H b=none):a≠b:=by
 intro e; subst e; rw [h] at h'; cases h'
noncomputable def fi (h:Heap) (a:Addr) (items:Array Value):Prop:=∃ o,h.get? a=some o/\o.cls=.type "tuple"/\(∃ n,o.data=.seq items n)/\o.dict=none
theorem fi.lt {h:Heap} {a:Addr} {items:Array Value} (x:fi h a items):a < h.objs.size:=let ⟨_,e,_⟩:=x; LK e
theorem fi.tup {h:Heap} {a:Addr} {items:Array Value} (x:fi h a items):IsTup h a items:=let ⟨o,e,c,d,_⟩:=x; ⟨o,e,c,d⟩
theorem fi.new (h:Heap) (items:Array Value):fi (h.push { cls:=.type "tuple",data:=.seq items }) h.objs.size items:=⟨_,LH _ rfl,rfl,⟨_,rfl⟩,rfl⟩
section
variable (P:Program) (w:World)
noncomputable def bA (H:Hp) (h:Heap) (a:Addr):HO->Prop
 | .lst xs=>xs.length<=LN/\∃ (its:List Value) (n:Nat),aG xs its/\h.get? a=some { cls:=.type "list",data:=.seq its.toArray n }
 | .tup xs=>xs.length<=LN/\∃ its:List Value,aG xs its/\fi h a its.toArray
 | .dK kvs=>kvs.length<=LN/\(a == NG)=false/\∃ vs,KV kvs vs/\h.DictOf (iX P w) a vs
 | .dT kvs=>kvs.length<=LN/\(a == NG)=false/\∃ xs:List (List Key×Addr×Value),
   Paired (fun (p:List Key×V) (q:List Key×Addr×Value)=>p.1=q.1/\H q.2.1=some (.tup (p.1.map kV))/\aH p.2 q.2.2) kvs xs/\
   ∃ o es ep,h.get? a=some o/\o.ExactDict/\o.data=.dict es ep/\es.toList=xs.map (entryOfKey (tupleKind (iX P w)))/\(xs.map (·.1)).Nodup
 | .set S n=>h.SetOf (intKind P w) a S n
 | .ins C dx fs=>H dx=some (.own a)/\fs.length<=1000/\dx≠a/\h.get? a=some (N8 C dx)/\
   ∃ mA,h.Ns1 dx mA/\(∀ f,h9 (fs.lookup f) (mA f))/\Rn mA (fs.map (·.1))
 | .own _=>∃ o,h.get? a=some o
 | .xd fs=>∃ mA,h.Ns1 a mA/\∀ f,h9 (fs.lookup f) (mA f)
 | .rng lo hi=>∃ t u v,h.get? a=some { cls:=.type "range",data:=.fields #[.int lo t,.int hi u,.int 1 v] }
 | .frz o u=>h.get? a=some o/\bA H h a u
 | .tbl ps=>h.get? a=some { cls:=.none,data:=.fields ps }
 | .met f x=>h.get? a=some (Q5 (.ref f) (.ref x))
 | .ext φ=>φ h/\(∃ o,h.get? a=some o)/\∀ h1 h2:Heap,φ h1->(∀ o,h1.get? a=some o->h2.get? a=some o)->φ h2
noncomputable def HOk (H:Hp) (h:Heap):Prop:=∀ a o,H a=some o->bA P w H h a o
end
section
variable {P:Program} {w:World} {H H':Hp} {h h':Heap} {a:Addr} {o:HO}
theorem bA.lt (x:bA P w H h a o):a < h.objs.size:=by
 cases o with
 | lst xs=>obtain ⟨_,_,_,_,e⟩:=x; exact LK e
 | tup xs=>obtain ⟨_,_,_,p⟩:=x; exact p.lt
 | dK kvs=>obtain ⟨_,_,_,_,o,_,_,e,_⟩:=x; exact LK e
 | dT kvs=>obtain ⟨_,_,_,_,o,_,_,e,_⟩:=x; exact LK e
 | set S n=>obtain ⟨o,_,_,_,e,_⟩:=x; exact LK e
 | ins C dx fs=>obtain ⟨_,_,_,e,_⟩:=x; exact LK e
 | own y=>obtain ⟨_,e⟩:=x; exact LK e
 | xd fs=>obtain ⟨_,⟨_,_,_,e,_⟩,_⟩:=x; exact LK e
 | rng lo hi=>obtain ⟨_,_,_,e⟩:=x; exact LK e
 | frz ob u=>obtain ⟨e,_⟩:=x; exact LK e
 | tbl ps=>exact LK (show h.get? a=some _ from x)
 | met f y=>exact LK (show h.get? a=some _ from x)
 | ext φ=>obtain ⟨_,⟨_,e⟩,_⟩:=x; exact LK e
theorem Paired.mapP {α β:Type} {F G:α->β->Prop}:∀ {l₁:List α} {l₂:List β},Paired F l₁ l₂->(∀ a b,F a b->G a b)->Paired G l₁ l₂
 | _,_,.nil,_=>.nil
 | _,_,.cons r t,f=>.cons (f _ _ r) (Paired.mapP t f)
theorem bA.stay (x:bA P w H h a o) (k:∀ b u,(b=a\/H b=some (.own a))->h.get? b=some u->h'.get? b=some u)
  (ho:∀ b,H b=some (.own a)->H' b=some (.own a)) (ht:∀ b xs,H b=some (.tup xs)->H' b=some (.tup xs)):bA P w H' h' a o:=by
 induction o with
 | lst xs=>obtain ⟨z,its,n,r,e⟩:=x; exact ⟨z,its,n,r,k _ _ (.inl rfl) e⟩
 | tup xs=>obtain ⟨z,its,r,ob,e,c⟩:=x; exact ⟨z,its,r,ob,k _ _ (.inl rfl) e,c⟩
 | dK kvs=>obtain ⟨z,y,vs,r,ob,es,ep,e,c⟩:=x; exact ⟨z,y,vs,r,ob,es,ep,k _ _ (.inl rfl) e,c⟩
 | dT kvs=>
  obtain ⟨z,y,xs,r,ob,es,ep,e,c⟩:=x
  exact ⟨z,y,xs,Paired.mapP r fun p q z=>⟨z.1,ht _ _ z.2.1,z.2.2⟩,ob,es,ep,k _ _ (.inl rfl) e,c⟩
 | set S n=>obtain ⟨ob,es,ep,t,e,c⟩:=x; exact ⟨ob,es,ep,t,k _ _ (.inl rfl) e,c⟩
 | ins C dx fs=>
  obtain ⟨d,z,ne,e,mA,⟨od,es,ep,e2,c⟩,r⟩:=x
  exact ⟨ho _ d,z,ne,k _ _ (.inl rfl) e,mA,⟨od,es,ep,k _ _ (.inr d) e2,c⟩,r⟩
 | own y=>obtain ⟨ob,e⟩:=x; exact ⟨ob,k _ _ (.inl rfl) e⟩
 | xd fs=>obtain ⟨mA,⟨od,es,ep,e,c⟩,r⟩:=x; exact ⟨mA,⟨od,es,ep,k _ _ (.inl rfl) e,c⟩,r⟩
 | rng lo hi=>obtain ⟨t,u,v,e⟩:=x; exact ⟨t,u,v,k _ _ (.inl rfl) e⟩
 | frz ob u ih=>obtain ⟨e,q⟩:=x; exact ⟨k _ _ (.inl rfl) e,ih q⟩
 | tbl ps=>
  have e:h.get? a=some { cls:=.none,data:=.fields ps }:=x
  show h'.get? a=some { cls:=.none,data:=.fields ps }
  exact k a _ (.inl rfl) e
 | met f y=>
  have e:h.get? a=some (Q5 (.ref f) (.ref y)):=x
  show h'.get? a=some (Q5 (.ref f) (.ref y))
  exact k a _ (.inl rfl) e
 | ext φ=>obtain ⟨p,⟨o,e⟩,st⟩:=x; exact ⟨st _ _ p fun o q=>k _ _ (.inl rfl) q,⟨o,k _ _ (.inl rfl) e⟩,st⟩
theorem HOk.lt (x:HOk P w H h) (e:H a=some o):a < h.objs.size:=(x a o e).lt
theorem HOk.fresh (x:HOk P w H h) (e:h.objs.size<=a):H a=none:=by
 cases q:H a with
 | none=>rfl
 | some u=>exact absurd (L8 (x.lt q) e) (Nz _)
theorem HOk.kept (x:HOk P w H h) (k:∀ b u,h.get? b=some u->h'.get? b=some u):HOk P w H h':=fun a o e=>
 (x a o e).stay (fun b u _ q=>k b u q) (fun _ q=>q) fun _ _ q=>q
theorem HOk.laid (x:HOk P w H h) (k:∀ b u,h.get? b=some u->h'.get? b=some u) (hp:h.objs.size<=a) (new:bA P w (upd H a o) h' a o):HOk P w (upd H a o) h':=fun b u e=>by
 have hn:=x.fresh hp
 by_cases hb:b=a
 ·subst hb; rw [az] at e; cases e; exact new
 ·rw [aO hb] at e
  exact (x b u e).stay (fun c v _ q=>k c v q) (fun c q=>by rw [aO (aS q hn)]; exact q) fun c xs q=>by rw [aO (aS q hn)]; exact q
end
noncomputable def Rd (H:Hp) (a:Addr) (u:HO):Prop:=H a=some u\/∃ o,H a=some (.frz o u)
theorem Rd.of {H:Hp} {a:Addr} {u:HO} (h:H a=some u):Rd H a u:=.inl h
theorem Rd.ok {P:Program} {w:World} {H:Hp} {h:Heap} {a:Addr} {u:HO} (r:Rd H a u) (x:HOk P w H h):bA P w H h a u:=by
 rcases r with r | ⟨o,r⟩
 ·exact x a u r
 ·obtain ⟨_,q⟩:=x a _ r
  exact q
noncomputable def Mut:Option HO->Prop
 | some (.lst _)=>True
 | some (.dK _)=>True
 | some (.dT _)=>True
 | some (.set _ _)=>True
 | some (.ins _ _ _)=>True
 | some (.ext _)=>True
 | _=>False
section
variable {P:Program} {w:World} {H:Hp} {h h':Heap} {x e:Addr} {o':HO}
theorem HOk.write (ok:HOk P w H h) (mu:Mut (H x)) (he:e=x\/H e=some (.own x)) (k:∀ b u,b≠e->h.get? b=some u->h'.get? b=some u) (heo:∃ u,h'.get? e=some u)
  (new:bA P w (upd H x o') h' x o'):HOk P w (upd H x o') h':=fun b u q=>by
 have nown:∀ c y,H c=some (.own y)->c≠x:=fun c y r z=>by subst z; rw [r] at mu; exact mu
 have ntup:∀ c xs,H c=some (.tup xs)->c≠x:=fun c xs r z=>by subst z; rw [r] at mu; exact mu
 by_cases hb:b=x
 ·subst hb; rw [az] at q; cases q; exact new
 ·rw [aO hb] at q
  by_cases hbe:b=e
  ·have q':H b=some (.own x):=by
    rcases he with z | z
    ·exact absurd (hbe.trans z) hb
    ·rw [hbe]; exact z
   rw [q] at q'; cases q'
   obtain ⟨v,hv⟩:=heo
   exact ⟨v,by rw [hbe]; exact hv⟩
  ·refine (ok b u q).stay (fun c v hc r=>k c v ?_ r) (fun c r=>by rw [aO (nown c b r)]; exact r) fun c xs r=>by rw [aO (ntup c xs r)]; exact r
   rcases hc with rfl | hc
   ·exact hbe
   ·rintro rfl
    rcases he with z | z
    ·exact nown c b hc z
    ·rw [hc] at z; cases z; exact hb rfl
end
structure Un (fs ex:List Addr) (H H':Hp) (h h':Heap):Prop where
 keep:∀ b o,h.get? b=some o->H b=none->b∉fs->b∉ex->h'.get? b=some o
 slot:∀ b o,h.get? b=some o->H b=none->b∈fs->b∉ex->∃ sl,h'.get? b=some { o with slots:=sl }
 free:∀ b o,h.get? b=some o->H b=none->b∉ex->H' b=none
 there:∀ b o,h.get? b=some o->b∉ex->∃ o',h'.get? b=some o'
 tups:∀ b xs,H b=some (.tup xs)->H' b=some (.tup xs)
 frzs:∀ b o u,H b=some (.frz o u)->H' b=some (.frz o u)
 tbls:∀ b ps,H b=some (.tbl ps)->∃ more,H' b=some (.tbl (ps++more))
section
variable {fs fs' ex ex':List Addr} {H H1 H2:Hp} {h h1 h2 h':Heap} {a x e:Addr} {o:HO}
theorem Un.any (u:Un fs ex H H1 h h1) {b:Addr} {ob:Obj} (q:h.get? b=some ob) (n:H b=none) (hx:b∉ex):∃ sl,h1.get? b=some { ob with slots:=sl }:=by
 by_cases hb:b∈fs
 ·exact u.slot b ob q n hb hx
 ·exact ⟨ob.slots,u.keep b ob q n hb hx⟩
theorem Un.trans (a:Un fs ex H H1 h h1) (b:Un fs ex H1 H2 h1 h2):Un fs ex H H2 h h2 where
 keep:=fun c ob q n hc hx=>b.keep c ob (a.keep c ob q n hc hx) (a.free c ob q n hx) hc hx
 slot:=fun c ob q n hc hx=>by
  obtain ⟨sl,e1⟩:=a.slot c ob q n hc hx
  obtain ⟨sl',e2⟩:=b.slot c _ e1 (a.free c ob q n hx) hc hx
  exact ⟨sl',e2⟩
 free:=fun c ob q n hx=>by
  obtain ⟨o',e1⟩:=a.there c ob q hx
  exact b.free c o' e1 (a.free c ob q n hx) hx
 there:=fun c ob q hx=>by
  obtain ⟨o',e1⟩:=a.there c ob q hx
  exact b.there c o' e1 hx
 tups:=fun c xs q=>b.tups c xs (a.tups c xs q)
 frzs:=fun c ob xs q=>b.frzs c ob xs (a.frzs c ob xs q)
 tbls:=fun c ps q=>by
  obtain ⟨m1,e1⟩:=a.tbls c ps q
  obtain ⟨m2,e2⟩:=b.tbls c _ e1
  exact ⟨m1++m2,by rw [e2,S5]⟩
theorem Un.kept (k:∀ b u,h.get? b=some u->h'.get? b=some u):Un fs ex H H h h':=
 ⟨fun b ob q _ _ _=>k b ob q,fun b ob q _ _ _=>⟨ob.slots,k b ob q⟩,fun _ _ _ n _=>n,fun b ob q _=>⟨ob,k b ob q⟩,fun _ _ q=>q,fun _ _ _ q=>q,fun _ ps q=>⟨#[],by rw [q]; simp⟩⟩
theorem Un.refl:Un fs ex H H h h:=Un.kept fun _ _ q=>q
theorem Un.laid (k:∀ b u,h.get? b=some u->h'.get? b=some u) (hp:h.objs.size<=a) (hn:H a=none):Un fs ex H (upd H a o) h h' where
 keep:=fun b u q _ _ _=>k b u q
 slot:=fun b u q _ _ _=>⟨u.slots,k b u q⟩
 free:=fun b u q n _=>by rw [aO (Ml (L8 (LK q) hp))]; exact n
 there:=fun b u q _=>⟨u,k b u q⟩
 tups:=fun b xs q=>by rw [aO (aS q hn)]; exact q
 frzs:=fun b u xs q=>by rw [aO (aS q hn)]; exact q
 tbls:=fun b ps q=>⟨#[],by rw [aO (aS q hn),q]; simp⟩
theorem Un.write (mu:Mut (H x)) (he:e=x\/H e=some (.own x)) (k:∀ b u,b≠e->h.get? b=some u->h'.get? b=some u) (heo:∃ u,h'.get? e=some u):Un fs ex H (upd H x o) h h':=by
 have hx:∀ b,H b=none->b≠x:=fun b n z=>by subst z; rw [n] at mu; exact mu
 have hb:∀ b,H b=none->b≠e:=fun b n z=>by
  subst z
  rcases he with r | r
  ·exact hx b n r
  ·rw [n] at r; cases r
 have hm:∀ b u,H b=some u->¬ Mut (some u)->b≠x:=fun b u q nm z=>by subst z; rw [q] at mu; exact nm mu
 refine ⟨fun b u q n _ _=>k b u (hb b n) q,fun b u q n _ _=>⟨u.slots,k b u (hb b n) q⟩,fun b u q n _=>by rw [aO (hx b n)]; exact n,fun b u q _=>?_,
  fun b xs q=>by rw [aO (hm b _ q fun z=>z)]; exact q,fun b u xs q=>by rw [aO (hm b _ q fun z=>z)]; exact q,fun b ps q=>⟨#[],by rw [aO (hm b _ q fun z=>z),q]; simp⟩⟩
 by_cases hbe:b=e
 ·subst hbe; exact heo
 ·exact ⟨u,k b u hbe q⟩
end
noncomputable def trk (h:Heap) (H:Hp):List Addr:=(LO h.objs.size).filter fun a=>(H a).isSome
noncomputable def oM (h:Heap) (H:Hp):Heap:=PySem.W.hideAll h (trk h H)
theorem En (h:Heap) (H:Hp):(oM h H).objs.size=h.objs.size:=PySem.W.hideAll_size _ _
theorem FU {h:Heap} {H:Hp} {b:Addr} {o:Obj} (e:h.get? b=some o) (n:H b=none):(oM h H).get? b=some o:=
 PySem.W.hideAll_get _ e fun hm=>by
  have q:(H b).isSome=true:=(N9.mp hm).2
  rw [n] at q; simp at q
theorem Ig {h:Heap} {H:Hp} {b:Addr} {o:Obj} (e:(oM h H).get? b=some o):h.get? b=some o/\H b=none:=by
 have e':h.get? b=some o:=PySem.W.of_hideAll (trk h H) e
 refine ⟨e',?_⟩
 cases q:H b with
 | none=>rfl
 | some x=>
  have hm:b∈trk h H:=N9.mpr ⟨Nf.mpr (LK e'),by simp [q]⟩
  have z:(oM h H).get? b=none:=PySem.W.hideAll_none (trk h H) hm
  rw [z] at e; cases e
noncomputable def Ih (g h:Heap) (L:Addr):List (Addr×Obj):=(LO h.objs.size).filterMap fun a=>if a=L\/(g.get? a).isSome=true then none else (h.get? a).map fun o=>(a,o)
noncomputable def cR (g h:Heap) (L d:Addr):List (Addr×Obj):=(Ih g h L).filter fun p=>decide (p.1≠d)
end L2
namespace L2
open PySem PySem.Spec PyProof.Rows
structure Mod (K:Fg) (mg:Str->Option Value) (base:Heap):Prop where
 kin:K.In base
 glob:base.Ns Mi mg
 blt:∃ mb,base.Ns Um mb/\∀ x:Str,x≠"__name__"->mb x=Pm x
 nolimit:base.NoLimit
set_option genInjectivity false in
structure Cx where
 prog:Program
 w:World
 K:Fg
 mg:Str->Option Value
 base:Heap
 A:Around
 N:List Str
 s₀:Shared
 H₀:Hp
 env:Env
 outer:List Env
 stack:List Env
 ex:List Addr
 fn:Str->Bool
 calm:Bool
 pn:List (Addr×Obj)
 xe:Value->Shared->Prop
noncomputable def frs (l:List Env):List Addr:=l.filterMap (·.frame)
noncomputable abbrev Cx.fs (X:Cx):List Addr:=frs X.outer
noncomputable def Vis (sc:Scope) (x:Str):Prop:=sc.names.lookup x=some .local\/sc.names.lookup x=some .cell\/sc.names.lookup x=some .free
noncomputable def Loc (sc:Scope) (x:Str):Prop:=sc.names.lookup x=some .local\/sc.names.lookup x=some .cell
noncomputable def JJ (env:Env) (h:Heap) (m:Str->Option Value) (x:Str) (u:Value):Prop:=
 (env.kindOf x=some .local/\m x=some u)\/((env.kindOf x=some .cell\/env.kindOf x=some .free)/\∃ c,env.cells.lookup x=some c/\h.IsCell c (some u))
structure Cx.Ok (X:Cx):Prop where
 mod:Mod X.K X.mg X.base
 kind:X.env.scope.kind=.function
 glob:X.env.globals=Mi
 blt:X.env.builtins=Um
 above:X.s₀.heap.objs.size<=X.env.locals
 inj:∀ x y c,X.env.cells.lookup x=some c->X.env.cells.lookup y=some c->x=y
 has:∀ x,(X.env.kindOf x=some .cell\/X.env.kindOf x=some .free)->∃ c,X.env.cells.lookup x=some c
 cab:∀ x c,X.fn x=true->X.env.cells.lookup x=some c->X.s₀.heap.objs.size<=c
 hd:X.calm=true->X.A.handled=none
 frames:X.A.frames=some X.stack
 stk:X.stack=X.outer\/(X.stack=X.env :: X.outer/\X.env.frame=some X.env.locals)
 exf:∀ b∈X.ex,b≠X.env.locals/\∀ x c,X.env.cells.lookup x=some c->c≠b
 bs:∀ b o,X.base.get? b=some o->X.s₀.heap.get? b=some o/\X.H₀ b=none
 bsz:X.base.objs.size<=X.s₀.heap.objs.size
 noex:∀ b o,X.base.get? b=some o->b∉X.ex
 exfs:∀ b∈X.ex,b∉X.fs
 funs:X.s₀.heap.FunFrames X.base X.outer
 frf:∀ b∈X.fs,X.H₀ b=none
structure Inv (X:Cx) (pins:List (Addr×Obj)) (σ:List (Option V)) (H:Hp) (s:Shared):Prop where
 ok:X.Ok
 os:s.os=X.s₀.os
 bare:AllBare s.gens
 base:Un X.fs X.ex X.H₀ H X.s₀.heap s.heap
 loc:∃ m,s.heap.Ns X.env.locals m/\∀ (i:Nat) (x:Str) (v:V),X.N[i]?=some x->σ[i]?=some (some v)->Vis X.env.scope x->∃ u,aH v u/\JJ X.env s.heap m x u
 cell:∀ x c,X.env.cells.lookup x=some c->∃ v,s.heap.IsCell c v
 free:H X.env.locals=none
 freeC:∀ x c,X.env.cells.lookup x=some c->H c=none
 pin:∀ p∈X.pn++pins,s.heap.get? p.1=some p.2/\H p.1=none/\p.1≠X.env.locals/\p.1∉X.fs/\∀ v,p.2.data≠.cell v
 hok:HOk X.prog X.w H s.heap
 len:σ.length=X.N.length
section
variable {X:Cx} {pins:List (Addr×Obj)} {σ:List (Option V)} {H H':Hp} {s:Shared} {h':Heap}
theorem Cx.Ok.nofr (ok:X.Ok) {b:Addr} {o:Obj} (e:X.base.get? b=some o):b∉X.fs:=fun hb=>by
 have:=(ok.funs.mem hb).1
 rw [e] at this; cases this
theorem Inv.bs (I:Inv X pins σ H s):∀ b o,X.base.get? b=some o->s.heap.get? b=some o/\H b=none:=fun b o e=>
 ⟨I.base.keep b o (I.ok.bs b o e).1 (I.ok.bs b o e).2 (I.ok.nofr e) (I.ok.noex b o e),I.base.free b o (I.ok.bs b o e).1 (I.ok.bs b o e).2 (I.ok.noex b o e)⟩
theorem Inv.bk (I:Inv X pins σ H s):∀ b o,X.base.get? b=some o->s.heap.get? b=some o:=fun b o e=>(I.bs b o e).1
theorem Inv.mod (I:Inv X pins σ H s):Mod X.K X.mg X.base:=I.ok.mod
theorem Inv.kIn (I:Inv X pins σ H s):X.K.In s.heap:=I.ok.mod.kin.keeps I.bk
theorem Inv.nolimit (I:Inv X pins σ H s):s.heap.NoLimit:=I.ok.mod.nolimit.keeps I.bk
theorem Inv.lt (I:Inv X pins σ H s):X.env.locals < s.heap.objs.size:=let ⟨_,hn,_⟩:=I.loc; hn.lt
theorem Inv.sz (I:Inv X pins σ H s):X.s₀.heap.objs.size<=s.heap.objs.size:=Me I.ok.above (ML I.lt)
theorem Inv.nofs (I:Inv X pins σ H s) {a:Addr} (h:s.heap.objs.size<=a):a∉X.fs:=fun hb=>by
 obtain ⟨_,o,ho,_⟩:=I.ok.funs.mem hb
 exact absurd (L8 (LK ho) (Me I.sz h)) (Nz _)
theorem Inv.cne (I:Inv X pins σ H s):∀ x c,X.env.cells.lookup x=some c->c≠X.env.locals:=fun x c e z=>by
 obtain ⟨v,o,ho,hd⟩:=I.cell x c e
 obtain ⟨m,⟨o',es,ep,ho',hd',_⟩,_⟩:=I.loc
 rw [z,ho'] at ho; cases ho; rw [hd'] at hd; cases hd
theorem Inv.funs (I:Inv X pins σ H s):s.heap.FunFrames X.base X.outer:=by
 have all:∀ (l:List Env),(∀ b∈frs l,b∈X.fs)->X.s₀.heap.FunFrames X.base l->s.heap.FunFrames X.base l:=by
  intro l
  induction l with
  | nil=>intro _ _; trivial
  | cons env r ih=>
   intro hs hl
   obtain ⟨hk,⟨L,o,hf,hn,ho,hd⟩,hr⟩:=hl
   have hL:L∈X.fs:=hs L (by unfold frs; rw [Pj,hf]; exact LG)
   obtain ⟨sl,e⟩:=I.base.slot L o ho (I.ok.frf L hL) hL fun z=>I.ok.exfs L z hL
   exact ⟨hk,⟨L,_,hf,hn,e,hd⟩,ih (fun b hb=>hs b (by unfold frs; rw [Pj,hf]; exact LJ _ hb)) hr⟩
 exact all X.outer (fun _ hb=>hb) I.ok.funs
theorem Inv.stack (I:Inv X pins σ H s):s.heap.FunFrames X.base X.stack:=by
 rcases I.ok.stk with e | ⟨e,hf⟩
 ·rw [e]; exact I.funs
 ·rw [e]
  obtain ⟨m,hn,_⟩:=I.loc
  refine .cons (by rw [I.ok.kind]; decide) hf hn ?_ I.funs
  exact Heap.get?_none_of_le (Me I.ok.bsz I.ok.above)
theorem Inv.stkSub (I:Inv X pins σ H s):∀ b∈frs X.stack,b∈X.env.locals :: X.fs:=fun b hb=>by
 rcases I.ok.stk with e | ⟨e,hf⟩
 ·rw [e] at hb; exact LJ _ hb
 ·rw [e] at hb
  unfold frs at hb
  rw [Pj,hf] at hb
  exact hb
theorem Inv.stkFree (I:Inv X pins σ H s):∀ b∈frs X.stack,H b=none:=fun b hb=>by
 rcases LA.mp (I.stkSub b hb) with e | hb
 ·rw [e]; exact I.free
 ·obtain ⟨_,o,ho,_⟩:=I.ok.funs.mem hb
  exact I.base.free b o ho (I.ok.frf b hb) fun z=>I.ok.exfs b z hb
theorem Inv.step {g':Array Sl} {t':Nat} {d':Drawn} {ch:List Addr} (I:Inv X pins σ H s)
  (hch:∀ b∈ch,(b∈X.ex\/X.s₀.heap.objs.size<=b)/\b≠X.env.locals/\(∀ x c,X.env.cells.lookup x=some c->c≠b)/\∀ p∈X.pn++pins,p.1≠b)
  (keep:∀ b o,b≠X.env.locals->b∉X.fs->b∉ch->s.heap.get? b=some o->H b=none->h'.get? b=some o)
  (slot:∀ b o,b≠X.env.locals->b∈X.fs->b∉ch->s.heap.get? b=some o->H b=none->∃ sl,h'.get? b=some { o with slots:=sl }) (free:∀ b o,b∉ch->s.heap.get? b=some o->H b=none->H' b=none)
  (there:∀ b o,b∉ch->s.heap.get? b=some o->∃ o',h'.get? b=some o')
  (tups:∀ b xs,H b=some (.tup xs)->H' b=some (.tup xs)) (frzs:∀ b o u,H b=some (.frz o u)->H' b=some (.frz o u)) (tbls:∀ b ps,H b=some (.tbl ps)->∃ more,H' b=some (.tbl (ps++more)))
  (ns:∀ m,s.heap.Ns X.env.locals m->h'.Ns X.env.locals m) (hok:HOk X.prog X.w H' h') (hg:AllBare g'):
  Inv X pins σ H' { s with heap:=h',gens:=g',drawn:=d',toks:=t' }:=by
 have neL:∀ b o,X.s₀.heap.get? b=some o->b≠X.env.locals:=fun b o e=>Ml (L8 (LK e) I.ok.above)
 have neC:∀ b o,X.s₀.heap.get? b=some o->b∉X.ex->b∉ch:=fun b o e hx hb=>by
  rcases (hch b hb).1 with z | z
  ·exact hx z
  ·exact absurd (L8 (LK e) z) (Nz _)
 have cellK:∀ x c,X.env.cells.lookup x=some c->∀ v,s.heap.IsCell c v->h'.IsCell c v:=fun x c e v ⟨o,ho,hd⟩=>by
  have nch:c∉ch:=fun z=>(hch c z).2.2.1 x c e rfl
  by_cases hc:c∈X.fs
  ·obtain ⟨sl,q⟩:=slot c o (I.cne x c e) hc nch ho (I.freeC x c e)
   exact ⟨_,q,hd⟩
  ·exact ⟨o,keep c o (I.cne x c e) hc nch ho (I.freeC x c e),hd⟩
 refine ⟨I.ok,I.os,hg,⟨fun b o e n hb hx=>?_,fun b o e n hb hx=>?_,fun b o e n hx=>?_,fun b o e hx=>?_,fun b xs e=>tups b xs (I.base.tups b xs e),fun b o xs e=>frzs b o xs (I.base.frzs b o xs e),fun b ps e=>?_⟩,?_,fun x c e=>?_,?_,fun x c e=>?_,fun p hp=>?_,hok,I.len⟩
 ·exact keep b o (neL b o e) hb (neC b o e hx) (I.base.keep b o e n hb hx) (I.base.free b o e n hx)
 ·obtain ⟨sl,e1⟩:=I.base.slot b o e n hb hx
  obtain ⟨sl',e2⟩:=slot b _ (neL b o e) hb (neC b o e hx) e1 (I.base.free b o e n hx)
  exact ⟨sl',e2⟩
 ·obtain ⟨o',e1⟩:=I.base.there b o e hx
  exact free b o' (neC b o e hx) e1 (I.base.free b o e n hx)
 ·obtain ⟨o',e1⟩:=I.base.there b o e hx
  exact there b o' (neC b o e hx) e1
 ·obtain ⟨m1,e1⟩:=I.base.tbls b ps e
  obtain ⟨m2,e2⟩:=tbls b _ e1
  exact ⟨m1++m2,by rw [e2,S5]⟩
 ·obtain ⟨m,hn,hl⟩:=I.loc
  refine ⟨m,ns m hn,fun i x v e1 e2 e3=>?_⟩
  obtain ⟨u,r,l⟩:=hl i x v e1 e2 e3
  refine ⟨u,r,?_⟩
  rcases l with l | ⟨k,c,e,z⟩
  ·exact .inl l
  ·exact .inr ⟨k,c,e,cellK x c e _ z⟩
 ·obtain ⟨v,z⟩:=I.cell x c e
  exact ⟨v,cellK x c e v z⟩
 ·obtain ⟨m,⟨o,_,_,ho,_⟩,_⟩:=I.loc
  exact free _ o (fun z=>(hch _ z).2.1 rfl) ho I.free
 ·obtain ⟨v,o,ho,hd⟩:=I.cell x c e
  exact free c o (fun z=>(hch c z).2.2.1 x c e rfl) ho (I.freeC x c e)
 ·obtain ⟨e,n,ne,nf,d⟩:=I.pin p hp
  have nch:p.1∉ch:=fun z=>(hch p.1 z).2.2.2 p hp rfl
  exact ⟨keep p.1 p.2 ne nf nch e n,free p.1 p.2 nch e n,ne,nf,d⟩
theorem Inv.un {t':Nat} (I:Inv X pins σ H s) (u:Un X.fs [] H H' s.heap h') (hok:HOk X.prog X.w H' h'):Inv X pins σ H' { s with heap:=h',toks:=t' }:=by
 obtain ⟨m,⟨o,es,ep,ho,r⟩,_⟩:=id I.loc
 obtain ⟨sl,hL⟩:=u.any ho I.free (by simp)
 exact I.step (g':=s.gens) (d':=s.drawn) (ch:=[]) (fun _ z=>nomatch z) (fun b o _ hb _ e n=>u.keep b o e n hb (by simp)) (fun b o _ hb _ e n=>u.slot b o e n hb (by simp)) (fun b o _ e n=>u.free b o e n (by simp)) (fun b o _ e=>u.there b o e (by simp)) u.tups u.frzs u.tbls (fun m' hm=>by
  obtain ⟨o',es',ep',ho',r'⟩:=hm
  rw [ho] at ho'; cases ho'
  exact ⟨_,es',ep',hL,r'⟩) hok I.bare
theorem Inv.call {g':Array Sl} {t':Nat} {d':Drawn} {ch:List Addr} (I:Inv X pins σ H s) (u:Un (frs X.stack) ch H H' s.heap h') (hok:HOk X.prog X.w H' h') (hg:AllBare g')
  (hch:∀ b∈ch,(b∈X.ex\/X.s₀.heap.objs.size<=b)/\b≠X.env.locals/\(∀ x c,X.env.cells.lookup x=some c->c≠b)/\∀ p∈X.pn++pins,p.1≠b):
  Inv X pins σ H' { s with heap:=h',gens:=g',drawn:=d',toks:=t' }:=by
 obtain ⟨m,⟨o,es,ep,ho,r⟩,_⟩:=id I.loc
 obtain ⟨sl,hL⟩:=u.any ho I.free fun z=>(hch _ z).2.1 rfl
 exact I.step (ch:=ch) hch (fun b o hL hb hc e n=>u.keep b o e n (fun z=>(LA.mp (I.stkSub b z)).elim hL hb) hc) (fun b o _ _ hc e n=>u.any e n hc) (fun b o hc e n=>u.free b o e n hc) (fun b o hc e=>u.there b o e hc) u.tups u.frzs u.tbls (fun m' hm=>by
  obtain ⟨o',es',ep',ho',r'⟩:=hm
  rw [ho] at ho'; cases ho'
  exact ⟨_,es',ep',hL,r'⟩) hok hg
theorem Inv.turned {t':Nat} {it:Addr} (I:Inv X pins σ H s) (k:∀ b o,b≠it->s.heap.get? b=some o->h'.get? b=some o) (hn:H it=none) (hL:it≠X.env.locals)
  (h1:it∈X.ex\/X.s₀.heap.objs.size<=it) (h2:∀ x c,X.env.cells.lookup x=some c->c≠it) (h3:∀ p∈X.pn++pins,p.1≠it):Inv X pins σ H { s with heap:=h',toks:=t' }:=by
 have nit:∀ b u,H b=some u->b≠it:=fun b u e z=>by rw [z,hn] at e; cases e
 refine I.step (g':=s.gens) (d':=s.drawn) (ch:=[it]) (fun b hb=>?_) (fun b o _ _ hc e _=>k b o (fun z=>hc (by simp [z])) e) (fun b o _ _ hc e _=>⟨o.slots,k b o (fun z=>hc (by simp [z])) e⟩) (fun _ _ _ _ n=>n)
  (fun b o hc e=>⟨o,k b o (fun z=>hc (by simp [z])) e⟩) (fun _ _ e=>e) (fun _ _ _ e=>e) (fun b ps e=>⟨#[],by rw [e]; simp⟩) (fun m hm=>?_) (fun b u e=>?_) I.bare
 ·have e:b=it:=by simpa using hb
  subst e
  exact ⟨h1,hL,h2,h3⟩
 ·obtain ⟨o,es,ep,ho,r⟩:=hm
  exact ⟨o,es,ep,k _ o (Mz hL) ho,r⟩
 ·refine (I.hok b u e).stay (fun c v hc q=>k c v ?_ q) (fun _ q=>q) fun _ _ q=>q
  rcases hc with z | z
  ·rw [z]; exact nit b u e
  ·exact nit c _ z
theorem Inv.tok (I:Inv X pins σ H s) (t:Nat):Inv X pins σ H { s with toks:=t }:=I.un (h':=s.heap) (t':=t) Un.refl I.hok
theorem Inv.kept {t':Nat} (I:Inv X pins σ H s) (k:∀ b u,s.heap.get? b=some u->h'.get? b=some u):Inv X pins σ H { s with heap:=h',toks:=t' }:=I.un (Un.kept k) (I.hok.kept k)
theorem Inv.laid {a:Addr} {o:HO} {t':Nat} (I:Inv X pins σ H s) (k:∀ b u,s.heap.get? b=some u->h'.get? b=some u) (hp:s.heap.objs.size<=a) (new:bA X.prog X.w (upd H a o) h' a o):
  Inv X pins σ (upd H a o) { s with heap:=h',toks:=t' }:=I.un (Un.laid k hp (I.hok.fresh hp)) (I.hok.laid k hp new)
theorem Inv.write {x e:Addr} {o:HO} {t':Nat} (I:Inv X pins σ H s) (mu:Mut (H x)) (he:e=x\/H e=some (.own x)) (k:∀ b u,b≠e->s.heap.get? b=some u->h'.get? b=some u) (heo:∃ u,h'.get? e=some u)
  (new:bA X.prog X.w (upd H x o) h' x o):Inv X pins σ (upd H x o) { s with heap:=h',toks:=t' }:=I.un (Un.write mu he k heo) (I.hok.write mu he k heo new)
theorem Inv.pins_of {pins':List (Addr×Obj)} (I:Inv X pins σ H s) (h:∀ p∈pins',s.heap.get? p.1=some p.2/\H p.1=none/\p.1≠X.env.locals/\p.1∉X.fs/\∀ v,p.2.data≠.cell v):Inv X pins' σ H s:=
 ⟨I.ok,I.os,I.bare,I.base,I.loc,I.cell,I.free,I.freeC,fun p hp=>(Mm.mp hp).elim (fun z=>I.pin p (Nx _ z)) (h p),I.hok,I.len⟩
theorem zp {N:List Str} (hN:N.Nodup) {i j:Nat} {x:Str} (a:N[i]?=some x) (b:N[j]?=some x):i=j:=by
 obtain ⟨h1,e1⟩:=LD.mp a
 obtain ⟨h2,e2⟩:=LD.mp b
 exact (List.getElem_inj hN).mp (e1.trans e2.symm)
theorem xn {M:Model} {A:Around} {E:Value->Shared->Prop} {i:Nat} {x:Str} {v:V} {u:Value} {Q:Unit->Shared->Prop} (I:Inv X pins σ H s) (hN:X.N.Nodup) (hi:X.N[i]?=some x) (hx:Loc X.env.scope x) (r:aH v u)
  (h:∀ s',Inv X pins (σ.set i (some v)) H s'->(∃ a,LP a s.heap s'.heap/\(a=X.env.locals\/X.env.cells.lookup x=some a))->Q () s') (hf:X.fn x=true\/X.env.scope.names.lookup x=some .local:=by first | exact .inl rfl | exact .inr rfl | assumption):wpAny M A (storeName X.env x u) Q E s:=by
 obtain ⟨m,hn,hl⟩:=id I.loc
 have hcls:(X.env.scope.kind == .class || (X.env.scope.kind == .module && X.env.locals != X.env.globals))=false:=by rw [I.ok.kind]; rfl
 have hiσ:i < σ.length:=by rw [I.len]; exact (LD.mp hi).1
 have cne:=I.cne
 have tracked:∀ {a:Addr} {h':Heap},(∃ o,s.heap.get? a=some o/\H a=none)->LP a s.heap h'->HOk X.prog X.w H h':=fun {a h'} ha hs b ob e=>by
  obtain ⟨_,_,hfree⟩:=ha
  refine (I.hok b ob e).stay (fun c w' hc q=>(hs.2 c ?_).trans q) (fun _ q=>q) fun _ _ q=>q
  rintro rfl
  rcases hc with rfl | hc
  ·rw [hfree] at e; cases e
  ·rw [hfree] at hc; cases hc
 rcases hx with hk | hk
 ·refine wpAny_storeName_local hk hn (fun h' hn' hs=>?_) hcls
  obtain ⟨oL,_,_,hoL,_⟩:=id hn
  refine h _ ⟨I.ok,I.os,I.bare,⟨fun b o e n hb hx=>?_,fun b o e n hb hx=>?_,I.base.free,fun b o e hx=>?_,I.base.tups,I.base.frzs,I.base.tbls⟩,⟨_,hn',fun j y v' e1 e2 e3=>?_⟩,fun y c e=>?_,I.free,I.freeC,fun p hp=>?_,tracked ⟨oL,hoL,I.free⟩ hs,by simpa using I.len⟩ ⟨_,hs,.inl rfl⟩
  ·exact (hs.2 b (Ml (L8 (LK e) I.ok.above))).trans (I.base.keep b o e n hb hx)
  ·obtain ⟨sl,e1⟩:=I.base.slot b o e n hb hx
   exact ⟨sl,(hs.2 b (Ml (L8 (LK e) I.ok.above))).trans e1⟩
  ·obtain ⟨o',e1⟩:=I.base.there b o e hx
   exact ⟨o',(hs.2 b (Ml (L8 (LK e) I.ok.above))).trans e1⟩
  ·by_cases hj:j=i
   ·subst hj
    rw [hi] at e1; cases e1
    rw [RW hiσ] at e2
    cases e2
    exact ⟨u,r,.inl ⟨hk,by simp⟩⟩
   ·rw [Sm (Mz hj)] at e2
    obtain ⟨u',r',q⟩:=hl j y v' e1 e2 e3
    refine ⟨u',r',?_⟩
    rcases q with ⟨k,e⟩ | ⟨k,c,e,z⟩
    ·refine .inl ⟨k,?_⟩
     have:y≠x:=fun e=>hj (zp hN e1 (e ▸ hi))
     simp [this,e]
    ·exact .inr ⟨k,c,e,z.sameBut hs (cne y c e)⟩
  ·obtain ⟨w',z⟩:=I.cell y c e
   exact ⟨w',z.sameBut hs (cne y c e)⟩
  ·obtain ⟨e,n,ne,nf,d⟩:=I.pin p hp
   exact ⟨(hs.2 p.1 ne).trans e,n,ne,nf,d⟩
 ·have hfn:X.fn x=true:=by
   rcases hf with z | z
   ·exact z
   ·rw [z] at hk; cases hk
  obtain ⟨c,hc⟩:=I.ok.has x (.inl hk)
  obtain ⟨w',z⟩:=I.cell x c hc
  refine wpAny_storeName_cell I.ok.kind hk hc z (fun h' hc' hs=>?_)
  obtain ⟨oc,hoc,hocd⟩:=id z
  refine h { s with heap:=h' } ⟨I.ok,I.os,I.bare,⟨fun b o e n hb hx=>?_,fun b o e n hb hx=>?_,I.base.free,fun b o e hx=>?_,I.base.tups,I.base.frzs,I.base.tbls⟩,⟨m,hn.sameBut hs (Mz (cne x c hc)),fun j y v' e1 e2 e3=>?_⟩,fun y c' e=>?_,I.free,I.freeC,fun p hp=>?_,tracked ⟨oc,hoc,I.freeC x c hc⟩ hs,by simpa using I.len⟩ ⟨c,hs,.inr hc⟩
  ·exact (hs.2 b (Ml (L8 (LK e) (I.ok.cab x c hfn hc)))).trans (I.base.keep b o e n hb hx)
  ·obtain ⟨sl,e1⟩:=I.base.slot b o e n hb hx
   exact ⟨sl,(hs.2 b (Ml (L8 (LK e) (I.ok.cab x c hfn hc)))).trans e1⟩
  ·obtain ⟨o',e1⟩:=I.base.there b o e hx
   exact ⟨o',(hs.2 b (Ml (L8 (LK e) (I.ok.cab x c hfn hc)))).trans e1⟩
  ·by_cases hj:j=i
   ·subst hj
    rw [hi] at e1; cases e1
    rw [RW hiσ] at e2
    cases e2
    exact ⟨u,r,.inr ⟨.inl hk,c,hc,hc'⟩⟩
   ·rw [Sm (Mz hj)] at e2
    obtain ⟨u',r',q⟩:=hl j y v' e1 e2 e3
    refine ⟨u',r',?_⟩
    rcases q with q | ⟨k,c',e,z'⟩
    ·exact .inl q
    ·refine .inr ⟨k,c',e,z'.sameBut hs ?_⟩
     rintro rfl
     exact hj (zp hN e1 (I.ok.inj _ _ _ e hc ▸ hi))
  ·by_cases hcc:c'=c
   ·subst hcc; exact ⟨_,hc'⟩
   ·obtain ⟨w2,z2⟩:=I.cell y c' e
    exact ⟨w2,z2.sameBut hs hcc⟩
  ·obtain ⟨e,n,ne,nf,d⟩:=I.pin p hp
   refine ⟨(hs.2 p.1 ?_).trans e,n,ne,nf,d⟩
   intro q
   rw [q,hoc] at e
   have q':oc=p.2:=LR e
   exact d w' (by rw [<-q']; exact hocd)
theorem zq {M:Model} {A:Around} {E:Value->Shared->Prop} {i:Nat} {x:Str} {v:V} {u:Value} {Q:Unit->Shared->Prop} (I:Inv X pins σ H s) (hN:X.N.Nodup) (hi:X.N[i]?=some x) (hx:Loc X.env.scope x) (r:aH v u)
  (h:∀ s',Inv X pins (σ.set i (some v)) H s'->Q () s') (hf:X.fn x=true\/X.env.scope.names.lookup x=some .local:=by first | exact .inl rfl | exact .inr rfl | assumption):wpAny M A (storeName X.env x u) Q E s:=
 xn I hN hi hx r (fun s' I' _=>h s' I') hf
theorem Inv.call' {s':Shared} {ch:List Addr} (I:Inv X pins σ H s) (ho:s'.os=s.os) (u:Un (frs X.stack) ch H H' s.heap s'.heap) (hok:HOk X.prog X.w H' s'.heap) (hg:AllBare s'.gens)
  (hch:∀ b∈ch,(b∈X.ex\/X.s₀.heap.objs.size<=b)/\b≠X.env.locals/\(∀ x c,X.env.cells.lookup x=some c->c≠b)/\∀ p∈X.pn++pins,p.1≠b):Inv X pins σ H' s':=by
 obtain ⟨h',g',d',t',o'⟩:=s'
 have e:o'=s.os:=ho
 subst e
 exact I.call (g':=g') (t':=t') (d':=d') u hok hg hch
end
noncomputable abbrev XK:=Value->Option Addr->Hp->Prop
noncomputable abbrev St:=List (Option V)
noncomputable abbrev VK:=V->Hp->Prop
noncomputable abbrev TE:=St->Hp->VK->Prop
noncomputable abbrev TT:=St->Hp->(Bool->Hp->Prop)->Prop
noncomputable abbrev TA:=St->Hp->(List V->Hp->Prop)->Prop
set_option genInjectivity false in
structure jL where
 nx:St->Hp->Prop
 rt:VK
 bk:St->Hp->Prop:=fun _ _=>False
 ct:St->Hp->Prop:=fun _ _=>False
noncomputable abbrev TS:=jL->St->Hp->Prop
noncomputable def EP (X:Cx) (pins:List (Addr×Obj)) (σ:St) (Q:VK) (u:Value) (s':Shared):Prop:=∃ v H',Inv X pins σ H' s'/\aH v u/\Q v H'
noncomputable def TP (X:Cx) (pins:List (Addr×Obj)) (σ:St) (Q:Bool->Hp->Prop) (b:Bool) (s':Shared):Prop:=∃ H',Inv X pins σ H' s'/\Q b H'
noncomputable def AP (X:Cx) (pins:List (Addr×Obj)) (σ:St) (Q:List V->Hp->Prop) (us:List Value) (s':Shared):Prop:=∃ vs H',Inv X pins σ H' s'/\aG vs us/\Q vs H'
noncomputable def SP (X:Cx) (pins:List (Addr×Obj)) (D:jL) (f:Flow) (s':Shared):Prop:=
 match f with
 | .next=>∃ σ' H',Inv X pins σ' H' s'/\D.nx σ' H'
 | .brk=>∃ σ' H',Inv X pins σ' H' s'/\D.bk σ' H'
 | .cont=>∃ σ' H',Inv X pins σ' H' s'/\D.ct σ' H'
 | .ret u=>∃ v σ' H',Inv X pins σ' H' s'/\aH v u/\D.rt v H'
noncomputable def PE (X:Cx) (e:Expr) (t:TE):Prop:=
 ∀ (pins:List (Addr×Obj)) (s:Shared) (σ:St) (H:Hp) (Q:VK),Inv X pins σ H s->t σ H Q->wpAny (model X.prog X.w) X.A (eval e X.env) (EP X pins σ Q) X.xe s
noncomputable def PT (X:Cx) (e:Expr) (t:TT):Prop:=
 ∀ (pins:List (Addr×Obj)) (s:Shared) (σ:St) (H:Hp) (Q:Bool->Hp->Prop),Inv X pins σ H s->t σ H Q->wpAny (model X.prog X.w) X.A (isTrue e X.env (eval e X.env)) (TP X pins σ Q) X.xe s
noncomputable def PW (X:Cx) (e:Expr) (t:TT):Prop:=
 ∀ (whole:Sem Value) (pins:List (Addr×Obj)) (s:Shared) (σ:St) (H:Hp) (Q:Bool->Hp->Prop),Inv X pins σ H s->t σ H Q->wpAny (model X.prog X.w) X.A (isTrue e X.env whole) (TP X pins σ Q) X.xe s
theorem PW.pt {X:Cx} {e:Expr} {t:TT} (h:PW X e t):PT X e t:=h _
noncomputable def PA (X:Cx) (es:List Expr) (t:TA):Prop:=
 ∀ (pos:Pos) (pins:List (Addr×Obj)) (s:Shared) (σ:St) (H:Hp) (Q:List V->Hp->Prop),Inv X pins σ H s->t σ H Q->wpAny (model X.prog X.w) X.A (spliced (backTo pos (L5 es X.env))) (AP X pins σ Q) X.xe s
noncomputable def PS (X:Cx) (st:Stmt) (t:TS):Prop:=
 ∀ (pins:List (Addr×Obj)) (s:Shared) (σ:St) (H:Hp) (D:jL),Inv X pins σ H s->t D σ H->wpAny (model X.prog X.w) X.A (exec st X.env) (SP X pins D) X.xe s
noncomputable def PSs (X:Cx) (st:List Stmt) (t:TS):Prop:=
 ∀ (pins:List (Addr×Obj)) (s:Shared) (σ:St) (H:Hp) (D:jL),Inv X pins σ H s->t D σ H->wpAny (model X.prog X.w) X.A (execs st X.env) (SP X pins D) X.xe s
theorem thn {α:Type} {t:Sem α} {Q Q':α->Shared->Prop} {M:Model} {A:Around} {E:Value->Shared->Prop} {s:Shared} (h:wpAny M A t Q E s) (hQ:∀ a s,Q a s->Q' a s):wpAny M A t Q' E s:=Nh h hQ fun _ _ x=>x
end L2
namespace L2
open PySem PySem.Spec PyProof.Rows
section
variable {X:Cx}
noncomputable def ab (i:Nat):TE:=fun σ H Q=>∃ v,σ[i]?=some (some v)/\Q v H
noncomputable def tC (v:V):TE:=fun _ H Q=>Q v H
theorem Eo {i:Nat} {x:Str} {pos:Pos} (hN:X.N[i]?=some x) (hv:Vis X.env.scope x) (hd:(x == ("__debug__":Str))=false:=by decide) (hcd:(x == ("__classdict__":Str))=false:=by decide):PE X (.Name x pos) (ab i):=by
 intro pins s σ H Q I h
 obtain ⟨v,e,h⟩:=h
 obtain ⟨m,hn,hl⟩:=I.loc
 obtain ⟨u,r,l⟩:=hl i x v hN e hv
 have fin:EP X pins σ Q u s:=⟨v,H,I,r,h⟩
 rcases l with ⟨hk,hm⟩ | ⟨hk,c,hc,hcell⟩
 ·exact Uo (wpAny_loadName_local I.ok.kind hk hn hm fin) hd
 ·rcases hk with hk | hk
  ·exact Uo (wpAny_loadName_cell I.ok.kind hk hc hcell fin) hd
  ·exact Uo (wpAny_loadName_free I.ok.kind hk hc hcell fin hcd) hd
theorem ak {i j pos}:PE X (.Constant (.int i) j pos) (tC (.int i)):=fun _ _ _ H _ I h=>wpAny_Constant_int ⟨.int i,H,I.tok _,⟨_,rfl⟩,h⟩
theorem d9 {b j pos}:PE X (.Constant (.bool b) j pos) (tC (.bl b)):=fun _ _ _ H _ I h=>Constant_bool ⟨.bl b,H,I,rfl,h⟩
theorem JK {j pos}:PE X (.Constant .none j pos) (tC .non):=fun _ _ _ H _ I h=>Constant_none ⟨.non,H,I,rfl,h⟩
theorem aL {x j pos}:PE X (.Constant (.str x) j pos) (tC (.str x)):=fun _ _ _ H _ I h=>Calls.Constant_str ⟨.str x,H,I.tok _,⟨_,rfl⟩,h⟩
noncomputable def Gl (X:Cx) (x:Str):Prop:=X.env.kindOf x=some .globalImplicit
theorem wm {E:Value->Shared->Prop} {pins:List (Addr×Obj)} {s:Shared} {σ:St} {H:Hp} {x:Str} {u:Value} {pos:Pos} {Q:Value->Shared->Prop} (I:Inv X pins σ H s) (hg:Gl X x) (hm:X.mg x=some u) (h:Q u s)
  (hd:(x == ("__debug__":Str))=false:=by decide):wpAny (model X.prog X.w) X.A (eval (.Name x pos) X.env) Q E s:=
 QV I.ok.kind hg (Calls.loadGlobal_global (by rw [I.ok.glob]; exact I.mod.glob.keeps I.bk) hm h) hd
theorem fR {E:Value->Shared->Prop} {pins:List (Addr×Obj)} {s:Shared} {σ:St} {H:Hp} {x:Str} {u:Value} {pos:Pos} {Q:Value->Shared->Prop} (I:Inv X pins σ H s) (hg:Gl X x) (hm:X.mg x=none) (hv:Pm x=some u) (h:Q u s)
  (hn:x≠"__name__":=by decide) (hd:(x == ("__debug__":Str))=false:=by decide):wpAny (model X.prog X.w) X.A (eval (.Name x pos) X.env) Q E s:=by
 obtain ⟨mb,h1,h2⟩:=I.mod.blt
 exact QV I.ok.kind hg (Calls.loadGlobal_builtin (by rw [I.ok.glob]; exact I.mod.glob.keeps I.bk) hm (by rw [I.ok.blt]; exact h1.keeps I.bk) ((h2 x hn).trans hv) h) hd
theorem jM {x:Str} {v:V} {u:Value} {pos:Pos} (hg:Gl X x) (hm:X.mg x=some u) (r:aH v u) (hd:(x == ("__debug__":Str))=false:=by decide):PE X (.Name x pos) (tC v):=
 fun _ _ _ H _ I h=>wm I hg hm ⟨v,H,I,r,h⟩ hd
theorem gK {x:Str} {v:V} {u:Value} {pos:Pos} (hg:Gl X x) (hm:X.mg x=none) (hv:Pm x=some u) (r:aH v u) (hn:x≠"__name__":=by decide) (hd:(x == ("__debug__":Str))=false:=by decide):PE X (.Name x pos) (tC v):=
 fun _ _ _ H _ I h=>fR I hg hm hv ⟨v,H,I,r,h⟩ hn hd
variable {a b:Expr} {ta tb:TE} {pos:Pos}
noncomputable def tB (t:TE):TT:=fun σ H Q=>t σ H fun x H1=>∃ c,x=.bl c/\Q c H1
theorem bU {e:Expr} {t:TE} (h:PE X e t) (he:∀ whole,isTrue e X.env whole=(do let v <-whole; standAt e.pos; holding [v] (truthy v)):=by intro _; rfl):PT X e (tB t):=by
 intro pins s σ H Q I hw
 refine isTrue_plain (thn (h pins s σ H _ I hw) fun v s1 ⟨x,H1,I1,r1,q1⟩=>?_) (he _)
 obtain ⟨d,rfl,q⟩:=q1
 cases r1
 exact NY ⟨H1,I1,q⟩
variable {tA tB':TT} {cR:List Expr}
noncomputable def tD (t u:TT):TT:=fun σ H Q=>t σ H fun c H1=>if c=true then u σ H1 Q else Q false H1
noncomputable def tOr (t u:TT):TT:=fun σ H Q=>t σ H fun c H1=>if c=true then Q true H1 else u σ H1 Q
noncomputable def eU (t:TT):TT:=fun σ H Q=>t σ H fun c H1=>Q (!c) H1
theorem rM (ha:PT X a tA):PW X (.BoolOp .And [a] pos) tA:=by
 intro wh pins s σ H Q I h
 refine isTrue_and (thn (ha pins s σ H Q I h) fun c s1 e=>?_)
 cases c with
 | true=>exact isTrue_and_nil e
 | false=>exact e
theorem lJ (ha:PT X a tA):PW X (.BoolOp .Or [a] pos) tA:=by
 intro wh pins s σ H Q I h
 refine isTrue_or (thn (ha pins s σ H Q I h) fun c s1 e=>?_)
 cases c with
 | false=>exact isTrue_or_nil e
 | true=>exact e
theorem qy (ha:PT X a tA) (hb:PW X (.BoolOp .And (b :: cR) pos) tB'):PW X (.BoolOp .And (a :: b :: cR) pos) (tD tA tB'):=by
 intro wh pins s σ H Q I h
 refine isTrue_and (thn (ha pins s σ H _ I h) fun c s1 ⟨H1,I1,q1⟩=>?_)
 cases c with
 | true=>exact hb wh pins s1 σ H1 Q I1 q1
 | false=>exact ⟨H1,I1,q1⟩
theorem oN (ha:PT X a tA) (hb:PW X (.BoolOp .Or (b :: cR) pos) tB'):PW X (.BoolOp .Or (a :: b :: cR) pos) (tOr tA tB'):=by
 intro wh pins s σ H Q I h
 refine isTrue_or (thn (ha pins s σ H _ I h) fun c s1 ⟨H1,I1,q1⟩=>?_)
 cases c with
 | true=>exact ⟨H1,I1,q1⟩
 | false=>exact hb wh pins s1 σ H1 Q I1 q1
theorem cF (ha:PT X a tA):PT X (.UnaryOp .Not a pos) (eU tA):=by
 intro pins s σ H Q I h
 exact isTrue_not (ha pins s σ H (fun c H1=>Q (!c) H1) I h)
noncomputable def mK (ta tb:TE):TE:=fun σ H Q=>ta σ H fun x H1=>∃ c,x=.bl c/\if c=true then tb σ H1 Q else Q (.bl false) H1
noncomputable def FV (ta tb:TE):TE:=fun σ H Q=>ta σ H fun x H1=>∃ c,x=.bl c/\if c=true then Q (.bl true) H1 else tb σ H1 Q
noncomputable def yX (ta:TE):TE:=fun σ H Q=>ta σ H fun x H1=>∃ c,x=.bl c/\Q (.bl (!c)) H1
theorem lK {op} {t:TE} (h:PE X a t):PE X (.BoolOp op [a] pos) t:=fun pins s σ H Q I hw=>BoolOp_one (h pins s σ H Q I hw)
theorem nQ (ha:PE X a ta) (hb:PE X (.BoolOp .And (b :: cR) pos) tb):PE X (.BoolOp .And (a :: b :: cR) pos) (mK ta tb):=by
 intro pins s σ H Q I h
 refine BoolOp_and (thn (ha pins s σ H _ I h) fun v s1 ⟨x,H1,I1,r1,q1⟩=>?_)
 obtain ⟨c,rfl,q1⟩:=q1
 cases r1
 refine NY ?_
 cases c with
 | true=>exact hb pins s1 σ H1 Q I1 q1
 | false=>exact ⟨.bl false,H1,I1,rfl,q1⟩
theorem KO (ha:PE X a ta) (hb:PE X (.BoolOp .Or (b :: cR) pos) tb):PE X (.BoolOp .Or (a :: b :: cR) pos) (FV ta tb):=by
 intro pins s σ H Q I h
 refine BoolOp_or (thn (ha pins s σ H _ I h) fun v s1 ⟨x,H1,I1,r1,q1⟩=>?_)
 obtain ⟨c,rfl,q1⟩:=q1
 cases r1
 refine NY ?_
 cases c with
 | false=>exact hb pins s1 σ H1 Q I1 q1
 | true=>exact ⟨.bl true,H1,I1,rfl,q1⟩
theorem Ep (ha:PE X a ta):PE X (.UnaryOp .Not a pos) (yX ta):=by
 intro pins s σ H Q I h
 refine UnaryOp_ (thn (ha pins s σ H _ I h) fun v s1 ⟨x,H1,I1,r1,q1⟩=>?_)
 obtain ⟨c,rfl,q1⟩:=q1
 cases r1
 exact not_of (NY ⟨.bl (!c),H1,I1,rfl,q1⟩)
end
end L2
namespace L2
open PySem PySem.Spec PyProof.Rows
noncomputable def SqL (K:Fg) (H:Hp) (a:Addr) (xs:List V):Prop:=
 Rd H a (.lst xs)\/
  ∃ (o:Obj) (its:Array Value) (n:Nat),K.lookup a=some o/\o.cls=.type "list"/\o.dict=none/\o.data=.seq its n/\its.size<=LN/\aG xs its.toList
noncomputable def SqT (K:Fg) (H:Hp) (a:Addr) (xs:List V):Prop:=
 Rd H a (.tup xs)\/
  ∃ (o:Obj) (its:Array Value) (n:Nat),K.lookup a=some o/\o.cls=.type "tuple"/\o.data=.seq its n/\its.size<=LN/\aG xs its.toList
noncomputable def Li:Value->Option V
 | .none=>some .non
 | .bool b=>some (.bl b)
 | .int i _=>some (.int i)
 | .str x _=>some (.str x)
 | .bytes b _=>some (.byt b)
 | .float b _=>some (.flt b)
 | .ref a=>some (.ref a)
 | .type n=>some (.ty n)
 | _=>none
theorem aH.abs {x:V} {u:Value} (r:aH x u):Li u=some x:=by
 cases x with
 | non=>cases r; rfl
 | bl _=>cases r; rfl
 | int _=>obtain ⟨t,rfl⟩:=r; rfl
 | str _=>obtain ⟨t,rfl⟩:=r; rfl
 | byt _=>obtain ⟨t,rfl⟩:=r; rfl
 | flt _=>obtain ⟨t,rfl⟩:=r; rfl
 | ref _=>cases r; rfl
 | ty _=>cases r; rfl
theorem aH.inj {x y:V} {u:Value} (r:aH x u) (q:aH y u):x=y:=LR (r.abs.symm.trans q.abs)
theorem aG.inj {xs ys:List V} {us:List Value} (h:aG xs us):aG ys us->xs=ys:=by
 induction h generalizing ys with
 | nil=>intro h; cases h; rfl
 | cons r t ih=>intro h; cases h with
  | cons r' t'=>rw [r.inj r',ih t']
section
variable {X:Cx} {pins:List (Addr×Obj)} {σ:St} {H:Hp} {s:Shared} {a:Addr} {xs ys:List V}
theorem SqL.of {K:Fg} (h:H a=some (.lst xs)):SqL K H a xs:=.inl (.inl h)
theorem SqT.of {K:Fg} (h:H a=some (.tup xs)):SqT K H a xs:=.inl (.inl h)
theorem Inv.list (I:Inv X pins σ H s) (h:SqL X.K H a xs):∃ its:List Value,aG xs its/\PlainL s.heap a its.toArray/\xs.length<=LN:=by
 rcases h with h | ⟨o,its,n,hk,hc,hd,hs,hz,r⟩
 ·obtain ⟨z,its,n,r,e⟩:=h.ok I.hok
  exact ⟨its,r,⟨_,n,e,rfl,rfl,rfl⟩,z⟩
 ·refine ⟨its.toList,r,⟨o,n,I.kIn a o hk,hc,hd,by simpa using hs⟩,?_⟩
  have e:=r.length
  simp only [Mr] at e
  omega
theorem Inv.tuple (I:Inv X pins σ H s) (h:SqT X.K H a xs):∃ its:List Value,aG xs its/\IsTup s.heap a its.toArray/\xs.length<=LN:=by
 rcases h with h | ⟨o,its,n,hk,hc,hs,hz,r⟩
 ·obtain ⟨z,its,r,p⟩:=h.ok I.hok
  exact ⟨its,r,p.tup,z⟩
 ·refine ⟨its.toList,r,⟨o,I.kIn a o hk,hc,n,by simpa using hs⟩,?_⟩
  have e:=r.length
  simp only [Mr] at e
  omega
theorem Inv.list_inj (I:Inv X pins σ H s) (h:SqL X.K H a xs) (h':SqL X.K H a ys):xs=ys:=by
 obtain ⟨its,r,⟨o,n,e,_,_,d⟩,_⟩:=I.list h
 obtain ⟨its',r',⟨o',n',e',_,_,d'⟩,_⟩:=I.list h'
 rw [e] at e'; cases e'
 rw [d] at d'
 injection d' with d1 _
 have:its=its':=by simpa using congrArg Array.toList d1
 subst this
 exact r.inj r'
theorem Inv.tuple_inj (I:Inv X pins σ H s) (h:SqT X.K H a xs) (h':SqT X.K H a ys):xs=ys:=by
 obtain ⟨its,r,⟨o,e,_,n,d⟩,_⟩:=I.tuple h
 obtain ⟨its',r',⟨o',e',_,n',d'⟩,_⟩:=I.tuple h'
 rw [e] at e'; cases e'
 rw [d] at d'
 injection d' with d1 _
 have:its=its':=by simpa using congrArg Array.toList d1
 subst this
 exact r.inj r'
end
noncomputable abbrev Cx.wish (X:Cx) (E:Value->Shared->Prop):Cx:={ X with xe:=E }
noncomputable abbrev Cx.nox (X:Cx):Cx:=X.wish fun _ _=>False
theorem Cx.Ok.wish {X:Cx} (ok:X.Ok) (E:Value->Shared->Prop):(X.wish E).Ok:=
 ⟨ok.mod,ok.kind,ok.glob,ok.blt,ok.above,ok.inj,ok.has,ok.cab,ok.hd,ok.frames,ok.stk,ok.exf,ok.bs,ok.bsz,ok.noex,ok.exfs,ok.funs,ok.frf⟩
theorem Cx.Ok.unwish {X:Cx} {E:Value->Shared->Prop} (ok:(X.wish E).Ok):X.Ok:=
 ⟨ok.mod,ok.kind,ok.glob,ok.blt,ok.above,ok.inj,ok.has,ok.cab,ok.hd,ok.frames,ok.stk,ok.exf,ok.bs,ok.bsz,ok.noex,ok.exfs,ok.funs,ok.frf⟩
section
variable {X:Cx} {pins:List (Addr×Obj)} {σ:St} {H:Hp} {s:Shared} {E:Value->Shared->Prop}
theorem Inv.wish (I:Inv X pins σ H s) (E:Value->Shared->Prop):Inv (X.wish E) pins σ H s:=⟨I.ok.wish E,I.os,I.bare,I.base,I.loc,I.cell,I.free,I.freeC,I.pin,I.hok,I.len⟩
theorem Inv.unwish (I:Inv (X.wish E) pins σ H s):Inv X pins σ H s:=⟨I.ok.unwish,I.os,I.bare,I.base,I.loc,I.cell,I.free,I.freeC,I.pin,I.hok,I.len⟩
theorem SP.unwish {D:jL} {f:Flow} {s':Shared} (h:SP (X.wish E) pins D f s'):SP X pins D f s':=by
 cases f with
 | next=>obtain ⟨σ',H',I,q⟩:=h; exact ⟨σ',H',I.unwish,q⟩
 | brk=>obtain ⟨σ',H',I,q⟩:=h; exact ⟨σ',H',I.unwish,q⟩
 | cont=>obtain ⟨σ',H',I,q⟩:=h; exact ⟨σ',H',I.unwish,q⟩
 | ret u=>obtain ⟨v,σ',H',I,r,q⟩:=h; exact ⟨v,σ',H',I.unwish,r,q⟩
theorem PE.nox {e:Expr} {t:TE} (h:PE X.nox e t):PE X e t:=fun pins s σ H Q I hw=>
 Nh (h pins s σ H Q (I.wish _) hw) (fun _ _ ⟨v,H',I',r,q⟩=>⟨v,H',I'.unwish,r,q⟩) fun _ _ z=>NH z
theorem PT.nox {e:Expr} {t:TT} (h:PT X.nox e t):PT X e t:=fun pins s σ H Q I hw=>
 Nh (h pins s σ H Q (I.wish _) hw) (fun _ _ ⟨H',I',q⟩=>⟨H',I'.unwish,q⟩) fun _ _ z=>NH z
theorem PSs.nox {st:List Stmt} {t:TS} (h:PSs X.nox st t):PSs X st t:=fun pins s σ H D I hw=>
 Nh (h pins s σ H D (I.wish _) hw) (fun _ _ q=>q.unwish) fun _ _ z=>NH z
end
section
variable {X:Cx} {st:Stmt} {cR:List Stmt} {t u:TS} {e:Expr} {te:TE} {pos:Pos}
noncomputable def bh:TS:=fun D σ H=>D.nx σ H
noncomputable def ar (t u:TS):TS:=fun D σ H=>t { D with nx:=u D } σ H
theorem aQ:PSs X [] bh:=fun _ _ σ H _ I h=>Qb ⟨σ,H,I,h⟩
theorem ag (h1:PS X st t) (h2:PSs X cR u):PSs X (st :: cR) (ar t u):=by
 intro pins s σ H D I h
 refine T5 (thn (h1 pins s σ H { D with nx:=u D } I h) fun f s1 q=>?_)
 cases f with
 | next=>
  obtain ⟨σ',H',I',q⟩:=q
  exact h2 pins s1 σ' H' D I' q
 | ret v=>exact q
 | brk=>exact q
 | cont=>exact q
theorem aj (h1:PS X st t):PSs X [st] t:=by
 intro pins s σ H D I h
 refine T5 (thn (h1 pins s σ H D I h) fun f s1 q=>?_)
 cases f with
 | next=>exact Qb q
 | ret v=>exact q
 | brk=>exact q
 | cont=>exact q
theorem Inv.quiet {pins:List (Addr×Obj)} {σ:St} {H:Hp} {s:Shared} (I:Inv X pins σ H s):interactive X.env=false:=by simp [interactive,I.ok.kind]
noncomputable def dG (te:TE):TS:=fun D σ H=>te σ H fun _ H1=>D.nx σ H1
theorem cr (he:PE X e te) (hs:S6 e none pos.line X.env=pure false:=by rfl):PS X (.Expr e pos) (dG te):=by
 intro pins s σ H D I h
 exact wpAny_Expr_any (thn (he pins s σ H _ I h) fun v s1 ⟨x,H1,I1,r1,q1⟩=>⟨σ,H1,I1,q1⟩) I.quiet hs
noncomputable def aI (te:TE):TS:=fun D σ H=>te σ H D.rt
theorem aw (he:PE X e te):PS X (.Return (some e) pos) (aI te):=by
 intro pins s σ H D I h
 exact wpAny_Return_some (thn (he pins s σ H _ I h) fun v s1 ⟨x,H1,I1,r1,q1⟩=>⟨x,σ,H1,I1,r1,q1⟩)
noncomputable def bB (c:TT) (t u:TS):TS:=fun D σ H=>c σ H fun b H1=>if b=true then t D σ H1 else u D σ H1
theorem bp {c:Expr} {a b:List Stmt} {tc:TT} (hc:PT X c tc) (ha:PSs X a t) (hb:PSs X b u):PS X (.If c a b pos) (bB tc t u):=by
 intro pins s σ H D I h
 refine wpAny_If (thn (hc pins s σ H _ I h) fun d s1 ⟨H1,I1,q1⟩=>?_)
 cases d with
 | true=>exact ha pins s1 σ H1 D I1 q1
 | false=>exact hb pins s1 σ H1 D I1 q1
noncomputable def qz:TS:=fun _ _ _=>False
theorem oO:PS X st qz:=fun _ _ _ _ _ _ h=>h.elim
end
noncomputable abbrev TG:=V->St->Hp->(St->Hp->Prop)->Prop
noncomputable abbrev TGs:=List V->St->Hp->(St->Hp->Prop)->Prop
noncomputable def PG (X:Cx) (target:Expr) (t:TG):Prop:=
 ∀ (pins:List (Addr×Obj)) (s:Shared) (σ:St) (H:Hp) (v:V) (u:Value) (Q:St->Hp->Prop),Inv X pins σ H s->aH v u->t v σ H Q->
  wpAny (model X.prog X.w) X.A (assign target X.env u) (fun _ s'=>∃ σ' H',Inv X pins σ' H' s'/\Q σ' H') X.xe s
noncomputable def PGs (X:Cx) (ts:List Expr) (t:TGs):Prop:=
 ∀ (pins:List (Addr×Obj)) (s:Shared) (σ:St) (H:Hp) (vs:List V) (us:List Value) (Q:St->Hp->Prop),Inv X pins σ H s->aG vs us->t vs σ H Q->
  wpAny (model X.prog X.w) X.A (assignInOrder ((Qc ts X.env).map (·.2)) us) (fun _ s'=>∃ σ' H',Inv X pins σ' H' s'/\Q σ' H') X.xe s
noncomputable abbrev Cm:=V->V->V->Hp->(Hp->Prop)->Prop
noncomputable def FW (X:Cx) (t:Cm):Prop:=
 ∀ (pins:List (Addr×Obj)) (s:Shared) (σ:St) (H:Hp) (o i v:V) (ov iv u:Value) (Q:Hp->Prop),Inv X pins σ H s->aH o ov->aH i iv->aH v u->t o i v H Q->
  wpAny (model X.prog X.w) X.A (setItem ov iv u) (fun _ s'=>∃ H',Inv X pins σ H' s'/\Q H') X.xe s
section
variable {X:Cx} {pos:Pos}
noncomputable def am (i:Nat):TG:=fun v σ H Q=>Q (σ.set i (some v)) H
theorem ay {i:Nat} {x:Str} (hN:X.N.Nodup) (hi:X.N[i]?=some x) (hx:Loc X.env.scope x) (hf:X.fn x=true\/X.env.scope.names.lookup x=some .local:=by first | exact .inl rfl | exact .inr rfl | assumption):PG X (.Name x pos) (am i):=by
 intro pins s σ H v u Q I r h
 exact Tr (zq I hN hi hx r (fun s' I'=>⟨_,H,I',h⟩) hf)
noncomputable def ib:TGs:=fun vs σ H Q=>vs=[]/\Q σ H
noncomputable def bC (t:TG) (u:TGs):TGs:=fun vs σ H Q=>∃ v r,vs=v :: r/\t v σ H fun σ' H'=>u r σ' H' Q
theorem dN:PGs X [] ib:=by
 intro pins s σ H vs us Q I r h
 obtain ⟨e,h⟩:=h
 subst e
 cases r
 exact assignInOrder_nil ⟨σ,H,I,h⟩
theorem bd {e:Expr} {es:List Expr} {t:TG} {u:TGs} (h1:PG X e t) (h2:PGs X es u)
  (hs:(Qc (e :: es) X.env).map (·.2)=assign e X.env :: (Qc es X.env).map (·.2):=by rfl):PGs X (e :: es) (bC t u):=by
 intro pins s σ H vs us Q I r h
 obtain ⟨v,vr,e1,h⟩:=h
 subst e1
 cases r with
 | cons r rr=>
  rw [hs]
  refine assignInOrder_cons (thn (h1 pins s σ H _ _ _ I r h) fun _ s1 ⟨σ1,H1,I1,q1⟩=>?_)
  exact h2 pins s1 σ1 H1 _ _ Q I1 rr q1
noncomputable def ic (K:Fg) (n:Nat) (t:TGs):TG:=fun v σ H Q=>∃ a xs,v=.ref a/\SqT K H a xs/\xs.length=n/\t xs σ H Q
theorem fj {es:List Expr} {k:Nat} {t:TGs} {n:Nat} (hc:X.calm=true) (h:PGs X es t)
  (hn:(Qc es X.env).length=n:=by rfl) (hst:(Qc es X.env).findIdx? (·.1)=none:=by rfl):PG X (.Tuple es k pos) (ic X.K n t):=by
 intro pins s σ H v u Q I r hw
 obtain ⟨a,xs,e1,hq,hl,hw⟩:=hw
 subst e1
 cases r
 obtain ⟨its,rv,ht,hz⟩:=I.tuple hq
 refine assign_Tuple_tuple (I.ok.hd hc) ht (by simp [hn,<-hl,rv.length]) hst fun h' hx=>?_
 have I1:Inv X pins σ H { s with heap:=h' }:=I.kept (t':=s.toks) fun b o e=>hx b o (Ml (LK e)) e
 exact h pins _ σ H xs _ Q I1 (by simpa using rv) hw
noncomputable def qA (to ti:TE) (t:Cm):TG:=fun v σ H Q=>to σ H fun o H1=>ti σ H1 fun i H2=>t o i v H2 fun H3=>Q σ H3
theorem qB {o i:Expr} {to ti:TE} {t:Cm} (ho:PE X o to) (hi:PE X i ti) (hs:FW X t)
  (ha:∀ v,assign (.Subscript o i pos) X.env v=(do
   let ov <-holding [v] (eval o X.env)
   let iv <-holding [v,ov] (eval i X.env)
   standAt pos
   holding [v,ov,iv] (setItem ov iv v)
   release [v,ov,iv] []):=by intro _; rfl):PG X (.Subscript o i pos) (qA to ti t):=by
 intro pins s σ H v u Q I r h
 rw [ha]
 refine Lw (MX (thn (ho pins s σ H _ I h) fun ov s1 ⟨x,H1,I1,r1,q1⟩=>?_))
 refine Lw (MX (thn (hi pins s1 σ H1 _ I1 q1) fun iv s2 ⟨y,H2,I2,r2,q2⟩=>?_))
 refine Lw (SH (Lw (MX (thn (hs pins s2 σ H2 x y v ov iv u _ I2 r1 r2 r q2) fun _ s3 ⟨H3,I3,q3⟩=>?_))))
 exact wpAny_release ⟨σ,H3,I3,q3⟩
noncomputable def aE (te:TE) (g:TG):TS:=fun D σ H=>te σ H fun x H1=>g x σ H1 D.nx
theorem nR {tg e:Expr} {te:TE} {g:TG} (he:PE X e te) (hg:PG X tg g) (hs:swapsWithSole [tg] e pos.line X.env=pure false:=by rfl) (hw:swappedStores [tg] e X.env=pure none:=by rfl)
  (h1:(Qc [tg] X.env).map (·.2)=[assign tg X.env]:=by rfl):PS X (.Assign [tg] e pos) (aE te g):=by
 intro pins s σ H D I h
 refine wpAny_Assign_stores (thn (he pins s σ H _ I h) fun v s1 ⟨x,H1,I1,r1,q1⟩=>?_) hs hw
 rw [h1]
 exact thn (hg pins s1 σ H1 x v _ I1 r1 q1) fun _ s2 q=>q
theorem ax {i:Nat} {x:Str} {e:Expr} {te:TE} {pos':Pos} (hN:X.N.Nodup) (hi:X.N[i]?=some x) (hx:Loc X.env.scope x) (he:PE X e te) (hs:S6 e (some (.Name x pos')) pos.line X.env=pure false:=by rfl) (hf:X.fn x=true\/X.env.scope.names.lookup x=some .local:=by first | exact .inl rfl | exact .inr rfl | assumption):
  PS X (.Assign [.Name x pos'] e pos) (aE te (am i)):=by
 intro pins s σ H D I h
 refine wpAny_Assign_Name (thn (he pins s σ H _ I h) fun v s1 ⟨y,H1,I1,r1,q1⟩=>?_) hs
 exact zq I1 hN hi hx r1 (fun s2 I2=>⟨_,H1,I2,q1⟩) hf
end
section
variable {X:Cx} {pos:Pos}
noncomputable def nU (c:TT) (tb:TS):TS:=fun D σ H=>∃ W:Nat->St->Hp->Prop,(∃ m,W m σ H)/\∀ m σ H,W m σ H->
 c σ H fun b H1=>if b=true then ∃ N:St->Hp->Prop,(∀ σ' H',N σ' H'->∃ m',m' < m/\W m' σ' H')/\tb { D with nx:=N,ct:=N,bk:=D.nx } σ H1 else D.nx σ H1
theorem tE {c:Expr} {body:List Stmt} {tc:TT} {tb:TS} (hp:MC (model X.prog X.w) X.A X.env X.xe) (hc:PT X c tc) (hb:PSs X body tb):PS X (.While c body [] pos) (nU tc tb):=by
 intro pins s σ H D I h
 obtain ⟨W,⟨m0,w0⟩,turn⟩:=h
 refine wpAny_While (codeAny_whileLoop (fun n s'=>∃ σ' H',Inv X pins σ' H' s'/\W n σ' H') ?_ m0 ⟨σ,H,I,w0⟩)
 rintro n s1 ⟨σ1,H1,I1,w1⟩
 refine Ot hp (thn (hc pins s1 σ1 H1 _ I1 (turn n σ1 H1 w1)) fun b s2 ⟨H2,I2,q2⟩=>?_)
 cases b with
 | true=>
  obtain ⟨N,hN,q2⟩:=q2
  rw [if_pos rfl]
  refine Ot hp (thn (hb pins s2 σ1 H2 _ I2 q2) fun f s3 q3=>?_)
  cases f with
  | next=>
   obtain ⟨σ3,H3,I3,n3⟩:=q3
   obtain ⟨m',hm,w3⟩:=hN σ3 H3 n3
   exact ⟨m',hm,σ3,H3,I3,w3⟩
  | cont=>
   obtain ⟨σ3,H3,I3,n3⟩:=q3
   obtain ⟨m',hm,w3⟩:=hN σ3 H3 n3
   exact ⟨m',hm,σ3,H3,I3,w3⟩
  | brk=>exact q3
  | ret v=>exact q3
 | false=>
  rw [if_neg LM]
  exact Qb ⟨σ1,H2,I2,q2⟩
end
set_option genInjectivity false in
structure It where
 go:Nat->Hp->Prop
 yld:Nat->Hp->V->Hp->Prop
 stop:Nat->Hp->Prop
noncomputable def kK (X:Cx) (pins:List (Addr×Obj)) (H:Hp) (b:Addr):Prop:=
 H b=none/\b≠X.env.locals/\b∉X.fs/\(b∈X.ex\/X.s₀.heap.objs.size<=b)/\(∀ x c,X.env.cells.lookup x=some c->c≠b)/\∀ p∈X.pn++pins,p.1≠b
theorem Inv.fpOk {X:Cx} {pins:List (Addr×Obj)} {σ:St} {H H':Hp} {s:Shared} {b:Addr} (I:Inv X pins σ H s) (hb:s.heap.objs.size<=b) (hn:H' b=none):kK X pins H' b:=by
 refine ⟨hn,NA (L8 I.lt hb),I.nofs hb,.inr (Me I.sz hb),fun x c e z=>?_,fun p hp z=>?_⟩
 ·obtain ⟨v,q⟩:=I.cell x c e
  exact absurd (L8 q.lt (by rw [z]; exact hb)) (Nz _)
 ·exact absurd (L8 (LK (I.pin p hp).1) (by rw [z]; exact hb)) (Nz _)
structure oP (P:Program) (w:World) (K:Fg) (tg:Expr) (J:It) (fp:List Addr) (it:Addr) (tn:Nat->Heap->Prop):Prop where
 mem:it∈fp
 obj:∀ i h,tn i h->∀ b∈fp,∃ o,h.get? b=some o/\∀ v,o.data≠.cell v
 keep:∀ i h h',tn i h->(∀ b∈fp,∀ o,h.get? b=some o->h'.get? b=some o)->tn i h'
 item:∀ (X:Cx),X.prog=P->X.w=w->X.K=K->X.calm=true->∀ (i:Nat) (pins:List (Addr×Obj)) (s:Shared) (σ:St) (H:Hp) (E:Value->Shared->Prop),Inv X pins σ H s->(∀ b∈fp,kK X pins H b)->tn i s.heap->J.go i H->
  wpAny (model P w) X.A (pyNext (.ref it)) (fun r s1=>∃ u,r=some u/\
   wpAny (model P w) X.A (Qd tg (.ref it) u) (fun _ s2=>∃ x H',Inv X pins σ H' s2/\aH x u/\J.yld i H x H'/\tn (i + 1) s2.heap/\∀ b∈fp,H' b=none) E s1) E s
 done:∀ (X:Cx),X.prog=P->X.w=w->X.K=K->X.calm=true->∀ (i:Nat) (pins:List (Addr×Obj)) (s:Shared) (σ:St) (H:Hp) (E:Value->Shared->Prop),Inv X pins σ H s->(∀ b∈fp,kK X pins H b)->tn i s.heap->J.stop i H->
  wpAny (model P w) X.A (pyNext (.ref it)) (fun r s1=>r=none/\Inv X pins σ H s1) E s
 self:∀ (A:Around) (i:Nat) (s:Shared) (Q:Value->Shared->Prop) (E:Value->Shared->Prop),tn i s.heap->Q (.ref it) s->wpAny (model P w) A (pyIter (.ref it)) Q E s
noncomputable abbrev TI:=St->Hp->(It->Hp->Prop)->Prop
noncomputable def PIE (X:Cx) (pins:List (Addr×Obj)) (σ:St) (tg:Expr) (R:It->Hp->Prop) (itv:Value) (s2:Shared):Prop:=
 ∃ (it:Addr) (fp:List Addr) (tn:Nat->Heap->Prop) (J:It) (H':Hp),itv=.ref it/\Inv X pins σ H' s2/\oP X.prog X.w X.K tg J fp it tn/\tn 0 s2.heap/\(∀ b∈fp,kK X pins H' b)/\R J H'
noncomputable def PI (X:Cx) (tg iter:Expr) (wi:TI):Prop:=
 ∀ (pins:List (Addr×Obj)) (s:Shared) (σ:St) (H:Hp) (R:It->Hp->Prop),Inv X pins σ H s->wi σ H R->
  wpAny (model X.prog X.w) X.A (eval iter X.env) (fun v s1=>wpAny (model X.prog X.w) X.A (pyIter v) (PIE X pins σ tg R) X.xe s1) X.xe s
theorem yY {M : Model} {A : Around} {E : Value → Shared → Prop} {s : Shared} {tg : Expr} {it : Addr} {u : Value} {o : Obj} {n : String} {vs : Array Value} {Q : Unit → Shared → Prop} (ho : s.heap.get? it = some o) (hc : o.cls = .type n) (hd : o.data = .fields vs)
    (hn : ["enumerate", "zip", "dict_itemiterator", "dict_reverseitemiterator", "odict_iterator", "itertools.zip_longest", "itertools.pairwise"].contains n = false) (hQ : Q () s) : wpAny M A (Qd tg (.ref it) u) Q E s := by
  unfold Qd
  cases tg <;> first
    | exact Ly hQ
    | (cases u <;> first
        | exact Ly hQ
        | (refine Lw (Sn ho ?_)
           rw [hc, hd]
           show wpAny M A (if (["enumerate", "zip", "dict_itemiterator", "dict_reverseitemiterator", "odict_iterator", "itertools.zip_longest", "itertools.pairwise"].contains n && vs[0]? == some (rawInt _)) = true then _ else _) Q E s
           rw [if_neg (by intro h; rw [hn, Qz] at h; cases h)]
           exact Ly hQ))
noncomputable def Itl (K:Fg) (a:Addr):It:=
 ⟨fun i H=>∃ xs x,SqL K H a xs/\xs[i]?=some x,fun i H x H'=>H'=H/\∀ xs,SqL K H a xs->xs[i]?=some x,fun i H=>∃ xs,SqL K H a xs/\xs.length<=i⟩
noncomputable def Itt (K:Fg) (a:Addr):It:=
 ⟨fun i H=>∃ xs x,SqT K H a xs/\xs[i]?=some x,fun i H x H'=>H'=H/\∀ xs,SqT K H a xs->xs[i]?=some x,fun i H=>∃ xs,SqT K H a xs/\xs.length<=i⟩
noncomputable def Itr (lo:Int) (n:Nat):It:=⟨fun i _=>i < n,fun i H x H'=>H'=H/\x=.int (lo + i),fun i _=>n<=i⟩
theorem Er {P:Program} {w:World} {K:Fg} {tg:Expr} (a it:Addr):oP P w K tg (Itl K a) [it] it (fun i h=>h.IsListIter it a i) where
 mem:=by simp
 obj:=fun i h st b hb=>by
  have e:b=it:=by simpa using hb
  subst e
  obtain ⟨o,e,c,d⟩:=st
  exact ⟨o,e,fun v z=>by rw [d] at z; cases z⟩
 keep:=fun i h h' st k=>st.at fun o e=>k it (by simp) o e
 item:=by
  intro X hP hw hK hc i pins s σ H E I hf st hg
  subst hP hw hK
  obtain ⟨xs,x,hq,hx⟩:=hg
  obtain ⟨its,rv,p,hz⟩:=I.list hq
  obtain ⟨u,hu,ru⟩:=rv.get hx
  obtain ⟨f0,f1,f2,f3,f4,f5⟩:=hf it (by simp)
  refine wpAny_pyNext_list_item st p.isList (x:=u) (by simpa using hu) fun h' st' sb=>?_
  have I1:Inv X pins σ H { s with heap:=h' }:=I.turned (t':=s.toks) (fun b o hb e=>(sb.2 b hb).trans e) f0 f1 f3 f4 f5
  obtain ⟨o,e,c,d⟩:=id st'
  exact ⟨u,rfl,yY (s:={ s with heap:=h' }) e c d (by decide) ⟨x,H,I1,ru,⟨rfl,fun ys hy=>by rw [I.list_inj hy hq]; exact hx⟩,st',fun b hb=>(hf b hb).1⟩⟩
 done:=by
  intro X hP hw hK hc i pins s σ H E I hf st hg
  subst hP hw hK
  obtain ⟨xs,hq,hx⟩:=hg
  obtain ⟨its,rv,p,hz⟩:=I.list hq
  obtain ⟨f0,f1,f2,f3,f4,f5⟩:=hf it (by simp)
  have hl:=rv.length
  exact wpAny_pyNext_list_end (I.ok.hd hc) st p.isList (by simp; omega) fun h' eb=>⟨rfl,I.turned (t':=s.toks) (fun b o hb e=>eb b o hb e) f0 f1 f3 f4 f5⟩
 self:=fun _ _ _ _ _ st h=>wpAny_pyIter_listiter st h
theorem Cn {P:Program} {w:World} {K:Fg} {tg:Expr} (a it:Addr):oP P w K tg (Itt K a) [it] it (fun i h=>h.IsTupleIter it a i) where
 mem:=by simp
 obj:=fun i h st b hb=>by
  have e:b=it:=by simpa using hb
  subst e
  obtain ⟨o,e,c,d⟩:=st
  exact ⟨o,e,fun v z=>by rw [d] at z; cases z⟩
 keep:=fun i h h' st k=>st.at fun o e=>k it (by simp) o e
 item:=by
  intro X hP hw hK hc i pins s σ H E I hf st hg
  subst hP hw hK
  obtain ⟨xs,x,hq,hx⟩:=hg
  obtain ⟨its,rv,p,hz⟩:=I.tuple hq
  obtain ⟨u,hu,ru⟩:=rv.get hx
  obtain ⟨f0,f1,f2,f3,f4,f5⟩:=hf it (by simp)
  refine wpAny_pyNext_tuple_item st (show s.heap.IsTuple a its.toArray from p) (x:=u) (by simpa using hu) fun h' st' sb=>?_
  have I1:Inv X pins σ H { s with heap:=h' }:=I.turned (t':=s.toks) (fun b o hb e=>(sb.2 b hb).trans e) f0 f1 f3 f4 f5
  obtain ⟨o,e,c,d⟩:=id st'
  exact ⟨u,rfl,yY (s:={ s with heap:=h' }) e c d (by decide) ⟨x,H,I1,ru,⟨rfl,fun ys hy=>by rw [I.tuple_inj hy hq]; exact hx⟩,st',fun b hb=>(hf b hb).1⟩⟩
 done:=by
  intro X hP hw hK hc i pins s σ H E I hf st hg
  subst hP hw hK
  obtain ⟨xs,hq,hx⟩:=hg
  obtain ⟨its,rv,p,hz⟩:=I.tuple hq
  obtain ⟨f0,f1,f2,f3,f4,f5⟩:=hf it (by simp)
  have hl:=rv.length
  exact wpAny_pyNext_tuple_end (I.ok.hd hc) st (show s.heap.IsTuple a its.toArray from p) (by simp; omega) fun h' eb=>⟨rfl,I.turned (t':=s.toks) (fun b o hb e=>eb b o hb e) f0 f1 f3 f4 f5⟩
 self:=fun _ _ _ _ _ st h=>wpAny_pyIter_tupleiter st h
theorem Co {P:Program} {w:World} {K:Fg} {tg:Expr} (it:Addr) (lo:Int) (n:Nat):oP P w K tg (Itr lo n) [it] it (fun i h=>IsRangeIter h it (lo + (i:Nat) * 1) ((n:Int) - (i:Nat)) 1) where
 mem:=by simp
 obj:=fun i h st b hb=>by
  have e:b=it:=by simpa using hb
  subst e
  exact ⟨_,st,fun v z=>by
   have z':Data.fields _=Data.cell v:=z
   cases z'⟩
 keep:=fun i h h' st k=>k it (by simp) _ st
 item:=by
  intro X hP hw hK hc i pins s σ H E I hf st hg
  subst hP hw hK
  obtain ⟨f0,f1,f2,f3,f4,f5⟩:=hf it (by simp)
  have W:=Walks.range (prog:=X.prog) (w:=X.w) (I.ok.hd hc) it lo 1 n
  refine W.item i s _ _ hg st fun v h' tk hv st' kk=>?_
  obtain ⟨t,rfl⟩:=hv
  have I1:Inv X pins σ H { s with heap:=h',toks:=tk }:=I.turned (fun b o hb e=>kk b o (by simpa using hb) e) f0 f1 f3 f4 f5
  refine ⟨_,rfl,yY (s:={ s with heap:=h',toks:=tk }) (n:="range_iterator") st' rfl rfl (by decide) ⟨.int (lo + i),H,I1,⟨t,?_⟩,⟨rfl,rfl⟩,st',fun b hb=>(hf b hb).1⟩⟩
  rw [Int.mul_one]
 done:=by
  intro X hP hw hK hc i pins s σ H E I hf st hg
  subst hP hw hK
  obtain ⟨f0,f1,f2,f3,f4,f5⟩:=hf it (by simp)
  exact wpAny_pyNext_range_end (I.ok.hd hc) st (by have:n<=i:=hg; omega) fun h' eb=>⟨rfl,I.turned (t':=s.toks) (fun b o hb e=>eb b o hb e) f0 f1 f3 f4 f5⟩
 self:=fun _ _ _ _ _ st h=>wpAny_pyIter_rangeiter st h
end L2
namespace L2
open PySem PySem.Spec PyProof.Rows
section
variable {X:Cx} {tg:Expr}
noncomputable def du (K:Fg) (tl:TE):TI:=fun σ H R=>tl σ H fun x H1=>∃ a,x=.ref a/\(∃ xs,SqL K H1 a xs)/\R (Itl K a) H1
noncomputable def wn (K:Fg) (tl:TE):TI:=fun σ H R=>tl σ H fun x H1=>∃ a,x=.ref a/\(∃ xs,SqT K H1 a xs)/\R (Itt K a) H1
theorem cc {l:Expr} {tl:TE} (hl:PE X l tl):PI X tg l (du X.K tl):=by
 intro pins s σ H R I h
 refine thn (hl pins s σ H _ I h) fun v s1 ⟨x,H1,I1,r1,q1⟩=>?_
 obtain ⟨a,e,⟨xs,hq⟩,q⟩:=q1
 subst e
 cases r1
 obtain ⟨its,rv,p,hz⟩:=I1.list hq
 refine O3 p.isList ?_
 refine ⟨s1.heap.objs.size,[s1.heap.objs.size],_,_,H1,rfl,I1.kept (t':=s1.toks) fun b o e=>Lx _ e,Er a _,⟨_,LH _ rfl,rfl,rfl⟩,fun b hb=>?_,q⟩
 have e:b=s1.heap.objs.size:=by simpa using hb
 subst e
 exact I1.fpOk (LC _) (I1.hok.fresh (LC _))
theorem ux {l:Expr} {tl:TE} (hl:PE X l tl):PI X tg l (wn X.K tl):=by
 intro pins s σ H R I h
 refine thn (hl pins s σ H _ I h) fun v s1 ⟨x,H1,I1,r1,q1⟩=>?_
 obtain ⟨a,e,⟨xs,hq⟩,q⟩:=q1
 subst e
 cases r1
 obtain ⟨its,rv,p,hz⟩:=I1.tuple hq
 refine S7 (show s1.heap.IsTuple a its.toArray from p) ?_
 refine ⟨s1.heap.objs.size,[s1.heap.objs.size],_,_,H1,rfl,I1.kept (t':=s1.toks) fun b o e=>Lx _ e,Cn a _,⟨_,LH _ rfl,rfl,rfl⟩,fun b hb=>?_,q⟩
 have e:b=s1.heap.objs.size:=by simpa using hb
 subst e
 exact I1.fpOk (LC _) (I1.hok.fresh (LC _))
theorem FX {pins:List (Addr×Obj)} {σ:St} {H:Hp} {s:Shared} {R:It->Hp->Prop} {E:Value->Shared->Prop} {lo hi:Int} {t u v:Tok} {tk:Nat} (I:Inv X pins σ H s) (h1:-(2 ^ 62)<=lo) (h2:lo < 2 ^ 62) (h3:-(2 ^ 62)<=hi) (h4:hi < 2 ^ 62)
  (q:R (Itr lo (hi - lo).toNat) H):wpAny (model X.prog X.w) X.A (pyIter (.ref s.heap.objs.size)) (PIE X pins σ tg R) E { s with heap:=s.heap.push { cls:=.type "range",data:=.fields #[.int lo t,.int hi u,.int 1 v] },toks:=tk }:=by
 refine wpAny_pyIter_range (IsRange.new ..) (UJ h1 h2 h3 h4) ?_
 have I1:Inv X pins σ H { s with heap:=s.heap.push { cls:=.type "range",data:=.fields #[.int lo t,.int hi u,.int 1 v] },toks:=tk }:=I.kept fun b o e=>Lx _ e
 refine ⟨(s.heap.push { cls:=.type "range",data:=.fields #[.int lo t,.int hi u,.int 1 v] }).objs.size,[(s.heap.push { cls:=.type "range",data:=.fields #[.int lo t,.int hi u,.int 1 v] }).objs.size],_,_,H,rfl,
  I1.kept (t':=tk) fun b o e=>Lx _ e,Co _ lo (hi - lo).toNat,?_,fun b hb=>?_,q⟩
 ·have e1:lo + ((0:Nat):Int) * 1=lo:=by simp
  have e2:(((hi - lo).toNat:Nat):Int) - ((0:Nat):Int)=Pw lo hi 1:=by rw [SI]; split <;> omega
  show IsRangeIter _ _ (lo + ((0:Nat):Int) * 1) ((((hi - lo).toNat:Nat):Int) - ((0:Nat):Int)) 1
  rw [e1,e2]
  exact LH _ rfl
 ·have e:b=(s.heap.push { cls:=.type "range",data:=.fields #[.int lo t,.int hi u,.int 1 v] }).objs.size:=by simpa using hb
  subst e
  exact I1.fpOk (LC _) (I1.hok.fresh (LC _))
noncomputable def ff (ta:TA):TI:=fun σ H R=>ta σ H fun vs H1=>∃ j:Int,vs=[.int j]/\-(2 ^ 62)<=j/\j < 2 ^ 62/\R (Itr 0 j.toNat) H1
theorem b7 {a:Expr} {ta:TA} {p pos:Pos} (hg:Gl X "range") (hm:X.mg "range"=none) (ha:PA X [a] ta) (hs:L5 [a] X.env=[(false,eval a X.env)]:=by rfl):PI X tg (.Call (.Name "range" p) [a] [] pos) (ff ta):=by
 intro pins s σ H R I h
 refine Call_ (fR I hg hm Up (MI (thn (ha pos pins s σ H _ I h) fun us s1 ⟨vs,H1,I1,r1,q1⟩=>?_) hs rfl))
 obtain ⟨j,e,q1,q2,q⟩:=q1
 subst e
 cases r1 with
 | cons r rr=>
  cases rr
  obtain ⟨t,rfl⟩:=r
  exact call_range_1 (FX I1 (by omega) (by omega) q1 q2 (by simpa using q))
noncomputable def cS (wi:TI) (g:TG) (tb:TS):TS:=fun D σ H=>wi σ H fun J H1=>∃ W:Nat->Nat->St->Hp->Prop,(∃ m,W 0 m σ H1)/\∀ i m σ H,W i m σ H->
 (J.stop i H/\D.nx σ H)\/(J.go i H/\∃ N:St->Hp->Prop,(∀ σ' H',N σ' H'->∃ m',m' < m/\W (i + 1) m' σ' H')/\∀ x H',J.yld i H x H'->g x σ H' fun σ2 H2=>tb { D with nx:=N,ct:=N,bk:=D.nx } σ2 H2)
noncomputable def qC (fp:List Addr) (h:Heap):List (Addr×Obj):=fp.filterMap fun b=>(h.get? b).map fun o=>(b,o)
theorem lg {fp:List Addr} {h:Heap} {b:Addr} {o:Obj} (hb:b∈fp) (e:h.get? b=some o):(b,o)∈qC fp h:=QK.mpr ⟨b,hb,by rw [e]; rfl⟩
theorem Es {fp:List Addr} {h:Heap} {p:Addr×Obj} (hp:p∈qC fp h):p.1∈fp/\h.get? p.1=some p.2:=by
 obtain ⟨b,hb,e⟩:=QK.mp hp
 cases q:h.get? b with
 | none=>rw [q] at e; cases e
 | some o=>
  rw [q] at e
  have e':(b,o)=p:=LR e
  subst e'
  exact ⟨hb,q⟩
theorem Inv.pinned {pins:List (Addr×Obj)} {σ:St} {H:Hp} {s:Shared} {fp:List Addr} (I:Inv X pins σ H s) (hf:∀ b∈fp,kK X pins H b) (ho:∀ b∈fp,∃ o,s.heap.get? b=some o/\∀ v,o.data≠.cell v):Inv X (pins++qC fp s.heap) σ H s:=
 I.pins_of fun p hp=>(Mm.mp hp).elim (fun z=>I.pin p (MA _ z)) fun z=>by
  obtain ⟨hb,e⟩:=Es z
  obtain ⟨f0,f1,f2,_⟩:=hf p.1 hb
  obtain ⟨o,e',d⟩:=ho p.1 hb
  rw [e] at e'; cases e'
  exact ⟨e,f0,f1,f2,d⟩
theorem Inv.unpinned {pins pl:List (Addr×Obj)} {σ:St} {H:Hp} {s:Shared} (I:Inv X (pins++pl) σ H s):Inv X pins σ H s:=I.pins_of fun p hp=>I.pin p (MA _ (Nx _ hp))
theorem bL {iter:Expr} {body:List Stmt} {wi:TI} {g:TG} {tb:TS} {pos:Pos} (hp:MC (model X.prog X.w) X.A X.env X.xe) (hc:X.calm=true) (hi:PI X tg iter wi) (hg:PG X tg g) (hb:PSs X body tb)
  (hs:∀ x,Q6 iter X.env x=pure x:=by intro _; rfl):PS X (.For tg iter body [] pos) (cS wi g tb):=by
 intro pins s σ H D I h
 refine wpAny_For (thn (hi pins s σ H _ I h) fun v s1 h1=>thn h1 fun itv s2 h2=>?_) hs
 obtain ⟨it,fp,tn,J,H2,e,I2,T,st2,f2,W,⟨m0,w0⟩,turn⟩:=h2
 subst e
 have stat:∀ {H':Hp},(∀ b∈fp,H' b=none)->∀ b∈fp,kK X pins H' b:=fun hn b hb=>⟨hn b hb,(f2 b hb).2⟩
 refine codeAny_forLoop_any (fun n s'=>∃ i σ' H',Inv X pins σ' H' s'/\tn i s'.heap/\(∀ b∈fp,H' b=none)/\W i n σ' H') ?_ m0 ⟨0,σ,H2,I2,st2,fun b hb=>(f2 b hb).1,w0⟩
 rintro n s3 ⟨i,σ3,H3,I3,st3,fr3,w3⟩
 rcases turn i n σ3 H3 w3 with ⟨stop,qn⟩ | ⟨go,N,hN,step⟩
 ·refine Ot hp (thn (T.done X rfl rfl rfl hc i pins s3 σ3 H3 X.xe I3 (stat fr3) st3 stop) fun r s4 ⟨hr,I4⟩=>?_)
  subst hr
  exact Qb ⟨σ3,H3,I4,qn⟩
 ·refine Ot hp (thn (T.item X rfl rfl rfl hc i pins s3 σ3 H3 X.xe I3 (stat fr3) st3 go) fun r s4 ⟨u,hr,h4⟩=>?_)
  subst hr
  refine Ot hp (thn h4 fun _ s5 ⟨x,H5,I5,r5,y5,st5,fr5⟩=>?_)
  have I5':=I5.pinned (stat fr5) (T.obj _ _ st5)
  refine Ot hp (thn (hg _ s5 σ3 H5 x u _ I5' r5 (step x H5 y5)) fun _ s6 ⟨σ6,H6,I6,q6⟩=>?_)
  refine Ot hp (thn (hb _ s6 σ6 H6 _ I6 q6) fun f s7 q7=>?_)
  have again:∀ {σ7:St} {H7:Hp},Inv X (pins++qC fp s5.heap) σ7 H7 s7->N σ7 H7->∃ m,m < n/\∃ i σ' H',Inv X pins σ' H' s7/\tn i s7.heap/\(∀ b∈fp,H' b=none)/\W i m σ' H':=fun {σ7 H7} I7 n7=>by
   obtain ⟨m',hm,w7⟩:=hN σ7 H7 n7
   refine ⟨m',hm,i + 1,σ7,H7,I7.unpinned,T.keep _ _ _ st5 fun b hb o e=>(I7.pin (b,o) (MA _ (MA _ (lg hb e)))).1,fun b hb=>?_,w7⟩
   obtain ⟨o,e,d⟩:=T.obj _ _ st5 b hb
   exact (I7.pin (b,o) (MA _ (MA _ (lg hb e)))).2.1
  cases f with
  | next=>obtain ⟨σ7,H7,I7,n7⟩:=q7; exact again I7 n7
  | cont=>obtain ⟨σ7,H7,I7,n7⟩:=q7; exact again I7 n7
  | brk=>obtain ⟨σ7,H7,I7,q7⟩:=q7; exact ⟨σ7,H7,I7.unpinned,q7⟩
  | ret v=>obtain ⟨x7,σ7,H7,I7,r7,q7⟩:=q7; exact ⟨x7,σ7,H7,I7.unpinned,r7,q7⟩
end
theorem tF {K:Fg} {a:Addr} {xs:List V} {g:TG} {tb:TS} {D:jL} {σ:St} {H:Hp} (Pv:Nat->St->Hp->Prop) (h0:Pv 0 σ H) (hl:∀ i σ H,i<=xs.length->Pv i σ H->SqL K H a xs)
  (hs:∀ i x σ H,xs[i]?=some x->Pv i σ H->g x σ H fun σ2 H2=>tb { D with nx:=Pv (i + 1),ct:=Pv (i + 1),bk:=D.nx } σ2 H2) (hd:∀ σ H,Pv xs.length σ H->D.nx σ H):
  ∃ W:Nat->Nat->St->Hp->Prop,(∃ m,W 0 m σ H)/\∀ i m σ H,W i m σ H->
   ((Itl K a).stop i H/\D.nx σ H)\/((Itl K a).go i H/\∃ N:St->Hp->Prop,(∀ σ' H',N σ' H'->∃ m',m' < m/\W (i + 1) m' σ' H')/\∀ x H',(Itl K a).yld i H x H'->g x σ H' fun σ2 H2=>tb { D with nx:=N,ct:=N,bk:=D.nx } σ2 H2):=by
 refine ⟨fun i m σ H=>m=xs.length - i/\i<=xs.length/\Pv i σ H,⟨xs.length,by simp,MJ _,h0⟩,?_⟩
 rintro i m σ H ⟨rfl,hi,p⟩
 have q:=hl i σ H hi p
 by_cases hlt:i < xs.length
 ·refine .inr ⟨⟨xs,xs[i],q,by simp [hlt]⟩,Pv (i + 1),fun σ' H' p'=>⟨xs.length - (i + 1),by omega,rfl,hlt,p'⟩,fun x H' y=>?_⟩
  obtain ⟨e,y⟩:=y
  subst e
  exact hs i x σ _ (y xs q) p
 ·have e:i=xs.length:=by omega
  subst e
  exact .inl ⟨⟨xs,q,LC _⟩,hd σ H p⟩
theorem Ii {K:Fg} {a:Addr} {xs:List V} {g:TG} {tb:TS} {D:jL} {σ:St} {H:Hp} (Pv:Nat->St->Hp->Prop) (h0:Pv 0 σ H) (hl:∀ i σ H,i<=xs.length->Pv i σ H->SqT K H a xs)
  (hs:∀ i x σ H,xs[i]?=some x->Pv i σ H->g x σ H fun σ2 H2=>tb { D with nx:=Pv (i + 1),ct:=Pv (i + 1),bk:=D.nx } σ2 H2) (hd:∀ σ H,Pv xs.length σ H->D.nx σ H):
  ∃ W:Nat->Nat->St->Hp->Prop,(∃ m,W 0 m σ H)/\∀ i m σ H,W i m σ H->
   ((Itt K a).stop i H/\D.nx σ H)\/((Itt K a).go i H/\∃ N:St->Hp->Prop,(∀ σ' H',N σ' H'->∃ m',m' < m/\W (i + 1) m' σ' H')/\∀ x H',(Itt K a).yld i H x H'->g x σ H' fun σ2 H2=>tb { D with nx:=N,ct:=N,bk:=D.nx } σ2 H2):=by
 refine ⟨fun i m σ H=>m=xs.length - i/\i<=xs.length/\Pv i σ H,⟨xs.length,by simp,MJ _,h0⟩,?_⟩
 rintro i m σ H ⟨rfl,hi,p⟩
 have q:=hl i σ H hi p
 by_cases hlt:i < xs.length
 ·refine .inr ⟨⟨xs,xs[i],q,by simp [hlt]⟩,Pv (i + 1),fun σ' H' p'=>⟨xs.length - (i + 1),by omega,rfl,hlt,p'⟩,fun x H' y=>?_⟩
  obtain ⟨e,y⟩:=y
  subst e
  exact hs i x σ _ (y xs q) p
 ·have e:i=xs.length:=by omega
  subst e
  exact .inl ⟨⟨xs,q,LC _⟩,hd σ H p⟩
theorem qD {lo:Int} {n:Nat} {g:TG} {tb:TS} {D:jL} {σ:St} {H:Hp} (Pv:Nat->St->Hp->Prop) (h0:Pv 0 σ H)
  (hs:∀ i σ H,i < n->Pv i σ H->g (.int (lo + i)) σ H fun σ2 H2=>tb { D with nx:=Pv (i + 1),ct:=Pv (i + 1),bk:=D.nx } σ2 H2) (hd:∀ σ H,Pv n σ H->D.nx σ H):
  ∃ W:Nat->Nat->St->Hp->Prop,(∃ m,W 0 m σ H)/\∀ i m σ H,W i m σ H->
   ((Itr lo n).stop i H/\D.nx σ H)\/((Itr lo n).go i H/\∃ N:St->Hp->Prop,(∀ σ' H',N σ' H'->∃ m',m' < m/\W (i + 1) m' σ' H')/\∀ x H',(Itr lo n).yld i H x H'->g x σ H' fun σ2 H2=>tb { D with nx:=N,ct:=N,bk:=D.nx } σ2 H2):=by
 refine ⟨fun i m σ H=>m=n - i/\i<=n/\Pv i σ H,⟨n,by simp,MJ _,h0⟩,?_⟩
 rintro i m σ H ⟨rfl,hi,p⟩
 by_cases hlt:i < n
 ·refine .inr ⟨hlt,Pv (i + 1),fun σ' H' p'=>⟨n - (i + 1),by omega,rfl,hlt,p'⟩,fun x H' y=>?_⟩
  obtain ⟨e,y⟩:=y
  subst e y
  exact hs i σ _ hlt p
 ·have e:i=n:=by omega
  subst e
  exact .inl ⟨LC _,hd σ H p⟩
end L2
namespace L2
open PySem PySem.Spec PyProof.Rows
noncomputable abbrev R2:=V->V->Hp->VK->Prop
noncomputable def OpR (X:Cx) (f:Value->Value->Sem Value) (r:R2):Prop:=
 ∀ (pins:List (Addr×Obj)) (s:Shared) (σ:St) (H:Hp) (x y:V) (v u:Value) (Q:VK),Inv X pins σ H s->aH x v->aH y u->r x y H Q->
  wpAny (model X.prog X.w) X.A (f v u) (EP X pins σ Q) X.xe s
noncomputable def UnR (X:Cx) (f:Value->Sem Value) (r:V->Hp->VK->Prop):Prop:=
 ∀ (pins:List (Addr×Obj)) (s:Shared) (σ:St) (H:Hp) (x:V) (v:Value) (Q:VK),Inv X pins σ H s->aH x v->r x H Q->
  wpAny (model X.prog X.w) X.A (f v) (EP X pins σ Q) X.xe s
noncomputable def cZ (X:Cx) (f:Value) (r:List V->Hp->VK->Prop):Prop:=
 ∀ (pins:List (Addr×Obj)) (s:Shared) (σ:St) (H:Hp) (xs:List V) (us:List Value) (Q:VK),Inv X pins σ H s->aG xs us->r xs H Q->
  wpAny (model X.prog X.w) X.A (call f us) (EP X pins σ Q) X.xe s
noncomputable def tOp (r:R2) (ta tb:TE):TE:=fun σ H Q=>ta σ H fun x H1=>tb σ H1 fun y H2=>r x y H2 Q
noncomputable def tUn (r:V->Hp->VK->Prop) (ta:TE):TE:=fun σ H Q=>ta σ H fun x H1=>r x H1 Q
noncomputable def rI (C:Int->Int->Prop) (g:Int->Int->V):R2:=fun x y H Q=>∃ i j,x=.int i/\y=.int j/\C i j/\Q (g i j) H
noncomputable def rI0 (g:Int->Int->V):R2:=fun x y H Q=>∃ i j,x=.int i/\y=.int j/\Q (g i j) H
noncomputable def rU (g:Int->V):V->Hp->VK->Prop:=fun x H Q=>∃ i,x=.int i/\Q (g i) H
section
variable {X:Cx} {a b c:Expr} {ta tb tc:TE} {pos:Pos}
theorem FY (ha:PE X a ta) (hb:PE X b tb) {pins:List (Addr×Obj)} {s:Shared} {σ:St} {H:Hp} {R:V->V->Hp->Prop} (I:Inv X pins σ H s)
  (h:ta σ H fun x H1=>tb σ H1 fun y H2=>R x y H2) {Q:Value->Shared->Prop} {f:Value->Value->Sem Value}
  (hf:∀ v u s2 x y H2,Inv X pins σ H2 s2->aH x v->aH y u->R x y H2->wpAny (model X.prog X.w) X.A (f v u) Q X.xe s2):
  wpAny (model X.prog X.w) X.A (eval a X.env) (fun v s₁=>wpAny (model X.prog X.w) X.A (eval b X.env) (fun u s₂=>wpAny (model X.prog X.w) X.A (f v u) Q X.xe s₂) X.xe s₁) X.xe s:=by
 refine thn (ha pins s σ H _ I h) fun v s1 ⟨x,H1,I1,r1,q1⟩=>?_
 refine thn (hb pins s1 σ H1 _ I1 q1) fun u s2 ⟨y,H2,I2,r2,q2⟩=>?_
 exact hf v u s2 x y H2 I2 r1 r2 q2
theorem aq {op:Operator} {r:R2} (ho:OpR X (Oy op) r) (ha:PE X a ta) (hb:PE X b tb):PE X (.BinOp a op b pos) (tOp r ta tb):=by
 intro pins s σ H Q I h
 exact wpAny_BinOp (FY ha hb I h fun v u s2 x y H2 I2 rx ry q=>ho pins s2 σ H2 x y v u Q I2 rx ry q)
theorem HK {op:UnaryOp} {r:V->Hp->VK->Prop} (ho:UnR X (unaryOp op) r) (ha:PE X a ta):PE X (.UnaryOp op a pos) (tUn r ta):=by
 intro pins s σ H Q I h
 exact UnaryOp_ (thn (ha pins s σ H _ I h) fun v s1 ⟨x,H1,I1,r1,q1⟩=>ho pins s1 σ H1 x v Q I1 r1 q1)
theorem opI {f:Value->Value->Sem Value} {C:Int->Int->Prop} {g:Int->Int->Int}
  (rule:∀ (i j:Int) (t u:Tok) (s:Shared) (Q:Value->Shared->Prop) (E:Value->Shared->Prop),C i j->Q (.int (g i j) s.toks) { s with toks:=s.toks + 1 }->wpAny (model X.prog X.w) X.A (f (.int i t) (.int j u)) Q E s):
  OpR X f (rI C fun i j=>.int (g i j)):=by
 intro pins s σ H x y v u Q I rx ry h
 obtain ⟨i,j,rfl,rfl,hc,q⟩:=h
 obtain ⟨t,rfl⟩:=rx
 obtain ⟨t',rfl⟩:=ry
 exact rule i j t t' s _ _ hc ⟨.int (g i j),H,I.tok _,⟨_,rfl⟩,q⟩
theorem JL {f:Value->Value->Sem Value} {g:Int->Int->Int}
  (rule:∀ (i j:Int) (t u:Tok) (s:Shared) (Q:Value->Shared->Prop) (E:Value->Shared->Prop),Q (.int (g i j) s.toks) { s with toks:=s.toks + 1 }->wpAny (model X.prog X.w) X.A (f (.int i t) (.int j u)) Q E s):
  OpR X f (rI0 fun i j=>.int (g i j)):=by
 intro pins s σ H x y v u Q I rx ry h
 obtain ⟨i,j,rfl,rfl,q⟩:=h
 obtain ⟨t,rfl⟩:=rx
 obtain ⟨t',rfl⟩:=ry
 exact rule i j t t' s _ _ ⟨.int (g i j),H,I.tok _,⟨_,rfl⟩,q⟩
theorem FZ {f:Value->Value->Sem Value} {g:Int->Int->Bool}
  (rule:∀ (i j:Int) (t u:Tok) (s:Shared) (Q:Value->Shared->Prop) (E:Value->Shared->Prop),Q (.bool (g i j)) s->wpAny (model X.prog X.w) X.A (f (.int i t) (.int j u)) Q E s):
  OpR X f (rI0 fun i j=>.bl (g i j)):=by
 intro pins s σ H x y v u Q I rx ry h
 obtain ⟨i,j,rfl,rfl,q⟩:=h
 obtain ⟨t,rfl⟩:=rx
 obtain ⟨t',rfl⟩:=ry
 exact rule i j t t' s _ _ ⟨.bl (g i j),H,I,rfl,q⟩
noncomputable def em (i j:Int):Prop:=0 < j/\j < 1073741824
noncomputable def JM (i j:Int):Prop:=(-(2 ^ 64) < i/\i < 2 ^ 64)\/(-(2 ^ 64) < j/\j < 2 ^ 64)
theorem JM.ok {i j:Int} (h:JM i j):Oz i j:=by
 rcases h with ⟨h1,h2⟩ | ⟨h1,h2⟩
 ·exact .of_left (QW h1 h2)
 ·exact .of_right (QW h1 h2)
theorem be:OpR X (Oy .Add) (rI0 fun i j=>.int (i + j)):=JL fun _ _ _ _ _ _ _ q=>add_int q
theorem ij:OpR X (Oy .Sub) (rI0 fun i j=>.int (i - j)):=JL fun _ _ _ _ _ _ _ q=>sub_int q
theorem bS:OpR X (Oy .FloorDiv) (rI em fun i j=>.int (i / j)):=opI fun i j _ _ _ _ _ hc q=>by
 have h1:(0:Int) < j:=hc.1
 have h2:j < 1073741824:=hc.2
 exact floordiv_int (by omega) (by rw [Int.fdiv_eq_ediv_of_nonneg i (by omega)]; exact q) (.inl (PyProof.noPylong_small (by omega)))
theorem bf:OpR X (Oy .Mod) (rI (fun _ j=>0 < j) fun i j=>.int (i % j)):=opI fun i j _ _ _ _ _ hc q=>by
 have h1:(0:Int) < j:=hc
 exact mod_int' (by omega) (by rw [Int.fmod_eq_emod_of_nonneg i (by omega)]; exact q)
theorem unI {f:Value->Sem Value} {g:Int->Int}
  (rule:∀ (i:Int) (t:Tok) (s:Shared) (Q:Value->Shared->Prop) (E:Value->Shared->Prop),Q (.int (g i) s.toks) { s with toks:=s.toks + 1 }->wpAny (model X.prog X.w) X.A (f (.int i t)) Q E s):
  UnR X f (rU fun i=>.int (g i)):=by
 intro pins s σ H x v Q I rx h
 obtain ⟨i,rfl,q⟩:=h
 obtain ⟨t,rfl⟩:=rx
 exact rule i t s _ _ ⟨.int (g i),H,I.tok _,⟨_,rfl⟩,q⟩
theorem Et:UnR X (unaryOp .USub) (rU fun i=>.int (-i)):=unI fun _ _ _ _ _ q=>neg_int q
end
noncomputable def JN:V->V->Bool
 | .non,.non=>true | .non,.int _=>true | .int _,.non=>true | .non,.bl _=>true | .bl _,.non=>true | .non,.str _=>true | .str _,.non=>true
 | .int _,.int _=>true | .bl _,.bl _=>true | .str _,.str _=>true | .byt _,.byt _=>true
 | .int _,.str _=>true | .str _,.int _=>true | .bl _,.str _=>true | .str _,.bl _=>true
 | _,_=>false
noncomputable def rEq:R2:=fun x y H Q=>JN x y=true/\Q (.bl (decide (x=y))) H
noncomputable def rNe:R2:=fun x y H Q=>JN x y=true/\Q (.bl (!decide (x=y))) H
theorem BL {i j:Int}:decide (V.int i=V.int j)=(i == j):=by
 rw [Qe]
 simp
theorem Eu {i j:Bool}:decide (V.bl i=V.bl j)=(i == j):=by
 rw [Qe]
 simp
theorem BM {i j:Str}:decide (V.str i=V.str j)=(i == j):=by
 rw [Qe]
 simp
theorem BN {i j:Array UInt8}:decide (V.byt i=V.byt j)=(i.toList == j.toList):=by
 rw [Qe]
 cases i
 cases j
 simp
section
variable {X:Cx} {a b c:Expr} {ta tb tc:TE} {pos:Pos}
theorem bx {pins:List (Addr×Obj)} {σ:St} {H:Hp} {s:Shared} {Q:VK} {k k':Bool} (I:Inv X pins σ H s) (q:Q (.bl k) H) (e:k=k'):EP X pins σ Q (.bool k') s:=by
 subst e
 exact ⟨.bl k,H,I,rfl,q⟩
theorem da:OpR X (N5 .Eq) rEq:=by
 intro pins s σ H x y v u Q I rx ry h
 obtain ⟨hs,q⟩:=h
 cases x with
 | non=>
  cases rx
  cases y with
  | non=>cases ry; exact PySem.EqNone.eq_none_none (bx I q (by simp))
  | bl j=>cases ry; exact PySem.EqNone.eq_none_bool (bx I q (by simp))
  | int j=>obtain ⟨t',rfl⟩:=ry; exact PySem.EqNone.eq_none_int (bx I q (by simp))
  | str j=>obtain ⟨t',rfl⟩:=ry; exact PySem.EqNone.eq_none_str (bx I q (by simp))
  | _=>exact absurd (show false=true from hs) LM
 | bl i=>
  cases rx
  cases y with
  | non=>cases ry; exact PySem.EqNone.eq_bool_none (bx I q (by simp))
  | bl j=>cases ry; exact eq_bool (bx I q Eu)
  | str j=>obtain ⟨t',rfl⟩:=ry; exact PySem.EqMixed.eq_bool_str (bx I q (by simp))
  | _=>exact absurd (show false=true from hs) LM
 | int i=>
  obtain ⟨t,rfl⟩:=rx
  cases y with
  | non=>cases ry; exact PySem.EqNone.eq_int_none (bx I q (by simp))
  | int j=>obtain ⟨t',rfl⟩:=ry; exact eq_int (bx I q BL)
  | str j=>obtain ⟨t',rfl⟩:=ry; exact PySem.EqMixed.eq_int_str (bx I q (by simp))
  | _=>exact absurd (show false=true from hs) LM
 | str i=>
  obtain ⟨t,rfl⟩:=rx
  cases y with
  | non=>cases ry; exact PySem.EqNone.eq_str_none (bx I q (by simp))
  | bl j=>cases ry; exact PySem.EqMixed.eq_str_bool (bx I q (by simp))
  | int j=>obtain ⟨t',rfl⟩:=ry; exact PySem.EqMixed.eq_str_int (bx I q (by simp))
  | str j=>obtain ⟨t',rfl⟩:=ry; exact eq_str (bx I q BM)
  | _=>exact absurd (show false=true from hs) LM
 | byt i=>
  obtain ⟨t,rfl⟩:=rx
  cases y with
  | byt j=>obtain ⟨t',rfl⟩:=ry; exact PySem.W.eq_bytes (bx I q BN)
  | _=>exact absurd (show false=true from hs) LM
 | _=>cases y <;> exact absurd (show false=true from hs) LM
theorem HL:OpR X (N5 .NotEq) rNe:=by
 intro pins s σ H x y v u Q I rx ry h
 obtain ⟨hs,q⟩:=h
 cases x with
 | non=>
  cases rx
  cases y with
  | non=>cases ry; exact PySem.EqNone.ne_none_none (bx I q (by simp))
  | bl j=>cases ry; exact PySem.EqNone.ne_none_bool (bx I q (by simp))
  | int j=>obtain ⟨t',rfl⟩:=ry; exact PySem.EqNone.ne_none_int (bx I q (by simp))
  | str j=>obtain ⟨t',rfl⟩:=ry; exact PySem.EqNone.ne_none_str (bx I q (by simp))
  | _=>exact absurd (show false=true from hs) LM
 | bl i=>
  cases rx
  cases y with
  | non=>cases ry; exact PySem.EqNone.ne_bool_none (bx I q (by simp))
  | bl j=>cases ry; exact ne_bool (bx I q (congrArg not Eu))
  | str j=>obtain ⟨t',rfl⟩:=ry; exact PySem.EqMixed.ne_bool_str (bx I q (by simp))
  | _=>exact absurd (show false=true from hs) LM
 | int i=>
  obtain ⟨t,rfl⟩:=rx
  cases y with
  | non=>cases ry; exact PySem.EqNone.ne_int_none (bx I q (by simp))
  | int j=>obtain ⟨t',rfl⟩:=ry; exact ne_int (bx I q (congrArg not BL))
  | str j=>obtain ⟨t',rfl⟩:=ry; exact PySem.EqMixed.ne_int_str (bx I q (by simp))
  | _=>exact absurd (show false=true from hs) LM
 | str i=>
  obtain ⟨t,rfl⟩:=rx
  cases y with
  | non=>cases ry; exact PySem.EqNone.ne_str_none (bx I q (by simp))
  | bl j=>cases ry; exact PySem.EqMixed.ne_str_bool (bx I q (by simp))
  | int j=>obtain ⟨t',rfl⟩:=ry; exact PySem.EqMixed.ne_str_int (bx I q (by simp))
  | str j=>obtain ⟨t',rfl⟩:=ry; exact ne_str (bx I q (congrArg not BM))
  | _=>exact absurd (show false=true from hs) LM
 | byt i=>
  obtain ⟨t,rfl⟩:=rx
  cases y with
  | byt j=>obtain ⟨t',rfl⟩:=ry; exact PySem.W.ne_bytes (bx I q (congrArg not BN))
  | _=>exact absurd (show false=true from hs) LM
 | _=>cases y <;> exact absurd (show false=true from hs) LM
theorem HM:OpR X (N5 .Lt) (rI0 fun i j=>.bl (decide (i < j))):=FZ fun _ _ _ _ _ _ _ q=>lt_int q
theorem yZ:OpR X (N5 .LtE) (rI0 fun i j=>.bl (decide (i<=j))):=FZ fun _ _ _ _ _ _ _ q=>le_int q
theorem mL:OpR X (N5 .Gt) (rI0 fun i j=>.bl (decide (j < i))):=FZ fun _ _ _ _ _ _ _ q=>gt_int q
theorem aW (b:Expr) {op:CmpOp} (h:op≠.In:=by decide) (h2:op≠.NotIn:=by decide):QX op b=false:=by
 have e1:(op == CmpOp.In)=false:=by cases op <;> first | rfl | exact absurd rfl h
 have e2:(op == CmpOp.NotIn)=false:=by cases op <;> first | rfl | exact absurd rfl h2
 cases b <;> simp [QX,e1,e2]
theorem jN {op:CmpOp} {r:R2} (ho:OpR X (N5 op) r) (ha:PE X a ta) (hb:PE X b tb) (hm:QX op b=false):PE X (.Compare a [op] [b] pos) (tOp r ta tb):=by
 intro pins s σ H Q I h
 exact wpAny_Compare1 (FY ha hb I h fun v u s2 x y H2 I2 rx ry q=>ho pins s2 σ H2 x y v u Q I2 rx ry q) hm
noncomputable def bq (t:TE):TT:=fun σ H Q=>t σ H fun x H'=>∃ k,x=.bl k/\Q k H'
theorem aX {op:CmpOp} {r:R2} (ho:OpR X (N5 op) r) (ha:PE X a ta) (hb:PE X b tb) (hm:QX op b=false):PT X (.Compare a [op] [b] pos) (bq (tOp r ta tb)):=by
 intro pins s σ H Q I h
 refine wpAny_isTrue_Compare1 (thn (ha pins s σ H _ I h) fun v s1 ⟨x,H1,I1,r1,q1⟩=>thn (hb pins s1 σ H1 _ I1 q1) fun u s2 ⟨y,H2,I2,r2,q2⟩=>
  thn (ho pins s2 σ H2 x y v u _ I2 r1 r2 q2) fun c s3 ⟨z,H3,I3,r3,k,e,q3⟩=>?_) hm
 subst e
 cases r3
 exact NY ⟨H3,I3,q3⟩
noncomputable def Ev (r r':R2) (ta tb tc:TE):TE:=fun σ H Q=>ta σ H fun x H1=>tb σ H1 fun y H2=>r x y H2 fun z H3=>∃ k,z=.bl k/\
 (if k=true then tc σ H3 fun w' H4=>r' y w' H4 Q else Q (.bl false) H3)
theorem F0 {op op':CmpOp} {r r':R2} (ho:OpR X (N5 op) r) (ho':OpR X (N5 op') r') (ha:PE X a ta) (hb:PE X b tb) (hc:PE X c tc)
  (hm:lastMarks [op,op'] [b,c]=false:=by with_unfolding_all rfl):PE X (.Compare a [op,op'] [b,c] pos) (Ev r r' ta tb tc):=by
 intro pins s σ H Q I h
 refine Compare_chain (thn (ha pins s σ H _ I h) fun v s1 ⟨x,H1,I1,r1,q1⟩=>chain_link (thn (hb pins s1 σ H1 _ I1 q1) fun u s2 ⟨y,H2,I2,r2,q2⟩=>
  thn (ho pins s2 σ H2 x y v u _ I2 r1 r2 q2) fun d s3 ⟨z,H3,I3,r3,k,e,q3⟩=>?_)) hm
 subst e
 cases r3
 refine NY ?_
 cases k with
 | false=>exact ite_ff ⟨.bl false,H3,I3,rfl,q3⟩
 | true=>exact ite_tt (chain_last (thn (hc pins s3 σ H3 _ I3 q3) fun w' s4 ⟨z',H4,I4,r4,q4⟩=>ho' pins s4 σ H4 y z' u w' Q I4 r2 r4 q4))
theorem uy:(LN:Nat) < 2 ^ 63:=by rw [LI]; decide
theorem lh {x:V} {us:List Value} (r:aG [x] us):∃ u,us=[u]/\aH x u:=by
 cases r with
 | cons r1 r2=>cases r2; exact ⟨_,rfl,r1⟩
theorem HN {x y:V} {us:List Value} (r:aG [x,y] us):∃ u w',us=[u,w']/\aH x u/\aH y w':=by
 cases r with
 | cons r1 r2=>
  cases r2 with
  | cons r3 r4=>cases r4; exact ⟨_,_,rfl,r1,r3⟩
theorem Ew (hc:X.calm=true):cZ X (.builtin "max") (fun xs H Q=>∃ i j,xs=[.int i,.int j]/\Q (.int (if j > i then j else i)) H):=by
 intro pins s σ H xs us Q I r h
 obtain ⟨i,j,rfl,q⟩:=h
 obtain ⟨u,w',rfl,⟨t,rfl⟩,⟨t',rfl⟩⟩:=HN r
 refine max_two_ints (I.ok.hd hc) fun h' tk k=>⟨_,H,I.kept k,?_,q⟩
 by_cases hj:j > i
 ·rw [if_pos hj,if_pos hj]; exact ⟨_,rfl⟩
 ·rw [if_neg hj,if_neg hj]; exact ⟨_,rfl⟩
theorem xo (hc:X.calm=true):cZ X (.builtin "min") (fun xs H Q=>∃ i j,xs=[.int i,.int j]/\Q (.int (if j < i then j else i)) H):=by
 intro pins s σ H xs us Q I r h
 obtain ⟨i,j,rfl,q⟩:=h
 obtain ⟨u,w',rfl,⟨t,rfl⟩,⟨t',rfl⟩⟩:=HN r
 refine min_two_ints (I.ok.hd hc) fun h' tk k=>⟨_,H,I.kept k,?_,q⟩
 by_cases hj:j < i
 ·rw [if_pos hj,if_pos hj]; exact ⟨_,rfl⟩
 ·rw [if_neg hj,if_neg hj]; exact ⟨_,rfl⟩
theorem Ex:cZ X (.type "int") (fun xs H Q=>(∃ i,xs=[.int i]/\Q (.int i) H)\/∃ k,xs=[.bl k]/\Q (.int (if k then 1 else 0)) H):=by
 intro pins s σ H xs us Q I r h
 rcases h with ⟨i,rfl,q⟩ | ⟨k,rfl,q⟩
 ·obtain ⟨u,rfl,t,rfl⟩:=lh r
  exact call_int_int ⟨.int i,H,I,⟨_,rfl⟩,q⟩
 ·obtain ⟨u,rfl,r1⟩:=lh r
  cases r1
  exact call_int_bool ⟨.int (if k then 1 else 0),H,I.tok _,⟨_,rfl⟩,q⟩
end
end L2
namespace L2
open PySem PySem.Spec PyProof.Rows
structure tG (h:Heap) (x dx C:Addr) (mA:Str->Option Value):Prop where
 obj:h.get? x=some (N8 C dx)
 ns:h.Ns1 dx mA
 ne:dx≠x
theorem Ey {h:Heap} {dx:Addr} {mA:Str->Option Value} (n:h.Ns1 dx mA):∃ od,h.get? dx=some od/\∀ name,QA name od=some (mA name):=by
 obtain ⟨o,es,ep,ho,hd,hk,_,hm⟩:=n
 refine ⟨o,ho,fun name=>?_⟩
 have e:=hm name
 unfold nsFind findBy at e
 rw [<-Array.find?_toList] at e
 unfold QA
 rw [hd]
 dsimp only
 split
 ·rename_i y q
  rw [q] at e
  exact congrArg some e
 ·rename_i q
  rw [q] at e
  have a:es.toList.any (·.refKey)=false:=by
   rw [List.any_eq_false]
   intro y hy
   obtain ⟨z,t,hkey⟩:=hk y (Array.mem_toList_iff.mp hy)
   simp [S8.refKey,hkey]
  have a':¬ es.toList.any (·.refKey)=true:=by rw [a]; exact LM
  rw [if_neg a']
  exact congrArg some e
theorem tG.look {h:Heap} {x dx C:Addr} {mA:Str->Option Value} (I:tG h x dx C mA):∃ od,PySem.W.InstAt h x (N8 C dx) C (some od)/\∀ name,QA name od=some (mA name):=
 let ⟨od,ho,hl⟩:=Ey I.ns
 ⟨od,⟨I.obj,rfl,rfl,ho⟩,hl⟩
section
variable {prog:Program} {w:World} {A:Around} {E:Value->Shared->Prop} {s:Shared} {K:Fg} {x dx C f:Addr} {mA:Str->Option Value} {name:Str} {v:Value}
theorem Ij {expr:Bool} {Q:Value->Shared->Prop} (X:K.In s.heap) (I:tG s.heap x dx C mA) (hg:PY K C name=true) (hh:Q7 K C=true)
  (ha:NV K (.ref C) name=some none) (hv:mA name=some v) (hv':T6 v=true) (h:Q v { s with toks:=s.toks + 1 }):
  wpAny (model prog w) A (getAttr (.ref x) name expr) Q E s:=by
 obtain ⟨od,J,hl⟩:=I.look
 exact PySem.W.get_value X J (Qw hg).1 (PySem.W.findObj_own hh ha rfl (by rw [hl,hv])) hv' h
theorem F1 {pl:Sem Bool} {Q:Value×List Value->Shared->Prop} (X:K.In s.heap) (I:tG s.heap x dx C mA) (hg:PY K C name=true)
  (hf:NV K (.ref C) name=some (some (.ref f))) (ht:S9 K (.ref f)=true) (hv:mA name=none) (h:Q (.ref f,[.ref x]) s):
  wpAny (model prog w) A (QL (.ref x) name pl) Q E s:=by
 obtain ⟨od,J,hl⟩:=I.look
 exact PySem.W.method_fn X J (Qw hg).1 (Qw hg).2 hf (beq_iff_eq.mp ht) (by show (QA name od).map (·.isSome)=some false; rw [hl,hv]; rfl) h
theorem Ik {ns:List Str} {Q:Unit->Shared->Prop} (X:K.In s.heap) (I:tG s.heap x dx C mA)
  (hs:NV K (.ref C) "__setattr__"=some (some (.builtin "object.__setattr__"))) (hp:Ts K C=true) (ht:RK K C name=some none) (hh:Q7 K C=true)
  (hw:Rn mA ns) (hsz:ns.length<=LN)
  (h:∀ h',tG h' x dx C (fun y=>if y=name then some v else mA y)->LP dx s.heap h'->Q () { s with heap:=h',toks:=s.toks + 2 }):
  wpAny (model prog w) A (setAttr (.ref x) name v) Q E s:=by
 obtain ⟨od,J,hl⟩:=I.look
 refine PySem.W.set_plain X J hs (PySem.W.osa_open (s:={ s with toks:=s.toks + 1 }) (r:=none) X J hp ht fun b=>?_)
 obtain ⟨cd,hc,hd'⟩:=PySem.W.any_some hh
 have hx:s.heap.get? x=some ⟨.ref C,some dx,.plain,#[]⟩:=I.obj
 refine Lw (Ly (Lw (Lw (wpAny_loadPart hx (Lw (PySem.W.Looks.here (s:={ s with toks:=s.toks + 1 }) (PySem.W.looks_clsIn X hc) ?_))))))
 rw [hd']
 refine Ly (a:=some dx) (Lw (Ly (Lw ?_)))
 refine wpAny_nsSet1 (s:={ s with toks:=s.toks + 1 }) I.ns fun h' hn2 hs2=>?_
 obtain ⟨oD,esD,epD,hoD,hdD,hcD⟩:=hn2.count (Rn.cons name v hw)
 refine Lw (wpAny_lookBehind hoD (by rw [hdD]; exact pastItsLine_dict (Me hcD (by rw [Mh]; omega))) ?_)
 exact Ly (h _ ⟨(hs2.2 _ (Mz I.ne)).trans I.obj,hn2,I.ne⟩ hs2)
theorem F2 {R:Result->Shared->Prop} {vs:List Value} {kw:List (Str×Value)} (X:K.In s.heap) (hm:Uq K C=true)
  (hi:NV K (.ref C) "__init__"=some (some (.ref f))) (hf:PySem.W.typeIn K (.ref f)=some (.type "function"))
  (h:codeAny (model prog w) (A.under (.builtin "type.__call__" ⟨.ref C :: vs,kw⟩)) (.call (.ref f) ⟨.ref (s.heap.objs.size + 1) :: vs,kw⟩) (PySem.W.InitBack (s.heap.objs.size + 1) R)
   { s with heap:=(s.heap.push NF).push (N8 C s.heap.objs.size) }):
  codeAny (model prog w) A (.call (.ref C) ⟨vs,kw⟩) R s:=by
 obtain ⟨hh,g,d,t,os⟩:=s
 exact PySem.W.make_core (PySem.W.makes_of X hm) (PySem.W.looks_findIn X hi) (fun self=>PySem.W.bind_fn X self hf) (.inl rfl) h
end
noncomputable def gx (f:Str) (v:V):List (Str×V)->List (Str×V)
 | []=>[(f,v)]
 | (g,x) :: r=>if g=f then (g,v) :: r else (g,x) :: gx f v r
theorem sJ (f g:Str) (v:V):∀ fs:List (Str×V),(gx f v fs).lookup g=if g=f then some v else fs.lookup g
 | []=>by
  show OZ g [(f,v)]=_
  by_cases h:g=f
  ·have hb:(g == f)=true:=beq_iff_eq.mpr h
   simp only [OZ,hb,if_pos h]
  ·have hb:(g == f)=false:=beq_eq_false_iff_ne.mpr h
   simp only [OZ,hb,if_neg h]
 | (k,x) :: r=>by
  have ih:=sJ f g v r
  rw [show gx f v ((k,x) :: r)=(if k=f then (k,v) :: r else (k,x) :: gx f v r) from rfl]
  by_cases hk:k=f
  ·rw [if_pos hk]
   by_cases h:g=k
   ·have hb:(g == k)=true:=beq_iff_eq.mpr h
    simp only [OZ,hb,if_pos (h.trans hk)]
   ·have hb:(g == k)=false:=beq_eq_false_iff_ne.mpr h
    simp only [OZ,hb,if_neg (fun e:g=f=>h (e.trans hk.symm))]
  ·rw [if_neg hk]
   by_cases h:g=k
   ·have hb:(g == k)=true:=beq_iff_eq.mpr h
    simp only [OZ,hb,if_neg (fun e:g=f=>hk (h.symm.trans e))]
   ·have hb:(g == k)=false:=beq_eq_false_iff_ne.mpr h
    simp only [OZ,hb]
    exact ih
theorem qE (f:Str) (v:V):∀ fs:List (Str×V),f∈(gx f v fs).map (·.1)/\∀ g,g∈fs.map (·.1)->g∈(gx f v fs).map (·.1)
 | []=>⟨by simp [gx],fun g h=>by simp at h⟩
 | (k,x) :: r=>by
  obtain ⟨i1,i2⟩:=qE f v r
  rw [show gx f v ((k,x) :: r)=(if k=f then (k,v) :: r else (k,x) :: gx f v r) from rfl]
  by_cases hk:k=f
  ·rw [if_pos hk]
   subst hk
   exact ⟨by simp,fun g h=>by simpa using h⟩
  ·rw [if_neg hk]
   refine ⟨?_,fun g h=>?_⟩
   ·rw [LZ]
    exact LJ _ i1
   ·rw [LZ] at h ⊢
    rcases LA.mp h with e | e
    ·exact LA.mpr (.inl e)
    ·exact LJ _ (i2 g e)
theorem sK (f:Str) (v:V):∀ fs:List (Str×V),(gx f v fs).length<=fs.length + 1
 | []=>by simp [gx]
 | (k,x) :: r=>by
  have ih:=sK f v r
  rw [show gx f v ((k,x) :: r)=(if k=f then (k,v) :: r else (k,x) :: gx f v r) from rfl]
  by_cases hk:k=f
  ·rw [if_pos hk,Mh,Mh]; omega
  ·rw [if_neg hk,Mh,Mh]; omega
theorem h9.some_of {v:V} {o:Option Value} (r:h9 (some v) o):∃ u,o=some u/\aH v u:=by
 cases o with
 | none=>exact (show False from r).elim
 | some u=>exact ⟨u,rfl,r⟩
theorem h9.none_of {o:Option Value} (r:h9 none o):o=none:=by
 cases o with
 | none=>rfl
 | some u=>exact (show False from r).elim
theorem Ez {v:V} {u:Value} (r:aH v u):T6 u=true:=by
 cases v with
 | non=>cases (show u=MZ from r); rfl
 | bl b=>cases (show u=MO b from r); rfl
 | int i=>obtain ⟨t,e⟩:=(show ∃ t,u=OJ i t from r); cases e; rfl
 | str x=>obtain ⟨t,e⟩:=(show ∃ t,u=RJ x t from r); cases e; rfl
 | byt b=>obtain ⟨t,e⟩:=(show ∃ t,u=Value.bytes b t from r); cases e; rfl
 | flt b=>obtain ⟨t,e⟩:=(show ∃ t,u=TV b t from r); cases e; rfl
 | ref a=>cases (show u=Mf a from r); rfl
 | ty n=>cases (show u=M0 n from r); rfl
section
variable {P:Program} {w:World} {H H':Hp} {h h':Heap} {a C dx:Addr} {fs fs':List (Str×V)}
theorem rN (hok:HOk P w H h) (e:H a=some (.ins C dx fs)):∃ mA,tG h a dx C mA/\(∀ f,h9 (fs.lookup f) (mA f))/\Rn mA (fs.map (·.1))/\fs.length<=1000/\H dx=some (.own a):=by
 obtain ⟨d,z,ne,ob,mA,n,r,q⟩:=(show bA P w H h a (.ins C dx fs) from hok a _ e)
 exact ⟨mA,⟨ob,n,ne⟩,r,q,z,d⟩
end
structure Cls (K:Fg) (C:Addr):Prop where
 pg:PY K C UK=true
 hd:Q7 K C=true
 po:Ts K C=true
 sa:NV K (.ref C) "__setattr__"=some (some (.builtin "object.__setattr__"))
theorem Cls.get {K:Fg} {C:Addr} (c:Cls K C) (f:Str):PY K C f=true:=c.pg
noncomputable def eL (K:Fg) (C:Addr) (f:Str):Prop:=NV K (.ref C) f=some none
theorem eL.taker {K:Fg} {C:Addr} {f:Str} (n:eL K C f):RK K C f=some none:=by
 unfold RK
 rw [show NV K (.ref C) f=some none from n]
 rfl
structure zr (K:Fg) (C:Addr) (m:Str) (f:Addr):Prop where
 at_:NV K (.ref C) m=some (some (.ref f))
 fn:S9 K (.ref f)=true
 kp:O4 K (.ref f)=true
section
variable {X:Cx} {pins:List (Addr×Obj)} {σ:St} {H:Hp} {s:Shared} {a C dx:Addr} {fs:List (Str×V)} {f:Str} {v:V} {A:Around} {E:Value->Shared->Prop}
theorem Cp {b:Bool} {Q:Value->Shared->Prop} (I:Inv X pins σ H s) (e:H a=some (.ins C dx fs)) (c:Cls X.K C) (n:eL X.K C f) (l:fs.lookup f=some v)
  (h:∀ u s',Inv X pins σ H s'->aH v u->Q u s'):wpAny (model X.prog X.w) A (getAttr (.ref a) f b) Q E s:=by
 obtain ⟨mA,O,r,_,_,_⟩:=rN I.hok e
 obtain ⟨u,hu,ru⟩:=h9.some_of (v:=v) (o:=mA f) (by rw [<-l]; exact r f)
 exact Ij I.kIn O (c.get f) c.hd n hu (Ez ru) (h u _ (I.tok _) ru)
theorem uz {m:Str} {g:Addr} {pl:Sem Bool} {Q:Value×List Value->Shared->Prop} (I:Inv X pins σ H s) (e:H a=some (.ins C dx fs)) (c:Cls X.K C) (k:zr X.K C m g) (l:fs.lookup m=none)
  (h:Q (.ref g,[.ref a]) s):wpAny (model X.prog X.w) A (QL (.ref a) m pl) Q E s:=by
 obtain ⟨mA,O,r,_,_,_⟩:=rN I.hok e
 have hn:mA m=none:=h9.none_of (by rw [<-l]; exact r m)
 exact F1 I.kIn O (c.get m) k.at_ k.fn hn h
theorem Cq {y:V} {u:Value} {Q:Unit->Shared->Prop} (I:Inv X pins σ H s) (e:H a=some (.ins C dx fs)) (c:Cls X.K C) (n:eL X.K C f) (hl:fs.length < 1000) (ry:aH y u)
  (h:∀ s',Inv X pins σ (upd H a (.ins C dx (gx f y fs))) s'->Q () s'):wpAny (model X.prog X.w) A (setAttr (.ref a) f u) Q E s:=by
 obtain ⟨mA,O,r,wi,_,ho⟩:=rN I.hok e
 have hz:(fs.map (·.1)).length<=LN:=by rw [LF,LI]; omega
 refine Ik I.kIn O c.sa c.po n.taker c.hd wi hz fun h' O' sb=>h _ ?_
 have hd:∃ o,h'.get? dx=some o:=let ⟨o,_,_,e',_⟩:=O'.ns; ⟨o,e'⟩
 refine I.write (x:=a) (e:=dx) (by rw [e]; exact Oj) (.inr ho) (fun b q hb z=>(sb.2 b hb).trans z) hd ?_
 refine ⟨by rw [aO O.ne]; exact ho,?_,O.ne,O'.obj,_,O'.ns,fun g=>?_,fun g hg=>?_⟩
 ·have:=sK f y fs; omega
 ·show h9 ((gx f y fs).lookup g) (if g=f then some u else mA g)
  rw [sJ]
  by_cases q:g=f
  ·rw [if_pos q,if_pos q]; exact ry
  ·rw [if_neg q,if_neg q]; exact r g
 ·by_cases q:g=f
  ·rw [q]; exact (qE f y fs).1
  ·refine (qE f y fs).2 g (wi g fun z=>hg ?_)
   show (if g=f then some u else mA g)=none
   rw [if_neg q]; exact z
theorem Inv.made (I:Inv X pins σ H s):Inv X pins σ (upd (upd H s.heap.objs.size (.own (s.heap.objs.size + 1))) (s.heap.objs.size + 1) (.ins C s.heap.objs.size []))
  { s with heap:=(s.heap.push NF).push (N8 C s.heap.objs.size) }:=by
 have e1:(s.heap.push NF).get? s.heap.objs.size=some NF:=LH s.heap rfl
 have e2:((s.heap.push NF).push (N8 C s.heap.objs.size)).get? (s.heap.objs.size + 1)=some (N8 C s.heap.objs.size):=by
  have:=LH (s.heap.push NF) (o:=N8 C s.heap.objs.size) rfl
  rwa [Mo] at this
 have e3:(s.heap.push NF).Ns s.heap.objs.size (fun _=>none):=⟨NF,#[],_,e1,rfl,(fun e he=>absurd he (by simp)),fun _=>rfl⟩
 have I1:=I.laid (a:=s.heap.objs.size) (o:=.own (s.heap.objs.size + 1)) (h':=s.heap.push NF) (t':=s.toks) (fun b u q=>Lx _ q) (LC _) ⟨_,e1⟩
 refine I1.laid (a:=s.heap.objs.size + 1) (o:=.ins C s.heap.objs.size []) (t':=s.toks) (fun b u q=>Lx _ q) (Qf (Mo _ _)) ?_
 have ne:s.heap.objs.size≠s.heap.objs.size + 1:=Ml (Nm _)
 refine ⟨by rw [aO ne,az],MJ _,ne,e2,fun _=>none,(Heap.Ns1.of_empty e3).at fun o q=>Lx _ q,fun _=>Oj,fun y hy=>absurd rfl hy⟩
theorem Il {prog:Program} {w:World} {env:Env} {e:Expr} {f:Str} {pos:Pos} {s:Shared} {Q:Value->Shared->Prop} (hb:Pd e f env (eval e env)=eval e env)
  (h:wpAny (model prog w) A (eval e env) (fun o s₁=>wpAny (model prog w) A (getAttr o f true) Q E s₁) E s):wpAny (model prog w) A (eval (.Attribute e f pos) env) Q E s:=
 Attribute_any_ h (by rw [arm_eval_Attribute,hb])
end
noncomputable def dQ (K:Fg) (ta:TE) (f:Str):TE:=fun σ H Q=>ta σ H fun x H1=>∃ a C dx fs v,x=.ref a/\H1 a=some (.ins C dx fs)/\Cls K C/\eL K C f/\fs.lookup f=some v/\Q v H1
noncomputable def nG (K:Fg) (ta tv:TE) (f:Str):TS:=fun D σ H=>tv σ H fun y H1=>ta σ H1 fun x H2=>∃ a C dx fs,x=.ref a/\H2 a=some (.ins C dx fs)/\Cls K C/\eL K C f/\fs.length < 1000/\
 D.nx σ (upd H2 a (.ins C dx (gx f y fs)))
section
variable {X:Cx} {o e value:Expr} {f:Str} {pos pos' tpos:Pos} {ta tv:TE}
theorem ce (he:PE X e ta) (hb:Pd e f X.env (eval e X.env)=eval e X.env):PE X (.Attribute e f pos) (dQ X.K ta f):=by
 intro pins s σ H Q I h
 refine Il hb (thn (he pins s σ H _ I h) fun u s1 ⟨x,H1,I1,rx,a,C,dx,fs,v,ex,ea,c,n,l,q⟩=>?_)
 subst ex
 obtain rfl:u=Mf a:=rx
 exact Cp I1 ea c n l fun u' s2 I2 ru=>⟨v,H1,I2,ru,q⟩
theorem kr (ha:PE X o ta) (hv:PE X value tv) (hs:S6 value (some (.Attribute o f pos')) pos.line X.env=pure false):PS X (.Assign [.Attribute o f pos'] value pos) (nG X.K ta tv f):=by
 intro pins s σ H D I h
 refine plainObj_wpAny_Assign_Attribute (thn (hv pins s σ H _ I h) fun u s1 ⟨y,H1,I1,ry,q⟩=>thn (ha pins s1 σ H1 _ I1 q) fun ov s2 ⟨x,H2,I2,rx,a,C,dx,fs,ex,ea,c,n,l,q2⟩=>?_) hs
 subst ex
 obtain rfl:ov=Mf a:=rx
 exact Cq I2 ea c n l ry fun s3 I3=>⟨σ,_,I3,q2⟩
end
section
variable {X:Cx} {pins:List (Addr×Obj)} {σ:St} {H:Hp} {s:Shared} {A:Around} {E:Value->Shared->Prop} {Q:Value->Shared->Prop} {c:Value} {b:Bool}
inductive fL (K:Fg) (H:Hp):V->Value->Prop where
 | non:fL K H .non (.type "NoneType")
 | bl (x:Bool):fL K H (.bl x) (.type "bool")
 | int (i:Int):fL K H (.int i) (.type "int")
 | str (x:Str):fL K H (.str x) (.type "str")
 | flt (x:UInt64):fL K H (.flt x) (.type "float")
 | lst {a:Addr} {xs:List V} (e:H a=some (.lst xs)):fL K H (.ref a) (.type "list")
 | frz {a:Addr} {o:Obj} {xs:List V} (e:H a=some (.frz o (.lst xs))):fL K H (.ref a) (.type "list")
 | tup {a:Addr} {xs:List V} (e:H a=some (.tup xs)):fL K H (.ref a) (.type "tuple")
 | dK {a:Addr} {kvs:List (Key×V)} (e:H a=some (.dK kvs)):fL K H (.ref a) (.type "dict")
 | dT {a:Addr} {kvs:List (List Key×V)} (e:H a=some (.dT kvs)):fL K H (.ref a) (.type "dict")
 | ins {a C dx:Addr} {fs:List (Str×V)} (e:H a=some (.ins C dx fs)) (cl:Cls K C) (ha:NV K (.ref C) "__class__"=some (some (.builtin "object.__class__")))
   (hn:PySem.W.specialIn K (.builtin "object.__class__") "__get__"=some (some (.builtin "getset_descriptor.__get__"))) (htk:PySem.W.takesIn K (.builtin "object.__class__")=some true)
   (hm:PySem.W.mroIn K C (.type "object")=some true):fL K H (.ref a) (.ref C)
theorem EA {x:V} {u t:Value} (I:Inv X pins σ H s) (rx:aH x u) (ty:fL X.K H x t) (e:MG X.K t c=some b) (h:∀ tk,Q (.bool b) { s with toks:=tk }):
  wpAny (model X.prog X.w) A (call (.builtin "isinstance") [u,c]) Q E s:=by
 cases ty with
 | non=>cases (show u=MZ from rx); exact Nu PySem.W.kitx_none I.kIn Oj e (fun z=>nomatch z) h
 | bl y=>cases (show u=MO y from rx); exact Nu PySem.W.kitx_bool I.kIn Oj e (fun z=>nomatch z) h
 | int i=>obtain ⟨t,q⟩:=(show ∃ t,u=OJ i t from rx); cases q; exact Nu PySem.W.kitx_int I.kIn Oj e (fun z=>nomatch z) h
 | str y=>obtain ⟨t,q⟩:=(show ∃ t,u=RJ y t from rx); cases q; exact Nu PySem.W.kitx_str I.kIn Oj e (fun z=>nomatch z) h
 | flt y=>obtain ⟨t,q⟩:=(show ∃ t,u=TV y t from rx); cases q; exact Nu PySem.W.kitx_float I.kIn Oj e (fun z=>nomatch z) h
 | @lst a xs ea=>
  cases (show u=Mf a from rx)
  obtain ⟨_,_,n,_,h1⟩:=(show bA X.prog X.w H s.heap a (.lst xs) from I.hok a _ ea)
  exact Nu Tt I.kIn ⟨_,h1,rfl⟩ e (fun z=>nomatch z) h
 | @frz a ob xs ea=>
  cases (show u=Mf a from rx)
  obtain ⟨_,_,_,n,_,h1⟩:=(show bA X.prog X.w H s.heap a (.frz ob (.lst xs)) from I.hok a _ ea)
  exact Nu Tt I.kIn ⟨_,h1,rfl⟩ e (fun z=>nomatch z) h
 | @tup a xs ea=>
  cases (show u=Mf a from rx)
  obtain ⟨_,_,_,p⟩:=(show bA X.prog X.w H s.heap a (.tup xs) from I.hok a _ ea)
  obtain ⟨o,h1,h2,_⟩:=p
  exact Nu PySem.W.kitx_tuple I.kIn ⟨o,h1,h2⟩ e (fun z=>nomatch z) h
 | @dK a kvs ea=>
  cases (show u=Mf a from rx)
  obtain ⟨_,_,vs,_,p⟩:=(show bA X.prog X.w H s.heap a (.dK kvs) from I.hok a _ ea)
  obtain ⟨o,es,ep,h1,h2,_⟩:=p
  exact Nu Tu I.kIn ⟨o,h1,h2.1⟩ e (fun z=>nomatch z) h
 | @dT a kvs ea=>
  cases (show u=Mf a from rx)
  obtain ⟨_,_,xs,_,o,es,ep,h1,h2,_⟩:=(show bA X.prog X.w H s.heap a (.dT kvs) from I.hok a _ ea)
  exact Nu Tu I.kIn ⟨o,h1,h2.1⟩ e (fun z=>nomatch z) h
 | @ins a C dx fs ea cl ha hn htk hm=>
  cases (show u=Mf a from rx)
  obtain ⟨mA,O,_⟩:=rN I.hok ea
  obtain ⟨od,J,_⟩:=O.look
  exact Nu (PySem.W.kitx_own (cl.get _) cl.hd ha hn htk hm) I.kIn J e (fun z=>nomatch z) h
end
end L2
namespace L2
open PySem PySem.Spec PyProof.Rows
structure bV (k:Nat) (A:Around):Prop where
 hd:A.handled=none
 dp:A.depth + 3 * k + 5 < recursionLimit
 un:A.units + 16 * k + 200 < cLine
theorem bV.mono {j k:Nat} {A:Around} (r:bV k A) (h:j<=k):bV j A:=⟨r.hd,by have:=r.dp; omega,by have:=r.un; omega⟩
theorem bV.deeper {k:Nat} {A:Around} (r:bV (k + 1) A) (env:Env):bV k (A.deeper env):=
 ⟨r.hd,by have:=r.dp; show A.depth + 1 + 3 * k + 5 < _; omega,by have:=r.un; show A.units + 3 + 16 * k + 200 < _; omega⟩
theorem Cr {A:Around} {C:Addr} {us:List Value} {kw:List (Str×Value)}:(A.under (.builtin "type.__call__" ⟨.ref C :: us,kw⟩)).depth=A.depth + 1:=by
 first | rfl | simp [Ta,Code.weight,Code.isCreation,Code.isGuard,Code.isCaller,Code.frames,Tc,guardIds]
theorem Cs {A:Around} {C:Addr} {us:List Value} {kw:List (Str×Value)}:(A.under (.builtin "type.__call__" ⟨.ref C :: us,kw⟩)).units=A.units + 1:=by
 first | rfl | simp [Ta,Code.cUnits,Code.frames,Tc]
theorem bV.make {k:Nat} {A:Around} (r:bV (k + 1) A) (C:Addr) (us:List Value) (kw:List (Str×Value)):bV k (A.under (.builtin "type.__call__" ⟨.ref C :: us,kw⟩)):=
 ⟨r.hd,by have:=r.dp; rw [Cr]; omega,by have:=r.un; rw [Cs]; omega⟩
theorem bV.depth {k:Nat} {A:Around} (r:bV k A):A.depth < recursionLimit:=by have:=r.dp; omega
theorem bV.units0 {k:Nat} {A:Around} (r:bV k A):A.units < cLine:=by have:=r.un; omega
noncomputable def af:TA:=fun _ H Q=>Q [] H
noncomputable def aa (ta:TE) (tr:TA):TA:=fun σ H Q=>ta σ H fun x H1=>tr σ H1 fun xs H2=>Q (x :: xs) H2
section
variable {X:Cx} {e:Expr} {es:List Expr} {te:TE} {t:TA} {pos:Pos}
theorem ae:PA X [] af:=fun _ _ _ _ H Q I h=>Q8 ⟨[],H,I,.nil,h⟩
theorem gL (ha:PE X e te) (hr:PA X es t) (hs:L5 (e :: es) X.env=(false,eval e X.env) :: L5 es X.env:=by rfl):PA X (e :: es) (aa te t):=by
 intro pos pins s σ H Q I h
 rw [hs]
 show wpAny _ _ (spliced ((false,eval e X.env) :: backTo pos (L5 es X.env))) _ _ s
 refine QM (thn (ha pins s σ H _ I h) fun u s1 ⟨x,H1,I1,r1,q1⟩=>?_)
 exact thn (hr pos pins s1 σ H1 _ I1 q1) fun us s2 ⟨xs,H2,I2,r2,q2⟩=>⟨x :: xs,H2,I2,.cons r1 r2,q2⟩
noncomputable def F3 (t:TA):TE:=fun σ H Q=>t σ H fun xs H1=>xs.length<=LN/\∀ p,H1 p=none->Q (.ref p) (upd H1 p (.tup xs))
noncomputable def Ct (t:TA):TE:=fun σ H Q=>t σ H fun xs H1=>xs.length<=LN/\∀ p,H1 p=none->Q (.ref p) (upd H1 p (.lst xs))
theorem EB {x1} (h:PA X es t):PE X (.Tuple es x1 pos) (F3 t):=by
 intro pins s σ H Q I hq
 refine SQ (thn (h pos pins s σ H _ I hq) fun us s1 ⟨xs,H1,I1,r,z,q⟩=>⟨by rw [<-r.length]; exact z,?_⟩)
 have hf:H1 s1.heap.objs.size=none:=I1.hok.fresh (LC _)
 refine ⟨.ref s1.heap.objs.size,upd H1 s1.heap.objs.size (.tup xs),I1.laid (t':=s1.toks) (fun b u e=>Lx _ e) (LC _) ?_,rfl,q _ hf⟩
 exact ⟨z,us,r,fi.new _ _⟩
theorem zt (h:PA X es t):PE X (.List es pos) (Ct t):=by
 intro pins s σ H Q I hq
 refine Td (thn (h pos pins s σ H _ I hq) fun us s1 ⟨xs,H1,I1,r,z,q⟩=>⟨by rw [<-r.length]; exact z,?_⟩)
 have hf:H1 s1.heap.objs.size=none:=I1.hok.fresh (LC _)
 refine ⟨.ref s1.heap.objs.size,upd H1 s1.heap.objs.size (.lst xs),I1.laid (t':=s1.toks) (fun b u e=>Lx _ e) (LC _) ?_,rfl,q _ hf⟩
 exact ⟨z,us,0,r,LH _ rfl⟩
end
noncomputable abbrev Sp:=List V->Hp->VK->XK->Prop
noncomputable abbrev CXT:=List Env->Hp->Shared->XK->Value->Shared->Prop
structure tH (P:Program) (w:World) (K:Fg) (mg:Str->Option Value) (base:Heap) (A:Around) (outer:List Env) (s:Shared) (H:Hp):Prop where
 frames:A.frames=some outer
 mod:Mod K mg base
 bs:∀ b o,base.get? b=some o->s.heap.get? b=some o/\H b=none
 bsz:base.objs.size<=s.heap.objs.size
 funs:s.heap.FunFrames base outer
 frf:∀ b∈frs outer,H b=none
 hok:HOk P w H s.heap
 bare:AllBare s.gens
noncomputable def CE (outer:List Env) (P:Program) (w:World) (H:Hp) (s:Shared) (Q:VK) (u:Value) (s':Shared):Prop:=
 ∃ v H',s'.os=s.os/\AllBare s'.gens/\Un (frs outer) [] H H' s.heap s'.heap/\HOk P w H' s'.heap/\aH v u/\Q v H'
noncomputable def CR (CX:CXT) (outer:List Env) (P:Program) (w:World) (H:Hp) (s:Shared) (Q:VK) (E:XK) (r:Result) (s':Shared):Prop:=
 match r with
 | .ok (.ret u)=>CE outer P w H s Q u s'
 | .ok _=>False
 | .error e=>CX outer H s E e s'
structure ie (P:Program) (w:World) (K:Fg) (mg:Str->Option Value) (base:Heap) (CX:CXT) (k:Nat) (f:Addr) (fd:LX) (ps:List Str) (sp:Sp):Prop where
 len:∀ vs H Q E,sp vs H Q E->vs.length=ps.length
 run:∀ (A:Around) (outer:List Env) (s:Shared) (H:Hp) (args:Args) (us:List Value) (vs:List V) (Q:VK) (E:XK),bV k A->tH P w K mg base A outer s H->BindsTo s fd args (ps.zip us)->aG vs us->sp vs H Q E->
  codeAny (model P w) A (.call (.ref f) args) (CR CX outer P w H s Q E) s
theorem tH.make {P:Program} {w:World} {K:Fg} {mg:Str->Option Value} {base:Heap} {A:Around} {outer:List Env} {s:Shared} {H:Hp} (e:tH P w K mg base A outer s H) (C:Addr) (us:List Value) (kw:List (Str×Value)):
  tH P w K mg base (A.under (.builtin "type.__call__" ⟨.ref C :: us,kw⟩)) outer s H:=⟨by first | exact e.frames | (simpa [Ta,Code.envs,Tc,pushEnvs] using e.frames),e.mod,e.bs,e.bsz,e.funs,e.frf,e.hok,e.bare⟩
section
variable {X:Cx} {pins:List (Addr×Obj)} {σ:St} {H:Hp} {s s':Shared}
theorem Inv.env0 (I:Inv X pins σ H s):tH X.prog X.w X.K X.mg X.base X.A X.stack s H:=
 ⟨I.ok.frames,I.ok.mod,I.bs,Me I.ok.bsz I.sz,I.stack,I.stkFree,I.hok,I.bare⟩
theorem Inv.after {Q:VK} {u:Value} (I:Inv X pins σ H s) (h:CE X.stack X.prog X.w H s Q u s'):EP X pins σ Q u s':=by
 obtain ⟨v,H',os,bare,un,hok,r,q⟩:=h
 obtain ⟨hh,g,d,t,os'⟩:=s'
 obtain rfl:os'=s.os:=os
 exact ⟨v,H',I.call (h':=hh) (g':=g) (d':=d) (t':=t) (ch:=[]) un hok bare (fun b z=>absurd z (by simp)),r,q⟩
end
noncomputable def au (sp:Sp) (dvs:List V) (E:XK) (t:TA):TE:=fun σ H Q=>t σ H fun vs H1=>sp (vs++dvs) H1 Q E
noncomputable def dv (C:Addr) (m:Str) (sp:Sp) (dvs:List V) (E:XK) (ta:TE) (t:TA):TE:=fun σ H Q=>ta σ H fun x H1=>∃ a dx fs,x=.ref a/\H1 a=some (.ins C dx fs)/\fs.lookup m=none/\
 t σ H1 fun vs H2=>sp (x :: (vs++dvs)) H2 Q E
noncomputable def uA (C:Addr) (sp:Sp) (dvs:List V) (E:XK) (t:TA):TE:=fun σ H Q=>t σ H fun vs H1=>∀ x dx,H1 x=none->H1 dx=none->dx≠x->
 sp (.ref x :: (vs++dvs)) (upd (upd H1 dx (.own x)) x (.ins C dx [])) (fun v H2=>v=.non/\Q (.ref x) H2) E
noncomputable def fM (K:Fg) (fd:LX) (ps:List Str) (ds:List Value):Prop:=
 ∀ (s:Shared) (us:List Value),K.In s.heap->(us++ds).length=ps.length->BindsTo s fd ⟨us,[]⟩ (ps.zip (us++ds))
theorem fM.all {K:Fg} {fd:LX} {ps:List Str} (h:∀ us:List Value,us.length=ps.length->bindArgs fd ⟨us,[]⟩=pure (ps.zip us)):fM K fd ps []:=fun s us _ hl=>by
 rw [Oa] at hl ⊢
 exact .of_eq (h us hl)
noncomputable def lL (CX:CXT) (X:Cx) (E:XK):Prop:=∀ (pins:List (Addr×Obj)) (σ:St) (H:Hp) (s:Shared) (e:Value) (s':Shared),Inv X pins σ H s->CX X.stack H s E e s'->X.xe e s'
section
variable {X:Cx} {CX:CXT} {k:Nat} {f C:Addr} {fd:LX} {ps:List Str} {sp:Sp} {dvs:List V} {ds:List Value} {E:XK} {x m:Str} {p pos apos:Pos} {e o:Expr} {es:List Expr} {ta:TE} {t:TA}
theorem zu {pins:List (Addr×Obj)} {σ:St} {H:Hp} {s:Shared} {Q:VK} {us:List Value} {vs:List V} (F:ie X.prog X.w X.K X.mg X.base CX k f fd ps sp) (hr:bV k X.A) (hb:fM X.K fd ps ds) (hd:aG dvs ds) (hx:lL CX X E)
  (I:Inv X pins σ H s) (r:aG vs us) (h:sp (vs++dvs) H Q E):wpAny (model X.prog X.w) X.A (call (.ref f) us) (EP X pins σ Q) X.xe s:=by
 have r2:aG (vs++dvs) (us++ds):=r.append hd
 have hl:(us++ds).length=ps.length:=by rw [<-r2.length]; exact F.len _ _ _ _ h
 refine Ur (OO (F.run X.A X.stack s H ⟨us,[]⟩ (us++ds) (vs++dvs) Q E hr I.env0 (hb s us I.kIn hl) r2 h) fun r s' hq=>?_)
 cases r with
 | error e=>exact hx pins σ H s e s' I hq
 | ok fl=>
  cases fl with
  | ret u=>exact I.after hq
  | next=>exact NH hq
  | brk=>exact NH hq
  | cont=>exact NH hq
theorem Im (F:ie X.prog X.w X.K X.mg X.base CX k f fd ps sp) (hr:bV k X.A) (hg:Gl X x) (hm:X.mg x=some (.ref f)) (hk:O4 X.K (.ref f)=true) (hb:fM X.K fd ps ds) (hd:aG dvs ds) (hx:lL CX X E)
  (ha:PA X (e :: es) t) (hdb:(x == ("__debug__":Str))=false:=by decide) (he:L5 (e :: es) X.env=(false,eval e X.env) :: L5 es X.env:=by rfl) (hpl:(backTo pos (L5 es X.env)).any (·.1)=false:=by rfl):
  PE X (.Call (.Name x p) (e :: es) [] pos) (au sp dvs E t):=by
 intro pins s σ H Q I h
 refine N6 (wm I hg hm ?_ hdb)
 refine QN (h₀:=X.base) I.ok.mod.kin hk (thn (ha pos pins s σ H _ I h) fun us s1 ⟨vs,H1,I1,r,q⟩=>⟨I1.kIn,?_⟩) he hpl
 exact zu F hr hb hd hx I1 r q
theorem Io {pl:Sem Bool} (he:PE X o ta) (c:Cls X.K C) (hm:zr X.K C m f) (F:ie X.prog X.w X.K X.mg X.base CX k f fd ps sp) (hr:bV k X.A) (hb:fM X.K fd ps ds) (hd:aG dvs ds) (hx:lL CX X E) (ha:PA X (e :: es) t)
  (hst:L5 (e :: es) X.env=(false,eval e X.env) :: L5 es X.env:=by rfl) (hpl:(backTo pos (L5 es X.env)).any (·.1)=false:=by rfl)
  (ht:eval (.Call (.Attribute o m apos) (e :: es) [] pos) X.env=(do
   let ov <-eval o X.env
   standAt apos.atName
   let (f,first) <-holding [ov] (QL ov m pl)
   T7 pos f first (backTo pos (L5 (e :: es) X.env)) (PZ pos (O0 [] X.env))):=by rfl):
  PE X (.Call (.Attribute o m apos) (e :: es) [] pos) (dv C m sp dvs E ta t):=by
 intro pins s σ H Q I h
 refine R6 (pl:=pl) (thn (he pins s σ H _ I h) fun u s1 ⟨x,H1,I1,rx,a,dx,fs,ex,ea,l,q⟩=>?_) ht
 subst ex
 obtain rfl:u=Mf a:=rx
 refine uz I1 ea c hm l ?_
 refine QN (first:=[.ref a]) (h₀:=X.base) I.ok.mod.kin hm.kp (thn (ha pos pins s1 σ H1 _ I1 q) fun us s2 ⟨vs,H2,I2,r,q2⟩=>⟨I2.kIn,?_⟩) hst hpl
 exact zu (us:=.ref a :: us) (vs:=.ref a :: vs) F hr hb hd hx I2 (.cons rfl r) q2
theorem F4 {pl:Sem Bool} (he:PE X o ta) (c:Cls X.K C) (hm:zr X.K C m f) (F:ie X.prog X.w X.K X.mg X.base CX k f fd ps sp) (hr:bV k X.A) (hb:fM X.K fd ps ds) (hd:aG dvs ds) (hx:lL CX X E)
  (ht:eval (.Call (.Attribute o m apos) [] [] pos) X.env=(do
   let ov <-eval o X.env
   standAt apos.atName
   let (f,first) <-holding [ov] (QL ov m pl)
   T7 pos f first (backTo pos (L5 [] X.env)) (PZ pos (O0 [] X.env))):=by rfl):
  PE X (.Call (.Attribute o m apos) [] [] pos) (dv C m sp dvs E ta af):=by
 intro pins s σ H Q I h
 refine R6 (pl:=pl) (thn (he pins s σ H _ I h) fun u s1 ⟨x,H1,I1,rx,a,dx,fs,ex,ea,l,q⟩=>?_) ht
 subst ex
 obtain rfl:u=Mf a:=rx
 refine uz I1 ea c hm l ?_
 exact PySem.W.callWith_K0 (first:=[.ref a]) I1.kIn hm.kp (zu (us:=[.ref a]) (vs:=[.ref a]) F hr hb hd hx I1 (.cons rfl .nil) q)
structure Mk (K:Fg) (C f:Addr):Prop where
 makes:Uq K C=true
 init:NV K (.ref C) "__init__"=some (some (.ref f))
 fn:S9 K (.ref f)=true
 kp:O4 K (.ref C)=true
theorem F5 {pins:List (Addr×Obj)} {σ:St} {H:Hp} {s:Shared} {Q:VK} {us:List Value} {vs:List V} (M:Mk X.K C f) (F:ie X.prog X.w X.K X.mg X.base CX k f fd ps sp) (hr:bV (k + 1) X.A) (hb:fM X.K fd ps ds) (hd:aG dvs ds)
  (hx:lL CX X E) (I:Inv X pins σ H s) (r:aG vs us)
  (h:∀ x dx,H x=none->H dx=none->dx≠x->sp (.ref x :: (vs++dvs)) (upd (upd H dx (.own x)) x (.ins C dx [])) (fun v H2=>v=.non/\Q (.ref x) H2) E):
  wpAny (model X.prog X.w) X.A (call (.ref C) us) (EP X pins σ Q) X.xe s:=by
 have hq:=h (s.heap.objs.size + 1) s.heap.objs.size (I.hok.fresh (OK _)) (I.hok.fresh (LC _)) (Ml (Nm _))
 have I2:=Inv.made (C:=C) I
 have r2:aG (V.ref (s.heap.objs.size + 1) :: (vs++dvs)) (Mf (s.heap.objs.size + 1) :: (us++ds)):=.cons rfl (r.append hd)
 have hl:(Mf (s.heap.objs.size + 1) :: us++ds).length=ps.length:=by
  have e:=r2.length
  rw [F.len _ _ _ _ hq] at e
  exact e.symm
 refine Ur (F2 (f:=f) I.kIn M.makes M.init (beq_iff_eq.mp M.fn) (OO (F.run _ X.stack _ _ ⟨Mf (s.heap.objs.size + 1) :: us,[]⟩ (Mf (s.heap.objs.size + 1) :: (us++ds)) _ _ E (hr.make C us [])
  (I2.env0.make C us []) (hb _ (Mf (s.heap.objs.size + 1) :: us) I2.kIn hl) r2 hq) fun r s' hq'=>?_))
 cases r with
 | error e=>exact hx pins σ _ _ e s' I2 hq'
 | ok fl=>
  cases fl with
  | ret u=>
   obtain ⟨v,H',I3,rv,ev,q3⟩:=I2.after hq'
   subst ev
   exact ⟨rv,⟨V.ref (s.heap.objs.size + 1),H',I3,rfl,q3⟩⟩
  | next=>exact NH hq'
  | brk=>exact NH hq'
  | cont=>exact NH hq'
theorem Ip (M:Mk X.K C f) (F:ie X.prog X.w X.K X.mg X.base CX k f fd ps sp) (hr:bV (k + 1) X.A) (hg:Gl X x) (hm:X.mg x=some (.ref C)) (hb:fM X.K fd ps ds) (hd:aG dvs ds) (hx:lL CX X E)
  (ha:PA X (e :: es) t) (hdb:(x == ("__debug__":Str))=false:=by decide) (he:L5 (e :: es) X.env=(false,eval e X.env) :: L5 es X.env:=by rfl) (hpl:(backTo pos (L5 es X.env)).any (·.1)=false:=by rfl):
  PE X (.Call (.Name x p) (e :: es) [] pos) (uA C sp dvs E t):=by
 intro pins s σ H Q I h
 refine N6 (wm I hg hm ?_ hdb)
 refine QN (h₀:=X.base) I.ok.mod.kin M.kp (thn (ha pos pins s σ H _ I h) fun us s1 ⟨vs,H1,I1,r,q⟩=>⟨I1.kIn,?_⟩) he hpl
 exact F5 M F hr hb hd hx I1 r q
end
section
variable {X:Cx} {CX:CXT} {k:Nat} {f C:Addr} {fd:LX} {ps ks:List Str} {sp:Sp} {E:XK} {x m:Str} {p pos apos kpos:Pos} {e o:Expr} {es:List Expr} {kws:List Keyword} {te ta:TE} {t tk:TA} {nm:Option Str}
variable {g:List Value->List Value->List Value} {gV:List V->List V->List V}
end
structure aA (N P:List Str) (sc:Scope):Prop where
 kind:sc.kind=.function
 co:sc.isCoroutine=false
 gen:sc.isGenerator=false
 nd:N.Nodup
 pre:N.take P.length=P
 par:∀ x∈P,sc.names.lookup x=some .local\/sc.names.lookup x=some .cell
 nofree:∀ y∈sc.names,y.2≠.free
theorem xp {kindOf:Str->Option My} {x:Str}:∀ {binds:List (Str×Value)} {m:Str->Option Value},(∀ v,(x,v)∉binds)->bindL kindOf binds m x=m x
 | [],_,_=>rfl
 | (n,v) :: r,m,h=>by
  unfold bindL
  rw [xp fun w hw=>h w (LJ _ hw)]
  split
  ·have:x≠n:=by rintro rfl; exact h v LG
   simp [this]
  ·rfl
theorem xq {kindOf:Str->Option My} {x:Str}:∀ {binds:List (Str×Value)} {m:Str->Option Value},(∀ v,(x,v)∉binds)->bindC kindOf binds m x=m x
 | [],_,_=>rfl
 | (n,v) :: r,m,h=>by
  unfold bindC
  rw [xq fun w hw=>h w (LJ _ hw)]
  split
  ·rfl
  ·have:x≠n:=by rintro rfl; exact h v LG
   simp [this]
theorem xr {kindOf:Str->Option My} {x:Str} {v:Value}:∀ {P:List Str} {vs:List Value} {i:Nat} {m:Str->Option Value},P.Nodup->P[i]?=some x->vs[i]?=some v->kindOf x=some .local->
  bindL kindOf (P.zip vs) m x=some v
 | [],_,_,_,_,h,_,_=>by simp at h
 | _ :: _,[],_,_,_,_,h,_=>by simp at h
 | p :: P,w :: vs,0,m,nd,h1,h2,hk=>by
  simp at h1 h2; subst h1; subst h2
  show bindL kindOf ((p,w) :: P.zip vs) m p=_
  unfold bindL
  rw [xp fun v hv=>(Nv.mp nd).1 (RL hv).1,if_pos hk]
  simp
 | p :: P,w :: vs,i + 1,m,nd,h1,h2,hk=>by
  show bindL kindOf ((p,w) :: P.zip vs) m x=_
  unfold bindL
  exact xr (i:=i) (Nv.mp nd).2 (by simpa using h1) (by simpa using h2) hk
theorem xt {kindOf:Str->Option My} {x:Str} {v:Value}:∀ {P:List Str} {vs:List Value} {i:Nat} {m:Str->Option Value},P.Nodup->P[i]?=some x->vs[i]?=some v->kindOf x≠some .local->
  bindC kindOf (P.zip vs) m x=some v
 | [],_,_,_,_,h,_,_=>by simp at h
 | _ :: _,[],_,_,_,_,h,_=>by simp at h
 | p :: P,w :: vs,0,m,nd,h1,h2,hk=>by
  simp at h1 h2; subst h1; subst h2
  show bindC kindOf ((p,w) :: P.zip vs) m p=_
  unfold bindC
  rw [xq fun v hv=>(Nv.mp nd).1 (RL hv).1,if_neg hk]
  simp
 | p :: P,w :: vs,i + 1,m,nd,h1,h2,hk=>by
  show bindC kindOf ((p,w) :: P.zip vs) m x=_
  unfold bindC
  exact xt (i:=i) (Nv.mp nd).2 (by simpa using h1) (by simpa using h2) hk
noncomputable def start (N:List Str) (vs:List V):St:=vs.map some++Mv (N.length - vs.length) none
noncomputable def oQ (CX:CXT) (P:Program) (w:World) (K:Fg) (mg:Str->Option Value) (base:Heap) (N:List Str) (qual:Str) (scope:Scope) (f:Addr) (cd:Value) (A:Around) (outer:List Env) (s:Shared) (H:Hp) (E:XK):Cx where
 prog:=P
 w:=w
 K:=K
 mg:=mg
 base:=base
 A:=A.deeper (envOfC qual scope s.heap.objs.size f cd)
 N:=N
 s₀:=s
 H₀:=H
 env:=envOfC qual scope s.heap.objs.size f cd
 outer:=outer
 stack:=envOfC qual scope s.heap.objs.size f cd :: outer
 ex:=[]
 calm:=true
 fn:=fun _=>true
 pn:=[]
 xe:=fun e s'=>wpAny (model P w) (A.deeper (envOfC qual scope s.heap.objs.size f cd)) («leaving» (envOfC qual scope s.heap.objs.size f cd) e) (fun _ s''=>CX outer H s E e s'') (fun e' s''=>CX outer H s E e' s'') s'
theorem zv {sc:Scope} {n:Nat} {x:Str} (h:sc.names.lookup x=some .cell):∃ c,(UL n sc.names []).lookup x=some c:=by
 have q:=RX sc.names n [] (.inl h)
 exact Ro.mp q
theorem EC {CX:CXT} {P:Program} {w:World} {K:Fg} {mg:Str->Option Value} {base:Heap} {N ps:List Str} {qual:Str} {scope:Scope} {f:Addr} {cd:Value} {A:Around} {outer:List Env} {s s1:Shared} {H:Hp} {E:XK} {us:List Value} {vs:List V}
  (S:aA N ps scope) (hd:A.handled=none) (e0:tH P w K mg base A outer s H) (hl:vs.length=ps.length) (r:aG vs us)
  (x:InCallC s s.heap.objs.size (bindL (envOfC qual scope s.heap.objs.size f cd).kindOf (ps.zip us) fun _=>none) (UL (s.heap.objs.size + 1) scope.names []) (bindC (envOfC qual scope s.heap.objs.size f cd).kindOf (ps.zip us) fun _=>none) s1):
  Inv (oQ CX P w K mg base N qual scope f cd A outer s H E) [] (start N vs) H s1:=by
 have hpl:ps.length<=N.length:=by have:=congrArg List.length S.pre; rw [M6] at this; omega
 obtain ⟨h1,tk,rfl,hk⟩:=x.done
 have noA:∀ b:Addr,b∉(oQ CX P w K mg base N qual scope f cd A outer s H E).ex:=fun b z=>absurd (show b∈([]:List Addr) from z) (by simp)
 refine ⟨⟨e0.mod,S.kind,rfl,rfl,LC _,fun y z c h1 h2=>?_,fun y hy=>?_,fun y c _ h=>?_,fun _=>hd,Around.frames_deeper e0.frames,.inr ⟨rfl,rfl⟩,fun b z=>absurd z (noA b),e0.bs,e0.bsz,fun b _ _=>noA b,fun b z=>absurd z (noA b),e0.funs,e0.frf⟩,
  rfl,e0.bare,Un.kept hk,⟨_,x.toInCall.ns,fun i y v h1 h2 h3=>?_⟩,fun y c h=>⟨_,x.cell y c h⟩,e0.hok.fresh (LC _),fun y c h=>?_,fun p hp=>absurd (show p∈([]:List (Addr×Obj)) from hp) (by simp),e0.hok.kept hk,?_⟩
 ·exact name_of_addr x.apart (MW h1) (MW h2)
 ·have hy:scope.names.lookup y=some .cell\/scope.names.lookup y=some .free:=hy
  rcases hy with hy | hy
  ·exact zv hy
  ·exact absurd rfl (S.nofree _ (MW hy))
 ·exact ML (x.above y c (MW h))
 ·have hi:i < vs.length:=by
   unfold start at h2
   by_cases hi:i < vs.length
   ·exact hi
   ·rw [Pe (by simpa using hi)] at h2
    rw [List.getElem?_replicate] at h2
    split at h2 <;> cases h2
  have ha:vs[i]?=some v:=by
   unfold start at h2
   rw [OF (by simpa using hi),LS] at h2
   cases e:vs[i]? with
   | none=>rw [e] at h2; cases h2
   | some a=>rw [e] at h2; cases h2; rfl
  obtain ⟨u,hu,rv⟩:=r.get ha
  have hp:ps[i]?=some y:=by
   rw [<-S.pre,Rp (by omega)]; exact h1
  have ndP:ps.Nodup:=by rw [<-S.pre]; exact S.nd.sublist (List.take_sublist _ _)
  refine ⟨u,rv,?_⟩
  rcases S.par y (LU hp) with k | k
  ·exact .inl ⟨k,xr ndP hp hu k⟩
  ·obtain ⟨c,e⟩:=zv (n:=s.heap.objs.size + 1) k
   refine .inr ⟨.inl k,c,e,?_⟩
   have q:=x.cell y c e
   rw [xt ndP hp hu (by show scope.names.lookup y≠_; rw [k]; decide)] at q
   exact q
 ·exact e0.hok.fresh (ML (x.above y c (MW h)))
 ·unfold start
  show _=N.length
  rw [LY,LF,List.length_replicate]
  omega
theorem KP {CX:CXT} {P:Program} {w:World} {K:Fg} {mg:Str->Option Value} {base:Heap} {k:Nat} {f:Addr} {name qual:Str} {params:Arguments} {body:List Stmt} {scope:Scope} {dV kV doc pm cdv ct oc:Value} {an od:Option Addr}
  {osl:Array (Option Value)} {N ps:List Str} {sp:Sp} (lk:K.lookup f=some ⟨oc,od,.func (Pn name qual params body scope dV kV doc pm an cdv ct),osl⟩) (hcd:R7 K cdv qual=true) (S:aA N ps scope)
  (len:∀ vs H Q E,sp vs H Q E->vs.length=ps.length)
  (hbody:∀ (A:Around) (outer:List Env) (s:Shared) (H:Hp) (vs:List V) (Q:VK) (E:XK),bV k (A.deeper (envOfC qual scope s.heap.objs.size f cdv))->sp vs H Q E->
   ∃ t,PSs (oQ CX P w K mg base N qual scope f cdv A outer s H E) body t/\t { nx:=fun _ H'=>Q .non H',rt:=Q } (start N vs) H):
  ie P w K mg base CX (k + 1) f (Pn name qual params body scope dV kV doc pm an cdv ct) ps sp:=by
 refine ⟨len,fun A outer s H args us vs Q E hr e0 hb r hsp=>?_⟩
 have hl:=len _ _ _ _ hsp
 have KX:K.In s.heap:=e0.mod.kin.keeps fun b o e=>(e0.bs b o e).1
 have lim:s.heap.NoLimit:=e0.mod.nolimit.keeps fun b o e=>(e0.bs b o e).1
 have hkind:∀ y∈ps.zip us,scope.names.lookup y.1=some .local\/(scope.names.lookup y.1=some .cell/\((UL (s.heap.objs.size + 1) scope.names []).lookup y.1).isSome=true):=fun ⟨n,v⟩ hy=>by
  rcases S.par n (RL hy).1 with q | q
  ·exact .inl q
  ·exact .inr ⟨q,RX _ _ _ (.inl q)⟩
 refine codeAny_call_function hr.depth (KX _ _ lk) rfl S.co S.gen rfl (PySem.W.codeRec_of KX hcd) (hb _ _ _ _ ?_)
 refine wpAny_newFunctionEnv_cells S.kind hkind fun env he s1 x=>?_
 subst he
 refine ⟨lim.keeps x.toInCall.keep,codeAny_func ?_⟩
 obtain ⟨t,ht,hq⟩:=hbody A outer s H vs Q E (hr.deeper _) hsp
 have I:Inv (oQ CX P w K mg base N qual scope f cdv A outer s H E) [] (start N vs) H s1:=EC S hr.hd e0 hl r x
 refine Nh (ht [] s1 (start N vs) H _ I hq) (fun fl s' hs=>?_) fun e s' hs=>hs
 have fin:∀ {σ':St} {H':Hp} {v:V} {u:Value},Inv (oQ CX P w K mg base N qual scope f cdv A outer s H E) [] σ' H' s'->aH v u->Q v H'->CE outer P w H s Q u s':=
  fun {σ' H' v u} J rv q=>⟨v,H',J.os,J.bare,J.base,J.hok,rv,q⟩
 cases fl with
 | ret u=>
  obtain ⟨v,σ',H',J,rv,q⟩:=hs
  exact fin J rv q
 | next=>
  obtain ⟨σ',H',J,q⟩:=hs
  exact fin (v:=V.non) (u:=MZ) J rfl q
 | brk=>
  obtain ⟨_,_,_,q⟩:=hs
  exact NH q
 | cont=>
  obtain ⟨_,_,_,q⟩:=hs
  exact NH q
end L2
namespace L2
open PySem PySem.Spec PyProof.Rows
section
variable {X:Cx} {x:Str} {p pos:Pos} {e:Expr} {es:List Expr} {t:TA} {id T:String} {r:List V->Hp->VK->Prop}
noncomputable def tCB (r:List V->Hp->VK->Prop) (t:TA):TE:=fun σ H Q=>t σ H fun vs H1=>r vs H1 Q
theorem aJ (hc:cZ X (.builtin id) r) (hg:Gl X x) (hm:X.mg x=none) (hv:Pm x=some (.builtin id)) (ha:PA X (e :: es) t) (hn:x≠"__name__":=by decide) (hdb:(x == ("__debug__":Str))=false:=by decide)
  (he:L5 (e :: es) X.env=(false,eval e X.env) :: L5 es X.env:=by rfl) (hpl:(backTo pos (L5 es X.env)).any (·.1)=false:=by rfl):PE X (.Call (.Name x p) (e :: es) [] pos) (tCB r t):=by
 intro pins s σ H Q I h
 refine N6 (fR I hg hm hv ?_ hn hdb)
 exact Qg (thn (ha pos pins s σ H _ I h) fun us s1 ⟨vs,H1,I1,r1,q1⟩=>hc pins s1 σ H1 vs us Q I1 r1 q1) he hpl
theorem b8 (hc:cZ X (.type T) r) (hg:Gl X x) (hm:X.mg x=none) (hv:Pm x=some (.type T)) (ha:PA X (e :: es) t) (hn:x≠"__name__":=by decide) (hdb:(x == ("__debug__":Str))=false:=by decide)
  (he:L5 (e :: es) X.env=(false,eval e X.env) :: L5 es X.env:=by rfl) (hpl:(backTo pos (L5 es X.env)).any (·.1)=false:=by rfl):PE X (.Call (.Name x p) (e :: es) [] pos) (tCB r t):=by
 intro pins s σ H Q I h
 refine N6 (fR I hg hm hv ?_ hn hdb)
 exact MI (thn (ha pos pins s σ H _ I h) fun us s1 ⟨vs,H1,I1,r1,q1⟩=>hc pins s1 σ H1 vs us Q I1 r1 q1) he hpl
end
end L2
namespace HT
open PySem PyProof.Rows
section
open PySem.SeqAt
open PySem.AutoSeq1 (wpAny_loadPart')
open PySem.MeetsSeq PySem.MeetsSeq2 PySem.MeetsSeq3
end
section
variable {prog:Program} {w:World} {A:Around} {E:Value->Shared->Prop} {s:Shared}
theorem Iq {t b:Addr} {vs ws:List Value} {Q:Value->Shared->Prop} (ht:IsTup s.heap t vs.toArray) (hb:IsTup s.heap b ws.toArray) (hv:vs≠[])
  (h1:ws=[]->Q (.ref t) s) (h2:ws≠[]->Q (.ref s.heap.objs.size) { s with heap:=s.heap.push { cls:=.type "tuple",data:=.seq (vs++ws).toArray } })
  (hsz:vs.length + ws.length<=LN):wpAny (model prog w) A (Oy .Add (.ref t) (.ref b)) Q E s:=by
 obtain ⟨⟨cls,dd,data,sl⟩,ho,hc,n,hd⟩:=id ht
 obtain ⟨⟨cls2,dd2,data2,sl2⟩,ho2,hc2,n2,hd2⟩:=id hb
 simp only at hc hd hc2 hd2
 subst hc hd hc2 hd2
 have e:vs.toArray++ws.toArray=(vs++ws).toArray:=by simp
 by_cases hw:ws=[]
 ·exact Te ⟨_,ho,rfl⟩ ⟨_,ho2,rfl⟩ Rq SJ PL Px (Po _ _)
   (tuple_addW1 t b vs.toArray ws.toArray n n2 dd dd2 sl sl2 (by simpa using hv) (by simp [hw])) ⟨ho,ho2,h1 hw⟩
 ·refine Te ⟨_,ho,rfl⟩ ⟨_,ho2,rfl⟩ Rq SJ PL Px (Po _ _)
   (tuple_addW2 t b vs.toArray ws.toArray n n2 dd dd2 sl sl2 (by simpa using hv) (by simpa using hw) (by rw [LQ,LQ]; exact hsz)) ⟨ho,ho2,?_⟩
  rw [e]
  exact h2 hw
noncomputable def sIx (n d:Nat):Option Int->Nat
 | none=>d
 | some v=>if v < 0 then (v + (n:Int)).toNat else min v.toNat n
theorem JO (n d:Nat) (hd:d<=n) (o:Option Int):sIx n d o<=n:=by
 cases o with
 | none=>exact hd
 | some v=>
  show (if v < 0 then (v + (n:Int)).toNat else min v.toNat n)<=n
  by_cases hv:v < 0
  ·rw [if_pos hv]; omega
  ·rw [if_neg hv]; exact Rr _ _
theorem BO (v:Int) (n d:Nat):(if v < 0 then max (v + (n:Int)) 0 else min v (n:Int))=((sIx n d (some v):Nat):Int):=by
 show (if v < 0 then max (v + (n:Int)) 0 else min v (n:Int))=(((if v < 0 then (v + (n:Int)).toNat else min v.toNat n):Nat):Int)
 by_cases hv:v < 0
 ·simp only [if_pos hv]; omega
 ·simp only [if_neg hv]; omega
theorem Cu (lo hi:Option Int) (n:Nat):Pk lo hi 1 (n:Int)=(((sIx n 0 lo:Nat):Int),((sIx n n hi:Nat):Int)):=by
 have h1:¬ ((1:Int) < 0):=by omega
 unfold Pk
 simp only [h1,if_false]
 refine Prod.ext ?_ ?_
 ·cases lo with
  | none=>rfl
  | some v=>exact BO v n 0
 ·cases hi with
  | none=>rfl
  | some v=>exact BO v n n
theorem Cv (i j:Nat):OG (i:Int) (j:Int) 1=j - i:=by
 unfold OG
 have h1:(1:Int) > 0:=by omega
 simp only [h1,if_true,Int.ediv_one]
 split <;> omega
theorem uB {v:Value} {o:Option Int} {Q:Option Int->Shared->Prop} (p:IsPart v o) (h:Q o s):wpAny (model prog w) A (Builtin.Slice.slicePartIndex v) Q E s:=by
 cases p with
 | none=>exact slicePart_none h
 | int i t=>exact slicePart_int h
theorem tI {sl:Addr} {vl vu:Value} {lo hi:Option Int} {n:Nat} {Q:Int×Int×Nat->Shared->Prop} (hs:s.heap.IsSliceOf sl vl vu .none) (pl:IsPart vl lo) (pu:IsPart vu hi)
  (h:Q (((sIx n 0 lo:Nat):Int),1,sIx n n hi - sIx n 0 lo) s):wpAny (model prog w) A (QY (.ref sl) (pure (n:Int))) Q E s:=by
 obtain ⟨os,hos,hcs,hds⟩:=id hs
 unfold QY Builtin.Slice.sliceFields
 refine Lw (Lw (Mt hos hds (x:=vl) rfl (Lw (Mt hos hds (x:=vu) rfl (Lw (Mt hos hds (x:=.none) rfl (Ly ?_)))))))
 refine Lw (slicePart_none ?_)
 show wpAny _ _ (if ((1:Int) == 0)=true then _ else _) _ _ s
 rw [if_neg (by decide)]
 refine Lw (uB pl (Lw (uB pu (Lw (Ly ?_)))))
 show wpAny _ _ (match Pk lo hi 1 (n:Int) with | (lo,hi)=>pure (lo,(1:Int),OG lo hi 1)) _ _ s
 rw [Cu lo hi n]
 show wpAny _ _ (pure (((sIx n 0 lo:Nat):Int),(1:Int),OG ((sIx n 0 lo:Nat):Int) ((sIx n n hi:Nat):Int) 1)) _ _ s
 rw [Cv]
 exact Ly h
theorem F6 (xs:Array Value) (i k:Nat):((LO k).filterMap fun (m:Nat)=>xs[((i:Int) + (m:Int) * 1).toNat]?).toArray=((xs.toList.drop i).take k).toArray:=by
 have e:(fun (m:Nat)=>xs[((i:Int) + (m:Int) * 1).toNat]?)=fun m=>xs[i + m]?:=by
  funext m
  have:((i:Int) + (m:Int) * 1).toNat=i + m:=by omega
  rw [this]
 rw [e]
 have:=pick_run xs i k
 rw [List.filterMap_map] at this
 have e2:((fun x=>xs[x]?) ∘ fun x=>i + x)=fun m=>xs[i + m]?:=rfl
 rw [e2] at this
 rw [this]
theorem sx {t sl:Addr} {items:Array Value} {vl vu:Value} {lo hi:Option Int} {Q:Value->Shared->Prop} (ht:IsTup s.heap t items) (hs:s.heap.IsSliceOf sl vl vu .none) (pl:IsPart vl lo) (pu:IsPart vu hi)
  (hw:¬ (sIx items.size 0 lo=0/\sIx items.size items.size hi=items.size))
  (h:Q (.ref s.heap.objs.size) { s with heap:=s.heap.push { cls:=.type "tuple",data:=.seq ((items.toList.drop (sIx items.size 0 lo)).take (sIx items.size items.size hi - sIx items.size 0 lo)).toArray } })
  (hsz:items.size<=LN):wpAny (model prog w) A (getItem (.ref t) (.ref sl)) Q E s:=by
 have htake:sizeOk (.seq ((items.toList.drop (sIx items.size 0 lo)).take (sIx items.size items.size hi - sIx items.size 0 lo)).toArray):=by
  show ((items.toList.drop (sIx items.size 0 lo)).take (sIx items.size items.size hi - sIx items.size 0 lo)).toArray.size<=LN
  rw [LQ,M6,P0,Mr]
  omega
 have hj:sIx items.size items.size hi<=items.size:=JO _ _ (LC _) hi
 obtain ⟨os,hos,hcs,hds⟩:=id hs
 have hTs:s.TypeIs (.ref sl) "slice":=⟨os,hos,hcs⟩
 unfold getItem
 try with_reducible refine MX ?_
 first | refine Lw (Ly ?_) | skip
 refine Lw (wpAny_sequenceKey ht.typeIs (by decide) ?_)
 refine Lw (Mx (name:=Nt "__getitem__") ht.typeIs OT
  (Mp OT ht.typeIs entry_tuple_getitem ?_ (args_tuple_getitem _ _)))
 show wpAny _ _ (QZ (.ref t) >>= _) _ _ s
 refine Lw (tupleItemsOf_ ht ?_)
 refine Lw (Qh hTs ?_)
 rw [if_pos (by decide)]
 refine Lw (tI hs pl pu ?_)
 have hno:¬ ((((sIx items.size 0 lo:Nat):Int) == 0 && (1:Int) == 1 && (sIx items.size items.size hi - sIx items.size 0 lo) == items.size)=true):=by
  intro q
  rw [M7,M7] at q
  have q1:((sIx items.size 0 lo:Nat):Int)=0:=eq_of_beq q.1.1
  have q2:sIx items.size items.size hi - sIx items.size 0 lo=items.size:=eq_of_beq q.2
  exact hw ⟨by omega,by omega⟩
 show wpAny _ _ (if (((sIx items.size 0 lo:Nat):Int) == 0 && (1:Int) == 1 && (sIx items.size items.size hi - sIx items.size 0 lo) == items.size)=true then _ else _) _ _ s
 rw [if_neg hno,F6]
 first
  | exact Lw (m:=NM _) (MF (Ly ⟨_,rfl,Ly h⟩) htake)
  | exact Lw (m:=NM _) (MF (Lw (Ly (Ly ⟨_,rfl,Ly h⟩))) htake)
  | exact Lw (Lw (m:=NM _) (MF (Ly (Ly ⟨_,rfl,Ly h⟩)) htake))
  | exact Lw (Lw (m:=NM _) (MF (Ly ⟨_,rfl,Ly h⟩) htake))
end
end HT
namespace L2
open PySem PySem.Spec PyProof.Rows
noncomputable abbrev TO:=St->Hp->(Option Int->Hp->Prop)->Prop
noncomputable def PO (X:Cx) (e:Option Expr) (t:TO):Prop:=
 ∀ (pins:List (Addr×Obj)) (s:Shared) (σ:St) (H:Hp) (Q:Option Int->Hp->Prop),Inv X pins σ H s->t σ H Q->
  wpAny (model X.prog X.w) X.A (evalPart e X.env) (fun u s'=>∃ o H',Inv X pins σ H' s'/\IsPart u o/\Q o H') X.xe s
noncomputable def jO:TO:=fun _ H Q=>Q none H
noncomputable def oR (t:TE):TO:=fun σ H Q=>t σ H fun x H1=>∃ i,x=.int i/\Q (some i) H1
theorem oS {ns:List Int}:∀ {us:List Value},aG (ns.map V.int) us->IntsAre us ns:=by
 induction ns with
 | nil=>intro us r; rw [O5] at r; cases r; exact .nil
 | cons n ns ih=>
  intro us r
  rw [LZ] at r
  cases r with
  | cons r1 r2=>
   obtain ⟨t,e⟩:=r1
   subst e
   exact .cons n t (ih r2)
section
variable {X:Cx} {e:Expr} {te:TE} {lo hi:Option Expr} {tl th:TO} {pos p2:Pos}
theorem nV:PO X none jO:=by
 intro pins s σ H Q I h
 rw [evalPart_none]
 exact Ly ⟨none,H,I,.none,h⟩
theorem nW (h:PE X e te):PO X (some e) (oR te):=by
 intro pins s σ H Q I hw
 rw [evalPart_some]
 refine thn (h pins s σ H _ I hw) fun u s1 ⟨x,H1,I1,r1,q1⟩=>?_
 obtain ⟨i,rfl,q⟩:=q1
 obtain ⟨t,rfl⟩:=r1
 exact ⟨some i,H1,I1,.int i t,q⟩
noncomputable def SlR (X:Cx) (r:V->Option Int->Option Int->Hp->VK->Prop):Prop:=
 ∀ (pins:List (Addr×Obj)) (s:Shared) (σ:St) (H:Hp) (x:V) (v vl vu:Value) (lo hi:Option Int) (sl:Addr) (Q:VK),Inv X pins σ H s->aH x v->s.heap.IsSliceOf sl vl vu .none->IsPart vl lo->IsPart vu hi->r x lo hi H Q->
  ∃ T id,So (.type T) "__getitem__"=pure (some (.builtin id))/\s.TypeIs v T/\wpAny (model X.prog X.w) X.A (getItem v (.ref sl)) (EP X pins σ Q) X.xe s
noncomputable def tSl (r:V->Option Int->Option Int->Hp->VK->Prop) (te:TE) (tl th:TO):TE:=fun σ H Q=>te σ H fun x H1=>tl σ H1 fun l H2=>th σ H2 fun u H3=>r x l u H3 Q
theorem lM {r:V->Option Int->Option Int->Hp->VK->Prop} (hr:SlR X r) (he:PE X e te) (hl:PO X lo tl) (hu:PO X hi th):PE X (.Subscript e (.Slice lo hi none p2) pos) (tSl r te tl th):=by
 intro pins s σ H Q I h
 refine Us (thn (he pins s σ H _ I h) fun v s1 ⟨x,H1,I1,r1,q1⟩=>?_)
 refine wpAny_Slice (thn (hl pins s1 σ H1 _ I1 q1) fun vl s2 ⟨l,H2,I2,pl,q2⟩=>thn (hu pins s2 σ H2 _ I2 q2) fun vu s3 ⟨u,H3,I3,pu,q3⟩=>?_)
 rw [evalPart_none]
 refine Ly ?_
 have I4:Inv X pins σ H3 { s3 with heap:=s3.heap.push { cls:=.type "slice",data:=.fields #[vl,vu,.none] } }:=I3.kept (t':=s3.toks) fun b ob q=>Lx _ q
 obtain ⟨T,id,hT,ht,hg⟩:=hr pins { s3 with heap:=s3.heap.push { cls:=.type "slice",data:=.fields #[vl,vu,.none] } } σ H3 x v vl vu l u s3.heap.objs.size Q I4 r1 (Heap.IsSliceOf.new ..) pl pu q3
 show wpAny (model X.prog X.w) X.A (SK e (.Slice lo hi none p2) v (.ref s3.heap.objs.size)) (EP X pins σ Q) X.xe { s3 with heap:=s3.heap.push { cls:=.type "slice",data:=.fields #[vl,vu,.none] } }
 exact tail_any (ops:=[.ref s3.heap.objs.size,v]) ht hT hg (by with_unfolding_all rfl)
noncomputable def ig (xs:List V) (lo hi:Option Int):List V:=(xs.drop (HT.sIx xs.length 0 lo)).take (HT.sIx xs.length xs.length hi - HT.sIx xs.length 0 lo)
theorem sL (xs:List V) (lo hi:Option Int):(ig xs lo hi).length<=xs.length:=by
 unfold ig
 rw [M6,P0]
 omega
noncomputable def Lj (K:Fg):V->Option Int->Option Int->Hp->VK->Prop:=fun x lo hi H Q=>∃ a xs,x=.ref a/\SqT K H a xs/\
 ¬ (HT.sIx xs.length 0 lo=0/\HT.sIx xs.length xs.length hi=xs.length)/\∀ p,H p=none->Q (.ref p) (upd H p (.tup (ig xs lo hi)))
theorem JP:SlR X (Lj X.K):=by
 intro pins s σ H x v vl vu lo hi sl Q I rx hs pl pu h
 obtain ⟨a,xs,rfl,hx,hw,q⟩:=h
 cases rx
 obtain ⟨its,r,ht,hz⟩:=I.tuple hx
 have hlen:its.toArray.size=xs.length:=by rw [LQ]; exact r.length.symm
 refine ⟨"tuple",_,OT.lookup,ht.typeIs,?_⟩
 refine HT.sx ht hs pl pu (by rw [hlen]; exact hw) ?_ (by rw [hlen]; exact hz)
 rw [hlen]
 refine ⟨.ref s.heap.objs.size,_,I.laid (t':=s.toks) (o:=.tup (ig xs lo hi)) (fun b ob q=>Lx _ q) (LC _) ?_,rfl,q _ (I.hok.fresh (LC _))⟩
 exact ⟨Me (sL xs lo hi) hz,_,(r.drop (HT.sIx xs.length 0 lo)).take (HT.sIx xs.length xs.length hi - HT.sIx xs.length 0 lo),fi.new _ _⟩
noncomputable def KQ (K:Fg):R2:=fun x y H Q=>∃ a b xs ys,x=.ref a/\y=.ref b/\SqT K H a xs/\SqT K H b ys/\xs≠[]/\xs.length + ys.length<=LN/\
 (ys=[]->Q (.ref a) H)/\(ys≠[]->∀ p,H p=none->Q (.ref p) (upd H p (.tup (xs++ys))))
theorem aG.nil_iff {xs:List V} {us:List Value} (r:aG xs us):us=[]↔xs=[]:=by
 cases r with
 | nil=>simp
 | cons _ _=>simp
theorem Ir:OpR X (Oy .Add) (KQ X.K):=by
 intro pins s σ H x y v u Q I rx ry h
 obtain ⟨a,b,xs,ys,rfl,rfl,ha,hb,hx,hz,q1,q2⟩:=h
 cases rx
 cases ry
 obtain ⟨its,r1,p1,_⟩:=I.tuple ha
 obtain ⟨its2,r2,p2,_⟩:=I.tuple hb
 refine HT.Iq p1 p2 (fun z=>hx (r1.nil_iff.mp z)) (fun z=>⟨.ref a,H,I,rfl,q1 (r2.nil_iff.mp z)⟩) (fun z=>?_) (by rw [<-r1.length,<-r2.length]; exact hz)
 refine ⟨.ref s.heap.objs.size,_,I.laid (t':=s.toks) (o:=.tup (xs++ys)) (fun b ob q=>Lx _ q) (LC _) ?_,rfl,q2 (fun w=>z (r2.nil_iff.mpr w)) _ (I.hok.fresh (LC _))⟩
 exact ⟨by rw [LY]; exact hz,_,r1.append r2,fi.new _ _⟩
end
end L2
namespace L2
open PySem PySem.Spec PyProof.Rows
noncomputable def ixN (n:Nat) (i:Int):Option Nat:=if 0<=i then (if i < n then some i.toNat else none) else if -(n:Int)<=i then some (i + n).toNat else none
noncomputable def atI {α:Type} (xs:List α) (i:Int):Option α:=(ixN xs.length i).bind fun j=>xs[j]?
theorem BP {n:Nat} {i:Int} {j:Nat} (h:ixN n i=some j):seqIndex? i n=some j/\j < n/\-(n:Int)<=i/\i < n:=by
 unfold ixN at h
 by_cases h0:0<=i
 ·rw [if_pos h0] at h
  by_cases h1:i < n
  ·rw [if_pos h1] at h
   have e:i.toNat=j:=LR h
   exact ⟨by rw [TX h0 h1,e],by omega,by omega,h1⟩
  ·rw [if_neg h1] at h; cases h
 ·rw [if_neg h0] at h
  by_cases h1:-(n:Int)<=i
  ·rw [if_pos h1] at h
   have e:(i + n).toNat=j:=LR h
   exact ⟨by rw [Tf (by omega) h1,e],by omega,h1,by omega⟩
  ·rw [if_neg h1] at h; cases h
theorem BQ {α:Type} {xs:List α} {i:Int} {v:α} (h:atI xs i=some v):∃ j,seqIndex? i xs.length=some j/\xs[j]?=some v/\j < xs.length/\-(xs.length:Int)<=i/\i < xs.length:=by
 unfold atI at h
 cases e:ixN xs.length i with
 | none=>rw [e] at h; cases h
 | some j=>
  rw [e] at h
  obtain ⟨h1,h2,h3,h4⟩:=BP e
  exact ⟨j,h1,h,h2,h3,h4⟩
theorem fk {α:Type} {xs:List α} {j:Nat} {v:α} (h:xs[j]?=some v):atI xs (j:Int)=some v:=by
 have hj:j < xs.length:=(LD.mp h).1
 have e:ixN xs.length (j:Int)=some j:=by
  unfold ixN
  rw [if_pos (by omega),if_pos (by omega)]; simp
 unfold atI; rw [e]; exact h
noncomputable def Iu (b:Expr):Prop:=∀ o i,RY b false o i=operate [o,i] (getItem o i)
noncomputable def IxR (X:Cx) (r:R2):Prop:=
 ∀ (value slice:Expr) (pins:List (Addr×Obj)) (s:Shared) (σ:St) (H:Hp) (x y:V) (v u:Value) (Q:VK),Inv X pins σ H s->aH x v->aH y u->r x y H Q->
  RY slice false v u=operate [v,u] (getItem v u)->wpAny (model X.prog X.w) X.A (SK value slice v u) (EP X pins σ Q) X.xe s
noncomputable def MtR (X:Cx) (id:String) (r:V->List V->Hp->VK->Prop):Prop:=
 ∀ (pins:List (Addr×Obj)) (s:Shared) (σ:St) (H:Hp) (x:V) (xs:List V) (v:Value) (us:List Value) (Q:VK),Inv X pins σ H s->aH x v->aG xs us->r x xs H Q->
  wpAny (model X.prog X.w) X.A (call (.builtin id) (v :: us)) (EP X pins σ Q) X.xe s
section
variable {X:Cx} {a b:Expr} {ta tb:TE} {pos:Pos}
theorem bc {r:R2} (hr:IxR X r) (ha:PE X a ta) (hb:PE X b tb) (hs:Iu b):PE X (.Subscript a b pos) (tOp r ta tb):=by
 intro pins s σ H Q I h
 exact Us (FY ha hb I h fun v u s2 x y H2 I2 rx ry q=>hr a b pins s2 σ H2 x y v u Q I2 rx ry q (hs _ _))
noncomputable def dR (K:Fg):R2:=fun x y H Q=>∃ p xs i v,x=.ref p/\y=.int i/\SqL K H p xs/\atI xs i=some v/\Q v H
noncomputable def cT (K:Fg):R2:=fun x y H Q=>∃ p xs i v,x=.ref p/\y=.int i/\SqT K H p xs/\atI xs i=some v/\Q v H
theorem bO:IxR X (dR X.K):=by
 intro value slice pins s σ H x y v u Q I rx ry h hs
 obtain ⟨p,xs,i,z,rfl,rfl,hq,he,q⟩:=h
 cases rx
 obtain ⟨t,rfl⟩:=ry
 obtain ⟨its,r,pl,hz⟩:=I.list hq
 obtain ⟨j,h1,h2,h3,h4,h5⟩:=BQ he
 obtain ⟨w,ew,rw'⟩:=r.get h2
 have hl:=r.length
 have hn:=uy
 have fin:EP X pins σ Q w s:=⟨z,H,I,rw',q⟩
 by_cases h0:0<=i
 ·have hj:i.toNat=j:=by
   rw [TX h0 h5] at h1
   exact LR h1
  exact item_listR pl.isList h0 (by omega) (by rw [hj]; simpa using ew) fin hs
 ·have hj:(i + (its.toArray.size:Int)).toNat=j:=by
   rw [Tf (by omega) h4] at h1
   rw [LQ,<-hl]
   exact LR h1
  exact RZ (x:=w) pl.isList.typeIs Tv.lookup
   (wpAny_getItem_list_neg (Q:=fun r s'=>r=w/\EP X pins σ Q r s') pl.isList (by omega) (by rw [LQ] <;> omega) (by omega) (by rw [hj]; simpa using ew) ⟨rfl,fin⟩) hs
theorem bM:IxR X (cT X.K):=by
 intro value slice pins s σ H x y v u Q I rx ry h hs
 obtain ⟨p,xs,i,z,rfl,rfl,hq,he,q⟩:=h
 cases rx
 obtain ⟨t,rfl⟩:=ry
 obtain ⟨its,r,pl,hz⟩:=I.tuple hq
 obtain ⟨j,h1,h2,h3,h4,h5⟩:=BQ he
 obtain ⟨w,ew,rw'⟩:=r.get h2
 have hl:=r.length
 have hn:=uy
 have fin:EP X pins σ Q w s:=⟨z,H,I,rw',q⟩
 exact RZ (x:=w) pl.typeIs slot_tuple_getitem.lookup
  (getItem_tuple (j:=j) (Q:=fun r s'=>r=w/\EP X pins σ Q r s') pl (by omega) (by omega) (by rw [LQ,<-hl]; exact h1) (by simpa using ew) ⟨rfl,fin⟩) hs
theorem Cw (its:List Value) (n j:Nat) (u:Value):MV (·.setIfInBounds j u) { cls:=.type "list",data:=.seq its.toArray n }={ cls:=.type "list",data:=.seq (its.set j u).toArray n }:=by
 simp [MV]
theorem Inv.lst {pins:List (Addr×Obj)} {σ:St} {H:Hp} {s:Shared} {p:Addr} {xs:List V} (I:Inv X pins σ H s) (h:H p=some (.lst xs)):
  ∃ (its:List Value) (n:Nat),aG xs its/\s.heap.get? p=some { cls:=.type "list",data:=.seq its.toArray n }/\xs.length<=LN:=by
 obtain ⟨z,its,n,r,e⟩:=I.hok p _ h
 exact ⟨its,n,r,e,z⟩
theorem Inv.lstUpd {pins:List (Addr×Obj)} {σ:St} {H:Hp} {s:Shared} {p:Addr} {xs ys:List V} {its its':List Value} {n n':Nat} {f:Obj->Obj} (I:Inv X pins σ H s) (h:H p=some (.lst xs))
  (ho:s.heap.get? p=some { cls:=.type "list",data:=.seq its.toArray n }) (hf:f { cls:=.type "list",data:=.seq its.toArray n }={ cls:=.type "list",data:=.seq its'.toArray n' }) (r:aG ys its') (hz:ys.length<=LN) (t:Nat):
  Inv X pins σ (upd H p (.lst ys)) { s with heap:=s.heap.update p f,toks:=t }:=by
 have e:(s.heap.update p f).get? p=some { cls:=.type "list",data:=.seq its'.toArray n' }:=by
  rw [MB f ho (by rw [hf] <;> rfl),hf]
 refine I.write (x:=p) (e:=p) (by rw [h]; trivial) (.inl rfl) (fun b u hb q=>(Nn _ _ (Mz hb)).trans q) ⟨_,e⟩ ?_
 exact ⟨hz,its',n',r,e⟩
noncomputable def mM:V->V->V->Hp->(Hp->Prop)->Prop:=fun o i v H Q=>∃ p xs k j,o=.ref p/\i=.int k/\H p=some (.lst xs)/\ixN xs.length k=some j/\Q (upd H p (.lst (xs.set j v)))
theorem lN:FW X mM:=by
 intro pins s σ H o i v ov iv u Q I ro ri rv h
 obtain ⟨p,xs,k,j,rfl,rfl,hp,hj,q⟩:=h
 cases ro
 obtain ⟨t,rfl⟩:=ri
 obtain ⟨its,n,r,ho,hz⟩:=I.lst hp
 obtain ⟨h1,h2,h3,h4⟩:=BP hj
 have hl:=r.length
 have hn:=uy
 have I':Inv X pins σ (upd H p (.lst (xs.set j v))) { s with heap:=s.heap.update p (MV (·.setIfInBounds j u)) }:=
  I.lstUpd hp ho (Cw its n j u) (r.set rv j) (by rw [NI]; exact hz) s.toks
 by_cases h0:0<=k
 ·have hk:k.toNat=j:=by
   rw [TX h0 h4] at h1
   exact LR h1
  exact PySem.W.ki_setAt ho h0 (by omega) (by rw [LQ,<-hl]; exact h4) (by rw [hk]; exact ⟨_,I',q⟩)
 ·have hk:(k + (its.toArray.size:Int)).toNat=j:=by
   rw [Tf (by omega) h3] at h1
   rw [LQ,<-hl]
   exact LR h1
  exact PySem.W.ki_setBack ho (by omega) (by rw [LQ,<-hl]; exact h3) (by omega) (by rw [hk]; exact ⟨_,I',q⟩)
theorem zw (lo hi:Option Int) (n:Nat):(Pi lo hi none n).1=((HT.sIx n 0 lo:Nat):Int)/\(Pi lo hi none n).2.1=((HT.sIx n n hi:Nat):Int)/\(Pi lo hi none n).2.2=1:=by
 refine ⟨?_,?_,rfl⟩
 ·cases lo with
  | none=>simp [Pi,HT.sIx]
  | some i=>
   simp only [Pi,HT.sIx,T8,show (1:Int) > 0 by decide,if_true]
   by_cases h:i < 0
   ·simp only [h,if_true] <;> omega
   ·simp only [h,if_false] <;> omega
 ·cases hi with
  | none=>simp [Pi,HT.sIx]
  | some i=>
   simp only [Pi,HT.sIx,T8,show (1:Int) > 0 by decide,if_true]
   by_cases h:i < 0
   ·simp only [h,if_true] <;> omega
   ·simp only [h,if_false] <;> omega
theorem xY (its:List Value) (lo hi:Option Int):slicePick its.toArray lo hi none=((its.drop (HT.sIx its.length 0 lo)).take (HT.sIx its.length its.length hi - HT.sIx its.length 0 lo)).toArray:=by
 obtain ⟨h1,h2,h3⟩:=zw lo hi its.toArray.size
 unfold slicePick
 rw [h1,h2,h3]
 simp only [sliceRange_one,pick_run,LQ] <;> rfl
noncomputable def Lk (K:Fg):V->Option Int->Option Int->Hp->VK->Prop:=fun x lo hi H Q=>∃ a xs,x=.ref a/\SqL K H a xs/\∀ p,H p=none->Q (.ref p) (upd H p (.lst (ig xs lo hi)))
theorem Iv:SlR X (Lk X.K):=by
 intro pins s σ H x v vl vu lo hi sl Q I rx hs pl pu h
 obtain ⟨a,xs,rfl,hx,q⟩:=h
 cases rx
 obtain ⟨its,r,ht,hz⟩:=I.list hx
 have hlen:=r.length
 refine ⟨"list",_,Tv.lookup,ht.isList.typeIs,?_⟩
 refine wpAny_getItem_list_slice ht.isList hs pl pu .none (by simp) ?_ (by rw [LQ] <;> omega)
 rw [xY,<-hlen]
 refine ⟨.ref s.heap.objs.size,_,I.laid (t':=s.toks) (o:=.lst (ig xs lo hi)) (fun b ob q=>Lx _ q) (LC _) ?_,rfl,q _ (I.hok.fresh (LC _))⟩
 exact ⟨Me (sL xs lo hi) hz,_,0,(r.drop (HT.sIx xs.length 0 lo)).take (HT.sIx xs.length xs.length hi - HT.sIx xs.length 0 lo),LH _ rfl⟩
noncomputable def gM:V->Bool
 | .non=>true
 | .bl _=>true
 | .int _=>true
 | .str _=>true
 | _=>false
noncomputable def eqV:V->V->Bool
 | .non,.non=>true
 | .bl a,.bl b=>a == b
 | .bl a,.int b=>(if a then 1 else 0) == b
 | .int a,.bl b=>a == (if b then 1 else 0)
 | .int a,.int b=>a == b
 | .str a,.str b=>a == b
 | _,_=>false
theorem ED {A:Around} {s:Shared} {y x:V} {u v:Value} (ry:aH y u) (rx:aH x v) (fy:gM y=true) (fx:gM x=true):Mj A s u v (eqV y x):=by
 cases y with
 | non=>
  cases ry
  cases x with
  | non=>cases rx; exact RM _
  | bl b=>cases rx; exact Sr b
  | int b=>obtain ⟨t,rfl⟩:=rx; exact SR b t
  | str b=>obtain ⟨t,rfl⟩:=rx; exact Mj.none_str b t
  | _=>exact absurd (show false=true from fx) LM
 | bl a=>
  cases ry
  cases x with
  | non=>cases rx; exact Ss a
  | bl b=>cases rx; exact Su a b
  | int b=>obtain ⟨t,rfl⟩:=rx; exact SS a b t
  | str b=>obtain ⟨t,rfl⟩:=rx; exact Mj.bool_str a b t
  | _=>exact absurd (show false=true from fx) LM
 | int a=>
  obtain ⟨t',rfl⟩:=ry
  cases x with
  | non=>cases rx; exact SU a t'
  | bl b=>cases rx; exact SV a t' b
  | int b=>obtain ⟨t,rfl⟩:=rx; exact Tg a t' b t
  | str b=>obtain ⟨t,rfl⟩:=rx; exact S0 a t' b t
  | _=>exact absurd (show false=true from fx) LM
 | str a=>
  obtain ⟨t',rfl⟩:=ry
  cases x with
  | non=>cases rx; exact Mj.str_none a t'
  | bl b=>cases rx; exact Mj.str_bool a t' b
  | int b=>obtain ⟨t,rfl⟩:=rx; exact S4 a t' b t
  | str b=>obtain ⟨t,rfl⟩:=rx; exact Mj.str_str a t' b t
  | _=>exact absurd (show false=true from fx) LM
 | _=>exact absurd (show false=true from fy) LM
noncomputable def eqU (x:V) (u:Value):Bool:=match u with
 | .none=>eqV .non x
 | .bool b=>eqV (.bl b) x
 | .int i _=>eqV (.int i) x
 | .str z _=>eqV (.str z) x
 | _=>false
theorem EE {x y:V} {u:Value} (r:aH y u) (f:gM y=true):eqU x u=eqV y x:=by
 cases y with
 | non=>cases r; rfl
 | bl b=>cases r; rfl
 | int i=>obtain ⟨t,rfl⟩:=r; rfl
 | str z=>obtain ⟨t,rfl⟩:=r; rfl
 | _=>exact absurd (show false=true from f) LM
theorem tJ {A:Around} {s:Shared} {x:V} {v:Value} (rx:aH x v) (fx:gM x=true):∀ {xs:List V} {us:List Value},aG xs us->xs.all gM=true->∀ u∈us,Mj A s u v (eqU x u)
 | _,_,.nil,_=>fun u hu=>by cases hu
 | y :: xs,u :: us,.cons r t,f=>fun u' hu=>by
  rw [Pf,M7] at f
  rcases LA.mp hu with rfl | hu
  ·rw [EE r f.1]; exact ED r rx f.1 fx
  ·exact tJ rx fx t f.2 u' hu
theorem bo:cZ X (.builtin "len") (fun xs H Q=>∃ p ys,xs=[.ref p]/\(SqL X.K H p ys\/SqT X.K H p ys)/\Q (.int ys.length) H):=by
 intro pins s σ H xs us Q I r h
 obtain ⟨p,ys,rfl,hq,q⟩:=h
 obtain ⟨u,rfl,rx⟩:=lh r
 cases rx
 have hn:=uy
 rcases hq with hq | hq
 ·obtain ⟨its,r',pl,hz⟩:=I.list hq
  have hlen:=r'.length
  exact Calls.call_len_list pl.isList (by simp only [LQ] <;> omega) ⟨.int ys.length,H,I.tok _,⟨s.toks + 1,by rw [LQ,hlen]⟩,q⟩
 ·obtain ⟨its,r',pl,hz⟩:=I.tuple hq
  have hlen:=r'.length
  exact len_tuple pl (by simp only [LQ] <;> omega) ⟨.int ys.length,H,I.tok _,⟨s.toks + 1,by rw [LQ,hlen]⟩,q⟩
theorem zx:cZ X (.type "list") (fun xs H Q=>∃ p ys,xs=[.ref p]/\(SqL X.K H p ys\/SqT X.K H p ys)/\∀ l,H l=none->Q (.ref l) (upd H l (.lst ys))):=by
 intro pins s σ H xs us Q I r h
 obtain ⟨p,ys,rfl,hq,q⟩:=h
 obtain ⟨u,rfl,rx⟩:=lh r
 cases rx
 have fin:∀ (its:List Value),aG ys its->ys.length<=LN->∀ (h':Heap) (c':Nat),(∀ b o',s.heap.get? b=some o'->h'.get? b=some o')->
   h'.get? s.heap.objs.size=some { cls:=.type "list",dict:=none,data:=.seq its.toArray c',slots:=#[] }->EP X pins σ Q (.ref s.heap.objs.size) { s with heap:=h' }:=fun its r' hz h' c' kp e=>
  ⟨.ref s.heap.objs.size,_,I.laid (t':=s.toks) kp (LC _) (show bA X.prog X.w _ h' _ (.lst ys) from ⟨hz,its,c',r',e⟩),rfl,q _ (I.hok.fresh (LC _))⟩
 rcases hq with hq | hq
 ·obtain ⟨its,r',pl,hz⟩:=I.list hq
  have hlen:=r'.length
  obtain ⟨o,ho,hc,n,hd⟩:=pl.isList
  exact call_list_seq p (.inl rfl) ho hc hd (fun h' c' kp e=>fin its r' hz h' c' kp e) (by simp only [LQ] <;> omega)
 ·obtain ⟨its,r',pl,hz⟩:=I.tuple hq
  have hlen:=r'.length
  obtain ⟨o,ho,hc,n,hd⟩:=pl
  exact call_list_seq p (.inr rfl) ho hc hd (fun h' c' kp e=>fin its r' hz h' c' kp e) (by simp only [LQ] <;> omega)
theorem pZ:cZ X (.type "tuple") (fun xs H Q=>∃ p ys,xs=[.ref p]/\((SqL X.K H p ys/\∀ l,H l=none->Q (.ref l) (upd H l (.tup ys)))\/(SqT X.K H p ys/\Q (.ref p) H))):=by
 intro pins s σ H xs us Q I r h
 obtain ⟨p,ys,rfl,h⟩:=h
 obtain ⟨u,rfl,rx⟩:=lh r
 cases rx
 rcases h with ⟨hq,q⟩ | ⟨hq,q⟩
 ·obtain ⟨its,r',pl,hz⟩:=I.list hq
  have hlen:=r'.length
  refine call_tuple_list pl.isList (fun h' kp=>?_) (by simp only [LQ] <;> omega)
  have I1:Inv X pins σ H { s with heap:=h' }:=I.kept (t':=s.toks) kp
  have I2:Inv X pins σ (upd H h'.objs.size (.tup ys)) { s with heap:=h'.push { cls:=.type "tuple",data:=.seq its.toArray } }:=
   I1.laid (t':=s.toks) (fun b o e=>Lx _ e) (LC _) (show bA X.prog X.w _ _ _ (.tup ys) from ⟨hz,its,r',fi.new _ _⟩)
  exact ⟨.ref h'.objs.size,_,I2,rfl,q _ (I1.hok.fresh (LC _))⟩
 ·obtain ⟨its,r',pl,hz⟩:=I.tuple hq
  exact call_tuple_same pl ⟨.ref p,H,I,rfl,q⟩
noncomputable def tyV (K:Fg) (T:String) (x:V) (H:Hp):Prop:=match x with
 | .str _=>T="str"
 | .int _=>T="int"
 | .ref p=>(T="list"/\∃ xs,SqL K H p xs)\/(T="tuple"/\∃ o,K.lookup p=some o/\o.cls=.type "tuple"/\o.dict=none)\/
   (T="dict"/\((∃ kvs,H p=some (.dK kvs))\/∃ kvs,H p=some (.dT kvs)))\/(T="set"/\∃ S n,H p=some (.set S n))
 | _=>False
theorem JQ {pins:List (Addr×Obj)} {σ:St} {H:Hp} {s:Shared} {T:String} {x:V} {v:Value} (I:Inv X pins σ H s) (r:aH x v) (ty:tyV X.K T x H):
  s.TypeIs v T/\∀ a,v=.ref a->∃ ob,s.heap.get? a=some ob/\ob.dict=none:=by
 cases x with
 | str z=>
  obtain ⟨t,rfl⟩:=r
  cases (show T="str" from ty)
  exact ⟨typeIs_str s z t,fun _ e=>nomatch e⟩
 | int i=>
  obtain ⟨t,rfl⟩:=r
  cases (show T="int" from ty)
  exact ⟨Ut s i t,fun _ e=>nomatch e⟩
 | ref p=>
  cases r
  rcases ty with ⟨rfl,xs,hq⟩ | ⟨rfl,o,hk,hc,hd⟩ | ⟨rfl,hk⟩ | ⟨rfl,S,n,hk⟩
  ·obtain ⟨its,_,pl,_⟩:=I.list hq
   refine ⟨pl.isList.typeIs,fun a e=>?_⟩
   cases e
   obtain ⟨o,n,e,c,hd,_⟩:=pl
   exact ⟨o,e,hd⟩
  ·refine ⟨⟨o,I.kIn p o hk,hc⟩,fun a e=>?_⟩
   cases e
   exact ⟨o,I.kIn _ o hk,hd⟩
  ·have z:∃ o,s.heap.get? p=some o/\o.ExactDict:=by
    rcases hk with ⟨kvs,hk⟩ | ⟨kvs,hk⟩
    ·obtain ⟨_,_,_,_,o,_,_,e,ex,_⟩:=I.hok p _ hk
     exact ⟨o,e,ex⟩
    ·obtain ⟨_,_,_,_,o,_,_,e,ex,_⟩:=I.hok p _ hk
     exact ⟨o,e,ex⟩
   obtain ⟨o,e,ex⟩:=z
   refine ⟨⟨o,e,ex.1⟩,fun a e2=>?_⟩
   cases e2
   exact ⟨o,e,ex.2.1⟩
  ·obtain ⟨o,_,_,_,e,ex,_⟩:=I.hok p _ hk
   refine ⟨⟨o,e,ex.1⟩,fun a e2=>?_⟩
   cases e2
   exact ⟨o,e,ex.2.1⟩
 | _=>exact NH ty
noncomputable def tBM (K:Fg) (T:String) (r:V->List V->Hp->VK->Prop) (to:TE) (t:TA):TE:=fun σ H Q=>to σ H fun x H1=>tyV K T x H1/\t σ H1 fun xs H2=>r x xs H2 Q
variable {o e:Expr} {es:List Expr} {to:TE} {t:TA} {name:Str} {apos cpos:Pos} {T id:String} {r:V->List V->Hp->VK->Prop}
theorem mN (pa:PlainAttrs T) (slot:Slot T name id) (hty:typeOf (.builtin id)=pure (.type "method_descriptor")) (hm:MtR X id r) (ho:PE X o to) (ha:PA X (e :: es) t)
  (hbase:Pd o name X.env (eval o X.env)=eval o X.env:=by rfl)
  (hfew:((backTo cpos (L5 (e :: es) X.env)).all (fun x=>!x.1) && (PZ cpos (O0 [] X.env)).all (fun x=>x.1.isSome)
   && decide ((e :: es).length + ([]:List Keyword).length + (if ([]:List Keyword).isEmpty then 0 else 1) < 30))=true:=by rfl)
  (hline:(apos.endLine == cpos.line)=true:=by rfl) (hs:L5 (e :: es) X.env=(false,eval e X.env) :: L5 es X.env:=by rfl) (hplain:(backTo cpos (L5 es X.env)).any (·.1)=false:=by rfl):
  PE X (.Call (.Attribute o name apos) (e :: es) [] cpos) (tBM X.K T r to t):=by
 intro pins s σ H Q I h
 refine PM hbase hfew hline rfl (thn (ho pins s σ H _ I h) fun v s1 ⟨x,H1,I1,r1,ty,q1⟩=>?_)
 obtain ⟨h1,h2⟩:=JQ I1 r1 ty
 refine ⟨T,id,pa,slot,hty,h1,h2,?_⟩
 have hA:=ha cpos pins s1 σ H1 _ I1 q1
 rw [hs] at hA ⊢
 refine PN (by show (false || (backTo cpos (L5 es X.env)).any (·.1))=false; rw [hplain] <;> rfl) (Qi ?_)
 exact thn hA fun us s2 ⟨vs,H2,I2,r2,q2⟩=>hm pins s2 σ H2 x vs v us Q I2 r1 r2 q2
end
end L2
namespace L2
open PySem PySem.Spec PyProof.Rows
noncomputable def MtM (X:Cx) (id:String) (r:V->List V->Hp->VK->Prop):Prop:=
 ∀ (pins:List (Addr×Obj)) (s:Shared) (σ:St) (H:Hp) (x:V) (xs:List V) (v:Value) (us:List Value) (Q:VK),Inv X pins σ H s->aH x v->aG xs us->r x xs H Q->
  wpAny (model X.prog X.w) X.A (call (.builtin id) (v :: us)) (EP X pins σ Q) X.xe s
theorem aG.one {x:V} {us:List Value} (h:aG [x] us):∃ u,us=[u]/\aH x u:=by
 cases h with
 | cons r t=>cases t; exact ⟨_,rfl,r⟩
theorem aG.two {x y:V} {us:List Value} (h:aG [x,y] us):∃ u v,us=[u,v]/\aH x u/\aH y v:=by
 cases h with
 | cons r t=>cases t with
  | cons q z=>cases z; exact ⟨_,_,rfl,r,q⟩
theorem aG.rep {xs:List V} {us:List Value} (h:aG xs us):∀ k:Nat,aG (Mv k xs).flatten (Mv k us).flatten
 | 0=>.nil
 | k + 1=>by
  rw [OS,OS,PD,PD]
  exact aG.append h (aG.rep h k)
theorem xu (its:List Value):∀ (k:Nat) (acc:List Value),
  Uu (fun x1 x2=>x1++x2) acc.toArray (Mv k its.toArray)=(acc++(Mv k its).flatten).toArray
 | 0,acc=>by simp
 | k + 1,acc=>by
  have e:acc.toArray++its.toArray=(acc++its).toArray:=by simp
  have e2:(acc++its)++(Mv k its).flatten=acc++(Mv (k + 1) its).flatten:=by
   rw [OS,PD,Q9]
  rw [<-e2,<-xu its k (acc++its),<-e,OS,Uv]
section
variable {X:Cx} {pins:List (Addr×Obj)} {σ:St} {H:Hp} {s:Shared} {l b:Addr} {xs ys zs:List V}
theorem Inv.lset {its its':List Value} {n:Nat} {f:Array Value->Array Value} {t':Nat} (I:Inv X pins σ H s) (hH:H l=some (.lst xs))
  (e:s.heap.get? l=some { cls:=.type "list",data:=.seq its.toArray n }) (hf:f its.toArray=its'.toArray) (hv:aG ys its') (hz:ys.length<=LN):
  Inv X pins σ (upd H l (.lst ys)) { s with heap:=s.heap.update l (MV f),toks:=t' }:=by
 have q:=PySem.IsL.update e f
 rw [hf] at q
 refine I.write (x:=l) (e:=l) (by rw [hH]; exact trivial) (.inl rfl) (fun b' u hb hu=>(Nn s.heap (MV f) (Mz hb)).trans hu) ⟨_,q⟩ ?_
 exact ⟨hz,its',_,hv,q⟩
theorem Inv.lnew {its:List Value} {t':Nat} (I:Inv X pins σ H s) (hv:aG ys its) (hz:ys.length<=LN):
  Inv X pins σ (upd H s.heap.objs.size (.lst ys)) { s with heap:=s.heap.push { cls:=.type "list",data:=.seq its.toArray },toks:=t' }:=
 I.laid (fun _ _ q=>Lx _ q) (LC _) ⟨hz,its,0,hv,LH _ rfl⟩
theorem Inv.fresh (I:Inv X pins σ H s):H s.heap.objs.size=none:=I.hok.fresh (LC _)
theorem Inv.lstM (I:Inv X pins σ H s) (hH:H l=some (.lst xs)):xs.length<=LN/\∃ (its:List Value) (n:Nat),aG xs its/\xs.length=its.length/\s.heap.get? l=some { cls:=.type "list",data:=.seq its.toArray n }:=by
 obtain ⟨z,its,n,r,e⟩:=I.hok l _ hH
 exact ⟨z,its,n,r,r.length,e⟩
theorem zy {n:Nat} (h:n<=LN):OP n=false:=by
 unfold OP
 exact decide_eq_false (by omega)
end
section
variable {X:Cx}
noncomputable def iY:V->List V->Hp->VK->Prop:=fun x vs H Q=>∃ l xs y,x=.ref l/\vs=[y]/\H l=some (.lst xs)/\xs.length < LN/\Q .non (upd H l (.lst (xs++[y])))
theorem gy:MtM X "list.append" iY:=by
 intro pins s σ H x vs v us Q I rx rv h
 obtain ⟨l,xs,y,rfl,rfl,hH,hz,q⟩:=h
 cases rx
 obtain ⟨u,rfl,ru⟩:=rv.one
 obtain ⟨z,its,n,r,hl,e⟩:=I.lstM hH
 refine Qj F.slot_list_append ⟨_,e,rfl⟩ F.entry_list_append (F.args_list_append_2 _ _) (PySem.list_append l its.toArray n u (by rw [LQ]; omega)) ⟨e,?_⟩
 refine ⟨.non,_,I.lset (its':=its++[u]) hH e (by simp) (r.append (.cons ru .nil)) ?_,rfl,q⟩
 rw [LY,R8]
 omega
noncomputable def wo:V->List V->Hp->VK->Prop:=fun x vs H Q=>∃ l b xs zs,x=.ref l/\vs=[.ref b]/\H l=some (.lst xs)/\H b=some (.lst zs)/\xs.length + zs.length<=LN/\Q .non (upd H l (.lst (xs++zs)))
theorem EF:MtM X "list.extend" wo:=by
 intro pins s σ H x vs v us Q I rx rv h
 obtain ⟨l,b,xs,zs,rfl,rfl,hH,hB,hz,q⟩:=h
 cases rx
 obtain ⟨u,rfl,ru⟩:=rv.one
 cases ru
 obtain ⟨z,its,n,r,hl,e⟩:=I.lstM hH
 obtain ⟨z2,its2,n2,r2,hl2,e2⟩:=I.lstM hB
 have hsz:its.toArray.size + its2.toArray.size<=LN:=by rw [LQ,LQ]; omega
 have hlong:¬ (!its.toArray.isEmpty && OP (its.toArray.size + its2.toArray.size))=true:=by
  rw [zy hsz,QB]
  exact LM
 refine Qj F.slot_list_extend ⟨_,e,rfl⟩ F.entry_list_extend (F.args_list_extend_2 _ _)
  (AutoSeq1.list_extend_list_list_0 l its.toArray n b its2.toArray n2 hlong (by rw [LQ]; omega) (by omega)) ⟨e,e2,?_⟩
 refine ⟨.non,_,I.lset (its':=its++its2) hH e (by simp) (r.append r2) ?_,rfl,q⟩
 rw [LY]
 omega
noncomputable def JR:R2:=fun x y H Q=>∃ l b xs zs,x=.ref l/\y=.ref b/\H l=some (.lst xs)/\H b=some (.lst zs)/\xs.length + zs.length<=LN/\∀ p,H p=none->Q (.ref p) (upd H p (.lst (xs++zs)))
theorem EG:OpR X (Oy .Add) JR:=by
 intro pins s σ H x y v u Q I rx ry h
 obtain ⟨l,b,xs,zs,rfl,rfl,hH,hB,hz,q⟩:=h
 cases rx
 cases ry
 obtain ⟨z,its,n,r,hl,e⟩:=I.lstM hH
 obtain ⟨z2,its2,n2,r2,hl2,e2⟩:=I.lstM hB
 refine PySem.P.add_list e e2 ?_ (by rw [LQ,LQ]; omega)
 have ea:its.toArray++its2.toArray=(its++its2).toArray:=by simp
 rw [ea]
 exact ⟨.ref _,_,I.lnew (t':=s.toks) (r.append r2) (by rw [LY]; omega),rfl,q _ I.fresh⟩
noncomputable def Ll:R2:=fun x y H Q=>∃ l k xs,x=.ref l/\y=.int k/\H l=some (.lst xs)/\-(2 ^ 63)<=k/\k < 2 ^ 63/\xs.length * k.toNat<=LN/\
 ∀ p,H p=none->Q (.ref p) (upd H p (.lst (Mv k.toNat xs).flatten))
theorem Iw {α:Type} (xs:List α) (k:Nat):(Mv k xs).flatten.length=k * xs.length:=by
 induction k with
 | zero=>simp
 | succ k ih=>rw [OS,PD,LY,ih,Nat.succ_mul,Nat.add_comm]
theorem JS:OpR X (Oy .Mult) Ll:=by
 intro pins s σ H x y v u Q I rx ry h
 obtain ⟨l,k,xs,rfl,rfl,hH,h1,h2,hz,q⟩:=h
 cases rx
 obtain ⟨t,rfl⟩:=ry
 obtain ⟨z,its,n,r,hl,e⟩:=I.lstM hH
 have hlen:its.toArray.size * k.toNat<=LN:=by rw [LQ,<-hl]; exact hz
 have hcap:¬ its.toArray.size * k.toNat > (2 ^ 63 - 1) / 8:=by
  have:(LN:Nat)<=(2 ^ 63 - 1) / 8:=by decide
  omega
 have hfit:¬ (!Builtin.List.listFitsIndex k)=true:=by
  rw [fitsIndex_both h1 h2]
  exact LM
 have hlong:¬ OP (its.toArray.size * k.toNat)=true:=by
  rw [zy hlen]
  exact LM
 have hnew:Uu (fun x1 x2=>x1++x2) #[] (Mv (if its.toArray.isEmpty=true then 0 else k.toNat) its.toArray)=(Mv k.toNat its).flatten.toArray:=by
  have f0:∀ m:Nat,Uu (fun x1 x2=>x1++x2) #[] (Mv m its.toArray)=(Mv m its).flatten.toArray:=fun m=>by
   have:=xu its m []
   rw [List.nil_append] at this
   exact this
  rw [f0]
  cases its with
  | nil=>simp
  | cons a r'=>rw [if_neg (by simp)]
 refine wpAny_binaryOp_repeat_ref (T:="list") (U:="int") (by decide) ⟨_,e,rfl⟩ (fun s'=>Ut s' k t) noFill_list_mul F.fills_int_mul Uw repeat_list F.slot_int_index.lookup
  (Qj Uw (Ut s k t) F.entry_int_rmul (F.args_int_rmul_2 _ _) (int___rmul___int_list k t l its.toArray n)
   ⟨e,rfl,⟨_,e,rfl⟩,Qj F.slot_list_mul ⟨_,e,rfl⟩ F.entry_list_mul (F.args_list_mul_2 _ _) (AutoListH.list___mul___list_int_3 l its.toArray n k t hfit hcap hlong) ⟨e,?_⟩⟩)
 rw [hnew]
 exact ⟨.ref _,_,I.lnew (t':=s.toks) (r.rep k.toNat) (by rw [Iw,NN]; exact hz),rfl,q _ I.fresh⟩
end
section
variable {prog:Program} {w:World} {A:Around} {E:Value->Shared->Prop} {s:Shared}
end
section
variable {X:Cx}
end
end L2
namespace Att
open PySem PySem.W PySem.Calls PyProof.Rows
theorem uC {P:Params} {h:Heap}:∀ (ns:List Int) (vs:List Value),WellAll P h vs (ns.map WData.int)->IntsAre vs ns:=by
 intro ns
 induction ns with
 | nil=>
  intro vs w
  rw [O5] at w
  cases w
  exact .nil
 | cons n ns ih=>
  intro vs w
  rw [LZ] at w
  cases w with
  | cons a b=>
   cases a
   exact .cons _ _ (ih _ b)
theorem EH {l:OpenLaw} {n:Nat} (hn:l.most=some n) {P:Params} {h:Heap} {args:List WData} {vals:List Value}
  (hpre:l.row.toRowW.claim.pre args=true) (hwl:WellAll P h vals args):
  ∃ a vs ns,vals=[Mf a]/\args=[WData.list (ns.map WData.int)]/\h.get? a=some { cls:=.type "list",data:=.seq vs.toArray }/\IntsAre vs ns/\ns.length<=n:=by
 have hsh:WShape.hasAll [] args [.list .int]=true:=(pre_splitW hpre).1
 have hc:l.pre.holds [] { args:=args }=true:=(pre_splitW hpre).2
 obtain ⟨d,r,rfl,h1,h2⟩:=hasAllW_cons hsh
 obtain rfl:=hasAllW_nil h2
 obtain ⟨xs,rfl,h3⟩:=hasW_list h1
 obtain ⟨ns,rfl⟩:=items_int h3
 have hlen:ns.length<=n:=by
  unfold OpenLaw.pre at hc
  have h4:(WTm.not (.lt (.lit (.int (n:Int))) (.len (.arg 0)))).holds [] { args:=[.list (ns.map .int)] }=true:=by
   have h4:=(holds_andW hc).1
   rw [hn] at h4
   exact h4
  have h5:=condW_of h4 (w_not (w_lt w_lit (w_len_list (w_arg rfl))))
  rw [LF] at h5
  refine Rt fun q=>?_
  have q':(n:Int) < ((ns.length:Nat):Int):=by omega
  first
   | (rw [decide_eq_true q'] at h5; exact absurd h5 (by decide))
   | (simp at h5; omega)
 cases hwl with
 | cons w1 w2=>
  cases w2
  cases w1 with
  | list ho hall=>exact ⟨_,_,ns,rfl,rfl,ho,uC ns _ hall,hlen⟩
theorem EI (l:OpenLaw) (args:List WData):l.row.toRowW.claim.post args (.bool true) args=true:=
 postW_of (r:=l.row.toRowW) (X:=(true == true))
  (show WShape.has [] (.bool true) .bool=true by first | rfl | decide | simp [WShape.has,WShape.arms,WShape.armsAll])
  (show (WTm.eq .res (.lit (.bool true))).value [] { args:=args,res:=some (.bool true),after:=args }=some (.bool (true == true)) from w_eq_bool (w_res rfl) w_lit) rfl
section
variable {prog:Program} {w:World} {A:Around} {E:Value->Shared->Prop} {s:Shared} {K:Frag}
end
end Att
namespace L2
open PySem PySem.Spec PyProof.Rows
theorem qF:∀ {vs:List Value} {ns:List Int},IntsAre vs ns->aG (ns.map V.int) vs
 | _,_,.nil=>.nil
 | _,_,.cons n t h=>.cons ⟨t,rfl⟩ (qF h)
noncomputable def JT (H:Hp):Prop:=∀ b,H b=none\/∃ o xs,H b=some (.frz o (.lst xs))
theorem F7 {P:Program} {w:World} {K:Fg} {mg mb:Str->Option Value} {CX:CXT} {k:Nat} {fa a:Addr} {fd:LX} {x:Str} {sp:Sp} {s₁:Shared} {vs:List Value} {ns:List Int}
  (KX:K.In s₁.heap) (hns:s₁.heap.Ns Mi mg) (hb:s₁.heap.Ns Um mb) (hbb:∀ x:Str,x≠"__name__"->mb x=Pm x) (hlim:s₁.heap.NoLimit) (hg:s₁.gens=#[])
  (ha:s₁.heap.get? a=some { cls:=.type "list",data:=.seq vs.toArray }) (hi:IntsAre vs ns) (hl:ns.length<=LN) (hr:bV k callerA)
  (F:∀ base:Heap,K.In base->base.Ns Mi mg->ie P w K mg base CX k fa fd [x] sp) (hbind:∀ (s:Shared) (u:Value),BindsTo s fd ⟨[u],[]⟩ [(x,u)])
  (hsp:∀ H:Hp,JT H->SqL K H a (ns.map V.int)->sp [.ref a] H (fun v _=>v=.bl true) fun _ _ _=>False)
  (hCX:∀ H e s',CX [] H s₁ (fun _ _ _=>False) e s'->False):
  codeAny (model P w) callerA (.call (.ref fa) ⟨[.ref a],[]⟩) (fun r s'=>r=.ok (.ret (.bool true))/\OldK s₁.heap s'.heap/\s'.os=s₁.os/\AllBare s'.gens) s₁:=by
 have rv:=qF hi
 have lenV:=hi.length
 have core:∀ H:Hp,JT H->SqL K H a (ns.map V.int)->HOk P w H s₁.heap->(∀ b,H b≠none->b=a)->(H a≠none->K.lookup a=none)->
   codeAny (model P w) callerA (.call (.ref fa) ⟨[.ref a],[]⟩) (fun r s'=>r=.ok (.ret (.bool true))/\OldK s₁.heap s'.heap/\s'.os=s₁.os/\AllBare s'.gens) s₁:=by
  intro H hO hS hok hA hK
  have base_of:∀ {b:Addr} {o:Obj},s₁.heap.get? b=some o->H b=none->(oM s₁.heap H).get? b=some o:=fun e n=>FU e n
  have noA:∀ {b:Addr} {o:Obj} {es:Array S8} {ep:Nat},s₁.heap.get? b=some o->o.data=.dict es ep->H b=none:=fun {b o es ep} e d=>by
   cases q:H b with
   | none=>rfl
   | some u=>
    have e':b=a:=hA b (by rw [q]; simp)
    subst e'
    rw [ha] at e; cases e
    have d':Data.seq vs.toArray _=Data.dict es ep:=d
    cases d'
  have nsK:∀ {b:Addr} {m:Str->Option Value},s₁.heap.Ns b m->(oM s₁.heap H).Ns b m:=fun {b m} ⟨o,es,ep,e,d,r⟩=>⟨o,es,ep,base_of e (noA e d),d,r⟩
  have hKb:K.In (oM s₁.heap H):=fun b o e=>base_of (KX b o e) (by
   cases q:H b with
   | none=>rfl
   | some u=>
    have e':b=a:=hA b (by rw [q]; simp)
    subst e'
    rw [hK (by rw [q]; simp)] at e; cases e)
  have hM:Mod K mg (oM s₁.heap H):=⟨hKb,nsK hns,⟨mb,nsK hb,hbb⟩,let ⟨mc,h1,h2⟩:=hlim; ⟨mc,nsK h1,h2⟩⟩
  have e0:tH P w K mg (oM s₁.heap H) callerA [] s₁ H:=⟨rfl,hM,fun b o e=>Ig e,Qf (En _ _),trivial,fun b hb=>absurd (show b∈([]:List Addr) from hb) (by simp),hok,.of_eq hg⟩
  refine OO ((F _ hKb (nsK hns)).run callerA [] s₁ H ⟨[.ref a],[]⟩ [.ref a] [.ref a] _ _ hr e0 (hbind s₁ (.ref a)) (.cons rfl .nil) (hsp H hO hS)) fun r s' h=>?_
  cases r with
  | error e=>exact (hCX H e s' h).elim
  | ok fl=>
   cases fl with
   | next=>exact NH h
   | brk=>exact NH h
   | cont=>exact NH h
   | ret u=>
    obtain ⟨v,H',os,bare,un,hok',r',q⟩:=h
    have q':v=.bl true:=q
    subst q'
    obtain rfl:u=MO true:=r'
    refine ⟨rfl,OldK.of_keep fun b o e=>?_,os,bare⟩
    cases q:H b with
    | none=>exact un.keep b o e q (by intro z; exact absurd (show b∈([]:List Addr) from z) (by simp)) (by simp)
    | some u=>
     rcases hO b with z | ⟨ob,xs,z⟩
     ·rw [q] at z; cases z
     ·have z2:=un.frzs b ob _ z
      obtain ⟨e1,_⟩:=hok b _ z
      obtain ⟨e2,_⟩:=hok' b _ z2
      rw [e] at e1; cases e1
      exact e2
 cases hk:K.lookup a with
 | some o=>
  have e:=KX a o hk
  rw [ha] at e
  cases e
  refine core (fun _=>none) (fun _=>.inl rfl) (.inr ⟨_,vs.toArray,_,hk,rfl,rfl,rfl,by rw [LQ,lenV]; exact hl,by simpa using rv⟩) (fun b u z=>by have z':(none:Option HO)=some u:=z; cases z') (fun b z=>absurd rfl z) fun z=>absurd rfl z
 | none=>
  refine core (fun b=>if b=a then some (.frz { cls:=.type "list",data:=.seq vs.toArray } (.lst (ns.map V.int))) else none) (fun b=>?_) (.inl (.inr ⟨{ cls:=.type "list",data:=.seq vs.toArray },if_pos rfl⟩)) (fun b u z=>?_) (fun b z=>?_) fun _=>hk
  ·by_cases hb:b=a
   ·exact .inr ⟨_,_,if_pos hb⟩
   ·exact .inl (if_neg hb)
  ·by_cases hb:b=a
   ·have z':=(if_pos hb).symm.trans z
    cases z'
    subst hb
    exact ⟨ha,by rw [LF]; exact hl,vs,_,rv,ha⟩
   ·have z':=(if_neg hb).symm.trans z
    cases z'
  ·by_cases hb:b=a
   ·exact hb
   ·exact absurd (if_neg hb) z
end L2
namespace L2
open PySem PySem.Spec PyProof.Rows
end L2
namespace L2
open PySem PySem.Spec PyProof.Rows
noncomputable def iZ (s:Stmt) (j:Nat):Stmt:=match s with
 | .ClassDef _ _ _ body _ _ _ _ _ _ _=>body.getD j (.Pass ⟨0,0,0,0⟩)
 | _=>.Pass ⟨0,0,0,0⟩
noncomputable def jP (s:Stmt):Arguments:=match s with
 | .FunctionDef _ a _ _ _ _ _ _ _ _=>a
 | _=>{ posonlyargs:=[],args:=[],vararg:=none,kwonlyargs:=[],kw_defaults:=[],kwarg:=none,defaults:=[] }
noncomputable def fm (s:Stmt):List Stmt:=match s with
 | .FunctionDef _ _ b _ _ _ _ _ _ _=>b
 | _=>[]
noncomputable def ac (s:Stmt):Scope:=match s with
 | .FunctionDef _ _ _ _ _ _ sc _ _ _=>sc
 | _=>{ kind:=.function,names:=[],isGenerator:=false,isCoroutine:=false }
noncomputable abbrev CX0:CXT:=fun _ _ _ _ _ _=>False
noncomputable abbrev E0:XK:=fun _ _ _=>False
theorem y7 {X:Cx}:lL CX0 X E0:=fun _ _ _ _ _ _ _ h=>h.elim
structure Fun (K:Fg) (x qual:Str) (st:Stmt) (f:Addr) (fd:LX):Prop where
 ex:∃ (oc:Value) (od:Option Addr) (kV doc pm:Value) (an:Option Addr) (cdv ct:Value) (osl:Array (Option Value)),
  fd=Pn x qual (jP st) (fm st) (ac st) .none kV doc pm an cdv ct/\K.lookup f=some ⟨oc,od,.func fd,osl⟩/\R7 K cdv qual=true
 kp:O4 K (.ref f)=true
section
variable {P:Program} {w:World} {K:Fg} {mg:Str->Option Value} {base:Heap}
theorem Fun.ok {x qual:Str} {st:Stmt} {f:Addr} {fd:LX} {N ps:List Str} {k:Nat} {sp:Sp} (F:Fun K x qual st f fd) (S:aA N ps (ac st)) (len:∀ vs H Q E,sp vs H Q E->vs.length=ps.length)
  (hbody:∀ (cdv:Value) (A:Around) (outer:List Env) (s:Shared) (H:Hp) (vs:List V) (Q:VK) (E:XK),bV k (A.deeper (envOfC qual (ac st) s.heap.objs.size f cdv))->sp vs H Q E->
   ∃ t,PSs (oQ CX0 P w K mg base N qual (ac st) f cdv A outer s H E).nox (fm st) t/\t { nx:=fun _ H'=>Q .non H',rt:=Q } (start N vs) H):ie P w K mg base CX0 (k + 1) f fd ps sp:=by
 obtain ⟨oc,od,kV,doc,pm,an,cdv,ct,osl,rfl,lk,hcd⟩:=F.ex
 refine KP lk hcd S len fun A outer s H vs Q E hr hsp=>?_
 obtain ⟨t,h,q⟩:=hbody cdv A outer s H vs Q E hr hsp
 exact ⟨t,h.nox,q⟩
theorem Fun.binds {x qual:Str} {st:Stmt} {f:Addr} {fd:LX} {ps:List Str} (F:Fun K x qual st f fd)
  (h:∀ (kV doc pm:Value) (an:Option Addr) (cdv ct:Value) (us:List Value),us.length=ps.length->bindArgs (Pn x qual (jP st) (fm st) (ac st) .none kV doc pm an cdv ct) ⟨us,[]⟩=pure (ps.zip us)):fM K fd ps []:=by
 obtain ⟨oc,od,kV,doc,pm,an,cdv,ct,osl,rfl,lk,hcd⟩:=F.ex
 exact .all (h kV doc pm an cdv ct)
theorem EJ {x qual:Str} {st:Stmt} {f:Addr} {oc:Value} {od an:Option Addr} {osl:Array (Option Value)} {kV doc pm cdv ct:Value} (l:K.lookup f=some ⟨oc,od,.func (Pn x qual (jP st) (fm st) (ac st) .none kV doc pm an cdv ct),osl⟩)
  (c:R7 K cdv qual=true) (k:O4 K (.ref f)=true):Fun K x qual st f (Pn x qual (jP st) (fm st) (ac st) .none kV doc pm an cdv ct):=⟨⟨oc,od,kV,doc,pm,an,cdv,ct,osl,rfl,l,c⟩,k⟩
end
theorem EK {n:Nat} (h:n<=1000):n < LN:=OV h (by decide)
section
variable {X:Cx}
theorem pv (i:Nat) {x:Str} {pos:Pos} (hN:X.N[i]?=some x:=by rfl) (hv:Vis X.env.scope x:=by first | exact LL rfl | exact Pp (LL rfl) | exact Pp (Pp rfl)) (hd:(x == ("__debug__":Str))=false:=by decide)
  (hcd:(x == ("__classdict__":Str))=false:=by decide):PE X (.Name x pos) (ab i):=Eo hN hv hd hcd
end
theorem oT {A B:Prop} (h:B):if false=true then A else B:=by
 rw [if_neg LM]
 exact h
theorem qG {A B:Prop} (h:A):if true=true then A else B:=by
 rw [if_pos rfl]
 exact h
noncomputable def ap (H H':Hp):Prop:=∀ b o,H b=some o->H' b=some o
theorem ap.refl (H:Hp):ap H H:=fun _ _ h=>h
theorem ap.trans {H H1 H2:Hp} (a:ap H H1) (b:ap H1 H2):ap H H2:=fun c o h=>b c o (a c o h)
theorem ap.free {H H':Hp} (e:ap H H') {l:Addr} (h:H' l=Option.none):H l=Option.none:=by
 cases q:H l with
 | none=>rfl
 | some o=>
  rw [e l o q] at h
  cases h
theorem ap.seq {K:Fg} {H H':Hp} {a:Addr} {xs:List V} (e:ap H H') (h:SqL K H a xs):SqL K H' a xs:=by
 rcases h with (h | ⟨o,h⟩) | h
 ·exact .inl (.inl (e _ _ h))
 ·exact .inl (.inr ⟨o,e _ _ h⟩)
 ·exact .inr h
end L2
end
namespace L2
open PySem PyProof.Rows
section
open PySem.Spec
theorem nH {a b:Addr} {n:Nat} (h:a < n) (h':n<=b):a≠b:=Ml (L8 h h')
theorem F8 {a b:Addr} {n:Nat} (h:n<=a) (h':b < n):a≠b:=NA (L8 h' h)
noncomputable def fo (env:Env):List (Str×My)->List (Str×Addr)->List (Str×Addr)
 | [],acc=>acc
 | (n,k) :: r,acc=>if k=.free then (match env.cells.lookup n with | some c=>fo env r ((n,c) :: acc) | none=>fo env r acc) else fo env r acc
theorem li {env:Env}:∀ (ns:List (Str×My)) (acc:List (Str×Addr)),(∀ p∈acc,env.cells.lookup p.1=some p.2)->∀ p∈fo env ns acc,env.cells.lookup p.1=some p.2
 | [],acc,h=>by intro p hp; exact h p hp
 | (n,k) :: r,acc,h=>by
  intro p hp
  rw [fo] at hp
  split at hp
  ·split at hp
   ·rename_i c hc
    refine li r _ (fun q hq=>?_) p hp
    rcases LA.mp hq with rfl | hq
    ·exact hc
    ·exact h q hq
   ·exact li r acc h p hp
  ·exact li r acc h p hp
theorem oU {env:Env}:∀ (ns:List (Str×My)) (acc:List (Str×Addr)),∀ p∈acc,p∈fo env ns acc
 | [],acc=>fun p hp=>hp
 | (n,k) :: r,acc=>fun p hp=>by
  rw [fo]
  split
  ·split
   ·exact oU r _ p (LJ _ hp)
   ·exact oU r acc p hp
  ·exact oU r acc p hp
theorem oV {env:Env}:∀ (ns:List (Str×My)) (acc:List (Str×Addr)) (x:Str) (c:Addr),(x,Ng)∈ns->env.cells.lookup x=some c->(x,c)∈fo env ns acc
 | [],acc,x,c=>fun h _=>(nomatch h)
 | (n,k) :: r,acc,x,c=>fun h hc=>by
  rw [fo]
  rcases LA.mp h with e | h
  ·cases e
   rw [if_pos rfl,hc]
   exact oU r _ _ LG
  ·split
   ·split
    ·exact oV r _ x c h hc
    ·exact oV r acc x c h hc
   ·exact oV r acc x c h hc
theorem p0 {α:Type} {x:Str} {c:α}:∀ {l:List (Str×α)},(x,c)∈l->∃ d,l.lookup x=some d
 | (y,d) :: r,h=>by
  rw [MY]
  cases e:x == y with
  | true=>exact ⟨d,rfl⟩
  | false=>
   rcases LA.mp h with q | q
   ·cases q
    rw [beq_self_eq_true] at e
    cases e
   ·exact p0 q
theorem fZ {env:Env} {ns:List (Str×My)} {x:Str} {c:Addr} (h:(fo env ns []).lookup x=some c):env.cells.lookup x=some c:=
 li ns [] (fun _ hp=>(nomatch hp)) (x,c) (MW h)
theorem xv {env:Env} {ns:List (Str×My)} {x:Str} {c:Addr} (hm:(x,Ng)∈ns) (hc:env.cells.lookup x=some c):(fo env ns []).lookup x=some c:=by
 obtain ⟨d,hd⟩:=p0 (oV ns [] x c hm hc)
 have e:=fZ hd
 rw [hc] at e
 cases e
 exact hd
theorem uD {scope:Scope} {env:Env} (h:∀ y∈scope.names,y.2=.free->∃ c,env.cells.lookup y.1=some c):Sv scope env=pure (fo env scope.names []):=by
 have go:∀ (ns:List (Str×My)) (acc:List (Str×Addr)),(∀ y∈ns,y.2=.free->∃ c,env.cells.lookup y.1=some c)->
   (forIn ns acc fun (x:Str×My) (cs:List (Str×Addr))=>(match x with
    | (name,kind)=>if (kind == Ng)=true then (do let c <-cellOf env name; pure (OW ((name,c) :: cs))) else pure (OW cs):Sem (ForInStep (List (Str×Addr)))))=(pure (fo env ns acc):Sem (List (Str×Addr))):=by
  intro ns
  induction ns with
  | nil=>intro acc _; rfl
  | cons y r ih=>
   intro acc hy
   obtain ⟨n,k⟩:=y
   have ih':=fun acc=>ih acc fun z hz=>hy z (LJ _ hz)
   rw [Ou,fo]
   by_cases hk:k=.free
   ·subst hk
    obtain ⟨c,hc⟩:=hy (n,.free) LG rfl
    have hc':env.cells.lookup n=some c:=hc
    simp only [beq_self_eq_true,if_true,cellOf,hc',pure_bind]
    exact ih' _
   ·have hb:(k == Ng)=false:=by simpa using hk
    simp only [hb,MR,if_false,pure_bind,if_neg hk]
    exact ih' _
 unfold Sv
 have g:=go scope.names [] h
 simp only [bind_pure]
 exact g
structure qH (sc scope:Scope) (NX N:List Str) (ix:List (Option Nat)):Prop where
 kind:scope.kind=.function
 nocell:∀ y∈scope.names,y.2≠.cell
 names:∀ y∈scope.names,y.2=.local->scope.names.lookup y.1=some .local
 free:∀ y∈scope.names,y.2=.free->sc.names.lookup y.1=some .cell\/sc.names.lookup y.1=some .free
 nd:N.Nodup
 len:ix.length=N.length
 at_:∀ p∈N.zip ix,∀ i∈p.2,NX[i]?=some p.1/\scope.names.lookup p.1=some .free
noncomputable def sub (ix:List (Option Nat)) (σ:St):St:=ix.map fun o=>match o with | some i=>(match σ[i]? with | some v=>v | none=>none) | none=>none
noncomputable def cu (X:Cx) (N:List Str) (scope:Scope) (C:Addr) (s:Shared) (H:Hp) (fp:List Addr):Cx where
 prog:=X.prog
 w:=X.w
 K:=X.K
 mg:=X.mg
 base:=X.base
 A:=X.A
 N:=N
 s₀:=s
 H₀:=H
 env:=Sw scope (fo X.env scope.names []) C X.env
 outer:=X.stack
 stack:=X.stack
 ex:=fp
 fn:=fun _=>false
 calm:=X.calm
 pn:=[]
 xe:=fun _ _=>False
theorem qI {scope:Scope} {env:Env} {x:Str} {k:My} (h:(relabel scope env).names.lookup x=some k):scope.names.lookup x=some k\/(k=.cell/\scope.names.lookup x=some .free):=by
 have go:∀ ns:List (Str×My),(ns.map fun (n,k)=>if (k == Ng && env.scope.kind == .function && env.kindOf n == some .cell) then (n,PV) else (n,k)).lookup x=some k->
   ns.lookup x=some k\/(k=.cell/\ns.lookup x=some .free):=by
  intro ns
  induction ns with
  | nil=>intro q; simp at q
  | cons y r ih=>
   obtain ⟨n,k'⟩:=y
   intro q
   rw [LZ] at q
   by_cases hc:(k' == Ng && env.scope.kind == .function && env.kindOf n == some .cell)=true
   ·simp only [hc,if_true] at q
    have hk':k'=.free:=by
     have:=(M7 _ _ ▸ hc)
     have h1:=(M7 _ _ ▸ this.1)
     exact eq_of_beq h1.1
    subst hk'
    rw [MY] at q ⊢
    cases e:x == n with
    | true=>
     rw [e] at q
     cases q
     exact .inr ⟨rfl,rfl⟩
    | false=>
     rw [e] at q
     exact ih q
   ·simp only [hc] at q
    rw [if_neg (by simp)] at q
    rw [MY] at q ⊢
    cases e:x == n with
    | true=>rw [e] at q; exact .inl q
    | false=>rw [e] at q; exact ih q
 exact go scope.names h
theorem zz {scope:Scope} {env:Env} {x:Str} (h:scope.names.lookup x=some .free):(relabel scope env).names.lookup x=some .cell\/(relabel scope env).names.lookup x=some .free:=by
 have go:∀ ns:List (Str×My),ns.lookup x=some .free->
   (ns.map fun (n,k)=>if (k == Ng && env.scope.kind == .function && env.kindOf n == some .cell) then (n,PV) else (n,k)).lookup x=some .cell\/
   (ns.map fun (n,k)=>if (k == Ng && env.scope.kind == .function && env.kindOf n == some .cell) then (n,PV) else (n,k)).lookup x=some .free:=by
  intro ns
  induction ns with
  | nil=>intro q; simp at q
  | cons y r ih=>
   obtain ⟨n,k'⟩:=y
   intro q
   rw [LZ]
   rw [MY] at q
   cases e:x == n with
   | true=>
    rw [e] at q
    cases q
    by_cases hc:(Ng == Ng && env.scope.kind == .function && env.kindOf n == some .cell)=true
    ·simp only [hc,if_true]
     rw [MY,e]
     exact .inl rfl
    ·simp only [hc]
     rw [if_neg (by simp),MY,e]
     exact .inr rfl
   | false=>
    rw [e] at q
    have z:=ih q
    by_cases hc:(k' == Ng && env.scope.kind == .function && env.kindOf n == some .cell)=true
    ·simp only [hc,if_true]
     rw [MY,e]
     exact z
    ·simp only [hc]
     rw [if_neg (by simp),MY,e]
     exact z
 exact go scope.names h
theorem Inv.gone {X:Cx} {pins:List (Addr×Obj)} {σ σ₂:St} {H H₂:Hp} {s s₂:Shared} {C:Addr} {h'':Heap} (I:Inv X pins σ H s) (I2:Inv X pins σ₂ H₂ s₂) (hC:s₂.heap.objs.size<=C) (hn:H C=none) (hs:LP C s.heap h''):Inv X pins σ H { s with heap:=h'' }:=
 I.turned (t':=s.toks) (it:=C) (fun b o hb e=>hs.extBut b o hb e) hn (NA (L8 I2.lt hC)) (.inr (Me I2.sz hC))
  (fun x c e=>by
   obtain ⟨v,o,ho,_⟩:=I2.cell x c e
   exact nH (LK ho) hC) fun q hq=>nH (LK (I2.pin q hq).1) hC
noncomputable def PTL (X:Cx) (ifs:List Expr) (t:TT):Prop:=
 ∀ (pins:List (Addr×Obj)) (s:Shared) (σ:St) (H:Hp) (Q:Bool->Hp->Prop),Inv X pins σ H s->t σ H Q->
  wpAny (model X.prog X.w) X.A (forIn ifs true fun c r=>if r=true then do let ok <-isTrue c X.env (eval c X.env); pure (OW ok) else pure (OW r)) (TP X pins σ Q) X.xe s
noncomputable def bK:TT:=fun _ H Q=>Q true H
theorem bT {X:Cx}:PTL X [] bK:=fun _ _ _ H _ I h=>wpAny_tests_nil ⟨H,I,h⟩
theorem rO {X:Cx} {c:Expr} {t:TT} (h:PT X c t):PTL X [c] t:=fun pins s σ H Q I q=>wpAny_tests_one (h pins s σ H Q I q)
noncomputable def cG (J:It) (g:TG) (tt:TT) (te:TE) (σ₀:St) (p:Addr) (Q:VK) (W:Nat->Nat->List V->Hp->Prop):Prop:=
 ∀ i m acc H,W i m acc H->H p=some (.lst acc)/\
  ((J.stop i H/\Q (.ref p) H)\/(J.go i H/\acc.length < LN/\∃ N:List V->Hp->Prop,(∀ acc' H',N acc' H'->∃ m',m' < m/\W (i + 1) m' acc' H')/\
   ∀ x H1,J.yld i H x H1->g x σ₀ H1 fun σ2 H2=>tt σ2 H2 fun b H3=>if b=true then te σ2 H3 fun y H4=>H4 p=some (.lst acc)/\N (acc++[y]) (upd H4 p (.lst (acc++[y]))) else N acc H3))
noncomputable abbrev CF (α:Type):=Addr->Shared->Hp->List Addr->α
noncomputable def bZ (wi:TI) (g:CF TG) (tt:CF TT) (te:CF TE) (ix:List (Option Nat)):TE:=fun σ H Q=>wi σ H fun J H1=>∀ p,H1 p=none->
 ∃ W:Nat->Nat->List V->Hp->Prop,(∃ m,W 0 m [] (upd H1 p (.lst [])))/\∀ C s' H' fp,cG J (g C s' H' fp) (tt C s' H' fp) (te C s' H' fp) (sub ix σ) p Q W
section
variable {X:Cx} {elt tg iter:Expr} {ifs:List Expr} {scope sc:Scope} {pos:Pos} {NX N:List Str} {ix:List (Option Nat)} {wi:TI} {g:CF TG} {tt:CF TT} {te:CF TE}
theorem EL {prog:Program} {w:World} {A:Around} {R:Result->Shared->Prop} {s:Shared} {it acc:Value} {env:Env} (I:Nat->Shared->Prop)
  (turn:∀ n s,I n s->wpAny (model prog w) A (pyNext it) (fun r s₁=>match r with
   | none=>R (.ok .next) s₁
   | some v=>wpAny (model prog w) A (Qd tg it v) (fun _ s₁'=>wpAny (model prog w) A (assign tg env v) (fun _ s₂=>
     wpAny (model prog w) A (forIn ifs true fun c r=>if r=true then do let ok <-isTrue c env (eval c env); pure (OW ok) else pure (OW r)) (fun ok s₃=>
      if ok=true then wpAny (model prog w) A (eval elt env) (fun x s₄=>
       wpAny (model prog w) A (call (.builtin "list.append") [acc,x]) (fun _ s₅=>∃ m,m < n/\I m s₅) (fun _ _=>False) s₄) (fun _ _=>False) s₃
      else ∃ m,m < n/\I m s₃) (fun _ _=>False) s₂) (fun _ _=>False) s₁') (fun _ _=>False) s₁) (fun _ _=>False) s)
  (n:Nat) (h:I n s):codeAny (model prog w) A (.compLoop (.ListComp elt [⟨tg,iter,ifs,0⟩] scope pos) 0 it acc env) R s:=by
 refine codeAny_loop rfl I (fun n s hI=>?_) n h
 show wpAny _ A ((compTurn (.ListComp elt [⟨tg,iter,ifs,0⟩] scope pos) 0 it acc env).onRaise (fun x=>do noteFrame x env; theTreesLotGoes x)) _ _ s
 refine wpAny_noted ?_
 rw [compTurn_list]
 refine Lw (SH (Lw (Nh (turn n s hI) (fun r s₁ h₁=>?_) fun _ _ z=>z.elim)))
 cases r with
 | none=>exact Ly h₁
 | some v=>
  refine Lw (Nh h₁ (fun _ s₁' h₁'=>?_) fun _ _ z=>z.elim)
  refine Lw (Nh h₁' (fun _ s₂ h₂=>Lw (Nh h₂ (fun ok s₃ h₃=>?_) fun _ _ z=>z.elim)) fun _ _ z=>z.elim)
  cases ok with
  | false=>exact Ly ⟨rfl,h₃⟩
  | true=>exact Lw (Lw (Nh h₃ (fun x s₄ h₄=>Lw (Nh h₄ (fun _ s₅ h₅=>Ly (Ly ⟨rfl,h₅⟩)) fun _ _ z=>z.elim)) fun _ _ z=>z.elim))
theorem uE {pins:List (Addr×Obj)} {σ:St} {H:Hp} {s:Shared} {fp:List Addr} {it:Addr} {J:It} {tn:Nat->Heap->Prop} {Q:VK} {E:Value->Shared->Prop} {RR:Value->Addr->Result->Shared->Prop}
  (hc:X.calm=true) (hsc:X.env.scope=sc) (hNX:X.N=NX) (S:qH sc scope NX N ix)
  (hg:∀ C s H fp,PG (cu X N scope C s H fp) tg (g C s H fp)) (ht:∀ C s H fp,PTL (cu X N scope C s H fp) ifs (tt C s H fp)) (he:∀ C s H fp,PE (cu X N scope C s H fp) elt (te C s H fp))
  (I:Inv X pins σ H s) (T:oP X.prog X.w X.K tg J fp it tn) (st:tn 0 s.heap) (hf:∀ b∈fp,kK X pins H b)
  (hq:∀ p,H p=none->∃ W:Nat->Nat->List V->Hp->Prop,(∃ m,W 0 m [] (upd H p (.lst [])))/\∀ C s' H' fp,cG J (g C s' H' fp) (tt C s' H' fp) (te C s' H' fp) (sub ix σ) p Q W)
  (hR:∀ p C s' H' m,s.heap.objs.size<=p->s.heap.objs.size<=C->s'.heap.Ns C m->H' C=none->Q (.ref p) H'->Inv X pins σ H' s'->RR (.ref p) C (.ok .next) s'):
  wpAny (model X.prog X.w) X.A (newList []) (fun acc s₃=>wpAny (model X.prog X.w) X.A (newFunctionEnv scope X.env.globals (fo X.env scope.names []) [] X.env.qual none .none (some X.env)) (fun cenv s₄=>
   codeAny (model X.prog X.w) X.A (.compStart (.ListComp elt [⟨tg,iter,ifs,0⟩] scope pos) 0 (.ref it) acc { cenv with scope:=relabel scope X.env }) (RR acc cenv.locals) s₄) E s₃) E s:=by
 refine MF (wpAny_newFunctionEnv S.nocell (by intro y hy; simp at hy) (fun h₁ hns₁ hsb₁=>?_) S.kind)
 dsimp only at hns₁ hsb₁ ⊢
 have hsz:(s.heap.push { cls:=.type "list",dict:=none,data:=.seq ([]:List Value).toArray }).objs.size=s.heap.objs.size + 1:=Mo ..
 generalize hC:(s.heap.push { cls:=.type "list",dict:=none,data:=.seq ([]:List Value).toArray }).objs.size=C at hns₁ hsb₁ ⊢
 rw [hsz] at hC
 generalize hp:s.heap.objs.size=p at hC
 have pC:p≠C:=by omega
 have old:∀ b o,s.heap.get? b=some o->h₁.get? b=some o:=fun b o e=>hsb₁.extBut b o (nH (LK e) (by omega)) (Lx _ (Lx _ e))
 have hnew:h₁.get? p=some { cls:=.type "list",data:=.seq ([]:List Value).toArray }:=hsb₁.extBut _ _ pC (Lx _ (by rw [<-hp]; exact LH _ rfl))
 have hfp:H p=none:=I.hok.fresh (by omega)
 have hfC:H C=none:=I.hok.fresh (by omega)
 have lt:∀ b∈fp,b < p:=fun b hb=>by
  obtain ⟨o,e,_⟩:=T.obj 0 _ st b hb
  rw [<-hp]
  exact LK e
 have hcells:∀ y∈scope.names,y.2=.free->∃ c,X.env.cells.lookup y.1=some c:=fun y hy hk=>by
  refine I.ok.has y.1 ?_
  show X.env.scope.names.lookup y.1=some .cell\/X.env.scope.names.lookup y.1=some .free
  rw [hsc]
  exact S.free y hy hk
 have noown:∀ x,scope.names.lookup x≠some .cell:=fun x e=>S.nocell _ (MW e) rfl
 have hok:(cu X N scope C s H fp).Ok:=by
  refine ⟨I.ok.mod,S.kind,I.ok.glob,I.ok.blt,by show s.heap.objs.size<=C; omega,fun x y c h1 h2=>I.ok.inj x y c (fZ h1) (fZ h2),fun x hx=>?_,fun x c z=>(by cases z),I.ok.hd,I.ok.frames,.inl rfl,fun b hb=>?_,I.bs,Me I.ok.bsz I.sz,fun b o e hb=>?_,fun b hb z=>?_,I.stack,I.stkFree⟩
  ·have hx':scope.names.lookup x=some .free:=by
    rcases hx with hx | hx
    ·rcases qI hx with q | q
     ·exact absurd q (noown x)
     ·exact q.2
    ·rcases qI hx with q | q
     ·exact q
     ·exact q.2
   obtain ⟨c,hc'⟩:=hcells _ (MW hx') rfl
   exact ⟨c,xv (MW hx') hc'⟩
  ·refine ⟨?_,fun x c e=>(hf b hb).2.2.2.2.1 x c (fZ e)⟩
   show b≠C
   exact nH (lt b hb) (by omega)
  ·rcases (hf b hb).2.2.2.1 with z | z
   ·exact I.ok.noex b o e z
   ·exact absurd (L8 (LK e) (Me I.ok.bsz z)) (Nz _)
  ·rcases LA.mp (I.stkSub b z) with q | q
   ·exact (hf b hb).2.1 q
   ·exact (hf b hb).2.2.1 q
 have locs:∀ h':Heap,(∀ x c o,X.env.cells.lookup x=some c->s.heap.get? c=some o->∃ sl,h'.get? c=some { o with slots:=sl })->
   ∀ (i:Nat) (x:Str) (v:V),N[i]?=some x->(sub ix σ)[i]?=some (some v)->∃ u,aH v u/\∀ m,JJ (Sw scope (fo X.env scope.names []) C X.env) h' m x u:=by
  intro h' hk i x v h1 h2
  obtain ⟨k,hk',hv⟩:∃ k,ix[i]?=some (some k)/\σ[k]?=some (some v):=by
   unfold sub at h2
   rw [LS] at h2
   cases e:ix[i]? with
   | none=>rw [e] at h2; cases h2
   | some o=>
    rw [e] at h2
    cases o with
    | none=>cases h2
    | some k=>
     refine ⟨k,rfl,?_⟩
     have h2':(match σ[k]? with | some v=>v | none=>none)=some v:=LR h2
     cases e2:σ[k]? with
     | none=>rw [e2] at h2'; cases h2'
     | some z=>
      rw [e2] at h2'
      rw [show z=some v from h2']
  have hm:(x,some k)∈N.zip ix:=by
   refine LU (i:=i) ?_
   rw [OH]
   exact ⟨h1,hk'⟩
  obtain ⟨a1,a2⟩:=S.at_ _ hm k (by simp)
  have hX:=S.free _ (MW a2) rfl
  have hvis:Vis X.env.scope x:=by
   show _\/_\/_
   rw [hsc]
   exact .inr hX
  obtain ⟨m,hn,hl⟩:=I.loc
  obtain ⟨u,r,l⟩:=hl k x v (by rw [hNX]; exact a1) hv hvis
  refine ⟨u,r,fun m'=>.inr ⟨zz a2,?_⟩⟩
  rcases l with ⟨l,_⟩ | ⟨_,c,e,z⟩
  ·have l':X.env.scope.names.lookup x=some .local:=l
   rw [hsc] at l'
   rcases hX with q | q <;> (rw [q] at l'; cases l')
  ·obtain ⟨o,ho,hd⟩:=z
   obtain ⟨sl,e'⟩:=hk x c o e ho
   exact ⟨c,xv (MW a2) e,_,e',hd⟩
 have hlen:(sub ix σ).length=N.length:=by
  unfold sub
  rw [LF]
  exact S.len
 have I1:Inv (cu X N scope C s H fp) [] (sub ix σ) (upd H p (.lst [])) { s with heap:=h₁,toks:=s.toks + ([]:List (Str×Value)).length }:=by
  refine ⟨hok,rfl,I.bare,Un.laid old (Qf hp) hfp,⟨_,hns₁,fun i x v h1 h2 h3=>?_⟩,fun x c e=>?_,?_,fun x c e=>?_,fun q hq=>(nomatch hq),I.hok.laid old (Qf hp) ⟨MJ _,[],0,.nil,hnew⟩,hlen⟩
  ·obtain ⟨u,r,l⟩:=locs h₁ (fun y c o _ ho=>⟨o.slots,old c o ho⟩) i x v h1 h2
   exact ⟨u,r,l _⟩
  ·obtain ⟨v,o,ho,hd⟩:=I.cell x c (fZ e)
   exact ⟨v,o,old c o ho,hd⟩
  ·show upd H p _ C=none
   rw [aO (Mz pC)]
   exact hfC
  ·have e':=fZ e
   obtain ⟨v,o,ho,hd⟩:=I.cell x c e'
   rw [aO (nH (LK ho) (Qf hp))]
   exact I.freeC x c e'
 have back:∀ {pl:List (Addr×Obj)} {σ':St} {H':Hp} {s':Shared},Inv (cu X N scope C s H fp) pl σ' H' s'->Inv (cu X N scope C s H fp) pl (sub ix σ) H' s':=fun {pl σ' H' s'} J=>by
  obtain ⟨m,hn,_⟩:=J.loc
  refine ⟨J.ok,J.os,J.bare,J.base,⟨m,hn,fun i x v h1 h2 h3=>?_⟩,J.cell,J.free,J.freeC,J.pin,J.hok,hlen⟩
  obtain ⟨u,r,l⟩:=locs s'.heap (fun y c o hc' ho=>J.base.any ho (I.freeC y c hc') fun hb=>(hf c hb).2.2.2.2.1 y c hc' rfl) i x v h1 h2
  exact ⟨u,r,l _⟩
 obtain ⟨W,⟨m0,w0⟩,turn⟩:=hq p hfp
 have st1:tn 0 h₁:=T.keep 0 _ _ st fun b _ o e=>old b o e
 have fp1:∀ {H':Hp},(∀ b∈fp,H' b=none)->∀ b∈fp,kK (cu X N scope C s H fp) [] H' b:=fun {H'} hn b hb=>
  ⟨hn b hb,(hok.exf b hb).1,hok.exfs b hb,.inl hb,(hok.exf b hb).2,fun q hq=>(nomatch hq)⟩
 have loop:codeAny (model X.prog X.w) X.A (.compLoop (.ListComp elt [⟨tg,iter,ifs,0⟩] scope pos) 0 (.ref it) (.ref p) (Sw scope (fo X.env scope.names []) C X.env)) (RR (.ref p) C) { s with heap:=h₁,toks:=s.toks + ([]:List (Str×Value)).length }:=by
  refine EL (fun n s'=>∃ i acc H',Inv (cu X N scope C s H fp) [] (sub ix σ) H' s'/\tn i s'.heap/\(∀ b∈fp,H' b=none)/\W i n acc H') ?_ m0
   ⟨0,[],_,I1,st1,fun b hb=>by rw [aO (nH (lt b hb) (LC _))]; exact (hf b hb).1,w0⟩
  rintro n s3 ⟨i,acc,H3,I3,st3,fr3,w3⟩
  obtain ⟨hacc,w4⟩:=turn C s H fp i n acc H3 w3
  rcases w4 with ⟨stop,qn⟩ | ⟨go,hln,N',hN',step⟩
  ·refine thn (T.done (cu X N scope C s H fp) rfl rfl rfl hc i [] s3 _ H3 (fun _ _=>False) I3 (fp1 fr3) st3 stop) fun r s4 ⟨hr,I4⟩=>?_
   subst hr
   obtain ⟨m,hn,_⟩:=I4.loc
   refine hR p C s4 H3 m (by omega) (by omega) hn I4.free qn ?_
   exact I.call' I4.os I4.base I4.hok I4.bare fun b hb=>⟨(hf b hb).2.2.2.1,(hf b hb).2.1,(hf b hb).2.2.2.2.1,(hf b hb).2.2.2.2.2⟩
  ·refine thn (T.item (cu X N scope C s H fp) rfl rfl rfl hc i [] s3 _ H3 (fun _ _=>False) I3 (fp1 fr3) st3 go) fun r s4 ⟨u,hr,h4⟩=>?_
   subst hr
   refine thn h4 fun _ s5 ⟨x,H5,I5,r5,y5,st5,fr5⟩=>?_
   have I5':=I5.pinned (fp1 fr5) (T.obj _ _ st5)
   refine thn (hg C s H fp _ s5 _ H5 x u _ I5' r5 (step x H5 y5)) fun _ s6 ⟨σ6,H6,I6,q6⟩=>?_
   have later:∀ {s7:Shared} {H7:Hp} {acc':List V} {σ7:St},Inv (cu X N scope C s H fp) ([]++qC fp s5.heap) σ7 H7 s7->(∃ m',m' < n/\W (i + 1) m' acc' H7)->
     ∃ m,m < n/\∃ i acc H',Inv (cu X N scope C s H fp) [] (sub ix σ) H' s7/\tn i s7.heap/\(∀ b∈fp,H' b=none)/\W i m acc H':=fun {s7 H7 acc' σ7} I7 ⟨m',hm,w7⟩=>by
    refine ⟨m',hm,i + 1,acc',H7,back (I7.unpinned (pins:=[])),T.keep _ _ _ st5 fun b hb o e=>(I7.pin (b,o) (MA _ (MA _ (lg hb e)))).1,fun b hb=>?_,w7⟩
    obtain ⟨o,e,d⟩:=T.obj _ _ st5 b hb
    exact (I7.pin (b,o) (MA _ (MA _ (lg hb e)))).2.1
   refine thn (ht C s H fp _ s6 σ6 H6 _ I6 q6) fun ok s7 ⟨H7,I7,q7⟩=>?_
   cases ok with
   | false=>exact later I7 (hN' _ _ q7)
   | true=>
    refine thn (he C s H fp _ s7 σ6 H7 _ I7 q7) fun y s8 ⟨v8,H8,I8,r8,hacc8,w8⟩=>?_
    refine thn (gy (X:=cu X N scope C s H fp) _ s8 σ6 H8 (.ref p) [v8] (.ref p) [y] (fun _ H9=>H9=upd H8 p (.lst (acc++[v8]))) I8 rfl (.cons r8 .nil) ⟨p,acc,v8,rfl,rfl,hacc8,hln,rfl⟩) fun _ s9 ⟨_,H9,I9,_,e9⟩=>?_
    subst e9
    exact later I9 (hN' _ _ w8)
 exact codeAny_compStart_list loop (T.self _ 0 _ _ _ st1 loop)
theorem bP (hc:X.calm=true) (S:qH sc scope NX N ix) (hi:PI X tg iter wi)
  (hg:∀ C s H fp,PG (cu X N scope C s H fp) tg (g C s H fp)) (ht:∀ C s H fp,PTL (cu X N scope C s H fp) ifs (tt C s H fp)) (he:∀ C s H fp,PE (cu X N scope C s H fp) elt (te C s H fp))
  (hsc:X.env.scope=sc:=by rfl) (hNX:X.N=NX:=by rfl) (hs:∀ x,Q6 iter X.env x=pure x:=by intro _; rfl):
  PE X (.ListComp elt [⟨tg,iter,ifs,0⟩] scope pos) (bZ wi g tt te ix):=by
 intro pins s σ H Q I h
 rw [eval_ListComp]
 have hcells:Sv scope X.env=pure (fo X.env scope.names []):=uD fun y hy hk=>by
  refine I.ok.has y.1 ?_
  show X.env.scope.names.lookup y.1=some .cell\/X.env.scope.names.lookup y.1=some .free
  rw [hsc]
  exact S.free y hy hk
 refine Ru (use:=none) rfl hs hcells S.kind S.names (thn (hi pins s σ H _ I h) fun v s1 h1=>thn h1 fun itv s2 h2=>?_)
 obtain ⟨it,fp,tn,J,H2,e,I2,T,st2,f2,hq⟩:=h2
 subst e
 refine uE (Q:=Q) (RR:=fun acc C=>compPost (model X.prog X.w) X.A X.xe none (EP X pins σ Q) acc C) hc hsc hNX S hg ht he I2 T st2 f2 hq ?_
 intro p C s' H' m hp hC hn hfree q I'
 exact ⟨m,hn,fun h'' hs''=>⟨.ref p,H',I'.gone I2 hC hfree hs'',rfl,q⟩⟩
theorem oW {i:Nat} {y:Str} {py spos:Pos} (hN:X.N.Nodup) (hy:X.N[i]?=some y) (hl:X.env.scope.names.lookup y=some .local) (hc:X.calm=true) (S:qH sc scope NX N ix) (hi:PI X tg iter wi)
  (hg:∀ C s H fp,PG (cu X N scope C s H fp) tg (g C s H fp)) (ht:∀ C s H fp,PTL (cu X N scope C s H fp) ifs (tt C s H fp)) (he:∀ C s H fp,PE (cu X N scope C s H fp) elt (te C s H fp))
  (hsw:S6 (.ListComp elt [⟨tg,iter,ifs,0⟩] scope pos) (some (.Name y py)) spos.line X.env=pure true:=by rfl)
  (hsc:X.env.scope=sc:=by rfl) (hNX:X.N=NX:=by rfl) (hs:∀ x,Q6 iter X.env x=pure x:=by intro _; rfl):
  PS X (.Assign [.Name y py] (.ListComp elt [⟨tg,iter,ifs,0⟩] scope pos) spos) (aE (bZ wi g tt te ix) (am i)):=by
 intro pins s σ H D I h
 rw [exec_Assign_Name_used _ _ _ _ hsw]
 have hcells:Sv scope X.env=pure (fo X.env scope.names []):=uD fun z hz hk=>by
  refine I.ok.has z.1 ?_
  show X.env.scope.names.lookup z.1=some .cell\/X.env.scope.names.lookup z.1=some .free
  rw [hsc]
  exact S.free z hz hk
 refine Lw (SH (Lw ?_))
 show wpAny _ X.A (do let _ <-comprehension (.ListComp elt [⟨tg,iter,ifs,0⟩] scope pos) scope X.env _ (newList []) false (eval iter X.env) (some (assign (.Name y py) X.env))) _ _ s
 refine Lw (thn (Ru (use:=some (assign (.Name y py) X.env)) (Q:=fun _ s'=>SP X pins D .next s') rfl hs hcells S.kind S.names (thn (hi pins s σ H _ I h) fun v s1 h1=>thn h1 fun itv s2 h2=>?_)) fun _ s' q=>Ly (Ly q))
 obtain ⟨it,fp,tn,J,H2,e,I2,T,st2,f2,hq⟩:=h2
 subst e
 refine uE (Q:=fun x H1=>am i x σ H1 D.nx) (RR:=fun acc C=>compPost (model X.prog X.w) X.A X.xe (some (assign (.Name y py) X.env)) (fun _ s'=>SP X pins D .next s') acc C) hc hsc hNX S hg ht he I2 T st2 f2 hq ?_
 intro p C s' H' m hp hC hn hfree q I'
 refine Tr (xn (v:=.ref p) I' hN hy (.inl hl) rfl (fun s'' I'' ⟨a,hsb,ha⟩=>?_) (.inr hl))
 have ne:C≠a:=by
  rcases ha with rfl | ha
  ·exact NA (L8 I2.lt hC)
  ·obtain ⟨v,o,ho,_⟩:=I2.cell y a ha
   exact NA (L8 (LK ho) hC)
 exact ⟨m,hn.sameBut hsb ne,fun h'' hs''=>⟨_,H',I''.gone I2 hC hfree hs'',q⟩⟩
end
section
variable {g:CF TG} {tt:CF TT} {te:CF TE} {σ₀:St} {p:Addr} {Q:VK} {H:Hp}
theorem nX {J:It} {n:Nat} {Y:Nat->Hp->V->Hp->Prop} (Pv:Nat->List V->Hp->Prop) (h0:Pv 0 [] (upd H p (.lst []))) (hp:∀ i acc H,i<=n->Pv i acc H->H p=some (.lst acc)/\acc.length<=i) (hz:n<=LN)
  (hgo:∀ i acc H,i < n->Pv i acc H->J.go i H) (hst:∀ acc H,Pv n acc H->J.stop n H) (hy:∀ i acc H x H1,i < n->Pv i acc H->J.yld i H x H1->Y i H x H1)
  (hs:∀ C s' H' fp,∀ i x acc H H1,i < n->Pv i acc H->Y i H x H1->g C s' H' fp x σ₀ H1 fun σ2 H2=>tt C s' H' fp σ2 H2 fun b H3=>if b=true then te C s' H' fp σ2 H3 fun y H4=>H4 p=some (.lst acc)/\Pv (i + 1) (acc++[y]) (upd H4 p (.lst (acc++[y]))) else Pv (i + 1) acc H3)
  (hd:∀ acc H,Pv n acc H->Q (.ref p) H):
  ∃ W:Nat->Nat->List V->Hp->Prop,(∃ m,W 0 m [] (upd H p (.lst [])))/\∀ C s' H' fp,cG J (g C s' H' fp) (tt C s' H' fp) (te C s' H' fp) σ₀ p Q W:=by
 refine ⟨fun i m acc H=>m=n - i/\i<=n/\Pv i acc H,⟨n,by simp,MJ _,h0⟩,?_⟩
 rintro C s' H' fp i m acc H ⟨rfl,hi,w⟩
 obtain ⟨h1,h2⟩:=hp i acc H hi w
 refine ⟨h1,?_⟩
 by_cases hlt:i < n
 ·exact .inr ⟨hgo i acc H hlt w,by omega,Pv (i + 1),fun acc' H' q=>⟨n - (i + 1),by omega,rfl,hlt,q⟩,fun x H1 y=>hs C s' H' fp i x acc H H1 hlt w (hy i acc H x H1 hlt w y)⟩
 ·have e:i=n:=by omega
  subst e
  exact .inl ⟨hst acc H w,hd acc H w⟩
theorem xw {K:Fg} {a:Addr} {xs:List V} (Pv:Nat->List V->Hp->Prop) (h0:Pv 0 [] (upd H p (.lst []))) (hp:∀ i acc H,i<=xs.length->Pv i acc H->H p=some (.lst acc)/\acc.length<=i) (hl:∀ i acc H,i<=xs.length->Pv i acc H->SqL K H a xs) (hz:xs.length<=LN)
  (hs:∀ C s' H' fp,∀ i x acc H,xs[i]?=some x->Pv i acc H->g C s' H' fp x σ₀ H fun σ2 H2=>tt C s' H' fp σ2 H2 fun b H3=>if b=true then te C s' H' fp σ2 H3 fun y H4=>H4 p=some (.lst acc)/\Pv (i + 1) (acc++[y]) (upd H4 p (.lst (acc++[y]))) else Pv (i + 1) acc H3)
  (hd:∀ acc H,Pv xs.length acc H->Q (.ref p) H):
  ∃ W:Nat->Nat->List V->Hp->Prop,(∃ m,W 0 m [] (upd H p (.lst [])))/\∀ C s' H' fp,cG (Itl K a) (g C s' H' fp) (tt C s' H' fp) (te C s' H' fp) σ₀ p Q W:=
 nX (Y:=fun i H x H1=>H1=H/\xs[i]?=some x) Pv h0 hp hz (fun i acc H hi w=>⟨xs,xs[i],hl i acc H (ML hi) w,by simp [hi]⟩) (fun acc H w=>⟨xs,hl _ acc H (LC _) w,LC _⟩)
  (fun i acc H x H1 hi w y=>⟨y.1,y.2 xs (hl i acc H (ML hi) w)⟩) (fun C s' H' fp i x acc H H1 hi w y=>by
   obtain ⟨e,y⟩:=y
   subst e
   exact hs C s' H' fp i x acc _ y w) hd
theorem F9 {K:Fg} {a:Addr} {xs:List V} (Pv:Nat->List V->Hp->Prop) (h0:Pv 0 [] (upd H p (.lst []))) (hp:∀ i acc H,i<=xs.length->Pv i acc H->H p=some (.lst acc)/\acc.length<=i) (hl:∀ i acc H,i<=xs.length->Pv i acc H->SqT K H a xs) (hz:xs.length<=LN)
  (hs:∀ C s' H' fp,∀ i x acc H,xs[i]?=some x->Pv i acc H->g C s' H' fp x σ₀ H fun σ2 H2=>tt C s' H' fp σ2 H2 fun b H3=>if b=true then te C s' H' fp σ2 H3 fun y H4=>H4 p=some (.lst acc)/\Pv (i + 1) (acc++[y]) (upd H4 p (.lst (acc++[y]))) else Pv (i + 1) acc H3)
  (hd:∀ acc H,Pv xs.length acc H->Q (.ref p) H):
  ∃ W:Nat->Nat->List V->Hp->Prop,(∃ m,W 0 m [] (upd H p (.lst [])))/\∀ C s' H' fp,cG (Itt K a) (g C s' H' fp) (tt C s' H' fp) (te C s' H' fp) σ₀ p Q W:=
 nX (Y:=fun i H x H1=>H1=H/\xs[i]?=some x) Pv h0 hp hz (fun i acc H hi w=>⟨xs,xs[i],hl i acc H (ML hi) w,by simp [hi]⟩) (fun acc H w=>⟨xs,hl _ acc H (LC _) w,LC _⟩)
  (fun i acc H x H1 hi w y=>⟨y.1,y.2 xs (hl i acc H (ML hi) w)⟩) (fun C s' H' fp i x acc H H1 hi w y=>by
   obtain ⟨e,y⟩:=y
   subst e
   exact hs C s' H' fp i x acc _ y w) hd
theorem oX {lo:Int} {n:Nat} (Pv:Nat->List V->Hp->Prop) (h0:Pv 0 [] (upd H p (.lst []))) (hp:∀ i acc H,i<=n->Pv i acc H->H p=some (.lst acc)/\acc.length<=i) (hz:n<=LN)
  (hs:∀ C s' H' fp,∀ i acc H,i < n->Pv i acc H->g C s' H' fp (.int (lo + i)) σ₀ H fun σ2 H2=>tt C s' H' fp σ2 H2 fun b H3=>if b=true then te C s' H' fp σ2 H3 fun y H4=>H4 p=some (.lst acc)/\Pv (i + 1) (acc++[y]) (upd H4 p (.lst (acc++[y]))) else Pv (i + 1) acc H3)
  (hd:∀ acc H,Pv n acc H->Q (.ref p) H):
  ∃ W:Nat->Nat->List V->Hp->Prop,(∃ m,W 0 m [] (upd H p (.lst [])))/\∀ C s' H' fp,cG (Itr lo n) (g C s' H' fp) (tt C s' H' fp) (te C s' H' fp) σ₀ p Q W:=
 nX (Y:=fun i H x H1=>H1=H/\x=.int (lo + i)) Pv h0 hp hz (fun i acc H hi w=>hi) (fun acc H w=>LC _) (fun i acc H x H1 hi w y=>y) (fun C s' H' fp i x acc H H1 hi w y=>by
   obtain ⟨e,e2⟩:=y
   subst e e2
   exact hs C s' H' fp i acc _ hi w) hd
end
end
section
open PySem.Spec
section
variable {prog:Program} {w:World} {A:Around} {E:Value->Shared->Prop} {s:Shared}
theorem uF {jt t:Addr} {i:Nat} {its:Array Value} {y:Value} {Q:Value->Shared->Prop} (h1:s.heap.IsTupleIter jt t i) (h2:s.heap.IsTuple t its) (hy:its[i]?=some y)
  (k:∀ h',h'.IsTupleIter jt t (i + 1)->LP jt s.heap h'->Q y { s with heap:=h' }):wpAny (model prog w) A (L9 (.ref jt)) Q E s:=by
 obtain ⟨o,ho,hc,hd⟩:=id h1
 obtain ⟨ot,hot,_,nt,hdt⟩:=h2
 unfold L9
 refine Lw (Mx (name:=Nt "__next__") h1.typeIs OA (Mp OA h1.typeIs QO ?_ (QC _)))
 show wpAny _ _ (field (.ref jt) 0 >>= _) _ _ s
 refine Lw (Mt ho hd (x:=.ref t) rfl ?_)
 show wpAny _ _ (if (Mf t == MZ)=true then _ else _) _ _ s
 rw [if_neg (show ¬ ((Mf t == MZ)=true) from LM)]
 show wpAny _ _ (field (.ref jt) 1 >>= _) _ _ s
 refine Lw (Mt ho hd (x:=.int i 0) rfl ?_)
 show wpAny _ _ (seqItems? (.ref t) >>= _) _ _ s
 refine Lw (Ms hot hdt ?_)
 simp only [OC,hy]
 refine Lw (Oh ho hd (by simp) (Ly ⟨y,rfl,Ly (k _ ?_ (MD ..))⟩))
 exact ⟨_,MB _ ho (P6 (On hd _)),(Ra ..).trans hc,by rw [On hd]; simp [rawInt]⟩
theorem wq {jt t:Addr} {i:Nat} {its:Array Value} {Q:Value->Shared->Prop} (hh:A.handled=none) (h1:s.heap.IsTupleIter jt t i) (h2:s.heap.IsTuple t its) (hy:its[i]?=none)
  (k:∀ h' e,Ol jt s.heap h'->(∃ o,h'.get? e=some o/\o.cls=.type "StopIteration")->E (.ref e) { s with heap:=h' }):wpAny (model prog w) A (L9 (.ref jt)) Q E s:=by
 obtain ⟨o,ho,hc,hd⟩:=id h1
 obtain ⟨ot,hot,_,nt,hdt⟩:=h2
 unfold L9
 refine Lw (Mx (name:=Nt "__next__") h1.typeIs OA (Mp OA h1.typeIs QO ?_ (QC _)))
 show wpAny _ _ (field (.ref jt) 0 >>= _) _ _ s
 refine Lw (Mt ho hd (x:=.ref t) rfl ?_)
 show wpAny _ _ (if (Mf t == MZ)=true then _ else _) _ _ s
 rw [if_neg (show ¬ ((Mf t == MZ)=true) from LM)]
 show wpAny _ _ (field (.ref jt) 1 >>= _) _ _ s
 refine Lw (Mt ho hd (x:=.int i 0) rfl ?_)
 show wpAny _ _ (seqItems? (.ref t) >>= _) _ _ s
 refine Lw (Ms hot hdt ?_)
 simp only [OC,hy]
 refine Lw (NJ (Lw (Oh ho hd (by simp) ?_)))
 show wpAny _ _ (newExc (.type "StopIteration") [] >>= _) _ _ _
 refine Lw ?_
 simp only [newExc,T9]
 refine Lw (MF ?_ (by size_fits))
 refine Lw (m:=firstArgMember _ _) (QJ (a:=MZ) (by first | rfl | (simp only [firstArgMember]; rfl)) ?_)
 refine MF ?_ (by size_fits)
 simp only [raiseNew]
 refine Lw (SL ?_)
 first | rw [show A.in1.handled=none from hh] | rw [hh]
 refine Lw (Ly (TY ?_))
 exact k _ _ (((MD ..).extBut.push _).push _) ⟨_,LH _ rfl,rfl⟩
end
theorem Bc {prog:Program} {w:World} {A:Around} (hh:A.handled=none) (jt t:Addr) (hne:t≠jt) (its:Array Value):
  Draws prog w A jt [jt,t] its.size (fun i v=>its[i]?=some v) (fun i h=>h.IsTupleIter jt t i/\h.IsTuple t its) where
 live:=fun _ _ st=>let ⟨o,ho,_⟩:=st.1; ⟨o,ho⟩
 frame:=fun _ _ _ st hk=>⟨st.1.at fun o e=>hk jt (by simp) o e,let ⟨o,ho,r⟩:=st.2; ⟨o,hk t (by simp) o ho,r⟩⟩
 item:=fun i s Q E hi st hQ=>uF st.1 st.2 (y:=its[i]) (by simp [hi]) fun h' a b=>hQ _ h' s.toks (by simp [hi]) ⟨a,st.2.extBut b.extBut hne⟩ b
 done:=fun s Q E st hE=>wq hh st.1 st.2 (by simp) hE
theorem Inv.offBase {X:Cx} {pins:List (Addr×Obj)} {σ:St} {H:Hp} {s:Shared} {c:Addr} {o:Obj} (I:Inv X pins σ H s) (f:kK X pins H c) (e:X.base.get? c=some o):False:=by
 rcases f.2.2.2.1 with z | z
 ·exact I.ok.noex c o e z
 ·exact absurd (L8 (LK e) (Me I.ok.bsz z)) (Nz _)
set_option genInjectivity false in
structure Src where
 Sq:Fg->Hp->Addr->List V->Prop
 Is:Heap->Addr->Array Value->Prop
 It:Heap->Addr->Addr->Nat->Prop
 icls:String
 get:∀ {X:Cx} {pins:List (Addr×Obj)} {σ:St} {H:Hp} {s:Shared} {a:Addr} {xs:List V},Inv X pins σ H s->Sq X.K H a xs->∃ its:List Value,aG xs its/\Is s.heap a its.toArray/\xs.length<=LN
 inj:∀ {X:Cx} {pins:List (Addr×Obj)} {σ:St} {H:Hp} {s:Shared} {a:Addr} {xs ys:List V},Inv X pins σ H s->Sq X.K H a xs->Sq X.K H a ys->xs=ys
 off:∀ {X:Cx} {pins:List (Addr×Obj)} {σ:St} {H:Hp} {s:Shared} {a c:Addr} {xs:List V},Inv X pins σ H s->Sq X.K H a xs->kK X pins H c->c≠a
 isSeq:∀ {h:Heap} {a:Addr} {its:Array Value},Is h a its->∃ o n,h.get? a=some o/\o.data=.seq its n
 isIt:∀ {h:Heap} {jt a:Addr} {i:Nat},It h jt a i->∃ o,h.get? jt=some o/\o.cls=.type icls/\o.data=.fields #[.ref a,.int i 0]
 mkI:∀ {h:Heap} {jt a:Addr} {i:Nat} {o:Obj},h.get? jt=some o->o.cls=.type icls->o.data=.fields #[.ref a,.int i 0]->It h jt a i
 itKeep:∀ {h h':Heap} {jt a:Addr} {i:Nat},It h jt a i->(∀ o,h.get? jt=some o->h'.get? jt=some o)->It h' jt a i
 isKeep:∀ {h h':Heap} {a:Addr} {its:Array Value},Is h a its->(∀ o,h.get? a=some o->h'.get? a=some o)->Is h' a its
 draws:∀ {prog:Program} {w:World} {A:Around},A.handled=none->∀ (jt a:Addr),a≠jt->∀ its:Array Value,Draws prog w A jt [jt,a] its.size (fun i v=>its[i]?=some v) (fun i h=>It h jt a i/\Is h a its)
 iter:∀ {prog:Program} {w:World} {A:Around} {E:Value->Shared->Prop} {s:Shared} {a:Addr} {its:Array Value} {Q:Value->Shared->Prop},Is s.heap a its->
  Q (.ref s.heap.objs.size) { s with heap:=s.heap.push { cls:=.type icls,data:=.fields #[.ref a,.int 0 0] } }->wpAny (model prog w) A (pyIter (.ref a)) Q E s
noncomputable def aB:Src where
 Sq:=SqL
 Is:=fun h a its=>h.IsList a its
 It:=fun h jt a i=>h.IsListIter jt a i
 icls:="list_iterator"
 get:=fun I h=>let ⟨its,r,p,z⟩:=I.list h; ⟨its,r,p.isList,z⟩
 inj:=fun I h h'=>I.list_inj h h'
 off:=fun {X pins σ H s a c xs} I h f e=>by
  subst e
  rcases h with (h | ⟨o,h⟩) | ⟨o,its,n,hk,_⟩
  ·rw [f.1] at h; cases h
  ·rw [f.1] at h; cases h
  ·exact I.offBase f (I.ok.mod.kin _ _ hk)
 isSeq:=fun h=>let ⟨o,ho,_,n,hd⟩:=h; ⟨o,n,ho,hd⟩
 isIt:=fun h=>h
 mkI:=fun h1 h2 h3=>⟨_,h1,h2,h3⟩
 itKeep:=fun h k=>h.at k
 isKeep:=fun h k=>h.at k
 draws:=fun hh jt a hne its=>Draws.list hh jt a hne its
 iter:=fun h q=>O3 h q
noncomputable def iP:Src where
 Sq:=SqT
 Is:=fun h a its=>h.IsTuple a its
 It:=fun h jt a i=>h.IsTupleIter jt a i
 icls:="tuple_iterator"
 get:=fun I h=>let ⟨its,r,p,z⟩:=I.tuple h; ⟨its,r,p,z⟩
 inj:=fun I h h'=>I.tuple_inj h h'
 off:=fun {X pins σ H s a c xs} I h f e=>by
  subst e
  rcases h with (h | ⟨o,h⟩) | ⟨o,its,n,hk,_⟩
  ·rw [f.1] at h; cases h
  ·rw [f.1] at h; cases h
  ·exact I.offBase f (I.ok.mod.kin _ _ hk)
 isSeq:=fun h=>let ⟨o,ho,_,n,hd⟩:=h; ⟨o,n,ho,hd⟩
 isIt:=fun h=>h
 mkI:=fun h1 h2 h3=>⟨_,h1,h2,h3⟩
 itKeep:=fun h k=>h.at k
 isKeep:=fun h k=>let ⟨o,ho,r⟩:=h; ⟨o,k o ho,r⟩
 draws:=fun hh jt a hne its=>Bc hh jt a hne its
 iter:=fun h q=>S7 h q
theorem Inv.turns {X:Cx} {pins:List (Addr×Obj)} {σ:St} {H:Hp} {s:Shared} {h':Heap} {t':Nat} {ch:List Addr} {T:Addr} {o:HO} (I:Inv X pins σ H s) (hf:∀ b∈ch,kK X pins H b)
  (k:∀ b ob,b∉ch->s.heap.get? b=some ob->h'.get? b=some ob) (hT:s.heap.objs.size<=T) (new:bA X.prog X.w (upd H T o) h' T o):Inv X pins σ (upd H T o) { s with heap:=h',toks:=t' }:=by
 have hn:H T=none:=I.hok.fresh hT
 have nc:∀ b u,H b=some u->b∉ch:=fun b u e z=>by
  have:=(hf b z).1
  rw [e] at this
  cases this
 refine I.step (g':=s.gens) (d':=s.drawn) (ch:=ch) (fun b hb=>⟨(hf b hb).2.2.2.1,(hf b hb).2.1,(hf b hb).2.2.2.2.1,(hf b hb).2.2.2.2.2⟩) (fun b ob _ _ hc e _=>k b ob hc e) (fun b ob _ _ hc e _=>⟨ob.slots,k b ob hc e⟩)
  (fun b ob _ e n=>?_) (fun b ob hc e=>⟨ob,k b ob hc e⟩) (fun b xs e=>?_) (fun b ob xs e=>?_) (fun b ps e=>⟨#[],?_⟩) (fun m hm=>?_) (fun b u e=>?_) I.bare
 ·rw [aO (nH (LK e) hT)]
  exact n
 ·rw [aO (aS e hn)]
  exact e
 ·rw [aO (aS e hn)]
  exact e
 ·rw [aO (aS e hn),e]
  simp
 ·obtain ⟨ob,es,ep,ho,r⟩:=hm
  exact ⟨ob,es,ep,k _ ob (fun z=>(hf _ z).2.1 rfl) ho,r⟩
 ·by_cases hb:b=T
  ·subst hb
   rw [az] at e
   cases e
   exact new
  ·rw [aO hb] at e
   refine (I.hok b u e).stay (fun c v hc q=>k c v ?_ q) (fun c q=>by rw [aO (aS q hn)]; exact q) fun c xs q=>by rw [aO (aS q hn)]; exact q
   rcases hc with z | z
   ·rw [z]; exact nc b u e
   ·exact nc c _ z
theorem Inv.turnsN {X:Cx} {pins:List (Addr×Obj)} {σ:St} {H:Hp} {s:Shared} {h':Heap} {t':Nat} {ch:List Addr} (I:Inv X pins σ H s) (hf:∀ b∈ch,kK X pins H b)
  (k:∀ b ob,b∉ch->s.heap.get? b=some ob->h'.get? b=some ob):Inv X pins σ H { s with heap:=h',toks:=t' }:=by
 have nc:∀ b u,H b=some u->b∉ch:=fun b u e z=>by
  have:=(hf b z).1
  rw [e] at this
  cases this
 refine I.step (g':=s.gens) (d':=s.drawn) (ch:=ch) (fun b hb=>⟨(hf b hb).2.2.2.1,(hf b hb).2.1,(hf b hb).2.2.2.2.1,(hf b hb).2.2.2.2.2⟩) (fun b ob _ _ hc e _=>k b ob hc e) (fun b ob _ _ hc e _=>⟨ob.slots,k b ob hc e⟩)
  (fun b ob _ e n=>n) (fun b ob hc e=>⟨ob,k b ob hc e⟩) (fun b xs e=>e) (fun b ob xs e=>e) (fun b ps e=>⟨#[],by rw [e]; simp⟩) (fun m hm=>?_) (fun b u e=>?_) I.bare
 ·obtain ⟨ob,es,ep,ho,r⟩:=hm
  exact ⟨ob,es,ep,k _ ob (fun z=>(hf _ z).2.1 rfl) ho,r⟩
 ·refine (I.hok b u e).stay (fun c v hc q=>k c v ?_ q) (fun c q=>q) fun c xs q=>q
  rcases hc with z | z
  ·rw [z]; exact nc b u e
  ·exact nc c _ z
noncomputable def Ite (S:Src) (K:Fg) (a:Addr):It:=
 ⟨fun i H=>∃ xs x,S.Sq K H a xs/\xs[i]?=some x,fun i H x H'=>∃ T v,H T=none/\x=.ref T/\H'=upd H T (.tup [.int i,v])/\∀ xs,S.Sq K H a xs->xs[i]?=some v,fun i H=>∃ xs,S.Sq K H a xs/\xs.length=i⟩
theorem EM {P:Program} {w:World} {K:Fg} {elts:List Expr} {k0:Nat} {pos:Pos} (S:Src) (a e it:Addr) (hl:S.icls≠"enumerate"):
  oP P w K (.Tuple elts k0 pos) (Ite S K a) [e,it] e (fun i h=>(∃ old,IsEnum h e it i old)/\S.It h it a i) where
 mem:=by simp
 obj:=fun i h st b hb=>by
  obtain ⟨⟨old,he⟩,hi⟩:=st
  rcases LA.mp hb with rfl | hb
  ·exact ⟨_,he,fun v z=>nomatch z⟩
  ·obtain rfl:=LB.mp hb
   obtain ⟨o,ho,_,hd⟩:=S.isIt hi
   exact ⟨o,ho,fun v z=>by rw [hd] at z; cases z⟩
 keep:=fun i h h' st k=>by
  obtain ⟨⟨old,he⟩,hi⟩:=st
  exact ⟨⟨old,k e (by simp) _ he⟩,S.itKeep hi fun o q=>k it (by simp) o q⟩
 item:=by
  intro X hP hw hK hc i pins s σ H E I hf st hg
  subst hP hw hK
  obtain ⟨xs,x,hq,hx⟩:=hg
  obtain ⟨its,rv,p,hz⟩:=S.get I hq
  obtain ⟨⟨old,he⟩,hi⟩:=st
  obtain ⟨u,hu,ru⟩:=rv.get hx
  obtain ⟨oa,na,hoa,hda⟩:=S.isSeq p
  obtain ⟨oi,hoi,hci,hdi⟩:=S.isIt hi
  have nei:e≠it:=fun z=>by
   have he':s.heap.get? e=some _:=he
   rw [z,hoi] at he'
   cases he'
   exact hl (by simpa using hci.symm)
  have nae:e≠a:=S.off I hq (hf e (by simp))
  have nai:a≠it:=fun z=>by
   rw [z,hoi] at hoa
   cases hoa
   rw [hdi] at hda
   cases hda
  have hlt:i < its.toArray.size:=by
   have:=(LD.mp hu).1
   simpa using this
  refine wpAny_pyNext_enum_itemD (S.draws (A:=X.A.in1) (show X.A.in1.handled=none from I.ok.hd hc) it a nai its.toArray) he ⟨hi,p⟩ hlt nei (by simp [nei,nae]) fun y h1 tk hP ho hs1 hT hsz hk=>⟨_,rfl,?_⟩
  have hy:y=u:=by
   have:its.toArray[i]?=some u:=by simpa using hu
   rw [this] at hP
   exact (LR hP).symm
  subst hy
  refine wpAny_letOwnedTupleGo_enum ho fun h2 he2 hs2=>?_
  have elt:e < s.heap.objs.size:=LK he
  have hT2:h2.get? s.heap.objs.size=some { cls:=.type "tuple",data:=.seq #[.int i tk,y] }:=hs2.extBut _ _ (F8 (LC _) elt) hT
  have kept:∀ b ob,b∉[e,it]->s.heap.get? b=some ob->h2.get? b=some ob:=fun b ob hb q=>by
   have h1':b≠e:=fun z=>hb (by simp [z])
   exact hs2.extBut _ _ h1' (hk b ob h1' (fun z=>hb (by simp [z])) q)
  refine ⟨.ref s.heap.objs.size,upd H s.heap.objs.size (.tup [.int i,x]),?_,rfl,⟨_,x,I.fresh,rfl,rfl,fun ys hy=>by rw [S.inj I hy hq]; exact hx⟩,⟨⟨_,he2⟩,S.itKeep hs1.1 fun o q=>hs2.extBut _ _ (Mz nei) q⟩,fun b hb=>?_⟩
  ·refine I.turns (t':=tk + 1) hf kept (LC _) ⟨(by show 2<=LN; decide),[.int i tk,y],.cons ⟨tk,rfl⟩ (.cons ru .nil),_,hT2,rfl,⟨0,rfl⟩,rfl⟩
  ·have lt:b < s.heap.objs.size:=by
    rcases LA.mp hb with rfl | hb
    ·exact elt
    ·obtain rfl:=LB.mp hb
     exact LK hoi
   rw [aO (nH lt (LC _))]
   exact (hf b hb).1
 done:=by
  intro X hP hw hK hc i pins s σ H E I hf st hg
  subst hP hw hK
  obtain ⟨xs,hq,hx⟩:=hg
  obtain ⟨its,rv,p,hz⟩:=S.get I hq
  obtain ⟨⟨old,he⟩,hi⟩:=st
  obtain ⟨oa,na,hoa,hda⟩:=S.isSeq p
  obtain ⟨oi,hoi,hci,hdi⟩:=S.isIt hi
  have nai:a≠it:=fun z=>by
   rw [z,hoi] at hoa
   cases hoa
   rw [hdi] at hda
   cases hda
  have hsz:i=its.toArray.size:=by
   have:=rv.length
   simp only [LQ]
   omega
  subst hsz
  exact wpAny_pyNext_enum_endD (S.draws (A:=X.A.in1) (show X.A.in1.handled=none from I.ok.hd hc) it a nai its.toArray) he ⟨hi,p⟩ fun h' hx'=>⟨rfl,I.turnsN (t':=s.toks) hf fun b ob hb q=>hx' b ob (fun z=>hb (by simp [z])) q⟩
 self:=fun _ _ _ _ _ st h=>by
  obtain ⟨⟨old,he⟩,_⟩:=st
  exact Tw he h
section
variable {X:Cx} {elts:List Expr} {k0:Nat} {tpos:Pos}
theorem Ga (S:Src) (l:Addr) (its:Array Value):
  Meets (Builtin.«enumerate.__new__» ⟨[.type "enumerate",.ref l],[]⟩) (fun _ R s=>S.Is s.heap l its/\
   R (.ok (.ret (.ref (s.heap.push { cls:=.type S.icls,data:=.fields #[.ref l,.int 0 0] }).objs.size)))
    { s with heap:=(s.heap.push { cls:=.type S.icls,data:=.fields #[.ref l,.int 0 0] }).push { cls:=.type "enumerate",data:=.fields #[.none,.bool false,.ref s.heap.objs.size,rawInt 0,.none,.none] } }):=
 .of_wp fun prog w A R s h=>by
  obtain ⟨hp,g,d,tk,os⟩:=s
  obtain ⟨hl,h⟩:=h
  have hsub:=sub_enumerate
  have hL:S.Is (PP ⟨hp,g,d,tk,os⟩) l its:=hl
  wp_walk
  refine wpAny_stack_any fun st=>Ly ?_
  split
  ·rename_i c _ _ _ _ _
   cases (c == M0 "enumerate")
   ·wp_walk using S.iter hL
    exact ⟨_,rfl,h⟩
   ·wp_walk using S.iter hL
    exact ⟨_,rfl,h⟩
  ·wp_walk using S.iter hL
   exact ⟨_,rfl,h⟩
theorem EN (S:Src) {prog:Program} {w:World} {A:Around} {E:Value->Shared->Prop} {s:Shared} {l:Addr} {its:Array Value} {Q:Value->Shared->Prop} (hL:S.Is s.heap l its)
  (h:∀ h',IsEnum h' (s.heap.objs.size + 1) s.heap.objs.size 0 .none->S.It h' s.heap.objs.size l 0->(∀ b o,s.heap.get? b=some o->h'.get? b=some o)->Q (.ref (s.heap.objs.size + 1)) { s with heap:=h' }):
  wpAny (model prog w) A (call (.type "enumerate") [.ref l]) Q E s:=by
 refine Rv F.called_enumerate (by decide) (F.typeCall_enumerate_1 _) (F.newCall_enumerate_1 _) (fun obj=>Sx obj _) F.entry_enumerate_new (Ga S l its) ⟨hL,?_⟩
 have hz:(s.heap.push { cls:=.type S.icls,data:=.fields #[.ref l,.int 0 0] }).objs.size=s.heap.objs.size + 1:=Mo ..
 show _/\_
 rw [hz]
 have he:=LH (s.heap.push { cls:=.type S.icls,data:=.fields #[.ref l,.int 0 0] }) (o:={ cls:=.type "enumerate",data:=.fields #[.none,.bool false,.ref s.heap.objs.size,rawInt 0,.none,.none] }) rfl
 rw [hz] at he
 exact ⟨⟨_,he,rfl⟩,h _ he (S.mkI (Lx _ (LH _ rfl)) rfl rfl) fun b o q=>Lx _ (Lx _ q)⟩
noncomputable def rP (S:Src) (K:Fg) (ta:TA):TI:=fun σ H R=>ta σ H fun vs H1=>∃ a xs,vs=[.ref a]/\S.Sq K H1 a xs/\R (Ite S K a) H1
theorem rQ (S:Src) {a:Expr} {ta:TA} {p pos:Pos} (hg:Gl X "enumerate") (hm:X.mg "enumerate"=none) (hS:S.icls≠"enumerate") (ha:PA X [a] ta) (hs:L5 [a] X.env=[(false,eval a X.env)]:=by rfl):
  PI X (.Tuple elts k0 tpos) (.Call (.Name "enumerate" p) [a] [] pos) (rP S X.K ta):=by
 intro pins s σ H R I h
 refine Call_ (fR I hg hm boot_enumerate (MI (thn (ha pos pins s σ H _ I h) fun us s1 ⟨vs,H1,I1,r1,q1⟩=>?_) hs rfl))
 obtain ⟨l,xs,e,hq,q⟩:=q1
 subst e
 obtain ⟨u,rfl,ru⟩:=r1.one
 cases ru
 obtain ⟨its,rv,p',hz⟩:=S.get I1 hq
 refine EN S p' fun h' he hi kp=>Tw he ?_
 have I2:Inv X pins σ H1 { s1 with heap:=h' }:=I1.kept (t':=s1.toks) kp
 refine ⟨s1.heap.objs.size + 1,[s1.heap.objs.size + 1,s1.heap.objs.size],_,_,H1,rfl,I2,EM S l _ _ hS,⟨⟨_,he⟩,hi⟩,fun b hb=>?_,q⟩
 have hb':s1.heap.objs.size<=b:=by
  rcases LA.mp hb with rfl | hb
  ·exact OK _
  ·obtain rfl:=LB.mp hb
   exact LC _
 exact I1.fpOk hb' (I1.hok.fresh hb')
end
end
section
open PySem.Spec
section
variable {X:Cx}
noncomputable def lO (K:Fg):List V->Hp->VK->Prop:=fun xs H Q=>∃ x T t b,xs=[x,.ty T]/\fL K H x t/\MG K t (.type T)=some b/\Q (.bl b) H
theorem fN:cZ X (.builtin "isinstance") (lO X.K):=by
 intro pins s σ H xs us Q I r h
 obtain ⟨x,T,t,b,rfl,ty,e,q⟩:=h
 obtain ⟨u,v,rfl,ru,rv⟩:=r.two
 cases (show v=M0 T from rv)
 exact EA I ru ty e fun tk=>⟨.bl b,H,I.tok tk,rfl,q⟩
theorem Bd (K:Fg):MG K (.type "int") (.type "int")=some true:=by unfold MG; rw [if_pos (beq_self_eq_true _)]
theorem zA (K:Fg):MG K (.type "int") (.type "bool")=some false:=by show (if (M0 "int" == M0 "bool")=true then some true else if RN "bool"=true then (R9 "int").map (·.contains (.type "bool")) else none)=some false; decide +kernel
theorem j0 (K:Fg):MG K (.type "tuple") (.type "tuple")=some true:=by unfold MG; rw [if_pos (beq_self_eq_true _)]
theorem sN (K:Fg):MG K (.type "list") (.type "list")=some true:=by unfold MG; rw [if_pos (beq_self_eq_true _)]
theorem Ix:∀ (bs:List Bool),(LO bs.length).all (fun i=>bs.getD i false)=bs.all id:=by
 intro bs
 induction bs with
 | nil=>rfl
 | cons b r ih=>
  rw [Mh,R3,Pf,Qk,Pf]
  show (b && _)=(b && _)
  rw [<-ih]
  rfl
theorem Iy {bs:List Bool} {us:List Value} (r:aG (bs.map V.bl) us):us=bs.map MO:=by
 induction bs generalizing us with
 | nil=>cases r; rfl
 | cons b t ih=>
  cases r with
  | cons q r'=>
   rw [LZ,<-ih r',show _=MO b from q]
theorem Inv.walked {pins:List (Addr×Obj)} {σ:St} {H:Hp} {s:Shared} {h':Heap} {tk:Nat} {o:Obj} (I:Inv X pins σ H s) (hk:∀ b ob,b∉[s.heap.objs.size]->(s.heap.push o).get? b=some ob->h'.get? b=some ob):Inv X pins σ H { s with heap:=h',toks:=tk }:=
 I.kept fun b ob e=>hk b ob (fun z=>absurd (LB.mp z) (Ml (LK e))) (Lx _ e)
theorem mO (hc:X.calm=true):cZ X (.builtin "all") (fun xs H Q=>∃ (p:Addr) (bs:List Bool),xs=[.ref p]/\SqL X.K H p (bs.map V.bl)/\Q (.bl (bs.all id)) H):=by
 intro pins s σ H xs us Q I r h
 obtain ⟨p,bs,rfl,hq,q⟩:=h
 obtain ⟨u,rfl,rx⟩:=r.one
 cases rx
 obtain ⟨its,rv,pl,hz⟩:=I.list hq
 have e:=Iy rv
 subst e
 refine call_all_walk (O3 pl.isList ⟨s.heap.objs.size,_,_,_,_,_,fun i=>bs.getD i false,rfl,Ux (show X.A.in1.handled=none from I.ok.hd hc) _ p (by obtain ⟨o,ho,_⟩:=pl.isList; exact Ml (LK ho)) (bs.map MO).toArray,
  ⟨⟨_,LH _ rfl,rfl,rfl⟩,pl.isList.push _⟩,?_,fun h' tk hk=>?_⟩)
 ·intro i v s' Q' E' hP hQ
  have hP':(bs.map MO)[i]?=some v:=by simpa using hP
  rw [LS] at hP'
  cases e:bs[i]? with
  | none=>rw [e] at hP'; cases hP'
  | some b=>
   rw [e] at hP'
   cases hP'
   have:bs.getD i false=b:=by rw [LV,e]; rfl
   have hQ':Q' (bs.getD i false) s':=hQ
   rw [this] at hQ'
   exact NY hQ'
 ·refine ⟨.bl (bs.all id),H,I.walked hk,?_,q⟩
  show MO _=MO _
  rw [<-Ix]
  simp
theorem Be (ns:List Int):∀ k,k<=ns.length->preSum (fun i=>ns.getD i 0) k=(ns.take k).sum:=by
 intro k
 induction k with
 | zero=>intro _; simp [preSum]
 | succ k ih=>
  intro hk
  have hlt:k < ns.length:=hk
  rw [preSum,ih (ML hlt),Nr,Ni,Lz hlt,LV,Lz hlt]
  simp
theorem kt (hc:X.calm=true):cZ X (.builtin "sum") (fun xs H Q=>∃ (p:Addr) (ns:List Int),xs=[.ref p]/\SqL X.K H p (ns.map V.int)/\Q (.int ns.sum) H):=by
 intro pins s σ H xs us Q I r h
 obtain ⟨p,ns,rfl,hq,q⟩:=h
 obtain ⟨u,rfl,rx⟩:=r.one
 cases rx
 obtain ⟨its,rv,pl,hz⟩:=I.list hq
 have hlen:ns.length=its.length:=by have:=rv.length; simpa using this
 have ia:=oS rv
 refine call_sum_walkG (O3 pl.isList ⟨s.heap.objs.size,_,_,_,_,_,fun i=>ns.getD i 0,rfl,Ux (show X.A.in1.handled=none from I.ok.hd hc) _ p (by obtain ⟨o,ho,_⟩:=pl.isList; exact Ml (LK ho)) its.toArray,
  ⟨⟨_,LH _ rfl,rfl,rfl⟩,pl.isList.push _⟩,fun b hb=>?_,?_,fun h' tk t' hk=>?_⟩)
 ·have hp:p < s.heap.objs.size:=by
   obtain ⟨o,ho,_⟩:=pl.isList
   exact LK ho
  show b < (s.heap.push _).objs.size
  rw [Mo]
  rcases LA.mp hb with rfl | hb
  ·exact Nm _
  ·obtain rfl:=LB.mp hb
   exact Na hp
 ·intro i v hP
  have hP':its[i]?=some v:=by simpa using hP
  have hlt:i < ns.length:=by
   have:=(LD.mp hP').1
   omega
  obtain ⟨u',hu',ru'⟩:=rv.get (x:=.int ns[i]) (i:=i) (by rw [LS,Lz hlt] <;> rfl)
  rw [hP'] at hu'
  cases hu'
  obtain ⟨t,e⟩:=(show ∃ t,v=OJ ns[i] t from ru')
  refine ⟨t,?_⟩
  show v=OJ (ns.getD i 0) t
  rw [e,LV,Lz hlt]
  rfl
 ·refine ⟨.int ns.sum,H,I.walked hk,⟨t',?_⟩,q⟩
  rw [show its.toArray.size=ns.length by simp; omega,Be ns _ (LC _),Mw]
noncomputable def EqE (x y:V) (b:Bool):Prop:=(gM x=true/\gM y=true/\b=eqV x y)\/(∃ a,x=.ref a/\y=.ref a/\b=true)
theorem EqE.at {A:Around} {s:Shared} {x y:V} {b:Bool} {u v:Value} (h:EqE x y b) (ru:aH x u) (rv:aH y v):Mj A s u v b:=by
 rcases h with ⟨f1,f2,rfl⟩ | ⟨a,rfl,rfl,rfl⟩
 ·exact ED ru rv f1 f2
 ·cases ru
  cases rv
  exact RM _
noncomputable def Gb (xs ys:List V) (e:Nat->Bool):Prop:=∀ j x y,xs[j]?=some x->ys[j]?=some y->EqE x y (e j)
theorem wt {A:Around} {s:Shared} {xs ys:List V} {e:Nat->Bool} {us vs:List Value} (h:Gb xs ys e) (ru:aG xs us) (rv:aG ys vs):
  ∀ j (h1:j < us.toArray.size) (h2:j < vs.toArray.size),Mj A s us.toArray[j] vs.toArray[j] (e j):=by
 intro j h1 h2
 have h1':j < xs.length:=by rw [ru.length]; simpa using h1
 have h2':j < ys.length:=by rw [rv.length]; simpa using h2
 obtain ⟨u,eu,r1⟩:=ru.get (Lz h1')
 obtain ⟨v,ev,r2⟩:=rv.get (Lz h2')
 have q:=(h j _ _ (Lz h1') (Lz h2')).at (A:=A) (s:=s) r1 r2
 have e1:us.toArray[j]=u:=by
  have:=(LD.mp eu).2
  simpa using this
 have e2:vs.toArray[j]=v:=by
  have:=(LD.mp ev).2
  simpa using this
 rw [e1,e2]
 exact q
noncomputable def iw (xs ys:List V) (e:Nat->Bool):Bool:=(LO (min xs.length ys.length)).all e && xs.length == ys.length
noncomputable def oY (Sq:Hp->Addr->List V->Prop) (neg:Bool):R2:=fun x y H Q=>∃ a b xs ys e,x=.ref a/\y=.ref b/\Sq H a xs/\Sq H b ys/\Gb xs ys e/\Q (.bl (if neg then !iw xs ys e else iw xs ys e)) H
theorem JU (hu:X.A.units < cLine):OpR X (N5 .Eq) (oY (SqT X.K) false):=by
 intro pins s σ H x y v u Q I r1 r2 h
 obtain ⟨a,b,xs,ys,e,rfl,rfl,ha,hb,he,q⟩:=h
 cases r1
 cases r2
 obtain ⟨us,ru,pu,_⟩:=I.tuple ha
 obtain ⟨vs,rv,pv,_⟩:=I.tuple hb
 refine SeqAt.eq_tupleAt (e:=e) pu pv hu (wt he ru rv) ⟨.bl (iw xs ys e),H,I,?_,q⟩
 show MO _=MO _
 unfold iw
 rw [LQ,LQ,ru.length,rv.length]
theorem JV (hu:X.A.units < cLine):OpR X (N5 .NotEq) (oY (SqT X.K) true):=by
 intro pins s σ H x y v u Q I r1 r2 h
 obtain ⟨a,b,xs,ys,e,rfl,rfl,ha,hb,he,q⟩:=h
 cases r1
 cases r2
 obtain ⟨us,ru,pu,_⟩:=I.tuple ha
 obtain ⟨vs,rv,pv,_⟩:=I.tuple hb
 refine Th.tuples (e:=e) pu pv hu (wt he ru rv) _ _ _ _ ⟨.bl (!iw xs ys e),H,I,?_,q⟩
 show MO _=MO _
 unfold iw
 rw [LQ,LQ,ru.length,rv.length]
theorem JW (hu:X.A.units < cLine):OpR X (N5 .NotEq) (oY (SqL X.K) true):=by
 intro pins s σ H x y v u Q I r1 r2 h
 obtain ⟨a,b,xs,ys,e,rfl,rfl,ha,hb,he,q⟩:=h
 cases r1
 cases r2
 obtain ⟨us,ru,pu,_⟩:=I.list ha
 obtain ⟨vs,rv,pv,_⟩:=I.list hb
 have h1:=ru.length
 have h2:=rv.length
 by_cases hl:xs.length=ys.length
 ·refine Th.lists (e:=e) pu.isList pv.isList (by simp only [LQ]; omega) hu (wt he ru rv) _ _ _ _ ⟨.bl (!iw xs ys e),H,I,?_,q⟩
  show MO _=MO _
  unfold iw
  rw [LQ,<-h1,hl,Oo,beq_self_eq_true,Bool.and_true]
 ·refine Th.lists_lengths pu.isList pv.isList (by simp only [LQ,bne_iff_ne]; omega) hu _ _ _ _ ⟨.bl (!iw xs ys e),H,I,?_,q⟩
  show MO _=MO _
  unfold iw
  rw [beq_eq_false_iff_ne.mpr hl,QB]
  rfl
end
theorem xy (ns ms:List Int):Gb (ns.map V.int) (ms.map V.int) (fun j=>decide (ns[j]?=ms[j]?)):=by
 intro j x y hx hy
 rw [LS] at hx hy
 cases e1:ns[j]? with
 | none=>rw [e1] at hx; cases hx
 | some n=>
  cases e2:ms[j]? with
  | none=>rw [e2] at hy; cases hy
  | some m=>
   rw [e1] at hx
   rw [e2] at hy
   cases hx
   cases hy
   refine .inl ⟨rfl,rfl,?_⟩
   show decide (ns[j]?=ms[j]?)=(n == m)
   rw [e1,e2]
   by_cases h:n=m
   ·subst h; simp
   ·simp [h]
theorem uG (ns ms:List Int):iw (ns.map V.int) (ms.map V.int) (fun j=>decide (ns[j]?=ms[j]?))=decide (ns=ms):=by
 unfold iw
 rw [LF,LF]
 by_cases h:ns=ms
 ·subst h
  simp
 ·rw [decide_eq_false h]
  by_cases hl:ns.length=ms.length
  ·rw [Bool.and_eq_false_iff]
   left
   rw [<-Bool.not_eq_true,Ua]
   intro q
   apply h
   apply Od
   intro j
   by_cases hj:j < ns.length
   ·have:=q j (by rw [Nf]; omega)
    exact of_decide_eq_true this
   ·rw [Mn (by omega),Mn (by omega)]
  ·rw [beq_eq_false_iff_ne.mpr hl,QB]
end
section
open PySem.Spec
noncomputable def FnB (P:Program) (w:World) (K:Fg) (mg:Str->Option Value) (base:Heap) (k:Nat) (x:Str) (ps:List Str) (sp:Sp):Prop:=
 ∃ f fd,ie P w K mg base CX0 k f fd ps sp/\mg x=some (.ref f)/\O4 K (.ref f)=true/\fM K fd ps []
theorem ai {X:Cx} {k:Nat} {x:Str} {ps:List Str} {sp:Sp} {p pos:Pos} {e:Expr} {es:List Expr} {t:TA} (F:FnB X.prog X.w X.K X.mg X.base k x ps sp) (hr:bV k X.A) (ha:PA X (e :: es) t) (hg:Gl X x:=by rfl)
  (hdb:(x == ("__debug__":Str))=false:=by decide) (he:L5 (e :: es) X.env=(false,eval e X.env) :: L5 es X.env:=by rfl) (hpl:(backTo pos (L5 es X.env)).any (·.1)=false:=by rfl):
  PE X (.Call (.Name x p) (e :: es) [] pos) (au sp [] E0 t):=by
 obtain ⟨f,fd,ok,m,kp,b⟩:=F
 exact Im ok hr hg m kp b .nil y7 ha hdb he hpl
structure Def (K:Fg) (mg:Str->Option Value) (x:Str) (st:Stmt) (ps:List Str) (f:Addr) (fd:LX):Prop where
 fn:Fun K x x st f fd
 m:mg x=some (.ref f)
 b:fM K fd ps []
theorem Def.ok {P:Program} {w:World} {K:Fg} {mg:Str->Option Value} {base:Heap} {x:Str} {st:Stmt} {N ps:List Str} {f:Addr} {fd:LX} {k:Nat} {sp:Sp} (D:Def K mg x st ps f fd) (S:aA N ps (ac st)) (len:∀ vs H Q E,sp vs H Q E->vs.length=ps.length)
  (hbody:∀ (cdv:Value) (A:Around) (outer:List Env) (s:Shared) (H:Hp) (vs:List V) (Q:VK) (E:XK),bV k (A.deeper (envOfC x (ac st) s.heap.objs.size f cdv))->sp vs H Q E->
   ∃ t,PSs (oQ CX0 P w K mg base N x (ac st) f cdv A outer s H E).nox (fm st) t/\t { nx:=fun _ H'=>Q .non H',rt:=Q } (start N vs) H):FnB P w K mg base (k + 1) x ps sp:=
 ⟨f,fd,D.fn.ok S len hbody,D.m,D.fn.kp,D.b⟩
theorem fq {X:Cx}:OpR X (Oy .Mult) (rI Oz fun i j=>.int (i * j)):=opI fun _ _ _ _ _ _ _ hc q=>mul_int q hc
theorem uH:∀ (ns:List Int),∀ n∈ns,ME n<=RE (ns.map PF)
 | [],n,h=>(nomatch h)
 | m :: r,n,h=>by
  rw [LZ,RE]
  have e:Pa (.int m)=ME m:=by
   rw [Pa]
   rfl
  rw [e]
  rcases LA.mp h with rfl | h
  ·omega
  ·have:=uH r n h
   omega
theorem Bf {ns:List Int} (h:Rw [QP (ns.map PF)]=true):∀ n∈ns,ME n<=1048576:=by
 intro n hn
 have h1:Sa (QP (ns.map PF))=true:=by
  unfold Rw at h
  rw [Pf,M7] at h
  exact h.1
 unfold Sa at h1
 rw [M7] at h1
 have h2:Pa (QP (ns.map PF))<=2 ^ 20:=of_decide_eq_true h1.2
 rw [Pa] at h2
 have h3:=uH ns n hn
 have e:(2:Nat) ^ 20=1048576:=by decide
 omega
noncomputable def eV (K:Fg) (H:Hp) (a:Addr) (ns:List Int):Prop:=SqL K H a (ns.map V.int)/\ns.length<=63/\∀ n∈ns,ME n<=1048576
noncomputable def uI (K:Fg):Sp:=fun vs H Q _=>∃ (a:Addr) (ns:List Int),vs=[.ref a]/\eV K H a ns/\∀ H',Q (.bl true) H'
theorem Gc {l:PySem.W.OpenLaw} {k:Nat} {q:Program} {loose:List Str} {XP:(Str->Option Value)->Heap->Prop} {YP:World->Heap->Prop} {d:DefRec} {K:Params->Fg} {x:Str}
  (hn:l.most=some 63) (hdf:d.params.defaults=[]) (hr:bV k callerA) (hY:∀ (w:World) (h:Heap),YP w h->(K w.params).In h)
  (F:∀ (w:World) (mg:Str->Option Value) (fa:Addr) (h:Heap),(K w.params).In h->h.Ns Mi mg->mg d.name=some (.ref fa)->
   ∃ fd:LX,(∀ (s:Shared) (u:Value),BindsTo s fd ⟨[u],[]⟩ [(x,u)])/\
    ∀ base:Heap,(K w.params).In base->base.Ns Mi mg->ie l.prog w (K w.params) mg base CX0 k fa fd [x] (uI (K w.params))):
  PySem.W.WalkO q loose XP YP l.row.toRowW d [] (fun f vs=>PySem.call f vs):=by
 intro w s₀ s₁ mg mb G Y fa o pm cd doc dV kV ho hd hcd hD hmg hg args vals as hpre hlay hrd hwl hlo
 obtain rfl:dV=.none:=PySem.W.Dflts.none hD hdf
 obtain rfl:kV=.none:=PySem.W.Dflts.noKw hD
 obtain ⟨a,vs,ns,rfl,rfl,hobj,hints,hlen⟩:=Att.EH hn hpre hwl
 have hbits:=Bf hlay
 have KX:=hY w _ Y
 obtain ⟨fd,hb,hF⟩:=F w mg fa _ KX G.T.g hmg
 have c:=F7 KX G.T.g G.T.b G.T.builtins G.T.nolimit hg hobj hints (Me hlen (by decide)) hr hF hb (fun H hO hS=>⟨a,ns,rfl,⟨hS,hlen,hbits⟩,fun _=>rfl⟩) fun H e s' z=>z
 refine PySem.W.enter_call (OO c fun r s' hq=>?_)
 obtain ⟨rfl,h2,h3,h4⟩:=hq
 exact ⟨.inl ⟨.bool true,.bool true,[],rfl,fun _=>rfl,.bool true,Att.EI l _,fun _=>⟨List.Pairwise.nil,fun _ hm=>(nomatch hm)⟩⟩,h2,h3,h4⟩
theorem zB {J:It} {n:Nat} {g:TG} {tb:TS} {D:jL} {σ:St} {H:Hp} {Y:Nat->Hp->V->Hp->Prop} (Pv:Nat->St->Hp->Prop) (h0:Pv 0 σ H) (hgo:∀ i σ H,i < n->Pv i σ H->J.go i H) (hst:∀ σ H,Pv n σ H->J.stop n H)
  (hy:∀ i σ H x H1,i < n->Pv i σ H->J.yld i H x H1->Y i H x H1) (hs:∀ i x σ H H1,i < n->Pv i σ H->Y i H x H1->g x σ H1 fun σ2 H2=>tb { D with nx:=Pv (i + 1),ct:=Pv (i + 1),bk:=D.nx } σ2 H2) (hd:∀ σ H,Pv n σ H->D.nx σ H):
  ∃ W:Nat->Nat->St->Hp->Prop,(∃ m,W 0 m σ H)/\∀ i m σ H,W i m σ H->
   (J.stop i H/\D.nx σ H)\/(J.go i H/\∃ N:St->Hp->Prop,(∀ σ' H',N σ' H'->∃ m',m' < m/\W (i + 1) m' σ' H')/\∀ x H',J.yld i H x H'->g x σ H' fun σ2 H2=>tb { D with nx:=N,ct:=N,bk:=D.nx } σ2 H2):=by
 refine ⟨fun i m σ H=>m=n - i/\i<=n/\Pv i σ H,⟨n,by simp,MJ _,h0⟩,?_⟩
 rintro i m σ H ⟨rfl,hi,p⟩
 by_cases hlt:i < n
 ·exact .inr ⟨hgo i σ H hlt p,Pv (i + 1),fun σ' H' p'=>⟨n - (i + 1),by omega,rfl,hlt,p'⟩,fun x H' y=>hs i x σ H H' hlt p (hy i σ H x H' hlt p y)⟩
 ·have e:i=n:=by omega
  subst e
  exact .inl ⟨hst σ H p,hd σ H p⟩
theorem zC {S:Src} {K:Fg} {a:Addr} {xs:List V} {g:TG} {tb:TS} {D:jL} {σ:St} {H:Hp} (Pv:Nat->St->Hp->Prop) (h0:Pv 0 σ H) (hl:∀ i σ H,i<=xs.length->Pv i σ H->S.Sq K H a xs)
  (hs:∀ i x T σ H,xs[i]?=some x->Pv i σ H->H T=none->g (.ref T) σ (upd H T (.tup [.int i,x])) fun σ2 H2=>tb { D with nx:=Pv (i + 1),ct:=Pv (i + 1),bk:=D.nx } σ2 H2) (hd:∀ σ H,Pv xs.length σ H->D.nx σ H):
  ∃ W:Nat->Nat->St->Hp->Prop,(∃ m,W 0 m σ H)/\∀ i m σ H,W i m σ H->
   ((Ite S K a).stop i H/\D.nx σ H)\/((Ite S K a).go i H/\∃ N:St->Hp->Prop,(∀ σ' H',N σ' H'->∃ m',m' < m/\W (i + 1) m' σ' H')/\∀ x H',(Ite S K a).yld i H x H'->g x σ H' fun σ2 H2=>tb { D with nx:=N,ct:=N,bk:=D.nx } σ2 H2):=
 zB (J:=Ite S K a) (n:=xs.length) (Y:=fun i H x H1=>∃ T v,H T=none/\x=.ref T/\H1=upd H T (.tup [.int i,v])/\xs[i]?=some v) Pv h0 (fun i σ H hi w=>⟨xs,xs[i],hl i σ H (ML hi) w,by simp [hi]⟩) (fun σ H w=>⟨xs,hl _ σ H (LC _) w,rfl⟩)
  (fun i σ H x H1 hi w y=>by
   obtain ⟨T,v,e1,e2,e3,e4⟩:=y
   exact ⟨T,v,e1,e2,e3,e4 xs (hl i σ H (ML hi) w)⟩) (fun i x σ H H1 hi w y=>by
   obtain ⟨T,v,e1,rfl,rfl,e4⟩:=y
   exact hs i v T σ H e4 w e1) hd
theorem EO {S:Src} {K:Fg} {a:Addr} {xs:List V} {g:CF TG} {tt:CF TT} {te:CF TE} {σ₀:St} {p:Addr} {Q:VK} {H:Hp} (Pv:Nat->List V->Hp->Prop) (h0:Pv 0 [] (upd H p (.lst []))) (hp:∀ i acc H,i<=xs.length->Pv i acc H->H p=some (.lst acc)/\acc.length<=i) (hl:∀ i acc H,i<=xs.length->Pv i acc H->S.Sq K H a xs) (hz:xs.length<=LN)
  (hs:∀ C s' H' fp,∀ i x T acc H,xs[i]?=some x->Pv i acc H->H T=none->g C s' H' fp (.ref T) σ₀ (upd H T (.tup [.int i,x])) fun σ2 H2=>tt C s' H' fp σ2 H2 fun b H3=>if b=true then te C s' H' fp σ2 H3 fun y H4=>H4 p=some (.lst acc)/\Pv (i + 1) (acc++[y]) (upd H4 p (.lst (acc++[y]))) else Pv (i + 1) acc H3)
  (hd:∀ acc H,Pv xs.length acc H->Q (.ref p) H):
  ∃ W:Nat->Nat->List V->Hp->Prop,(∃ m,W 0 m [] (upd H p (.lst [])))/\∀ C s' H' fp,cG (Ite S K a) (g C s' H' fp) (tt C s' H' fp) (te C s' H' fp) σ₀ p Q W:=
 nX (Y:=fun i H x H1=>∃ T v,H T=none/\x=.ref T/\H1=upd H T (.tup [.int i,v])/\xs[i]?=some v) Pv h0 hp hz (fun i acc H hi w=>⟨xs,xs[i],hl i acc H (ML hi) w,by simp [hi]⟩) (fun acc H w=>⟨xs,hl _ acc H (LC _) w,rfl⟩)
  (fun i acc H x H1 hi w y=>by
   obtain ⟨T,v,e1,e2,e3,e4⟩:=y
   exact ⟨T,v,e1,e2,e3,e4 xs (hl i acc H (ML hi) w)⟩) (fun C s' H' fp i x acc H H1 hi w y=>by
   obtain ⟨T,v,e1,rfl,rfl,e4⟩:=y
   exact hs C s' H' fp i v T acc H e4 w e1) hd
theorem aZ {H:Hp} {p:Addr} (h:H p=none) (o:HO):ap H (upd H p o):=fun b u q=>by rw [aO (aS q h)]; exact q
theorem ap.upd {H H':Hp} {p:Addr} (s:ap H H') (h:H p=none) (o:HO):ap H (upd H' p o):=fun b u q=>by rw [aO (aS q h)]; exact s b u q
theorem ap.tup {K:Fg} {H H':Hp} {a:Addr} {xs:List V} (e:ap H H') (h:SqT K H a xs):SqT K H' a xs:=by
 rcases h with (h | ⟨o,h⟩) | h
 ·exact .inl (.inl (e _ _ h))
 ·exact .inl (.inr ⟨o,e _ _ h⟩)
 ·exact .inr h
theorem small {n:Nat} (h:n<=1000):n<=LN:=ML (EK h)
theorem zD {ns:List Int} {k:Int} (h0:0<=k) (h1:k < (ns.length:Int)):atI (ns.map V.int) k=some (.int (ns.getD k.toNat 0)):=by
 have hk:k.toNat < ns.length:=by omega
 have e:k=((k.toNat:Nat):Int):=by omega
 have q:atI (ns.map V.int) ((k.toNat:Nat):Int)=some (.int (ns.getD k.toNat 0)):=fk (by rw [LS,Lz hk,LV,Lz hk] <;> rfl)
 rw [<-e] at q
 exact q
theorem jb {c:Bool} {A B:Prop} (h1:c=true->A) (h2:c=false->B):if c=true then A else B:=by
 cases c with
 | true=>rw [if_pos rfl]; exact h1 rfl
 | false=>rw [if_neg LM]; exact h2 rfl
noncomputable def aU (ns:List Int) (k:Int):Int:=
 if k < (ns.length:Int) then ns.getD k.toNat 0 else
  let n0:=if 0 < (ns.length:Int) then ns.getD ((k * 7) % (ns.length:Int)).toNat 0 * 48271 + k * 7919 else k * 7919 + 5
  let n1:=n0 * n0 % 2147483629
  (n1 + k) * (n1 + 69621) % 2147483587
noncomputable def JX (K:Fg):Sp:=fun vs H Q _=>∃ (a:Addr) (ns:List Int) (k:Int),vs=[.ref a,.int k]/\eV K H a ns/\0<=k/\k<=1000000/\Q (.int (aU ns k)) H
theorem eV.same {K:Fg} {H H':Hp} {a:Addr} {ns:List Int} (h:eV K H a ns) (s:ap H H'):eV K H' a ns:=⟨s.seq h.1,h.2⟩
structure Blt (mg:Str->Option Value):Prop where
 len:mg "len"=none
 range:mg "range"=none
 tuple:mg "tuple"=none
 list:mg "list"=none
 int:mg "int"=none
 bool:mg "bool"=none
 str:mg "str"=none
 dict:mg "dict"=none
 sum:mg "sum"=none
 all:mg "all"=none
 min:mg "min"=none
 max:mg "max"=none
 sorted:mg "sorted"=none
 enumerate:mg "enumerate"=none
 zip:mg "zip"=none
 isinstance:mg "isinstance"=none
theorem EQ {ns:List Int} (h:∀ n∈ns,ME n<=1048576) (i:Nat):ME (ns.getD i 0)<=1048576:=by
 rw [LV]
 cases e:ns[i]? with
 | none=>show ME 0<=_; decide
 | some n=>exact h n (LU e)
end
section
open PySem.Spec
structure jc (z TI TO j1 j2:Addr) (fp1 fp2:List Addr):Prop where
 a1:TI≠z
 a2:TO≠z
 a3:j1≠z
 a4:j2≠z
 a5:TI≠TO
 a6:TI≠j1
 a7:TI≠j2
 a8:TO≠j1
 a9:TO≠j2
 b0:j1≠j2
 b1:z∉fp1
 b2:TO∉fp1
 b3:j2∉fp1
 b4:z∉fp2
 b5:TO∉fp2
 b6:j1∉fp2
section
variable {prog:Program} {w:World} {A:Around} {E:Value->Shared->Prop} {s:Shared}
theorem _root_.PySem.Draws.but {it:Addr} {fp:List Addr} {n i:Nat} {P:Nat->Value->Prop} {St:Nat->Heap->Prop} {h h':Heap} {c:Addr} (D:Draws prog w A it fp n P St) (hst:St i h) (hs:LP c h h') (hc:c∉fp):St i h':=
 D.frame i _ _ hst fun b hb o e=>hs.extBut b o (fun z=>hc (by rw [<-z]; exact hb)) e
theorem xz {z TI TO j1 j2:Addr} {fp1 fp2:List Addr} {n1 n2 k:Nat} {P1 P2:Nat->Value->Prop} {S1 S2:Nat->Heap->Prop} {a b:Value} {Q:Value->Shared->Prop} (Z:jc z TI TO j1 j2 fp1 fp2)
  (D1:Draws prog w A j1 fp1 n1 P1 S1) (D2:Draws prog w A j2 fp2 n2 P2 S2) (hz:IsZip s.heap z TI TO .none) (hTI:IsPair s.heap TI (.ref j1) (.ref j2)) (hTO:IsPair s.heap TO a b) (h1:S1 k s.heap) (h2:S2 k s.heap) (l1:k < n1) (l2:k < n2)
  (hQ:∀ x y h' tk,P1 k x->P2 k y->IsZip h' z TI TO (rawInt s.heap.objs.size)->(∃ a b,IsPair h' TO a b)->S1 (k + 1) h'->S2 (k + 1) h'->IsPair h' s.heap.objs.size x y->
   (∀ c o,c∉[z,TI,TO,j1,j2]->s.heap.get? c=some o->h'.get? c=some o)->IsPair h' TI (.ref j1) (.ref j2)->Q (.ref s.heap.objs.size) { s with heap:=h',toks:=tk }):
  wpAny (model prog w) A (Builtin.«zip.__next__» ⟨[.ref z],[]⟩) (fun fin s'=>∃ v,fin=.done (.ret v)/\Q v s') E s:=by
 obtain ⟨hp,g,d,tk₀,os⟩:=s
 show wpAny _ _ (field (.ref z) 2 >>= _) _ _ _
 refine Lw (Mt hz rfl (x:=.bool false) rfl ?_)
 show wpAny _ _ (field (.ref z) 3 >>= _) _ _ _
 refine Lw (Mt hz rfl (x:=.ref TI) rfl ?_)
 refine Lw (Ms hTI rfl ?_)
 show wpAny _ _ (Mb (.ref z) >>= _) _ _ _
 refine Lw ?_
 unfold Mb
 refine Lw (Mt hz rfl (x:=.none) rfl (Ly ?_))
 simp only [if_true]
 refine Lw (NJ ?_)
 refine Lw (Mt hz rfl (x:=.ref TO) rfl ?_)
 refine Lw (MH hz (by simp) fun g1 hz1 hs1=>?_)
 replace hz1:IsZip g1 z TI TO .ellipsis:=hz1
 replace hs1:LP z hp g1:=hs1
 refine Lw ?_
 simp only [P4,Ql,Ou,O6]
 refine Lw (Lw (N2 ?_))
 show wpAny _ _ (L9 (.ref j1) >>= _) _ _ _
 refine Lw (D1.item k ⟨g1,g,d,tk₀,os⟩ _ _ l1 (D1.but h1 hs1 Z.b1) fun x g2 tk1 px st1 hs2=>Ly ?_)
 replace hs2:LP j1 g1 g2:=hs2
 have hTO2:IsPair g2 TO a b:=hs2.extBut _ _ Z.a8 (hs1.extBut _ _ Z.a2 hTO)
 refine Lw (Ms hTO2 rfl ?_)
 refine Lw (Qm hTO2 fun g3 hTO3 hs3=>?_)
 replace hTO3:IsPair g3 TO x b:=hTO3
 replace hs3:LP TO g2 g3:=hs3
 refine Lw (OL (Ly ?_))
 refine Lw (Lw (N2 ?_))
 show wpAny _ _ (L9 (.ref j2) >>= _) _ _ _
 refine Lw (D2.item k ⟨g3,g,d,tk1,os⟩ _ _ l2 (D2.but (D2.but (D2.but h2 hs1 Z.b4) hs2 Z.b6) hs3 Z.b5) fun y g4 tk2 py st2 hs4=>Ly ?_)
 replace hs4:LP j2 g3 g4:=hs4
 have hTO4:IsPair g4 TO x b:=hs4.extBut _ _ Z.a9 hTO3
 refine Lw (Ms hTO4 rfl ?_)
 refine Lw (Qm hTO4 fun g5 hTO5 hs5=>?_)
 replace hTO5:IsPair g5 TO x y:=hTO5
 replace hs5:LP TO g4 g5:=hs5
 refine Lw (OL (Ly (Ly ?_)))
 refine Lw (Ms hTO5 rfl ?_)
 refine Lw (QD ?_)
 have hsz:g5.objs.size=hp.objs.size:=by rw [hs5.1,hs4.1,hs3.1,hs2.1,hs1.1]
 have hz5:IsZip g5 z TI TO .ellipsis:=hs5.extBut _ _ Z.a2.symm (hs4.extBut _ _ Z.a4.symm (hs3.extBut _ _ Z.a2.symm (hs2.extBut _ _ Z.a3.symm hz1)))
 have k5:∀ c o,c≠z->c≠TO->c≠j1->c≠j2->hp.get? c=some o->g5.get? c=some o:=fun c o c1 c2 c3 c4 e=>
  hs5.extBut _ _ c2 (hs4.extBut _ _ c4 (hs3.extBut _ _ c2 (hs2.extBut _ _ c3 (hs1.extBut _ _ c1 e))))
 have st15:S1 (k + 1) g5:=D1.but (D1.but (D1.but st1 hs3 Z.b2) hs4 Z.b3) hs5 Z.b2
 have st25:S2 (k + 1) g5:=D2.but st2 hs5 Z.b5
 have zlt:z < g5.objs.size:=LK hz5
 show wpAny _ _ (NO (.ref z) (.ref g5.objs.size) >>= _) _ _ _
 refine Lw ?_
 unfold NO
 have hz6:IsZip (g5.push { cls:=.type "tuple",data:=.seq #[x,y] }) z TI TO .ellipsis:=Lx _ hz5
 refine Lw (MH hz6 (by simp) fun g7 hz7 hs7=>?_)
 replace hz7:IsZip g7 z TI TO (rawInt g5.objs.size):=hz7
 refine MH hz7 (by simp) fun g8 hz8 hs8=>?_
 replace hz8:IsZip g8 z TI TO (rawInt g5.objs.size):=hz8
 have up:∀ c o,c≠z->g5.get? c=some o->g8.get? c=some o:=fun c o c1 e=>hs8.extBut _ _ c1 (hs7.extBut _ _ c1 (Lx _ e))
 have hT8:IsPair g8 g5.objs.size x y:=hs8.extBut _ _ (NA zlt) (hs7.extBut _ _ (NA zlt) (LH _ rfl))
 rw [hsz] at hz8 hT8
 refine Ly ⟨_,rfl,?_⟩
 show Q (.ref g5.objs.size) _
 rw [hsz]
 exact hQ x y g8 tk2 px py hz8 ⟨x,y,up _ _ Z.a2 hTO5⟩ (D1.frame _ _ _ st15 fun c hc o e=>up c o (fun q=>Z.b1 (by rw [<-q]; exact hc)) e) (D2.frame _ _ _ st25 fun c hc o e=>up c o (fun q=>Z.b4 (by rw [<-q]; exact hc)) e) hT8
  (fun c o hc e=>by
   simp only [LA,Mq,or_false,not_or] at hc
   exact up c o hc.1 (k5 c o hc.1 hc.2.2.1 hc.2.2.2.1 hc.2.2.2.2 e)) (up _ _ Z.a1 (k5 _ _ Z.a1 Z.a5 Z.a6 Z.a7 hTI))
theorem zE {z TI TO j1 j2:Addr} {fp1 fp2:List Addr} {n1 n2 k:Nat} {P1 P2:Nat->Value->Prop} {S1 S2:Nat->Heap->Prop} {a b:Value} {Q:Fin->Shared->Prop} (Z:jc z TI TO j1 j2 fp1 fp2)
  (D1:Draws prog w A j1 fp1 n1 P1 S1) (D2:Draws prog w A j2 fp2 n2 P2 S2) (hz:IsZip s.heap z TI TO .none) (hTI:IsPair s.heap TI (.ref j1) (.ref j2)) (hTO:IsPair s.heap TO a b) (h1:S1 k s.heap) (h2:S2 k s.heap) (l:k=min n1 n2)
  (hE:∀ h' e tk,(∀ c o,c∉[z,TI,TO,j1,j2]->s.heap.get? c=some o->h'.get? c=some o)->(∃ o,h'.get? e=some o/\o.cls=.type "StopIteration")->E (.ref e) { s with heap:=h',toks:=tk }):
  wpAny (model prog w) A (Builtin.«zip.__next__» ⟨[.ref z],[]⟩) Q E s:=by
 obtain ⟨hp,g,d,tk₀,os⟩:=s
 have kp:∀ {h':Heap},(∀ c o,c≠z->c≠TO->c≠j1->c≠j2->hp.get? c=some o->h'.get? c=some o)->∀ c o,c∉[z,TI,TO,j1,j2]->hp.get? c=some o->h'.get? c=some o:=fun {h'} q c o hc e=>by
  simp only [LA,Mq,or_false,not_or] at hc
  exact q c o hc.1 hc.2.2.1 hc.2.2.2.1 hc.2.2.2.2 e
 show wpAny _ _ (field (.ref z) 2 >>= _) _ _ _
 refine Lw (Mt hz rfl (x:=.bool false) rfl ?_)
 show wpAny _ _ (field (.ref z) 3 >>= _) _ _ _
 refine Lw (Mt hz rfl (x:=.ref TI) rfl ?_)
 refine Lw (Ms hTI rfl ?_)
 show wpAny _ _ (Mb (.ref z) >>= _) _ _ _
 refine Lw ?_
 unfold Mb
 refine Lw (Mt hz rfl (x:=.none) rfl (Ly ?_))
 simp only [if_true]
 refine Lw (NJ ?_)
 refine Lw (Mt hz rfl (x:=.ref TO) rfl ?_)
 refine Lw (MH hz (by simp) fun g1 hz1 hs1=>?_)
 replace hz1:IsZip g1 z TI TO .ellipsis:=hz1
 replace hs1:LP z hp g1:=hs1
 refine Lw ?_
 simp only [P4,Ql,Ou,O6]
 refine Lw (Lw (N2 ?_))
 show wpAny _ _ (L9 (.ref j1) >>= _) _ _ _
 by_cases hk:k=n1
 ·subst hk
  refine Lw (D1.done ⟨g1,g,d,tk₀,os⟩ _ _ (D1.but h1 hs1 Z.b1) fun g2 e hs2 he=>?_)
  replace hs2:Ol j1 g1 g2:=hs2
  obtain ⟨oe,hoe,hce⟩:=he
  have hz2:IsZip g2 z TI TO .ellipsis:=hs2 _ _ Z.a3.symm hz1
  have nez:e≠z:=fun q=>by
   subst q
   rw [hz2] at hoe
   cases hoe
   simp at hce
  refine MH hz2 (by simp) fun g3 _ hs3=>hE g3 e tk₀ (kp fun c o c1 _ c3 _ q=>hs3.extBut _ _ c1 (hs2 _ _ c3 (hs1.extBut _ _ c1 q))) ⟨oe,hs3.extBut _ _ nez hoe,hce⟩
 ·have hlt:k < n1:=by omega
  have hk2:k=n2:=by omega
  refine Lw (D1.item k ⟨g1,g,d,tk₀,os⟩ _ _ hlt (D1.but h1 hs1 Z.b1) fun x g2 tk1 px st1 hs2=>Ly ?_)
  replace hs2:LP j1 g1 g2:=hs2
  have hTO2:IsPair g2 TO a b:=hs2.extBut _ _ Z.a8 (hs1.extBut _ _ Z.a2 hTO)
  refine Lw (Ms hTO2 rfl ?_)
  refine Lw (Qm hTO2 fun g3 hTO3 hs3=>?_)
  replace hs3:LP TO g2 g3:=hs3
  refine Lw (OL (Ly ?_))
  refine Lw (Lw (N2 ?_))
  show wpAny _ _ (L9 (.ref j2) >>= _) _ _ _
  subst hk2
  refine Lw (D2.done ⟨g3,g,d,tk1,os⟩ _ _ (D2.but (D2.but (D2.but h2 hs1 Z.b4) hs2 Z.b6) hs3 Z.b5) fun g4 e hs4 he=>?_)
  replace hs4:Ol j2 g3 g4:=hs4
  obtain ⟨oe,hoe,hce⟩:=he
  have hz4:IsZip g4 z TI TO .ellipsis:=hs4 _ _ Z.a4.symm (hs3.extBut _ _ Z.a2.symm (hs2.extBut _ _ Z.a3.symm hz1))
  have nez:e≠z:=fun q=>by
   subst q
   rw [hz4] at hoe
   cases hoe
   simp at hce
  refine MH hz4 (by simp) fun g5 _ hs5=>hE g5 e tk1 (kp fun c o c1 c2 c3 c4 q=>hs5.extBut _ _ c1 (hs4 _ _ c4 (hs3.extBut _ _ c2 (hs2.extBut _ _ c3 (hs1.extBut _ _ c1 q))))) ⟨oe,hs5.extBut _ _ nez hoe,hce⟩
end
noncomputable abbrev zh1 (S1:Src) (h:Heap) (l1:Addr):Heap:=h.push { cls:=.type S1.icls,data:=.fields #[.ref l1,.int 0 0] }
noncomputable abbrev zh2 (S1 S2:Src) (h:Heap) (l1 l2:Addr):Heap:=(zh1 S1 h l1).push { cls:=.type S2.icls,data:=.fields #[.ref l2,.int 0 0] }
noncomputable abbrev zh3 (S1 S2:Src) (h:Heap) (l1 l2:Addr):Heap:=(zh2 S1 S2 h l1 l2).push { cls:=.type "tuple",data:=.seq #[.ref h.objs.size,.ref (zh1 S1 h l1).objs.size] }
noncomputable abbrev zh4 (S1 S2:Src) (h:Heap) (l1 l2:Addr):Heap:=(zh3 S1 S2 h l1 l2).push { cls:=.type "tuple",data:=.seq #[.none,.none] }
noncomputable abbrev zh5 (S1 S2:Src) (h:Heap) (l1 l2:Addr):Heap:=(zh4 S1 S2 h l1 l2).push { cls:=.type "zip",data:=.fields #[.none,.bool false,.bool false,.ref (zh2 S1 S2 h l1 l2).objs.size,.ref (zh3 S1 S2 h l1 l2).objs.size] }
theorem BR (S1 S2:Src) (l1 l2:Addr) (xs ys:Array Value):
  Meets (Builtin.«zip.__new__» ⟨[.type "zip",.ref l1,.ref l2],[]⟩) (fun _ R s=>S1.Is s.heap l1 xs/\S2.Is s.heap l2 ys/\R (.ok (.ret (.ref (zh4 S1 S2 s.heap l1 l2).objs.size))) { s with heap:=zh5 S1 S2 s.heap l1 l2 }):=
 .of_wp fun prog w A R s h=>by
  obtain ⟨hp,g,d,tk,os⟩:=s
  obtain ⟨q1,q2,h⟩:=h
  have hsub:=sub_zip
  have hL1:S1.Is (PP ⟨hp,g,d,tk,os⟩) l1 xs:=q1
  have hL2:S2.Is (PP ⟨zh1 S1 hp l1,g,d,tk,os⟩) l2 ys:=S2.isKeep q2 fun o e=>Lx _ e
  wp_walk using S1.iter hL1,S2.iter hL2
  exact ⟨_,rfl,h⟩
noncomputable def Itz (S1 S2 : Src) (K : Fg) (a b : Addr) : It :=
  ⟨fun i H => ∃ xs ys x y, S1.Sq K H a xs ∧ S2.Sq K H b ys ∧ xs[i]? = some x ∧ ys[i]? = some y,
   fun i H x H' => ∃ T u v, H T = none ∧ x = .ref T ∧ H' = upd H T (.tup [u, v]) ∧ ∀ xs ys, S1.Sq K H a xs → S2.Sq K H b ys → xs[i]? = some u ∧ ys[i]? = some v,
   fun i H => ∃ xs ys, S1.Sq K H a xs ∧ S2.Sq K H b ys ∧ min xs.length ys.length = i⟩
theorem zap {z TI TO j1 j2 a b:Addr} (nd:[z,TI,TO,j1,j2].Nodup) (h1:∀ c∈[z,TI,TO,j1,j2],c≠a) (h2:∀ c∈[z,TI,TO,j1,j2],c≠b):jc z TI TO j1 j2 [j1,a] [j2,b]:=by
 simp only [Nv,LA,Mq,or_false,not_or] at nd
 obtain ⟨⟨c1,c2,c3,c4⟩,⟨c5,c6,c7⟩,⟨c8,c9⟩,c10,_⟩:=nd
 have g1:=h1 z (by simp)
 have g2:=h1 TO (by simp)
 have g3:=h1 j2 (by simp)
 have g4:=h2 z (by simp)
 have g5:=h2 TO (by simp)
 have g6:=h2 j1 (by simp)
 exact ⟨Mz c1,Mz c2,Mz c3,Mz c4,c5,c6,c7,c8,c9,c10,by simp [c3,g1],by simp [c8,g2],by simp [Mz c10,g3],by simp [c4,g4],by simp [c9,g5],by simp [c10,g6]⟩
theorem Gd {P:Program} {w:World} {K:Fg} {elts:List Expr} {k0:Nat} {pos:Pos} (S1 S2:Src) (a b z TI TO j1 j2:Addr) (nd:[z,TI,TO,j1,j2].Nodup):
  oP P w K (.Tuple elts k0 pos) (Itz S1 S2 K a b) [z,TI,TO,j1,j2] z (fun i h=>IsZip h z TI TO .none/\IsPair h TI (.ref j1) (.ref j2)/\(∃ u v,IsPair h TO u v)/\S1.It h j1 a i/\S2.It h j2 b i) where
 mem:=by simp
 obj:=fun i h st c hc=>by
  obtain ⟨q1,q2,⟨u,v,q3⟩,q4,q5⟩:=st
  simp only [LA,Mq,or_false] at hc
  rcases hc with rfl | rfl | rfl | rfl | rfl
  ·exact ⟨_,q1,fun v z=>nomatch z⟩
  ·exact ⟨_,q2,fun v z=>nomatch z⟩
  ·exact ⟨_,q3,fun v z=>nomatch z⟩
  ·obtain ⟨o,ho,_,hd⟩:=S1.isIt q4
   exact ⟨o,ho,fun v z=>by rw [hd] at z; cases z⟩
  ·obtain ⟨o,ho,_,hd⟩:=S2.isIt q5
   exact ⟨o,ho,fun v z=>by rw [hd] at z; cases z⟩
 keep:=fun i h h' st k=>by
  obtain ⟨q1,q2,⟨u,v,q3⟩,q4,q5⟩:=st
  exact ⟨k z (by simp) _ q1,k TI (by simp) _ q2,⟨u,v,k TO (by simp) _ q3⟩,S1.itKeep q4 fun o q=>k j1 (by simp) o q,S2.itKeep q5 fun o q=>k j2 (by simp) o q⟩
 item:=by
  intro X hP hw hK hc i pins s σ H E I hf st hg
  subst hP hw hK
  obtain ⟨xs,ys,x,y,hq1,hq2,hx,hy⟩:=hg
  obtain ⟨us,r1,p1,_⟩:=S1.get I hq1
  obtain ⟨vs,r2,p2,_⟩:=S2.get I hq2
  obtain ⟨q1,q2,⟨u0,v0,q3⟩,q4,q5⟩:=st
  obtain ⟨u,hu,ru⟩:=r1.get hx
  obtain ⟨v,hv,rv⟩:=r2.get hy
  have Z:=zap nd (fun c hc'=>S1.off I hq1 (hf c hc')) (fun c hc'=>S2.off I hq2 (hf c hc'))
  have hh:X.A.in1.handled=none:=I.ok.hd hc
  have n1:a≠j1:=Mz (S1.off I hq1 (hf j1 (by simp)))
  have n2:b≠j2:=Mz (S2.off I hq2 (hf j2 (by simp)))
  have l1:i < us.toArray.size:=by have:=(LD.mp hu).1; simpa using this
  have l2:i < vs.toArray.size:=by have:=(LD.mp hv).1; simpa using this
  have hT:s.TypeIs (.ref z) "zip":=⟨_,q1,rfl⟩
  unfold pyNext
  refine Lw (N3 (Mx (name:=Nt "__next__") hT Nj (Mp Nj hT OQ
   (xz (A:=X.A.in1) Z (S1.draws hh j1 a n1 us.toArray) (S2.draws hh j2 b n2 vs.toArray) q1 q2 q3 ⟨q4,p1⟩ ⟨q5,p2⟩ l1 l2 fun x' y' h' tk px py z1 z2 z3 z4 z5 z6 z7=>Ly ?_) (OD _))))
  have ex:x'=u:=by
   have:us.toArray[i]?=some u:=by simpa using hu
   rw [this] at px
   exact (LR px).symm
  have ey:y'=v:=by
   have:vs.toArray[i]?=some v:=by simpa using hv
   rw [this] at py
   exact (LR py).symm
  subst ex ey
  refine ⟨_,rfl,Rg z1 fun h2 w1 hs2=>?_⟩
  have nz:∀ c,c∈[TI,TO,j1,j2]->c≠z:=fun c hc' e=>by
   subst e
   exact (Nv.mp nd).1 hc'
  have zlt:z < s.heap.objs.size:=LK q1
  have hT2:h2.get? s.heap.objs.size=some { cls:=.type "tuple",data:=.seq #[x',y'] }:=hs2.extBut _ _ (F8 (LC _) zlt) z5
  have kept:∀ c ob,c∉[z,TI,TO,j1,j2]->s.heap.get? c=some ob->h2.get? c=some ob:=fun c ob hc' q=>hs2.extBut _ _ (fun e=>hc' (by simp [e])) (z6 c ob hc' q)
  obtain ⟨u1,v1,z2⟩:=z2
  refine ⟨.ref s.heap.objs.size,upd H s.heap.objs.size (.tup [x,y]),?_,rfl,⟨_,x,y,I.fresh,rfl,rfl,fun xs' ys' h1 h2=>by rw [S1.inj I h1 hq1,S2.inj I h2 hq2]; exact ⟨hx,hy⟩⟩,
   ⟨w1,hs2.extBut _ _ (nz TI (by simp)) z7,⟨u1,v1,hs2.extBut _ _ (nz TO (by simp)) z2⟩,S1.itKeep z3.1 fun o q=>hs2.extBut _ _ (nz j1 (by simp)) q,S2.itKeep z4.1 fun o q=>hs2.extBut _ _ (nz j2 (by simp)) q⟩,fun c hc'=>?_⟩
  ·exact I.turns (t':=tk) hf kept (LC _) ⟨(by show 2<=LN; decide),[x',y'],.cons ru (.cons rv .nil),_,hT2,rfl,⟨0,rfl⟩,rfl⟩
  ·have lt:c < s.heap.objs.size:=by
    have st':IsZip s.heap z TI TO .none/\IsPair s.heap TI (.ref j1) (.ref j2)/\(∃ u v,IsPair s.heap TO u v)/\S1.It s.heap j1 a i/\S2.It s.heap j2 b i:=⟨q1,q2,⟨u0,v0,q3⟩,q4,q5⟩
    simp only [LA,Mq,or_false] at hc'
    rcases hc' with rfl | rfl | rfl | rfl | rfl
    ·exact zlt
    ·exact LK q2
    ·exact LK q3
    ·obtain ⟨o,ho,_⟩:=S1.isIt q4
     exact LK ho
    ·obtain ⟨o,ho,_⟩:=S2.isIt q5
     exact LK ho
   rw [aO (nH lt (LC _))]
   exact (hf c hc').1
 done:=by
  intro X hP hw hK hc i pins s σ H E I hf st hg
  subst hP hw hK
  obtain ⟨xs,ys,hq1,hq2,hi⟩:=hg
  obtain ⟨us,r1,p1,_⟩:=S1.get I hq1
  obtain ⟨vs,r2,p2,_⟩:=S2.get I hq2
  obtain ⟨q1,q2,⟨u0,v0,q3⟩,q4,q5⟩:=st
  have Z:=zap nd (fun c hc'=>S1.off I hq1 (hf c hc')) (fun c hc'=>S2.off I hq2 (hf c hc'))
  have hh:X.A.in1.handled=none:=I.ok.hd hc
  have n1:a≠j1:=Mz (S1.off I hq1 (hf j1 (by simp)))
  have n2:b≠j2:=Mz (S2.off I hq2 (hf j2 (by simp)))
  have hT:s.TypeIs (.ref z) "zip":=⟨_,q1,rfl⟩
  have hl:i=min us.toArray.size vs.toArray.size:=by
   have:=r1.length
   have:=r2.length
   simp only [LQ]
   omega
  unfold pyNext
  refine Lw (N3 (Mx (name:=Nt "__next__") hT Nj (Mp Nj hT OQ
   (zE (A:=X.A.in1) Z (S1.draws hh j1 a n1 us.toArray) (S2.draws hh j2 b n2 vs.toArray) q1 q2 q3 ⟨q4,p1⟩ ⟨q5,p2⟩ hl fun h' e tk kp he=>?_) (OD _))))
  obtain ⟨o,ho,hcl⟩:=he
  refine Lw (Ny (T:="StopIteration") (b:=true) ⟨o,ho,hcl⟩ O7 ?_)
  exact Ly ⟨rfl,I.turnsN (t':=tk) hf kp⟩
 self:=fun _ _ _ _ _ st h=>Pb st.1 h
section
variable {X:Cx} {elts:List Expr} {k0:Nat} {tpos:Pos}
noncomputable def oZ (S1 S2:Src) (K:Fg) (ta:TA):TI:=fun σ H R=>ta σ H fun vs H1=>∃ a b xs ys,vs=[.ref a,.ref b]/\S1.Sq K H1 a xs/\S2.Sq K H1 b ys/\R (Itz S1 S2 K a b) H1
theorem lP (S1 S2:Src) {a b:Expr} {ta:TA} {p pos:Pos} (hg:Gl X "zip") (hm:X.mg "zip"=none) (ha:PA X [a,b] ta) (hs:L5 [a,b] X.env=[(false,eval a X.env),(false,eval b X.env)]:=by rfl) (hs2:L5 [b] X.env=[(false,eval b X.env)]:=by rfl):
  PI X (.Tuple elts k0 tpos) (.Call (.Name "zip" p) [a,b] [] pos) (oZ S1 S2 X.K ta):=by
 intro pins s σ H R I h
 refine Call_ (fR I hg hm boot_zip (MI (thn (ha pos pins s σ H _ I h) fun us s1 ⟨vs,H1,I1,r1,q1⟩=>?_) (by rw [hs,hs2]) (by rw [hs2]; rfl)))
 obtain ⟨l1,l2,xs,ys,e,hq1,hq2,q⟩:=q1
 subst e
 obtain ⟨u,v,rfl,ru,rv⟩:=r1.two
 cases ru
 cases rv
 obtain ⟨us1,_,p1,_⟩:=S1.get I1 hq1
 obtain ⟨us2,_,p2,_⟩:=S2.get I1 hq2
 refine Rv Ti (by decide) (Ub _ _) (Uy _ _) (fun obj=>Sz obj _ _) RO (BR S1 S2 l1 l2 us1.toArray us2.toArray) ⟨p1,p2,?_⟩
 generalize hn:s1.heap.objs.size=n
 have z1:(zh1 S1 s1.heap l1).objs.size=n + 1:=by rw [Mo,hn]
 have z2:(zh2 S1 S2 s1.heap l1 l2).objs.size=n + 2:=by rw [Mo,z1]
 have z3:(zh3 S1 S2 s1.heap l1 l2).objs.size=n + 3:=by rw [Mo,z2]
 have z4:(zh4 S1 S2 s1.heap l1 l2).objs.size=n + 4:=by rw [Mo,z3]
 have g5:(zh5 S1 S2 s1.heap l1 l2).get? (zh4 S1 S2 s1.heap l1 l2).objs.size=some _:=LH _ rfl
 have g4:(zh5 S1 S2 s1.heap l1 l2).get? (zh3 S1 S2 s1.heap l1 l2).objs.size=some _:=Lx _ (LH _ rfl)
 have g3:(zh5 S1 S2 s1.heap l1 l2).get? (zh2 S1 S2 s1.heap l1 l2).objs.size=some _:=Lx _ (Lx _ (LH _ rfl))
 have g2:(zh5 S1 S2 s1.heap l1 l2).get? (zh1 S1 s1.heap l1).objs.size=some _:=Lx _ (Lx _ (Lx _ (LH _ rfl)))
 have g1:(zh5 S1 S2 s1.heap l1 l2).get? s1.heap.objs.size=some _:=Lx _ (Lx _ (Lx _ (Lx _ (LH _ rfl))))
 have kp:∀ c o,s1.heap.get? c=some o->(zh5 S1 S2 s1.heap l1 l2).get? c=some o:=fun c o e=>
  Lx _ (Lx _ (Lx _ (Lx _ (Lx _ e))))
 show _/\_
 rw [z2,z3,z4] at g5
 rw [z1,z2,hn] at g3
 rw [z3] at g4
 rw [z1] at g2
 rw [hn] at g1
 rw [z4]
 refine ⟨⟨_,g5,rfl⟩,Pb g5 ?_⟩
 have I2:Inv X pins σ H1 { s1 with heap:=zh5 S1 S2 s1.heap l1 l2 }:=I1.kept (t':=s1.toks) kp
 refine ⟨n + 4,[n + 4,n + 2,n + 3,n,n + 1],_,_,H1,rfl,I2,Gd S1 S2 l1 l2 _ _ _ _ _ (by simp),⟨g5,g3,⟨_,_,g4⟩,S1.mkI g1 rfl rfl,S2.mkI g2 rfl rfl⟩,fun c hc=>?_,q⟩
 have hc':s1.heap.objs.size<=c:=by
  rw [hn]
  simp only [LA,Mq,or_false] at hc
  rcases hc with rfl | rfl | rfl | rfl | rfl
  ·exact MM _ _
  ·exact MM _ _
  ·exact MM _ _
  ·exact LC _
  ·exact MM _ _
 exact I1.fpOk hc' (I1.hok.fresh hc')
end
end
section
open PySem.Spec
section
variable {X:Cx}
noncomputable def HP (K:Fg):R2:=fun x y H Q=>∃ a b xs ys,x=.ref a/\y=.ref b/\SqT K H a xs/\SqT K H b ys/\xs.length + ys.length<=LN/\
 (xs=[]->Q (.ref b) H)/\(xs≠[]->ys=[]->Q (.ref a) H)/\(xs≠[]->ys≠[]->∀ p,H p=none->Q (.ref p) (upd H p (.tup (xs++ys))))
theorem Iz:OpR X (Oy .Add) (HP X.K):=by
 intro pins s σ H x y v u Q I rx ry h
 obtain ⟨a,b,xs,ys,rfl,rfl,ha,hb,hz,q0,q1,q2⟩:=h
 by_cases hx:xs=[]
 ·cases rx
  cases ry
  obtain ⟨its,r1,p1,_⟩:=I.tuple ha
  obtain ⟨its2,r2,p2,_⟩:=I.tuple hb
  obtain ⟨⟨cls,dd,data,sl⟩,ho,hc,n,hd⟩:=id p1
  obtain ⟨⟨cls2,dd2,data2,sl2⟩,ho2,hc2,n2,hd2⟩:=id p2
  simp only at hc hd hc2 hd2
  subst hc hd hc2 hd2
  have e:its=[]:=r1.nil_iff.mpr hx
  exact Te ⟨_,ho,rfl⟩ ⟨_,ho2,rfl⟩ Rq SJ PL Px (Po _ _)
   (tuple_addW0 a b its.toArray its2.toArray n n2 dd dd2 sl sl2 (by simp [e])) ⟨ho,ho2,⟨.ref b,H,I,rfl,q0 hx⟩⟩
 ·exact Ir pins s σ H _ _ v u Q I rx ry ⟨a,b,xs,ys,rfl,rfl,ha,hb,hx,hz,q1 hx,q2 hx⟩
theorem xB {x:V}:∀ {xs:List V} {us:List Value},aG xs us->xs.all gM=true->us.countP (eqU x)=xs.countP fun y=>eqV y x
 | _,_,.nil,_=>rfl
 | y :: xs,u :: us,.cons r t,f=>by
  rw [Pf,M7] at f
  rw [Uc,Uc,EE r f.1,xB t f.2]
noncomputable def tBT (r:V->List V->Hp->VK->Prop) (to:TE) (t:TA):TE:=fun σ H Q=>to σ H fun x H1=>(∃ a xs,x=.ref a/\H1 a=some (.tup xs))/\t σ H1 fun xs H2=>r x xs H2 Q
theorem KR {o e:Expr} {es:List Expr} {to:TE} {t:TA} {name:Str} {apos cpos:Pos} {id:String} {r:V->List V->Hp->VK->Prop} (pa:PlainAttrs "tuple") (slot:Slot "tuple" name id) (hty:typeOf (.builtin id)=pure (.type "method_descriptor")) (hm:MtR X id r) (ho:PE X o to) (ha:PA X (e :: es) t)
  (hbase:Pd o name X.env (eval o X.env)=eval o X.env:=by rfl)
  (hfew:((backTo cpos (L5 (e :: es) X.env)).all (fun x=>!x.1) && (PZ cpos (O0 [] X.env)).all (fun x=>x.1.isSome)
   && decide ((e :: es).length + ([]:List Keyword).length + (if ([]:List Keyword).isEmpty then 0 else 1) < 30))=true:=by rfl)
  (hline:(apos.endLine == cpos.line)=true:=by rfl) (hs:L5 (e :: es) X.env=(false,eval e X.env) :: L5 es X.env:=by rfl) (hplain:(backTo cpos (L5 es X.env)).any (·.1)=false:=by rfl):
  PE X (.Call (.Attribute o name apos) (e :: es) [] cpos) (tBT r to t):=by
 intro pins s σ H Q I h
 refine PM hbase hfew hline rfl (thn (ho pins s σ H _ I h) fun v s1 ⟨x,H1,I1,r1,ty,q1⟩=>?_)
 obtain ⟨a,xs,rfl,hx⟩:=ty
 cases r1
 obtain ⟨_,its,_,o',ho',hc',_,hd'⟩:=I1.hok a _ hx
 refine ⟨"tuple",id,pa,slot,hty,⟨o',ho',hc'⟩,fun b e=>?_,?_⟩
 ·cases e
  exact ⟨o',ho',hd'⟩
 have hA:=ha cpos pins s1 σ H1 _ I1 q1
 rw [hs] at hA ⊢
 refine PN (by show (false || (backTo cpos (L5 es X.env)).any (·.1))=false; rw [hplain] <;> rfl) (Qi ?_)
 exact thn hA fun us s2 ⟨vs,H2,I2,r2,q2⟩=>hm pins s2 σ H2 (.ref a) vs (.ref a) us Q I2 rfl r2 q2
noncomputable def BS:V->List V->Hp->VK->Prop:=fun x vs H Q=>∃ l xs y,x=.ref l/\vs=[y]/\H l=some (.tup xs)/\gM y=true/\xs.all gM=true/\Q (.int (xs.countP fun z=>eqV z y:Nat)) H
theorem ER:MtR X "tuple.count" BS:=by
 intro pins s σ H x vs v us Q I rx rv h
 obtain ⟨l,xs,y,rfl,rfl,hH,fy,fx,q⟩:=h
 cases rx
 obtain ⟨u,rfl,ru⟩:=rv.one
 obtain ⟨_,its,r,⟨cls,dd,data,sl⟩,ho,hc,⟨n,hd⟩,hdd⟩:=I.hok l _ hH
 simp only at hc hd hdd
 subst hc hd hdd
 refine Qj Rx ⟨_,ho,rfl⟩ PySem.F.entry_tuple_count (PySem.F.args_tuple_count_2 _ _) (SeqAt.tuple_countAt l its.toArray n none sl u (eqU y)) ⟨ho,fun z hz=>tJ ru fy r fx z (by simpa using hz),?_⟩
 refine ⟨.int (xs.countP fun z=>eqV z y:Nat),H,I.tok _,⟨s.toks,?_⟩,q⟩
 show OJ ((its.toArray.toList.countP (eqU y):Nat):Int) s.toks=_
 rw [show its.toArray.toList=its from rfl,xB r fx]
theorem qJ (hc:X.calm=true):cZ X (.builtin "max") (fun xs H Q=>∃ (p:Addr) (ns:List Int),xs=[.ref p]/\SqL X.K H p (ns.map V.int)/\ns≠[]/\∀ M,M∈ns->(∀ a∈ns,a<=M)->Q (.int M) H):=by
 intro pins s σ H xs us Q I r h
 obtain ⟨p,ns,rfl,hq,hne,q⟩:=h
 obtain ⟨u,rfl,rx⟩:=r.one
 cases rx
 obtain ⟨its,rv,pl,hz⟩:=I.list hq
 have hi:=oS rv
 obtain ⟨zs,ez⟩:=(hi.allInts).items
 have hl:s.heap.IsList p (intItems zs):=by rw [<-ez]; exact pl.isList
 have hnum:zs.toList.map (·.1)=ns:=by
  rw [<-nums_intItems,<-ez]
  exact hi.numsOf
 have hsz:zs.size=ns.length:=by rw [<-hnum]; simp
 have hpos:0 < zs.size:=by
  rw [hsz]
  exact Qx.mpr hne
 refine max_intList (I.ok.hd hc) hl hpos fun v h' tk hv hk=>?_
 obtain ⟨t,rfl⟩:=intItems_at hv
 obtain ⟨h1,h2⟩:=argBest_gt (numAt zs) (zs.size - 1)
 refine ⟨.int _,H,I.kept hk,⟨t,rfl⟩,q _ ?_ fun a ha=>?_⟩
 ·rw [numAt_eq,hnum]
  exact getD_mem (by omega)
 ·rw [<-hnum] at ha
  obtain ⟨j,hj,rfl⟩:=mem_getD ha
  rw [LF,Mr] at hj
  rw [<-numAt_eq]
  exact h2 j (by omega)
noncomputable def zF:V->List V->Hp->VK->Prop:=fun x vs H Q=>∃ (l:Addr) (ns:List Int) (m:Int) (j:Nat),x=.ref l/\vs=[.int m]/\H l=some (.lst (ns.map V.int))/\ns[j]?=some m/\(∀ i,i < j->ns[i]?≠some m)/\j<=1000/\Q (.int j) H
theorem Ge:MtR X "list.index" zF:=by
 intro pins s σ H x vs v us Q I rx rv h
 obtain ⟨l,ns,m,j,rfl,rfl,hH,hj,hno,h1000,q⟩:=h
 cases rx
 obtain ⟨u,rfl,t,rfl⟩:=rv.one
 obtain ⟨z,its,n,r,hl,e⟩:=I.lstM hH
 have at_:∀ (i:Nat) (hi:i < its.toArray.size),∃ k t',ns[i]?=some k/\its.toArray[i]=.int k t':=fun i hi=>by
  have hi':i < ns.length:=by
   rw [LF] at hl
   have:i < its.length:=by simpa using hi
   omega
  obtain ⟨w',hw,rw'⟩:=r.get (i:=i) (x:=.int ns[i]) (by rw [LS,Lz hi'] <;> rfl)
  obtain ⟨t',e'⟩:=(show ∃ t',w'=OJ ns[i] t' from rw')
  have:=(LD.mp hw).2
  exact ⟨ns[i],t',Lz hi',by rw [<-e']; simpa using this⟩
 have hjs:j < its.toArray.size:=by
  have:=(LD.mp hj).1
  rw [LF] at hl
  simp only [LQ]
  omega
 refine Qj RF ⟨_,e,rfl⟩ PySem.F.entry_list_index (PySem.F.args_list_index_2 _ _) (SeqAt.list_indexAt l its.toArray n none #[] (.int m t) (eqU (.int m)) j hjs (by omega) ?_ ?_) ⟨e,fun y hy=>?_,?_⟩
 ·obtain ⟨k,t',e1,e2⟩:=at_ j hjs
  rw [e2]
  rw [hj] at e1
  cases e1
  exact beq_self_eq_true m
 ·intro i hi hlt
  obtain ⟨k,t',e1,e2⟩:=at_ i hi
  rw [e2]
  show (k == m)=false
  exact beq_eq_false_iff_ne.mpr fun z=>hno i hlt (by rw [e1,z])
 ·exact tJ (x:=.int m) ⟨t,rfl⟩ rfl r (by rw [Qk]; simp [gM]) y (by simpa using hy)
 ·exact ⟨.int j,H,I.tok _,⟨_,rfl⟩,q⟩
end
end
end L2
section
namespace L2
open PySem
section
variable {σ:St} {H:Hp} {Q:VK} {D:jL} {K:Fg}
theorem bg {t u:TS} (h:t { nx:=u D,rt:=D.rt,bk:=D.bk,ct:=D.ct } σ H):ar t u D σ H:=h
theorem ga {t u:TS} (h:∀ NX:St->Hp->Prop,(∀ σ H,u D σ H->NX σ H)->t { nx:=NX,rt:=D.rt,bk:=D.bk,ct:=D.ct } σ H):ar t u D σ H:=h _ fun _ _ h=>h
theorem ES (h:D.nx σ H):bh D σ H:=h
theorem lj {te:TE} {g:TG} (h:te σ H fun x H1=>g x σ H1 D.nx):aE te g D σ H:=h
theorem KS {te:TE} (h:te σ H D.rt):aI te D σ H:=h
theorem JY {te:TE} (h:te σ H fun _ H1=>D.nx σ H1):dG te D σ H:=h
theorem HQ {c:TT} {t u:TS} (h:c σ H fun b H1=>if b=true then t D σ H1 else u D σ H1):bB c t u D σ H:=h
theorem ku {i:Nat} {v:V} {R:St->Hp->Prop} (h:R (σ.set i (some v)) H):am i v σ H R:=h
theorem JZ {to ti:TE} {t:Cm} {v:V} {R:St->Hp->Prop} (h:to σ H fun o H1=>ti σ H1 fun i H2=>t o i v H2 fun H3=>R σ H3):qA to ti t v σ H R:=h
theorem qK {p:Addr} {xs:List V} {k:Int} {v:V} {R:Hp->Prop} {j:Nat} (e:H p=some (.lst xs)) (hj:ixN xs.length k=some j) (h:R (upd H p (.lst (xs.set j v)))):mM (.ref p) (.int k) v H R:=⟨p,xs,k,j,rfl,rfl,e,hj,h⟩
theorem o0 {i:Nat} {v:V} (e:σ[i]?=some (some v)) (h:Q v H):ab i σ H Q:=⟨v,e,h⟩
theorem r_c {v:V} (h:Q v H):tC v σ H Q:=h
theorem tK {r:R2} {ta tb:TE} (h:ta σ H fun x H1=>tb σ H1 fun y H2=>r x y H2 Q):tOp r ta tb σ H Q:=h
theorem Lm {r:V->Hp->VK->Prop} {ta:TE} (h:ta σ H fun x H1=>r x H1 Q):tUn r ta σ H Q:=h
theorem Ln {g:Int->Int->V} {i j:Int} (h:Q (g i j) H):rI0 g (.int i) (.int j) H Q:=⟨i,j,rfl,rfl,h⟩
theorem r_I {C:Int->Int->Prop} {g:Int->Int->V} {i j:Int} (c:C i j) (h:Q (g i j) H):rI C g (.int i) (.int j) H Q:=⟨i,j,rfl,rfl,c,h⟩
theorem r_U {g:Int->V} {i:Int} (h:Q (g i) H):rU g (.int i) H Q:=⟨i,rfl,h⟩
theorem KU {i j:Int} (h:Q (.bl (decide (i=j))) H):rEq (.int i) (.int j) H Q:=⟨rfl,by rw [show decide (V.int i=V.int j)=decide (i=j) from decide_eq_decide.mpr ⟨fun e=>by injection e,fun e=>by rw [e]⟩]; exact h⟩
theorem KW {i j:Int} (h:Q (.bl (!decide (i=j))) H):rNe (.int i) (.int j) H Q:=⟨rfl,by rw [show decide (V.int i=V.int j)=decide (i=j) from decide_eq_decide.mpr ⟨fun e=>by injection e,fun e=>by rw [e]⟩]; exact h⟩
theorem J0 {t:TE} {R:Bool->Hp->Prop} (h:t σ H fun x H'=>∃ k,x=.bl k/\R k H'):bq t σ H R:=h
theorem Lo {t:TE} {R:Bool->Hp->Prop} (h:t σ H fun x H'=>∃ k,x=.bl k/\R k H'):tB t σ H R:=h
theorem Lp {b:Bool} {R:Bool->Prop} (h:R b):∃ k,V.bl b=.bl k/\R k:=⟨b,rfl,h⟩
theorem KY {t u:TT} {R:Bool->Hp->Prop} (h:t σ H fun c H1=>if c=true then u σ H1 R else R false H1):tD t u σ H R:=h
theorem Lq {t u:TT} {R:Bool->Hp->Prop} (h:t σ H fun c H1=>if c=true then R true H1 else u σ H1 R):tOr t u σ H R:=h
theorem KZ {t:TT} {R:Bool->Hp->Prop} (h:t σ H fun c H1=>R (!c) H1):eU t σ H R:=h
theorem J1 {ta tb:TE} (h:ta σ H fun x H1=>∃ c,x=.bl c/\if c=true then tb σ H1 Q else Q (.bl false) H1):mK ta tb σ H Q:=h
theorem K0 {ta tb:TE} (h:ta σ H fun x H1=>∃ c,x=.bl c/\if c=true then Q (.bl true) H1 else tb σ H1 Q):FV ta tb σ H Q:=h
theorem J2 {ta:TE} (h:ta σ H fun x H1=>∃ c,x=.bl c/\Q (.bl (!c)) H1):yX ta σ H Q:=h
theorem HR {R:List V->Hp->Prop} (h:R [] H):af σ H R:=h
theorem ET {ta:TE} {tr:TA} {R:List V->Hp->Prop} (h:ta σ H fun x H1=>tr σ H1 fun xs H2=>R (x :: xs) H2):aa ta tr σ H R:=h
theorem J3 {sp:Sp} {E:XK} {t:TA} (h:t σ H fun vs H1=>sp vs H1 Q E):au sp [] E t σ H Q:=by
 show t σ H fun vs H1=>sp (vs++[]) H1 Q E
 simpa only [Oa] using h
theorem Lr {r:List V->Hp->VK->Prop} {t:TA} (h:t σ H fun vs H1=>r vs H1 Q):tCB r t σ H Q:=h
theorem Ls {T:String} {r:V->List V->Hp->VK->Prop} {to:TE} {t:TA} (h:to σ H fun x H1=>tyV K T x H1/\t σ H1 fun xs H2=>r x xs H2 Q):tBM K T r to t σ H Q:=h
theorem Lu {r:V->Option Int->Option Int->Hp->VK->Prop} {te:TE} {tl th:TO} (h:te σ H fun x H1=>tl σ H1 fun l H2=>th σ H2 fun u H3=>r x l u H3 Q):tSl r te tl th σ H Q:=h
theorem Gf {R:Option Int->Hp->Prop} (h:R none H):jO σ H R:=h
theorem J4 {t:TE} {R:Option Int->Hp->Prop} (h:t σ H fun x H1=>∃ i,x=.int i/\R (some i) H1):oR t σ H R:=h
theorem K1 {i:Int} {R:Int->Prop} (h:R i):∃ j,V.int i=.int j/\R j:=⟨i,rfl,h⟩
theorem K2 {wi:TI} {g:TG} {tb:TS} (h:wi σ H fun J H1=>∃ W:Nat->Nat->St->Hp->Prop,(∃ m,W 0 m σ H1)/\∀ i m σ H,W i m σ H->
  (J.stop i H/\D.nx σ H)\/(J.go i H/\∃ N:St->Hp->Prop,(∀ σ' H',N σ' H'->∃ m',m' < m/\W (i + 1) m' σ' H')/\∀ x H',J.yld i H x H'->g x σ H' fun σ2 H2=>tb { D with nx:=N,ct:=N,bk:=D.nx } σ2 H2)):cS wi g tb D σ H:=h
theorem J5 {wi:TI} {g:CF TG} {tt:CF TT} {te:CF TE} {ix:List (Option Nat)} (h:wi σ H fun J H1=>∀ p,H1 p=none->
  ∃ W:Nat->Nat->List V->Hp->Prop,(∃ m,W 0 m [] (upd H1 p (.lst [])))/\∀ C s' H' fp,cG J (g C s' H' fp) (tt C s' H' fp) (te C s' H' fp) (sub ix σ) p Q W):bZ wi g tt te ix σ H Q:=h
section
variable {R:It->Hp->Prop}
theorem IB {tl:TE} (h:tl σ H fun x H1=>∃ a,x=.ref a/\(∃ xs,SqL K H1 a xs)/\R (Itl K a) H1):du K tl σ H R:=h
theorem J6 {tl:TE} (h:tl σ H fun x H1=>∃ a,x=.ref a/\(∃ xs,SqT K H1 a xs)/\R (Itt K a) H1):wn K tl σ H R:=h
theorem IC {ta:TA} (h:ta σ H fun vs H1=>∃ j:Int,vs=[.int j]/\-(2 ^ 62)<=j/\j < 2 ^ 62/\R (Itr 0 j.toNat) H1):ff ta σ H R:=h
theorem ID {S:Src} {ta:TA} (h:ta σ H fun vs H1=>∃ a xs,vs=[.ref a]/\S.Sq K H1 a xs/\R (Ite S K a) H1):rP S K ta σ H R:=h
theorem J7 {S1 S2:Src} {ta:TA} (h:ta σ H fun vs H1=>∃ a b xs ys,vs=[.ref a,.ref b]/\S1.Sq K H1 a xs/\S2.Sq K H1 b ys/\R (Itz S1 S2 K a b) H1):oZ S1 S2 K ta σ H R:=h
end
noncomputable def Off (l:Addr) (H H':Hp):Prop:=∀ b,b≠l->H' b=H b
theorem i4 {l:Addr} {o:HO}:Off l H (upd H l o):=fun b hb=>aO hb
theorem ap.off {H0 H':Hp} {l:Addr} (s:ap H0 H) (h:H0 l=none) (o:Off l H H'):ap H0 H':=fun b u q=>by rw [o b (aS q h)]; exact s b u q
noncomputable def eD (H H':Hp):Prop:=∀ b xs,H b=some (.tup xs)->H' b=some (.tup xs)
theorem eD.refl (H:Hp):eD H H:=fun _ _ h=>h
theorem ap.keep {H':Hp} (s:ap H H'):eD H H':=fun b _ h=>s b _ h
theorem eD.trans {H1 H2:Hp} (a:eD H H1) (b:eD H1 H2):eD H H2:=fun c o h=>b c o (a c o h)
theorem Off.keep {H':Hp} {l:Addr} {xs:List V} (o:Off l H H') (e:H l=some (.lst xs)):eD H H':=fun b ys q=>by
 rw [o b (HJ q e (by intro z; cases z))]
 exact q
theorem lQ {l:Addr} {xs:List V} {y:V} (e:H l=some (.lst xs)) (hz:xs.length < LN) (h:∀ H',Off l H H'->H' l=some (.lst (xs++[y]))->Q .non H'):iY (.ref l) [y] H Q:=⟨l,xs,y,rfl,rfl,e,hz,h _ i4 az⟩
theorem y8 {l:Addr} {xs:List V} (e:H l=some (.lst xs)):tyV K "list" (.ref l) H:=.inl ⟨rfl,xs,SqL.of e⟩
theorem cO {l:Addr} {xs:List V} {i:Int} {v:V} (e:SqL K H l xs) (hv:atI xs i=some v) (h:Q v H):dR K (.ref l) (.int i) H Q:=⟨l,xs,i,v,rfl,rfl,e,hv,h⟩
theorem bw {l:Addr} {xs:List V} {i:Int} {v:V} (e:SqT K H l xs) (hv:atI xs i=some v) (h:Q v H):cT K (.ref l) (.int i) H Q:=⟨l,xs,i,v,rfl,rfl,e,hv,h⟩
end
theorem dO {p A B:Prop} [Decidable p] (h1:p->A) (h2:¬ p->B):if decide p=true then A else B:=by
 by_cases h:p
 ·rw [if_pos (decide_eq_true h)]; exact h1 h
 ·rw [if_neg (by rw [decide_eq_false h]; exact LM)]; exact h2 h
theorem zG {p A B:Prop} [Decidable p] (h1:¬ p->A) (h2:p->B):if (!decide p)=true then A else B:=by
 by_cases h:p
 ·rw [if_neg (by rw [decide_eq_true h]; exact LM)]; exact h2 h
 ·rw [if_pos (by rw [decide_eq_false h]; rfl)]; exact h1 h
theorem eE {p A B:Prop} [Decidable p] (h:p) (h1:A):if decide p=true then A else B:=dO (fun _=>h1) (fun n=>absurd h n)
theorem aY {p A B:Prop} [Decidable p] (h:¬ p) (h1:B):if decide p=true then A else B:=dO (fun n=>absurd n h) (fun _=>h1)
theorem Cy {A B:Prop} (h:B):if (!true)=true then A else B:=by exact oT h
theorem K3 {A B:Prop} (h:A):if (!false)=true then A else B:=by exact qG h
theorem Gg {σ:St} {H:Hp} {R:Bool->Hp->Prop} (h:R true H):bK σ H R:=h
theorem Cz {B:(St->Hp->Prop)->Prop} {R:St->Hp->Prop} (h:B R):∃ N:St->Hp->Prop,(∀ σ' H',N σ' H'->R σ' H')/\B N:=⟨R,fun _ _ h=>h,h⟩
theorem CA {c:TT} {tb:TS} {D:jL} {σ:St} {H:Hp} (W:Nat->St->Hp->Prop) (m:Nat) (h0:W m σ H) (h:∀ m σ H,W m σ H->c σ H fun b H1=>if b=true then ∃ N:St->Hp->Prop,(∀ σ' H',N σ' H'->∃ m',m' < m/\W m' σ' H')/\tb { D with nx:=N,ct:=N,bk:=D.nx } σ H1 else D.nx σ H1):
  nU c tb D σ H:=⟨W,⟨m,h0⟩,h⟩
noncomputable def gi (K:Fg):List V->Hp->VK->Prop:=fun xs H Q=>∃ p ys,xs=[.ref p]/\(SqL K H p ys\/SqT K H p ys)/\Q (.int ys.length) H
noncomputable def tL (K:Fg):List V->Hp->VK->Prop:=fun xs H Q=>∃ (p:Addr) (ns:List Int),xs=[.ref p]/\SqL K H p (ns.map V.int)/\Q (.int ns.sum) H
noncomputable def CB (K:Fg):List V->Hp->VK->Prop:=fun xs H Q=>∃ (p:Addr) (bs:List Bool),xs=[.ref p]/\SqL K H p (bs.map V.bl)/\Q (.bl (bs.all id)) H
noncomputable def wu (K:Fg):List V->Hp->VK->Prop:=fun xs H Q=>∃ (p:Addr) (ns:List Int),xs=[.ref p]/\SqL K H p (ns.map V.int)/\ns≠[]/\∀ M,M∈ns->(∀ a∈ns,a<=M)->Q (.int M) H
noncomputable def CC:List V->Hp->VK->Prop:=fun xs H Q=>∃ i j,xs=[.int i,.int j]/\Q (.int (if j < i then j else i)) H
noncomputable def HS:List V->Hp->VK->Prop:=fun xs H Q=>∃ i j,xs=[.int i,.int j]/\Q (.int (if j > i then j else i)) H
noncomputable def J8:List V->Hp->VK->Prop:=fun xs H Q=>(∃ i,xs=[.int i]/\Q (.int i) H)\/∃ k,xs=[.bl k]/\Q (.int (if k then 1 else 0)) H
noncomputable def J9 (K:Fg):List V->Hp->VK->Prop:=fun xs H Q=>∃ p ys,xs=[.ref p]/\((SqL K H p ys/\∀ l,H l=none->Q (.ref l) (upd H l (.tup ys)))\/(SqT K H p ys/\Q (.ref p) H))
section
variable {K:Fg} {H:Hp} {Q:VK}
theorem uJ {l:Addr} {ys:List V} (e:SqL K H l ys) (h:Q (.int ys.length) H):gi K [.ref l] H Q:=⟨l,ys,rfl,.inl e,h⟩
theorem BT {l:Addr} {ys:List V} (e:SqT K H l ys) (h:Q (.int ys.length) H):gi K [.ref l] H Q:=⟨l,ys,rfl,.inr e,h⟩
theorem CD {l:Addr} {ns:List Int} (e:SqL K H l (ns.map V.int)) (h:Q (.int ns.sum) H):tL K [.ref l] H Q:=⟨l,ns,rfl,e,h⟩
theorem Ka {i j:Int} (h:Q (.int (if j < i then j else i)) H):CC [.int i,.int j] H Q:=⟨i,j,rfl,h⟩
theorem Kb {i j:Int} (h:Q (.int (if j > i then j else i)) H):HS [.int i,.int j] H Q:=⟨i,j,rfl,h⟩
theorem Kc {k:Bool} (h:Q (.int (if k then 1 else 0)) H):J8 [.bl k] H Q:=.inr ⟨k,rfl,h⟩
end
noncomputable def New (H:Hp) (o:HO) (Q:Addr->Hp->Prop):Prop:=∀ p H',H p=none->ap H H'->H' p=some o->Q p H'
theorem New.upd {H:Hp} {o:HO} {Q:Addr->Hp->Prop} (h:New H o Q):∀ p,H p=none->Q p (upd H p o):=fun p hp=>h p _ hp (aZ hp _) az
noncomputable def bz (t:TA):TE:=fun σ H Q=>t σ H fun xs H1=>xs.length<=LN/\New H1 (.tup xs) fun p H2=>Q (.ref p) H2
noncomputable def fv (t:TA):TE:=fun σ H Q=>t σ H fun xs H1=>xs.length<=LN/\New H1 (.lst xs) fun p H2=>Q (.ref p) H2
noncomputable def qL:R2:=fun x y H Q=>∃ l b xs zs,x=.ref l/\y=.ref b/\H l=some (.lst xs)/\H b=some (.lst zs)/\xs.length + zs.length<=LN/\New H (.lst (xs++zs)) fun p H2=>Q (.ref p) H2
noncomputable def Gh:R2:=fun x y H Q=>∃ l k xs,x=.ref l/\y=.int k/\H l=some (.lst xs)/\-(2 ^ 63)<=k/\k < 2 ^ 63/\xs.length * k.toNat<=LN/\New H (.lst (Mv k.toNat xs).flatten) fun p H2=>Q (.ref p) H2
noncomputable def jd (K:Fg):List V->Hp->VK->Prop:=fun xs H Q=>∃ p ys,xs=[.ref p]/\(SqL K H p ys\/SqT K H p ys)/\New H (.lst ys) fun l H2=>Q (.ref l) H2
noncomputable def wv (K:Fg):List V->Hp->VK->Prop:=fun xs H Q=>∃ p ys,xs=[.ref p]/\SqL K H p ys/\New H (.tup ys) fun l H2=>Q (.ref l) H2
noncomputable def CG (K:Fg):V->Option Int->Option Int->Hp->VK->Prop:=fun x lo hi H Q=>∃ a xs,x=.ref a/\SqL K H a xs/\New H (.lst (ig xs lo hi)) fun p H2=>Q (.ref p) H2
section
variable {σ:St} {H:Hp} {Q:VK} {K:Fg}
theorem K4 {t:TA} (h:t σ H fun xs H1=>xs.length<=LN/\New H1 (.tup xs) fun p H2=>Q (.ref p) H2):bz t σ H Q:=h
theorem rR {t:TA} (h:t σ H fun xs H1=>xs.length<=LN/\New H1 (.lst xs) fun p H2=>Q (.ref p) H2):fv t σ H Q:=h
theorem rS {l b:Addr} {xs zs:List V} (h1:H l=some (.lst xs)) (h2:H b=some (.lst zs)) (hz:xs.length + zs.length<=LN) (h:∀ p H',H p=none->ap H H'->H' p=some (.lst (xs++zs))->Q (.ref p) H'):qL (.ref l) (.ref b) H Q:=⟨l,b,xs,zs,rfl,rfl,h1,h2,hz,h⟩
theorem lR {p:Addr} {ys:List V} (e:SqL K H p ys) (h:∀ l H',H l=none->ap H H'->H' l=some (.lst ys)->Q (.ref l) H'):jd K [.ref p] H Q:=⟨p,ys,rfl,.inl e,h⟩
theorem IE {p:Addr} {ys:List V} (e:SqL K H p ys) (h:∀ l H',H l=none->ap H H'->H' l=some (.tup ys)->Q (.ref l) H'):wv K [.ref p] H Q:=⟨p,ys,rfl,e,h⟩
theorem HU {a:Addr} {xs:List V} {lo hi:Option Int} (e:SqL K H a xs) (h:∀ p H',H p=none->ap H H'->H' p=some (.lst (ig xs lo hi))->Q (.ref p) H'):CG K (.ref a) lo hi H Q:=⟨a,xs,rfl,e,h⟩
end
section
variable {g:TG} {tb:TS} {NX:St->Hp->Prop} {RT:VK} {σ:St} {H:Hp} {K:Fg}
theorem jQ {j:Int} (n:Nat) (hn:j.toNat=n) (hj:j<=1000000000) (hj0:-1000000000<=j) (Pv:Nat->St->Hp->Prop) (h0:Pv 0 σ H) (hs:∀ i σ H,i < n->Pv i σ H->g (.int i) σ H fun σ2 H2=>tb { nx:=Pv (i + 1),rt:=RT,bk:=NX,ct:=Pv (i + 1) } σ2 H2) (hd:∀ σ H,Pv n σ H->NX σ H):
  ∃ j':Int,[V.int j]=[.int j']/\-(2 ^ 62)<=j'/\j' < 2 ^ 62/\∃ W:Nat->Nat->St->Hp->Prop,(∃ m,W 0 m σ H)/\∀ i m σ H,W i m σ H->
   ((Itr 0 j'.toNat).stop i H/\NX σ H)\/((Itr 0 j'.toNat).go i H/\∃ N:St->Hp->Prop,(∀ σ' H',N σ' H'->∃ m',m' < m/\W (i + 1) m' σ' H')/\∀ x H',(Itr 0 j'.toNat).yld i H x H'->g x σ H' fun σ2 H2=>tb { nx:=N,rt:=RT,bk:=NX,ct:=N } σ2 H2):=by
 refine ⟨j,rfl,by omega,by omega,?_⟩
 subst hn
 exact qD (lo:=0) (D:={ nx:=NX,rt:=RT }) Pv h0 (fun i σ H hi p=>by rw [Ry]; exact hs i σ H hi p) hd
theorem lD {a:Addr} (xs:List V) (hx:SqL K H a xs) (Pv:Nat->St->Hp->Prop) (h0:Pv 0 σ H) (hl:∀ i σ H,i<=xs.length->Pv i σ H->SqL K H a xs) (hs:∀ i x σ H,xs[i]?=some x->Pv i σ H->g x σ H fun σ2 H2=>tb { nx:=Pv (i + 1),rt:=RT,bk:=NX,ct:=Pv (i + 1) } σ2 H2) (hd:∀ σ H,Pv xs.length σ H->NX σ H):
  ∃ a',V.ref a=.ref a'/\(∃ xs,SqL K H a' xs)/\∃ W:Nat->Nat->St->Hp->Prop,(∃ m,W 0 m σ H)/\∀ i m σ H,W i m σ H->
   ((Itl K a').stop i H/\NX σ H)\/((Itl K a').go i H/\∃ N:St->Hp->Prop,(∀ σ' H',N σ' H'->∃ m',m' < m/\W (i + 1) m' σ' H')/\∀ x H',(Itl K a').yld i H x H'->g x σ H' fun σ2 H2=>tb { nx:=N,rt:=RT,bk:=NX,ct:=N } σ2 H2):=
 ⟨a,rfl,⟨xs,hx⟩,tF (D:={ nx:=NX,rt:=RT }) Pv h0 hl hs hd⟩
theorem zH {a:Addr} (xs:List V) (hx:SqT K H a xs) (Pv:Nat->St->Hp->Prop) (h0:Pv 0 σ H) (hl:∀ i σ H,i<=xs.length->Pv i σ H->SqT K H a xs) (hs:∀ i x σ H,xs[i]?=some x->Pv i σ H->g x σ H fun σ2 H2=>tb { nx:=Pv (i + 1),rt:=RT,bk:=NX,ct:=Pv (i + 1) } σ2 H2) (hd:∀ σ H,Pv xs.length σ H->NX σ H):
  ∃ a',V.ref a=.ref a'/\(∃ xs,SqT K H a' xs)/\∃ W:Nat->Nat->St->Hp->Prop,(∃ m,W 0 m σ H)/\∀ i m σ H,W i m σ H->
   ((Itt K a').stop i H/\NX σ H)\/((Itt K a').go i H/\∃ N:St->Hp->Prop,(∀ σ' H',N σ' H'->∃ m',m' < m/\W (i + 1) m' σ' H')/\∀ x H',(Itt K a').yld i H x H'->g x σ H' fun σ2 H2=>tb { nx:=N,rt:=RT,bk:=NX,ct:=N } σ2 H2):=
 ⟨a,rfl,⟨xs,hx⟩,Ii (D:={ nx:=NX,rt:=RT }) Pv h0 hl hs hd⟩
theorem BU {S:Src} {a:Addr} (xs:List V) (hx:S.Sq K H a xs) (Pv:Nat->St->Hp->Prop) (h0:Pv 0 σ H) (hl:∀ i σ H,i<=xs.length->Pv i σ H->S.Sq K H a xs)
  (hs:∀ i x T σ H H',xs[i]?=some x->Pv i σ H->H T=none->ap H H'->H' T=some (.tup [.int i,x])->g (.ref T) σ H' fun σ2 H2=>tb { nx:=Pv (i + 1),rt:=RT,bk:=NX,ct:=Pv (i + 1) } σ2 H2) (hd:∀ σ H,Pv xs.length σ H->NX σ H):
  ∃ a' xs',[V.ref a]=[.ref a']/\S.Sq K H a' xs'/\∃ W:Nat->Nat->St->Hp->Prop,(∃ m,W 0 m σ H)/\∀ i m σ H,W i m σ H->
   ((Ite S K a').stop i H/\NX σ H)\/((Ite S K a').go i H/\∃ N:St->Hp->Prop,(∀ σ' H',N σ' H'->∃ m',m' < m/\W (i + 1) m' σ' H')/\∀ x H',(Ite S K a').yld i H x H'->g x σ H' fun σ2 H2=>tb { nx:=N,rt:=RT,bk:=NX,ct:=N } σ2 H2):=
 ⟨a,xs,rfl,hx,zC (D:={ nx:=NX,rt:=RT }) Pv h0 hl (fun i x T σ H e p hT=>hs i x T σ H _ e p hT (aZ hT _) az) hd⟩
end
theorem zI {α:Type} [DecidableEq α]:∀ {xs:List α} {m:α},m∈xs->∃ j:Nat,xs[j]?=some m/\∀ i:Nat,i < j->xs[i]?≠some m
 | x :: r,m,h=>by
  by_cases e:x=m
  ·exact ⟨0,by rw [e]; rfl,fun i hi=>absurd hi (by omega)⟩
  ·have hm:m∈r:=by
    rcases LA.mp h with h | h
    ·exact absurd h.symm e
    ·exact h
   obtain ⟨j,h1,h2⟩:=zI hm
   refine ⟨j + 1,h1,fun i hi=>?_⟩
   cases i with
   | zero=>intro z; exact e (LR z)
   | succ i=>exact h2 i (by omega)
theorem ik {K:Fg} {i j:Nat} {a:Addr} {x y:V} {σ:St} {H:Hp} {R:St->Hp->Prop} (e:SqT K H a [x,y]) (h:R ((σ.set i (some x)).set j (some y)) H):ic K 2 (bC (am i) (bC (am j) ib)) (.ref a) σ H R:=
 ⟨a,[x,y],rfl,e,rfl,x,[y],rfl,y,[],rfl,rfl,h⟩
noncomputable def bu (H:Hp) (p:Addr) (R:Nat->List V->Hp->Prop) (i:Nat) (acc:List V) (H2:Hp):Prop:=ap H H2/\H2 p=some (.lst acc)/\acc.length<=i/\R i acc H2
theorem bu.put {H H4:Hp} {p:Addr} {R:Nat->List V->Hp->Prop} {i:Nat} {acc:List V} {y:V} (hp:H p=none) (st:∀ i acc H H',R i acc H->eD H H'->R i acc H') (s:ap H H4) (e:H4 p=some (.lst acc)) (l:acc.length<=i) (r:R (i + 1) (acc++[y]) H4):
  H4 p=some (.lst acc)/\bu H p R (i + 1) (acc++[y]) (upd H4 p (.lst (acc++[y]))):=
 ⟨e,s.upd hp _,az,by rw [LY]; exact SA l 1,st _ _ _ _ r (i4.keep e)⟩
theorem bu.skip {H H4:Hp} {p:Addr} {R:Nat->List V->Hp->Prop} {i:Nat} {acc:List V} (s:ap H H4) (e:H4 p=some (.lst acc)) (l:acc.length<=i) (r:R (i + 1) acc H4):bu H p R (i + 1) acc H4:=⟨s,e,by omega,r⟩
section
variable {g:CF TG} {tt:CF TT} {te:CF TE} {σ₀:St} {Q:VK} {H:Hp} {K:Fg}
theorem tM {j:Int} (n:Nat) (hn:j.toNat=n) (hj:j<=1000000) (hj0:-1000000<=j) (R:Nat->List V->Hp->Prop) (h0:∀ H',ap H H'->R 0 [] H')
  (hs:∀ p,H p=none->∀ C s' H' fp,∀ i acc H2,i < n->bu H p R i acc H2->g C s' H' fp (.int i) σ₀ H2 fun σ2 H3=>tt C s' H' fp σ2 H3 fun b H4=>if b=true then te C s' H' fp σ2 H4 fun y H5=>H5 p=some (.lst acc)/\bu H p R (i + 1) (acc++[y]) (upd H5 p (.lst (acc++[y]))) else bu H p R (i + 1) acc H4)
  (hd:∀ p acc H2,H p=none->ap H H2->H2 p=some (.lst acc)->R n acc H2->Q (.ref p) H2):
  ∃ j':Int,[V.int j]=[.int j']/\-(2 ^ 62)<=j'/\j' < 2 ^ 62/\∀ p,H p=none->∃ W:Nat->Nat->List V->Hp->Prop,(∃ m,W 0 m [] (upd H p (.lst [])))/\∀ C s' H' fp,cG (Itr 0 j'.toNat) (g C s' H' fp) (tt C s' H' fp) (te C s' H' fp) σ₀ p Q W:=by
 refine ⟨j,rfl,by omega,by omega,fun p hp=>?_⟩
 subst hn
 exact oX (lo:=0) (bu H p R) ⟨aZ hp _,az,LC _,h0 _ (aZ hp _)⟩ (fun i acc H2 _ c=>⟨c.2.1,c.2.2.1⟩) (by rw [LI]; omega) (fun C s' H' fp i acc H2 hi c=>by rw [Ry]; exact hs p hp C s' H' fp i acc H2 hi c) fun acc H2 c=>hd p acc H2 hp c.1 c.2.1 c.2.2.2
theorem gN {a:Addr} (xs:List V) (hx:SqL K H a xs) (hz:xs.length<=1000000) (R:Nat->List V->Hp->Prop) (h0:∀ H',ap H H'->R 0 [] H')
  (hs:∀ p,H p=none->∀ C s' H' fp,∀ i x acc H2,xs[i]?=some x->bu H p R i acc H2->g C s' H' fp x σ₀ H2 fun σ2 H3=>tt C s' H' fp σ2 H3 fun b H4=>if b=true then te C s' H' fp σ2 H4 fun y H5=>H5 p=some (.lst acc)/\bu H p R (i + 1) (acc++[y]) (upd H5 p (.lst (acc++[y]))) else bu H p R (i + 1) acc H4)
  (hd:∀ p acc H2,H p=none->ap H H2->H2 p=some (.lst acc)->R xs.length acc H2->Q (.ref p) H2):
  ∃ a',V.ref a=.ref a'/\(∃ xs,SqL K H a' xs)/\∀ p,H p=none->∃ W:Nat->Nat->List V->Hp->Prop,(∃ m,W 0 m [] (upd H p (.lst [])))/\∀ C s' H' fp,cG (Itl K a') (g C s' H' fp) (tt C s' H' fp) (te C s' H' fp) σ₀ p Q W:=
 ⟨a,rfl,⟨xs,hx⟩,fun p hp=>xw (bu H p R) ⟨aZ hp _,az,LC _,h0 _ (aZ hp _)⟩ (fun i acc H2 _ c=>⟨c.2.1,c.2.2.1⟩) (fun i acc H2 _ c=>c.1.seq hx) (by rw [LI]; omega) (fun C s' H' fp i x acc H2 hi c=>hs p hp C s' H' fp i x acc H2 hi c) fun acc H2 c=>hd p acc H2 hp c.1 c.2.1 c.2.2.2⟩
end
section
variable {g:TG} {tb:TS} {NX:St->Hp->Prop} {RT:VK} {σ:St} {H:Hp} {K:Fg}
theorem Kd {S1 S2:Src} {a b:Addr} (xs ys:List V) (hx:S1.Sq K H a xs) (hy:S2.Sq K H b ys) (Pv:Nat->St->Hp->Prop) (h0:Pv 0 σ H) (hl:∀ i σ H,Pv i σ H->S1.Sq K H a xs/\S2.Sq K H b ys)
  (hs:∀ i x y T σ H H',xs[i]?=some x->ys[i]?=some y->Pv i σ H->H T=none->ap H H'->H' T=some (.tup [x,y])->g (.ref T) σ H' fun σ2 H2=>tb { nx:=Pv (i + 1),rt:=RT,bk:=NX,ct:=Pv (i + 1) } σ2 H2) (hd:∀ σ H,Pv (min xs.length ys.length) σ H->NX σ H):
  ∃ a' b' xs' ys',[V.ref a,V.ref b]=[.ref a',.ref b']/\S1.Sq K H a' xs'/\S2.Sq K H b' ys'/\∃ W:Nat->Nat->St->Hp->Prop,(∃ m,W 0 m σ H)/\∀ i m σ H,W i m σ H->
   ((Itz S1 S2 K a' b').stop i H/\NX σ H)\/((Itz S1 S2 K a' b').go i H/\∃ N:St->Hp->Prop,(∀ σ' H',N σ' H'->∃ m',m' < m/\W (i + 1) m' σ' H')/\∀ x H',(Itz S1 S2 K a' b').yld i H x H'->g x σ H' fun σ2 H2=>tb { nx:=N,rt:=RT,bk:=NX,ct:=N } σ2 H2):=by
 refine ⟨a,b,xs,ys,rfl,hx,hy,zB (J:=Itz S1 S2 K a b) (n:=min xs.length ys.length) (D:={ nx:=NX,rt:=RT }) (Y:=fun i H x H1=>∃ T u v,H T=none/\x=.ref T/\H1=upd H T (.tup [u,v])/\xs[i]?=some u/\ys[i]?=some v) Pv h0 (fun i σ H hi w=>?_) (fun σ H w=>?_) (fun i σ H x H1 hi w y=>?_) (fun i x σ H H1 hi w y=>?_) hd⟩
 ·obtain ⟨q1,q2⟩:=hl i σ H w
  exact ⟨xs,ys,xs[i],ys[i],q1,q2,by simp [show i < xs.length by omega],by simp [show i < ys.length by omega]⟩
 ·obtain ⟨q1,q2⟩:=hl _ σ H w
  exact ⟨xs,ys,q1,q2,rfl⟩
 ·obtain ⟨T,u,v,e1,e2,e3,e4⟩:=y
  obtain ⟨q1,q2⟩:=hl _ σ H w
  obtain ⟨e5,e6⟩:=e4 xs ys q1 q2
  exact ⟨T,u,v,e1,e2,e3,e5,e6⟩
 ·obtain ⟨T,u,v,e1,rfl,rfl,e4,e5⟩:=y
  exact hs i u v T σ H _ e4 e5 w e1 (aZ e1 _) az
end
section
variable {K:Fg} {H:Hp} {Q:VK} {a b:Addr} {ns ms:List Int}
theorem K5 (h1:SqL K H a (ns.map V.int)) (h2:SqL K H b (ms.map V.int)) (h:Q (.bl (!decide (ns=ms))) H):oY (SqL K) true (.ref a) (.ref b) H Q:=⟨a,b,_,_,_,rfl,rfl,h1,h2,xy ns ms,by rw [uG]; exact h⟩
theorem K6 (h1:SqT K H a (ns.map V.int)) (h2:SqT K H b (ms.map V.int)) (h:Q (.bl (decide (ns=ms))) H):oY (SqT K) false (.ref a) (.ref b) H Q:=⟨a,b,_,_,_,rfl,rfl,h1,h2,xy ns ms,by rw [uG]; exact h⟩
theorem ll {x:V} {T:String} {t:Value} {c:Bool} (ty:fL K H x t) (e:MG K t (.type T)=some c) (h:Q (.bl c) H):lO K [x,.ty T] H Q:=⟨x,T,t,c,rfl,ty,e,h⟩
end
section
variable {g:CF TG} {tt:CF TT} {te:CF TE} {σ₀:St} {Q:VK} {H:Hp} {K:Fg}
theorem nY {S1 S2:Src} {a b:Addr} (xs ys:List V) (hx:S1.Sq K H a xs) (hy:S2.Sq K H b ys) (kx:∀ H',ap H H'->S1.Sq K H' a xs) (ky:∀ H',ap H H'->S2.Sq K H' b ys) (hz:xs.length<=1000000) (R:Nat->List V->Hp->Prop) (h0:∀ H',ap H H'->R 0 [] H')
  (hs:∀ p,H p=none->∀ C s' H' fp,∀ i x y T acc H2 H3,xs[i]?=some x->ys[i]?=some y->bu H p R i acc H2->H2 T=none->ap H2 H3->H3 T=some (.tup [x,y])->H3 p=some (.lst acc)->g C s' H' fp (.ref T) σ₀ H3 fun σ2 H3=>tt C s' H' fp σ2 H3 fun b H4=>if b=true then te C s' H' fp σ2 H4 fun y H5=>H5 p=some (.lst acc)/\bu H p R (i + 1) (acc++[y]) (upd H5 p (.lst (acc++[y]))) else bu H p R (i + 1) acc H4)
  (hd:∀ p acc H2,H p=none->ap H H2->H2 p=some (.lst acc)->R (min xs.length ys.length) acc H2->Q (.ref p) H2):
  ∃ a' b' xs' ys',[V.ref a,V.ref b]=[.ref a',.ref b']/\S1.Sq K H a' xs'/\S2.Sq K H b' ys'/\∀ p,H p=none->∃ W:Nat->Nat->List V->Hp->Prop,(∃ m,W 0 m [] (upd H p (.lst [])))/\∀ C s' H' fp,cG (Itz S1 S2 K a' b') (g C s' H' fp) (tt C s' H' fp) (te C s' H' fp) σ₀ p Q W:=by
 refine ⟨a,b,xs,ys,rfl,hx,hy,fun p hp=>nX (n:=min xs.length ys.length) (Y:=fun i H x H1=>∃ T u v,H T=none/\x=.ref T/\H1=upd H T (.tup [u,v])/\xs[i]?=some u/\ys[i]?=some v) (bu H p R)
  ⟨aZ hp _,az,LC _,h0 _ (aZ hp _)⟩ (fun i acc H2 _ c=>⟨c.2.1,c.2.2.1⟩) (by rw [LI]; omega) (fun i acc H2 hi c=>?_) (fun acc H2 c=>?_) (fun i acc H2 x H3 hi c y=>?_) (fun C s' H' fp i x acc H2 H3 hi c y=>?_) fun acc H2 c=>hd p acc H2 hp c.1 c.2.1 c.2.2.2⟩
 ·exact ⟨xs,ys,xs[i],ys[i],kx _ c.1,ky _ c.1,by simp [show i < xs.length by omega],by simp [show i < ys.length by omega]⟩
 ·exact ⟨xs,ys,kx _ c.1,ky _ c.1,rfl⟩
 ·obtain ⟨T,u,v,e1,e2,e3,e4⟩:=y
  obtain ⟨e5,e6⟩:=e4 xs ys (kx _ c.1) (ky _ c.1)
  exact ⟨T,u,v,e1,e2,e3,e5,e6⟩
 ·obtain ⟨T,u,v,e1,rfl,rfl,e4,e5⟩:=y
  exact hs p hp C s' H' fp i u v T acc H2 _ e4 e5 c e1 (aZ e1 _) az (by rw [aO (aS c.2.1 e1)]; exact c.2.1)
noncomputable def zJ (K:Fg):V->Option Int->Option Int->Hp->VK->Prop:=fun x lo hi H Q=>∃ a xs,x=.ref a/\SqT K H a xs/\¬ (HT.sIx xs.length 0 lo=0/\HT.sIx xs.length xs.length hi=xs.length)/\New H (.tup (ig xs lo hi)) fun p H2=>Q (.ref p) H2
theorem CH {a:Addr} {xs:List V} {lo hi:Option Int} (e:SqT K H a xs) (hn:¬ (HT.sIx xs.length 0 lo=0/\HT.sIx xs.length xs.length hi=xs.length)) (h:∀ p H',H p=none->ap H H'->H' p=some (.tup (ig xs lo hi))->Q (.ref p) H'):zJ K (.ref a) lo hi H Q:=⟨a,xs,rfl,e,hn,h⟩
theorem tN (x:V) (xs:List V):ig (x :: xs) (some 1) none=xs:=by
 unfold ig
 have e:HT.sIx (x :: xs).length 0 (some 1)=min 1 (x :: xs).length:=rfl
 rw [e,show min 1 (x :: xs).length=1 by simp]
 show ((x :: xs).drop 1).take ((x :: xs).length - 1)=xs
 rw [PQ (by simp)]
 rfl
theorem nI (x:V) (xs:List V):¬ (HT.sIx (x :: xs).length 0 (some 1)=0/\HT.sIx (x :: xs).length (x :: xs).length none=(x :: xs).length):=fun h=>by
 have e:HT.sIx (x :: xs).length 0 (some 1)=min 1 (x :: xs).length:=rfl
 rw [e,show min 1 (x :: xs).length=1 by simp] at h
 exact absurd h.1 (by decide)
theorem K7 {x y:Str} (h:Q (.bl (decide (x=y))) H):rEq (.str x) (.str y) H Q:=⟨rfl,by rw [show decide (V.str x=V.str y)=decide (x=y) from decide_eq_decide.mpr ⟨fun e=>by injection e,fun e=>by rw [e]⟩]; exact h⟩
noncomputable def CI (kvs:List (Str×V)) (a:Addr):R2:=fun x y H Q=>x=.ref a/\∃ k v,y=.str k/\kvs.lookup k=some v/\Q v H
theorem HV {kvs:List (Str×V)} {a:Addr} {k:Str} {v:V} (e:kvs.lookup k=some v) (h:Q v H):CI kvs a (.ref a) (.str k) H Q:=⟨rfl,k,v,rfl,e,h⟩
noncomputable def zK (kvs:List (Str×V)) (a:Addr) (neg:Bool):R2:=fun x y H Q=>y=.ref a/\∃ k,x=.str k/\Q (.bl (if neg then !(kvs.lookup k).isSome else (kvs.lookup k).isSome)) H
end
noncomputable def kL (K:Fg) (a:Addr) (xs:List V):Prop:=∃ (o:Obj) (its:Array Value) (n:Nat),K.lookup a=some o/\o.cls=.type "tuple"/\o.data=.seq its n/\its.size<=LN/\aG xs its.toList
theorem kL.sq {K:Fg} {a:Addr} {xs:List V} (h:kL K a xs) (H:Hp):SqT K H a xs:=.inr h
section
variable {H:Hp} {Q:VK} {K:Fg}
theorem Gi {l b:Addr} {xs zs:List V} (e:H l=some (.lst xs)) (eb:H b=some (.lst zs)) (hz:xs.length + zs.length<=LN) (h:∀ H',Off l H H'->H' l=some (.lst (xs++zs))->Q .non H'):wo (.ref l) [.ref b] H Q:=⟨l,b,xs,zs,rfl,rfl,e,eb,hz,h _ i4 az⟩
end
theorem EU (xs:List V) (z:Int) {m:Nat} (hl:xs.length=m) (hm:0 < m):∃ x,atI xs (z % (m:Int))=some x/\x∈xs:=by
 have m1:=M4 z (b:=(m:Int)) (by omega)
 have m2:=MS z (b:=(m:Int)) (by omega)
 have hk:(z % (m:Int)).toNat < xs.length:=by omega
 refine ⟨xs[(z % (m:Int)).toNat],?_,Oi hk⟩
 have e:z % (m:Int)=(((z % (m:Int)).toNat:Nat):Int):=by omega
 have q:atI xs (((z % (m:Int)).toNat:Nat):Int)=some xs[(z % (m:Int)).toNat]:=fk (Lz hk)
 rw [<-e] at q
 exact q
end L2
end
local macro_rules | `(tactic| walk_at "rb1")=>`(tactic| first
 | ((with_reducible refine' L2.o0 (v:=?v) ?e ?h); (case e=>exact rfl))
 | (with_reducible first | refine L2.ES ?_ | refine L2.lj ?_ | refine L2.KS ?_ | refine L2.JY ?_ | refine L2.ku ?_ | refine L2.JZ ?_ | refine L2.r_c ?_ | refine L2.tK ?_ | refine L2.Lm ?_ | refine L2.Ln ?_ | refine L2.r_U ?_ | refine L2.KU ?_ | refine L2.KW ?_ | refine L2.K7 ?_ | refine L2.J0 ?_ | refine L2.Lo ?_ | refine L2.Lp ?_ | refine L2.K1 ?_ | refine L2.KY ?_ | refine L2.Lq ?_ | refine L2.KZ ?_ | refine L2.J1 ?_ | refine L2.K0 ?_ | refine L2.J2 ?_ | refine L2.HR ?_ | refine L2.ET ?_ | refine L2.J3 ?_ | refine L2.Lr ?_ | refine L2.Ls ?_ | refine L2.Lu ?_ | refine L2.Gf ?_ | refine L2.J4 ?_ | refine L2.K2 ?_ | refine L2.J5 ?_ | refine L2.IB ?_ | refine L2.J6 ?_ | refine L2.IC ?_ | refine L2.ID ?_ | refine L2.J7 ?_ | refine L2.K4 ?_ | refine L2.rR ?_ | refine L2.Ka ?_ | refine L2.Kb ?_ | refine L2.Kc ?_ | refine L2.qG ?_ | refine L2.oT ?_ | refine L2.Cy ?_ | refine L2.K3 ?_ | refine L2.Gg ?_)
 | ((with_reducible refine L2.r_I ?_ ?_); (first | (show (0:Int) < _; omega) | (show (0:Int) < _; decide) | exact ⟨by decide,by decide,by decide⟩ | exact And.intro (by omega) (by omega) | exact (PySem.IntMulOk.of_right (SW (by omega) (by omega))) | exact (PySem.IntMulOk.of_left (SW (by omega) (by omega)))))
 | ((with_reducible refine' L2.uJ (ys:=?y) ?e ?h); (case e=>first | assumption | exact L2.SqL.of (by assumption)))
 | ((with_reducible refine' L2.BT (ys:=?y) ?e ?h); (case e=>first | assumption | exact L2.SqT.of (by assumption)))
 | dsimp only [NP,NQ,L2.sub,LZ,O5,List.getElem?_cons_zero,List.getElem?_cons_succ])
local macro_rules | `(tactic| walk_at "rd")=>`(tactic| repeat (first | (with_reducible first | refine L2.bg ?_ | refine L2.HQ ?_) | walk_at "rb1"))
local macro_rules | `(tactic| walk_at "rs")=>`(tactic| repeat (first | (with_reducible refine L2.HQ ?_) | walk_at "rb1"))
local macro_rules | `(tactic| walk_at "ra")=>`(tactic| repeat (walk_at "rb1"))
namespace L2
open PySem PyProof.Rows
noncomputable abbrev IA:=Option Int
noncomputable abbrev IK:=Sum IA (List IA)
noncomputable abbrev MK:=Sum IA (List IK)
noncomputable def iaV:V->Option IA
 | .non=>some none
 | .bl b=>some (some (if b then 1 else 0))
 | .int i=>some (some i)
 | _=>none
noncomputable def mP (H:Hp) (x:V):IK->Prop
 | .inl a=>iaV x=some a
 | .inr as=>∃ c ys,x=.ref c/\H c=some (.tup ys)/\ys.map iaV=as.map some
noncomputable def dj (H:Hp) (x:V):MK->Prop
 | .inl a=>iaV x=some a
 | .inr is=>∃ c xs,x=.ref c/\H c=some (.tup xs)/\Paired (mP H) xs is
noncomputable def mQ:MK->Bool
 | .inl _=>false
 | .inr _=>true
theorem mP.keep {H H':Hp} {x:V} {k:IK} (h:mP H x k) (kp:eD H H'):mP H' x k:=by
 cases k with
 | inl a=>exact h
 | inr as=>obtain ⟨c,ys,e,q,r⟩:=h; exact ⟨c,ys,e,kp _ _ q,r⟩
theorem dj.keep {H H':Hp} {x:V} {k:MK} (h:dj H x k) (kp:eD H H'):dj H' x k:=by
 cases k with
 | inl a=>exact h
 | inr as=>obtain ⟨c,xs,e,q,r⟩:=h; exact ⟨c,xs,e,kp _ _ q,Paired.mapP r fun _ _ z=>mP.keep z kp⟩
theorem xC {H H':Hp} {xs:List V} {ks:List MK} (h:Paired (dj H) xs ks) (kp:eD H H'):Paired (dj H') xs ks:=Paired.mapP h fun _ _ z=>dj.keep z kp
theorem bQ {α β:Type} {F:α->β->Prop}:∀ {xs:List α} {ys:List β} {i:Nat} {x:α},Paired F xs ys->xs[i]?=some x->∃ y,ys[i]?=some y/\F x y
 | _,_,_,_,.nil,e=>by simp at e
 | _,_,0,_,.cons r _,e=>by simp at e; subst e; exact ⟨_,rfl,r⟩
 | _,_,i + 1,x,.cons _ t,e=>by
  obtain ⟨u,h1,h2⟩:=bQ (i:=i) (x:=x) t (by simpa using e)
  exact ⟨u,by simpa using h1,h2⟩
theorem uK (H:Hp):∀ ns:List Int,Paired (mP H) (ns.map V.int) (ns.map fun n=>(Oc (some n):IK))
 | []=>.nil
 | n :: r=>.cons rfl (uK H r)
theorem IF {H:Hp} {c:Addr} {ns:List Int} (e:H c=some (.tup (ns.map V.int))):dj H (.ref c) (.inr (ns.map fun n=>(Oc (some n):IK))):=⟨c,_,rfl,e,uK H ns⟩
theorem Off.keepD {H H':Hp} {l:Addr} (o:Off l H H') (h:∀ xs,H l≠some (.tup xs)):eD H H':=fun b ys q=>by
 rw [o b (fun z=>by subst z; exact h _ q)]
 exact q
noncomputable def bi {α:Type} [DecidableEq α] (ks:List α):List Nat:=ks.map fun k=>ks.idxOf k
theorem cv {α:Type} [DecidableEq α] (ks:List α):(bi ks).length=ks.length:=LF _
theorem CJ {α:Type} [DecidableEq α] {ks:List α} {i:Nat} {k:α} (h:k∈ks.take i):(ks.take i).idxOf k=ks.idxOf k:=by
 have:=Tx (l₁:=ks.take i) (l₂:=ks.drop i) (a:=k)
 rw [Ov,if_pos h] at this
 exact this.symm
theorem xD {α:Type} [DecidableEq α] {ks:List α} {i:Nat} {k:α} (hk:ks[i]?=some k) (h:k∉ks.take i):ks.idxOf k=i:=by
 obtain ⟨hi,e⟩:=LD.mp hk
 have e1:ks=ks.take i++(k :: ks.drop (i + 1)):=by
  rw [<-e,List.getElem_cons_drop,Ov]
 have:=Tx (l₁:=ks.take i) (l₂:=k :: ks.drop (i + 1)) (a:=k)
 rw [<-e1,if_neg h,List.idxOf_cons_self,M6] at this
 omega
theorem cK {α:Type} {ks:List α} {i:Nat} {k:α} (hk:ks[i]?=some k):ks.take (i + 1)=ks.take i++[k]:=by
 rw [Nr,hk]; rfl
theorem sO {α β:Type} [DecidableEq α] [DecidableEq β] {f:α->β} (inj:∀ a b,f a=f b->a=b) (ks:List α):bi (ks.map f)=bi ks:=by
 unfold bi
 rw [Oq]
 refine Nq fun k hk=>?_
 show (ks.map f).idxOf (f k)=ks.idxOf k
 clear hk
 induction ks with
 | nil=>rfl
 | cons a r ih=>
  rw [LZ,Uz,Uz,ih]
  by_cases e:a=k
  ·rw [e,beq_self_eq_true,beq_self_eq_true]
  ·rw [beq_eq_false_iff_ne.mpr e,beq_eq_false_iff_ne.mpr (fun z=>e (inj _ _ z))]
theorem uL {α:Type} [DecidableEq α] {ks:List α} {i:Nat} {z:Nat} (h:(bi ks)[i]?=some z):∃ k,ks[i]?=some k/\z=ks.idxOf k/\z<=i:=by
 unfold bi at h
 rw [LS] at h
 cases e:ks[i]? with
 | none=>rw [e] at h; cases h
 | some k=>
  rw [e] at h
  refine ⟨k,rfl,(LR h).symm,?_⟩
  rw [<-LR h]
  show ks.idxOf k<=i
  by_cases q:k∈ks.take i
  ·have:=QQ q
   rw [CJ q,M6] at this
   omega
  ·rw [xD e q]; exact LC _
section
open PySem.Spec
section
variable {κ:Type} [DecidableEq κ]
noncomputable def gj (kvs:List (κ×V)) (k:κ):Option V:=(kvs.find? fun kv=>decide (kv.1=k)).map (·.2)
noncomputable def qM (kvs:List (κ×V)) (k:κ) (v:V):List (κ×V):=
 if (kvs.any fun kv=>decide (kv.1=k))=true then kvs.map (fun kv=>if kv.1=k then (kv.1,v) else kv) else kvs++[(k,v)]
theorem eW {p:κ×V} {r:List (κ×V)} {k:κ} (e:p.1=k):gj (p :: r) k=some p.2:=by simp [gj,Mu,e]
theorem eX {p:κ×V} {r:List (κ×V)} {k:κ} (e:¬ p.1=k):gj (p :: r) k=gj r k:=by simp [gj,Mu,e]
theorem tO (k:κ):∀ kvs:List (κ×V),(kvs.any fun kv=>decide (kv.1=k))=(gj kvs k).isSome
 | []=>rfl
 | p :: r=>by
  rw [SM]
  by_cases e:p.1=k
  ·simp only [eW e,decide_eq_true e,Bool.true_or,Option.isSome_some]
  ·rw [eX e,decide_eq_false e,Bool.false_or]; exact tO k r
theorem zL (k j:κ) (y:V):∀ kvs:List (κ×V),gj (kvs.map fun kv=>if kv.1=k then (kv.1,y) else kv) j=(gj kvs j).map fun x=>if j=k then y else x
 | []=>rfl
 | p :: r=>by
  have ih:=zL k j y r
  rw [LZ]
  by_cases h:p.1=k
  ·rw [if_pos h]
   by_cases e:p.1=j
   ·rw [eW (p:=(p.1,y)) e,eW e,Qn,if_pos (e.symm.trans h)]
   ·rw [eX (p:=(p.1,y)) e,eX e,ih]
  ·rw [if_neg h]
   by_cases e:p.1=j
   ·rw [eW (p:=p) e,eW e,Qn,if_neg (fun z=>h (e.trans z))]
   ·rw [eX (p:=p) e,eX e,ih]
theorem xE (k j:κ) (y:V):∀ kvs:List (κ×V),gj kvs k=none->gj (kvs++[(k,y)]) j=if j=k then some y else gj kvs j
 | [],_=>by
  by_cases e:k=j
  ·rw [if_pos e.symm]; exact eW (p:=(k,y)) e
  ·rw [if_neg (fun z=>e z.symm)]; exact eX (p:=(k,y)) e
 | p :: r,hn=>by
  rw [Ud]
  have hk:¬ p.1=k:=fun z=>by rw [eW z] at hn; cases hn
  rw [eX hk] at hn
  have ih:=xE k j y r hn
  by_cases e:p.1=j
  ·rw [eW e,eW e,if_neg (fun z=>hk (e.trans z))]
  ·rw [eX e,eX e,ih]
theorem Gj (kvs:List (κ×V)) (k j:κ) (y:V):gj (qM kvs k y) j=if j=k then some y else gj kvs j:=by
 unfold qM
 by_cases a:(kvs.any fun kv=>decide (kv.1=k))=true
 ·rw [if_pos a,zL]
  rw [tO] at a
  by_cases e:j=k
  ·obtain ⟨x,hx⟩:=Ro.mp a
   rw [if_pos e,e,hx,Qn,if_pos rfl]
  ·rw [if_neg e]
   cases gj kvs j with
   | none=>rfl
   | some x=>rw [Qn,if_neg e]
 ·rw [if_neg a]
  refine xE k j y kvs ?_
  rw [tO] at a
  cases q:gj kvs k with
  | none=>rfl
  | some x=>rw [q] at a; exact (a rfl).elim
theorem sP (kvs:List (κ×V)) (k:κ) (v:V):(qM kvs k v).length<=kvs.length + 1:=by
 unfold qM
 split
 ·rw [LF]; omega
 ·rw [LY,Mh,UA]; omega
theorem h9.isSome_eq {o:Option V} {u:Option Value} (r:h9 o u):o.isSome=u.isSome:=by
 cases o with
 | none=>cases u with
  | none=>rfl
  | some _=>exact (show False from r).elim
 | some _=>cases u with
  | none=>exact (show False from r).elim
  | some _=>rfl
theorem KV.val {kvs:List (κ×V)} {vs:List (κ×Value)} (r:KV kvs vs) (k:κ):h9 (gj kvs k) (valueAt vs k):=by
 unfold KV at r
 induction r with
 | nil=>exact Oj
 | @cons p q ps qs h t ih=>
  obtain ⟨h1,h2⟩:=h
  by_cases e:p.1=k
  ·have e':q.1=k:=h1.symm.trans e
   have b:valueAt (q :: qs) k=some q.2:=by simp [valueAt,Mu,e']
   rw [eW e,b]; exact h2
  ·have e':¬ q.1=k:=fun z=>e (h1.trans z)
   have b:valueAt (q :: qs) k=valueAt qs k:=by simp [valueAt,Mu,e']
   rw [eX e,b]; exact ih
theorem KV.any {kvs:List (κ×V)} {vs:List (κ×Value)} (r:KV kvs vs) (k:κ):(kvs.any fun kv=>decide (kv.1=k))=vs.any fun kv=>decide (kv.1=k):=by
 unfold KV at r
 induction r with
 | nil=>rfl
 | cons h t ih=>rw [SM,SM,ih,h.1]
theorem KV.repl {kvs:List (κ×V)} {vs:List (κ×Value)} (r:KV kvs vs) (k:κ) {y:V} {u:Value} (ry:aH y u):
  KV (kvs.map fun kv=>if kv.1=k then (kv.1,y) else kv) (vs.map fun kv=>if kv.1=k then (kv.1,u) else kv):=by
 unfold KV at r ⊢
 induction r with
 | nil=>exact .nil
 | @cons p q ps qs h t ih=>
  rw [LZ,LZ]
  refine .cons ?_ ih
  obtain ⟨h1,h2⟩:=h
  by_cases e:p.1=k
  ·rw [if_pos e,if_pos (h1.symm.trans e)]; exact ⟨h1,ry⟩
  ·rw [if_neg e,if_neg (fun z=>e (h1.trans z))]; exact ⟨h1,h2⟩
theorem KV.put {kvs:List (κ×V)} {vs:List (κ×Value)} (r:KV kvs vs) (k:κ) {y:V} {u:Value} (ry:aH y u):KV (qM kvs k y) (stored vs k u):=by
 unfold qM stored
 rw [r.any k]
 by_cases e:(vs.any fun kv=>decide (kv.1=k))=true
 ·rw [if_pos e,if_pos e]; exact r.repl k ry
 ·rw [if_neg e,if_neg e]; exact Paired.snoc r ⟨rfl,ry⟩
theorem KV.length {kvs:List (κ×V)} {vs:List (κ×Value)} (r:KV kvs vs):kvs.length=vs.length:=MN r
end
theorem HW {P:Program} {w:World} {k:Key} {u:Value} (r:aH (kV k) u):(iX P w).is k u=true:=by
 cases k with
 | inl i=>obtain ⟨t,e⟩:=(show ∃ t,u=OJ i t from r); subst e; exact Bb P w i t
 | inr x=>obtain ⟨t,e⟩:=(show ∃ t,u=RJ x t from r); subst e; exact br P w x t
noncomputable abbrev KT (H:Hp):List (List Key×V)->List (List Key×Addr×Value)->Prop:=Paired fun p q=>p.1=q.1/\H q.2.1=some (.tup (p.1.map kV))/\aH p.2 q.2.2
theorem KT.keeps {H H':Hp} {kvs:List (List Key×V)} {xs:List (List Key×Addr×Value)} (r:KT H kvs xs) (ht:∀ b ys,H b=some (.tup ys)->H' b=some (.tup ys)):KT H' kvs xs:=
 Paired.mapP r fun _ _ z=>⟨z.1,ht _ _ z.2.1,z.2.2⟩
section
variable {P:Program} {w:World} {H:Hp} {h:Heap} {a:Addr}
end
section
variable {X:Cx} {pins:List (Addr×Obj)} {σ:St} {H:Hp} {s:Shared} {a:Addr} {y v:V} {u r:Value} {o:Option V} {A:Around} {E:Value->Shared->Prop}
theorem Inv.big (I:Inv X pins σ H s):NG < s.heap.objs.size:=by
 have h:Mi < s.heap.objs.size:=(I.mod.glob.keeps I.bk).lt
 exact Nat.lt_trans (by decide) h
theorem BV {h':Heap} {t':Nat} {ob:HO} (I:Inv X pins σ H s) (mu:Mut (H a)) (hs:LP a s.heap h') (he:∃ q,h'.get? a=some q) (new:bA X.prog X.w (upd H a ob) h' a ob):
  Inv X pins σ (upd H a ob) { s with heap:=h',toks:=t' }:=
 I.write (x:=a) (e:=a) mu (.inl rfl) (fun b q hb z=>(hs.2 b hb).trans z) he new
end
section
variable {X:Cx} {pins:List (Addr×Obj)} {σ:St} {H:Hp} {s:Shared} {a:Addr} {kvs:List (Key×V)} {k:Key} {u:Value} {A:Around} {E:Value->Shared->Prop}
end
noncomputable def Gk (i:Expr):Prop:=∀ ov iv,RY i false ov iv=operate [ov,iv] (getItem ov iv)
theorem BW {prog:Program} {w:World} {A:Around} {E:Value->Shared->Prop} {s:Shared} {env:Env} {value slice:Expr} {pos:Pos} {T id:String} {Q:Value->Shared->Prop}
  (hl:So (.type T) "__getitem__"=pure (some (.builtin id))) (hs:Gk slice)
  (h:wpAny (model prog w) A (eval value env) (fun o s₁=>wpAny (model prog w) A (eval slice env) (fun i s₂=>s₂.TypeIs o T/\wpAny (model prog w) A (getItem o i) Q E s₂) E s₁) E s):
  wpAny (model prog w) A (eval (.Subscript value slice pos) env) Q E s:=by
 refine Us (Nh h (fun o s₁ h₁=>Nh h₁ (fun i s₂ h₂=>?_) fun _ _ x=>x) fun _ _ x=>x)
 obtain ⟨hT,h₂⟩:=h₂
 unfold SK
 refine Lw ?_
 rw [getitemInPython_of_ne hT.not_modules]
 refine Lw (Nk hT hl ?_)
 have fin:wpAny (model prog w) A (RY slice false o i) (fun r s₃=>wpAny (model prog w) A (letTemporaryGo value o r >>= fun _=>pure r) Q E s₃) E s₂:=by
  rw [hs o i]
  exact wpAny_operating (Nh h₂ (fun r s₃ h₃=>Lw (wpAny_letTemporaryGo (Ly h₃))) fun _ _ x=>x)
 first
  | exact Ly (Lw fin)
  | exact Lw (Ly (Lw fin))
  | exact Lw fin
section
variable {X:Cx} {o i e value:Expr} {pos pos' tpos:Pos} {td ty tv:TE}
end
section
variable {X:Cx} {pos:Pos}
end
structure M2 (X:Cx) (o:Expr) (m:Str) (apos:Pos) (e f:Expr) (cpos:Pos):Prop where
 base:Pd o m X.env (eval o X.env)=eval o X.env
 few:((backTo cpos (L5 [e,f] X.env)).all (fun x=>!x.1) && (PZ cpos (O0 [] X.env)).all (fun x=>x.1.isSome)
  && decide (([e,f]:List Expr).length + ([]:List Keyword).length + (if ([]:List Keyword).isEmpty then 0 else 1) < 30))=true
 line:(apos.endLine == cpos.line)=true
 trees:backTo cpos (L5 [e,f] X.env)=[(false,eval e X.env),(false,eval f X.env)]
section
variable {X:Cx} {pins:List (Addr×Obj)} {σ:St} {H:Hp} {s:Shared} {a:Addr} {y d:V} {u r:Value} {o:Option V} {A:Around} {E:Value->Shared->Prop}
end
section
variable {X:Cx} {o e f:Expr} {apos cpos:Pos} {td ty tx:TE}
end
section
variable {X:Cx} {pins:List (Addr×Obj)} {σ:St} {H:Hp} {s:Shared} {a:Addr} {kvs:List (Key×V)} {A:Around} {E:Value->Shared->Prop}
end
section
variable {X:Cx} {pins:List (Addr×Obj)} {σ:St} {H:Hp} {s:Shared} {a:Addr} {y:V} {u:Value} {A:Around} {E:Value->Shared->Prop}
end
end
section
open PySem.Spec
section
variable {prog:Program} {w:World} {A:Around} {E:Value->Shared->Prop} {s:Shared}
theorem sD {b:Bool} {Q:Int->Shared->Prop} (h:Q (hashInt (if b then 1 else 0)) { s with toks:=s.toks + 1 }):wpAny (model prog w) A (pyHash (.bool b)) Q E s:=by
 have hr:=rawHash_range (if b then 1 else 0)
 unfold pyHash
 have hv:[MO b].any Value.onHeap=false:=rfl
 refine Lw ?_
 rw [cRoomFor,if_neg (by rw [hv]; exact LM)]; refine Ly ?_
 have hT:s.TypeIs (.bool b) "bool":=rfl
 refine Lw (Nk hT O1.lookup ?_)
 show wpAny _ _ (if (some (SN "int.__hash__") == some MZ)=true then _ else _) Q E s
 rw [if_neg (by rw [Rz]; exact LM)]
 refine Lw (Nk hT O1.lookup ?_)
 show wpAny _ _ (O2 (.bool b) "__hash__" _ >>= _) Q E s
 refine Lw (Ob hT O1 (Mp O1 hT entry_int_hash ?_ (args_int_hash _)))
 cases b with
 | true=>
  refine (show wpAny _ _ (do ret (<-mkInt (rawHash 1))) _ _ s from Qo ?_)
  show wpAny _ _ (if (decide (-(2:Int) ^ 63<=rawHash 1) && decide (rawHash 1 < 2 ^ 63))=true then _ else _) Q E _
  rw [if_pos (by decide)]
  exact Ly h
 | false=>
  refine (show wpAny _ _ (do ret (<-mkInt (rawHash 0))) _ _ s from Qo ?_)
  show wpAny _ _ (if (decide (-(2:Int) ^ 63<=rawHash 0) && decide (rawHash 0 < 2 ^ 63))=true then _ else _) Q E _
  rw [if_pos (by decide)]
  exact Ly h
theorem sE {Q:Int->Shared->Prop} (h:Q 4238894112 { s with toks:=s.toks + 1 }):wpAny (model prog w) A (pyHash .none) Q E s:=by
 unfold pyHash
 have hv:[MZ].any Value.onHeap=false:=rfl
 refine Lw ?_
 rw [cRoomFor,if_neg (by rw [hv]; exact LM)]; refine Ly ?_
 have hT:s.TypeIs .none "NoneType":=rfl
 refine Lw (Nk hT OB.lookup ?_)
 show wpAny _ _ (if (some (SN "NoneType.__hash__") == some MZ)=true then _ else _) Q E s
 rw [if_neg (by rw [Rz]; exact LM)]
 refine Lw (Nk hT OB.lookup ?_)
 show wpAny _ _ (O2 .none "__hash__" _ >>= _) Q E s
 refine Lw (Ob hT OB (Mp OB hT PySem.F.entry_NoneType_hash ?_ (PySem.F.args_NoneType_hash_1 _)))
 refine (show wpAny _ _ (do ret (<-mkInt 4238894112)) _ _ s from Qo ?_)
 show wpAny _ _ (if (decide (-(2:Int) ^ 63<=4238894112) && decide ((4238894112:Int) < 2 ^ 63))=true then _ else _) Q E _
 rw [if_pos (by decide)]
 exact Ly h
end
noncomputable def zM:IA->Int
 | none=>4238894112
 | some i=>hashInt i
noncomputable def ph:IA->Value->Bool
 | none,.none=>true
 | some i,.int j _=>i == j
 | some i,.bool b=>i == (if b then 1 else 0)
 | _,_=>false
theorem dS {k:IA} {v:Value} (h:ph k v=true):(k=none/\v=.none)\/(∃ i t,k=some i/\v=.int i t)\/∃ b,k=some (if b then 1 else 0)/\v=.bool b:=by
 rcases k with _ | i <;> cases v <;> (delta ph at h; simp at h)
 ·exact .inl ⟨rfl,rfl⟩
 ·subst h; exact .inr (.inr ⟨_,rfl,rfl⟩)
 ·subst h; exact .inr (.inl ⟨_,_,rfl,rfl⟩)
noncomputable def dk (prog:Program) (w:World):PySem.KeyKind prog w IA where
 is:=ph
 hash:=zM
 inj:=fun v a b ha hb=>by
  rcases dS ha with ⟨rfl,rfl⟩ | ⟨i,t,rfl,rfl⟩ | ⟨c,rfl,rfl⟩ <;> rcases dS hb with ⟨rfl,e⟩ | ⟨j,u,rfl,e⟩ | ⟨d,rfl,e⟩ <;> first | rfl | (cases e; rfl) | cases e
 byValue:=fun k v h=>by
  rcases dS h with ⟨rfl,rfl⟩ | ⟨i,t,rfl,rfl⟩ | ⟨c,rfl,rfl⟩ <;> rfl
 pyHash:=fun hv h=>by
  rcases dS hv with ⟨rfl,rfl⟩ | ⟨i,t,rfl,rfl⟩ | ⟨c,rfl,rfl⟩
  ·exact sE h
  ·exact T4 h
  ·exact sD h
 eqBool:=fun {A E s a b u v Q} hu hv h=>by
  rcases dS hu with ⟨rfl,rfl⟩ | ⟨i,t,rfl,rfl⟩ | ⟨c,rfl,rfl⟩ <;> rcases dS hv with ⟨rfl,rfl⟩ | ⟨j,u,rfl,rfl⟩ | ⟨d,rfl,rfl⟩
  ·exact RM _ _ _ _ _ (by simpa using h)
  ·exact SR _ _ _ _ _ _ (by simpa using h)
  ·exact Sr _ _ _ _ _ (by simpa using h)
  ·exact SU _ _ _ _ _ _ (by simpa using h)
  ·exact Tg _ _ _ _ _ _ _ _ (by simpa [P7] using h)
  ·exact SV _ _ _ _ _ _ _ (by simpa [P7] using h)
  ·exact Ss _ _ _ _ _ (by simpa using h)
  ·exact SS _ _ _ _ _ _ _ (by simpa [P7] using h)
  ·refine Su _ _ _ _ _ _ ?_
   cases c <;> cases d <;> simpa using h
 «strs»:=fun k x t v h=>by
  rcases dS h with ⟨rfl,e⟩ | ⟨i,u,rfl,e⟩ | ⟨c,rfl,e⟩ <;> cases e
noncomputable def lT:IK->Int
 | .inl a=>zM a
 | .inr as=>UB (Np (as.map zM))
noncomputable def y9 (is:List IK):Int:=UB (Np (is.map lT))
noncomputable def nZ:IK->Nat
 | .inl _=>1
 | .inr as=>as.length + 1
section
variable (prog:Program) (w:World)
noncomputable def cP (h:Heap):IK->Value->Prop
 | .inl a,v=>ph a v=true
 | .inr as,v=>∃ b,v=.ref b/\UC (dk prog w) h as b
noncomputable def ii (h:Heap) (is:List IK) (a:Addr):Prop:=∃ o items n,h.get? a=some o/\o.cls=.type "tuple"/\o.data=.seq items n/\Paired (cP prog w h) is items.toList
end
section
variable {prog:Program} {w:World}
theorem cP.inj {h:Heap} {x y:IK} {v:Value} (hx:cP prog w h x v) (hy:cP prog w h y v):x=y:=by
 cases x with
 | inl a=>cases y with
  | inl b=>rw [(dk prog w).inj v a b hx hy]
  | inr bs=>
   obtain ⟨c,rfl,_⟩:=hy
   rcases dS hx with ⟨_,e⟩ | ⟨_,_,_,e⟩ | ⟨_,_,e⟩ <;> cases e
 | inr as=>cases y with
  | inl b=>
   obtain ⟨c,rfl,_⟩:=hx
   rcases dS hy with ⟨_,e⟩ | ⟨_,_,_,e⟩ | ⟨_,_,e⟩ <;> cases e
  | inr bs=>
   obtain ⟨c,rfl,h1⟩:=hx
   obtain ⟨d,e,h2⟩:=hy
   cases e
   rw [h1.inj h2]
theorem EV {h:Heap} {xs ys:List IK} {vs:List Value} (p:Paired (cP prog w h) xs vs):Paired (cP prog w h) ys vs->xs=ys:=by
 induction p generalizing ys with
 | nil=>intro q; cases q; rfl
 | cons a t ih=>intro q; cases q with
  | cons b u=>rw [a.inj b,ih u]
theorem ii.inj {h:Heap} {a:Addr} {x y:List IK} (hx:ii prog w h x a) (hy:ii prog w h y a):x=y:=by
 obtain ⟨o,items,n,ho,_,hd,hi⟩:=hx
 obtain ⟨o',items',n',ho',_,hd',hi'⟩:=hy
 obtain rfl:o=o':=LR (ho.symm.trans ho')
 rw [hd] at hd'
 injection hd' with h1 _
 subst h1
 exact EV hi hi'
theorem cP.keeps {h h':Heap} {k:IK} {v:Value} {d:Addr} {o:Obj} {es ep} (x:cP prog w h k v) (ho:h.get? d=some o) (hd:o.data=.dict es ep) (hs:LP d h h'):cP prog w h' k v:=by
 cases k with
 | inl a=>exact x
 | inr as=>obtain ⟨b,e,q⟩:=x; exact ⟨b,e,q.keeps ho hd hs⟩
theorem ii.keeps {h h':Heap} {ks:List IK} {a d:Addr} {o:Obj} {es ep} (x:ii prog w h ks a) (ho:h.get? d=some o) (hd:o.data=.dict es ep) (hs:LP d h h'):ii prog w h' ks a:=by
 obtain ⟨o',items,n,ho',hc,hd',hi⟩:=x
 have hne:a≠d:=by
  rintro rfl
  obtain rfl:o'=o:=LR (ho'.symm.trans ho)
  rw [hd] at hd'; exact nomatch hd'
 exact ⟨o',items,n,(hs.2 a hne).trans ho',hc,hd',Paired.mapP hi fun _ _ z=>z.keeps ho hd hs⟩
theorem ii.typeIs {s:Shared} {ks:List IK} {a:Addr} (x:ii prog w s.heap ks a):s.TypeIs (.ref a) "tuple":=let ⟨o,_,_,ho,hc,_⟩:=x; ⟨o,ho,hc⟩
theorem uM {h:Heap} {ks:List IA} {a:Addr} (x:UC (dk prog w) h ks a):∃ items,h.IsTuple a items:=let ⟨o,items,n,h1,h2,h3,_⟩:=x; ⟨items,o,h1,h2,n,h3⟩
variable {A:Around} {E:Value->Shared->Prop} {s:Shared}
theorem EW {k:IK} {v:Value} {Q:Int->Shared->Prop} (hu:A.units < cLine) (hk:cP prog w s.heap k v) (h:Q (lT k) { s with toks:=s.toks + nZ k }):wpAny (model prog w) A (pyHash v) Q E s:=by
 cases k with
 | inl a=>exact (dk prog w).pyHash (k:=a) hk h
 | inr as=>
  obtain ⟨b,rfl,q⟩:=hk
  exact wpAny_pyHash_tuple (knd:=dk prog w) hu q h
theorem Gm {a:IA} {v:Value} {b:Addr} {items:Array Value} {Q:Bool->Shared->Prop} (hu:A.units < cLine) (hk:ph a v=true) (ht:s.heap.IsTuple b items) (h:Q false s):wpAny (model prog w) A (Tj v (.ref b)) Q E s:=by
 rcases dS hk with ⟨rfl,rfl⟩ | ⟨i,t,rfl,rfl⟩ | ⟨c,rfl,rfl⟩
 ·exact Mj.none_tuple ht hu _ _ _ _ h
 ·exact Mj.int_tuple _ _ ht hu _ _ _ _ h
 ·exact Mj.bool_tuple _ ht hu _ _ _ _ h
theorem Gn {a:IA} {v:Value} {b:Addr} {items:Array Value} {Q:Bool->Shared->Prop} (hu:A.units < cLine) (hk:ph a v=true) (ht:s.heap.IsTuple b items) (h:Q false s):wpAny (model prog w) A (Tj (.ref b) v) Q E s:=by
 rcases dS hk with ⟨rfl,rfl⟩ | ⟨i,t,rfl,rfl⟩ | ⟨c,rfl,rfl⟩
 ·exact Mj.tuple_none ht hu _ _ _ _ h
 ·exact Mj.tuple_int _ _ ht hu _ _ _ _ h
 ·exact Mj.tuple_bool _ ht hu _ _ _ _ h
theorem IG {x y:IK} {u v:Value} {Q:Bool->Shared->Prop} (hu:A.units < cLine) (hx:cP prog w s.heap x u) (hy:cP prog w s.heap y v) (h:Q (decide (x=y)) s):wpAny (model prog w) A (Tj u v) Q E s:=by
 cases x with
 | inl a=>cases y with
  | inl b=>
   refine (dk prog w).eqBool (a:=a) (b:=b) hx hy ?_
   rw [show decide (a=b)=decide ((Oc a:IK)=Oc b) from decide_eq_decide.mpr ⟨fun e=>by rw [e],fun e=>TU e⟩]
   exact h
  | inr bs=>
   obtain ⟨c,rfl,q⟩:=hy
   obtain ⟨items,ht⟩:=uM q
   refine Gm hu hx ht ?_
   rw [decide_eq_false (fun e=>nomatch e)] at h
   exact h
 | inr as=>cases y with
  | inl b=>
   obtain ⟨c,rfl,q⟩:=hx
   obtain ⟨items,ht⟩:=uM q
   refine Gn hu hy ht ?_
   rw [decide_eq_false (fun e=>nomatch e)] at h
   exact h
  | inr bs=>
   obtain ⟨c,rfl,q⟩:=hx
   obtain ⟨d,rfl,q'⟩:=hy
   refine wpAny_eqBool_tuple (knd:=dk prog w) hu q q' ?_
   rw [show decide (as=bs)=decide ((ND as:IK)=ND bs) from decide_eq_decide.mpr ⟨fun e=>by rw [e],fun e=>Ph e⟩]
   exact h
noncomputable def zN (ks:List IK):Nat:=(ks.map nZ).sum + 1
theorem EX {ks:List IK} {a:Addr} {Q:Int->Shared->Prop} (hu:A.units + 1 < cLine) (hk:ii prog w s.heap ks a) (h:Q (y9 ks) { s with toks:=s.toks + zN ks }):
  wpAny (model prog w) A (pyHash (.ref a)) Q E s:=by
 have hT:=hk.typeIs
 obtain ⟨o,items,n,ho,_,hd,hi⟩:=hk
 have hu0:A.units < cLine:=by omega
 unfold pyHash
 first | unfold pyHashByItsType | skip
 first | refine Lw (wpAny_cRoomFor_or (.inr hu0) ?_) | skip
 refine Lw (Nk hT PH.lookup ?_)
 show wpAny _ _ (if (some (SN "tuple.__hash__") == some MZ)=true then _ else _) Q E s
 rw [if_neg (by rw [Rz]; exact LM)]
 refine Lw (Nk hT PH.lookup ?_)
 show wpAny _ _ (O2 (.ref a) "__hash__" _ >>= _) Q E s
 refine Lw (Ob hT PH (Mp PH hT F.entry_tuple_hash ?_ (F.args_tuple_hash_1 _)))
 show wpAny _ _ (QZ (.ref a) >>= _) _ _ s
 refine Lw (QR ho hd ?_)
 refine Lw ?_
 rw [<-OX]
 refine P5 _
  (fun cR (b:Array Int) s'=>∃ done left,ks=done++left/\Paired (cP prog w s.heap) left cR/\b.toList=done.map lT/\s'={ s with toks:=s.toks + (done.map nZ).sum })
  _ ?_ ?_ _ _ ⟨[],ks,rfl,hi,rfl,rfl⟩
 ·rintro x cR b s' ⟨done,left,rfl,hl,hb,rfl⟩
  cases hl with
  | @cons k _ ks' _ h1 hl'=>
   refine Lw (EW (k:=k) hu h1 ?_)
   have e:(done.map nZ).sum + nZ k=((done++[k]).map nZ).sum:=by simp
   first
    | exact Ly ⟨done++[k],ks',by simp,hl',by simp [hb],by rw [<-e]; simp [Q0]⟩
    | exact Lw (Ly (Ly ⟨done++[k],ks',by simp,hl',by simp [hb],by rw [<-e]; simp [Q0]⟩))
 ·rintro b s' ⟨done,left,rfl,hl,hb,rfl⟩
  cases hl
  rw [Oa] at h
  show wpAny _ _ (retInt (Np b.toList)) _ _ _
  rw [hb]
  refine Qo ?_
  show wpAny _ _ (if (decide (-(2:Int) ^ 63<=Np (done.map lT)) && decide (Np (done.map lT) < 2 ^ 63))=true then _ else _) Q E _
  unfold y9 UB zN at h
  by_cases hr:(decide (-(2:Int) ^ 63<=Np (done.map lT)) && decide (Np (done.map lT) < 2 ^ 63))=true
  ·rw [if_pos hr]
   rw [if_pos hr] at h
   exact Ly (by simpa [Q0] using h)
  ·rw [if_neg hr]
   rw [if_neg hr] at h
   exact Lw (NJ (Ly (by simpa [Q0] using h)))
theorem CK {x y:List IK} {a b:Addr} {P:Fin->Shared->Prop} (hu:A.units < cLine) (hx:ii prog w s.heap x a) (hy:ii prog w s.heap y b) (h:P (.done (.ret (.bool (decide (x=y))))) s):
  wpAny (model prog w) A (Builtin.«tuple.__eq__» ⟨[.ref a,.ref b],[]⟩) P E s:=by
 have hTb:=hy.typeIs
 obtain ⟨oa,xs,na,hoa,_,hda,hia⟩:=hx
 obtain ⟨ob,ys,nb,hob,_,hdb,hib⟩:=hy
 show wpAny _ _ (UD (.ref b) (.type "tuple") >>= _) _ _ s
 refine Lw (Ny hTb P8 ?_)
 simp only [Pg,MR,if_false]
 refine Lw (QR hoa hda ?_)
 refine Lw (QR hob hdb ?_)
 refine Lw ?_
 refine P5 _
  (fun cR r s'=>r.1=none/\s'=s/\∃ x' y' xs' ys',cR=List.zip xs' ys'/\Paired (cP prog w s.heap) x' xs'/\Paired (cP prog w s.heap) y' ys'/\decide (x'=y')=decide (x=y)/\(xs'.length == ys'.length)=(xs.size == ys.size))
  _ ?_ ?_ _ _ ⟨rfl,rfl,x,y,xs.toList,ys.toList,rfl,hia,hib,rfl,by simp⟩
 ·rintro ⟨u,v⟩ cR r s' ⟨hr,rfl,x',y',xs',ys',hz,hx',hy',hdec,hlen⟩
  cases hx' with
  | nil=>simp at hz
  | @cons k1 u' x'' xs'' h1 hx''=>
   cases hy' with
   | nil=>simp at hz
   | @cons k2 v' y'' ys'' h2 hy''=>
    simp only [Nl,List.cons.injEq,Prod.mk.injEq] at hz
    obtain ⟨⟨rfl,rfl⟩,rfl⟩:=hz
    refine Lw (IG (x:=k1) (y:=k2) hu h1 h2 ?_)
    by_cases hk:k1=k2
    ·subst hk
     rw [decide_eq_true rfl]
     simp only [Pg,MR,if_false]
     refine Ly ⟨rfl,rfl,x'',y'',xs'',ys'',rfl,hx'',hy'',?_,by simpa using hlen⟩
     rw [<-hdec]
     by_cases hxy:x''=y''
     ·simp [hxy]
     ·simp [hxy]
    ·rw [decide_eq_false hk]
     simp only [Bool.not_false,if_true]
     have hf:decide (x=y)=false:=by rw [<-hdec]; simp [hk]
     rw [hf] at h
     exact Lw (Ly (Ly (Ly h)))
 ·rintro ⟨r1,r2⟩ s' ⟨hr,rfl,x',y',xs',ys',hz,hx',hy',hdec,hlen⟩
  simp only at hr
  subst hr
  refine Ly ?_
  have hfin:(xs.size == ys.size)=decide (x=y):=by
   rw [<-hdec,<-hlen]
   cases hx' with
   | nil=>
    cases hy' with
    | nil=>simp
    | cons _ _=>simp
   | cons _ _=>
    cases hy' with
    | nil=>simp
    | cons _ _=>simp at hz
  show P (.done (.ret (.bool (xs.size == ys.size)))) s'
  rw [hfin]; exact h
theorem EY {x y:List IK} {a b:Addr} {Q:Bool->Shared->Prop} (hu:A.units + 1 < cLine) (hx:ii prog w s.heap x a) (hy:ii prog w s.heap y b) (h:Q (decide (x=y)) s):
  wpAny (model prog w) A (eqBool (.ref a) (.ref b)) Q E s:=by
 unfold eqBool
 try with_reducible refine MX ?_
 show wpAny _ _ (if (Mf a == Mf b)=true then _ else _) Q E s
 by_cases hab:(Mf a == Mf b)=true
 ·rw [if_pos hab]
  have e:a=b:=by have:=eq_of_beq hab; injection this
  subst e
  obtain rfl:=hx.inj hy
  exact Lw (NJ (Ly (by simpa using h)))
 ·rw [if_neg hab]
  exact Lw (wpAny_richCompare_same_room (op:=.Eq) hx.typeIs hy.typeIs Qp
   (Mp Qp hx.typeIs F.entry_tuple_eq (CK hu hx hy ⟨_,rfl,(fun e=>nomatch e),NY h⟩) (F.args_tuple_eq_2 _ _)) (by omega))
theorem Bg {n:Nat} {ks:List IA} {a:Addr} {Q:Bool->Shared->Prop} (hk:UC (dk prog w) s.heap ks a) (h:Q true s):wpAny (model prog w) A (RP (n + 1) (.ref a)) Q E s:=by
 have hT:=hk.typeIs
 obtain ⟨o,items,_,ho,_,hd,hi⟩:=hk
 unfold RP
 refine Lw (Nk hT Qp.lookup ?_)
 show wpAny _ _ (UD (.ref a) (.type "tuple") >>= _) _ _ s
 refine Lw (Ny hT P8 ?_)
 simp only [Pg,MR,if_false]
 refine Lw (Ms ho hd ?_)
 refine Lw ?_
 show wpAny _ _ (forIn items _ _) _ _ s
 rw [<-OX]
 refine P5 _ (fun cR r s'=>r.1=none/\s'=s/\∀ v∈cR,carriedByValue v=true) _ ?_ ?_ _ _ ⟨rfl,rfl,hi.byValue⟩
 ·rintro v cR r s' ⟨hr,rfl,hall⟩
  rw [Tz _ (hall v LG)]
  refine Lw (Ly ?_)
  simp only [Pg,MR,if_false]
  exact Ly ⟨rfl,rfl,fun u hu'=>hall u (LJ _ hu')⟩
 ·rintro ⟨r1,r2⟩ s' ⟨hr,rfl,_⟩
  simp only at hr
  subst hr
  exact Ly h
theorem Go {ks:List IK} {a:Addr} {Q:Bool->Shared->Prop} (hk:ii prog w s.heap ks a) (h:Q true s):wpAny (model prog w) A (RP 8 (.ref a)) Q E s:=by
 have hT:=hk.typeIs
 obtain ⟨o,items,n,ho,_,hd,hi⟩:=hk
 unfold RP
 refine Lw (Nk hT Qp.lookup ?_)
 show wpAny _ _ (UD (.ref a) (.type "tuple") >>= _) _ _ s
 refine Lw (Ny hT P8 ?_)
 simp only [Pg,MR,if_false]
 refine Lw (Ms ho hd ?_)
 refine Lw ?_
 show wpAny _ _ (forIn items _ _) _ _ s
 rw [<-OX]
 refine P5 _ (fun cR r s'=>r.1=none/\s'=s/\∃ ks,Paired (cP prog w s.heap) ks cR) _ ?_ ?_ _ _ ⟨rfl,rfl,ks,hi⟩
 ·rintro v cR r s' ⟨hr,rfl,ks,hall⟩
  cases hall with
  | @cons k _ ks' _ h1 hl=>
   refine Lw ?_
   have fin:wpAny (model prog w) A (RP 7 v) (fun b s2=>b=true/\s2=s') E s':=by
    cases k with
    | inl a'=>rw [Tz _ ((dk prog w).byValue _ _ h1)]; exact Ly ⟨rfl,rfl⟩
    | inr as=>obtain ⟨b,rfl,q⟩:=h1; exact Bg (n:=6) q ⟨rfl,rfl⟩
   refine Nh fin (fun b s2 ⟨e1,e2⟩=>?_) fun _ _ x=>x
   subst e1 e2
   simp only [Pg,MR,if_false]
   exact Ly ⟨rfl,rfl,ks',hl⟩
 ·rintro ⟨r1,r2⟩ s' ⟨hr,rfl,_⟩
  simp only at hr
  subst hr
  exact Ly h
end
noncomputable def qN (prog:Program) (w:World):HeapKind prog w (List IK) where
 is:=ii prog w
 hash:=y9
 draws:=zN
 room:=fun A=>A.units + 1 < cLine
 inj:=fun hx hy=>hx.inj hy
 keeps:=fun x ho hd hs=>x.keeps ho hd hs
 pyHash:=fun hu hk h=>EX hu hk h
 eqBool:=fun hu hx hy h=>EY hu hx hy h
 quiet:=fun hk h=>Go hk h
noncomputable def DA (a:Addr) (kvs:List (IA×V)) (h:Heap):Prop:=kvs.length<=LN/\(a == NG)=false/\∃ (P:Program) (w:World) (vs:List (IA×Value)),KV kvs vs/\h.DictOf (dk P w) a vs
noncomputable def ZX:List (List IK×Addr×V)->List (List IK×Addr×Value)->Prop:=Paired fun z x=>z.1=x.1/\z.2.1=x.2.1/\aH z.2.2 x.2.2
noncomputable def DB (a:Addr) (zs:List (List IK×Addr×V)) (h:Heap):Prop:=zs.length<=LN/\(a == NG)=false/\∃ xs:List (List IK×Addr×Value),ZX zs xs/\
 ∃ o es ep,h.get? a=some o/\o.ExactDict/\o.data=.dict es ep/\es.toList=xs.map (fun x=>⟨y9 x.1,.ref x.2.1,x.2.2⟩)/\(xs.map (·.1)).Nodup
noncomputable def dA (a:Addr) (kvs:List (IA×V)):HO:=.ext (DA a kvs)
noncomputable def dB (a:Addr) (zs:List (List IK×Addr×V)):HO:=.ext (DB a zs)
noncomputable def atZ (zs:List (List IK×Addr×V)) (k:List IK):Option V:=(zs.find? fun p=>decide (p.1=k)).map (·.2.2)
noncomputable def Dx (H:Hp) (a:Addr) (s:Bool) (f:MK->Option V) (n:Nat):Prop:=
 (s=false/\∃ kvs,H a=some (dA a kvs)/\(∀ k,gj kvs k=f (.inl k))/\kvs.length<=n)\/
 (s=true/\∃ zs,H a=some (dB a zs)/\(∀ z∈zs,dj H (.ref z.2.1) (.inr z.1))/\(∀ k,atZ zs k=f (.inr k))/\zs.length<=n)
section
variable {H H':Hp} {a b:Addr} {s:Bool} {f g:MK->Option V} {n m:Nat}
theorem Dx.ext (h:Dx H a s f n):∃ φ,H a=some (.ext φ):=by
 rcases h with ⟨_,kvs,e,_⟩ | ⟨_,zs,e,_⟩
 ·exact ⟨_,e⟩
 ·exact ⟨_,e⟩
theorem Dx.keep (h:Dx H a s f n) (e:H' a=H a) (kp:eD H H'):Dx H' a s f n:=by
 rcases h with ⟨hs,kvs,h1,h2⟩ | ⟨hs,zs,h1,h2,h3⟩
 ·exact .inl ⟨hs,kvs,e.trans h1,h2⟩
 ·exact .inr ⟨hs,zs,e.trans h1,fun z hz=>(h2 z hz).keep kp,h3⟩
theorem Dx.same (h:Dx H a s f n) (q:ap H H'):Dx H' a s f n:=by
 obtain ⟨φ,h1⟩:=h.ext
 exact h.keep ((q _ _ h1).trans h1.symm) q.keep
theorem Dx.le (h:Dx H a s f n) (e:n<=m):Dx H a s f m:=by
 rcases h with ⟨hs,kvs,h1,h2,h3⟩ | ⟨hs,zs,h1,h2,h3,h4⟩
 ·exact .inl ⟨hs,kvs,h1,h2,Me h3 e⟩
 ·exact .inr ⟨hs,zs,h1,h2,h3,Me h4 e⟩
theorem Dx.congr (h:Dx H a s f n) (e:∀ k,f k=g k):Dx H a s g n:=by
 rcases h with ⟨hs,kvs,h1,h2,h3⟩ | ⟨hs,zs,h1,h2,h3,h4⟩
 ·exact .inl ⟨hs,kvs,h1,fun k=>(h2 k).trans (e _),h3⟩
 ·exact .inr ⟨hs,zs,h1,h2,fun k=>(h3 k).trans (e _),h4⟩
end
end
noncomputable def zO:TE:=fun _ H Q=>∃ s,∀ p H',H p=none->ap H H'->Dx H' p s (fun _=>none) 0->Q (.ref p) H'
theorem IH {σ:St} {H:Hp} {Q:VK} (s:Bool) (h:∀ p H',H p=none->ap H H'->Dx H' p s (fun _=>none) 0->Q (.ref p) H'):zO σ H Q:=⟨s,h⟩
noncomputable def CL:R2:=fun x y H Q=>∃ a s f n k v,x=.ref a/\Dx H a s f n/\dj H y k/\mQ k=s/\f k=some v/\Q v H
noncomputable def pi (f:MK->Option V) (k:MK) (v:V):MK->Option V:=fun j=>if j=k then some v else f j
noncomputable def zP:V->List V->Hp->VK->Prop:=fun x ys H Q=>∃ a s f n k y v,x=.ref a/\ys=[y,v]/\Dx H a s f n/\dj H y k/\mQ k=s/\n < LN/\(∀ u,f k=some u->Q u H)/\
 (f k=none->∀ H',Off a H H'->Dx H' a s (pi f k v) (n + 1)->Q v H')
noncomputable def tXM (r:V->List V->Hp->VK->Prop) (to:TE) (t:TA):TE:=fun σ H Q=>to σ H fun x H1=>(∃ a s f n,x=.ref a/\Dx H1 a s f n)/\t σ H1 fun ys H2=>r x ys H2 Q
section
variable {σ:St} {H:Hp} {Q:VK} {a:Addr} {s:Bool} {f:MK->Option V} {n:Nat} {k:MK} {y v:V}
theorem Ke (d:Dx H a s f n) (hk:dj H y k) (hs:mQ k=s) (e:f k=some v) (h:Q v H):CL (.ref a) y H Q:=⟨a,s,f,n,k,v,rfl,d,hk,hs,e,h⟩
theorem II (d:Dx H a s f n) (hk:dj H y k) (hs:mQ k=s) (hn:n < LN) (h1:∀ u,f k=some u->Q u H) (h2:f k=none->∀ H',Off a H H'->Dx H' a s (pi f k v) (n + 1)->Q v H'):zP (.ref a) [y,v] H Q:=⟨a,s,f,n,k,y,v,rfl,rfl,d,hk,hs,hn,h1,h2⟩
theorem Lv {r:V->List V->Hp->VK->Prop} {to:TE} {t:TA} (h:to σ H fun x H1=>(∃ a s f n,x=.ref a/\Dx H1 a s f n)/\t σ H1 fun ys H2=>r x ys H2 Q):tXM r to t σ H Q:=h
end
section
variable {α:Type} [DecidableEq α] {ks:List α} {i:Nat} {k:α}
noncomputable def im (ks:List α) (i:Nat):α->Option V:=fun k=>if k∈ks.take i then some (.int (ks.idxOf k:Nat)) else none
theorem CM (hk:ks[i]?=some k) (h:k∈ks.take i) (j:α):im ks i j=im ks (i + 1) j:=by
 unfold im
 rw [cK hk]
 by_cases q:j∈ks.take i
 ·rw [if_pos q,if_pos (Nx _ q)]
 ·rw [if_neg q,if_neg]
  intro z
  rcases Mm.mp z with z | z
  ·exact q z
  ·rw [LB.mp z] at q; exact q h
theorem CN (hk:ks[i]?=some k) (h:k∉ks.take i) (j:α):(if j=k then some (V.int (i:Nat)) else im ks i j)=im ks (i + 1) j:=by
 unfold im
 rw [cK hk]
 by_cases q:j=k
 ·subst q
  rw [if_pos rfl,if_pos (by simp),xD hk h]
 ·rw [if_neg q]
  by_cases z:j∈ks.take i
  ·rw [if_pos z,if_pos (Nx _ z)]
  ·rw [if_neg z,if_neg]
   intro w
   rcases Mm.mp w with w | w
   ·exact z w
   ·exact q (LB.mp w)
theorem xF (h:k∈ks.take i):im ks i k=some (.int (ks.idxOf k:Nat)):=if_pos h
theorem Bh (h:k∉ks.take i):im ks i k=none:=if_neg h
theorem Bi (k:α):none=im ks 0 k:=(if_neg (by simp)).symm
theorem zQ (hk:ks[i]?=some k):(bi ks).take (i + 1)=(bi ks).take i++[ks.idxOf k]:=cK (by unfold bi; rw [LS,hk]; rfl)
end
end L2
section
namespace KM
noncomputable def aR:Nat->Nat
 | 0=>1
 | n + 1=>aR n * (n + 1)
noncomputable def choose:Nat->Nat->Nat
 | _,0=>1
 | 0,_ + 1=>0
 | n + 1,k + 1=>choose n k + choose n (k + 1)
theorem iQ:∀ n,0 < aR n
 | 0=>by decide
 | n + 1=>TZ (iQ n) (Tn n)
theorem j4 (n:Nat):choose n 0=1:=by cases n <;> rfl
theorem mR:∀ (n k:Nat),n < k->choose n k=0
 | _,0,h=>absurd h (Qq _)
 | 0,_ + 1,_=>rfl
 | n + 1,k + 1,h=>by rw [choose,mR n k (by omega),mR n (k + 1) (by omega)]
theorem sQ:∀ n,choose n n=1
 | 0=>rfl
 | n + 1=>by rw [choose,sQ n,mR n (n + 1) (by omega)]
theorem ip:∀ (n k:Nat),k<=n->choose n k * (aR k * aR (n - k))=aR n
 | n,0,_=>by rw [j4,aR,To,T1,T1]
 | 0,_ + 1,h=>absurd h (by omega)
 | n + 1,k + 1,h=>by
  rw [choose,T2]
  by_cases hk:k=n
  ·subst hk
   rw [sQ,mR k (k + 1) (by omega),RA]
   simp [aR]
  ·have hk':k + 1<=n:=by omega
   have e1:=ip n k (by omega)
   have e2:=ip n (k + 1) hk'
   have s1:n + 1 - (k + 1)=n - k:=by omega
   have s2:n - k=(n - (k + 1)) + 1:=by omega
   rw [s1]
   have a1:choose n k * (aR (k + 1) * aR (n - k))=(k + 1) * aR n:=by
    rw [<-e1,aR]
    simp only [NB,NN,Oe]
   have a2:choose n (k + 1) * (aR (k + 1) * aR (n - k))=(n - k) * aR n:=by
    have s3:aR (n - k)=aR (n - (k + 1)) * (n - k):=by
     rw [s2,aR,<-s2]
    rw [<-e2,s3]
    simp only [NB,NN,Oe]
   rw [a1,a2,<-T2,aR,NN]
   congr 1
   omega
theorem Bj (n k:Nat) (h:k + 1<=n):choose n k * (n - k) / (k + 1)=choose n (k + 1):=by
 have e1:=ip n k (by omega)
 have e2:=ip n (k + 1) h
 have s2:n - k=(n - (k + 1)) + 1:=by omega
 have p:0 < aR k * aR (n - (k + 1)):=TZ (iQ _) (iQ _)
 have q:choose n k * (n - k)=choose n (k + 1) * (k + 1):=by
  have:choose n k * (n - k) * (aR k * aR (n - (k + 1)))=choose n (k + 1) * (k + 1) * (aR k * aR (n - (k + 1))):=by
   have l:choose n k * (n - k) * (aR k * aR (n - (k + 1)))=aR n:=by
    rw [<-e1,show aR (n - k)=aR (n - (k + 1)) * (n - k) by rw [s2,aR,<-s2]]
    simp only [NB,NN,Oe]
   have r:choose n (k + 1) * (k + 1) * (aR k * aR (n - (k + 1)))=aR n:=by
    rw [<-e2,aR]
    simp only [NB,NN,Oe]
   rw [l,r]
  exact Q1 p this
 rw [q,Nat.mul_div_cancel _ (Tn k)]
noncomputable def ck:Nat->List Nat->Nat
 | _,[]=>1
 | n,s :: r=>choose n s * ck (n - s) r
theorem pj:∀ (ss:List Nat) (n:Nat),ss.sum<=n->ck n ss * ((ss.map aR).foldr (· * ·) 1 * aR (n - ss.sum))=aR n
 | [],n,_=>by simp [ck]
 | s :: r,n,h=>by
  rw [Mg] at h
  have ih:=pj r (n - s) (by omega)
  have c:=ip n s (by omega)
  rw [ck,LZ,List.foldr_cons,Mg,<-c,<-ih,Nat.sub_sub]
  simp only [NB,NN,Oe]
end KM
end
section
namespace KM
noncomputable def rT (room:List Nat) (w:List Nat):List Nat:=(LO room.length).filter fun j=>decide (w.count j < room.getD j 0)
noncomputable def grow (room:List Nat) (ws:List (List Nat)):List (List Nat):=ws.flatMap fun w=>(rT room w).map fun j=>w++[j]
noncomputable def cB (room:List Nat):Nat->List (List Nat)
 | 0=>[[]]
 | i + 1=>grow room (cB room i)
noncomputable def words:Nat->List Nat->Nat
 | 0,_=>1
 | n + 1,r=>(((LO r.length).filter fun j=>decide (0 < r.getD j 0)).map fun j=>words n (r.set j (r.getD j 0 - 1))).sum
noncomputable def left (room w:List Nat):List Nat:=(LO room.length).map fun j=>room.getD j 0 - w.count j
theorem lU (room w:List Nat):(left room w).length=room.length:=by unfold left; rw [LF,Nb]
theorem zR (room w:List Nat) (j:Nat) (h:j < room.length):(left room w).getD j 0=room.getD j 0 - w.count j:=by
 unfold left
 rw [LV,LS,M8 h]
 rfl
theorem EZ (room w:List Nat) (j:Nat) (h:j < room.length):left room (w++[j])=(left room w).set j ((left room w).getD j 0 - 1):=by
 apply Od
 intro k
 by_cases hk:k < room.length
 ·have e1:(left room (w++[j]))[k]?=some (room.getD k 0 - (w++[j]).count k):=by
   unfold left
   rw [LS,M8 hk]
   rfl
  rw [e1,OE,zR room w j h,lU]
  by_cases hjk:j=k
  ·subst hjk
   rw [if_pos rfl,if_pos h,Rb]
   simp
   omega
  ·rw [if_neg hjk]
   unfold left
   rw [LS,M8 hk,Rb]
   simp [UE,hjk]
 ·rw [Mn (by rw [lU]; omega),Mn (by rw [NI,lU]; omega)]
theorem CO (room w:List Nat):rT room w=(LO (left room w).length).filter fun j=>decide (0 < (left room w).getD j 0):=by
 unfold rT
 rw [lU]
 apply List.filter_congr
 intro j hj
 rw [Nf] at hj
 rw [zR room w j hj]
 by_cases h:w.count j < room.getD j 0
 ·simp [h]
  omega
 ·simp [h]
  omega
noncomputable def rV (room:List Nat):Nat->List (List Nat)->List (List Nat)
 | 0,ws=>ws
 | n + 1,ws=>rV room n (grow room ws)
theorem nJ (room:List Nat):∀ n i,rV room n (cB room i)=cB room (i + n)
 | 0,i=>rfl
 | n + 1,i=>by
  rw [rV,show grow room (cB room i)=cB room (i + 1) from rfl,nJ room n (i + 1)]
  congr 1
  omega
theorem mS (f:List Nat->Nat) (room:List Nat):∀ ws:List (List Nat),((grow room ws).map f).sum=(ws.map fun w=>((rT room w).map fun j=>f (w++[j])).sum).sum
 | []=>rfl
 | w :: r=>by
  have ih:=mS f room r
  unfold grow at ih ⊢
  rw [Rc,Ma,Ni,ih,LZ,Mg,Oq]
  rfl
theorem qO (room:List Nat):∀ (n:Nat) (ws:List (List Nat)),(rV room n ws).length=(ws.map fun w=>words n (left room w)).sum
 | 0,ws=>by
  rw [rV]
  induction ws with
  | nil=>rfl
  | cons w r ih=>rw [Mh,ih,LZ,Mg,words]; omega
 | n + 1,ws=>by
  rw [rV,qO room n,mS]
  congr 1
  apply Nq
  intro w _
  rw [words,CO]
  congr 1
  apply Nq
  intro j hj
  have hj':=N9.mp hj
  rw [Nf,lU] at hj'
  rw [EZ room w j hj'.1]
noncomputable def cH (r:List Nat):Nat:=(r.map aR).foldr (· * ·) 1
theorem gO (a:Nat) (r:List Nat):cH (a :: r)=aR a * cH r:=rfl
theorem xG:∀ r,0 < cH r
 | []=>by decide
 | a :: r=>TZ (iQ a) (xG r)
theorem xH:∀ (r:List Nat) (j:Nat),j < r.length->0 < r.getD j 0->cH r=cH (r.set j (r.getD j 0 - 1)) * r.getD j 0
 | [],j,h,_=>absurd h (by simp)
 | a :: r,0,_,h=>by
  have h':0 < a:=h
  show cH (a :: r)=cH ((a - 1) :: r) * a
  rw [gO,gO]
  obtain ⟨b,rfl⟩:∃ b,a=b + 1:=⟨a - 1,by omega⟩
  rw [show b + 1 - 1=b by omega,aR]
  simp only [NB,NN,Oe]
 | a :: r,j + 1,h,hp=>by
  have ih:=xH r j (by simpa using h) hp
  show cH (a :: r)=cH (a :: r.set j (r.getD j 0 - 1)) * r.getD j 0
  rw [gO,gO,ih]
  simp only [NB,NN,Oe]
theorem ww:∀ (r:List Nat) (j:Nat),j < r.length->0 < r.getD j 0->(r.set j (r.getD j 0 - 1)).sum + 1=r.sum
 | [],j,h,_=>absurd h (by simp)
 | a :: r,0,_,h=>by
  have h':0 < a:=h
  show ((a - 1) :: r).sum + 1=(a :: r).sum
  rw [Mg,Mg]
  omega
 | a :: r,j + 1,h,hp=>by
  have ih:=ww r j (by simpa using h) hp
  show (a :: r.set j (r.getD j 0 - 1)).sum + 1=(a :: r).sum
  rw [Mg,Mg]
  omega
theorem wx (c:Nat) (f:Nat->Nat):∀ l:List Nat,(l.map f).sum * c=(l.map fun j=>f j * c).sum
 | []=>by simp
 | a :: r=>by rw [LZ,Mg,T2,wx c f r,LZ,Mg]
theorem zT (r:List Nat):(((LO r.length).filter fun j=>decide (0 < r.getD j 0)).map fun j=>r.getD j 0).sum=r.sum:=by
 have go:∀ (l:List Nat) (g:Nat->Nat),((l.filter fun j=>decide (0 < g j)).map g).sum=(l.map g).sum:=by
  intro l g
  induction l with
  | nil=>rfl
  | cons a t ih=>
   rw [NR]
   by_cases h:0 < g a
   ·rw [if_pos (by simpa using h),LZ,Mg,ih,LZ,Mg]
   ·rw [if_neg (by simpa using h),ih,LZ,Mg]
    omega
 rw [go]
 congr 1
 apply Od
 intro k
 rw [LS]
 by_cases hk:k < r.length
 ·rw [M8 hk,Lz hk]
  show some (r.getD k 0)=some r[k]
  rw [LV,Lz hk]
  rfl
 ·rw [Mn (by simpa using hk),Mn (by simpa using hk)]
  rfl
theorem pA:∀ (n:Nat) (r:List Nat),r.sum=n->words n r * cH r=aR n
 | 0,r,h=>by
  have:cH r=1:=by
   induction r with
   | nil=>rfl
   | cons a t ih=>
    rw [Mg] at h
    have ha:a=0:=by omega
    subst ha
    rw [gO,ih (by omega)]
    rfl
  rw [words,this]
  rfl
 | n + 1,r,h=>by
  rw [words,wx]
  have e:((LO r.length).filter fun j=>decide (0 < r.getD j 0)).map (fun j=>words n (r.set j (r.getD j 0 - 1)) * cH r)=((LO r.length).filter fun j=>decide (0 < r.getD j 0)).map (fun j=>r.getD j 0 * aR n):=by
   apply Nq
   intro j hj
   have hj':=N9.mp hj
   rw [Nf] at hj'
   have hp:0 < r.getD j 0:=of_decide_eq_true hj'.2
   rw [xH r j hj'.1 hp,<-NB,pA n _ (by have:=ww r j hj'.1 hp; omega),NN]
  rw [e,<-wx,zT,h,aR,NN]
theorem Gp (room:List Nat):left room []=room:=by
 apply Od
 intro k
 unfold left
 rw [LS]
 by_cases hk:k < room.length
 ·rw [M8 hk,Lz hk]
  show some (room.getD k 0 - ([]:List Nat).count k)=some room[k]
  rw [LV,Lz hk]
  simp
 ·rw [Mn (by simpa using hk),Mn (by simpa using hk)]
  rfl
theorem E1 (room:List Nat):(cB room room.sum).length * cH room=aR room.sum:=by
 have e:=nJ room room.sum 0
 rw [Nat.zero_add] at e
 rw [<-e,qO]
 show (List.map (fun w=>words room.sum (left room w)) [[]]).sum * cH room=aR room.sum
 rw [LZ,O5,Mg,O8,Gp,Nat.add_zero]
 exact pA _ _ rfl
structure HX (room:List Nat) (i:Nat) (w:List Nat):Prop where
 len:w.length=i
 all:∀ j∈w,j < room.length
 cnt:∀ j,j < room.length->w.count j<=room.getD j 0
theorem iq (room:List Nat):∀ i,∀ w∈cB room i,HX room i w
 | 0,w,h=>by
  have:w=[]:=by simpa [cB] using h
  subst this
  exact ⟨rfl,fun _ h=>(nomatch h),fun j _=>by simp⟩
 | i + 1,w,h=>by
  rw [cB,grow,Ue] at h
  obtain ⟨v,hv,h⟩:=h
  obtain ⟨j,hj,rfl⟩:=NC.mp h
  have b:=iq room i v hv
  have hj':=N9.mp hj
  rw [Nf] at hj'
  have hc:v.count j < room.getD j 0:=of_decide_eq_true hj'.2
  refine ⟨by rw [LY,b.len]; rfl,fun k hk=>?_,fun k hk=>?_⟩
  ·rcases Mm.mp hk with hk | hk
   ·exact b.all k hk
   ·rw [LB] at hk
    omega
  ·rw [Rb]
   by_cases e:j=k
   ·subst e
    rw [List.count_singleton_self]
    omega
   ·have:=b.cnt k hk
    rw [List.count_singleton,if_neg (by simpa using e)]
    omega
theorem uN:∀ (n:Nat) (w:List Nat),(∀ j∈w,j < n)->((LO n).map fun j=>w.count j).sum=w.length
 | n,[] , _=>by
  have:((LO n).map fun j=>([]:List Nat).count j)=(LO n).map fun _=>0:=by simp
  rw [this]
  have go:∀ m,((LO m).map fun _=>0).sum=0:=by
   intro m
   induction m with
   | zero=>rfl
   | succ m ih=>rw [OY,Ma,Ni,ih]; rfl
  exact go n
 | n,a :: w,h=>by
  have ih:=uN n w fun j hj=>h j (LJ _ hj)
  have ha:a < n:=h a LG
  rw [Mh,<-ih]
  clear ih h
  have go:∀ m,((LO m).map fun j=>(a :: w).count j).sum=((LO m).map fun j=>w.count j).sum + (if a < m then 1 else 0):=by
   intro m
   induction m with
   | zero=>simp
   | succ m ih=>
    rw [OY,Ma,Ni,Ma,Ni,ih]
    simp only [LZ,O5,Mg,O8,UE]
    by_cases e:a=m
    ·subst e
     rw [if_neg (Nz a),if_pos (Nm a),if_pos (beq_self_eq_true a)]
     omega
    ·rw [if_neg (show ¬ (a == m)=true by simpa using e)]
     by_cases hl:a < m
     ·rw [if_pos hl,if_pos (show a < m + 1 by omega)]
      omega
     ·rw [if_neg hl,if_neg (show ¬ a < m + 1 by omega)]
      omega
  rw [go,if_pos ha]
theorem pB (room:List Nat):(LO room.length).map (fun j=>room.getD j 0)=room:=by
 apply Od
 intro k
 rw [LS]
 by_cases hk:k < room.length
 ·rw [M8 hk,Lz hk]
  show some (room.getD k 0)=some room[k]
  rw [LV,Lz hk]
  rfl
 ·rw [Mn (by simpa using hk),Mn (by simpa using hk)]
  rfl
end KM
end
section
namespace KM
theorem E2 (n k:Nat):choose n k<=2 ^ n:=by
 induction n generalizing k with
 | zero=>cases k <;> simp [choose]
 | succ n ih=>
  cases k with
  | zero=>rw [j4]; exact Nat.one_le_two_pow
  | succ k=>
   rw [choose,Nat.pow_succ]
   have:=ih k
   have:=ih (k + 1)
   omega
theorem zU {n i:Nat} (h:i + 1<=n):((choose n i:Nat):Int) * ((n:Int) - (0 + (i:Int))) / (0 + (i:Int) + 1)=((choose n (i + 1):Nat):Int):=by
 have e1:(n:Int) - (0 + (i:Int))=((n - i:Nat):Int):=by omega
 have e2:(0 + (i:Int) + 1)=((i + 1:Nat):Int):=by omega
 rw [e1,e2,<-RQ,<-Ug,Bj n i h]
theorem sR (n:Nat) (ss:List Nat) (h:ss.sum<=n):ck n ss * cH (ss++[n - ss.sum])=aR n:=by
 have e:cH (ss++[n - ss.sum])=(ss.map aR).foldr (· * ·) 1 * aR (n - ss.sum):=by
  generalize n - ss.sum=k
  induction ss with
  | nil=>simp [cH]
  | cons a r ih=>
   have hr:r.sum<=n:=by rw [Mg] at h; omega
   show aR a * cH (r++[k])=aR a * (r.map aR).foldr (· * ·) 1 * aR k
   rw [ih hr,NB]
 rw [e]
 exact pj ss n h
theorem nK {n:Nat} {ss:List Nat} (h:ss.sum<=n):(cB (ss++[n - ss.sum]) n).length=ck n ss:=by
 have e1:=sR n ss h
 have hs:(ss++[n - ss.sum]).sum=n:=by
  rw [Ni,Mg,O8]
  omega
 have e2:=E1 (ss++[n - ss.sum])
 rw [hs] at e2
 exact Q1 (xG _) (e2.trans e1.symm)
theorem words_pos (n:Nat) (r:List Nat) (h:r.sum=n):0 < words n r:=by
 have e:=pA n r h
 have f:=iQ n
 rcases Pq (words n r) with z | z
 ·rw [z,Nat.zero_mul] at e
  omega
 ·exact z
theorem Gq {room w:List Nat} {i:Nat} (h:HX room i w):(left room w).sum + i=room.sum:=by
 have go:∀ m,m<=room.length->((LO m).map fun j=>room.getD j 0 - w.count j).sum + ((LO m).map fun j=>w.count j).sum=((LO m).map fun j=>room.getD j 0).sum:=by
  intro m
  induction m with
  | zero=>intro _; rfl
  | succ m ih=>
   intro hm
   have:=ih (by omega)
   have:=h.cnt m (by omega)
   simp only [OY,Ma,Ni,LZ,O5,Mg,O8] at *
   omega
 have e:=go room.length (LC _)
 rw [uN room.length w h.all,pB,h.len] at e
 exact e
theorem Gr {room:List Nat} {i:Nat} (h:i<=room.sum):(cB room i).length<=(cB room room.sum).length:=by
 have e:=nJ room (room.sum - i) i
 rw [show i + (room.sum - i)=room.sum by omega] at e
 rw [<-e,qO]
 have hb:=iq room i
 generalize cB room i=ws at hb
 induction ws with
 | nil=>exact MJ _
 | cons w r ih=>
  rw [LZ,Mg,Mh]
  have:=ih fun v hv=>hb v (LJ _ hv)
  have:=words_pos (room.sum - i) (left room w) (by have:=Gq (hb w LG); omega)
  omega
theorem Kf:∀ (rs:List Nat) (m:Nat),rs.foldl (fun f s=>f / aR s) (m * cH rs)=m
 | [],m=>by simp [cH]
 | a :: r,m=>by
  rw [Uv,gO]
  have e:m * (aR a * cH r) / aR a=m * cH r:=by
   rw [<-NB,NN m,NB,Nat.mul_div_cancel_left _ (iQ a)]
  rw [e]
  exact Kf r m
noncomputable def fw (room w:List Nat) (k:Nat):List Nat:=(LO k).filter fun j=>decide (w.count j < room.getD j 0)
theorem sS (room w:List Nat):fw room w room.length=rT room w:=rfl
theorem zV (room w:List Nat) (k:Nat):fw room w (k + 1)=fw room w k++(if w.count k < room.getD k 0 then [k] else []):=by
 unfold fw
 rw [OY,QS]
 by_cases h:w.count k < room.getD k 0
 ·rw [if_pos h,Py (by simpa using h)]
  rfl
 ·rw [if_neg h,Pz (by simpa using h)]
  rfl
theorem E3 (room:List Nat) (ws:List (List Nat)) (i:Nat) (w:List Nat) (h:ws[i]?=some w):grow room (ws.take (i + 1))=grow room (ws.take i)++(rT room w).map fun j=>w++[j]:=by
 unfold grow
 rw [Nr,h,Qy]
 simp
theorem zW (room:List Nat) (ws:List (List Nat)) (i:Nat):(grow room (ws.take i)).length<=(grow room ws).length:=by
 have:grow room ws=grow room (ws.take i)++grow room (ws.drop i):=by
  unfold grow
  rw [<-Qy,Ov]
 rw [this,LY]
 omega
end KM
end
namespace L2
open PySem PyProof.Rows
section
variable {K:Fg} {vs:List V} {H:Hp} {Q:VK} {E:XK}
noncomputable def E4:V->Bool
 | .int _=>true
 | _=>false
noncomputable def cx:V->Int->Int->Bool
 | .int i,lo,hi=>decide (lo<=i) && decide (i<=hi)
 | _,_,_=>false
noncomputable def fg (K:Fg) (H:Hp) (x:V):Prop:=∃ t b1 b2,fL K H x t/\MG K t (.type "int")=some b1/\MG K t (.type "bool")=some b2/\(b1 && !b2)=E4 x
theorem fg.int {K:Fg} {H:Hp} (i:Int):fg K H (.int i):=⟨_,_,_,.int i,Bd K,zA K,rfl⟩
theorem E5 {K:Fg} {H H':Hp} {x:V} {t:Value} (h:fL K H x t) (s:ap H H'):fL K H' x t:=by
 cases h with
 | non=>exact .non
 | bl b=>exact .bl b
 | int i=>exact .int i
 | str x=>exact .str x
 | flt x=>exact .flt x
 | lst e=>exact .lst (s _ _ e)
 | frz e=>exact .frz (s _ _ e)
 | tup e=>exact .tup (s _ _ e)
 | dK e=>exact .dK (s _ _ e)
 | dT e=>exact .dT (s _ _ e)
 | ins e cl ha hn htk hm=>exact .ins (s _ _ e) cl ha hn htk hm
theorem fg.same {K:Fg} {H H':Hp} {x:V} (h:fg K H x) (s:ap H H'):fg K H' x:=by
 obtain ⟨t,b1,b2,ty,r⟩:=h
 exact ⟨t,b1,b2,E5 ty s,r⟩
noncomputable def IJ (K:Fg):Sp:=fun vs H Q _=>∃ x,vs=[x]/\fg K H x/\Q (.bl (E4 x)) H
noncomputable abbrev ir (K:Fg):Sp:=IJ K
noncomputable def uO (K:Fg):TS:=(aI (mK (tCB (lO K) (aa (ab 0) (aa (tC (.ty "int")) af))) (yX (tCB (lO K) (aa (ab 0) (aa (tC (.ty "bool")) af))))))
theorem Bk (h:ir K vs H Q E):uO K { nx:=fun _ H'=>Q .non H',rt:=Q } (start ["thing"] vs) H:=by
 obtain ⟨x,rfl,⟨t,b1,b2,ty,k1,k2,e⟩,q⟩:=h
 refine ⟨_,rfl,_,_,_,_,rfl,ty,k1,_,rfl,jb (fun c=>?_) (fun c=>?_)⟩
 ·subst c
  refine ⟨_,rfl,_,_,_,_,rfl,ty,k2,_,rfl,?_⟩
  rw [<-e,PX] at q
  exact q
 ·subst c
  rw [<-e,Qz] at q
  exact q
noncomputable def Gs (K:Fg):Sp:=fun vs H Q _=>∃ x lo hi,vs=[x,.int lo,.int hi]/\fg K H x/\Q (.bl (cx x lo hi)) H
noncomputable abbrev dU (K:Fg):Sp:=Gs K
noncomputable def sT (K:Fg):TS:=(aI (mK (au (ir K) [] E0 (aa (ab 0) af)) (Ev (rI0 fun i j=>.bl (decide (i<=j))) (rI0 fun i j=>.bl (decide (i<=j))) (ab 1) (ab 0) (ab 2))))
theorem zX (h:dU K vs H Q E):sT K { nx:=fun _ H'=>Q .non H',rt:=Q } (start ["thing","least","most"] vs) H:=by
 obtain ⟨x,lo,hi,rfl,pl,q⟩:=h
 refine ⟨_,rfl,x,rfl,pl,_,rfl,jb (fun c=>?_) (fun c=>?_)⟩
 ·cases x with
  | int i=>
   refine ⟨_,rfl,_,rfl,_,_,rfl,rfl,_,rfl,jb (fun d=>?_) (fun d=>?_)⟩
   ·refine ⟨_,rfl,_,_,rfl,rfl,?_⟩
    have q':Q (.bl (decide (lo<=i) && decide (i<=hi))) H:=q
    rw [d,PX] at q'
    exact q'
   ·have q':Q (.bl (decide (lo<=i) && decide (i<=hi))) H:=q
    rw [d,Qz] at q'
    exact q'
  | _=>cases c
 ·cases x with
  | int i=>cases c
  | _=>exact q
noncomputable def nL (zs:List V):Int:=(zs.map fun z=>match z with | .int i=>i | _=>0).sum
noncomputable def HY (x:V) (zs:List V):Bool:=match x with
 | .int c=>(decide (0<=c) && decide (c<=12)) && (decide (1<=zs.length) && decide (zs.length<=5)) && zs.all (fun z=>cx z 0 c) && decide (nL zs<=c)
 | _=>false
theorem wz {zs:List V} {lo hi:Int} (h:zs.all (fun z=>cx z lo hi)=true):∃ ns:List Int,zs=ns.map V.int/\nL zs=ns.sum:=by
 induction zs with
 | nil=>exact ⟨[],rfl,rfl⟩
 | cons z r ih=>
  rw [Pf,M7] at h
  obtain ⟨ns,e,es⟩:=ih h.2
  cases z with
  | int i=>
   refine ⟨i :: ns,by rw [e]; rfl,?_⟩
   show i + nL r=(i :: ns).sum
   rw [es,Mg]
  | _=>exact absurd h.1 LM
noncomputable def HZ (K:Fg) (H:Hp) (y:V) (zs:Option (List V)):Prop:=match zs with
 | some zs=>∃ a,y=.ref a/\(H a=some (.lst zs)\/∃ o,H a=some (.frz o (.lst zs)))/\zs.length<=1000/\∀ z∈zs,fg K H z
 | none=>∃ t,fL K H y t/\MG K t (.type "list")=some false
noncomputable def uP (x:V):Option (List V)->Bool
 | some zs=>HY x zs
 | none=>false
noncomputable def Kg (K:Fg):Sp:=fun vs H Q _=>∃ x y zs,vs=[x,y]/\fg K H x/\HZ K H y zs/\∀ H',ap H H'->Q (.bl (uP x zs)) H'
noncomputable abbrev pD (K:Fg):Sp:=Kg K
noncomputable def xI (K:Fg):TS:=(ar (bB (eU (tB (au (dU K) [] E0 (aa (ab 0) (aa (tC (.int 0)) (aa (tC (.int 12)) af)))))) (aI (tC (.bl false))) bh)
 (ar (bB (tOr (eU (tB (tCB (lO K) (aa (ab 1) (aa (tC (.ty "list")) af))))) (eU (tB (au (dU K) [] E0 (aa (tCB (gi K) (aa (ab 1) af)) (aa (tC (.int 1)) (aa (tC (.int 5)) af))))))) (aI (tC (.bl false))) bh)
 (aI (mK (tCB (CB K) (aa (bZ (du K (ab 1)) (fun _ _ _ _=>(am 0)) (fun _ _ _ _=>bK) (fun _ _ _ _=>(au (dU K) [] E0 (aa (ab 0) (aa (tC (.int 0)) (aa (ab 1) af))))) [none,some 0]) af)) (tOp (rI0 fun i j=>.bl (decide (i<=j))) (tCB (tL K) (aa (ab 1) af)) (ab 0))))))
theorem CP (h:pD K vs H Q E):xI K { nx:=fun _ H'=>Q .non H',rt:=Q } (start ["cards","sizes"] vs) H:=by
 obtain ⟨x,y,zs,rfl,px,hz,q⟩:=h
 refine ⟨_,rfl,x,0,12,rfl,px,_,rfl,jb (fun c=>?_) (fun c=>?_)⟩
 ·
  have e:uP x zs=false:=by
   have c':cx x 0 12=false:=by simpa using c
   cases zs with
   | none=>rfl
   | some zs=>
    cases x with
    | int i=>
     show ((decide (0<=i) && decide (i<=12)) && (decide (1<=zs.length) && decide (zs.length<=5)) && zs.all (fun z=>cx z 0 i) && decide (nL zs<=i))=false
     rw [show (decide (0<=i) && decide (i<=12))=false from c']
     rfl
    | _=>rfl
  have:=q H (ap.refl H)
  rw [e] at this
  exact this
 ·have c':cx x 0 12=true:=by simpa using c
  cases x with
  | int i=>
   cases zs with
   | none=>
    obtain ⟨t,ty,k⟩:=hz
    refine ⟨_,rfl,_,_,_,_,rfl,ty,k,_,rfl,qG (qG ?_)⟩
    exact q H (ap.refl H)
   | some zs=>
    obtain ⟨a,rfl,ha,hlen,hp⟩:=hz
    have hS:SqL K H a zs:=ha.elim (fun h=>.inl (.inl h)) (fun h=>.inl (.inr h))
    have ty:fL K H (.ref a) (.type "list"):=ha.elim (fun h=>.lst h) (fun ⟨o,h⟩=>.frz h)
    refine ⟨_,rfl,_,_,_,_,rfl,ty,sN K,_,rfl,oT ?_⟩
    refine ⟨_,rfl,a,_,rfl,.inl hS,_,1,5,rfl,fg.int _,_,rfl,jb (fun d=>?_) (fun d=>?_)⟩
    ·have e:uP (.int i) (some zs)=false:=by
      have d0:cx (.int (zs.length:Int)) 1 5=false:=by simpa using d
      have d':(decide ((1:Int)<=(zs.length:Int)) && decide ((zs.length:Int)<=5))=false:=d0
      show ((decide (0<=i) && decide (i<=12)) && (decide (1<=zs.length) && decide (zs.length<=5)) && zs.all (fun z=>cx z 0 i) && decide (nL zs<=i))=false
      have e1:decide (1<=zs.length)=decide ((1:Int)<=(zs.length:Int)):=decide_eq_decide.mpr (by omega)
      have e2:decide (zs.length<=5)=decide ((zs.length:Int)<=5):=decide_eq_decide.mpr (by omega)
      rw [e1,e2,d',QB]
      rfl
     have:=q H (ap.refl H)
     rw [e] at this
     exact this
    ·have d0:cx (.int (zs.length:Int)) 1 5=true:=by simpa using d
     have d':(decide ((1:Int)<=(zs.length:Int)) && decide ((zs.length:Int)<=5))=true:=d0
     have e0:uP (.int i) (some zs)=(zs.all (fun z=>cx z 0 i) && decide (nL zs<=i)):=by
      show ((decide (0<=i) && decide (i<=12)) && (decide (1<=zs.length) && decide (zs.length<=5)) && zs.all (fun z=>cx z 0 i) && decide (nL zs<=i))=_
      have e1:decide (1<=zs.length)=decide ((1:Int)<=(zs.length:Int)):=decide_eq_decide.mpr (by omega)
      have e2:decide (zs.length<=5)=decide ((zs.length:Int)<=5):=decide_eq_decide.mpr (by omega)
      rw [e1,e2,d',show (decide (0<=i) && decide (i<=12))=true from c',PX,PX]
     rw [e0] at q
     refine ⟨_,rfl,a,rfl,⟨_,hS⟩,fun p hp'=>xw (K:=K) (a:=a) (xs:=zs) (fun k acc H2=>acc=((zs.take k).map fun z=>cx z 0 i).map V.bl/\ap H H2/\H2 p=some (.lst acc)) ⟨rfl,aZ hp' _,az⟩ ?_ ?_ (small hlen) ?_ ?_⟩
     ·rintro k acc H2 hk ⟨rfl,s2,e2⟩
      exact ⟨e2,by rw [LF,LF,M6]; omega⟩
     ·rintro k acc H2 hk ⟨rfl,s2,e2⟩
      exact s2.seq hS
     ·rintro _ _ _ _ k z acc H2 hzk ⟨rfl,s2,e2⟩
      refine ⟨_,rfl,_,rfl,z,0,i,rfl,(hp z (LU hzk)).same s2,e2,?_,s2.upd hp' _,az⟩
      rw [Nr,hzk,Ma,Ma]
      rfl
     ·rintro acc H2 ⟨rfl,s2,e2⟩
      rw [Mw] at e2
      refine ⟨p,_,rfl,SqL.of e2,_,rfl,?_⟩
      have ea:(zs.map fun z=>cx z 0 i).all id=zs.all fun z=>cx z 0 i:=by
       rw [Qk]
       rfl
      rw [ea]
      refine jb (fun g=>?_) (fun g=>?_)
      ·obtain ⟨ns,en,es⟩:=wz g
       rw [g,PX,es] at q
       refine ⟨_,rfl,a,ns,rfl,by rw [<-en]; exact s2.seq hS,_,rfl,_,_,rfl,rfl,?_⟩
       exact q H2 s2
      ·rw [g,Qz] at q
       exact q H2 s2
  | _=>exact absurd c' LM
noncomputable def E6:Sp:=fun vs H Q _=>∃ n k:Nat,vs=[.int n,.int k]/\k<=n/\n<=50/\Q (.int (KM.choose n k:Nat)) H
noncomputable abbrev pE (K:Fg):Sp:=E6
noncomputable def xJ (K:Fg):TS:=(ar (aE (tC (.int 1)) (am 2))
 (ar (cS (ff (aa (ab 1) af)) (am 3) (aE (tOp (rI em fun i j=>.int (i / j)) (tOp (rI Oz fun i j=>.int (i * j)) (ab 2) (tOp (rI0 fun i j=>.int (i - j)) (ab 0) (ab 3))) (tOp (rI0 fun i j=>.int (i + j)) (ab 3) (tC (.int 1)))) (am 2)))
 (aI (ab 2))))
theorem CQ (h:pE K vs H Q E):xJ K { nx:=fun _ H'=>Q .non H',rt:=Q } (start ["many","taken","ways","step"] vs) H:=by
 obtain ⟨n,k,rfl,hk,hn,q⟩:=h
 refine ⟨_,rfl,_,rfl,by omega,by omega,qD (lo:=0) (n:=((k:Nat):Int).toNat) (fun i σ H2=>∃ st,σ=[some (.int n),some (.int k),some (.int (KM.choose n i:Nat)),st]/\H2=H) ⟨none,by rw [KM.j4]; rfl,rfl⟩ ?_ ?_⟩
 ·rintro i σ H2 hi ⟨st,rfl,rfl⟩
  have hi':i + 1<=n:=by omega
  refine ⟨_,rfl,_,rfl,_,rfl,_,_,rfl,rfl,_,_,rfl,rfl,.of_right (QW (by omega) (by omega)),_,rfl,_,_,rfl,rfl,_,_,rfl,rfl,⟨by omega,by omega⟩,?_⟩
  dsimp only
  rw [KM.zU hi']
  exact ⟨_,rfl,rfl⟩
 ·rintro σ H2 ⟨st,rfl,rfl⟩
  refine ⟨_,rfl,?_⟩
  rw [show ((k:Nat):Int).toNat=k by omega]
  exact q
structure kM (c:Nat) (ss:List Nat):Prop where
 c12:c<=12
 l1:1<=ss.length
 l5:ss.length<=5
 sum:ss.sum<=c
noncomputable def av (ss:List Nat):List V:=ss.map fun (s:Nat)=>V.int ((s:Nat):Int)
theorem eM (ss:List Nat):av ss=(ss.map fun (s:Nat)=>((s:Nat):Int)).map V.int:=by unfold av; rw [Oq]; rfl
theorem bj (ss:List Nat):(av ss).length=ss.length:=LF _
theorem iR:∀ ss:List Nat,(ss.map fun (s:Nat)=>((s:Nat):Int)).sum=((ss.sum:Nat):Int)
 | []=>rfl
 | a :: r=>by rw [LZ,Mg,Mg,iR r]; omega
theorem je:∀ {ss:List Nat} {s:Nat},s∈ss->s<=ss.sum
 | a :: r,s,h=>by
  rw [Mg]
  rcases LA.mp h with rfl | h
  ·omega
  ·have:=je h
   omega
theorem Gu {c:Nat} {ss:List Nat} (p:kM c ss):HY (.int c) (av ss)=true:=by
 have h1:=p.c12
 have h2:=p.l1
 have h3:=p.l5
 have h4:=p.sum
 show ((decide ((0:Int)<=(c:Int)) && decide ((c:Int)<=12)) && (decide (1<=(av ss).length) && decide ((av ss).length<=5)) && (av ss).all (fun z=>cx z 0 c) && decide (nL (av ss)<=c))=true
 have e1:(av ss).all (fun z=>cx z 0 c)=true:=by
  unfold av
  rw [Qk,Ua]
  intro s hs
  have:=je hs
  show (decide ((0:Int)<=(s:Int)) && decide ((s:Int)<=(c:Int)))=true
  rw [decide_eq_true (by omega),decide_eq_true (by omega)]
  rfl
 have e2:nL (av ss)=((ss.sum:Nat):Int):=by
  rw [<-iR]
  unfold nL av
  rw [Oq]
  rfl
 rw [e1,e2,bj,decide_eq_true (by omega),decide_eq_true (by omega),decide_eq_true h2,decide_eq_true h3,decide_eq_true (by omega)]
 rfl
theorem Gv {K:Fg} {H:Hp} {a:Addr} {ss:List Nat} (h:H a=some (.lst (av ss))) (hl:ss.length<=1000):HZ K H (.ref a) (some (av ss)):=
 ⟨a,rfl,.inl h,by rw [bj]; exact hl,fun z hz=>by
  obtain ⟨s,_,rfl⟩:=NC.mp hz
  exact fg.int _⟩
noncomputable def K8 (K:Fg):Sp:=fun vs H Q _=>∃ (c:Nat) (a:Addr) (ss:List Nat),vs=[.int c,.ref a]/\H a=some (.lst (av ss))/\kM c ss/\∀ H',ap H H'->Q (.int (KM.ck c ss:Nat)) H'
noncomputable abbrev nN (K:Fg):Sp:=K8 K
noncomputable def uQ (K:Fg):TS:=(ar (bB (eU (tB (au (pD K) [] E0 (aa (ab 0) (aa (ab 1) af))))) qz bh)
 (ar (aE (tC (.int 1)) (am 2))
 (ar (aE (ab 0) (am 3))
 (ar (cS (du K (ab 1)) (am 4) (ar (aE (tOp (rI Oz fun i j=>.int (i * j)) (ab 2) (au (pE K) [] E0 (aa (ab 3) (aa (ab 4) af)))) (am 2))
 (aE (tOp (rI0 fun i j=>.int (i - j)) (ab 3) (ab 4)) (am 3))))
 (aI (ab 2))))))
theorem Bl (h:nN K vs H Q E):uQ K { nx:=fun _ H'=>Q .non H',rt:=Q } (start ["cards","sizes","many","left","size"] vs) H:=by
 obtain ⟨c,a,ss,rfl,ha,p,q⟩:=h
 have h12:=p.c12
 have h5:=p.l5
 refine ⟨_,rfl,_,rfl,_,_,some (av ss),rfl,fg.int _,Gv ha (by omega),fun H1 s1=>⟨_,rfl,?_⟩⟩
 rw [show uP (.int c) (some (av ss))=true from Gu p]
 refine oT ?_
 refine ⟨_,rfl,?_⟩
 refine ⟨_,rfl,a,rfl,⟨_,SqL.of (s1 _ _ ha)⟩,tF (K:=K) (a:=a) (xs:=av ss) (fun i σ H2=>∃ (m l:Nat) (st:Option V),σ=[some (.int c),some (.ref a),some (.int m),some (.int l),st]/\H2=H1/\m * KM.ck l (ss.drop i)=KM.ck c ss/\(ss.drop i).sum<=l/\l<=12)
  ⟨1,c,none,rfl,rfl,by rw [T1]; rfl,p.sum,h12⟩ (fun i σ H2 _ ⟨_,_,_,_,e,_⟩=>by subst e; exact SqL.of (s1 _ _ ha)) ?_ ?_⟩
 ·rintro i x σ H2 hx ⟨m,l,st,rfl,rfl,hm,hs,hl⟩
  obtain ⟨z,hz,rfl⟩:∃ z:Nat,ss[i]?=some z/\x=.int (z:Int):=by
   unfold av at hx
   rw [LS] at hx
   cases e:ss[i]? with
   | none=>rw [e] at hx; cases hx
   | some z=>rw [e] at hx; exact ⟨z,rfl,(LR hx).symm⟩
  have hd:ss.drop i=z :: ss.drop (i + 1):=by
   obtain ⟨h1,h2⟩:=LD.mp hz
   rw [Rh h1,h2]
  rw [hd,Mg] at hs
  rw [hd,KM.ck] at hm
  have hle:=KM.E2 l z
  have h2:(2:Nat) ^ l<=2 ^ 12:=Nat.pow_le_pow_right (by decide) hl
  refine ⟨_,rfl,_,rfl,_,rfl,l,z,rfl,by omega,by omega,_,_,rfl,rfl,.of_right (QW (by omega) (by omega)),?_⟩
  refine ⟨_,rfl,_,rfl,_,_,rfl,rfl,m * KM.choose l z,l - z,some (.int (z:Int)),?_,rfl,by rw [NB]; exact hm,by omega,by omega⟩
  have e1:((m:Nat):Int) * ((KM.choose l z:Nat):Int)=((m * KM.choose l z:Nat):Int):=(RQ _ _).symm
  have e2:((l:Nat):Int) - ((z:Nat):Int)=((l - z:Nat):Int):=by omega
  dsimp only
  rw [e1,e2]
  rfl
 ·rintro σ H2 ⟨m,l,st,rfl,rfl,hm,hs,hl⟩
  refine ⟨_,rfl,?_⟩
  rw [bj,List.drop_length,KM.ck,Nat.mul_one] at hm
  rw [hm]
  exact q _ s1
noncomputable def bt (H:Hp) (p:Addr) (ws:List (List Nat)):Prop:=∃ rs:List Addr,H p=some (.lst (rs.map V.ref))/\Paired (fun (a:Addr) (w:List Nat)=>H a=some (.tup (av w))) rs ws
theorem j5 {H H':Hp} {rs:List Addr} {ws:List (List Nat)} (h:Paired (fun (a:Addr) (w:List Nat)=>H a=some (.tup (av w))) rs ws) (s:∀ a xs,H a=some (.tup xs)->H' a=some (.tup xs)):Paired (fun (a:Addr) (w:List Nat)=>H' a=some (.tup (av w))) rs ws:=
 Paired.mapP h fun a w e=>s _ _ e
theorem ln {α β:Type} {F:α->β->Prop}:∀ {l:List α} {m:List β} {i:Nat} {a:α},Paired F l m->l[i]?=some a->∃ b,m[i]?=some b/\F a b
 | _,_,_,_,.nil,h=>by simp at h
 | _,_,0,_,.cons r _,h=>by simp at h; subst h; exact ⟨_,rfl,r⟩
 | _,_,i + 1,a,.cons _ t,h=>by
  obtain ⟨b,h1,h2⟩:=ln (i:=i) (a:=a) t (by simpa using h)
  exact ⟨b,by simpa using h1,h2⟩
theorem lp {α β:Type} {F:α->β->Prop}:∀ {l:List α} {m:List β} {l':List α} {m':List β},Paired F l m->Paired F l' m'->Paired F (l++l') (m++m')
 | _,_,_,_,.nil,h=>h
 | _,_,_,_,.cons r t,h=>.cons r (lp t h)
theorem CS (w:List Nat) (j:Nat):(av w).countP (fun z=>eqV z (.int (j:Int)))=w.count j:=by
 unfold av
 rw [List.countP_map,List.count_eq_countP]
 congr 1
 funext k
 show ((k:Int) == (j:Int))=(k == j)
 by_cases h:k=j
 ·subst h; simp
 ·rw [beq_eq_false_iff_ne.mpr h,beq_eq_false_iff_ne.mpr (by omega)]
theorem E7 (w:List Nat):(av w).all gM=true:=by unfold av; rw [Qk]; simp [gM]
noncomputable def Kh (K:Fg):Sp:=fun vs H Q _=>∃ (b r:Addr) (ws:List (List Nat)) (room:List Nat),vs=[.ref b,.ref r]/\bt H b ws/\H r=some (.lst (av room))/\room.length<=6/\(KM.grow room ws).length<=2000/\(∀ w∈ws,w.length<=12)/\
 ∀ (p:Addr) (H':Hp),ap H H'->H p=none->bt H' p (KM.grow room ws)->Q (.ref p) H'
noncomputable abbrev iS (K:Fg):Sp:=Kh K
noncomputable def mT (K:Fg):TS:=(ar (aE (Ct af) (am 2))
 (ar (cS (du K (ab 0)) (am 3) (cS (rP aB K (aa (ab 1) af)) (ic K 2 (bC (am 4) (bC (am 5) ib))) (bB (bq (tOp (rI0 fun i j=>.bl (decide (i < j))) (tBT BS (ab 3) (aa (ab 4) af)) (ab 5))) (dG (tBM K "list" iY (ab 2) (aa (tOp (HP K) (ab 3) (F3 (aa (ab 4) af))) af))) bh)))
 (aI (ab 2))))
theorem tP (h:iS K vs H Q E):mT K { nx:=fun _ H'=>Q .non H',rt:=Q } (start ["begun","room","longer","deal","who","most"] vs) H:=by
 obtain ⟨b,r,ws,room,rfl,⟨rs,hb,hp⟩,hrm,h6,h2000,h12,q⟩:=h
 refine ⟨(by show 0<=LN; decide),fun l hl=>?_⟩
 have sl:ap H (upd H l (.lst [])):=aZ hl _
 have hrl:ws.length=rs.length:=hp.length.symm
 refine ⟨_,rfl,b,rfl,⟨_,SqL.of (sl _ _ hb)⟩,tF (K:=K) (a:=b) (xs:=rs.map V.ref)
  (fun i σ H2=>∃ d wh mo:Option V,σ=[some (.ref b),some (.ref r),some (.ref l),d,wh,mo]/\ap H H2/\bt H2 l (KM.grow room (ws.take i)))
  ⟨none,none,none,rfl,sl,[],by rw [az]; rfl,.nil⟩ (fun i σ H2 _ ⟨_,_,_,_,s2,_⟩=>SqL.of (s2 _ _ hb)) ?_ ?_⟩
 ·rintro i x σ H2 hx ⟨d,wh,mo,rfl,s2,D2⟩
  obtain ⟨a,ea,rfl⟩:∃ a,rs[i]?=some a/\x=.ref a:=by
   rw [LS] at hx
   cases e:rs[i]? with
   | none=>rw [e] at hx; cases hx
   | some a=>rw [e] at hx; exact ⟨a,rfl,(LR hx).symm⟩
  obtain ⟨u,hu,ha⟩:=ln hp ea
  have hu12:=h12 u (LU hu)
  have gt:=KM.E3 room ws i u hu
  have gle:=KM.zW room ws (i + 1)
  refine ⟨_,rfl,r,_,rfl,SqL.of (s2 _ _ hrm),zC (S:=aB) (K:=K) (a:=r) (xs:=av room)
   (fun j σ H3=>∃ wh mo:Option V,σ=[some (.ref b),some (.ref r),some (.ref l),some (.ref a),wh,mo]/\ap H H3/\bt H3 l (KM.grow room (ws.take i)++(KM.fw room u j).map fun k=>u++[k]))
   ⟨wh,mo,rfl,s2,by simpa [KM.fw] using D2⟩ (fun j σ H3 _ ⟨_,_,_,s3,_⟩=>SqL.of (s3 _ _ hrm)) ?_ ?_⟩
  ·rintro j x T σ H3 hxj ⟨wh',mo',rfl,s3,qs,hq,pq⟩ hT
   obtain ⟨m,hm,rfl⟩:∃ m:Nat,room[j]?=some m/\x=.int (m:Int):=by
    unfold av at hxj
    rw [LS] at hxj
    cases e:room[j]? with
    | none=>rw [e] at hxj; cases hxj
    | some z=>rw [e] at hxj; exact ⟨z,rfl,(LR hxj).symm⟩
   have hmD:room.getD j 0=m:=by rw [LV,hm]; rfl
   have hjl:j < room.length:=(LD.mp hm).1
   have nT:H T=none:=s3.free hT
   have s4:ap H (upd H3 T (.tup [.int (j:Int),.int (m:Int)])):=s3.upd nT _
   have a4:(upd H3 T (.tup [.int (j:Int),.int (m:Int)])) a=some (.tup (av u)):=s4 _ _ ha
   have nlT:l≠T:=aS hq hT
   have q4:(upd H3 T (.tup [.int (j:Int),.int (m:Int)])) l=some (.lst (qs.map V.ref)):=by rw [aO nlT]; exact hq
   have p4:Paired (fun (a:Addr) (w:List Nat)=>(upd H3 T (.tup [.int (j:Int),.int (m:Int)])) a=some (.tup (av w))) qs (KM.grow room (ws.take i)++(KM.fw room u j).map fun k=>u++[k]):=
    j5 pq fun a xs e=>by rw [aO (aS e hT)]; exact e
   have hqlen:qs.length<=2000:=by
    have e1:=pq.length
    rw [LY,LF] at e1
    rw [gt,LY,LF,<-KM.sS] at gle
    have e3:(KM.fw room u j).length<=(KM.fw room u room.length).length:=by
     unfold KM.fw
     have:(LO j).Sublist (LO room.length):=List.range_sublist.mpr (by omega)
     exact (this.filter _).length_le
    omega
   have t4:(upd H3 T (.tup [.int (j:Int),.int (m:Int)])) T=some (.tup [.int (j:Int),.int (m:Int)]):=az
   generalize upd H3 T (.tup [.int (j:Int),.int (m:Int)])=H4 at s4 a4 q4 p4 t4
   have ns:=KM.zV room u j
   rw [hmD] at ns
   refine ⟨T,_,rfl,SqT.of t4,rfl,_,_,rfl,_,_,rfl,rfl,?_⟩
   refine ⟨_,rfl,⟨a,_,rfl,a4⟩,_,rfl,a,_,_,rfl,rfl,a4,rfl,E7 u,_,rfl,_,_,rfl,rfl,_,rfl,?_⟩
   rw [CS]
   refine jb (fun c=>?_) (fun c=>?_)
   ·have c':u.count j < m:=by have:=of_decide_eq_true c; omega
    rw [if_pos c'] at ns
    have fin:∀ (d:Addr) (H5:Hp),ap H4 H5->H5 d=some (.tup (av (u++[j])))->∃ (l':Addr) (xs:List V) (y:V),V.ref l=.ref l'/\[V.ref d]=[y]/\H5 l'=some (.lst xs)/\xs.length < LN/\
      ∃ wh mo:Option V,([some (.ref b),some (.ref r),some (.ref l),some (.ref a),some (.int (j:Int)),some (.int (m:Int))]:L2.St)=[some (.ref b),some (.ref r),some (.ref l),some (.ref a),wh,mo]/\ap H (upd H5 l' (.lst (xs++[y])))/\
       bt (upd H5 l' (.lst (xs++[y]))) l (KM.grow room (ws.take i)++(KM.fw room u (j + 1)).map fun k=>u++[k]):=by
     intro d H5 s5 e5
     refine ⟨l,_,_,rfl,rfl,s5 _ _ q4,OV (by rw [LF]; exact hqlen) (by decide),_,_,rfl,(s4.trans s5).upd hl _,qs++[d],by rw [az,Ma]; rfl,?_⟩
     have keep:∀ (c:Addr) (xs:List V),H5 c=some (.tup xs)->upd H5 l (.lst (qs.map V.ref++[V.ref d])) c=some (.tup xs):=fun c xs e=>by
      rw [aO (HJ e (s5 _ _ q4) (by intro z; cases z))]
      exact e
     rw [ns,Ma,<-Q9]
     exact lp (j5 (j5 p4 fun c xs e=>s5 _ _ e) keep) (.cons (keep _ _ e5) .nil)
    refine ⟨_,rfl,.inl ⟨rfl,_,SqL.of q4⟩,_,rfl,_,rfl,(by show 1<=LN; decide),fun t ht=>?_⟩
    have st:ap H4 (upd H4 t (.tup [.int (j:Int)])):=aZ ht _
    have ej:av (u++[j])=av u++[.int (j:Int)]:=by unfold av; rw [Ma]; rfl
    refine ⟨a,t,av u,[.int (j:Int)],rfl,rfl,SqT.of (st _ _ a4),SqT.of az,small (by rw [bj]; show u.length + 1<=1000; omega),fun e0=>?_,fun _ e0=>(nomatch e0),fun _ _ p hp'=>?_⟩
    ·exact fin t _ st (by rw [az,ej,e0]; rfl)
    ·exact fin p _ (st.trans (aZ hp' _)) (by rw [az,ej])
   ·have c':¬ u.count j < m:=by have:=of_decide_eq_false c; omega
    rw [if_neg c',Oa] at ns
    exact ⟨_,_,rfl,s4,qs,q4,by rw [ns]; exact p4⟩
  ·rintro σ H3 ⟨wh',mo',rfl,s3,D3⟩
   rw [bj,KM.sS,<-gt] at D3
   exact ⟨_,_,_,rfl,s3,D3⟩
 ·rintro σ H2 ⟨d,wh,mo,rfl,s2,D2⟩
  refine ⟨_,rfl,?_⟩
  rw [LF,<-hrl,Mw] at D2
  exact q l H2 s2 hl D2
noncomputable def IL (K:Fg):Sp:=fun vs H Q _=>∃ (c:Nat) (a:Addr) (ss:List Nat),vs=[.int c,.ref a]/\H a=some (.lst (av ss))/\kM c ss/\KM.ck c ss<=2000/\
 ∀ (p:Addr) (H':Hp),ap H H'->H p=none->bt H' p (KM.cB (ss++[c - ss.sum]) c)->Q (.ref p) H'
theorem i5 (ss:List Nat) (c:Nat):av ss++[.int (c:Int)]=av (ss++[c]):=by unfold av; rw [Ma]; rfl
noncomputable abbrev j6 (K:Fg):Sp:=IL K
noncomputable def uR (K:Fg):TS:=(ar (bB (bq (tOp (rI0 fun i j=>.bl (decide (j < i))) (au (nN K) [] E0 (aa (ab 0) (aa (ab 1) af))) (tC (.int 2000)))) qz bh)
 (ar (aE (tOp JR (ab 1) (Ct (aa (tOp (rI0 fun i j=>.int (i - j)) (ab 0) (tCB (tL K) (aa (ab 1) af))) af))) (am 2))
 (ar (aE (Ct (aa (F3 af) af)) (am 3))
 (ar (cS (ff (aa (ab 0) af)) (am 4) (aE (au (iS K) [] E0 (aa (ab 3) (aa (ab 2) af))) (am 3)))
 (aI (ab 3))))))
theorem Bm (h:j6 K vs H Q E):uR K { nx:=fun _ H'=>Q .non H',rt:=Q } (start ["cards","sizes","room","begun","card"] vs) H:=by
 obtain ⟨c,a,ss,rfl,ha,p,hm,q⟩:=h
 have h12:=p.c12
 have h5:=p.l5
 have hsum:=p.sum
 refine ⟨_,rfl,_,rfl,c,a,ss,rfl,ha,p,fun H1 s1=>?_⟩
 refine ⟨_,_,rfl,rfl,_,rfl,jb (fun k=>?_) (fun _=>?_)⟩
 ·have k':(2000:Int) < ((KM.ck c ss:Nat):Int):=of_decide_eq_true k
  omega
 have a1:=s1 _ _ ha
 refine ⟨_,rfl,_,rfl,_,rfl,a,_,rfl,by rw [<-eM]; exact SqL.of a1,_,_,rfl,rfl,(by show 1<=LN; decide),fun l hl=>?_⟩
 have s2:ap H (upd H1 l (.lst [.int ((c:Int) - (ss.map fun (s:Nat)=>((s:Nat):Int)).sum)])):=s1.trans (aZ hl _)
 have e2:(upd H1 l (.lst [.int ((c:Int) - (ss.map fun (s:Nat)=>((s:Nat):Int)).sum)])) l=some (.lst [.int ((c:Int) - (ss.map fun (s:Nat)=>((s:Nat):Int)).sum)]):=az
 rw [show (c:Int) - (ss.map fun (s:Nat)=>((s:Nat):Int)).sum=((c - ss.sum:Nat):Int) by rw [iR]; omega] at s2 e2
 dsimp only
 rw [show (c:Int) - (ss.map fun (s:Nat)=>((s:Nat):Int)).sum=((c - ss.sum:Nat):Int) by rw [iR]; omega]
 generalize upd H1 l (.lst [.int ((c - ss.sum:Nat):Int)])=H2 at s2 e2
 refine ⟨a,l,_,_,rfl,rfl,s2 _ _ ha,e2,small (by rw [bj]; show ss.length + 1<=1000; omega),fun rm hrm=>?_⟩
 rw [i5]
 have hRs:(ss++[c - ss.sum]).sum=c:=by rw [Ni,Mg,O8]; omega
 have hRl:(ss++[c - ss.sum]).length<=6:=by rw [LY]; show ss.length + 1<=6; omega
 have hlev:=KM.nK hsum
 have s3:ap H (upd H2 rm (.lst (av (ss++[c - ss.sum])))):=s2.trans (aZ hrm _)
 have e3:(upd H2 rm (.lst (av (ss++[c - ss.sum])))) rm=some (.lst (av (ss++[c - ss.sum]))):=az
 generalize ss++[c - ss.sum]=R at *
 generalize upd H2 rm (.lst (av R))=H3 at s3 e3
 refine ⟨(by show 0<=LN; decide),fun t ht=>⟨(by show 1<=LN; decide),fun b hb=>?_⟩⟩
 have s4:ap H3 (upd (upd H3 t (.tup [])) b (.lst [.ref t])):=(aZ ht _).trans (aZ hb _)
 have D4:bt (upd (upd H3 t (.tup [])) b (.lst [.ref t])) b (KM.cB R 0):=⟨[t],az,.cons (by rw [aO (aS (az (o:=HO.tup [])) hb)]; exact az) .nil⟩
 have f4:H b=none:=by
  have:H3 b=none:=(aZ ht _).free hb
  exact s3.free this
 generalize upd (upd H3 t (.tup [])) b (.lst [.ref t])=H4 at s4 D4
 refine ⟨_,rfl,_,rfl,by omega,by omega,qD (lo:=0) (n:=((c:Nat):Int).toNat) (fun i σ H5=>∃ (b:Addr) (st:Option V),σ=[some (.int c),some (.ref a),some (.ref rm),some (.ref b),st]/\ap H3 H5/\H b=none/\bt H5 b (KM.cB R i)) ⟨b,none,rfl,s4,f4,D4⟩ ?_ ?_⟩
 ·rintro i σ H5 hi ⟨b',st,rfl,s5,f5,D5⟩
  have hi':i + 1<=c:=by omega
  refine ⟨_,rfl,_,rfl,b',rm,_,R,rfl,D5,s5 _ _ e3,hRl,?_,fun u hu=>?_,fun p' H6 s6 f6 D6=>?_⟩
  ·have h1:=KM.Gr (room:=R) (i:=i + 1) (by omega)
   rw [hRs,hlev] at h1
   exact Me h1 hm
  ·have:=(KM.iq R i u hu).len
   omega
  ·exact ⟨p',_,rfl,s5.trans s6,(s3.trans s5).free f6,D6⟩
 ·rintro σ H5 ⟨b',st,rfl,s5,f5,D5⟩
  refine ⟨_,rfl,?_⟩
  rw [show ((c:Nat):Int).toNat=c by omega] at D5
  exact q b' H5 (s3.trans s5) f5 D5
noncomputable def qP (xs:List Int) (w:Int) (i:Nat):List Int:=((LO i).filter fun j=>decide (xs[j]?=some w)).map fun (j:Nat)=>((j:Nat):Int)
theorem E8 (xs:List Int) (w:Int) (i:Nat):qP xs w (i + 1)=qP xs w i++(if xs[i]?=some w then [(i:Int)] else []):=by
 unfold qP
 rw [OY,QS,Ma]
 by_cases h:xs[i]?=some w
 ·rw [if_pos h,Py (by simpa using h)]
  rfl
 ·rw [if_neg h,Pz (by simpa using h)]
  rfl
theorem Gw (xs:List Int) (w:Int) (i:Nat):(qP xs w i).length<=i:=by
 unfold qP
 rw [LF]
 have h:=Sb (fun j=>decide (xs[j]?=some w)) (LO i)
 rw [Nb] at h
 exact h
noncomputable def IM (K:Fg):Sp:=fun vs H Q _=>∃ (d:Addr) (xs:List Int) (v:Int),vs=[.ref d,.int v]/\SqT K H d (xs.map V.int)/\xs.length<=1000/\
 ∀ (r:Addr) (H':Hp),ap H H'->H' r=some (.tup ((qP xs v xs.length).map V.int))->Q (.ref r) H'
theorem E9 {xs:List Int} {i:Nat} {x:V} (h:(xs.map V.int)[i]?=some x):∃ z,xs[i]?=some z/\x=.int z:=by
 rw [LS] at h
 cases e:xs[i]? with
 | none=>rw [e] at h; cases h
 | some z=>rw [e] at h; exact ⟨z,rfl,(LR h).symm⟩
noncomputable abbrev j7 (K:Fg):Sp:=IM K
noncomputable def uS (K:Fg):TS:=(aI (tCB (J9 K) (aa (bZ (rP iP K (aa (ab 0) af)) (fun _ _ _ _=>(ic K 2 (bC (am 0) (bC (am 1) ib)))) (fun _ _ _ _=>(bq (tOp rEq (ab 1) (ab 2)))) (fun _ _ _ _=>(ab 0)) [none,none,some 1]) af)))
theorem Bn (h:j7 K vs H Q E):uS K { nx:=fun _ H'=>Q .non H',rt:=Q } (start ["deal","who"] vs) H:=by
 obtain ⟨d,xs,v,rfl,hd,hlen,q⟩:=h
 have hl:(xs.map V.int).length=xs.length:=LF _
 refine ⟨_,rfl,d,_,rfl,hd,fun p hp=>EO (S:=iP) (K:=K) (a:=d) (xs:=xs.map V.int) (fun i acc H2=>acc=(qP xs v i).map V.int/\ap H H2/\H2 p=some (.lst acc)) ⟨rfl,aZ hp _,az⟩ ?_ ?_ ?_ ?_ ?_⟩
 ·rintro i acc H2 hi ⟨rfl,s2,e2⟩
  exact ⟨e2,by rw [LF]; exact Gw _ _ _⟩
 ·rintro i acc H2 hi ⟨rfl,s2,e2⟩
  exact s2.tup hd
 ·rw [hl]
  exact small hlen
 ·rintro _ _ _ _ i x T acc H2 hx ⟨rfl,s2,e2⟩ hT
  obtain ⟨z,hz,rfl⟩:=E9 hx
  have nTp:p≠T:=aS e2 hT
  have nT:H T=none:=s2.free hT
  refine ⟨T,_,rfl,SqT.of az,rfl,_,_,rfl,_,_,rfl,rfl,_,rfl,_,rfl,rfl,_,rfl,?_⟩
  have eu:=E8 xs v i
  refine jb (fun c=>?_) (fun c=>?_)
  ·have c':z=v:=by
    have:=of_decide_eq_true c
    injection this
   subst c'
   rw [if_pos hz] at eu
   refine ⟨_,rfl,by rw [aO nTp]; exact e2,?_,(s2.upd nT _).upd hp _,az⟩
   rw [eu,Ma]
   rfl
  ·have c':¬ xs[i]?=some v:=by
    rw [hz]
    intro e
    have:=of_decide_eq_false c
    exact this (by rw [LR e])
   rw [if_neg c',Oa] at eu
   exact ⟨by rw [eu],s2.upd nT _,by rw [aO nTp]; exact e2⟩
 ·rintro acc H2 ⟨rfl,s2,e2⟩
  rw [hl] at e2
  exact ⟨p,_,rfl,.inl ⟨SqL.of e2,fun t ht=>q t _ (s2.trans (aZ ht _)) az⟩⟩
theorem i6 {ss:List Nat} {i:Nat} {x:V} (hx:(av ss)[i]?=some x):∃ z:Nat,ss[i]?=some z/\x=.int (z:Int):=by
 unfold av at hx
 rw [LS] at hx
 cases e:ss[i]? with
 | none=>rw [e] at hx; cases hx
 | some z=>rw [e] at hx; exact ⟨z,rfl,(LR hx).symm⟩
end
section
variable {K:Fg} {vs:List V} {H:Hp} {Q:VK} {E:XK}
noncomputable abbrev aP (K:Fg):Sp:=JX K
noncomputable def j8 (K:Fg):TS:=(ar (bB (bq (tOp (rI0 fun i j=>.bl (decide (i < j))) (ab 1) (tCB (gi K) (aa (ab 0) af)))) (aI (tOp (dR K) (ab 0) (ab 1))) bh)
 (ar (aE (tOp (rI0 fun i j=>.int (i + j)) (tOp (rI Oz fun i j=>.int (i * j)) (ab 1) (tC (.int 7919))) (tC (.int 5))) (am 2))
 (ar (bB (bq (tOp (rI0 fun i j=>.bl (decide (j < i))) (tCB (gi K) (aa (ab 0) af)) (tC (.int 0)))) (aE (tOp (rI0 fun i j=>.int (i + j)) (tOp (rI Oz fun i j=>.int (i * j)) (tOp (dR K) (ab 0) (tOp (rI (fun _ j=>0 < j) fun i j=>.int (i % j)) (tOp (rI Oz fun i j=>.int (i * j)) (ab 1) (tC (.int 7))) (tCB (gi K) (aa (ab 0) af)))) (tC (.int 48271))) (tOp (rI Oz fun i j=>.int (i * j)) (ab 1) (tC (.int 7919)))) (am 2)) bh)
 (ar (aE (tOp (rI (fun _ j=>0 < j) fun i j=>.int (i % j)) (tOp (rI Oz fun i j=>.int (i * j)) (ab 2) (ab 2)) (tC (.int 2147483629))) (am 2))
 (aI (tOp (rI (fun _ j=>0 < j) fun i j=>.int (i % j)) (tOp (rI Oz fun i j=>.int (i * j)) (tOp (rI0 fun i j=>.int (i + j)) (ab 2) (ab 1)) (tOp (rI0 fun i j=>.int (i + j)) (ab 2) (tC (.int 69621)))) (tC (.int 2147483587))))))))
theorem zY (h:aP K vs H Q E):j8 K { nx:=fun _ H'=>Q .non H',rt:=Q } (start ["_law_script","_law_k","_law_number"] vs) H:=by
 obtain ⟨a,ns,k,rfl,⟨hS,h63,hbits⟩,h0,h1,q⟩:=h
 show j8 K _ [some _,some _,none] _
 unfold j8
 have hl:(ns.map V.int).length=ns.length:=LF _
 walk_at "rd"
 rw [hl]
 refine dO (fun c=>?_) (fun c=>?_)
 ·walk_at "rd"
  refine cO hS (zD h0 c) ?_
  have e:aU ns k=ns.getD k.toNat 0:=by unfold aU; rw [if_pos c]
  rw [e] at q
  exact q
 ·refine ES ?_
  dsimp only
  refine bg ?_
  walk_at "rs"
  refine ga fun NX hNX=>?_
  have last:∀ n0:Int,ME n0<=1048600->aU ns k=((n0 * n0 % 2147483629) + k) * ((n0 * n0 % 2147483629) + 69621) % 2147483587->NX [some (.ref a),some (.int k),some (.int n0)] H:=by
   intro n0 hb e
   refine hNX _ _ ?_
   have z1:0<=n0 * n0 % 2147483629:=M4 _ (by decide)
   have z2:n0 * n0 % 2147483629 < 2147483629:=MS _ (by decide)
   refine bg ?_
   refine lj ?_
   refine tK ?_
   refine tK ?_
   refine o0 rfl ?_
   refine o0 rfl ?_
   refine r_I (.of_le hb hb (by decide)) ?_
   walk_at "rd"
   rw [e] at q
   exact q
  walk_at "rs"
  rw [hl]
  refine dO (fun d=>?_) (fun d=>?_)
  ·have m1:0<=k * 7 % (ns.length:Int):=M4 _ (by omega)
   have m2:k * 7 % (ns.length:Int) < (ns.length:Int):=MS _ d
   walk_at "rs"
   rw [hl]
   refine cO hS (zD m1 m2) ?_
   walk_at "rs"
   refine last _ ?_ ?_
   ·have b1:=EQ hbits (k * 7 % (ns.length:Int)).toNat
    have b2:ME (48271:Int)<=16:=by decide
    have b3:ME k<=20:=intBits_le_iff.mpr (by have:(2:Nat) ^ 20=1048576:=(by decide); omega)
    have b4:ME (7919:Int)<=13:=by decide
    exact Me (intBits_add_le (Sd b1 b2) (Sd b3 b4)) (by decide)
   ·unfold aU
    rw [if_neg c,if_pos d]
  ·walk_at "rs"
   refine last _ ?_ ?_
   ·have b3:ME k<=20:=intBits_le_iff.mpr (by have:(2:Nat) ^ 20=1048576:=(by decide); omega)
    have b4:ME (7919:Int)<=13:=by decide
    have b5:ME (5:Int)<=3:=by decide
    exact Me (intBits_add_le (Sd b3 b4) b5) (by decide)
   ·unfold aU
    rw [if_neg c,if_neg d]
noncomputable def gm (_:Fg):Sp:=fun vs H Q _=>∃ n:Nat,vs=[.int n]/\n<=12/\Q (.int (KM.aR n:Nat)) H
noncomputable def gP (K:Fg):TS:=(ar (aE (tC (.int 1)) (am 1))
 (ar (cS (ff (aa (ab 0) af)) (am 2) (aE (tOp (rI Oz fun i j=>.int (i * j)) (ab 1) (tOp (rI0 fun i j=>.int (i + j)) (ab 2) (tC (.int 1)))) (am 1)))
 (aI (ab 1))))
theorem KM.fact_le {n m : Nat} (h : n ≤ m) : KM.aR n ≤ KM.aR m := by
  induction m with
  | zero => have : n = 0 := by omega
            subst this; exact LC _
  | succ m ih =>
    by_cases e : n = m + 1
    · subst e; exact LC _
    · have := ih (by omega)
      rw [KM.aR]
      exact Me this (Nat.le_mul_of_pos_right _ (Tn m))
theorem Fa {n:Nat} (h:n<=12):KM.aR n<=479001600:=Me (KM.fact_le h) (by decide)
theorem uT (h:gm K vs H Q E):gP K { nx:=fun _ H'=>Q .non H',rt:=Q } (start ["_law_many","_law_found","_law_k"] vs) H:=by
 obtain ⟨n,rfl,hn,q⟩:=h
 show gP K _ [some _,none,none] _
 unfold gP
 walk_at "rd"
 refine jQ n (by omega) (by omega) (by omega) (fun i σ H2=>∃ st,σ=[some (.int n),some (.int (KM.aR i:Nat)),st]/\H2=H) ⟨none,rfl,rfl⟩ ?_ ?_
 ·rintro i σ H2 hi ⟨st,rfl,rfl⟩
  have:=Fa (n:=i) (by omega)
  walk_at "rd"
  refine ⟨some (.int i),?_,rfl⟩
  rw [KM.aR,RQ,show ((i:Int) + 1)=((i + 1:Nat):Int) by omega]
 ·rintro σ H2 ⟨st,rfl,rfl⟩
  walk_at "rd"
  exact q
noncomputable def iz (_:Fg):Sp:=fun vs H Q _=>∃ (c:Nat) (a:Addr) (ss:List Nat),vs=[.int c,.ref a]/\H a=some (.lst (av ss))/\ss.sum<=c/\c<=12/\ss.length<=100/\∀ H',ap H H'->Q (.int (KM.ck c ss:Nat)) H'
noncomputable def jf (K:Fg):TS:=(ar (aE (au (gm K) [] E0 (aa (ab 0) af)) (am 2))
 (ar (cS (du K (tOp qL (ab 1) (fv (aa (tOp (rI0 fun i j=>.int (i - j)) (ab 0) (tCB (tL K) (aa (ab 1) af))) af)))) (am 3) (aE (tOp (rI em fun i j=>.int (i / j)) (ab 2) (au (gm K) [] E0 (aa (ab 3) af))) (am 2)))
 (aI (ab 2))))
theorem xZ (h:iz K vs H Q E):jf K { nx:=fun _ H'=>Q .non H',rt:=Q } (start ["_law_cards","_law_sizes","_law_found","_law_many"] vs) H:=by
 obtain ⟨c,a,ss,rfl,ha,hs,hc,hl,q⟩:=h
 show jf K _ [some _,some _,none,none] _
 unfold jf
 walk_at "rd"
 refine ⟨c,rfl,hc,?_⟩
 walk_at "rd"
 refine CD (ns:=ss.map fun (s:Nat)=>((s:Nat):Int)) (SqL.of (by rw [<-eM]; exact ha)) ?_
 walk_at "rd"
 rw [iR,show (c:Int) - ((ss.sum:Nat):Int)=((c - ss.sum:Nat):Int) by omega]
 refine ⟨by simp [LI],fun b H1 hb s1 e1=>rS (s1 _ _ ha) e1 (by rw [bj,LI]; simp; omega) fun p H2 hp s2 e2=>?_⟩
 rw [i5] at e2
 generalize hR:ss++[c - ss.sum]=R at e2
 have hRs:R.sum=c:=by rw [<-hR,Ni,Mg,O8]; omega
 have hpf:KM.ck c ss * KM.cH R=KM.aR c:=by rw [<-hR]; exact KM.sR c ss hs
 have hdv:R.foldl (fun f s=>f / KM.aR s) (KM.aR c)=KM.ck c ss:=by rw [<-hpf]; exact KM.Kf R _
 have s12:=s1.trans s2
 refine lD (av R) (SqL.of e2) (fun i σ H3=>∃ st,σ=[some (.int c),some (.ref a),some (.int (((R.take i).foldl (fun f s=>f / KM.aR s) (KM.aR c):Nat):Int)),st]/\H3=H2) ⟨none,rfl,rfl⟩ (fun i σ H3 _ ⟨_,_,e⟩=>by subst e; exact SqL.of e2) ?_ ?_
 ·rintro i x σ H3 hx ⟨st,rfl,rfl⟩
  obtain ⟨z,hz,rfl⟩:=i6 hx
  have hz12:z<=12:=by
   have:=je (LU hz)
   omega
  walk_at "rd"
  refine ⟨z,rfl,hz12,?_⟩
  have h1:=KM.iQ z
  have h2:=Fa hz12
  walk_at "rd"
  refine ⟨some (.int z),?_,rfl⟩
  rw [Nr,hz,PJ,<-Ug]
  rfl
 ·rintro σ H3 ⟨st,rfl,rfl⟩
  walk_at "rd"
  rw [bj,Mw,hdv]
  exact q _ s12
noncomputable def lV (K:Fg):Sp:=fun vs H Q _=>∃ (a:Addr) (ns:List Int) (at_ most:Int),vs=[.ref a,.int at_,.int most]/\eV K H a ns/\0<=at_/\at_<=1000/\1<=most/\
 ∀ (c:Nat) (ss:List Nat) (p q:Addr) (H':Hp),ap H H'->H p=none->H q=none->H' p=some (.tup [.int c,.ref q])->H' q=some (.lst (av ss))->kM c ss->((KM.ck c ss:Nat):Int)<=most->Q (.ref p) H'
theorem uU:∀ ss:List Nat,ss.sum<=0->KM.ck 0 ss=1
 | [],_=>rfl
 | a :: r,h=>by
  rw [Mg] at h
  have ha:a=0:=by omega
  subst ha
  rw [KM.ck,KM.j4,uU r (by omega)]
theorem tQ (ss:List Nat) (j m:Nat):(av ss).set j (.int (m:Int))=av (ss.set j m):=by
 unfold av
 rw [List.map_set]
theorem Gx {ss:List Nat} {M:Int} (h:M∈ss.map fun (s:Nat)=>((s:Nat):Int)):∃ m:Nat,m∈ss/\M=(m:Int):=by
 obtain ⟨m,hm,e⟩:=NC.mp h
 exact ⟨m,hm,e.symm⟩
theorem Gy {ss:List Nat} {j m:Nat} (h:ss[j]?=some m) (hm:0 < m):(ss.set j (m - 1)).sum + 1=ss.sum:=by
 obtain ⟨h1,h2⟩:=LD.mp h
 have e:ss.getD j 0=m:=by rw [LV,h]; rfl
 have:=KM.ww ss j h1 (by rw [e]; exact hm)
 rw [e] at this
 exact this
noncomputable def BX (K:Fg):TS:=(ar (nU (bq (tOp (rI0 fun i j=>.bl (decide (j < i))) (au (iz K) [] E0 (aa (ab 3) (aa (ab 4) af))) (ab 2))) (ar (bB (bq (tOp (rI0 fun i j=>.bl (decide (j < i))) (tCB (wu K) (aa (ab 4) af)) (tOp (rI0 fun i j=>.int (i - j)) (ab 3) (tCB (tL K) (aa (ab 4) af))))) (aE (tOp (rI0 fun i j=>.int (i - j)) (tCB (wu K) (aa (ab 4) af)) (tC (.int 1))) (qA (ab 4) (tBM K "list" zF (ab 4) (aa (tCB (wu K) (aa (ab 4) af)) af)) mM)) bh)
 (aE (tOp (rI0 fun i j=>.int (i - j)) (ab 3) (tC (.int 1))) (am 3))))
 (aI (bz (aa (ab 3) (aa (ab 4) af)))))
theorem Fb {K:Fg} {H0 H:Hp} {Q:VK} {NX:St->Hp->Prop} {x y:V} {most:Int} {c:Nat} {q:Addr} {ss:List Nat} {cR:St} (s0:ap H0 H) (hq0:H0 q=none) (hq:H q=some (.lst (av ss))) (h1:1<=ss.length) (h5:ss.length<=5) (hs:ss.sum<=c) (hc:c<=12) (hm:1<=most)
  (g:∀ (c:Nat) (ss:List Nat) (p q:Addr) (H':Hp),ap H0 H'->H0 p=none->H0 q=none->H' p=some (.tup [.int c,.ref q])->H' q=some (.lst (av ss))->kM c ss->((KM.ck c ss:Nat):Int)<=most->Q (.ref p) H'):
  BX K { nx:=NX,rt:=Q } (some x :: some y :: some (.int most) :: some (.int c) :: some (.ref q) :: cR) H:=by
 unfold BX
 refine bg ?_
 refine CA (fun m σ H2=>∃ (c:Nat) (ss:List Nat),σ=(some x :: some y :: some (.int most) :: some (.int c) :: some (.ref q) :: cR)/\ap H0 H2/\H2 q=some (.lst (av ss))/\1<=ss.length/\ss.length<=5/\ss.sum<=c/\c<=12/\m=c) c ⟨c,ss,rfl,s0,hq,h1,h5,hs,hc,rfl⟩ ?_
 clear s0 hq h1 h5 hs hc
 rintro m σ H2 ⟨c,ss,rfl,s0,hq,h1,h5,hs,hc,hmc⟩
 have hmc':=hmc.symm
 subst hmc'
 walk_at "rd"
 refine ⟨c,q,ss,rfl,hq,hs,hc,by omega,fun H3 s3=>?_⟩
 have s3':=s0.trans s3
 have hq3:=s3 _ _ hq
 have hS:SqL K H3 q ((ss.map fun (s:Nat)=>((s:Nat):Int)).map V.int):=by rw [<-eM]; exact SqL.of hq3
 walk_at "rd"
 refine dO (fun hgt=>?_) (fun hle=>?_)
 ·have hc1:1<=c:=by
   rcases Pq c with z | z
   ·subst z
    rw [uU ss hs] at hgt
    omega
   ·exact z
  refine Cz ?_
  walk_at "rd"
  have hne:(ss.map fun (s:Nat)=>((s:Nat):Int))≠[]:=by
   intro z
   have:=congrArg List.length z
   rw [LF] at this
   simp at this
   subst this
   simp at h1
  refine ⟨q,_,rfl,hS,hne,fun M hM hmax=>?_⟩
  obtain ⟨mx,hmx,rfl⟩:=Gx hM
  have hle:=je hmx
  walk_at "rd"
  refine CD hS ?_
  walk_at "rd"
  rw [iR]
  refine dO (fun hbig=>?_) (fun hsm=>?_)
  ·walk_at "rd"
   refine ⟨q,_,rfl,hS,hne,fun M2 hM2 hmax2=>?_⟩
   obtain rfl:M2=((mx:Nat):Int):=UF (hmax M2 hM2) (hmax2 _ hM)
   walk_at "rd"
   refine ⟨y8 hq3,?_⟩
   walk_at "rd"
   refine ⟨q,_,rfl,hS,hne,fun M3 hM3 hmax3=>?_⟩
   obtain rfl:M3=((mx:Nat):Int):=UF (hmax M3 hM3) (hmax3 _ hM)
   obtain ⟨j,hj,hfirst⟩:=zI hM
   have hj':ss[j]?=some mx:=by
    rw [LS] at hj
    cases e:ss[j]? with
    | none=>rw [e] at hj; cases hj
    | some z=>rw [e] at hj; have hzz:((z:Nat):Int)=(mx:Int):=LR hj; rw [show z=mx by omega]
   have hjl:j < ss.length:=(LD.mp hj').1
   walk_at "rd"
   refine ⟨q,_,_,j,rfl,rfl,by rw [<-eM]; exact hq3,hj,hfirst,by omega,?_⟩
   walk_at "rd"
   refine qK hq3 (j:=j) (by unfold ixN; rw [bj,if_pos (by omega),if_pos (by omega)]; simp) ?_
   walk_at "rd"
   have hss:=Gy hj' (by omega)
   refine ⟨c - 1,by omega,c - 1,ss.set j (mx - 1),?_,s3'.upd hq0 _,?_,by rw [NI]; exact h1,by rw [NI]; exact h5,by omega,by omega,rfl⟩
   ·rw [show (c:Int) - 1=((c - 1:Nat):Int) by omega]
   ·rw [az,show ((mx:Nat):Int) - 1=((mx - 1:Nat):Int) by omega,tQ]
  ·walk_at "rd"
   refine ⟨c - 1,by omega,c - 1,ss,?_,s3',hq3,h1,h5,?_,by omega,rfl⟩
   ·rw [show (c:Int) - 1=((c - 1:Nat):Int) by omega]
   ·by_cases e:ss.sum=c
    ·have z:mx=0:=by omega
     have all0:∀ s∈ss,s=0:=fun s hs'=>by
      have:=hmax _ (SX (f:=fun (s:Nat)=>((s:Nat):Int)) hs')
      have:(s:Int)<=(mx:Int):=this
      omega
     have:ss.sum=0:=by
      clear hmax hM hq hq3 hS hne hgt hsm hmx hle h1 h5 hs e
      induction ss with
      | nil=>rfl
      | cons b r ih=>rw [Mg,all0 b LG,ih fun s hs=>all0 s (LJ _ hs)]
     omega
    ·omega
 ·walk_at "rd"
  exact ⟨by simp [LI],fun p H4 hp s4 e4=>g c ss p q H4 (s3'.trans s4) (s3'.free hp) hq0 e4 (s4 _ _ hq3) ⟨hc,h1,h5,hs⟩ (by omega)⟩
end
section
variable {K:Fg} {vs:List V} {H:Hp} {Q:VK} {E:XK}
end
section
variable {K:Fg} {vs:List V} {H:Hp} {Q:VK} {E:XK}
end
section
variable {K:Fg} {vs:List V} {H:Hp} {Q:VK} {E:XK}
theorem lW {ss:List Nat} {j z:Nat} (h:ss[j]?=some z):atI (av ss) (j:Int)=some (.int (z:Int)):=fk (by unfold av; rw [LS,h]; rfl)
end
noncomputable def uV:V->Bool
 | .non=>true
 | .bl _=>true
 | .int _=>true
 | _=>false
inductive gQ (K:Fg) (H:Hp):Nat->V->V->Prop where
 | flat {n:Nat} {x:V} (h:uV x=true):gQ K H n x x
 | lst {n:Nat} {a b:Addr} {xs ys:List V} (e1:SqL K H a xs) (e2:SqL K H b ys) (hl:xs.length=ys.length) (h:∀ (i:Nat) (x y:V),xs[i]?=some x->ys[i]?=some y->gQ K H n x y):gQ K H (n + 1) (.ref a) (.ref b)
 | tup {n:Nat} {a b:Addr} {xs ys:List V} (e1:SqT K H a xs) (e2:SqT K H b ys) (hl:xs.length=ys.length) (h:∀ (i:Nat) (x y:V),xs[i]?=some x->ys[i]?=some y->gQ K H n x y):gQ K H (n + 1) (.ref a) (.ref b)
noncomputable def qQ (K:Fg) (neg:Bool):R2:=fun x y H Q=>∃ n,n<=30/\gQ K H n x y/\Q (.bl (!neg)) H
section
variable {K:Fg} {H:Hp} {Q:VK}
theorem wA {x y:V} (n:Nat) (hn:n<=30) (h:gQ K H n x y) (q:Q (.bl true) H):qQ K false x y H Q:=⟨n,hn,h,q⟩
theorem uW {a b:Addr} {xs:List V} (e1:SqL K H a xs) (e2:SqL K H b xs) (hf:∀ x∈xs,uV x=true):gQ K H 1 (.ref a) (.ref b):=
 .lst e1 e2 rfl fun i x y hx hy=>by
  rw [hx] at hy
  cases hy
  exact .flat (hf x (LU hx))
theorem CT {a b:Addr} {xs:List V} (e1:SqT K H a xs) (e2:SqT K H b xs) (hf:∀ x∈xs,uV x=true):gQ K H 1 (.ref a) (.ref b):=
 .tup e1 e2 rfl fun i x y hx hy=>by
  rw [hx] at hy
  cases hy
  exact .flat (hf x (LU hx))
theorem xK (ns:List Int):∀ x∈ns.map V.int,uV x=true:=fun x hx=>by obtain ⟨n,_,rfl⟩:=NC.mp hx; rfl
end
section
variable {g:CF TG} {tt:CF TT} {te:CF TE} {σ₀:St} {Q:VK} {H:Hp} {K:Fg}
end
section
variable {K:Fg} {vs:List V} {H:Hp} {Q:VK} {E:XK}
noncomputable def eN (K:Fg):Sp:=fun vs H Q _=>∃ (a:Addr) (xs:List V) (ks:List MK) (s:Bool),vs=[.ref a]/\H a=some (.lst xs)/\Paired (dj H) xs ks/\(∀ k∈ks,mQ k=s)/\ks.length<=100000/\
 ∀ p H',H p=none->ap H H'->H' p=some (.lst (av (bi ks)))->Q (.ref p) H'
noncomputable def fh (K:Fg):TS:=(ar (aE zO (am 1))
 (ar (cS (rP aB K (aa (ab 0) af)) (ic K 2 (bC (am 2) (bC (am 3) ib))) (dG (tXM zP (ab 1) (aa (ab 3) (aa (ab 2) af)))))
 (aI (bZ (du K (ab 0)) (fun _ _ _ _=>(am 0)) (fun _ _ _ _=>bK) (fun _ _ _ _=>(tOp CL (ab 1) (ab 0))) [none,some 1]))))
theorem qR (h:eN K vs H Q E):fh K { nx:=fun _ H'=>Q .non H',rt:=Q } (start ["marks","firsts","thing","mark"] vs) H:=by
 obtain ⟨a,xs,ks,s,rfl,e,hk,hs,hl,q⟩:=h
 show fh K _ [some _,none,none,none] _
 unfold fh
 have hlen:xs.length=ks.length:=MN hk
 walk_at "rd"
 refine IH s fun d H1 hd s1 dx1=>?_
 walk_at "rd"
 refine BU (S:=aB) xs (SqL.of (s1 _ _ e)) (fun i σ H3=>∃ (u v:Option V),σ=[some (.ref a),some (.ref d),u,v]/\ap H H3/\Dx H3 d s (im ks i) i) ?_ ?_ ?_ ?_
 ·exact ⟨none,none,rfl,s1,dx1.congr Bi⟩
 ·rintro i σ H3 hi ⟨u,v,rfl,s3,dx3⟩
  exact SqL.of (s3 _ _ e)
 ·rintro i x T σ H3 H4 hx ⟨u,v,rfl,s3,dx3⟩ hT s4 eT
  obtain ⟨k,hki,hkv⟩:=bQ hk hx
  have hks:=hs k (LU hki)
  have hi:i < ks.length:=(LD.mp hki).1
  refine ik (SqT.of eT) ?_
  have s34:=s3.trans s4
  have hkv4:=hkv.keep s34.keep
  have dx4:=dx3.same s4
  walk_at "rd"
  refine Lv ?_
  walk_at "rd"
  refine ⟨⟨d,s,_,_,rfl,dx4⟩,?_⟩
  walk_at "rd"
  refine II dx4 hkv4 hks (by rw [LI]; omega) (fun w hw=>?_) (fun hn H5 o5 dx5=>?_)
  ·have hm:k∈ks.take i:=by
    by_cases q:k∈ks.take i
    ·exact q
    ·rw [Bh q] at hw; cases hw
   exact ⟨_,_,rfl,s34,(dx4.congr (CM hki hm)).le (OK i)⟩
  ·have hm:k∉ks.take i:=fun q=>by rw [xF q] at hn; cases hn
   exact ⟨_,_,rfl,s34.off hd o5,dx5.congr (CN hki hm)⟩
 ·rintro σ H3 ⟨u,v,rfl,s3,dx3⟩
  walk_at "rd"
  refine gN xs (SqL.of (s3 _ _ e)) (by omega) (fun i acc _=>acc=av ((bi ks).take i)) (fun H' _=>rfl) ?_ ?_
  ·rintro p hp C s' H' fp i x acc H4 hx ⟨s4,e4,l4,rfl⟩
   obtain ⟨k,hki,hkv⟩:=bQ hk hx
   have hks:=hs k (LU hki)
   have hi:i < ks.length:=(LD.mp hki).1
   walk_at "rd"
   refine Ke (dx3.same s4) (hkv.keep (s3.trans s4).keep) hks (xF (by rw [hlen,Mw]; exact LU hki)) ?_
   refine bu.put hp (fun _ _ _ _ r _=>r) s4 e4 l4 ?_
   rw [zQ hki,i5]
  ·rintro p acc H4 hp s4 e4 rfl
   refine q _ _ (s3.free hp) (s3.trans s4) ?_
   rw [e4,PQ (by rw [cv,hlen]; exact LC _)]
noncomputable def rW (w:List Nat) (h:Int):List Int:=qP (w.map fun (s:Nat)=>((s:Nat):Int)) h w.length
noncomputable def zZ (ns:List Int):MK:=.inr (ns.map fun n=>(Oc (some n):IK))
theorem Gz (a b:List Int) (e:zZ a=zZ b):a=b:=by
 have h:a.map (fun n=>(Oc (some n):IK))=b.map (fun n=>(Oc (some n):IK)):=Ph e
 clear e
 induction a generalizing b with
 | nil=>cases b with
  | nil=>rfl
  | cons _ _=>simp at h
 | cons x r ih=>cases b with
  | nil=>simp at h
  | cons y t=>
   rw [LZ,LZ] at h
   injection h with h1 h2
   injection h1 with h1
   injection h1 with h1
   rw [h1,ih t h2]
noncomputable def lX (ws:List (List Nat)) (h:Int):List Nat:=bi (ws.map fun w=>rW w h)
theorem Bo (ws:List (List Nat)) (h:Int):bi (ws.map fun w=>zZ (rW w h))=lX ws h:=by
 unfold lX
 rw [<-sO (f:=zZ) Gz,Oq]
 rfl
theorem bt.to' {H H':Hp} {p:Addr} {ws:List (List Nat)} (d:bt H p ws) (k:eD H H') (e:∀ rs:List Addr,H p=some (.lst (rs.map V.ref))->H' p=some (.lst (rs.map V.ref))):bt H' p ws:=by
 obtain ⟨rs,h1,h2⟩:=d
 exact ⟨rs,e rs h1,j5 h2 fun a xs e=>k _ _ e⟩
theorem bt.same' {H H':Hp} {p:Addr} {ws:List (List Nat)} (d:bt H p ws) (s:ap H H'):bt H' p ws:=d.to' s.keep fun rs e=>s _ _ e
theorem n9 {rs:List Addr} {i:Nat} {x:V} (hx:(rs.map V.ref)[i]?=some x):∃ a,rs[i]?=some a/\x=.ref a:=by
 rw [LS] at hx
 cases e:rs[i]? with
 | none=>rw [e] at hx; cases hx
 | some z=>rw [e] at hx; exact ⟨z,rfl,(LR hx).symm⟩
noncomputable def kN (K:Fg):Sp:=fun vs H Q _=>∃ (a:Addr) (ws:List (List Nat)) (h:Int),vs=[.ref a,.int h]/\bt H a ws/\(∀ w∈ws,w.length<=1000)/\ws.length<=100000/\
 ∀ p H',H p=none->ap H H'->H' p=some (.lst (av (lX ws h)))->Q (.ref p) H'
theorem Fc {H:Hp} {xs:List V} {ks:List MK} {x:V} {k:MK} (h:Paired (dj H) xs ks) (q:dj H x k):Paired (dj H) (xs++[x]) (ks++[k]):=by
 induction h with
 | nil=>exact .cons q .nil
 | cons r _ ih=>exact .cons r ih
noncomputable def jg (K:Fg):TS:=(aI (au (eN K) [] E0 (aa (bZ (du K (ab 0)) (fun _ _ _ _=>(am 0)) (fun _ _ _ _=>bK) (fun _ _ _ _=>(au (j7 K) [] E0 (aa (ab 0) (aa (ab 1) af)))) [none,some 1]) af)))
theorem ya (h:kN K vs H Q E):jg K { nx:=fun _ H'=>Q .non H',rt:=Q } (start ["deals","hand"] vs) H:=by
 obtain ⟨a,ws,h,rfl,hD,hw,hl,q⟩:=h
 show jg K _ [some _,some _] _
 unfold jg
 obtain ⟨rs,e,hr⟩:=id hD
 have hlr:rs.length=ws.length:=MN hr
 walk_at "rd"
 refine gN (rs.map V.ref) (SqL.of e) (by rw [LF]; omega) (fun i acc H'=>Paired (dj H') acc ((ws.take i).map fun w=>zZ (rW w h))) (fun H' _=>.nil) ?_ ?_
 ·rintro p hp C s' H' fp i x acc H2 hx ⟨s2,e2,l2,r2⟩
  obtain ⟨b,hb,rfl⟩:=n9 hx
  obtain ⟨w,hwi,ew⟩:=bQ hr hb
  walk_at "rd"
  refine ⟨b,w.map fun (s:Nat)=>((s:Nat):Int),h,rfl,by rw [<-eM]; exact SqT.of (s2 _ _ ew),by rw [LF]; exact hw w (LU hwi),fun r H3 s3 e3=>?_⟩
  rw [LF] at e3
  refine bu.put hp (fun _ _ _ _ r k=>xC r k) (s2.trans s3) (s3 _ _ e2) l2 ?_
  rw [cK hwi,Ma]
  exact Fc (xC r2 s3.keep) (IF (ns:=rW w h) e3)
 ·rintro p acc H2 hp s2 e2 r2
  rw [LF,hlr,Mw] at r2
  walk_at "rd"
  refine ⟨p,acc,_,true,rfl,e2,r2,?_,by rw [LF]; omega,fun p3 H3 hp3 s3 e3=>?_⟩
  ·intro k hk
   obtain ⟨w,_,rfl⟩:=NC.mp hk
   rfl
  ·rw [Bo] at e3
   exact q _ _ (s2.free hp3) (s2.trans s3) e3
end
noncomputable def CU:List V->Hp->VK->Prop:=fun xs H Q=>∃ n:Nat,xs=[.int (n:Int)]/\n<=1000000/\New H (.rng 0 (n:Int)) fun p H2=>Q (.ref p) H2
noncomputable def za:List V->Hp->VK->Prop:=fun xs H Q=>∃ (p:Addr) (n:Nat),xs=[.ref p]/\H p=some (.rng 0 (n:Int))/\n<=1000000/\New H (.lst ((LO n).map fun (i:Nat)=>V.int ((i:Nat):Int))) fun p H2=>Q (.ref p) H2
noncomputable def Ia (ta:TA):TE:=tCB za (aa (tCB CU ta) af)
theorem K9 {H:Hp} {Q:VK} {n:Nat} (hn:n<=1000000) (h:New H (.lst ((LO n).map fun (i:Nat)=>V.int ((i:Nat):Int))) fun p H2=>Q (.ref p) H2):New H (.rng 0 (n:Int)) fun p H2=>za [.ref p] H2 Q:=
 fun p H' _ s e=>⟨p,n,rfl,e,hn,fun l H2 hl s2 e2=>h l H2 (s.free hl) (s.trans s2) e2⟩
noncomputable def rX (H:Hp) (ts:List Addr) (ps:List (V×V)):Prop:=Paired (fun (t:Addr) (p:V×V)=>H t=some (.tup [p.1,p.2])) ts ps
noncomputable def CV (S1 S2:Src) (K:Fg) (ta:TA):TE:=fun σ H Q=>ta σ H fun vs H1=>∃ a b xs ys,vs=[.ref a,.ref b]/\S1.Sq K H1 a xs/\S2.Sq K H1 b ys/\xs.length<=1000000/\
 ∀ p H',H1 p=none->ap H1 H'->(∃ ts:List Addr,H' p=some (.lst (ts.map V.ref))/\rX H' ts (xs.zip ys))->Q (.ref p) H'
section
variable {σ:St} {H:Hp} {Q:VK} {K:Fg}
theorem Ki {ta:TA} (h:ta σ H fun vs H1=>∃ n:Nat,vs=[.int (n:Int)]/\n<=1000000/\New H1 (.rng 0 (n:Int)) fun p H2=>za [.ref p] H2 Q):Ia ta σ H Q:=h
theorem Kj {S1 S2:Src} {ta:TA} (h:ta σ H fun vs H1=>∃ a b xs ys,vs=[.ref a,.ref b]/\S1.Sq K H1 a xs/\S2.Sq K H1 b ys/\xs.length<=1000000/\
 ∀ p H',H1 p=none->ap H1 H'->(∃ ts:List Addr,H' p=some (.lst (ts.map V.ref))/\rX H' ts (xs.zip ys))->Q (.ref p) H'):CV S1 S2 K ta σ H Q:=h
end
end L2
section
namespace KF
noncomputable def eO (ps:List Nat):Prop:=∀ x y:Nat,ps[x]?=some y->y<=x
inductive bv (ps:List Nat):Nat->Nat->Prop where
 | stop {x:Nat} (h:ps[x]?=some x):bv ps x x
 | step {x y r:Nat} (h:ps[x]?=some y) (hl:y < x) (t:bv ps y r):bv ps x r
theorem bv.inj {ps:List Nat} {x r r':Nat} (a:bv ps x r) (b:bv ps x r'):r=r':=by
 induction a with
 | stop h=>cases b with
  | stop _=>rfl
  | step h' hl _=>rw [h] at h'; cases h'; omega
 | step h hl _ ih=>cases b with
  | stop h'=>rw [h] at h'; cases h'; omega
  | step h' _ t=>rw [h] at h'; cases h'; exact ih t
theorem eO.root {ps:List Nat} (f:eO ps):∀ x,x < ps.length->∃ r,bv ps x r:=by
 intro x
 induction x using Nat.strongRecOn with
 | ind x ih=>
  intro hx
  have e:=Lz hx
  have hy:=f x _ e
  rcases Pr hy with h | h
  ·obtain ⟨r,hr⟩:=ih _ h (by omega)
   exact ⟨r,.step e h hr⟩
  ·rw [h] at e
   exact ⟨x,.stop e⟩
theorem bv.le {ps:List Nat} {x r:Nat} (a:bv ps x r):r<=x:=by
 induction a with
 | stop _=>exact LC _
 | step _ hl _ ih=>omega
theorem bv.self {ps:List Nat} {x r:Nat} (a:bv ps x r):ps[r]?=some r:=by
 induction a with
 | stop h=>exact h
 | step _ _ _ ih=>exact ih
theorem bv.lt {ps:List Nat} {x r:Nat} (a:bv ps x r):x < ps.length:=by
 cases a with
 | stop h=>exact (LD.mp h).1
 | step h _ _=>exact (LD.mp h).1
theorem eO.range (n:Nat):eO (LO n):=fun x y h=>by
 obtain ⟨h1,h2⟩:=LD.mp h
 rw [QT] at h2
 omega
theorem bv.range {n x:Nat} (h:x < n):bv (LO n) x x:=.stop (by rw [M8 h])
theorem Kk {ps:List Nat} {e g y z:Nat} (h:(ps.set e g)[y]?=some z):(y=e/\z=g)\/(y≠e/\ps[y]?=some z):=by
 rw [OE] at h
 by_cases q:e=y
 ·rw [if_pos q] at h
  split at h
  ·cases h; exact .inl ⟨q.symm,rfl⟩
  ·cases h
 ·rw [if_neg q] at h
  exact .inr ⟨fun z=>q z.symm,h⟩
theorem og {ps:List Nat} {e g y:Nat} (h:y≠e):(ps.set e g)[y]?=ps[y]?:=by
 rw [OE,if_neg (fun z=>h z.symm)]
theorem kB {ps:List Nat} {e g:Nat} (h:e < ps.length):(ps.set e g)[e]?=some g:=by
 rw [OE,if_pos rfl,if_pos h]
theorem eO.set {ps:List Nat} (f:eO ps) {e g:Nat} (h:g<=e):eO (ps.set e g):=fun x y q=>by
 rcases Kk q with ⟨rfl,rfl⟩ | ⟨_,q⟩
 ·exact h
 ·exact f x y q
theorem bv.halve {ps:List Nat} (f:eO ps) {e p g:Nat} (h1:ps[e]?=some p) (h2:ps[p]?=some g) {y r:Nat} (a:bv ps y r):bv (ps.set e g) y r:=by
 have he:e < ps.length:=(LD.mp h1).1
 induction a with
 | @stop x h=>
  by_cases q:x=e
  ·subst q
   rw [h] at h1
   cases h1
   rw [h] at h2
   cases h2
   exact .stop (kB he)
  ·exact .stop (by rw [og q]; exact h)
 | @step x y r h hl t ih=>
  by_cases q:x=e
  ·subst q
   rw [h] at h1
   cases h1
   have e1:(ps.set x g)[p]?=some g:=by rw [og (by omega)]; exact h2
   cases ih with
   | stop h'=>
    rw [e1] at h'
    cases h'
    exact .step (kB he) hl (.stop e1)
   | step h' hl' t'=>
    rw [e1] at h'
    cases h'
    exact .step (kB he) (by omega) t'
  ·exact .step (by rw [og q]; exact h) hl ih
theorem bv.link {ps:List Nat} {M m:Nat} (hM:ps[M]?=some M) (hm:ps[m]?=some m) (hle:m<=M) {y r:Nat} (a:bv ps y r):bv (ps.set M m) y (if r=M then m else r):=by
 have hMl:M < ps.length:=(LD.mp hM).1
 induction a with
 | @stop x h=>
  by_cases q:x=M
  ·subst q
   rw [if_pos rfl]
   rcases Pr hle with l | l
   ·exact .step (kB hMl) l (.stop (by rw [og (by omega)]; exact hm))
   ·subst l
    exact .stop (kB hMl)
  ·rw [if_neg q]
   exact .stop (by rw [og q]; exact h)
 | @step x y r h hl t ih=>
  have q:x≠M:=by
   intro q
   subst q
   rw [h] at hM
   cases hM
   omega
  exact .step (by rw [og q]; exact h) hl ih
inductive dH (P:Nat->Nat->Prop):Nat->Nat->Prop where
 | refl (x:Nat):dH P x x
 | one {x y:Nat} (h:P x y):dH P x y
 | symm {x y:Nat} (h:dH P x y):dH P y x
 | trans {x y z:Nat} (h:dH P x y) (t:dH P y z):dH P x z
theorem dH.mono {P P':Nat->Nat->Prop} (h:∀ x y,P x y->P' x y) {x y:Nat} (c:dH P x y):dH P' x y:=by
 induction c with
 | refl x=>exact .refl x
 | one q=>exact .one (h _ _ q)
 | symm _ ih=>exact .symm ih
 | trans _ _ a b=>exact .trans a b
theorem dH.keeps {P:Nat->Nat->Prop} {α:Type} {f:Nat->α} (h:∀ x y,P x y->f x=f y) {x y:Nat} (c:dH P x y):f x=f y:=by
 induction c with
 | refl x=>rfl
 | one q=>exact h _ _ q
 | symm _ ih=>exact ih.symm
 | trans _ _ a b=>exact a.trans b
noncomputable def j9 (n:Nat) (vs:List (List Nat)) (x y:Nat):Prop:=∃ v∈vs,x < n/\v[x]?=some y
structure qS (n:Nat) (P:Nat->Nat->Prop) (r:List Nat):Prop where
 len:r.length=n
 le:∀ i x:Nat,r[i]?=some x->x<=i
 conn:∀ i x:Nat,r[i]?=some x->dH P i x
 same:∀ i j:Nat,i < n->j < n->dH P i j->r[i]?=r[j]?
structure dm (n:Nat) (P:Nat->Nat->Prop) (ps:List Nat):Prop where
 len:ps.length=n
 forest:eO ps
 conn:∀ x r,bv ps x r->dH P x r
 same:∀ x y,P x y->∃ r,bv ps x r/\bv ps y r
theorem dm.join {n:Nat} {P:Nat->Nat->Prop} {ps r:List Nat} (t:dm n P ps) (hl:r.length=n) (hr:∀ i x:Nat,r[i]?=some x->bv ps i x):qS n P r where
 len:=hl
 le:=fun i x h=>(hr i x h).le
 conn:=fun i x h=>t.conn _ _ (hr i x h)
 same:=by
  have key:∀ i j,dH P i j->∀ x,(bv ps i x↔bv ps j x):=by
   intro i j c
   induction c with
   | refl x=>intro x; exact UI
   | one q=>
    intro x
    obtain ⟨r,h1,h2⟩:=t.same _ _ q
    exact ⟨fun a=>by rw [a.inj h1]; exact h2,fun a=>by rw [a.inj h2]; exact h1⟩
   | symm _ ih=>intro x; exact (ih x).symm
   | trans _ _ a b=>intro x; exact (a x).trans (b x)
  intro i j hi hj c
  have e1:=Lz (l:=r) (i:=i) (by rw [hl]; exact hi)
  have e2:=Lz (l:=r) (i:=j) (by rw [hl]; exact hj)
  have q1:=(key i j c _).mp (hr _ _ e1)
  rw [e1,e2,q1.inj (hr _ _ e2)]
theorem dm.start (n:Nat):dm n (fun _ _=>False) (LO n) where
 len:=Nb
 forest:=eO.range n
 conn:=fun x r h=>by
  have hx:x < n:=by have:=h.lt; rw [Nb] at this; exact this
  rw [h.inj (bv.range hx)]
  exact .refl x
 same:=fun _ _ h=>h.elim
theorem dm.moved {n:Nat} {P:Nat->Nat->Prop} {ps ps':List Nat} (t:dm n P ps) (f:eO ps') (hl:ps'.length=n) (h:∀ y r,bv ps y r->bv ps' y r):dm n P ps' where
 len:=hl
 forest:=f
 conn:=fun x r a=>by
  obtain ⟨r',b⟩:=t.forest.root x (by rw [t.len,<-hl]; exact a.lt)
  rw [a.inj (h _ _ b)]
  exact t.conn _ _ b
 same:=fun x y q=>by
  obtain ⟨r,h1,h2⟩:=t.same x y q
  exact ⟨r,h _ _ h1,h _ _ h2⟩
theorem dm.link {n:Nat} {P P':Nat->Nat->Prop} {ps:List Nat} {a b ra rb M m:Nat} (t:dm n P ps) (ha:bv ps a ra) (hb:bv ps b rb) (hM:(M=ra/\m=rb)\/(M=rb/\m=ra)) (hle:m<=M)
  (h1:∀ x y,P x y->P' x y) (h2:∀ x y,P' x y->P x y\/(x=a/\y=b)) (h3:P' a b):dm n P' (ps.set M m):=by
 have sM:ps[M]?=some M:=by
  rcases hM with ⟨rfl,_⟩ | ⟨rfl,_⟩
  ·exact ha.self
  ·exact hb.self
 have sm:ps[m]?=some m:=by
  rcases hM with ⟨_,rfl⟩ | ⟨_,rfl⟩
  ·exact hb.self
  ·exact ha.self
 have cMm:dH P' M m:=by
  have c1:dH P' a ra:=(t.conn _ _ ha).mono h1
  have c2:dH P' b rb:=(t.conn _ _ hb).mono h1
  rcases hM with ⟨rfl,rfl⟩ | ⟨rfl,rfl⟩
  ·exact .trans (.symm c1) (.trans (.one h3) c2)
  ·exact .trans (.symm c2) (.trans (.symm (.one h3)) c1)
 have rt:∀ {y r:Nat},bv ps y r->bv (ps.set M m) y (if r=M then m else r):=fun q=>bv.link sM sm hle q
 refine ⟨by rw [NI]; exact t.len,t.forest.set hle,fun x r q=>?_,fun x y q=>?_⟩
 ·obtain ⟨r',h⟩:=t.forest.root x (by have:=q.lt; rw [NI] at this; exact this)
  rw [q.inj (rt h)]
  have c:dH P' x r':=(t.conn _ _ h).mono h1
  split
  ·rename_i e
   rw [e] at c
   exact .trans c cMm
  ·exact c
 ·rcases h2 x y q with q | ⟨rfl,rfl⟩
  ·obtain ⟨r,q1,q2⟩:=t.same x y q
   exact ⟨_,rt q1,rt q2⟩
  ·refine ⟨m,?_,?_⟩
   ·have:=rt ha
    rcases hM with ⟨e1,e2⟩ | ⟨e1,e2⟩
    ·rw [if_pos e1.symm] at this; exact this
    ·by_cases z:ra=M
     ·rw [if_pos z] at this; exact this
     ·rw [if_neg z,<-e2] at this; exact this
   ·have:=rt hb
    rcases hM with ⟨e1,e2⟩ | ⟨e1,e2⟩
    ·by_cases z:rb=M
     ·rw [if_pos z] at this; exact this
     ·rw [if_neg z,<-e2] at this; exact this
    ·rw [if_pos e1.symm] at this; exact this
end KF
end
namespace L2
open PySem PyProof.Rows
section
variable {K:Fg} {vs:List V} {H:Hp} {Q:VK} {E:XK}
open KF
section
variable {g:CF TG} {tt:CF TT} {te:CF TE} {σ₀:St} {Q:VK} {H:Hp} {K:Fg}
theorem Fd {j:Int} (n:Nat) (hn:j.toNat=n) (hj:j<=1000000) (hj0:-1000000<=j) (R:Addr->Nat->List V->Hp->Prop) (h0:∀ p H',H p=none->ap H H'->H' p=some (.lst [])->R p 0 [] H')
  (hp:∀ p i acc H',R p i acc H'->H' p=some (.lst acc)/\acc.length<=i)
  (hs:∀ p,H p=none->∀ C s' H' fp,∀ i acc H2,i < n->R p i acc H2->g C s' H' fp (.int i) σ₀ H2 fun σ2 H3=>tt C s' H' fp σ2 H3 fun b H4=>if b=true then te C s' H' fp σ2 H4 fun y H5=>H5 p=some (.lst acc)/\R p (i + 1) (acc++[y]) (upd H5 p (.lst (acc++[y]))) else R p (i + 1) acc H4)
  (hd:∀ p acc H2,H p=none->R p n acc H2->Q (.ref p) H2):
  ∃ j':Int,[V.int j]=[.int j']/\-(2 ^ 62)<=j'/\j' < 2 ^ 62/\∀ p,H p=none->∃ W:Nat->Nat->List V->Hp->Prop,(∃ m,W 0 m [] (upd H p (.lst [])))/\∀ C s' H' fp,cG (Itr 0 j'.toNat) (g C s' H' fp) (tt C s' H' fp) (te C s' H' fp) σ₀ p Q W:=by
 refine ⟨j,rfl,by omega,by omega,fun p hpn=>?_⟩
 subst hn
 exact oX (lo:=0) (R p) (h0 p _ hpn (aZ hpn _) az) (fun i acc H2 _ c=>hp p i acc H2 c) (by rw [LI]; omega) (fun C s' H' fp i acc H2 hi c=>by rw [Ry]; exact hs p hpn C s' H' fp i acc H2 hi c) fun acc H2 c=>hd p acc H2 hpn c
end
theorem wB {n j:Nat} (h:j < n):ixN n (j:Int)=some j:=by unfold ixN; rw [if_pos (by omega),if_pos (by omega)]; simp
theorem CW (n:Nat):(LO n).map (fun (i:Nat)=>V.int ((i:Nat):Int))=av (LO n):=rfl
noncomputable def kC (_:Fg):Sp:=fun vs H Q _=>∃ (p:Addr) (ps:List Nat) (x r:Nat),vs=[.ref p,.int (x:Int)]/\H p=some (.lst (av ps))/\eO ps/\bv ps x r/\
 ∀ H' ps',Off p H H'->H' p=some (.lst (av ps'))->ps'.length=ps.length->eO ps'->(∀ y s,bv ps y s->bv ps' y s)->Q (.int (r:Int)) H'
noncomputable def pF (K:Fg):TS:=(ar (aE (ab 1) (am 2))
 (ar (nU (bq (tOp rNe (tOp (dR K) (ab 0) (ab 2)) (ab 2))) (ar (aE (tOp (dR K) (ab 0) (tOp (dR K) (ab 0) (ab 2))) (qA (ab 0) (ab 2) mM))
 (aE (tOp (dR K) (ab 0) (ab 2)) (am 2))))
 (aI (ab 2))))
theorem GB {p:Addr} {H:Hp}:Off p H H:=fun _ _=>rfl
theorem qT {p:Addr} {H H1 H2:Hp} (a:Off p H H1) (b:Off p H1 H2):Off p H H2:=fun c hc=>(b c hc).trans (a c hc)
theorem Fe (h:kC K vs H Q E):pF K { nx:=fun _ H'=>Q .non H',rt:=Q } (start ["points","thing","end"] vs) H:=by
 obtain ⟨p,ps,x,r,rfl,e,hf,hr,q⟩:=h
 show pF K _ [some _,some _,none] _
 unfold pF
 walk_at "rd"
 refine CA (fun m σ H1=>∃ (ps':List Nat),σ=[some (.ref p),some (.int (x:Int)),some (.int (m:Int))]/\Off p H H1/\H1 p=some (.lst (av ps'))/\ps'.length=ps.length/\eO ps'/\(∀ y s,bv ps y s->bv ps' y s)/\bv ps' m r) x ⟨ps,rfl,GB,e,rfl,hf,fun _ _ h=>h,hr⟩ ?_
 rintro m σ H1 ⟨ps',rfl,o1,e1,hl,hf1,hk,hr1⟩
 have hm:=hr1.lt
 obtain ⟨y,hy⟩:∃ y,ps'[m]?=some y:=⟨_,Lz hm⟩
 walk_at "rd"
 refine cO (SqL.of e1) (lW hy) ?_
 walk_at "rd"
 refine zG (fun c=>?_) (fun c=>?_)
 ·have hym:y < m:=by have:=hf1 m y hy; omega
  obtain ⟨g,hg⟩:∃ g,ps'[y]?=some g:=⟨_,Lz (by omega)⟩
  have hgy:=hf1 y g hg
  refine Cz ?_
  walk_at "rd"
  refine cO (SqL.of e1) (lW hy) ?_
  walk_at "rd"
  refine cO (SqL.of e1) (lW hg) ?_
  walk_at "rd"
  refine qK e1 (wB (by rw [bj]; exact hm)) ?_
  rw [tQ]
  walk_at "rd"
  refine cO (SqL.of az) (lW (z:=g) (kB hm)) ?_
  walk_at "rd"
  refine ⟨g,by omega,ps'.set m g,rfl,qT o1 i4,az,by rw [NI]; exact hl,hf1.set (by omega),fun a s h=>bv.halve hf1 hy hg (hk a s h),?_⟩
  have:=bv.halve hf1 hy hg hr1
  cases this with
  | stop h=>
   rw [kB hm] at h
   cases h
   omega
  | step h _ t=>
   rw [kB hm] at h
   cases h
   exact t
 ·have:y=m:=by omega
  subst this
  walk_at "rd"
  have er:y=r:=(bv.stop hy).inj hr1
  rw [er]
  exact q H1 ps' o1 e1 hl hf1 hk
noncomputable def wC (_:Fg):Sp:=fun vs H Q _=>∃ (p:Addr) (ps:List Nat) (n:Nat) (P P':Nat->Nat->Prop) (a b:Nat),vs=[.ref p,.int (a:Int),.int (b:Int)]/\H p=some (.lst (av ps))/\dm n P ps/\a < n/\b < n/\
 (∀ x y,P x y->P' x y)/\(∀ x y,P' x y->P x y\/(x=a/\y=b))/\P' a b/\∀ H' ps',Off p H H'->H' p=some (.lst (av ps'))->dm n P' ps'->Q .non H'
noncomputable def uX (K:Fg):TS:=(ar (aE (au (kC K) [] E0 (aa (ab 0) (aa (ab 1) af))) (am 3))
 (ar (aE (au (kC K) [] E0 (aa (ab 0) (aa (ab 2) af))) (am 4))
 (aE (tCB CC (aa (ab 3) (aa (ab 4) af))) (qA (ab 0) (tCB HS (aa (ab 3) (aa (ab 4) af))) mM))))
theorem IN (h:wC K vs H Q E):uX K { nx:=fun _ H'=>Q .non H',rt:=Q } (start ["points","one","other","first","second"] vs) H:=by
 obtain ⟨p,ps,n,P,P',a,b,rfl,e,ht,ha,hb,h1,h2,h3,q⟩:=h
 show uX K _ [some _,some _,some _,none,none] _
 unfold uX
 obtain ⟨ra,hra⟩:=ht.forest.root a (by rw [ht.len]; exact ha)
 walk_at "rd"
 refine ⟨p,ps,a,ra,rfl,e,ht.forest,hra,fun H1 ps1 o1 e1 l1 f1 k1=>?_⟩
 have ht1:=ht.moved f1 (by rw [l1]; exact ht.len) k1
 obtain ⟨rb,hrb⟩:=ht1.forest.root b (by rw [ht1.len]; exact hb)
 walk_at "rd"
 refine ⟨p,ps1,b,rb,rfl,e1,f1,hrb,fun H2 ps2 o2 e2 l2 f2 k2=>?_⟩
 have ht2:=ht1.moved f2 (by rw [l2]; exact ht1.len) k2
 have hra2:=k2 _ _ (k1 _ _ hra)
 have hrb2:=k2 _ _ hrb
 walk_at "rd"
 have la:=hra2.le
 have lb:=hrb2.le
 obtain ⟨M,m,hM,hm,hd,hle⟩:∃ M m:Nat,(if (rb:Int) > (ra:Int) then (rb:Int) else (ra:Int))=(M:Int)/\(if (rb:Int) < (ra:Int) then (rb:Int) else (ra:Int))=(m:Int)/\((M=ra/\m=rb)\/(M=rb/\m=ra))/\m<=M:=by
  by_cases c:rb < ra
  ·exact ⟨ra,rb,by rw [if_neg (by omega)],by rw [if_pos (by omega)],.inl ⟨rfl,rfl⟩,by omega⟩
  ·by_cases d:ra < rb
   ·exact ⟨rb,ra,by rw [if_pos (by omega)],by rw [if_neg (by omega)],.inr ⟨rfl,rfl⟩,by omega⟩
   ·exact ⟨ra,ra,by rw [if_neg (by omega)],by rw [if_neg (by omega)],.inr ⟨by omega,rfl⟩,LC _⟩
 rw [hm,hM]
 have hMl:M < ps2.length:=by
  rw [ht2.len]
  rcases hd with ⟨rfl,_⟩ | ⟨rfl,_⟩ <;> omega
 refine qK e2 (wB (by rw [bj]; exact hMl)) ?_
 rw [tQ]
 exact q _ _ (qT (qT o1 o2) i4) az (ht2.link hra2 hrb2 hd hle h1 h2 h3)
noncomputable def gb (H:Hp) (a:Addr) (vs:List (List Nat)):Prop:=∃ rs:List Addr,H a=some (.lst (rs.map V.ref))/\Paired (fun (r:Addr) (v:List Nat)=>H r=some (.lst (av v))) rs vs
theorem gb.same {H H':Hp} {a:Addr} {vs:List (List Nat)} (h:gb H a vs) (s:ap H H'):gb H' a vs:=by
 obtain ⟨rs,e,r⟩:=h
 exact ⟨rs,s _ _ e,Paired.mapP r fun _ _ q=>s _ _ q⟩
noncomputable def Within (n:Nat) (v:List Nat):Prop:=v.length=n/\∀ x∈v,x < n
theorem oh {rs:List Addr} {i:Nat} {x:V} (hx:(rs.map V.ref)[i]?=some x):∃ a,rs[i]?=some a/\x=.ref a:=by
 rw [LS] at hx
 cases e:rs[i]? with
 | none=>rw [e] at hx; cases hx
 | some z=>rw [e] at hx; exact ⟨z,rfl,(LR hx).symm⟩
noncomputable def qU (_:Fg):Sp:=fun vs H Q _=>∃ (n:Nat) (a:Addr) (ws:List (List Nat)),vs=[.int (n:Int),.ref a]/\gb H a ws/\(∀ v∈ws,Within n v)/\n<=100000/\
 ∀ r p H',qS n (j9 n ws) r->H p=none->ap H H'->H' p=some (.lst (av r))->Q (.ref p) H'
noncomputable def pG (K:Fg):TS:=(ar (aE (Ia (aa (ab 0) af)) (am 2))
 (ar (cS (du K (ab 1)) (am 3) (cS (rP aB K (aa (ab 3) af)) (ic K 2 (bC (am 4) (bC (am 5) ib))) (dG (au (wC K) [] E0 (aa (ab 2) (aa (ab 4) (aa (ab 5) af)))))))
 (aI (bZ (ff (aa (ab 0) af)) (fun _ _ _ _=>(am 0)) (fun _ _ _ _=>bK) (fun _ _ _ _=>(au (kC K) [] E0 (aa (ab 1) (aa (ab 0) af)))) [none,some 2]))))
theorem CY {n:Nat} {ws:List (List Nat)} {i:Nat} {v:List Nat} (hv:ws[i]?=some v) {x y:Nat}:j9 n (ws.take (i + 1)) x y↔j9 n (ws.take i) x y\/(x < n/\v[x]?=some y):=by
 unfold j9
 rw [cK hv]
 constructor
 ·rintro ⟨w,hw,h1,h2⟩
  rcases Mm.mp hw with hw | hw
  ·exact .inl ⟨w,hw,h1,h2⟩
  ·rw [LB.mp hw] at h2; exact .inr ⟨h1,h2⟩
 ·rintro (⟨w,hw,h1,h2⟩ | ⟨h1,h2⟩)
  ·exact ⟨w,Nx _ hw,h1,h2⟩
  ·exact ⟨v,MA _ (LB.mpr rfl),h1,h2⟩
theorem _root_.KF.dm.congr {n:Nat} {P P':Nat->Nat->Prop} {ps:List Nat} (t:dm n P ps) (h:∀ x y,P x y↔P' x y):dm n P' ps:=by
 have e:P=P':=by funext x y; exact propext (h x y)
 rw [<-e]; exact t
theorem Ff (h:qU K vs H Q E):pG K { nx:=fun _ H'=>Q .non H',rt:=Q } (start ["many","views","points","view","thing","least"] vs) H:=by
 obtain ⟨n,a,ws,rfl,hV,hw,hn,q⟩:=h
 show pG K _ [some _,some _,none,none,none,none] _
 unfold pG
 obtain ⟨rs,ea,hr⟩:=id hV
 have hlr:rs.length=ws.length:=MN hr
 walk_at "rd"
 refine Ki ?_
 walk_at "rd"
 refine ⟨n,rfl,by omega,K9 (by omega) fun p H1 hp s1 e1=>?_⟩
 rw [CW] at e1
 walk_at "rd"
 refine lD (rs.map V.ref) (SqL.of (s1 _ _ ea)) (fun i σ H2=>∃ (u1 u2 u3:Option V) (ps:List Nat),σ=[some (.int (n:Int)),some (.ref a),some (.ref p),u1,u2,u3]/\ap H H2/\H2 p=some (.lst (av ps))/\dm n (j9 n (ws.take i)) ps) ?_ ?_ ?_ ?_
 ·refine ⟨_,_,_,_,rfl,s1,e1,(dm.start n).congr fun x y=>⟨fun h=>h.elim,fun ⟨w,hw,_⟩=>by simp at hw⟩⟩
 ·rintro i σ H2 hi ⟨u1,u2,u3,ps,rfl,s2,e2,t2⟩
  exact SqL.of (s2 _ _ ea)
 ·rintro i x σ H2 hx ⟨u1,u2,u3,ps,rfl,s2,e2,t2⟩
  obtain ⟨b,hb,rfl⟩:=oh hx
  obtain ⟨v,hv,ev⟩:=bQ hr hb
  obtain ⟨hvl,hvx⟩:=hw v (LU hv)
  walk_at "rd"
  refine BU (S:=aB) (av v) (SqL.of (s2 _ _ ev)) (fun j σ H3=>∃ (u2 u3:Option V) (ps:List Nat),σ=[some (.int (n:Int)),some (.ref a),some (.ref p),some (.ref b),u2,u3]/\ap H H3/\H3 p=some (.lst (av ps))/\dm n (fun x y=>j9 n (ws.take i) x y\/(x < j/\v[x]?=some y)) ps) ?_ ?_ ?_ ?_
  ·exact ⟨_,_,ps,rfl,s2,e2,t2.congr fun x y=>⟨.inl,fun h=>h.elim (fun h=>h) fun h=>absurd h.1 (by omega)⟩⟩
  ·rintro j σ H3 hj ⟨u2,u3,ps,rfl,s3,e3,t3⟩
   exact SqL.of (s3 _ _ ev)
  ·rintro j x T σ H3 H4 hx ⟨u2,u3,ps,rfl,s3,e3,t3⟩ hT s4 eT
   obtain ⟨z,hz,rfl⟩:=i6 hx
   have hjl:j < v.length:=(LD.mp hz).1
   refine ik (SqT.of eT) ?_
   walk_at "rd"
   refine ⟨p,ps,n,_,(fun x y=>j9 n (ws.take i) x y\/(x < j + 1/\v[x]?=some y)),j,z,rfl,s4 _ _ e3,t3,by omega,hvx z (LU hz),?_,?_,.inr ⟨by omega,hz⟩,fun H5 ps5 o5 e5 t5=>?_⟩
   ·rintro x y (h | h)
    ·exact .inl h
    ·exact .inr ⟨by omega,h.2⟩
   ·rintro x y (h | ⟨h1,h2⟩)
    ·exact .inl (.inl h)
    ·by_cases c:x=j
     ·subst c
      rw [hz] at h2
      cases h2
      exact .inr ⟨rfl,rfl⟩
     ·exact .inl (.inr ⟨by omega,h2⟩)
   ·exact ⟨_,_,ps5,rfl,(s3.trans s4).off hp o5,e5,t5⟩
  ·rintro σ H3 ⟨u2,u3,ps,rfl,s3,e3,t3⟩
   rw [bj] at t3
   exact ⟨_,_,_,ps,rfl,s3,e3,t3.congr fun x y=>by rw [CY hv,hvl]⟩
 ·rintro σ H2 ⟨u1,u2,u3,ps,rfl,s2,e2,t2⟩
  rw [LF,hlr,Mw] at t2
  walk_at "rd"
  refine Fd n (by omega) (by omega) (by omega) (fun l i acc H3=>∃ (ps' rr:List Nat),acc=av rr/\rr.length=i/\H3 l=some (.lst acc)/\l≠p/\H l=none/\ap H H3/\H3 p=some (.lst (av ps'))/\dm n (j9 n ws) ps'/\(∀ y s,bv ps y s->bv ps' y s)/\∀ k x:Nat,rr[k]?=some x->bv ps k x) ?_ ?_ ?_ ?_
  ·intro l H3 hl s3 e3
   exact ⟨ps,[],rfl,rfl,e3,(aS e2 hl).symm,s2.free hl,s2.trans s3,s3 _ _ e2,t2,fun _ _ h=>h,fun k x h=>by simp at h⟩
  ·rintro l i acc H3 ⟨ps',rr,rfl,hl,e3,_⟩
   exact ⟨e3,by rw [bj]; omega⟩
  ·rintro l hl C s' H' fp i acc H3 hi ⟨ps',rr,rfl,hlr',e3,nl,hlH,s3,ep3,t3,k3,g3⟩
   obtain ⟨r,hr⟩:=t2.forest.root i (by rw [t2.len]; exact hi)
   walk_at "rd"
   refine ⟨p,ps',i,r,rfl,ep3,t3.forest,k3 _ _ hr,fun H4 ps4 o4 e4 l4 f4 k4=>?_⟩
   refine ⟨by rw [o4 l nl]; exact e3,ps4,rr++[r],i5 rr r,by simp [hlr'],az,nl,hlH,(s3.off hp o4).off hlH i4,by rw [aO nl.symm]; exact e4,t3.moved f4 (by rw [l4]; exact t3.len) k4,fun y s h=>k4 _ _ (k3 _ _ h),fun k x h=>?_⟩
   rw [List.getElem?_append] at h
   by_cases c:k < rr.length
   ·rw [if_pos c] at h
    exact g3 k x h
   ·rw [if_neg c] at h
    have hk:k=i:=by
     by_cases d:k - rr.length=0
     ·omega
     ·rw [Mn (by simp; omega)] at h; cases h
    subst hk
    rw [<-hlr',RA] at h
    cases h
    exact hr
  ·rintro l acc H3 hl ⟨ps',rr,rfl,hlr',e3,nl,hlH,s3,ep3,t3,k3,g3⟩
   exact q rr l H3 (t2.join hlr' g3) hlH s3 e3
end
section
variable {g:CF TG} {tt:CF TT} {te:CF TE} {σ₀:St} {Q:VK} {H:Hp} {K:Fg}
end
theorem pH {H:Hp} {a:Addr} {fs:List (List Nat)} (h:gb H a fs):∃ rs:List Addr,H a=some (.lst (rs.map V.ref))/\rs.length=fs.length/\∀ (i:Nat) (r:Addr),rs[i]?=some r->∃ v,fs[i]?=some v/\H r=some (.lst (av v)):=by
 obtain ⟨rs,e,p⟩:=h
 exact ⟨rs,e,MN p,fun i r hr=>bQ p hr⟩
end L2
section
namespace L2
open PySem PyProof.Rows
set_option genInjectivity false in
inductive Sy where
 | holds (w c:Nat) | sees (h:Nat) | not (s:Sy) | and (s t:Sy) | or (s t:Sy) | knows (h:Nat) (s:Sy) | all (g:List Nat) (s:Sy) | common (g:List Nat) (s:Sy)
namespace Sy
noncomputable def words:Sy->Nat
 | .holds _ _=>1 | .sees _=>1 | .not s=>s.words + 1 | .and s t=>s.words + t.words + 1 | .or s t=>s.words + t.words + 1 | .knows _ s=>s.words + 1 | .all _ s=>s.words + 1 | .common _ s=>s.words + 1
noncomputable def subs:Sy->List Sy
 | .holds _ _=>[] | .sees _=>[] | .not s=>[s] | .and s t=>[s,t] | .or s t=>[s,t] | .knows _ s=>[s] | .all _ s=>[s] | .common _ s=>[s]
noncomputable def word:Sy->Str
 | .holds _ _=>"holds" | .sees _=>"sees" | .not _=>"not" | .and _ _=>"and" | .or _ _=>"or" | .knows _ _=>"knows" | .all _ _=>"all" | .common _ _=>"common"
noncomputable def form:Sy->List Str
 | .holds _ _=>["holder","card"] | .sees _=>["hand"] | .not _=>["saying"] | .and _ _=>["saying","saying"] | .or _ _=>["saying","saying"] | .knows _ _=>["hand","saying"] | .all _ _=>["hands","saying"] | .common _ _=>["hands","saying"]
noncomputable def plain:Sy->Bool
 | .holds _ _=>true | .not _=>true | .and _ _=>true | .or _ _=>true | _=>false
noncomputable def alone:Sy->Bool
 | .holds _ _=>true | .sees _=>false | .not s=>s.alone | .and s t=>s.alone && t.alone | .or s t=>s.alone && t.alone | .knows _ _=>false | .all _ _=>false | .common _ _=>false
noncomputable def Ok (cards hands:Nat):Sy->Prop
 | .holds w c=>w<=hands/\c < cards | .sees h=>h < hands | .not s=>s.Ok cards hands | .and s t=>s.Ok cards hands/\t.Ok cards hands | .or s t=>s.Ok cards hands/\t.Ok cards hands
 | .knows h s=>h < hands/\s.Ok cards hands | .all g s=>(g.Pairwise (· < ·)/\∀ k∈g,k < hands)/\s.Ok cards hands | .common g s=>(g.Pairwise (· < ·)/\∀ k∈g,k < hands)/\s.Ok cards hands
theorem words_pos (s:Sy):1<=s.words:=by cases s <;> simp [words]
theorem words_subs (s:Sy):s.words=1 + (s.subs.map words).sum:=by cases s <;> simp [words,subs] <;> omega
theorem sub_words {s t:Sy} (h:t∈s.subs):t.words + 1<=s.words:=by
 rw [words_subs s]
 have:=je (SX (f:=words) h)
 omega
end Sy
noncomputable def aK (H:Hp):V->Sy->Prop
 | v,.holds w c=>∃ a,v=.ref a/\H a=some (.tup [.str "holds",.int w,.int c])
 | v,.sees h=>∃ a,v=.ref a/\H a=some (.tup [.str "sees",.int h])
 | v,.not s=>∃ a x,v=.ref a/\H a=some (.tup [.str "not",x])/\aK H x s
 | v,.and s t=>∃ a x y,v=.ref a/\H a=some (.tup [.str "and",x,y])/\aK H x s/\aK H y t
 | v,.or s t=>∃ a x y,v=.ref a/\H a=some (.tup [.str "or",x,y])/\aK H x s/\aK H y t
 | v,.knows h s=>∃ a x,v=.ref a/\H a=some (.tup [.str "knows",.int h,x])/\aK H x s
 | v,.all g s=>∃ a b x,v=.ref a/\H a=some (.tup [.str "all",.ref b,x])/\H b=some (.tup (av g))/\aK H x s
 | v,.common g s=>∃ a b x,v=.ref a/\H a=some (.tup [.str "common",.ref b,x])/\H b=some (.tup (av g))/\aK H x s
theorem aK.keep {H H':Hp} (k:eD H H'):∀ {s:Sy} {v:V},aK H v s->aK H' v s
 | .holds _ _,_,⟨a,e,h⟩=>⟨a,e,k _ _ h⟩
 | .sees _,_,⟨a,e,h⟩=>⟨a,e,k _ _ h⟩
 | .not _,_,⟨a,x,e,h,r⟩=>⟨a,x,e,k _ _ h,aK.keep k r⟩
 | .and _ _,_,⟨a,x,y,e,h,r,q⟩=>⟨a,x,y,e,k _ _ h,aK.keep k r,aK.keep k q⟩
 | .or _ _,_,⟨a,x,y,e,h,r,q⟩=>⟨a,x,y,e,k _ _ h,aK.keep k r,aK.keep k q⟩
 | .knows _ _,_,⟨a,x,e,h,r⟩=>⟨a,x,e,k _ _ h,aK.keep k r⟩
 | .all _ _,_,⟨a,b,x,e,h,i,r⟩=>⟨a,b,x,e,k _ _ h,k _ _ i,aK.keep k r⟩
 | .common _ _,_,⟨a,b,x,e,h,i,r⟩=>⟨a,b,x,e,k _ _ h,k _ _ i,aK.keep k r⟩
noncomputable def iT (form:List Str) (items:List V):List V:=((form.zip items).filter fun p=>decide (p.1=("saying":Str))).map (·.2)
noncomputable def gR (H:Hp) (xs:List V) (ss:List Sy):Prop:=Paired (aK H) xs ss
theorem gR.keep {H H':Hp} (k:eD H H') {xs:List V} {ss:List Sy} (h:gR H xs ss):gR H' xs ss:=Paired.mapP h fun _ _ r=>r.keep k
theorem ns1:decide (("holder":Str)="saying")=false:=by decide +kernel
theorem ns2:decide (("card":Str)="saying")=false:=by decide +kernel
theorem ns3:decide (("hand":Str)="saying")=false:=by decide +kernel
theorem ns4:decide (("hands":Str)="saying")=false:=by decide +kernel
theorem IO {H:Hp} {v:V} {s:Sy} (h:aK H v s):∃ a items,v=.ref a/\H a=some (.tup (.str s.word :: items))/\items.length=s.form.length/\gR H (iT s.form items) s.subs:=by
 cases s with
 | holds w c=>obtain ⟨a,e,h⟩:=h; exact ⟨a,_,e,h,rfl,by simp only [iT,Sy.form,Nl,NZ,NR,ns1,ns2]; exact .nil⟩
 | sees w=>obtain ⟨a,e,h⟩:=h; exact ⟨a,_,e,h,rfl,by simp only [iT,Sy.form,Nl,NZ,NR,ns3]; exact .nil⟩
 | not s=>obtain ⟨a,x,e,h,r⟩:=h; exact ⟨a,_,e,h,rfl,by simp only [iT,Sy.form,Nl,NZ,NR,decide_true]; exact .cons r .nil⟩
 | and s t=>obtain ⟨a,x,y,e,h,r,q⟩:=h; exact ⟨a,_,e,h,rfl,by simp only [iT,Sy.form,Nl,NZ,NR,decide_true]; exact .cons r (.cons q .nil)⟩
 | or s t=>obtain ⟨a,x,y,e,h,r,q⟩:=h; exact ⟨a,_,e,h,rfl,by simp only [iT,Sy.form,Nl,NZ,NR,decide_true]; exact .cons r (.cons q .nil)⟩
 | knows w s=>obtain ⟨a,x,e,h,r⟩:=h; exact ⟨a,_,e,h,rfl,by simp only [iT,Sy.form,Nl,NZ,NR,decide_true,ns3]; exact .cons r .nil⟩
 | all g s=>obtain ⟨a,b,x,e,h,i,r⟩:=h; exact ⟨a,_,e,h,rfl,by simp only [iT,Sy.form,Nl,NZ,NR,decide_true,ns4]; exact .cons r .nil⟩
 | common g s=>obtain ⟨a,b,x,e,h,i,r⟩:=h; exact ⟨a,_,e,h,rfl,by simp only [iT,Sy.form,Nl,NZ,NR,decide_true,ns4]; exact .cons r .nil⟩
set_option genInjectivity false in
structure Glo where
 forms:Addr
 cw:Addr
 f1:Addr
 f2:Addr
 f3:Addr
 f4:Addr
 f5:Addr
 f6:Addr
 f7:Addr
 f8:Addr
noncomputable def Glo.kvs (G:Glo):List (Str×V):=[("holds",.ref G.f1),("not",.ref G.f2),("and",.ref G.f3),("or",.ref G.f4),("knows",.ref G.f5),("all",.ref G.f6),("common",.ref G.f7),("sees",.ref G.f8)]
structure uY (K:Fg) (G:Glo):Prop where
 t1:kL K G.f1 [.str "holder",.str "card"]
 t2:kL K G.f2 [.str "saying"]
 t3:kL K G.f3 [.str "saying",.str "saying"]
 t4:kL K G.f4 [.str "saying",.str "saying"]
 t5:kL K G.f5 [.str "hand",.str "saying"]
 t6:kL K G.f6 [.str "hands",.str "saying"]
 t7:kL K G.f7 [.str "hands",.str "saying"]
 t8:kL K G.f8 [.str "hand"]
theorem uY.form {K:Fg} {G:Glo} (g:uY K G) (s:Sy):∃ f,G.kvs.lookup s.word=some (.ref f)/\kL K f (s.form.map V.str):=by
 cases s with
 | holds w c=>exact ⟨G.f1,rfl,g.t1⟩
 | sees w=>exact ⟨G.f8,rfl,g.t8⟩
 | not s=>exact ⟨G.f2,rfl,g.t2⟩
 | and s t=>exact ⟨G.f3,rfl,g.t3⟩
 | or s t=>exact ⟨G.f4,rfl,g.t4⟩
 | knows w s=>exact ⟨G.f5,rfl,g.t5⟩
 | all g' s=>exact ⟨G.f6,rfl,g.t6⟩
 | common g' s=>exact ⟨G.f7,rfl,g.t7⟩
theorem lE (x:V) (xs:List V):atI (x :: xs) 0=some x:=by
 have:atI (x :: xs) ((0:Nat):Int)=some x:=fk rfl
 exact this
theorem Fh (form:List Str) (items:List V) (i:Nat) (f:Str) (x:V) (hf:form[i]?=some f) (hx:items[i]?=some x):iT (form.take (i + 1)) (items.take (i + 1))=iT (form.take i) (items.take i)++(if f="saying" then [x] else []):=by
 unfold iT
 have e:(form.take (i + 1)).zip (items.take (i + 1))=(form.take i).zip (items.take i)++[(f,x)]:=by
  rw [Nr,Nr,hf,hx]
  rw [List.zip_append (by
   have h1:=(LD.mp hf).1
   have h2:=(LD.mp hx).1
   rw [M6,M6]
   omega)]
  rfl
 rw [e,QS,Ma]
 congr 1
 by_cases h:f="saying"
 ·rw [if_pos h,Py (by simpa using h)]
  rfl
 ·rw [if_neg h,Pz (by simpa using h)]
  rfl
theorem GC (form:List Str) (items:List V):(iT form items).length<=form.length:=by
 unfold iT
 rw [LF]
 refine Me (Sb _ _) ?_
 rw [M5]
 omega
theorem Sy.form_len (s:Sy):s.form.length<=2:=by cases s <;> simp [Sy.form]
theorem mU {H:Hp} {xs:List V} {ss:List Sy} {i:Nat} {x:V} (h:gR H xs ss) (e:xs[i]?=some x):∃ s,ss[i]?=some s/\aK H x s:=ln h e
theorem gz {H:Hp} {xs:List V} {ss:List Sy} (h:gR H xs ss):xs.length=ss.length:=by
 induction h with
 | nil=>rfl
 | cons _ _ ih=>rw [Mh,Mh,ih]
end L2
end
section
namespace L2
open PySem
noncomputable def Kl (t1 t2:String):Bool:=t1 == t2 || (t1 == "bool" && t2 == "int")
noncomputable def Fi:List String:=["NoneType","bool","int","str","tuple","list","dict"]
noncomputable def BY:List String:=["bool","int","str","tuple","list"]
theorem Aa (K:Fg) (t:String):MG K (.type t) (.type t)=some true:=by unfold MG; rw [if_pos (beq_self_eq_true _)]
theorem Km {K:Fg} {t1 t2:String} {b:Bool} (h:(if (M0 t1 == M0 t2)=true then some true else if RN t2=true then (R9 t1).map (·.contains (.type t2)) else none)=some b):MG K (.type t1) (.type t2)=some b:=h
theorem BZ (K:Fg):∀ t1∈Fi,∀ t2∈BY,MG K (.type t1) (.type t2)=some (Kl t1 t2):=by
 have go:∀ t1∈Fi,∀ t2∈BY,(if (M0 t1 == M0 t2)=true then some true else if RN t2=true then (R9 t1).map (·.contains (.type t2)) else none)=some (Kl t1 t2):=by decide +kernel
 exact fun t1 h1 t2 h2=>Km (go t1 h1 t2 h2)
end L2
end
namespace L2
open PySem PyProof.Rows
section
variable {K:Fg} {vs:List V} {H:Hp} {Q:VK} {E:XK}
open KF
open Classical in
noncomputable def blV (n:Nat) (P:Nat->Prop):List V:=(LO n).map fun i=>V.bl (decide (P i))
theorem cdf {p:Prop} (h:¬ p):false=@decide p (NW p):=(@decide_eq_false p (NW p) h).symm
theorem cdt {p:Prop} (h:p):true=@decide p (NW p):=(@decide_eq_true p (NW p) h).symm
theorem cde {p q:Prop} [i:Decidable p] (h:p↔q):decide p=@decide q (NW q):=@decide_eq_decide p q i (NW q) |>.mpr h
section
open Classical
variable {n i:Nat} {P P':Nat->Prop}
theorem cy (n:Nat) (P:Nat->Prop):(blV n P).length=n:=by unfold blV; simp
theorem oj (h:i < n):(blV n P)[i]?=some (.bl (decide (P i))):=by unfold blV; rw [LS,M8 h]; rfl
theorem Kn (h:i < n):atI (blV n P) (i:Int)=some (.bl (decide (P i))):=fk (oj h)
theorem ol {x:V} (h:(blV n P)[i]?=some x):i < n/\x=.bl (decide (P i)):=by
 have hi:i < n:=by have:=(LD.mp h).1; rw [cy] at this; exact this
 rw [oj hi] at h
 exact ⟨hi,(LR h).symm⟩
theorem qV (h:∀ i,i < n->(P i↔P' i)):blV n P=blV n P':=by
 unfold blV
 refine Nq fun i hi=>?_
 rw [show P i=P' i from propext (h i (Nf.mp hi))]
theorem fO (n:Nat) (P:Nat->Prop):blV (n + 1) P=blV n P++[.bl (decide (P n))]:=by unfold blV; rw [OY,Ma]; rfl
theorem IP (h:i < n) {b:Bool} (hb:∀ j,j < n->j≠i->(P j↔P' j)) (hi:b=decide (P' i)):(blV n P).set i (.bl b)=blV n P':=by
 refine Od fun k=>?_
 rw [OE,cy]
 by_cases e:i=k
 ·subst e
  rw [if_pos rfl,if_pos h,oj h,hi]
 ·rw [if_neg e]
  by_cases hk:k < n
  ·rw [oj hk,oj hk,show P k=P' k from propext (hb k hk (fun z=>e z.symm))]
  ·rw [Mn (by rw [cy]; omega),Mn (by rw [cy]; omega)]
theorem Ab (n:Nat) (h:∀ i,P i):(Mv n [V.bl true]).flatten=blV n P:=by
 induction n with
 | zero=>rfl
 | succ n ih=>
  rw [fO,<-ih,Pc,List.flatten_append,decide_eq_true (h n)]
  simp
theorem GD (n:Nat) (P:Nat->Prop):∀ x∈blV n P,uV x=true:=fun x hx=>by
 unfold blV at hx
 obtain ⟨i,_,rfl⟩:=NC.mp hx
 rfl
end
noncomputable def rY (_:Fg):Sp:=fun vs H Q _=>∃ (a b:Addr) (n:Nat) (P P':Nat->Prop),vs=[.ref a,.ref b]/\H a=some (.lst (blV n P))/\H b=some (.lst (blV n P'))/\n<=100000/\
 ∀ p H',H p=none->ap H H'->H' p=some (.lst (blV n fun i=>P i/\P' i))->Q (.ref p) H'
noncomputable def uZ (K:Fg):TS:=(aI (bZ (oZ aB aB K (aa (ab 0) (aa (ab 1) af))) (fun _ _ _ _=>(ic K 2 (bC (am 0) (bC (am 1) ib)))) (fun _ _ _ _=>bK) (fun _ _ _ _=>(mK (ab 0) (ab 1))) [none,none]))
section
open Classical
theorem IQ (h:rY K vs H Q E):uZ K { nx:=fun _ H'=>Q .non H',rt:=Q } (start ["ones","others"] vs) H:=by
 obtain ⟨a,b,n,P,P',rfl,ea,eb,hn,q⟩:=h
 show uZ K _ [some _,some _] _
 unfold uZ
 walk_at "rd"
 refine nY (S1:=aB) (S2:=aB) _ _ (SqL.of ea) (SqL.of eb) (fun H' s=>s.seq (SqL.of ea)) (fun H' s=>s.seq (SqL.of eb)) (by rw [cy]; omega) (fun i acc _=>acc=blV i fun i=>P i/\P' i) (fun _ _=>rfl) ?_ ?_
 ·rintro p hp C s' H' fp i x y T acc H2 H3 hx hy ⟨s2,e2,l2,rfl⟩ hT s3 e3 e4
  obtain ⟨hi,rfl⟩:=ol hx
  obtain ⟨_,rfl⟩:=ol hy
  walk_at "rd"
  refine ik (SqT.of e3) ?_
  walk_at "rd"
  by_cases h:P i
  ·rw [decide_eq_true h]
   refine qG ?_
   walk_at "rd"
   refine bu.put hp (fun _ _ _ _ r _=>r) (s2.trans s3) e4 l2 ?_
   rw [fO]
   congr 3
   exact decide_eq_decide.mpr ⟨fun q=>⟨h,q⟩,fun q=>q.2⟩
  ·rw [decide_eq_false h]
   refine oT ?_
   refine bu.put hp (fun _ _ _ _ r _=>r) (s2.trans s3) e4 l2 ?_
   rw [fO]
   congr 3
   exact cdf fun q=>h q.1
 ·rintro p acc H2 hp s2 e2 rfl
  rw [cy,cy,Oo] at e2
  exact q _ _ hp s2 e2
end
noncomputable def qW (_:Fg):Sp:=fun vs H Q _=>∃ (a b:Addr) (n:Nat) (P P':Nat->Prop),vs=[.ref a,.ref b]/\H a=some (.lst (blV n P))/\H b=some (.lst (blV n P'))/\n<=100000/\
 ∀ p H',H p=none->ap H H'->H' p=some (.lst (blV n fun i=>P i\/P' i))->Q (.ref p) H'
noncomputable def pI (K:Fg):TS:=(aI (bZ (oZ aB aB K (aa (ab 0) (aa (ab 1) af))) (fun _ _ _ _=>(ic K 2 (bC (am 0) (bC (am 1) ib)))) (fun _ _ _ _=>bK) (fun _ _ _ _=>(FV (ab 0) (ab 1))) [none,none]))
section
open Classical
theorem Fj (h:qW K vs H Q E):pI K { nx:=fun _ H'=>Q .non H',rt:=Q } (start ["ones","others"] vs) H:=by
 obtain ⟨a,b,n,P,P',rfl,ea,eb,hn,q⟩:=h
 show pI K _ [some _,some _] _
 unfold pI
 walk_at "rd"
 refine nY (S1:=aB) (S2:=aB) _ _ (SqL.of ea) (SqL.of eb) (fun H' s=>s.seq (SqL.of ea)) (fun H' s=>s.seq (SqL.of eb)) (by rw [cy]; omega) (fun i acc _=>acc=blV i fun i=>P i\/P' i) (fun _ _=>rfl) ?_ ?_
 ·rintro p hp C s' H' fp i x y T acc H2 H3 hx hy ⟨s2,e2,l2,rfl⟩ hT s3 e3 e4
  obtain ⟨hi,rfl⟩:=ol hx
  obtain ⟨_,rfl⟩:=ol hy
  walk_at "rd"
  refine ik (SqT.of e3) ?_
  walk_at "rd"
  by_cases h:P i
  ·rw [decide_eq_true h]
   refine qG ?_
   refine bu.put hp (fun _ _ _ _ r _=>r) (s2.trans s3) e4 l2 ?_
   rw [fO]
   congr 3
   exact cdt (.inl h)
  ·rw [decide_eq_false h]
   refine oT ?_
   walk_at "rd"
   refine bu.put hp (fun _ _ _ _ r _=>r) (s2.trans s3) e4 l2 ?_
   rw [fO]
   congr 3
   exact decide_eq_decide.mpr ⟨.inr,fun q=>q.resolve_left h⟩
 ·rintro p acc H2 hp s2 e2 rfl
  rw [cy,cy,Oo] at e2
  exact q _ _ hp s2 e2
end
noncomputable def KN (n:Nat) (v:List Nat) (P:Nat->Prop) (i:Nat):Prop:=∀ j,j < n->v.getD j 0=v.getD i 0->P j
theorem pJ {n:Nat} {v:List Nat} (h:Within n v) {i:Nat} (hi:i < n):v[i]?=some (v.getD i 0)/\v.getD i 0 < n:=by
 have hl:i < v.length:=by rw [h.1]; exact hi
 have e:v[i]?=some (v.getD i 0):=by rw [LV,Lz hl]; rfl
 exact ⟨e,h.2 _ (LU e)⟩
noncomputable def jR (_:Fg):Sp:=fun vs H Q _=>∃ (a b:Addr) (n:Nat) (v:List Nat) (P:Nat->Prop),vs=[.ref a,.ref b]/\H a=some (.lst (av v))/\H b=some (.lst (blV n P))/\Within n v/\n<=100000/\
 ∀ p H',H p=none->ap H H'->H' p=some (.lst (blV n (KN n v P)))->Q (.ref p) H'
noncomputable def rZ (K:Fg):TS:=(ar (aE (tOp Gh (fv (aa (tC (.bl true)) af)) (tCB (gi K) (aa (ab 0) af))) (am 2))
 (ar (cS (oZ aB aB K (aa (ab 0) (aa (ab 1) af))) (ic K 2 (bC (am 3) (bC (am 4) ib))) (bB (eU (tB (ab 4))) (aE (tC (.bl false)) (qA (ab 2) (ab 3) mM)) bh))
 (aI (bZ (du K (ab 0)) (fun _ _ _ _=>(am 0)) (fun _ _ _ _=>bK) (fun _ _ _ _=>(tOp (dR K) (ab 1) (ab 0))) [none,some 2]))))
section
open Classical
theorem GG (h:jR K vs H Q E):rZ K { nx:=fun _ H'=>Q .non H',rt:=Q } (start ["view","truths","sure","least","truth"] vs) H:=by
 obtain ⟨a,b,n,v,P,rfl,ea,eb,hv,hn,q⟩:=h
 show rZ K _ [some _,some _,none,none,none] _
 unfold rZ
 have hvl:=hv.1
 walk_at "rd"
 refine ⟨by simp [LI],fun l H1 hl s1 e1=>?_⟩
 walk_at "rd"
 refine uJ (SqL.of (s1 _ _ ea)) ?_
 walk_at "rd"
 rw [bj,hvl]
 refine ⟨l,(n:Int),[.bl true],rfl,rfl,e1,by omega,by omega,by rw [LI]; simp; omega,fun p H2 hp s2 e2=>?_⟩
 rw [OC,Ab (P:=fun x=>∀ j,j < 0->v.getD j 0=x->P j) n (fun _ j h=>absurd h (by omega))] at e2
 have s02:=s1.trans s2
 have hpH:H p=none:=s1.free hp
 walk_at "rd"
 refine Kd (S1:=aB) (S2:=aB) (av v) (blV n P) (SqL.of (s02 _ _ ea)) (SqL.of (s02 _ _ eb)) (fun i σ H3=>∃ (u1 u2:Option V),σ=[some (.ref a),some (.ref b),some (.ref p),u1,u2]/\ap H H3/\H3 p=some (.lst (blV n fun x=>∀ j,j < i->v.getD j 0=x->P j))) ?_ ?_ ?_ ?_
 ·exact ⟨_,_,rfl,s02,e2⟩
 ·rintro i σ H3 ⟨u1,u2,rfl,s3,e3⟩
  exact ⟨SqL.of (s3 _ _ ea),SqL.of (s3 _ _ eb)⟩
 ·rintro i x y T σ H3 H4 hx hy ⟨u1,u2,rfl,s3,e3⟩ hT s4 eT
  obtain ⟨hi,rfl⟩:=ol hy
  obtain ⟨z,hz,rfl⟩:=i6 hx
  obtain ⟨hz',hzn⟩:=pJ hv hi
  rw [hz] at hz'
  have ez:z=v.getD i 0:=LR hz'
  refine ik (SqT.of eT) ?_
  walk_at "rd"
  by_cases h:P i
  ·rw [decide_eq_true h]
   walk_at "rd"
   refine ⟨_,_,rfl,s3.trans s4,?_⟩
   rw [s4 _ _ e3]
   congr 2
   refine qV fun x _=>⟨fun f j hj e=>?_,fun f j hj e=>f j (by omega) e⟩
   by_cases c:j=i
   ·rw [c]; exact h
   ·exact f j (by omega) e
  ·rw [decide_eq_false h]
   walk_at "rd"
   refine qK (s4 _ _ e3) (wB (by rw [cy,ez]; exact hzn)) ?_
   refine ⟨_,_,rfl,(s3.trans s4).off hpH i4,?_⟩
   rw [az]
   congr 2
   refine IP (by rw [ez]; exact hzn) (fun x _ hxz=>⟨fun f j hj e=>?_,fun f j hj e=>f j (by omega) e⟩) ?_
   ·by_cases c:j=i
    ·subst c
     exact absurd (e.symm.trans ez.symm) hxz
    ·exact f j (by omega) e
   ·exact cdf fun f=>h (f i (by omega) ez.symm)
 ·rintro σ H3 ⟨u1,u2,rfl,s3,e3⟩
  rw [bj,cy,hvl,Oo] at e3
  walk_at "rd"
  refine gN (av v) (SqL.of (s3 _ _ ea)) (by rw [bj]; omega) (fun i acc _=>acc=blV i (KN n v P)) (fun _ _=>rfl) ?_ ?_
  ·rintro r hr C s' H' fp i x acc H4 hx ⟨s4,e4,l4,rfl⟩
   obtain ⟨z,hz,rfl⟩:=i6 hx
   have hi:i < n:=by have:=(LD.mp hz).1; omega
   obtain ⟨hz',hzn⟩:=pJ hv hi
   rw [hz] at hz'
   have ez:z=v.getD i 0:=LR hz'
   walk_at "rd"
   refine cO (SqL.of (s4 _ _ e3)) (Kn (by rw [ez]; exact hzn)) ?_
   refine bu.put hr (fun _ _ _ _ r _=>r) s4 e4 l4 ?_
   rw [fO]
   congr 3
   rw [ez]
   rfl
  ·rintro r acc H4 hr s4 e4 rfl
   rw [bj,hvl] at e4
   exact q _ _ (s3.free hr) (s3.trans s4) e4
end
noncomputable def jh (_:Fg):Sp:=fun vs H Q _=>∃ (a b:Addr) (n:Nat) (ws:List (List Nat)) (P:Nat->Prop),vs=[.ref a,.ref b]/\gb H a ws/\H b=some (.lst (blV n P))/\(∀ v∈ws,Within n v)/\n<=100000/\
 ∀ p H',H p=none->ap H H'->H' p=some (.lst (blV n fun i=>∀ v∈ws,KN n v P i))->Q (.ref p) H'
noncomputable def gS (K:Fg):TS:=(ar (aE (tOp Gh (fv (aa (tC (.bl true)) af)) (tCB (gi K) (aa (ab 1) af))) (am 2))
 (ar (cS (du K (ab 0)) (am 3) (aE (au (rY K) [] E0 (aa (ab 2) (aa (au (jR K) [] E0 (aa (ab 3) (aa (ab 1) af))) af))) (am 2)))
 (aI (ab 2))))
theorem vc (h:jh K vs H Q E):gS K { nx:=fun _ H'=>Q .non H',rt:=Q } (start ["views","truths","answers","view"] vs) H:=by
 obtain ⟨a,b,n,ws,P,rfl,hV,eb,hw,hn,q⟩:=h
 show gS K _ [some _,some _,none,none] _
 unfold gS
 obtain ⟨rs,ea,hlr,hr⟩:=pH hV
 walk_at "rd"
 refine ⟨by simp [LI],fun l H1 hl s1 e1=>?_⟩
 walk_at "rd"
 refine uJ (SqL.of (s1 _ _ eb)) ?_
 walk_at "rd"
 rw [cy]
 refine ⟨l,(n:Int),[.bl true],rfl,rfl,e1,by omega,by omega,by rw [LI]; simp; omega,fun p H2 hp s2 e2=>?_⟩
 rw [OC,Ab (P:=fun i=>∀ v∈ws.take 0,KN n v P i) n (fun _ v h=>by simp at h)] at e2
 have s02:=s1.trans s2
 have hpH:H p=none:=s1.free hp
 walk_at "rd"
 refine lD (rs.map V.ref) (SqL.of (s02 _ _ ea)) (fun i σ H3=>∃ (u1:Option V) (p:Addr),σ=[some (.ref a),some (.ref b),some (.ref p),u1]/\H p=none/\ap H H3/\H3 p=some (.lst (blV n fun k=>∀ v∈ws.take i,KN n v P k))) ?_ ?_ ?_ ?_
 ·exact ⟨_,p,rfl,hpH,s02,e2⟩
 ·rintro i σ H3 _ ⟨u1,p,rfl,hp,s3,e3⟩
  exact SqL.of (s3 _ _ ea)
 ·rintro i x σ H3 hx ⟨u1,p,rfl,hp,s3,e3⟩
  obtain ⟨c,hc,rfl⟩:=oh hx
  obtain ⟨v,hv,ev⟩:=hr i c hc
  walk_at "rd"
  refine ⟨c,b,n,v,P,rfl,s3 _ _ ev,s3 _ _ eb,hw v (LU hv),hn,fun k H4 hk s4 e4=>?_⟩
  walk_at "rd"
  refine ⟨p,k,n,_,_,rfl,s4 _ _ e3,e4,hn,fun k2 H5 hk2 s5 e5=>?_⟩
  have s35:=s4.trans s5
  refine ⟨_,k2,rfl,s3.free (s4.free hk2),s3.trans s35,?_⟩
  rw [e5]
  congr 2
  refine qV fun i _=>?_
  rw [cK hv]
  exact ⟨fun h w hw=>(Mm.mp hw).elim (h.1 w) fun z=>by rw [LB.mp z]; exact h.2,fun h=>⟨fun w hw=>h w (Nx _ hw),h v (by simp)⟩⟩
 ·rintro σ H3 ⟨u1,p,rfl,hp,s3,e3⟩
  rw [LF,hlr,Mw] at e3
  walk_at "rd"
  exact q _ _ hp s3 e3
noncomputable def IR (H:Hp) (a:Addr) (ps:List (List Int)):Prop:=∃ rs:List Addr,H a=some (.lst (rs.map V.ref))/\Paired (fun (r:Addr) (xs:List Int)=>H r=some (.tup (xs.map V.int))) rs ps
noncomputable def CZ (n:Nat) (ps:List (List Int)) (v:List Nat) (j:Nat):Prop:=ps.getD j []=ps.getD (v.getD j 0) []
noncomputable def wD (_:Fg):Sp:=fun vs H Q _=>∃ (a b:Addr) (n:Nat) (v:List Nat) (ps:List (List Int)),vs=[.ref a,.ref b]/\IR H a ps/\ps.length=n/\H b=some (.lst (av v))/\Within n v/\n<=100000/\
 ∀ p H',H p=none->ap H H'->H' p=some (.lst (blV n (KN n v (CZ n ps v))))->Q (.ref p) H'
theorem xL {H:Hp} {rs:List Addr} {ps:List (List Int)} (h:Paired (fun (r:Addr) (xs:List Int)=>H r=some (.tup (xs.map V.int))) rs ps) {i:Nat} (hi:i < ps.length):∃ r,rs[i]?=some r/\H r=some (.tup ((ps.getD i []).map V.int)):=by
 have hl:=MN h
 obtain ⟨r,hr⟩:∃ r,rs[i]?=some r:=⟨_,Lz (by omega)⟩
 obtain ⟨xs,hx,e⟩:=bQ h hr
 refine ⟨r,hr,?_⟩
 rw [LV,hx]
 exact e
noncomputable def vd (K:Fg):TS:=(aI (au (jR K) [] E0 (aa (ab 1) (aa (bZ (oZ aB aB K (aa (ab 0) (aa (ab 1) af))) (fun _ _ _ _=>(ic K 2 (bC (am 0) (bC (am 1) ib)))) (fun _ _ _ _=>bK) (fun _ _ _ _=>(tOp (oY (SqT K) false) (ab 0) (tOp (dR K) (ab 2) (ab 1)))) [none,none,some 0]) af))))
section
open Classical
theorem IS (h:wD K vs H Q E):vd K { nx:=fun _ H'=>Q .non H',rt:=Q } (start ["piles","view"] vs) H:=by
 obtain ⟨a,b,n,v,ps,rfl,⟨rs,ea,hr⟩,hpl,eb,hv,hn,q⟩:=h
 show vd K _ [some _,some _] _
 unfold vd
 have hlr:rs.length=ps.length:=MN hr
 have hvl:=hv.1
 walk_at "rd"
 refine nY (S1:=aB) (S2:=aB) (rs.map V.ref) (av v) (SqL.of ea) (SqL.of eb) (fun H' s=>s.seq (SqL.of ea)) (fun H' s=>s.seq (SqL.of eb)) (by rw [LF]; omega) (fun i acc _=>acc=blV i (CZ n ps v)) (fun _ _=>rfl) ?_ ?_
 ·rintro p hp C s' H' fp i x y T acc H2 H3 hx hy ⟨s2,e2,l2,rfl⟩ hT s3 e3 e4
  obtain ⟨c,hc,rfl⟩:=oh hx
  obtain ⟨z,hz,rfl⟩:=i6 hy
  have hi:i < n:=by have:=(LD.mp hz).1; omega
  obtain ⟨hz',hzn⟩:=pJ hv hi
  rw [hz] at hz'
  have ez:z=v.getD i 0:=LR hz'
  obtain ⟨c',hc',ec⟩:=xL hr (i:=i) (by omega)
  rw [hc] at hc'
  cases hc'
  obtain ⟨d,hd,ed⟩:=xL hr (i:=z) (by omega)
  have s23:=s2.trans s3
  walk_at "rd"
  refine ik (SqT.of e3) ?_
  walk_at "rd"
  refine cO (SqL.of (s23 _ _ ea)) (v:=.ref d) (fk (by rw [LS,hd]; rfl)) ?_
  walk_at "rd"
  refine K6 (SqT.of (s23 _ _ ec)) (SqT.of (s23 _ _ ed)) ?_
  refine bu.put hp (fun _ _ _ _ r _=>r) s23 e4 l2 ?_
  rw [fO]
  congr 3
  rw [ez]
  exact cde UI
 ·rintro p acc H2 hp s2 e2 rfl
  rw [LF,bj,hlr,hpl,hvl,Oo] at e2
  walk_at "rd"
  exact ⟨b,p,n,v,_,rfl,s2 _ _ eb,e2,hv,hn,fun r H3 hr s3 e3=>q r H3 (s2.free hr) (s2.trans s3) e3⟩
end
end
section
open KF
noncomputable def TR (n:Nat) (ws vs:List (List Nat)):Sy->Nat->Prop
 | .holds w c,i=>(ws.getD i []).getD c 0=w
 | .sees h,i=>KN n (vs.getD h []) (CZ n (ws.map fun w=>rW w (vs.length:Nat)) (vs.getD h [])) i
 | .not s,i=>¬ TR n ws vs s i
 | .and s t,i=>TR n ws vs s i/\TR n ws vs t i
 | .or s t,i=>TR n ws vs s i\/TR n ws vs t i
 | .knows h s,i=>KN n (vs.getD h []) (TR n ws vs s) i
 | .all g s,i=>∀ v∈g.map (fun h=>vs.getD h []),KN n v (TR n ws vs s) i
 | .common g s,i=>∀ j,j < n->dH (j9 n (g.map fun h=>vs.getD h [])) i j->TR n ws vs s j
theorem ve {n:Nat} {P:Nat->Nat->Prop} {r:List Nat} (h:qS n P r) {i j:Nat} (hi:i < n) (hj:j < n):r.getD j 0=r.getD i 0↔dH P i j:=by
 have ei:r[i]?=some (r.getD i 0):=by rw [LV,Lz (by rw [h.len]; exact hi)]; rfl
 have ej:r[j]?=some (r.getD j 0):=by rw [LV,Lz (by rw [h.len]; exact hj)]; rfl
 constructor
 ·intro e
  have c1:=h.conn _ _ ei
  have c2:=h.conn _ _ ej
  rw [e] at c2
  exact .trans c1 (.symm c2)
 ·intro c
  have:=h.same i j hi hj c
  rw [ei,ej] at this
  exact (LR this).symm
theorem Bp {n:Nat} {P:Nat->Nat->Prop} {r:List Nat} (h:qS n P r):Within n r:=⟨h.len,fun x hx=>by
 obtain ⟨i,hi⟩:=P9.mp hx
 have:=h.le i x hi
 have:=(LD.mp hi).1
 rw [h.len] at this
 omega⟩
theorem IT {n:Nat} {P:Nat->Nat->Prop} {r:List Nat} (h:qS n P r) {F:Nat->Prop} {i:Nat} (hi:i < n):KN n r F i↔∀ j,j < n->dH P i j->F j:=
 ⟨fun k j hj c=>k j hj ((ve h hi hj).mpr c),fun k j hj e=>k j hj ((ve h hi hj).mp e)⟩
theorem vf:∀ {g:List Nat} {m:Nat},g.Pairwise (· < ·)->(∀ k∈g,k < m)->g.length<=m:=by
 intro g m hp hk
 have go:∀ (l:List Nat) (lo:Nat),l.Pairwise (· < ·)->(∀ k∈l,lo<=k/\k < m)->l.length + lo<=m\/l=[]:=by
  intro l
  induction l with
  | nil=>intro _ _ _; exact .inr rfl
  | cons x r ih=>
   intro lo hp hk
   obtain ⟨h1,h2⟩:=QU.mp hp
   have hx:=hk x (LG ..)
   rcases ih (x + 1) h2 (fun k hkr=>⟨h1 k hkr,(hk k (LJ _ hkr)).2⟩) with h | h
   ·left; rw [Mh]; omega
   ·left; rw [h]; simp; omega
 rcases go g 0 hp (fun k h=>⟨MJ _,hk k h⟩) with h | h
 ·omega
 ·rw [h]; simp
structure Table (H:Hp) (a b:Addr) (c n:Nat) (ws vs:List (List Nat)):Prop where
 deals:bt H a ws
 len:ws.length=n
 cards:∀ w∈ws,w.length=c
 small:n<=100000
 few:c<=1000
 views:gb H b vs
 win:∀ v∈vs,Within n v
 hands:vs.length<=1000
theorem Table.same {H H':Hp} {a b:Addr} {c n:Nat} {ws vs:List (List Nat)} (t:Table H a b c n ws vs) (s:ap H H'):Table H' a b c n ws vs:=⟨t.deals.same' s,t.len,t.cards,t.small,t.few,t.views.same s,t.win,t.hands⟩
theorem lG {ws:List (List Nat)} {i:Nat} {w:List Nat} (h:ws[i]?=some w):ws.getD i []=w:=by rw [LV,h]; rfl
theorem r0 {H:Hp} {b:Addr} {vs:List (List Nat)} (h:gb H b vs) {k:Nat} (hk:k < vs.length):∃ (rs:List Addr) (r:Addr),H b=some (.lst (rs.map V.ref))/\atI (rs.map V.ref) (k:Int)=some (.ref r)/\H r=some (.lst (av (vs.getD k [])))/\vs.getD k []∈vs:=by
 obtain ⟨rs,e,hl,hr⟩:=pH h
 obtain ⟨r,hrk⟩:∃ r,rs[k]?=some r:=⟨_,Lz (by omega)⟩
 obtain ⟨v,hv,ev⟩:=hr k r hrk
 refine ⟨rs,r,e,fk (by rw [LS,hrk]; rfl),?_,?_⟩
 ·rw [lG hv]; exact ev
 ·rw [lG hv]; exact LU hv
noncomputable def bW (_:Fg) (m:Nat):Sp:=fun vals H Q _=>∃ (a b:Addr) (x:V) (c n:Nat) (ws vs:List (List Nat)) (s:Sy),vals=[.ref a,.ref b,x]/\Table H a b c n ws vs/\aK H x s/\s.Ok c vs.length/\s.words<=m/\
 ∀ p H',H p=none->ap H H'->H' p=some (.lst (blV n (TR n ws vs s)))->Q (.ref p) H'
noncomputable def ka (K:Fg) (n:Nat):TS:=(ar (aE (tOp (cT K) (ab 2) (tC (.int 0))) (am 3))
 (ar (bB (bq (tOp rEq (ab 3) (tC (.str "holds")))) (aI (bZ (du K (ab 0)) (fun _ _ _ _=>(am 0)) (fun _ _ _ _=>bK) (fun _ _ _ _=>(tOp rEq (tOp (cT K) (ab 0) (tOp (cT K) (ab 1) (tC (.int 2)))) (tOp (cT K) (ab 1) (tC (.int 1))))) [none,some 2])) bh)
 (ar (bB (bq (tOp rEq (ab 3) (tC (.str "sees")))) (aI (au (wD K) [] E0 (aa (bZ (du K (ab 0)) (fun _ _ _ _=>(am 0)) (fun _ _ _ _=>bK) (fun _ _ _ _=>(au (j7 K) [] E0 (aa (ab 0) (aa (tCB (gi K) (aa (ab 1) af)) af)))) [none,some 1]) (aa (tOp (dR K) (ab 1) (tOp (cT K) (ab 2) (tC (.int 1)))) af)))) bh)
 (ar (bB (bq (tOp rEq (ab 3) (tC (.str "not")))) (aI (bZ (du K (au (bW K n) [] E0 (aa (ab 0) (aa (ab 1) (aa (tOp (cT K) (ab 2) (tC (.int 1))) af))))) (fun _ _ _ _=>(am 0)) (fun _ _ _ _=>bK) (fun _ _ _ _=>(yX (ab 0))) [none])) bh)
 (ar (bB (bq (tOp rEq (ab 3) (tC (.str "and")))) (aI (au (rY K) [] E0 (aa (au (bW K n) [] E0 (aa (ab 0) (aa (ab 1) (aa (tOp (cT K) (ab 2) (tC (.int 1))) af)))) (aa (au (bW K n) [] E0 (aa (ab 0) (aa (ab 1) (aa (tOp (cT K) (ab 2) (tC (.int 2))) af)))) af)))) bh)
 (ar (bB (bq (tOp rEq (ab 3) (tC (.str "or")))) (aI (au (qW K) [] E0 (aa (au (bW K n) [] E0 (aa (ab 0) (aa (ab 1) (aa (tOp (cT K) (ab 2) (tC (.int 1))) af)))) (aa (au (bW K n) [] E0 (aa (ab 0) (aa (ab 1) (aa (tOp (cT K) (ab 2) (tC (.int 2))) af)))) af)))) bh)
 (ar (aE (au (bW K n) [] E0 (aa (ab 0) (aa (ab 1) (aa (tOp (cT K) (ab 2) (tC (.int 2))) af)))) (am 4))
 (ar (bB (bq (tOp rEq (ab 3) (tC (.str "knows")))) (aI (au (jR K) [] E0 (aa (tOp (dR K) (ab 1) (tOp (cT K) (ab 2) (tC (.int 1)))) (aa (ab 4) af)))) bh)
 (ar (aE (bZ (wn K (tOp (cT K) (ab 2) (tC (.int 1)))) (fun _ _ _ _=>(am 0)) (fun _ _ _ _=>bK) (fun _ _ _ _=>(tOp (dR K) (ab 1) (ab 0))) [none,some 1]) (am 5))
 (ar (bB (bq (tOp rEq (ab 3) (tC (.str "all")))) (aI (au (jh K) [] E0 (aa (ab 5) (aa (ab 4) af)))) bh)
 (aI (au (jR K) [] E0 (aa (au (qU K) [] E0 (aa (tCB (gi K) (aa (ab 0) af)) (aa (ab 5) af))) (aa (ab 4) af))))))))))))))
noncomputable abbrev Bq:List Str:=["deals","views","S","word","inner","some"]
theorem qX {K:Fg} {vs:List V} {H:Hp} {Q:VK} {E:XK} (h:bW K 0 vs H Q E):False:=by
 obtain ⟨a,b,x,c,n,ws,vs,s,rfl,_,_,_,h,_⟩:=h
 have:=s.words_pos
 omega
theorem C0 {H:Hp} {rs:List Addr} {ps:List (List Int)} {r:Addr} {xs:List Int} (h:Paired (fun (r:Addr) (xs:List Int)=>H r=some (.tup (xs.map V.int))) rs ps) (e:H r=some (.tup (xs.map V.int))):Paired (fun (r:Addr) (xs:List Int)=>H r=some (.tup (xs.map V.int))) (rs++[r]) (ps++[xs]):=by
 induction h with
 | nil=>exact .cons e .nil
 | cons a _ ih=>exact .cons a ih
theorem C1 {H:Hp} {rs:List Addr} {vs:List (List Nat)} {r:Addr} {v:List Nat} (h:Paired (fun (r:Addr) (v:List Nat)=>H r=some (.lst (av v))) rs vs) (e:H r=some (.lst (av v))):Paired (fun (r:Addr) (v:List Nat)=>H r=some (.lst (av v))) (rs++[r]) (vs++[v]):=by
 induction h with
 | nil=>exact .cons e .nil
 | cons a _ ih=>exact .cons a ih
theorem Fk {K:Fg} {H:Hp} {b e:Addr} {g:List Nat} {vs:List (List Nat)} {Q:VK} {σ₀:St} {gg:CF TG} {tt:CF TT} {te:CF TE} (hV:gb H b vs) (hg:∀ k∈g,k < vs.length) (hgl:g.length<=1000) (eg:H e=some (.tup (av g)))
  (hs:∀ C s' H' fp (k:Nat) (rs:List Addr) (r:Addr) H2 (R:V->Hp->Prop) (N:Hp->Prop),H2 b=some (.lst (rs.map V.ref))->atI (rs.map V.ref) (k:Int)=some (.ref r)->R (.ref r) H2->gg C s' H' fp (.int (k:Int)) σ₀ H2 fun σ2 H3=>tt C s' H' fp σ2 H3 fun c H4=>if c=true then te C s' H' fp σ2 H4 fun y H5=>R y H5 else N H4)
  (q:∀ p H',H p=none->ap H H'->gb H' p (g.map fun h=>vs.getD h [])->Q (.ref p) H'):
  ∃ a',V.ref e=.ref a'/\(∃ xs,SqT K H a' xs)/\∀ p,H p=none->∃ W:Nat->Nat->List V->Hp->Prop,(∃ m,W 0 m [] (upd H p (.lst [])))/\∀ C s' H' fp,cG (Itt K a') (gg C s' H' fp) (tt C s' H' fp) (te C s' H' fp) σ₀ p Q W:=by
 obtain ⟨rs,eb,hl,hr⟩:=pH hV
 refine ⟨e,rfl,⟨_,SqT.of eg⟩,fun p hp=>F9 (xs:=av g) (fun i acc H2=>ap H H2/\H2 p=some (.lst acc)/\acc.length<=i/\∃ ts:List Addr,acc=ts.map V.ref/\Paired (fun (r:Addr) (v:List Nat)=>H r=some (.lst (av v))) ts ((g.take i).map fun h=>vs.getD h [])) ⟨aZ hp _,az,LC _,[],rfl,.nil⟩ (fun i acc H2 _ c=>⟨c.2.1,c.2.2.1⟩) (fun i acc H2 _ c=>c.1.tup (SqT.of eg)) (by rw [bj,LI]; omega) (fun C s' H' fp i x acc H2 hx c=>?_) fun acc H2 c=>?_⟩
 ·obtain ⟨k,hk,rfl⟩:=i6 hx
  have hkm:=hg k (LU hk)
  obtain ⟨r,hrk⟩:∃ r,rs[k]?=some r:=⟨_,Lz (by omega)⟩
  obtain ⟨v,hv,ev⟩:=hr k r hrk
  obtain ⟨s2,e2,l2,ts,rfl,ht⟩:=c
  refine hs C s' H' fp k rs r H2 _ _ (s2 _ _ eb) (fk (by rw [LS,hrk]; rfl)) ⟨e2,s2.upd hp _,az,by simp at l2 ⊢; omega,ts++[r],by simp,?_⟩
  rw [cK hk,Ma]
  exact C1 ht (by show H r=some (.lst (av (vs.getD k []))); rw [lG hv]; exact ev)
 ·obtain ⟨s2,e2,l2,ts,rfl,ht⟩:=c
  rw [bj,Mw] at ht
  exact q p H2 hp s2 ⟨ts,e2,Paired.mapP ht fun r v h=>s2 _ _ h⟩
section
open Classical
theorem Ac {K:Fg} {m:Nat} {vals:List V} {H:Hp} {Q:VK} {E:XK} (h:bW K (m + 1) vals H Q E):ka K m { nx:=fun _ H'=>Q .non H',rt:=Q } (start Bq vals) H:=by
 obtain ⟨a,b,x,c,n,ws,vs,s,rfl,T,hS,hok,hw,q⟩:=h
 show ka K m _ [some _,some _,some _,none,none,none] _
 unfold ka
 obtain ⟨rs,ea,hr⟩:=id T.deals
 have hlr:rs.length=ws.length:=MN hr
 have hn:=T.small
 have hlen:=T.len
 cases s with
 | holds w k=>
  obtain ⟨t,rfl,et⟩:=hS
  obtain ⟨hwh,hkc⟩:=hok
  walk_at "rd"
  refine bw (SqT.of et) (i:=0) rfl ?_
  walk_at "rd"
  refine eE rfl ?_
  walk_at "rd"
  refine gN (rs.map V.ref) (SqL.of ea) (by rw [LF]; omega) (fun i acc _=>acc=blV i (TR n ws vs (.holds w k))) (fun _ _=>rfl) ?_ ?_
  ·rintro p hp C s' H' fp i x acc H2 hx ⟨s2,e2,l2,rfl⟩
   obtain ⟨d,hd,rfl⟩:=oh hx
   obtain ⟨u,hu,eu⟩:=bQ hr hd
   have huc:=T.cards u (LU hu)
   have e1:u[k]?=some (u.getD k 0):=by rw [LV,Lz (by omega)]; rfl
   walk_at "rd"
   refine bw (SqT.of (s2 _ _ et)) (i:=2) rfl ?_
   walk_at "rd"
   refine bw (SqT.of (s2 _ _ eu)) (lW e1) ?_
   walk_at "rd"
   refine bw (SqT.of (s2 _ _ et)) (i:=1) rfl ?_
   walk_at "rd"
   refine bu.put hp (fun _ _ _ _ r _=>r) s2 e2 l2 ?_
   rw [fO]
   congr 3
   refine cde ?_
   show _↔(ws.getD i []).getD k 0=w
   rw [lG hu]
   omega
  ·rintro p acc H2 hp s2 e2 rfl
   rw [LF,hlr,hlen] at e2
   exact q _ _ hp s2 e2
 | sees k=>
  obtain ⟨t,rfl,et⟩:=hS
  have hk:k < vs.length:=hok
  walk_at "rd"
  refine bw (SqT.of et) (i:=0) rfl ?_
  walk_at "rd"
  refine aY (by decide) ?_
  walk_at "rd"
  refine eE rfl ?_
  walk_at "rd"
  obtain ⟨vrs,evb,hvl,_⟩:=pH T.views
  refine gN (rs.map V.ref) (SqL.of ea) (by rw [LF]; omega) (fun i acc H2=>∃ ts:List Addr,acc=ts.map V.ref/\Paired (fun (r:Addr) (xs:List Int)=>H2 r=some (.tup (xs.map V.int))) ts ((ws.take i).map fun w=>rW w (vs.length:Nat))) (fun _ _=>⟨[],rfl,.nil⟩) ?_ ?_
  ·rintro p hp C s' H' fp i x acc H2 hx ⟨s2,e2,l2,ts,rfl,ht⟩
   obtain ⟨d,hd,rfl⟩:=oh hx
   obtain ⟨u,hu,eu⟩:=bQ hr hd
   have huc:=T.cards u (LU hu)
   have:=T.few
   walk_at "rd"
   refine uJ (SqL.of (s2 _ _ evb)) ?_
   walk_at "rd"
   rw [LF,hvl]
   refine ⟨d,u.map fun (s:Nat)=>((s:Nat):Int),(vs.length:Nat),rfl,by rw [<-eM]; exact SqT.of (s2 _ _ eu),by rw [LF]; omega,fun r H3 s3 e3=>?_⟩
   rw [LF] at e3
   refine bu.put hp (fun _ _ _ _ ⟨ts,e,r⟩ k=>⟨ts,e,Paired.mapP r fun _ _ z=>k _ _ z⟩) (s2.trans s3) (s3 _ _ e2) l2 ⟨ts++[r],by simp,?_⟩
   rw [cK hu,Ma]
   exact C0 (Paired.mapP ht fun _ _ z=>s3 _ _ z) e3
  ·rintro p acc H2 hp s2 e2 ⟨ts,rfl,ht⟩
   rw [LF,hlr,Mw] at ht
   walk_at "rd"
   refine bw (SqT.of (s2 _ _ et)) (i:=1) rfl ?_
   walk_at "rd"
   obtain ⟨vr,r,e1,e3,e4,e5⟩:=r0 (T.views.same s2) hk
   refine cO (SqL.of e1) e3 ?_
   walk_at "rd"
   exact ⟨p,r,n,vs.getD k [],_,rfl,⟨ts,e2,ht⟩,by rw [LF]; exact hlen,e4,T.win _ e5,hn,fun p2 H3 hp2 s3 e6=>q p2 H3 (s2.free hp2) (s2.trans s3) e6⟩
 | not s=>
  obtain ⟨t,y,rfl,et,hy⟩:=hS
  have hw':s.words<=m:=by simp only [Sy.words] at hw; omega
  walk_at "rd"
  refine bw (SqT.of et) (i:=0) rfl ?_
  walk_at "rd"
  refine aY (by decide) ?_
  walk_at "rd"
  refine aY (by decide) ?_
  walk_at "rd"
  refine eE rfl ?_
  walk_at "rd"
  refine bw (SqT.of et) (i:=1) rfl ?_
  walk_at "rd"
  refine ⟨a,b,y,c,n,ws,vs,s,rfl,T,hy,hok,hw',fun l H1 hl s1 e1=>?_⟩
  walk_at "rd"
  refine gN _ (SqL.of e1) (by rw [cy]; omega) (fun i acc _=>acc=blV i (TR n ws vs (.not s))) (fun _ _=>rfl) ?_ ?_
  ·rintro p hp C s' H' fp i x acc H2 hx ⟨s2,e2,l2,rfl⟩
   obtain ⟨hi,rfl⟩:=ol hx
   walk_at "rd"
   refine bu.put hp (fun _ _ _ _ r _=>r) s2 e2 l2 ?_
   rw [fO]
   congr 3
   by_cases z:TR n ws vs s i
   ·rw [decide_eq_true z]; exact cdf fun h=>h z
   ·rw [decide_eq_false z]; exact cdt z
  ·rintro p acc H2 hp s2 e2 rfl
   rw [cy] at e2
   exact q _ _ (s1.free hp) (s1.trans s2) e2
 | and s t=>
  obtain ⟨u,y,z,rfl,et,hy,hz⟩:=hS
  have hw1:s.words<=m:=by simp only [Sy.words] at hw; omega
  have hw2:t.words<=m:=by simp only [Sy.words] at hw; omega
  walk_at "rd"
  refine bw (SqT.of et) (i:=0) rfl ?_
  walk_at "rd"
  refine aY (by decide) ?_
  walk_at "rd"
  refine aY (by decide) ?_
  walk_at "rd"
  refine aY (by decide) ?_
  walk_at "rd"
  refine eE rfl ?_
  walk_at "rd"
  refine bw (SqT.of et) (i:=1) rfl ?_
  walk_at "rd"
  refine ⟨a,b,y,c,n,ws,vs,s,rfl,T,hy,hok.1,hw1,fun l H1 hl s1 e1=>?_⟩
  walk_at "rd"
  refine bw (SqT.of (s1 _ _ et)) (i:=2) rfl ?_
  walk_at "rd"
  refine ⟨a,b,z,c,n,ws,vs,t,rfl,T.same s1,hz.keep s1.keep,hok.2,hw2,fun l2 H2 hl2 s2 e2=>?_⟩
  walk_at "rd"
  exact ⟨l,l2,n,_,_,rfl,s2 _ _ e1,e2,hn,fun p H3 hp s3 e3=>q p H3 (s1.free (s2.free hp)) ((s1.trans s2).trans s3) e3⟩
 | or s t=>
  obtain ⟨u,y,z,rfl,et,hy,hz⟩:=hS
  have hw1:s.words<=m:=by simp only [Sy.words] at hw; omega
  have hw2:t.words<=m:=by simp only [Sy.words] at hw; omega
  walk_at "rd"
  refine bw (SqT.of et) (i:=0) rfl ?_
  walk_at "rd"
  refine aY (by decide) ?_
  walk_at "rd"
  refine aY (by decide) ?_
  walk_at "rd"
  refine aY (by decide) ?_
  walk_at "rd"
  refine aY (by decide) ?_
  walk_at "rd"
  refine eE rfl ?_
  walk_at "rd"
  refine bw (SqT.of et) (i:=1) rfl ?_
  walk_at "rd"
  refine ⟨a,b,y,c,n,ws,vs,s,rfl,T,hy,hok.1,hw1,fun l H1 hl s1 e1=>?_⟩
  walk_at "rd"
  refine bw (SqT.of (s1 _ _ et)) (i:=2) rfl ?_
  walk_at "rd"
  refine ⟨a,b,z,c,n,ws,vs,t,rfl,T.same s1,hz.keep s1.keep,hok.2,hw2,fun l2 H2 hl2 s2 e2=>?_⟩
  walk_at "rd"
  exact ⟨l,l2,n,_,_,rfl,s2 _ _ e1,e2,hn,fun p H3 hp s3 e3=>q p H3 (s1.free (s2.free hp)) ((s1.trans s2).trans s3) e3⟩
 | knows k s=>
  obtain ⟨t,y,rfl,et,hy⟩:=hS
  have hw':s.words<=m:=by simp only [Sy.words] at hw; omega
  walk_at "rd"
  refine bw (SqT.of et) (i:=0) rfl ?_
  walk_at "rd"
  refine aY (by decide) ?_
  walk_at "rd"
  refine aY (by decide) ?_
  walk_at "rd"
  refine aY (by decide) ?_
  walk_at "rd"
  refine aY (by decide) ?_
  walk_at "rd"
  refine aY (by decide) ?_
  walk_at "rd"
  refine bw (SqT.of et) (i:=2) rfl ?_
  walk_at "rd"
  refine ⟨a,b,y,c,n,ws,vs,s,rfl,T,hy,hok.2,hw',fun l H1 hl s1 e1=>?_⟩
  walk_at "rd"
  refine eE rfl ?_
  walk_at "rd"
  refine bw (SqT.of (s1 _ _ et)) (i:=1) rfl ?_
  walk_at "rd"
  obtain ⟨vr,r,e2,e3,e4,e5⟩:=r0 (T.views.same s1) hok.1
  refine cO (SqL.of e2) e3 ?_
  walk_at "rd"
  exact ⟨r,l,n,vs.getD k [],_,rfl,e4,e1,T.win _ e5,hn,fun p2 H3 hp2 s3 e6=>q p2 H3 (s1.free hp2) (s1.trans s3) e6⟩
 | all g s=>
  obtain ⟨t,u,y,rfl,et,eu,hy⟩:=hS
  have hw':s.words<=m:=by simp only [Sy.words] at hw; omega
  obtain ⟨⟨hpw,hg⟩,hok'⟩:=hok
  walk_at "rd"
  refine bw (SqT.of et) (i:=0) rfl ?_
  walk_at "rd"
  refine aY (by decide) ?_
  walk_at "rd"
  refine aY (by decide) ?_
  walk_at "rd"
  refine aY (by decide) ?_
  walk_at "rd"
  refine aY (by decide) ?_
  walk_at "rd"
  refine aY (by decide) ?_
  walk_at "rd"
  refine bw (SqT.of et) (i:=2) rfl ?_
  walk_at "rd"
  refine ⟨a,b,y,c,n,ws,vs,s,rfl,T,hy,hok',hw',fun l H1 hl s1 e1=>?_⟩
  walk_at "rd"
  refine aY (by decide) ?_
  walk_at "rd"
  refine bw (SqT.of (s1 _ _ et)) (i:=1) rfl ?_
  refine Fk (T.views.same s1) hg (Me (vf hpw hg) T.hands) (s1 _ _ eu) ?_ ?_
  ·intro C s' H' fp k rs r H2 R N e2 e3 hR
   walk_at "rd"
   exact cO (SqL.of e2) e3 hR
  ·intro p H2 hp s2 V2
   walk_at "rd"
   refine eE rfl ?_
   walk_at "rd"
   refine ⟨p,l,n,_,_,rfl,V2,s2 _ _ e1,?_,hn,fun p2 H3 hp2 s3 e6=>q p2 H3 (s1.free (s2.free hp2)) ((s1.trans s2).trans s3) e6⟩
   intro v hv
   obtain ⟨k,hk,rfl⟩:=NC.mp hv
   obtain ⟨_,_,_,_,_,e5⟩:=r0 T.views (hg k hk)
   exact T.win _ e5
 | common g s=>
  obtain ⟨t,u,y,rfl,et,eu,hy⟩:=hS
  have hw':s.words<=m:=by simp only [Sy.words] at hw; omega
  obtain ⟨⟨hpw,hg⟩,hok'⟩:=hok
  walk_at "rd"
  refine bw (SqT.of et) (i:=0) rfl ?_
  walk_at "rd"
  refine aY (by decide) ?_
  walk_at "rd"
  refine aY (by decide) ?_
  walk_at "rd"
  refine aY (by decide) ?_
  walk_at "rd"
  refine aY (by decide) ?_
  walk_at "rd"
  refine aY (by decide) ?_
  walk_at "rd"
  refine bw (SqT.of et) (i:=2) rfl ?_
  walk_at "rd"
  refine ⟨a,b,y,c,n,ws,vs,s,rfl,T,hy,hok',hw',fun l H1 hl s1 e1=>?_⟩
  walk_at "rd"
  refine aY (by decide) ?_
  walk_at "rd"
  refine bw (SqT.of (s1 _ _ et)) (i:=1) rfl ?_
  refine Fk (T.views.same s1) hg (Me (vf hpw hg) T.hands) (s1 _ _ eu) ?_ ?_
  ·intro C s' H' fp k rs r H2 R N e2 e3 hR
   walk_at "rd"
   exact cO (SqL.of e2) e3 hR
  ·intro p H2 hp s2 V2
   have s12:=s1.trans s2
   have hwin:∀ v∈g.map (fun h=>vs.getD h []),Within n v:=by
    intro v hv
    obtain ⟨k,hk,rfl⟩:=NC.mp hv
    obtain ⟨_,_,_,_,_,e5⟩:=r0 T.views (hg k hk)
    exact T.win _ e5
   walk_at "rd"
   refine aY (by decide) ?_
   walk_at "rd"
   refine uJ (SqL.of (s12 _ _ ea)) ?_
   walk_at "rd"
   rw [LF,hlr,hlen]
   refine ⟨n,p,_,rfl,V2,hwin,hn,fun r j H3 hj hjn s3 e3=>?_⟩
   walk_at "rd"
   refine ⟨j,l,n,r,_,rfl,e3,s3 _ _ (s2 _ _ e1),Bp hj,hn,fun p2 H4 hp2 s4 e4=>q p2 H4 (s1.free (s2.free (s3.free hp2))) ((s12.trans s3).trans s4) ?_⟩
   rw [e4]
   congr 2
   exact qV fun i hi=>IT hj hi
end
end
section
variable {K:Fg} {vs:List V} {H:Hp} {Q:VK} {E:XK}
noncomputable def cz (v:List Nat) (as:List IA):List Nat:=bi (v.zip as)
noncomputable def Ad (p:Nat×IA):MK:=.inr [.inl (some ((p.1:Nat):Int)),.inl p.2]
theorem GH (a b:Nat×IA) (e:Ad a=Ad b):a=b:=by
 have h:=Ph e
 injection h with h1 h2
 injection h1 with h1
 injection h1 with h1
 injection h2 with h2 _
 injection h2 with h2
 obtain ⟨a1,a2⟩:=a
 obtain ⟨b1,b2⟩:=b
 simp only at h1 h2
 rw [show a1=b1 by omega,h2]
theorem Br (v:List Nat) (as:List IA):bi ((v.zip as).map Ad)=cz v as:=sO (f:=Ad) GH _
noncomputable def tR (_:Fg):Sp:=fun vs H Q _=>∃ (a b:Addr) (v:List Nat) (ys:List V) (as:List IA),vs=[.ref a,.ref b]/\H a=some (.lst (av v))/\H b=some (.lst ys)/\ys.map iaV=as.map some/\v.length=as.length/\v.length<=100000/\
 ∀ p H',H p=none->ap H H'->H' p=some (.lst (av (cz v as)))->Q (.ref p) H'
theorem Ae {H:Hp}:∀ {ts:List Addr} {v:List Nat} {ys:List V} {as:List IA},rX H ts ((av v).zip ys)->ys.map iaV=as.map some->Paired (dj H) (ts.map V.ref) ((v.zip as).map Ad)
 | ts,[],ys,as,h,_=>by
  have e:(av []).zip ys=[]:=rfl
  rw [e] at h
  cases h
  rw [show ([]:List Nat).zip as=[] from rfl]
  exact .nil
 | ts,x :: v,[],as,h,e=>by
  have z:(av (x :: v)).zip ([]:List V)=[]:=by simp
  rw [z] at h
  cases h
  have:as=[]:=by
   cases as with
   | nil=>rfl
   | cons _ _=>simp at e
  rw [this]
  simp only [List.zip_nil_right]
  exact .nil
 | ts,x :: v,y :: ys,as,h,e=>by
  cases as with
  | nil=>simp at e
  | cons a as=>
   rw [LZ,LZ] at e
   injection e with e1 e2
   have z:(av (x :: v)).zip (y :: ys)=(.int (x:Int),y) :: (av v).zip ys:=rfl
   rw [z] at h
   cases h with
   | cons h t=>
    rw [Nl,LZ,LZ]
    exact .cons ⟨_,_,rfl,h,.cons rfl (.cons e1 .nil)⟩ (Ae t e2)
noncomputable def r6 (K:Fg):TS:=(aI (au (eN K) [] E0 (aa (CV aB aB K (aa (ab 0) (aa (ab 1) af))) af)))
theorem GI (h:tR K vs H Q E):r6 K { nx:=fun _ H'=>Q .non H',rt:=Q } (start ["view","values"] vs) H:=by
 obtain ⟨a,b,v,ys,as,rfl,ea,eb,hi,hl,hn,q⟩:=h
 show r6 K _ [some _,some _] _
 unfold r6
 walk_at "rd"
 refine Kj ?_
 walk_at "rd"
 refine ⟨a,b,av v,ys,rfl,SqL.of ea,SqL.of eb,by rw [bj]; omega,fun p H1 hp s1 ⟨ts,e1,pt⟩=>?_⟩
 walk_at "rd"
 refine ⟨p,_,_,true,rfl,e1,Ae pt hi,?_,by rw [LF,M5]; omega,fun p2 H2 hp2 s2 e2=>?_⟩
 ·intro k hk
  obtain ⟨w,_,rfl⟩:=NC.mp hk
  rfl
 ·rw [Br] at e2
  exact q _ _ (s1.free hp2) (s1.trans s2) e2
end
end L2
section
namespace L2
open KF
section
variable {α β γ:Type} [DecidableEq α] [DecidableEq β] [DecidableEq γ]
theorem qY {ks:List α} {i:Nat} {k:α} (h:ks[i]?=some k):ks[ks.idxOf k]?=some k:=by
 rw [Lz (QQ (LU h)),List.getElem_idxOf]
theorem kD {ks:List α} {i:Nat} {k:α} (h:ks[i]?=some k):(bi ks)[i]?=some (ks.idxOf k):=by unfold bi; rw [LS,h]; rfl
theorem vg {ks:List α} {j:Nat} {k:α} (h:ks[j]?=some k):ks.idxOf k<=j:=by obtain ⟨_,_,_,hle⟩:=uL (kD h); exact hle
theorem kE {l:List α} {i:Nat} (h:i < l.length):∃ x,l[i]?=some x:=⟨_,Lz h⟩
theorem sU {ks:List α} {ls:List β} (hl:ks.length=ls.length) (h:∀ i j,i < ks.length->j < ks.length->(ks[i]?=ks[j]?↔ls[i]?=ls[j]?)):bi ks=bi ls:=by
 refine Od fun i=>?_
 by_cases hi:i < ks.length
 ·obtain ⟨k,hk⟩:=kE hi
  obtain ⟨l,hL⟩:=kE (l:=ls) (i:=i) (by omega)
  rw [kD hk,kD hL]
  have a1:=qY hk
  have b1:=qY hL
  have la:=vg hk
  have lb:=vg hL
  have e1:ls[ks.idxOf k]?=some l:=by rw [<-hL]; exact ((h _ _ (by omega) hi).mp (a1.trans hk.symm))
  have e2:ks[ls.idxOf l]?=some k:=by rw [<-hk]; exact ((h _ _ (by omega) hi).mpr (b1.trans hL.symm))
  have q1:=vg e1
  have q2:=vg e2
  congr 1
  omega
 ·rw [Mn (by rw [cv]; omega),Mn (by rw [cv]; omega)]
theorem qZ {ks:List α} {i j:Nat} (hi:i < ks.length) (hj:j < ks.length):(bi ks)[i]?=(bi ks)[j]?↔ks[i]?=ks[j]?:=by
 obtain ⟨k,hk⟩:=kE hi
 obtain ⟨l,hL⟩:=kE hj
 rw [kD hk,kD hL,hk,hL]
 constructor
 ·intro e
  rw [<-qY hk,<-qY hL,LR e]
 ·intro e
  rw [LR e]
theorem sV (ks:List α):bi (bi ks)=bi ks:=sU (cv ks) fun i j hi hj=>by rw [cv] at hi hj; exact qZ hi hj
theorem xM {ks:List α} {i m:Nat} (h:(bi ks)[i]?=some m):ks[m]?=ks[i]?/\m<=i/\i < ks.length:=by
 obtain ⟨k,hk,rfl,hle⟩:=uL h
 exact ⟨(qY hk).trans hk.symm,hle,(LD.mp hk).1⟩
theorem om {v:List α} {as:List β} (hl:v.length=as.length) {i j:Nat} (hi:i < v.length) (hj:j < v.length):(v.zip as)[i]?=(v.zip as)[j]?↔v[i]?=v[j]?/\as[i]?=as[j]?:=by
 obtain ⟨x,hx⟩:=kE hi
 obtain ⟨y,hy⟩:=kE hj
 obtain ⟨a,ha⟩:=kE (l:=as) (i:=i) (by omega)
 obtain ⟨b,hb⟩:=kE (l:=as) (i:=j) (by omega)
 have e1:(v.zip as)[i]?=some (x,a):=by rw [OH]; exact ⟨hx,ha⟩
 have e2:(v.zip as)[j]?=some (y,b):=by rw [OH]; exact ⟨hy,hb⟩
 rw [e1,e2,hx,hy,ha,hb]
 simp only [L7.injEq,Prod.mk.injEq]
noncomputable def spl (v:List Nat) (as:List β):List Nat:=bi (v.zip as)
theorem on {v:List Nat} {as:List β} (hl:v.length=as.length):(spl v as).length=v.length:=by unfold spl; rw [cv,M5]; omega
theorem B5 {v:List Nat} {as:List β} (hl:v.length=as.length) {i j:Nat} (hi:i < v.length) (hj:j < v.length):(spl v as)[i]?=(spl v as)[j]?↔v[i]?=v[j]?/\as[i]?=as[j]?:=by
 unfold spl
 rw [qZ (by rw [M5]; omega) (by rw [M5]; omega),om hl hi hj]
theorem Ko {v:List Nat} {w:List Nat} {as:List β} {bs:List γ} (h1:v.length=as.length) (h2:w.length=bs.length) (h3:v.length=w.length) (h:∀ i j,i < v.length->j < v.length->(v[i]?=v[j]?/\as[i]?=as[j]?↔w[i]?=w[j]?/\bs[i]?=bs[j]?)):spl v as=spl w bs:=by
 refine sU (by rw [M5,M5]; omega) fun i j hi hj=>?_
 rw [M5] at hi hj
 rw [om h1 (by omega) (by omega),om h2 (by omega) (by omega)]
 exact h i j (by omega) (by omega)
theorem GJ {v:List Nat} {as:List β} {bs:List γ} (h1:v.length=as.length) (h2:v.length=bs.length):spl (spl v as) bs=spl (spl v bs) as:=by
 refine Ko (by rw [on h1]; exact h2) (by rw [on h2]; exact h1) (by rw [on h1,on h2]) fun i j hi hj=>?_
 rw [on h1] at hi hj
 rw [B5 h1 hi hj,B5 h2 hi hj]
 exact ⟨fun h=>⟨⟨h.1.1,h.2⟩,h.1.2⟩,fun h=>⟨⟨h.1.1,h.2⟩,h.1.2⟩⟩
end
end L2
end
namespace L2
open PySem PyProof.Rows
section
open KF
open Classical in
noncomputable def blA (n:Nat) (P:Nat->Prop):List IA:=(LO n).map fun i=>some (if decide (P i) then 1 else 0)
theorem i7 (n:Nat) (P:Nat->Prop):(blA n P).length=n:=by unfold blA; simp
theorem Kq (n:Nat) (P:Nat->Prop):(blV n P).map iaV=(blA n P).map some:=by
 unfold blV blA
 rw [Oq,Oq]
 exact Nq fun i _=>rfl
open Classical in
theorem B6 {n i:Nat} {P:Nat->Prop} (h:i < n):(blA n P)[i]?=some (some (if decide (P i) then 1 else 0)):=by unfold blA; rw [LS,M8 h]; rfl
theorem B7 {n i j:Nat} {P:Nat->Prop} (hi:i < n) (hj:j < n):(blA n P)[i]?=(blA n P)[j]?↔(P i↔P j):=by
 rw [B6 hi,B6 hj]
 by_cases a:P i <;> by_cases b:P j <;> simp [a,b]
theorem Fl {n:Nat} {P P':Nat->Prop} (h:∀ i,i < n->(P i↔P' i)):blA n P=blA n P':=by
 unfold blA
 refine Nq fun i hi=>?_
 rw [show P i=P' i from propext (h i (Nf.mp hi))]
theorem rc {α:Type} [DecidableEq α] {ks:List α} {n:Nat} (h:ks.length=n):Within n (bi ks):=⟨by rw [cv,h],fun x hx=>by
 obtain ⟨i,hi⟩:=P9.mp hx
 obtain ⟨_,h1,h2⟩:=xM hi
 omega⟩
theorem lY {n:Nat} {v:List Nat} {as:List IA} (hv:Within n v) (hl:as.length=n):Within n (cz v as):=rc (by rw [M5,hv.1,hl,Oo])
theorem Fm (v:List Nat) (as:List IA):bi (cz v as)=cz v as:=sV _
noncomputable def lrn (vw:List (List Nat)) (g:List Nat) (as:List IA):List (List Nat):=g.foldl (fun w h=>w.set h (cz (w.getD h []) as)) vw
theorem wE (as:List IA):∀ (g:List Nat) (vw:List (List Nat)),(lrn vw g as).length=vw.length
 | [],_=>rfl
 | h :: g,vw=>by
  show (lrn (vw.set h _) g as).length=_
  rw [wE as g,NI]
theorem GK (vw:List (List Nat)) (g:List Nat) (h:Nat) (as:List IA):lrn vw (g++[h]) as=(lrn vw g as).set h (cz ((lrn vw g as).getD h []) as):=by
 unfold lrn
 rw [PJ]
 rfl
theorem Fn {ws:List (List Nat)} {i j:Nat} {v:List Nat}:(ws.set i v).getD j []=if i=j/\i < ws.length then v else ws.getD j []:=by
 rw [LV,LV,OE]
 by_cases e:i=j
 ·subst e
  by_cases h:i < ws.length
  ·simp [h]
  ·simp [h,Mn (Rt h)]
 ·simp [e]
theorem wF (as:List IA):∀ (g:List Nat) (vw:List (List Nat)) (i:Nat),g.Nodup->i < vw.length->(lrn vw g as).getD i []=if i∈g then cz (vw.getD i []) as else vw.getD i []
 | [],vw,i,_,_=>by simp [lrn]
 | h :: g,vw,i,nd,hi=>by
  obtain ⟨n1,n2⟩:=Nv.mp nd
  show (lrn (vw.set h _) g as).getD i []=_
  rw [wF as g _ i n2 (by rw [NI]; exact hi),Fn]
  by_cases e:i=h
  ·subst e
   rw [if_neg n1,if_pos ⟨rfl,hi⟩,if_pos LG]
  ·have e':¬ h=i:=fun z=>e z.symm
   have e1:(if h=i/\h < vw.length then cz (vw.getD h []) as else vw.getD i [])=vw.getD i []:=if_neg fun z=>e' z.1
   rw [e1]
   by_cases m:i∈g
   ·rw [if_pos m,if_pos (LJ _ m)]
   ·rw [if_neg m,if_neg fun z=>(LA.mp z).elim e m]
theorem r9 {as:List IA} {P:List Nat->Prop} (hs:∀ v,P v->P (cz v as)):∀ (g:List Nat) (vw:List (List Nat)),(∀ h∈g,h < vw.length)->(∀ v∈vw,P v)->∀ v∈lrn vw g as,P v
 | [],_,_,h=>h
 | k :: g,vw,hk,h=>by
  show ∀ v∈lrn (vw.set k _) g as,P v
  refine r9 hs g _ (fun x hx=>by rw [NI]; exact hk x (LJ _ hx)) fun v hv=>?_
  rcases List.mem_or_eq_of_mem_set hv with z | z
  ·exact h v z
  ·rw [z]
   have hl:=hk k LG
   refine hs _ (h _ ?_)
   rw [LV,Lz hl]
   exact Oi hl
set_option genInjectivity false in
structure TM where
 c:Nat
 ss:List Nat
 vw:List (List Nat)
 ds:List (List Nat×List V)
noncomputable def TM.ws (T:TM):List (List Nat):=KM.cB (T.ss++[T.c - T.ss.sum]) T.c
noncomputable def TM.n (T:TM):Nat:=T.ws.length
noncomputable def TM.k (T:TM):Nat:=T.ss.length
noncomputable def TM.tr (T:TM) (s:Sy):Nat->Prop:=TR T.n T.ws T.vw s
noncomputable def TM.learn (T:TM) (g:List Nat) (as:List IA) (ys:List V):TM:={ T with vw:=lrn T.vw g as,ds:=T.ds++[(g,ys)] }
noncomputable def TM.word (T:TM) (g:List Nat) (s:Sy):TM:=T.learn g (blA T.n (T.tr s)) (blV T.n (T.tr s))
noncomputable def TM.begun (c:Nat) (ss:List Nat):TM:=⟨c,ss,(LO ss.length).map fun i=>lX (KM.cB (ss++[c - ss.sum]) c) ((i:Nat):Int),[]⟩
structure TM.Ok (T:TM):Prop where
 pk:kM T.c T.ss
 few:KM.ck T.c T.ss<=2000
 len:T.vw.length=T.k
 win:∀ v∈T.vw,Within T.n v
 can:∀ v∈T.vw,bi v=v
theorem TM.Ok.n2 {T:TM} (h:T.Ok):T.n<=2000:=by
 show (KM.cB _ _).length<=_
 rw [KM.nK h.pk.sum]
 exact h.few
theorem TM.Ok.cards {T:TM} (h:T.Ok):∀ w∈T.ws,w.length=T.c:=fun w hw=>(KM.iq _ T.c w hw).len
theorem TM.Ok.begun {c:Nat} {ss:List Nat} (pk:kM c ss) (few:KM.ck c ss<=2000):(TM.begun c ss).Ok:=⟨pk,few,by show (List.map _ _).length=ss.length; rw [LF,Nb],fun v hv=>by
 obtain ⟨i,_,rfl⟩:=NC.mp hv
 exact rc (by rw [LF]; rfl),fun v hv=>by
 obtain ⟨i,_,rfl⟩:=NC.mp hv
 exact sV _⟩
theorem TM.Ok.learn {T:TM} (h:T.Ok) {g:List Nat} {as:List IA} {ys:List V} (hg:∀ x∈g,x < T.k) (hl:as.length=T.n):(T.learn g as ys).Ok:=
 ⟨h.pk,h.few,by show (lrn T.vw g as).length=_; rw [wE]; exact h.len,r9 (fun v hv=>lY hv hl) g T.vw (by rw [h.len]; exact hg) h.win,r9 (fun v _=>Fm v as) g T.vw (by rw [h.len]; exact hg) h.can⟩
theorem TM.Ok.word {T:TM} (h:T.Ok) {g:List Nat} {s:Sy} (hg:∀ x∈g,x < T.k):(T.word g s).Ok:=h.learn hg (i7 _ _)
end
section
variable {K:Fg} {vs:List V} {H:Hp} {Q:VK} {E:XK}
theorem IU {i lo hi:Int} (h1:lo<=i) (h2:i<=hi):cx (.int i) lo hi=true:=by
 show (decide (lo<=i) && decide (i<=hi))=true
 rw [decide_eq_true h1,decide_eq_true h2]
 rfl
noncomputable def db (_:Fg):Sp:=fun vs H Q _=>∃ (i b:Int),vs=[.int i,.int b]/\Q (.bl (decide (0<=i) && decide (i<=b - 1))) H
noncomputable def lv (K:Fg):TS:=(aI (au (dU K) [] E0 (aa (ab 0) (aa (tC (.int 0)) (aa (tOp (rI0 fun i j=>.int (i - j)) (ab 1) (tC (.int 1))) af)))))
theorem Bs (h:db K vs H Q E):lv K { nx:=fun _ H'=>Q .non H',rt:=Q } (start ["thing","bound"] vs) H:=by
 obtain ⟨i,b,rfl,q⟩:=h
 show lv K _ [some _,some _] _
 unfold lv
 walk_at "rd"
 exact ⟨.int i,0,b - 1,rfl,fg.int _,q⟩
theorem gB {i b:Int} (h1:0<=i) (h2:i<=b):(decide (0<=i) && decide (i<=b))=true:=by rw [decide_eq_true h1,decide_eq_true h2]; rfl
noncomputable def ji (_:Fg):Sp:=fun vs H Q _=>∃ (a:Addr) (g:List Nat) (h:Nat),vs=[.ref a,.int h]/\H a=some (.tup (av g))/\g.Pairwise (· < ·)/\(∀ k∈g,k < h)/\Q (.bl true) H
noncomputable def kb (K:Fg):TS:=(ar (bB (eU (tB (tCB (lO K) (aa (ab 0) (aa (tC (.ty "tuple")) af))))) (aI (tC (.bl false))) bh)
 (ar (aE (tC (.int 0)) (am 2))
 (ar (cS (wn K (ab 0)) (am 3) (ar (bB (eU (tB (au (dU K) [] E0 (aa (ab 3) (aa (ab 2) (aa (tOp (rI0 fun i j=>.int (i - j)) (ab 1) (tC (.int 1))) af)))))) (aI (tC (.bl false))) bh)
 (aE (tOp (rI0 fun i j=>.int (i + j)) (ab 3) (tC (.int 1))) (am 2))))
 (aI (tC (.bl true))))))
theorem Af (h:ji K vs H Q E):kb K { nx:=fun _ H'=>Q .non H',rt:=Q } (start ["thing","hands","least","hand"] vs) H:=by
 obtain ⟨a,g,h,rfl,e,pw,hg,q⟩:=h
 show kb K _ [some _,some _,none,none] _
 unfold kb
 walk_at "rd"
 refine ll (.tup e) (j0 K) ?_
 walk_at "rd"
 refine zH (av g) (SqT.of e) (fun i σ H2=>∃ (lo:Int) (st:Option V),σ=[some (.ref a),some (.int h),some (.int lo),st]/\H2=H/\∀ k∈g.drop i,lo<=(k:Int)) ⟨0,none,rfl,rfl,fun k _=>by omega⟩ (fun i σ H2 _ ⟨_,_,_,eH,_⟩=>by subst eH; exact SqT.of e) ?_ ?_
 ·rintro i y σ H2 hy ⟨lo,st,rfl,rfl,hlo⟩
  obtain ⟨k,hk,rfl⟩:=i6 hy
  obtain ⟨h1,h2⟩:=LD.mp hk
  have hd:g.drop i=k :: g.drop (i + 1):=by rw [Rh h1,h2]
  have hkh:=hg k (LU hk)
  have pd:(g.drop i).Pairwise (· < ·):=pw.sublist (List.drop_sublist i g)
  rw [hd] at hlo pd
  have l1:=hlo k LG
  walk_at "rd"
  refine ⟨.int (k:Int),lo,(h:Int) - 1,rfl,fg.int _,?_⟩
  rw [IU l1 (show (k:Int)<=(h:Int) - 1 by omega)]
  walk_at "rd"
  refine ⟨_,_,rfl,rfl,fun j hj=>?_⟩
  have:=(QU.mp pd).1 j hj
  omega
 ·rintro σ H2 ⟨lo,st,rfl,rfl,_⟩
  walk_at "rd"
  exact q
noncomputable def nO (_:Fg):Sp:=fun vs H Q _=>∃ (v:V) (s:Sy),vs=[v]/\aK H v s/\∀ (p:Addr) (xs:List V) (H':Hp),ap H H'->H p=none->H' p=some (.lst xs)->gR H' xs s.subs->xs.length<=2->Q (.ref p) H'
noncomputable def lw (K:Fg) (G:Glo):TS:=(ar (aE (tOp (CI G.kvs G.forms) (tC (.ref G.forms)) (tOp (cT K) (ab 0) (tC (.int 0)))) (am 1))
 (aI (bZ (oZ iP iP K (aa (ab 1) (aa (tSl (zJ K) (ab 0) (oR (tC (.int 1))) jO) af))) (fun _ _ _ _=>(ic K 2 (bC (am 0) (bC (am 1) ib)))) (fun _ _ _ _=>(bq (tOp rEq (ab 0) (tC (.str "saying"))))) (fun _ _ _ _=>(ab 1)) [none,none])))
theorem Bt {K:Fg} {G:Glo} (g:uY K G) {vs:List V} {H:Hp} {Q:VK} {E:XK} (h:nO K vs H Q E):lw K G { nx:=fun _ H'=>Q .non H',rt:=Q } (start ["saying","form"] vs) H:=by
 obtain ⟨v,s,rfl,hs,q⟩:=h
 obtain ⟨a,items,rfl,ha,hl,hp⟩:=IO hs
 obtain ⟨f,hf,tf⟩:=g.form s
 show lw K G _ [some _,none] _
 unfold lw
 walk_at "rd"
 refine bw (SqT.of ha) (lE _ _) ?_
 refine HV hf ?_
 walk_at "rd"
 refine CH (SqT.of ha) (nI _ _) fun b H1 hb s1 e1=>?_
 rw [tN] at e1
 walk_at "rd"
 have hml:min (s.form.map V.str).length items.length=s.form.length:=by rw [LF,hl]; omega
 refine nY (S1:=iP) (S2:=iP) (s.form.map V.str) items (tf.sq _) (SqT.of e1) (fun H' _=>tf.sq _) (fun H' s'=>SqT.of (s' _ _ e1)) (by rw [LF]; have:=s.form_len; omega) (fun i acc _=>acc=iT (s.form.take i) (items.take i)) (fun _ _=>rfl) ?_ ?_
 ·intro p hp' C s' H' fp i x y T acc H2 H3 hx hy ⟨s2,e2,l2,r2⟩ hT s3 e3 e4
  obtain ⟨z,hz,rfl⟩:∃ z,s.form[i]?=some z/\x=.str z:=by
   rw [LS] at hx
   cases e:s.form[i]? with
   | none=>rw [e] at hx; cases hx
   | some z=>rw [e] at hx; exact ⟨z,rfl,(LR hx).symm⟩
  have pt:=Fh s.form items i z y hz hy
  subst r2
  refine ik (SqT.of e3) ?_
  walk_at "rd"
  refine dO (fun c=>?_) (fun c=>?_)
  ·walk_at "rd"
   rw [if_pos c] at pt
   exact bu.put hp' (fun _ _ _ _ r _=>r) (s2.trans s3) e4 l2 pt.symm
  ·rw [if_neg c,Oa] at pt
   exact bu.skip (s2.trans s3) e4 l2 pt.symm
 ·intro p acc H2 hp' s2 e2 r2
  rw [hml,<-hl,Mw,hl,Mw] at r2
  subst r2
  refine q p _ H2 (s1.trans s2) (s1.free hp') e2 (hp.keep (s1.trans s2).keep) (Me (GC _ _) s.form_len)
noncomputable def jj (H:Hp) (c h:Nat) (p:Str) (x:V):Prop:=(p="holder"/\∃ k:Nat,x=.int k/\k<=h)\/(p="card"/\∃ k:Nat,x=.int k/\k < c)\/(p="hand"/\∃ k:Nat,x=.int k/\k < h)\/(p="hands"/\∃ a g,x=.ref a/\H a=some (.tup (av g))/\g.Pairwise (· < ·)/\∀ k∈g,k < h)\/p="saying"
noncomputable def wG (_:Fg):Sp:=fun vs H Q _=>∃ (c h:Nat) (p:Str) (x:V),vs=[.int c,.int h,.str p,x]/\jj H c h p x/\Q (.bl true) H
noncomputable def vh (K:Fg):TS:=(ar (bB (bq (tOp rEq (ab 2) (tC (.str "holder")))) (aI (au (db K) [] E0 (aa (ab 3) (aa (tOp (rI0 fun i j=>.int (i + j)) (ab 1) (tC (.int 1))) af)))) bh)
 (ar (bB (bq (tOp rEq (ab 2) (tC (.str "card")))) (aI (au (db K) [] E0 (aa (ab 3) (aa (ab 0) af)))) bh)
 (ar (bB (bq (tOp rEq (ab 2) (tC (.str "hand")))) (aI (au (db K) [] E0 (aa (ab 3) (aa (ab 1) af)))) bh)
 (ar (bB (bq (tOp rEq (ab 2) (tC (.str "hands")))) (aI (au (ji K) [] E0 (aa (ab 3) (aa (ab 1) af)))) bh)
 (aI (tC (.bl true)))))))
theorem IV (h:wG K vs H Q E):vh K { nx:=fun _ H'=>Q .non H',rt:=Q } (start ["cards","hands","place","part"] vs) H:=by
 obtain ⟨c,h,p,x,rfl,k,q⟩:=h
 show vh K _ [some _,some _,some _,some _] _
 unfold vh
 rcases k with ⟨rfl,k,rfl,hk⟩ | ⟨rfl,k,rfl,hk⟩ | ⟨rfl,k,rfl,hk⟩ | ⟨rfl,a,g,rfl,e,pw,hg⟩ | rfl
 ·walk_at "rd"
  refine eE rfl ?_
  walk_at "rd"
  refine ⟨_,_,rfl,?_⟩
  rw [gB (by omega) (by omega)]
  exact q
 ·walk_at "rd"
  refine aY (by decide +kernel) ?_
  walk_at "rd"
  refine eE rfl ?_
  walk_at "rd"
  refine ⟨_,_,rfl,?_⟩
  rw [gB (by omega) (by omega)]
  exact q
 ·walk_at "rd"
  refine aY (by decide +kernel) ?_
  walk_at "rd"
  refine aY (by decide +kernel) ?_
  walk_at "rd"
  refine eE rfl ?_
  walk_at "rd"
  refine ⟨_,_,rfl,?_⟩
  rw [gB (by omega) (by omega)]
  exact q
 ·walk_at "rd"
  refine aY (by decide +kernel) ?_
  walk_at "rd"
  refine aY (by decide +kernel) ?_
  walk_at "rd"
  refine aY (by decide +kernel) ?_
  walk_at "rd"
  refine eE rfl ?_
  walk_at "rd"
  exact ⟨a,g,h,rfl,e,pw,hg,q⟩
 ·walk_at "rd"
  refine aY (by decide +kernel) ?_
  walk_at "rd"
  refine aY (by decide +kernel) ?_
  walk_at "rd"
  refine aY (by decide +kernel) ?_
  walk_at "rd"
  refine aY (by decide +kernel) ?_
  walk_at "rd"
  exact q
theorem GL {H:Hp} {c h:Nat} {v:V} {s:Sy} (hs:aK H v s) (ok:s.Ok c h):∃ a items,v=.ref a/\H a=some (.tup (.str s.word :: items))/\items.length=s.form.length/\∀ (i:Nat) (p:Str) (x:V),s.form[i]?=some p->items[i]?=some x->jj H c h p x:=by
 have one:∀ {p:Str} {x:V},jj H c h p x->∀ (i:Nat) (p':Str) (x':V),[p][i]?=some p'->[x][i]?=some x'->jj H c h p' x':=fun f i p' x' hp hx=>by
  match i,hp,hx with
  | 0,hp,hx=>cases hp; cases hx; exact f
 have two:∀ {p q:Str} {x y:V},jj H c h p x->jj H c h q y->∀ (i:Nat) (p':Str) (x':V),[p,q][i]?=some p'->[x,y][i]?=some x'->jj H c h p' x':=fun f g i p' x' hp hx=>by
  match i,hp,hx with
  | 0,hp,hx=>cases hp; cases hx; exact f
  | 1,hp,hx=>cases hp; cases hx; exact g
 have sy:∀ {x:V},jj H c h "saying" x:=.inr (.inr (.inr (.inr rfl)))
 cases s with
 | holds w k=>obtain ⟨a,e,q⟩:=hs; exact ⟨a,_,e,q,rfl,two (.inl ⟨rfl,w,rfl,ok.1⟩) (.inr (.inl ⟨rfl,k,rfl,ok.2⟩))⟩
 | sees k=>obtain ⟨a,e,q⟩:=hs; exact ⟨a,_,e,q,rfl,one (.inr (.inr (.inl ⟨rfl,k,rfl,ok⟩)))⟩
 | not s=>obtain ⟨a,x,e,q,r⟩:=hs; exact ⟨a,_,e,q,rfl,one sy⟩
 | and s t=>obtain ⟨a,x,y,e,q,r,r'⟩:=hs; exact ⟨a,_,e,q,rfl,two sy sy⟩
 | or s t=>obtain ⟨a,x,y,e,q,r,r'⟩:=hs; exact ⟨a,_,e,q,rfl,two sy sy⟩
 | knows k s=>obtain ⟨a,x,e,q,r⟩:=hs; exact ⟨a,_,e,q,rfl,two (.inr (.inr (.inl ⟨rfl,k,rfl,ok.1⟩))) sy⟩
 | all g s=>obtain ⟨a,b,x,e,q,j,r⟩:=hs; exact ⟨a,_,e,q,rfl,two (.inr (.inr (.inr (.inl ⟨rfl,b,g,rfl,j,ok.1.1,ok.1.2⟩)))) sy⟩
 | common g s=>obtain ⟨a,b,x,e,q,j,r⟩:=hs; exact ⟨a,_,e,q,rfl,two (.inr (.inr (.inr (.inl ⟨rfl,b,g,rfl,j,ok.1.1,ok.1.2⟩)))) sy⟩
theorem jj.same {H H':Hp} (s:ap H H') {c h:Nat} {p:Str} {x:V} (f:jj H c h p x):jj H' c h p x:=by
 rcases f with f | f | f | ⟨e,a,g,e2,q,r⟩ | f
 ·exact .inl f
 ·exact .inr (.inl f)
 ·exact .inr (.inr (.inl f))
 ·exact .inr (.inr (.inr (.inl ⟨e,a,g,e2,s _ _ q,r⟩)))
 ·exact .inr (.inr (.inr (.inr f)))
noncomputable def pK (_:Fg):Sp:=fun vs H Q _=>∃ (c h:Nat) (v:V) (s:Sy),vs=[.int c,.int h,v]/\aK H v s/\s.Ok c h/\∀ H',ap H H'->Q (.bl true) H'
noncomputable def mV (K:Fg) (G:Glo):TS:=(ar (bB (tOr (eU (tB (tCB (lO K) (aa (ab 2) (aa (tC (.ty "tuple")) af))))) (bq (tOp rEq (tCB (gi K) (aa (ab 2) af)) (tC (.int 0))))) (aI (tC (.bl false))) bh)
 (ar (bB (tOr (eU (tB (tCB (lO K) (aa (tOp (cT K) (ab 2) (tC (.int 0))) (aa (tC (.ty "str")) af))))) (bq (tOp (zK G.kvs G.forms true) (tOp (cT K) (ab 2) (tC (.int 0))) (tC (.ref G.forms))))) (aI (tC (.bl false))) bh)
 (ar (aE (tOp (CI G.kvs G.forms) (tC (.ref G.forms)) (tOp (cT K) (ab 2) (tC (.int 0)))) (am 3))
 (ar (bB (bq (tOp rNe (tCB (gi K) (aa (ab 2) af)) (tOp (rI0 fun i j=>.int (i + j)) (tC (.int 1)) (tCB (gi K) (aa (ab 3) af))))) (aI (tC (.bl false))) bh)
 (aI (tCB (CB K) (aa (bZ (oZ iP iP K (aa (ab 3) (aa (tSl (zJ K) (ab 2) (oR (tC (.int 1))) jO) af))) (fun _ _ _ _=>(ic K 2 (bC (am 0) (bC (am 1) ib)))) (fun _ _ _ _=>bK) (fun _ _ _ _=>(au (wG K) [] E0 (aa (ab 2) (aa (ab 3) (aa (ab 0) (aa (ab 1) af)))))) [none,none,some 0,some 1]) af)))))))
theorem Kr {H:Hp} {Q:VK} {kvs:List (Str×V)} {a:Addr} {k:Str} {v:V} (e:kvs.lookup k=some v) (h:Q (.bl false) H):zK kvs a true (.str k) (.ref a) H Q:=⟨rfl,k,rfl,by rw [e]; exact h⟩
theorem GM (K:Fg):MG K (.type "str") (.type "str")=some true:=Aa K "str"
theorem C2 {K:Fg} {G:Glo} (g:uY K G) {vs:List V} {H:Hp} {Q:VK} {E:XK} (h:pK K vs H Q E):mV K G { nx:=fun _ H'=>Q .non H',rt:=Q } (start ["cards","hands","thing","form"] vs) H:=by
 obtain ⟨c,h,v,s,rfl,hs,ok,q⟩:=h
 obtain ⟨a,items,rfl,ha,hl,hf⟩:=GL hs ok
 obtain ⟨f,hk,tf⟩:=g.form s
 have hfl:=s.form_len
 show mV K G _ [some _,some _,some _,none] _
 unfold mV
 walk_at "rd"
 refine ll (.tup ha) (j0 K) ?_
 walk_at "rd"
 refine aY (by show ¬ (((items.length + 1:Nat):Int)=0); omega) ?_
 walk_at "rd"
 refine bw (SqT.of ha) (lE _ _) ?_
 walk_at "rd"
 refine ll (.str _) (GM K) ?_
 walk_at "rd"
 refine bw (SqT.of ha) (lE _ _) ?_
 walk_at "rd"
 refine Kr hk ?_
 walk_at "rd"
 refine bw (SqT.of ha) (lE _ _) ?_
 refine HV hk ?_
 walk_at "rd"
 refine BT (tf.sq _) ?_
 walk_at "rd"
 rw [LF]
 refine zG (fun n=>absurd (show ((items.length + 1:Nat):Int)=1 + ((s.form.length:Nat):Int) by omega) n) (fun _=>?_)
 walk_at "rd"
 refine CH (SqT.of ha) (nI _ _) fun b H1 hb s1 e1=>?_
 rw [tN] at e1
 walk_at "rd"
 refine nY (S1:=iP) (S2:=iP) (s.form.map V.str) items (tf.sq _) (SqT.of e1) (fun H' _=>tf.sq _) (fun H' s'=>SqT.of (s' _ _ e1)) (by rw [LF]; omega) (fun i acc _=>acc=(Mv i true).map V.bl) (fun _ _=>rfl) ?_ ?_
 ·rintro p hp C s' H' fp i x y T acc H2 H3 hx hy ⟨s2,e2,l2,rfl⟩ hT s3 e3 e4
  obtain ⟨z,hz,rfl⟩:∃ z,s.form[i]?=some z/\x=.str z:=by
   rw [LS] at hx
   cases e:s.form[i]? with
   | none=>rw [e] at hx; cases hx
   | some z=>rw [e] at hx; exact ⟨z,rfl,(LR hx).symm⟩
  refine ik (SqT.of e3) ?_
  walk_at "rd"
  refine ⟨c,h,z,y,rfl,(hf i z y hz hy).same ((s1.trans s2).trans s3),?_⟩
  exact bu.put hp (fun _ _ _ _ r _=>r) (s2.trans s3) e4 l2 (by rw [Pc,Ma]; rfl)
 ·rintro p acc H2 hp s2 e2 rfl
  walk_at "rd"
  refine ⟨p,_,rfl,SqL.of e2,?_⟩
  rw [show ∀ n:Nat,(Mv n true).all id=true from fun n=>by simp]
  exact q _ (s1.trans s2)
noncomputable def jk (_:Fg):Sp:=fun vs H Q _=>∃ (l:Addr) (xs:List V) (ss:List Sy),vs=[.ref l]/\H l=some (.lst xs)/\gR H xs ss/\xs.length<=100/\∀ (p:Addr) (ys:List V) (H':Hp),ap H H'->H p=none->H' p=some (.lst ys)->gR H' ys (ss.flatMap Sy.subs)->Q (.ref p) H'
noncomputable def gT (K:Fg):TS:=(ar (aE (fv af) (am 1))
 (ar (cS (du K (ab 0)) (am 2) (dG (tBM K "list" wo (ab 1) (aa (au (nO K) [] E0 (aa (ab 2) af)) af))))
 (aI (ab 1))))
theorem Ks {α β:Type} {F:α->β->Prop} {l l':List α} {m m':List β} (h:Paired F l m) (q:Paired F l' m'):Paired F (l++l') (m++m'):=by
 induction h with
 | nil=>exact q
 | cons x _ ih=>exact .cons x ih
theorem B8:∀ ss:List Sy,(ss.flatMap Sy.subs).length<=2 * ss.length
 | []=>LC _
 | s :: r=>by
  have:=B8 r
  have:s.subs.length<=2:=by cases s <;> simp [Sy.subs]
  rw [Rc,LY,Mh]
  omega
theorem vi (h:jk K vs H Q E):gT K { nx:=fun _ H'=>Q .non H',rt:=Q } (start ["sayings","parts","saying"] vs) H:=by
 obtain ⟨l,xs,ss,rfl,el,hx,h100,q⟩:=h
 show gT K _ [some _,none,none] _
 unfold gT
 have lxs:=gz hx
 walk_at "rd"
 refine ⟨by simp [LI],fun p H1 hp s1 e1=>?_⟩
 walk_at "rd"
 refine lD xs (SqL.of (s1 _ _ el)) (fun i σ H2=>∃ (u:Option V) (ys:List V),σ=[some (.ref l),some (.ref p),u]/\ap H H2/\H2 p=some (.lst ys)/\gR H2 ys ((ss.take i).flatMap Sy.subs)) ⟨none,[],rfl,s1,e1,.nil⟩ ?_ ?_ ?_
 ·rintro i σ H2 hi ⟨u,ys,rfl,s2,_⟩
  exact SqL.of (s2 _ _ el)
 ·rintro i x σ H2 hxi ⟨u,ys,rfl,s2,e2,p2⟩
  obtain ⟨s,hs,is⟩:=mU hx hxi
  have lys:=gz p2
  have:=B8 (ss.take i)
  rw [M6] at this
  walk_at "rd"
  refine ⟨.inl ⟨rfl,_,SqL.of e2⟩,?_⟩
  walk_at "rd"
  refine ⟨x,s,rfl,is.keep s2.keep,fun p3 zs H3 s3 hp3 e3 y3 l3=>?_⟩
  walk_at "rd"
  refine Gi (s3 _ _ e2) e3 (by rw [LI]; omega) fun H4 o4 e4=>?_
  have k4:eD H3 H4:=fun b ws e=>(o4 b fun z=>by rw [z,s3 _ _ e2] at e; cases e).trans e
  refine ⟨_,ys++zs,rfl,(s2.trans s3).off hp o4,e4,?_⟩
  rw [Nr,hs,Qy]
  refine Ks ((p2.keep s3.keep).keep k4) ?_
  show Paired _ zs (s.subs++[])
  rw [Oa]
  exact y3.keep k4
 ·rintro σ H2 ⟨u,ys,rfl,s2,e2,p2⟩
  rw [lxs,Mw] at p2
  walk_at "rd"
  exact q p ys H2 s2 hp e2 p2
theorem Ag:∀ ss:List Sy,(ss.map Sy.words).sum=ss.length + ((ss.flatMap Sy.subs).map Sy.words).sum
 | []=>rfl
 | s :: r=>by
  rw [LZ,Mg,Ag r,s.words_subs,Rc,Ma,Ni,Mh]
  omega
theorem IW {c h:Nat} {s:Sy} (ok:s.Ok c h):∀ t∈s.subs,t.Ok c h:=by
 cases s with
 | holds w k=>exact fun t ht=>nomatch ht
 | sees k=>exact fun t ht=>nomatch ht
 | not s=>exact fun t ht=>by rw [LB.mp ht]; exact ok
 | and s t=>exact fun u hu=>(LA.mp hu).elim (fun z=>z ▸ ok.1) fun z=>LB.mp z ▸ ok.2
 | or s t=>exact fun u hu=>(LA.mp hu).elim (fun z=>z ▸ ok.1) fun z=>LB.mp z ▸ ok.2
 | knows k s=>exact fun t ht=>by rw [LB.mp ht]; exact ok.2
 | all g s=>exact fun t ht=>by rw [LB.mp ht]; exact ok.2
 | common g s=>exact fun t ht=>by rw [LB.mp ht]; exact ok.2
noncomputable def lZ (_:Fg):Sp:=fun vs H Q _=>∃ (c h:Nat) (v:V) (s:Sy),vs=[.int c,.int h,v]/\aK H v s/\s.Ok c h/\s.words<=30/\∀ H',ap H H'->Q (.bl true) H'
noncomputable def kd (K:Fg):TS:=(ar (bB (tOr (eU (tB (au (ir K) [] E0 (aa (ab 0) af)))) (eU (tB (au (ir K) [] E0 (aa (ab 1) af))))) (aI (tC (.bl false))) bh)
 (ar (aE (tC (.int 0)) (am 3))
 (ar (aE (fv (aa (ab 2) af)) (am 4))
 (ar (nU (bq (tOp (rI0 fun i j=>.bl (decide (j < i))) (tCB (gi K) (aa (ab 4) af)) (tC (.int 0)))) (ar (aE (tOp (rI0 fun i j=>.int (i + j)) (ab 3) (tCB (gi K) (aa (ab 4) af))) (am 3))
 (ar (bB (tOr (bq (tOp (rI0 fun i j=>.bl (decide (j < i))) (ab 3) (tC (.int 30)))) (eU (tB (tCB (CB K) (aa (bZ (du K (ab 4)) (fun _ _ _ _=>(am 0)) (fun _ _ _ _=>bK) (fun _ _ _ _=>(au (pK K) [] E0 (aa (ab 1) (aa (ab 2) (aa (ab 0) af))))) [none,some 0,some 1]) af))))) (aI (tC (.bl false))) bh)
 (aE (au (jk K) [] E0 (aa (ab 4) af)) (am 4)))))
 (aI (tC (.bl true)))))))
theorem Ah (h:lZ K vs H Q E):kd K { nx:=fun _ H'=>Q .non H',rt:=Q } (start ["cards","hands","thing","words","level"] vs) H:=by
 obtain ⟨c,h,v,s,rfl,hs,ok,hw,q⟩:=h
 show kd K _ [some _,some _,some _,none,none] _
 unfold kd
 walk_at "rd"
 refine ⟨_,rfl,fg.int _,?_⟩
 walk_at "rd"
 refine Cy ?_
 walk_at "rd"
 refine ⟨_,rfl,fg.int _,?_⟩
 walk_at "rd"
 refine Cy ?_
 walk_at "rd"
 refine ⟨by simp [LI],fun p H1 hp s1 e1=>?_⟩
 refine ku ?_
 dsimp only [NP,NQ]
 refine bg ?_
 refine CA (fun m σ H2=>∃ (W:Nat) (l:Addr) (xs:List V) (ss:List Sy),σ=[some (.int c),some (.int h),some v,some (.int W),some (.ref l)]/\ap H H2/\H2 l=some (.lst xs)/\gR H2 xs ss/\(∀ t∈ss,t.Ok c h)/\m=(ss.map Sy.words).sum/\W + m<=30) s.words
  ⟨0,p,[v],[s],rfl,s1,e1,.cons (hs.keep s1.keep) .nil,fun t ht=>by rw [LB.mp ht]; exact ok,by simp,by omega⟩ ?_
 rintro m σ H2 ⟨W,l,xs,ss,rfl,s2,e2,hx,hok,rfl,hW⟩
 have lxs:=gz hx
 have e:=Ag ss
 walk_at "rd"
 refine dO (fun c0=>?_) (fun c0=>?_)
 ·refine Cz ?_
  walk_at "rd"
  refine aY (by omega) ?_
  walk_at "rd"
  refine gN xs (SqL.of e2) (by omega) (fun i acc _=>acc=(Mv i true).map V.bl) (fun _ _=>rfl) ?_ ?_
  ·rintro p' hp' C s' H' fp i x acc H3 hxi ⟨s3,e3,l3,rfl⟩
   obtain ⟨t,ht,it⟩:=mU hx hxi
   walk_at "rd"
   refine ⟨c,h,x,t,rfl,it.keep s3.keep,hok t (LU ht),fun H4 s4=>?_⟩
   exact bu.put hp' (fun _ _ _ _ r _=>r) (s3.trans s4) (s4 _ _ e3) l3 (by rw [Pc,Ma]; rfl)
  ·rintro p' acc H3 hp' s3 e3 rfl
   walk_at "rd"
   refine ⟨p',_,rfl,SqL.of e3,?_⟩
   rw [show ∀ n:Nat,(Mv n true).all id=true from fun n=>by simp]
   walk_at "rd"
   refine ⟨l,xs,ss,rfl,s3 _ _ e2,hx.keep s3.keep,by omega,fun p4 ys H4 s4 hp4 e4 y4=>?_⟩
   walk_at "rd"
   refine ⟨_,by omega,W + xs.length,p4,ys,_,rfl,(s2.trans s3).trans s4,e4,y4,fun t ht=>?_,rfl,by omega⟩
   obtain ⟨u,hu,ht⟩:=Ue.mp ht
   exact IW (hok u hu) t ht
 ·walk_at "rd"
  exact q _ s2
end
section
variable {K:Fg} {vs:List V} {H:Hp} {Q:VK} {E:XK}
noncomputable def ke (K:Fg):TS:=(ar (aE (tOp (rI (fun _ j=>0 < j) fun i j=>.int (i % j)) (au (aP K) [] E0 (aa (ab 0) (aa (ab 1) af))) (tC (.int 8))) (am 3))
 (ar (bB (bq (tOp rEq (tOp (rI (fun _ j=>0 < j) fun i j=>.int (i % j)) (tOp (rI em fun i j=>.int (i / j)) (au (aP K) [] E0 (aa (ab 0) (aa (ab 1) af))) (tC (.int 8))) (tC (.int 16))) (tC (.int 5)))) (aE (tOp (rI0 fun i j=>.int (i + j)) (tC (.int 8)) (tOp (rI (fun _ j=>0 < j) fun i j=>.int (i % j)) (tOp (rI em fun i j=>.int (i / j)) (au (aP K) [] E0 (aa (ab 0) (aa (ab 1) af))) (tC (.int 128))) (tC (.int 5)))) (am 3)) bh)
 (ar (aE (fv af) (am 4))
 (ar (cS (ff (aa (tOp (rI0 fun i j=>.int (i + j)) (tC (.int 1)) (tOp (rI (fun _ j=>0 < j) fun i j=>.int (i % j)) (au (aP K) [] E0 (aa (ab 0) (aa (tOp (rI0 fun i j=>.int (i + j)) (ab 1) (tC (.int 1))) af))) (tC (.int 5)))) af)) (am 5) (dG (tBM K "list" iY (ab 4) (aa (tOp (rI (fun _ j=>0 < j) fun i j=>.int (i % j)) (au (aP K) [] E0 (aa (ab 0) (aa (tOp (rI0 fun i j=>.int (i + j)) (tOp (rI0 fun i j=>.int (i + j)) (ab 1) (tC (.int 2))) (ab 5)) af))) (tOp (rI0 fun i j=>.int (i + j)) (tCB CC (aa (tC (.int 4)) (aa (tOp (rI0 fun i j=>.int (i - j)) (ab 3) (tCB (tL K) (aa (ab 4) af))) af))) (tC (.int 1)))) af))))
 (ar (nU (bq (tOp (rI0 fun i j=>.bl (decide (j < i))) (au (iz K) [] E0 (aa (ab 3) (aa (ab 4) af))) (ab 2))) (ar (bB (bq (tOp (rI0 fun i j=>.bl (decide (j < i))) (tCB (wu K) (aa (ab 4) af)) (tOp (rI0 fun i j=>.int (i - j)) (ab 3) (tCB (tL K) (aa (ab 4) af))))) (aE (tOp (rI0 fun i j=>.int (i - j)) (tCB (wu K) (aa (ab 4) af)) (tC (.int 1))) (qA (ab 4) (tBM K "list" zF (ab 4) (aa (tCB (wu K) (aa (ab 4) af)) af)) mM)) bh)
 (aE (tOp (rI0 fun i j=>.int (i - j)) (ab 3) (tC (.int 1))) (am 3))))
 (aI (bz (aa (ab 3) (aa (ab 4) af)))))))))
theorem Ai (h:lV K vs H Q E):ke K { nx:=fun _ H'=>Q .non H',rt:=Q } (start ["_law_script","_law_at","_law_most","_law_cards","_law_sizes","_law_k"] vs) H:=by
 obtain ⟨a,ns,at_,most,rfl,hSc,ha0,ha1,hm,g⟩:=h
 show ke K _ [some _,some _,some _,none,none,none] _
 unfold ke
 refine bg ?_
 walk_at "rs"
 refine ⟨a,ns,at_,rfl,hSc,ha0,by omega,?_⟩
 walk_at "rs"
 refine ga fun NX hNX=>?_
 have key:∀ c:Nat,c<=12->NX [some (.ref a),some (.int at_),some (.int most),some (.int c),none,none] H:=by
  intro c hc
  refine hNX _ _ ?_
  refine bg ?_
  walk_at "rs"
  refine ⟨by simp [LI],fun q H1 hq s1 e1=>?_⟩
  walk_at "rs"
  refine ga fun NX hNX=>?_
  have hSc1:=hSc.same s1
  walk_at "rs"
  refine ⟨a,ns,at_ + 1,rfl,hSc1,by omega,by omega,?_⟩
  walk_at "rs"
  refine jQ (1 + aU ns (at_ + 1) % 5).toNat rfl (by omega) (by omega) (fun i σ H2=>∃ (ss:List Nat) (st:Option V),σ=[some (.ref a),some (.int at_),some (.int most),some (.int c),some (.ref q),st]/\ap H H2/\H2 q=some (.lst (av ss))/\ss.length=i/\ss.sum<=c) ⟨[],none,rfl,s1,e1,rfl,MJ _⟩ ?_ ?_
  ·rintro i σ H2 hi ⟨ss,st,rfl,s2,e2,hl,hs⟩
   have hSc2:=hSc.same s2
   walk_at "rd"
   refine ⟨y8 e2,?_⟩
   walk_at "rd"
   refine ⟨a,ns,at_ + 2 + (i:Int),rfl,hSc2,by omega,by omega,?_⟩
   walk_at "rd"
   refine CD (ns:=ss.map fun (s:Nat)=>((s:Nat):Int)) (by rw [<-eM]; exact SqL.of e2) ?_
   walk_at "rd"
   rw [iR]
   obtain ⟨lst,hlst,hlst2⟩:∃ l:Nat,(if (c:Int) - ((ss.sum:Nat):Int) < 4 then (c:Int) - ((ss.sum:Nat):Int) else 4)=(l:Int)/\l<=c - ss.sum:=by
    by_cases h:(c:Int) - ((ss.sum:Nat):Int) < 4
    ·exact ⟨c - ss.sum,by rw [if_pos h]; omega,LC _⟩
    ·exact ⟨4,by rw [if_neg h]; rfl,by omega⟩
   rw [hlst]
   walk_at "rd"
   obtain ⟨z,hz,hz2⟩:∃ z:Nat,aU ns (at_ + 2 + (i:Int)) % ((lst:Int) + 1)=(z:Int)/\z<=lst:=by
    have m1:=M4 (aU ns (at_ + 2 + (i:Int))) (b:=(lst:Int) + 1) (by omega)
    have m2:=MS (aU ns (at_ + 2 + (i:Int))) (b:=(lst:Int) + 1) (by omega)
    exact ⟨(aU ns (at_ + 2 + (i:Int)) % ((lst:Int) + 1)).toNat,by omega,by omega⟩
   rw [hz]
   refine lQ e2 (by rw [bj,LI]; omega) fun H4 o4 e4=>?_
   rw [i5] at e4
   refine ⟨ss++[z],_,rfl,s2.off hq o4,e4,by rw [LY,hl]; rfl,?_⟩
   rw [Ni,Mg,O8]
   omega
  ·rintro σ H2 ⟨ss,st,rfl,s2,e2,hl,hs⟩
   exact hNX _ _ (Fb s2 hq e2 (by omega) (by omega) hs hc hm g)
 walk_at "rs"
 refine ⟨a,ns,at_,rfl,hSc,ha0,by omega,?_⟩
 walk_at "rs"
 refine dO (fun hb=>?_) (fun hb=>?_)
 ·walk_at "rs"
  refine ⟨a,ns,at_,rfl,hSc,ha0,by omega,?_⟩
  walk_at "rs"
  have:=key (8 + aU ns at_ / 128 % 5).toNat (by omega)
  rw [show (((8 + aU ns at_ / 128 % 5).toNat:Nat):Int)=8 + aU ns at_ / 128 % 5 by omega] at this
  exact this
 ·walk_at "rs"
  have:=key (aU ns at_ % 8).toNat (by omega)
  rw [show (((aU ns at_ % 8).toNat:Nat):Int)=aU ns at_ % 8 by omega] at this
  exact this
end
theorem bu.putW {H H4:Hp} {p:Addr} {R:Nat->List V->Hp->Prop} {i:Nat} {acc:List V} {y:V} (hp:H p=none) (s:ap H H4) (e:H4 p=some (.lst acc)) (l:acc.length<=i) (r:∀ H6,Off p H4 H6->R (i + 1) (acc++[y]) H6):
  H4 p=some (.lst acc)/\bu H p R (i + 1) (acc++[y]) (upd H4 p (.lst (acc++[y]))):=
 ⟨e,s.upd hp _,az,by rw [LY]; exact SA l 1,r _ i4⟩
section
variable {g:CF TG} {tt:CF TT} {te:CF TE} {σ₀:St} {Q:VK} {H:Hp} {K:Fg}
theorem xN {j:Int} (n:Nat) (hn:j.toNat=n) (hj:j<=1000000) (hj0:-1000000<=j) (R:Addr->Nat->List V->Hp->Prop) (h0:∀ p H',ap H H'->R p 0 [] H')
  (hs:∀ p,H p=none->∀ C s' H' fp,∀ i acc H2,i < n->bu H p (R p) i acc H2->g C s' H' fp (.int i) σ₀ H2 fun σ2 H3=>tt C s' H' fp σ2 H3 fun b H4=>if b=true then te C s' H' fp σ2 H4 fun y H5=>H5 p=some (.lst acc)/\bu H p (R p) (i + 1) (acc++[y]) (upd H5 p (.lst (acc++[y]))) else bu H p (R p) (i + 1) acc H4)
  (hd:∀ p acc H2,H p=none->ap H H2->H2 p=some (.lst acc)->R p n acc H2->Q (.ref p) H2):
  ∃ j':Int,[V.int j]=[.int j']/\-(2 ^ 62)<=j'/\j' < 2 ^ 62/\∀ p,H p=none->∃ W:Nat->Nat->List V->Hp->Prop,(∃ m,W 0 m [] (upd H p (.lst [])))/\∀ C s' H' fp,cG (Itr 0 j'.toNat) (g C s' H' fp) (tt C s' H' fp) (te C s' H' fp) σ₀ p Q W:=by
 refine ⟨j,rfl,by omega,by omega,fun p hp=>?_⟩
 subst hn
 exact oX (lo:=0) (bu H p (R p)) ⟨aZ hp _,az,LC _,h0 _ _ (aZ hp _)⟩ (fun i acc H2 _ c=>⟨c.2.1,c.2.2.1⟩) (by rw [LI]; omega) (fun C s' H' fp i acc H2 hi c=>by rw [Ry]; exact hs p hp C s' H' fp i acc H2 hi c) fun acc H2 c=>hd p acc H2 hp c.1 c.2.1 c.2.2.2
end
section
open PySem.Spec
theorem bV.units64 {k:Nat} {A:Around} (r:bV k A):A.units + 64 < cLine:=by have:=r.un; omega
section
variable {X:Cx}
theorem OpR.weak {f:Value->Value->Sem Value} {r r':R2} (h:OpR X f r) (w:∀ x y H Q,r' x y H Q->r x y H Q):OpR X f r':=fun pins s σ H x y v u Q I rx ry q=>h pins s σ H x y v u Q I rx ry (w x y H Q q)
theorem cZ.weak {f:Value} {r r':List V->Hp->VK->Prop} (h:cZ X f r) (w:∀ xs H Q,r' xs H Q->r xs H Q):cZ X f r':=fun pins s σ H xs us Q I rx q=>h pins s σ H xs us Q I rx (w xs H Q q)
theorem oo:OpR X (Oy .Add) qL:=EG.weak fun _ _ _ _ ⟨l,b,xs,zs,e1,e2,h1,h2,hz,q⟩=>⟨l,b,xs,zs,e1,e2,h1,h2,hz,q.upd⟩
theorem Fo:OpR X (Oy .Mult) Gh:=JS.weak fun _ _ _ _ ⟨l,k,xs,e1,e2,h1,h2,h3,hz,q⟩=>⟨l,k,xs,e1,e2,h1,h2,h3,hz,q.upd⟩
theorem jS:cZ X (.type "list") (jd X.K):=zx.weak fun _ _ _ ⟨p,ys,e,h,q⟩=>⟨p,ys,e,h,q.upd⟩
theorem GN:cZ X (.type "tuple") (wv X.K):=pZ.weak fun _ _ _ ⟨p,ys,e,h,q⟩=>⟨p,ys,e,.inl ⟨h,q.upd⟩⟩
theorem B9:SlR X (CG X.K):=fun pins s σ H x v vl vu lo hi sl Q I rx hs pl pu ⟨a,xs,e,h,q⟩=>Iv pins s σ H x v vl vu lo hi sl Q I rx hs pl pu ⟨a,xs,e,h,q.upd⟩
end
section
variable {X:Cx} {es:List Expr} {t:TA} {pos:Pos}
theorem ba {x1} (h:PA X es t):PE X (.Tuple es x1 pos) (bz t):=by
 intro pins s σ H Q I hq
 refine SQ (thn (h pos pins s σ H _ I hq) fun us s1 ⟨xs,H1,I1,r,z,q⟩=>⟨by rw [<-r.length]; exact z,?_⟩)
 have hf:H1 s1.heap.objs.size=none:=I1.hok.fresh (LC _)
 refine ⟨.ref s1.heap.objs.size,upd H1 s1.heap.objs.size (.tup xs),I1.laid (t':=s1.toks) (fun b u e=>Lx _ e) (LC _) ?_,rfl,q.upd _ hf⟩
 exact ⟨z,us,r,fi.new _ _⟩
theorem cQ (h:PA X es t):PE X (.List es pos) (fv t):=by
 intro pins s σ H Q I hq
 refine Td (thn (h pos pins s σ H _ I hq) fun us s1 ⟨xs,H1,I1,r,z,q⟩=>⟨by rw [<-r.length]; exact z,?_⟩)
 have hf:H1 s1.heap.objs.size=none:=I1.hok.fresh (LC _)
 refine ⟨.ref s1.heap.objs.size,upd H1 s1.heap.objs.size (.lst xs),I1.laid (t':=s1.toks) (fun b u e=>Lx _ e) (LC _) ?_,rfl,q.upd _ hf⟩
 exact ⟨z,us,0,r,LH _ rfl⟩
end
section
variable {X:Cx} {es:List Expr} {te:TE} {t:TA}
theorem ao {v:Const} {j:Nat} {p:Pos} (ha:PE X (.Constant v j p) te) (hr:PA X es t):PA X (.Constant v j p :: es) (aa te t):=gL ha hr rfl
theorem ad {x:Str} {p:Pos} (ha:PE X (.Name x p) te) (hr:PA X es t):PA X (.Name x p :: es) (aa te t):=gL ha hr rfl
theorem aD {a b:Expr} {o:Operator} {p:Pos} (ha:PE X (.BinOp a o b p) te) (hr:PA X es t):PA X (.BinOp a o b p :: es) (aa te t):=gL ha hr rfl
theorem aV {f:Expr} {as:List Expr} {ks:List Keyword} {p:Pos} (ha:PE X (.Call f as ks p) te) (hr:PA X es t):PA X (.Call f as ks p :: es) (aa te t):=gL ha hr rfl
theorem aM {as:List Expr} {k:Nat} {p:Pos} (ha:PE X (.Tuple as k p) te) (hr:PA X es t):PA X (.Tuple as k p :: es) (aa te t):=gL ha hr rfl
theorem aN {a b:Expr} {p:Pos} (ha:PE X (.Subscript a b p) te) (hr:PA X es t):PA X (.Subscript a b p :: es) (aa te t):=gL ha hr rfl
theorem Bu {a:Expr} {os:List CmpOp} {bs:List Expr} {p:Pos} (ha:PE X (.Compare a os bs p) te) (hr:PA X es t):PA X (.Compare a os bs p :: es) (aa te t):=gL ha hr rfl
theorem cf {e:Expr} (ha:PE X e te) (hr:PA X es t) (hs:L5 (e :: es) X.env=(false,eval e X.env) :: L5 es X.env:=by rfl):PA X (e :: es) (aa te t):=gL ha hr hs
structure ah (N:List Str) (sc:Scope) (i:Nat) (x:Str):Prop where
 n:N[i]?=some x
 v:Vis sc x
 d:(x == ("__debug__":Str))=false
 c:(x == ("__classdict__":Str))=false
theorem pvQ {N:List Str} {sc:Scope} {i:Nat} {x:Str} {pos:Pos} (h:ah N sc i x) (hN:X.N=N) (hS:X.env.scope=sc):PE X (.Name x pos) (ab i):=by
 subst hN hS
 exact Eo h.n h.v h.d h.c
end
end
section
open PySem.Spec
theorem Aj {X:Cx}:SlR X (zJ X.K):=fun pins s σ H x v vl vu lo hi sl Q I rx hs pl pu ⟨a,xs,e,h,n,q⟩=>JP pins s σ H x v vl vu lo hi sl Q I rx hs pl pu ⟨a,xs,e,h,n,q.upd⟩
noncomputable def vj (P:Program) (w:World) (K:Fg) (a:Addr) (kvs:List (Str×V)):Prop:=
 (a == NG)=false/\∃ (o:Obj) (es:Array S8) (ep:Nat) (vs:List (Key×Value)),K.lookup a=some o/\o.ExactDict/\o.data=.dict es ep/\KeysOf (iX P w) es/\Pairs (iX P w) es.toList vs/\(vs.map (·.1)).Nodup/\
  Paired (fun (p:Str×V) (q:Key×Value)=>q.1=.inr p.1/\aH p.2 q.2) kvs vs
theorem kO {k:Str} {v:V}:∀ {kvs:List (Str×V)} {vs:List (Key×Value)},Paired (fun (p:Str×V) (q:Key×Value)=>q.1=.inr p.1/\aH p.2 q.2) kvs vs->kvs.lookup k=some v->∃ u,valueAt vs (.inr k)=some u/\aH v u
 | _,_,.nil,h=>by cases h
 | _,_,.cons (a:=p) (b:=q) r t,h=>by
  obtain ⟨x,y⟩:=p
  obtain ⟨kq,u⟩:=q
  obtain ⟨r1,r2⟩:=r
  simp only at r1 r2
  subst r1
  rw [MY] at h
  unfold valueAt
  rw [Mu]
  by_cases e:k=x
  ·subst e
   rw [beq_self_eq_true] at h
   cases h
   rw [show decide ((ND k:Key)=ND k)=true from decide_eq_true rfl]
   exact ⟨u,rfl,r2⟩
  ·rw [show (k == x)=false from beq_eq_false_iff_ne.mpr e] at h
   rw [show decide ((ND x:Key)=ND k)=false from decide_eq_false fun z=>e (Ph z).symm]
   exact kO t h
section
variable {X:Cx} {o i:Expr} {pos:Pos} {td ty:TE} {a:Addr} {kvs:List (Str×V)}
theorem vj.of {pins:List (Addr×Obj)} {σ:St} {H:Hp} {s:Shared} (D:vj X.prog X.w X.K a kvs) (I:Inv X pins σ H s):∃ vs,s.heap.DictOf (iX X.prog X.w) a vs/\Paired (fun (p:Str×V) (q:Key×Value)=>q.1=.inr p.1/\aH p.2 q.2) kvs vs:=by
 obtain ⟨_,o,es,ep,vs,lk,ex,hd,hk,hp,nd,rel⟩:=D
 exact ⟨vs,⟨o,es,ep,I.kIn a o lk,ex,hd,hk,hp,nd⟩,rel⟩
theorem Fp (D:vj X.prog X.w X.K a kvs) (ho:PE X o td) (hi:PE X i ty) (hs:Gk i):PE X (.Subscript o i pos) (tOp (CI kvs a) td ty):=by
 intro pins s σ H Q I h
 refine BW Ri.lookup hs (thn (ho pins s σ H _ I h) fun u s1 ⟨x,H1,I1,rx,q1⟩=>thn (hi pins s1 σ H1 _ I1 q1) fun iv s2 ⟨y,H2,I2,ry,ex,k,v,ey,el,q2⟩=>?_)
 subst ex ey
 obtain rfl:u=Mf a:=rx
 obtain ⟨vs,dd,rel⟩:=D.of I2
 obtain ⟨w',hw,rw'⟩:=kO rel el
 exact ⟨dd.typeIs,Uh (HW (k:=.inr k) ry) dd.mapOf hw ⟨v,H2,I2.tok _,rw',q2⟩⟩
theorem sW {k:Str}:∀ {kvs:List (Str×V)} {vs:List (Key×Value)},Paired (fun (p:Str×V) (q:Key×Value)=>q.1=.inr p.1/\aH p.2 q.2) kvs vs->kvs.lookup k=none->valueAt vs (.inr k)=none
 | _,_,.nil,_=>rfl
 | _,_,.cons (a:=p) (b:=q) r t,h=>by
  obtain ⟨x,y⟩:=p
  obtain ⟨kq,u⟩:=q
  obtain ⟨r1,r2⟩:=r
  simp only at r1 r2
  subst r1
  rw [MY] at h
  unfold valueAt
  rw [Mu]
  by_cases e:k=x
  ·subst e
   rw [beq_self_eq_true] at h
   cases h
  ·rw [show (k == x)=false from beq_eq_false_iff_ne.mpr e] at h
   rw [show decide ((ND x:Key)=ND k)=false from decide_eq_false fun z=>e (Ph z).symm]
   exact sW t h
theorem Ak (D:vj X.prog X.w X.K a kvs):OpR X (N5 .NotIn) (zK kvs a true):=by
 intro pins s σ H x y v u Q I rx ry h
 obtain ⟨rfl,k,rfl,q⟩:=h
 obtain rfl:u=Mf a:=ry
 obtain ⟨vs,dd,rel⟩:=D.of I
 refine wpAny_notIn_of (HW (k:=.inr k) rx) D.1 dd.mapOf ?_
 refine ⟨.bl (!(kvs.lookup k).isSome),H,I.tok _,?_,q⟩
 cases e:kvs.lookup k with
 | none=>rw [sW rel e]; rfl
 | some v'=>
  obtain ⟨w',hw,_⟩:=kO rel e
  rw [hw]
  rfl
end
end
section
open PySem.Spec
structure GO (P:Program) (w:World) (K:Fg) (mg:Str->Option Value) (G:Glo):Prop where
 ok:uY K G
 mf:mg "FORMS"=some (.ref G.forms)
 df:vj P w K G.forms G.kvs
theorem i8 {K:Fg} {a:Addr} {od:Option Addr} {its:Array Value} {n:Nat} {sl:Array (Option Value)} (l:K.lookup a=some ⟨.type "tuple",od,.seq its n,sl⟩) (xs:List V) (hz:its.size<=LN) (r:aG xs its.toList):kL K a xs:=⟨_,its,n,l,rfl,rfl,hz,r⟩
theorem IX {P:Program} {w:World} {K:Fg} {mg:Str->Option Value} {aF aC f1 f2 f3 f4 f5 f6 f7 f8:Addr} {k1 k2 k3 k4 k5 k6 k7 k8 u1 u2 u3 u4 u5 u6 u7 u8 u9 ua ub uc ud ue:Tok} {ep n1 n2 n3 n4 n5 n6 n7 n8:Nat} {o1 o2 o3 o4 o5 o6 o7 o8:Option Addr} {s1 s2 s3 s4 s5 s6 s7 s8:Array (Option Value)}
  (nF:(aF == NG)=false) (mf:mg "FORMS"=some (.ref aF))
  (lF:K.lookup aF=some ⟨.type "dict",none,.dict #[⟨MP w.params "holds",.str "holds" k1,.ref f1⟩,⟨MP w.params "not",.str "not" k2,.ref f2⟩,⟨MP w.params "and",.str "and" k3,.ref f3⟩,⟨MP w.params "or",.str "or" k4,.ref f4⟩,
   ⟨MP w.params "knows",.str "knows" k5,.ref f5⟩,⟨MP w.params "all",.str "all" k6,.ref f6⟩,⟨MP w.params "common",.str "common" k7,.ref f7⟩,⟨MP w.params "sees",.str "sees" k8,.ref f8⟩] ep,#[]⟩)
  (l1:K.lookup f1=some ⟨.type "tuple",o1,.seq #[.str "holder" u1,.str "card" u2] n1,s1⟩) (l2:K.lookup f2=some ⟨.type "tuple",o2,.seq #[.str "saying" u3] n2,s2⟩) (l3:K.lookup f3=some ⟨.type "tuple",o3,.seq #[.str "saying" u4,.str "saying" u5] n3,s3⟩) (l4:K.lookup f4=some ⟨.type "tuple",o4,.seq #[.str "saying" u6,.str "saying" u7] n4,s4⟩)
  (l5:K.lookup f5=some ⟨.type "tuple",o5,.seq #[.str "hand" u8,.str "saying" u9] n5,s5⟩) (l6:K.lookup f6=some ⟨.type "tuple",o6,.seq #[.str "hands" ua,.str "saying" ub] n6,s6⟩) (l7:K.lookup f7=some ⟨.type "tuple",o7,.seq #[.str "hands" uc,.str "saying" ud] n7,s7⟩) (l8:K.lookup f8=some ⟨.type "tuple",o8,.seq #[.str "hand" ue] n8,s8⟩)
  : GO P w K mg ⟨aF,aC,f1,f2,f3,f4,f5,f6,f7,f8⟩ where
 mf:=mf
 ok:=⟨i8 l1 _ (by show 2<=LN; decide) (.cons ⟨_,rfl⟩ (.cons ⟨_,rfl⟩ .nil)),i8 l2 _ (by show 1<=LN; decide) (.cons ⟨_,rfl⟩ .nil),i8 l3 _ (by show 2<=LN; decide) (.cons ⟨_,rfl⟩ (.cons ⟨_,rfl⟩ .nil)),i8 l4 _ (by show 2<=LN; decide) (.cons ⟨_,rfl⟩ (.cons ⟨_,rfl⟩ .nil)),
  i8 l5 _ (by show 2<=LN; decide) (.cons ⟨_,rfl⟩ (.cons ⟨_,rfl⟩ .nil)),i8 l6 _ (by show 2<=LN; decide) (.cons ⟨_,rfl⟩ (.cons ⟨_,rfl⟩ .nil)),i8 l7 _ (by show 2<=LN; decide) (.cons ⟨_,rfl⟩ (.cons ⟨_,rfl⟩ .nil)),i8 l8 _ (by show 1<=LN; decide) (.cons ⟨_,rfl⟩ .nil)⟩
 df:=by
  refine ⟨nF,_,_,_,[(.inr "holds",.ref f1),(.inr "not",.ref f2),(.inr "and",.ref f3),(.inr "or",.ref f4),(.inr "knows",.ref f5),(.inr "all",.ref f6),(.inr "common",.ref f7),(.inr "sees",.ref f8)],lF,⟨rfl,rfl,rfl⟩,rfl,?_,?_,?_,?_⟩
  ·intro e he
   simp only [List.mem_toArray,Array.mem_def,LA,Mq,or_false] at he
   rcases he with rfl | rfl | rfl | rfl | rfl | rfl | rfl | rfl
   ·exact ⟨.inr "holds",br P w _ _,rfl⟩
   ·exact ⟨.inr "not",br P w _ _,rfl⟩
   ·exact ⟨.inr "and",br P w _ _,rfl⟩
   ·exact ⟨.inr "or",br P w _ _,rfl⟩
   ·exact ⟨.inr "knows",br P w _ _,rfl⟩
   ·exact ⟨.inr "all",br P w _ _,rfl⟩
   ·exact ⟨.inr "common",br P w _ _,rfl⟩
   ·exact ⟨.inr "sees",br P w _ _,rfl⟩
  ·exact .cons (br P w _ _) rfl (.cons (br P w _ _) rfl (.cons (br P w _ _) rfl (.cons (br P w _ _) rfl (.cons (br P w _ _) rfl (.cons (br P w _ _) rfl (.cons (br P w _ _) rfl (.cons (br P w _ _) rfl .nil)))))))
  ·show ([.inr "holds",.inr "not",.inr "and",.inr "or",.inr "knows",.inr "all",.inr "common",.inr "sees"]:List Key).Nodup
   decide +kernel
  ·exact .cons ⟨rfl,rfl⟩ (.cons ⟨rfl,rfl⟩ (.cons ⟨rfl,rfl⟩ (.cons ⟨rfl,rfl⟩ (.cons ⟨rfl,rfl⟩ (.cons ⟨rfl,rfl⟩ (.cons ⟨rfl,rfl⟩ (.cons ⟨rfl,rfl⟩ .nil)))))))
end
section
open PySem.Spec
theorem bA.there {P:Program} {w:World} {H:Hp} {h:Heap} {a:Addr} {o:HO} (x:bA P w H h a o):∃ ob,h.get? a=some ob:=by
 cases o with
 | lst xs=>obtain ⟨_,_,_,_,e⟩:=x; exact ⟨_,e⟩
 | tup xs=>obtain ⟨_,_,_,_,e,_⟩:=x; exact ⟨_,e⟩
 | dK kvs=>obtain ⟨_,_,_,_,o,_,_,e,_⟩:=x; exact ⟨_,e⟩
 | dT kvs=>obtain ⟨_,_,_,_,o,_,_,e,_⟩:=x; exact ⟨_,e⟩
 | set S n=>obtain ⟨o,_,_,_,e,_⟩:=x; exact ⟨_,e⟩
 | ins C dx fs=>obtain ⟨_,_,_,e,_⟩:=x; exact ⟨_,e⟩
 | own y=>exact x
 | xd fs=>obtain ⟨_,⟨_,_,_,e,_⟩,_⟩:=x; exact ⟨_,e⟩
 | rng lo hi=>obtain ⟨_,_,_,e⟩:=x; exact ⟨_,e⟩
 | frz ob u=>obtain ⟨e,_⟩:=x; exact ⟨_,e⟩
 | tbl ps=>exact ⟨_,x⟩
 | met f y=>exact ⟨_,x⟩
 | ext φ=>obtain ⟨_,e,_⟩:=x; exact e
section
variable {P:Program} {w:World} {K:Fg} {mg:Str->Option Value} {base:Heap} {N:List Str} {qual:Str} {scope:Scope} {f:Addr} {cd:Value} {A:Around} {outer:List Env} {s:Shared} {H:Hp} {E:XK}
end
end
section
open PySem.Spec
section
variable {X:Cx} {pins:List (Addr×Obj)} {σ:St} {H:Hp} {s:Shared} {B h':Heap}
end
section
variable {X:Cx} {pins pn pins':List (Addr×Obj)} {σ:St} {H:Hp} {s:Shared} {B:Heap} {E:Value->Shared->Prop} {a:Addr}
end
end
section
open PySem.Spec PySem.W
section
variable {prog:Program} {w:World} {A:Around} {E:Value->Shared->Prop} {h:Heap} {g:Array Sl} {d:Drawn} {t:Nat} {os:OsState} {a:Addr} {o:Obj} {C:Addr} {K:Frag}
end
end
section
open PySem.Spec PySem.W
end
section
open PySem.Spec PySem.W
section
variable {P:Program} {w:World} {K:Frag} {mg:Str->Option Value} {base:Heap} {k:Nat} {f:Addr} {fd:LX} {ps:List Str}
end
end
section
open PySem.Spec PySem.W
section
variable {P:Program} {w:World} {K:Frag} {mg:Str->Option Value} {base:Heap}
noncomputable def FnM (P:Program) (w:World) (K:Frag) (mg:Str->Option Value) (base:Heap) (k:Nat) (C:Addr) (m:Str) (ps:List Str) (sp:Sp):Prop:=
 ∃ f fd,ie P w K mg base CX0 k f fd ps sp/\zr K C m f/\fM K fd ps []
structure gC (K:Frag) (C:Addr) (m qual:Str) (st:Stmt) (ps:List Str) (f:Addr) (fd:LX):Prop where
 fn:Fun K m qual st f fd
 mt:zr K C m f
 b:fM K fd ps []
theorem gC.ok {C:Addr} {m qual:Str} {st:Stmt} {N ps:List Str} {f:Addr} {fd:LX} {k:Nat} {sp:Sp} (D:gC K C m qual st ps f fd) (S:aA N ps (ac st)) (len:∀ vs H Q E,sp vs H Q E->vs.length=ps.length)
  (hbody:∀ (cdv:Value) (A:Around) (outer:List Env) (s:Shared) (H:Hp) (vs:List V) (Q:VK) (E:XK),bV k (A.deeper (envOfC qual (ac st) s.heap.objs.size f cdv))->sp vs H Q E->
   ∃ t,PSs (oQ CX0 P w K mg base N qual (ac st) f cdv A outer s H E).nox (fm st) t/\t { nx:=fun _ H'=>Q .non H',rt:=Q } (start N vs) H):FnM P w K mg base (k + 1) C m ps sp:=
 ⟨f,fd,D.fn.ok S len hbody,D.mt,D.b⟩
noncomputable def FnI (P:Program) (w:World) (K:Frag) (mg:Str->Option Value) (base:Heap) (k:Nat) (C:Addr) (ps:List Str) (sp:Sp):Prop:=
 ∃ f fd,ie P w K mg base CX0 k f fd ps sp/\Mk K C f/\fM K fd ps []
structure Al (K:Frag) (C:Addr) (qual:Str) (st:Stmt) (ps:List Str) (f:Addr) (fd:LX):Prop where
 fn:Fun K "__init__" qual st f fd
 made:Mk K C f
 b:fM K fd ps []
theorem Al.ok {C:Addr} {qual:Str} {st:Stmt} {N ps:List Str} {f:Addr} {fd:LX} {k:Nat} {sp:Sp} (D:Al K C qual st ps f fd) (S:aA N ps (ac st)) (len:∀ vs H Q E,sp vs H Q E->vs.length=ps.length)
  (hbody:∀ (cdv:Value) (A:Around) (outer:List Env) (s:Shared) (H:Hp) (vs:List V) (Q:VK) (E:XK),bV k (A.deeper (envOfC qual (ac st) s.heap.objs.size f cdv))->sp vs H Q E->
   ∃ t,PSs (oQ CX0 P w K mg base N qual (ac st) f cdv A outer s H E).nox (fm st) t/\t { nx:=fun _ H'=>Q .non H',rt:=Q } (start N vs) H):FnI P w K mg base (k + 1) C ps sp:=
 ⟨f,fd,D.fn.ok S len hbody,D.made,D.b⟩
end
section
variable {X:Cx} {k:Nat} {C:Addr} {m:Str} {ps:List Str} {sp:Sp} {p pos apos:Pos} {o e:Expr} {es:List Expr} {ta:TE} {t:TA}
theorem bm {a:Expr} {f:Str} {p:Pos} {te:TE} (ha:PE X (.Attribute a f p) te) (hr:PA X es t):PA X (.Attribute a f p :: es) (aa te t):=gL ha hr rfl
theorem dy {pl:Sem Bool} (F:FnM X.prog X.w X.K X.mg X.base k C m ps sp) (hr:bV k X.A) (c:Cls X.K C) (he:PE X o ta) (ha:PA X (e :: es) t)
  (hst:L5 (e :: es) X.env=(false,eval e X.env) :: L5 es X.env:=by rfl) (hpl:(backTo pos (L5 es X.env)).any (·.1)=false:=by rfl)
  (ht:eval (.Call (.Attribute o m apos) (e :: es) [] pos) X.env=(do
   let ov <-eval o X.env
   standAt apos.atName
   let (f,first) <-holding [ov] (QL ov m pl)
   T7 pos f first (backTo pos (L5 (e :: es) X.env)) (PZ pos (O0 [] X.env))):=by rfl):
  PE X (.Call (.Attribute o m apos) (e :: es) [] pos) (dv C m sp [] E0 ta t):=by
 obtain ⟨f,fd,ok,mt,b⟩:=F
 exact Io he c mt ok hr b .nil y7 ha hst hpl ht
theorem re {pl:Sem Bool} (F:FnM X.prog X.w X.K X.mg X.base k C m ps sp) (hr:bV k X.A) (c:Cls X.K C) (he:PE X o ta)
  (ht:eval (.Call (.Attribute o m apos) [] [] pos) X.env=(do
   let ov <-eval o X.env
   standAt apos.atName
   let (f,first) <-holding [ov] (QL ov m pl)
   T7 pos f first (backTo pos (L5 [] X.env)) (PZ pos (O0 [] X.env))):=by rfl):
  PE X (.Call (.Attribute o m apos) [] [] pos) (dv C m sp [] E0 ta af):=by
 obtain ⟨f,fd,ok,mt,b⟩:=F
 exact F4 he c mt ok hr b .nil y7 ht
theorem Am {x:Str} (F:FnI X.prog X.w X.K X.mg X.base k C ps sp) (hr:bV (k + 1) X.A) (hm:X.mg x=some (.ref C)) (ha:PA X (e :: es) t) (hg:Gl X x:=by rfl)
  (hdb:(x == ("__debug__":Str))=false:=by decide) (he:L5 (e :: es) X.env=(false,eval e X.env) :: L5 es X.env:=by rfl) (hpl:(backTo pos (L5 es X.env)).any (·.1)=false:=by rfl):
  PE X (.Call (.Name x p) (e :: es) [] pos) (uA C sp [] E0 t):=by
 obtain ⟨f,fd,ok,mk,b⟩:=F
 exact Ip mk ok hr hg hm b .nil y7 ha hdb he hpl
end
end
section
open PySem.Spec PySem.W
structure pL (K:Frag) (C:Addr):Prop where
 cl:Cls K C
 n1:eL K C "dealt"
 n2:eL K C "cards"
 n3:eL K C "sizes"
 n4:eL K C "hands"
 n5:eL K C "views"
 n6:eL K C "deeds"
set_option genInjectivity false in
structure GF extends Glo where
 Table:Addr
structure dw (P:Program) (w:World) (K:Frag) (mg:Str->Option Value) (G:GF):Prop where
 tb:GO P w K mg G.toGlo
 m_Table:mg "Table"=some (.ref G.Table)
 ct:pL K G.Table
theorem dw.cl_Table {P:Program} {w:World} {K:Frag} {mg:Str->Option Value} {G:GF} (T:dw P w K mg G):Cls K G.Table:=T.ct.cl
theorem GP {P:Program} {w:World} {K:Frag} {mg:Str->Option Value} {G:Glo} {aT:Addr} (t:GO P w K mg G) (m:mg "Table"=some (.ref aT)) (pg:plainGet K aT UK=true) (hd:hasDictIn K aT=true) (po:plainOver K aT=true) (sa:findIn K (.ref aT) "__setattr__"=some (some (.builtin "object.__setattr__")))
  (n1:findIn K (.ref aT) "dealt"=some none) (n2:findIn K (.ref aT) "cards"=some none) (n3:findIn K (.ref aT) "sizes"=some none) (n4:findIn K (.ref aT) "hands"=some none) (n5:findIn K (.ref aT) "views"=some none) (n6:findIn K (.ref aT) "deeds"=some none):dw P w K mg ⟨G,aT⟩:=
 ⟨t,m,⟨⟨pg,hd,po,sa⟩,n1,n2,n3,n4,n5,n6⟩⟩
end
end L2
section
namespace L2
open PySem
end L2
end
section
namespace L2
open PySem
noncomputable def tS (K:Fg) (t:TA):TE:=fun σ H Q=>t σ H fun xs H1=>∃ (p:Addr) (ns:List Int),xs=[.ref p]/\SqL K H1 p (ns.map V.int)/\ns.length < 64/\
 ∀ (q:Addr) (H':Hp) (ms:List Int),H1 q=none->ap H1 H'->H' q=some (.lst (ms.map V.int))->ms.Pairwise (· < ·)->(∀ y,y∈ms↔y∈ns)->Q (.ref q) H'
theorem Fq {K:Fg} {t:TA} {σ:St} {H:Hp} {Q:VK} (h:t σ H fun xs H1=>∃ (p:Addr) (ns:List Int),xs=[.ref p]/\SqL K H1 p (ns.map V.int)/\ns.length < 64/\
 ∀ (q:Addr) (H':Hp) (ms:List Int),H1 q=none->ap H1 H'->H' q=some (.lst (ms.map V.int))->ms.Pairwise (· < ·)->(∀ y,y∈ms↔y∈ns)->Q (.ref q) H'):tS K t σ H Q:=h
theorem An {α:Type} [DecidableEq α]:∀ {l m:List α},l.Nodup->(∀ x∈l,x∈m)->l.length<=m.length
 | [],m,_,_=>MJ _
 | x :: l,m,nd,h=>by
  have hx:x∈m:=h x LG
  obtain ⟨n1,n2⟩:=Nv.mp nd
  have:=An (m:=m.erase x) n2 fun y hy=>(List.mem_erase_of_ne (fun e:y=x=>n1 (e ▸ hy))).mpr (h y (LJ _ hy))
  rw [List.length_erase_of_mem hx] at this
  have:=List.length_pos_of_mem hx
  rw [Mh]
  omega
end L2
end
namespace L2
open PySem PyProof.Rows
noncomputable def GE (P:Hp->V->Prop) (σ:St) (H0:Hp) (te:TE):Prop:=∀ H,ap H0 H->∀ Q:VK,(∀ x H',ap H H'->P H' x->Q x H')->te σ H Q
noncomputable def GA (P:Hp->V->Prop) (σ:St) (H0:Hp) (n:Nat) (ta:TA):Prop:=∀ H,ap H0 H->∀ R:List V->Hp->Prop,(∀ xs H',ap H H'->xs.length=n->(∀ x∈xs,P H' x)->R xs H')->ta σ H R
theorem GA.nil {P:Hp->V->Prop} {σ:St} {H0:Hp}:GA P σ H0 0 af:=fun H s R q=>HR (q [] H (ap.refl _) rfl fun _ h=>(nomatch h))
theorem GA.cons {P:Hp->V->Prop} (st:∀ H H' x,ap H H'->P H x->P H' x) {σ:St} {H0:Hp} {n:Nat} {te:TE} {tr:TA} (b:GE P σ H0 te) (t:GA P σ H0 n tr):GA P σ H0 (n + 1) (aa te tr):=fun H s R q=>
 ET (b H s _ fun x H1 s1 px=>t H1 (s.trans s1) _ fun xs H2 s2 hl hb=>q (x :: xs) H2 (s1.trans s2) (by rw [Mh,hl]) fun y hy=>by
  rcases LA.mp hy with rfl | hy
  ·exact st _ _ _ s2 px
  ·exact hb y hy)
theorem rf {P:Hp->V->Prop} (st:∀ H H' x,ap H H'->P H x->P H' x) {σ:St} {H0 H:Hp} {n:Nat} {ta:TA} {R:List V->Hp->Prop} (s:ap H0 H) (b:GA P σ H0 n ta) (q:∀ xs H',ap H H'->xs.length=n->(∀ x∈xs,P H' x)->R xs H'):ta σ H R:=b H s R q
theorem kf (z:Int) {m:Int} (h:0 < m):∃ k:Nat,z % m=(k:Int)/\(k:Int) < m:=by
 have m1:=M4 z (b:=m) (by omega)
 have m2:=MS z h
 exact ⟨(z % m).toNat,by omega,by omega⟩
section
variable {K:Fg} {vs:List V} {H:Hp} {Q:VK} {E:XK}
noncomputable def cL (_:Fg):Sp:=fun vs H Q _=>∃ (z:Int) (h:Nat),vs=[.int z,.int h]/\h<=5/\∀ (p:Addr) (g:List Nat) (H':Hp),ap H H'->H' p=some (.tup (av g))->g.Pairwise (· < ·)->(∀ k∈g,k < h)->Q (.ref p) H'
noncomputable def jl (K:Fg):TS:=(aI (tCB (wv K) (aa (bZ (ff (aa (ab 1) af)) (fun _ _ _ _=>(am 0)) (fun _ _ _ _=>(bq (tOp rEq (tOp (rI (fun _ j=>0 < j) fun i j=>.int (i % j)) (tOp (rI em fun i j=>.int (i / j)) (ab 1) (tOp (dR K) (fv (aa (tC (.int 1)) (aa (tC (.int 2)) (aa (tC (.int 4)) (aa (tC (.int 8)) (aa (tC (.int 16)) af)))))) (ab 0))) (tC (.int 2))) (tC (.int 1))))) (fun _ _ _ _=>(ab 0)) [none,some 0]) af)))
theorem at5 {i:Nat} (h:i < 5):∃ v:Int,atI [V.int 1,V.int 2,V.int 4,V.int 8,V.int 16] (i:Int)=some (.int v)/\0 < v/\v<=16:=by
 match i,h with
 | 0,_=>exact ⟨1,rfl,by decide,by decide⟩
 | 1,_=>exact ⟨2,rfl,by decide,by decide⟩
 | 2,_=>exact ⟨4,rfl,by decide,by decide⟩
 | 3,_=>exact ⟨8,rfl,by decide,by decide⟩
 | 4,_=>exact ⟨16,rfl,by decide,by decide⟩
theorem yb (h:cL K vs H Q E):jl K { nx:=fun _ H'=>Q .non H',rt:=Q } (start ["_law_number","_law_hands"] vs) H:=by
 obtain ⟨z,h,rfl,h5,q⟩:=h
 show jl K _ [some _,some _] _
 unfold jl
 walk_at "rd"
 refine tM h (by omega) (by omega) (by omega) (fun i acc _=>∃ g:List Nat,acc=av g/\g.Pairwise (· < ·)/\∀ k∈g,k < i) (fun _ _=>⟨[],rfl,.nil,fun _ h=>(nomatch h)⟩) ?_ ?_
 ·rintro p hp C s' H' fp i acc H2 hi ⟨s2,e2,l2,g,rfl,pw,hb⟩
  walk_at "rd"
  refine ⟨by simp [LI],fun b H3 hb3 s3 e3=>?_⟩
  walk_at "rd"
  obtain ⟨v,hv,v0,v16⟩:=at5 (i:=i) (by omega)
  refine cO (SqL.of e3) hv ?_
  walk_at "rd"
  have e23:=s3 _ _ e2
  refine dO (fun c=>?_) (fun c=>?_)
  ·walk_at "rd"
   refine bu.put hp (fun _ _ _ _ r _=>r) (s2.trans s3) e23 l2 ⟨g++[i],by rw [<-i5],?_,fun k hk=>?_⟩
   ·rw [Qr]
    exact ⟨pw,PB _ _,fun x hx y hy=>by rw [LB] at hy; have:=hb x hx; omega⟩
   ·rcases Mm.mp hk with hk | hk
    ·have:=hb k hk; omega
    ·rw [LB] at hk; omega
  ·exact bu.skip (s2.trans s3) e23 l2 ⟨g,rfl,pw,fun k hk=>by have:=hb k hk; omega⟩
 ·intro p acc H2 hp s2 e2 ⟨g,hg,pw,hb⟩
  subst hg
  walk_at "rd"
  exact IE (SqL.of e2) fun t H3 ht s3 e3=>q t g H3 (s2.trans s3) e3 pw hb
noncomputable def vk (H:Hp) (x:V):Option Sy->Prop
 | some t=>aK H x t
 | none=>(∃ i,x=.int i)\/∃ b g,x=.ref b/\H b=some (.tup (av g))
theorem vk.keep {H H':Hp} (k:eD H H') {x:V} {o:Option Sy} (h:vk H x o):vk H' x o:=by
 cases o with
 | some t=>exact aK.keep k h
 | none=>
  rcases h with h | ⟨b,g,e,h⟩
  ·exact .inl h
  ·exact .inr ⟨b,g,e,k _ _ h⟩
theorem Ca {H:Hp} {v:V} {s:Sy} (h:aK H v s):∃ a items os,v=.ref a/\H a=some (.tup (.str s.word :: items))/\Paired (vk H) items os/\os.filterMap id=s.subs/\items.length<=2:=by
 cases s with
 | holds w c=>obtain ⟨a,e,h⟩:=h; exact ⟨a,_,[none,none],e,h,.cons (.inl ⟨_,rfl⟩) (.cons (.inl ⟨_,rfl⟩) .nil),rfl,by simp⟩
 | sees w=>obtain ⟨a,e,h⟩:=h; exact ⟨a,_,[none],e,h,.cons (.inl ⟨_,rfl⟩) .nil,rfl,by simp⟩
 | not s=>obtain ⟨a,x,e,h,r⟩:=h; exact ⟨a,_,[some s],e,h,.cons r .nil,rfl,by simp⟩
 | and s t=>obtain ⟨a,x,y,e,h,r,q⟩:=h; exact ⟨a,_,[some s,some t],e,h,.cons r (.cons q .nil),rfl,by simp⟩
 | or s t=>obtain ⟨a,x,y,e,h,r,q⟩:=h; exact ⟨a,_,[some s,some t],e,h,.cons r (.cons q .nil),rfl,by simp⟩
 | knows w s=>obtain ⟨a,x,e,h,r⟩:=h; exact ⟨a,_,[none,some s],e,h,.cons (.inl ⟨_,rfl⟩) (.cons r .nil),rfl,by simp⟩
 | all g s=>obtain ⟨a,b,x,e,h,i,r⟩:=h; exact ⟨a,_,[none,some s],e,h,.cons (.inr ⟨b,g,rfl,i⟩) (.cons r .nil),rfl,by simp⟩
 | common g s=>obtain ⟨a,b,x,e,h,i,r⟩:=h; exact ⟨a,_,[none,some s],e,h,.cons (.inr ⟨b,g,rfl,i⟩) (.cons r .nil),rfl,by simp⟩
noncomputable def eF (_:Fg) (n:Nat):Sp:=fun vs H Q _=>∃ (v:V) (s:Sy),vs=[v]/\aK H v s/\s.words<=n/\∀ H',ap H H'->Q (.int (s.words:Nat)) H'
noncomputable def jm (K:Fg) (n:Nat):TS:=(ar (aE (tC (.int 1)) (am 1))
 (ar (cS (wn K (tSl (zJ K) (ab 0) (oR (tC (.int 1))) jO)) (am 2) (bB (tD (tB (tCB (lO K) (aa (ab 2) (aa (tC (.ty "tuple")) af)))) (tD (bq (tOp (oY (SqT K) true) (ab 2) (bz af))) (tB (tCB (lO K) (aa (tOp (cT K) (ab 2) (tC (.int 0))) (aa (tC (.ty "str")) af)))))) (aE (tOp (rI0 fun i j=>.int (i + j)) (ab 1) (au (eF K n) [] E0 (aa (ab 2) af))) (am 1)) bh))
 (aI (ab 1))))
theorem p6 (h:eF K 0 vs H Q E):False:=by
 obtain ⟨v,s,rfl,_,h,_⟩:=h
 have:=s.words_pos
 omega
theorem Fr {K:Fg} {H:Hp} {Q:VK} {a b:Addr} {xs:List V} (h1:SqT K H a xs) (h2:SqT K H b []) (q:Q (.bl (!xs.isEmpty)) H):oY (SqT K) true (.ref a) (.ref b) H Q:=by
 refine ⟨a,b,xs,[],fun _=>true,rfl,rfl,h1,h2,fun j x y _ hy=>by simp at hy,?_⟩
 cases xs with
 | nil=>exact q
 | cons x r=>exact q
noncomputable def kP (os:List (Option Sy)):Nat:=((os.filterMap id).map Sy.words).sum
noncomputable def Ao:Option Sy->Nat
 | some t=>t.words
 | none=>0
theorem Fs (os:List (Option Sy)) (i:Nat) (o:Option Sy) (h:os[i]?=some o):kP (os.take (i + 1))=kP (os.take i) + Ao o:=by
 unfold kP
 rw [Nr,h,List.filterMap_append,Ma,Ni]
 cases o with
 | none=>simp [Ao]
 | some t=>simp [Ao]
theorem yc {K:Fg} {n:Nat} {vs:List V} {H:Hp} {Q:VK} {E:XK} (h:eF K (n + 1) vs H Q E):jm K n { nx:=fun _ H'=>Q .non H',rt:=Q } (start ["_law_saying_here","_law_found","_law_part"] vs) H:=by
 obtain ⟨v,s,rfl,hs,hw,q⟩:=h
 obtain ⟨a,items,os,rfl,e,hp,hos,h2⟩:=Ca hs
 show jm K n _ [some _,none,none] _
 unfold jm
 walk_at "rd"
 refine CH (SqT.of e) (nI _ _) fun b H1 hb s1 e1=>?_
 rw [tN] at e1
 have hw':=s.words_subs
 have hol:items.length=os.length:=by
  clear hos h2 e e1
  induction hp with
  | nil=>rfl
  | cons _ _ ih=>rw [Mh,Mh,ih]
 refine zH items (SqT.of e1) (fun i σ H2=>∃ st,σ=[some (.ref a),some (.int (1 + kP (os.take i):Nat)),st]/\ap H1 H2) ⟨none,rfl,ap.refl _⟩ (fun i σ H2 _ ⟨_,_,s2⟩=>SqT.of (s2 _ _ e1)) ?_ ?_
 ·rintro i x σ H2 hx ⟨st,rfl,s2⟩
  obtain ⟨o,ho,io⟩:=ln hp hx
  have ot:=Fs os i o ho
  have io2:=io.keep (s1.trans s2).keep
  cases o with
  | none=>
   have ot':kP (os.take (i + 1))=kP (os.take i):=ot
   rcases io2 with ⟨j,rfl⟩ | ⟨g,gs,rfl,eg⟩
   ·walk_at "rd"
    refine ll (.int _) (BZ K "int" (by decide) "tuple" (by decide)) ?_
    walk_at "rd"
    refine oT ?_
    walk_at "rd"
    exact ⟨_,by rw [ot'],s2⟩
   ·walk_at "rd"
    refine ll (.tup eg) (j0 K) ?_
    walk_at "rd"
    refine ⟨by simp [LI],fun u H3 hu s3 e3=>?_⟩
    refine Fr (SqT.of (s3 _ _ eg)) (SqT.of e3) ?_
    walk_at "rd"
    cases gs with
    | nil=>
     refine oT ?_
     walk_at "rd"
     exact ⟨_,by rw [ot'],s2.trans s3⟩
    | cons k r=>
     refine qG ?_
     walk_at "rd"
     refine bw (SqT.of (s3 _ _ eg)) (lE _ _) ?_
     walk_at "rd"
     refine ll (.int _) (BZ K "int" (by decide) "str" (by decide)) ?_
     walk_at "rd"
     refine oT ?_
     walk_at "rd"
     exact ⟨_,by rw [ot'],s2.trans s3⟩
  | some t=>
   have ot':kP (os.take (i + 1))=kP (os.take i) + t.words:=ot
   have ts:t∈s.subs:=by rw [<-hos]; exact QK.mpr ⟨some t,LU ho,rfl⟩
   have hb':=Sy.sub_words ts
   obtain ⟨a2,items2,_,rfl,et,_⟩:=Ca io2
   walk_at "rd"
   refine ll (.tup et) (j0 K) ?_
   walk_at "rd"
   refine ⟨by simp [LI],fun u H3 hu s3 e3=>?_⟩
   refine Fr (SqT.of (s3 _ _ et)) (SqT.of e3) ?_
   walk_at "rd"
   refine qG ?_
   walk_at "rd"
   refine bw (SqT.of (s3 _ _ et)) (lE _ _) ?_
   walk_at "rd"
   refine ll (.str _) (Aa K "str") ?_
   walk_at "rd"
   refine ⟨_,t,rfl,aK.keep s3.keep io2,by omega,fun H4 s4=>?_⟩
   walk_at "rd"
   refine ⟨some (.ref a2),?_,(s2.trans s3).trans s4⟩
   rw [ot',show ((1 + kP (os.take i):Nat):Int) + ((t.words:Nat):Int)=((1 + (kP (os.take i) + t.words):Nat):Int) by omega]
 ·rintro σ H2 ⟨st,rfl,s2⟩
  walk_at "rd"
  have e:kP (os.take items.length)=(s.subs.map Sy.words).sum:=by rw [hol,Mw]; unfold kP; rw [hos]
  rw [e,<-hw']
  exact q _ (s1.trans s2)
structure gD (H H2:Hp) (r:Addr) (c h most:Nat) (ss:List Sy):Prop where
 same:ap H H2
 new:H r=none
 at_:∃ xs,H2 r=some (.lst xs)/\gR H2 xs ss
 ne:ss≠[]
 ok:∀ s∈ss,s.Ok c h/\s.words<=most
theorem gD.push {H H2 H3:Hp} {r:Addr} {c h most:Nat} {ss:List Sy} {s:Sy} {v:V} {xs:List V} (R:gD H H2 r c h most ss) (e:H2 r=some (.lst xs)) (o:Off r H2 H3) (e3:H3 r=some (.lst (xs++[v]))) (hv:aK H2 v s) (ok:s.Ok c h) (w:s.words<=most):gD H H3 r c h most (ss++[s]) where
 same:=R.same.off R.new o
 new:=R.new
 at_:=by
  obtain ⟨ys,ey,p⟩:=R.at_
  rw [e] at ey
  cases ey
  exact ⟨_,e3,lp (p.keep (o.keep e)) (.cons (hv.keep (o.keep e)) .nil)⟩
 ne:=by simp
 ok:=fun t ht=>by
  rcases Mm.mp ht with ht | ht
  ·exact R.ok t ht
  ·rw [LB] at ht; subst ht; exact ⟨ok,w⟩
theorem gD.to {H H2 H3:Hp} {r:Addr} {c h most:Nat} {ss:List Sy} (R:gD H H2 r c h most ss) (s:ap H2 H3):gD H H3 r c h most ss where
 same:=R.same.trans s
 new:=R.new
 at_:=by obtain ⟨xs,e,p⟩:=R.at_; exact ⟨xs,s _ _ e,p.keep s.keep⟩
 ne:=R.ne
 ok:=R.ok
noncomputable def l9 (K:Fg):Sp:=fun vs H Q _=>∃ (a:Addr) (ns:List Int) (at_:Int) (c h:Nat),vs=[.ref a,.int at_,.int c,.int h]/\eV K H a ns/\0<=at_/\at_<=1000/\1<=h/\∀ (r:Addr) (ss:List Sy) (H':Hp),gD H H' r c h 1 ss->ss.length<=4->Q (.ref r) H'
noncomputable def kg (K:Fg):TS:=(ar (aE (fv (aa (bz (aa (tC (.str "sees")) (aa (tOp (rI (fun _ j=>0 < j) fun i j=>.int (i % j)) (au (aP K) [] E0 (aa (ab 0) (aa (ab 1) af))) (ab 3)) af))) af)) (am 4))
 (ar (cS (ff (aa (tOp (rI Oz fun i j=>.int (i * j)) (tC (.int 3)) (tCB J8 (aa (tOp (rI0 fun i j=>.bl (decide (j < i))) (ab 2) (tC (.int 0))) af))) af)) (am 5) (ar (aE (au (aP K) [] E0 (aa (ab 0) (aa (tOp (rI0 fun i j=>.int (i + j)) (tOp (rI0 fun i j=>.int (i + j)) (ab 1) (tC (.int 1))) (ab 5)) af))) (am 6))
 (dG (tBM K "list" iY (ab 4) (aa (bz (aa (tC (.str "holds")) (aa (tOp (rI (fun _ j=>0 < j) fun i j=>.int (i % j)) (ab 6) (tOp (rI0 fun i j=>.int (i + j)) (ab 3) (tC (.int 1)))) (aa (tOp (rI (fun _ j=>0 < j) fun i j=>.int (i % j)) (tOp (rI em fun i j=>.int (i / j)) (ab 6) (tC (.int 7))) (ab 2)) af)))) af)))))
 (aI (ab 4))))
theorem Ap (h:l9 K vs H Q E):kg K { nx:=fun _ H'=>Q .non H',rt:=Q } (start ["_law_script","_law_at","_law_cards","_law_hands","_law_pool_here","_law_k","_law_cell_here"] vs) H:=by
 obtain ⟨a,ns,at_,c,h,rfl,hSc,ha0,ha1,h1,q⟩:=h
 show kg K _ [some _,some _,some _,some _,none,none,none] _
 unfold kg
 walk_at "rd"
 refine ⟨a,ns,at_,rfl,hSc,ha0,by omega,?_⟩
 walk_at "rd"
 obtain ⟨k,hk,hk2⟩:=kf (aU ns at_) (m:=(h:Int)) (by omega)
 rw [hk]
 refine ⟨by simp [LI],fun p1 H1 hp1 s1 e1=>?_⟩
 walk_at "rd"
 refine ⟨by simp [LI],fun r H2 hr s2 e2=>?_⟩
 have R0:gD H H2 r c h 1 [.sees k]:=⟨s1.trans s2,s1.free hr,⟨_,e2,.cons ⟨p1,rfl,s2 _ _ e1⟩ .nil⟩,by simp,fun s hs=>by rw [LB] at hs; subst hs; exact ⟨show k < h by omega,LC _⟩⟩
 walk_at "rd"
 obtain ⟨n,hn,hn3,hnc⟩:∃ n:Nat,((3:Int) * (if decide ((0:Int) < (c:Int))=true then 1 else 0))=(n:Int)/\n<=3/\(c=0->n=0):=by
  by_cases hc:(0:Int) < (c:Int)
  ·exact ⟨3,by rw [if_pos (decide_eq_true hc)]; rfl,LC _,fun z=>by omega⟩
  ·exact ⟨0,by rw [if_neg (by rw [decide_eq_false hc]; exact LM)]; rfl,by decide,fun _=>rfl⟩
 rw [hn]
 refine jQ n (by omega) (by omega) (by omega) (fun i σ H3=>∃ (ss:List Sy) (v5 v6:Option V),σ=[some (.ref a),some (.int at_),some (.int c),some (.int h),some (.ref r),v5,v6]/\gD H H3 r c h 1 ss/\ss.length=i + 1) ⟨_,none,none,rfl,R0,rfl⟩ ?_ ?_
 ·rintro i σ H3 hi ⟨ss,v5,v6,rfl,R,hl⟩
  have hc:0 < c:=by
   rcases Pq c with z | z
   ·have:=hnc z; omega
   ·exact z
  obtain ⟨xs,e3,px⟩:=R.at_
  have hxl:=gz px
  walk_at "rd"
  refine ⟨a,ns,at_ + 1 + (i:Int),rfl,hSc.same R.same,by omega,by omega,?_⟩
  walk_at "rd"
  refine ⟨y8 e3,?_⟩
  walk_at "rd"
  obtain ⟨k1,hk1,hk12⟩:=kf (aU ns (at_ + 1 + (i:Int))) (m:=(h:Int) + 1) (by omega)
  obtain ⟨k2,hk2',hk22⟩:=kf (aU ns (at_ + 1 + (i:Int)) / 7) (m:=(c:Int)) (by omega)
  rw [hk1,hk2']
  refine ⟨by simp [LI],fun p4 H4 hp4 s4 e4=>?_⟩
  walk_at "rd"
  refine lQ (s4 _ _ e3) (by rw [LI]; omega) fun H5 o5 e5=>?_
  exact ⟨_,_,_,rfl,(R.to s4).push (s4 _ _ e3) o5 e5 (s:=.holds k1 k2) ⟨p4,rfl,e4⟩ ⟨by omega,by omega⟩ (LC _),by rw [LY,hl]; rfl⟩
 ·rintro σ H3 ⟨ss,v5,v6,rfl,R,hl⟩
  walk_at "rd"
  exact q r ss H3 R (by omega)
noncomputable def gU (c h:Nat) (H:Hp) (x:V):Prop:=∃ s:Sy,aK H x s/\s.Ok c h/\s.words<=63
theorem gU.same {c h:Nat} {H H':Hp} {x:V} (g:gU c h H x) (s:ap H H'):gU c h H' x:=by
 obtain ⟨t,i,o,w⟩:=g
 exact ⟨t,i.keep s.keep,o,w⟩
theorem rg {H:Hp}:∀ {l:List V} {m:List Sy},gR H l m->l≠[]->∃ x y,atI l (-1)=some x/\y∈m/\aK H x y:=by
 intro l m p hne
 have hl:=gz p
 have hp:0 < l.length:=Qx.mpr hne
 obtain ⟨x,hx⟩:∃ x,l[l.length - 1]?=some x:=⟨_,Lz (by omega)⟩
 obtain ⟨y,hy,iy⟩:=mU p hx
 refine ⟨x,y,?_,LU hy,iy⟩
 unfold atI ixN
 rw [if_neg (by decide),if_pos (by omega),show (-1 + (l.length:Int)).toNat=l.length - 1 by omega]
 exact hx
noncomputable def gW (K:Fg):Sp:=fun vs H Q _=>∃ (a:Addr) (ns:List Int) (at_:Int) (c h most:Nat),vs=[.ref a,.int at_,.int c,.int h,.int most]/\eV K H a ns/\0<=at_/\at_<=1000/\1<=h/\h<=5/\1<=most/\most<=30/\∀ (v:V) (s:Sy) (H':Hp),ap H H'->aK H' v s->s.Ok c h->s.words<=most->Q v H'
noncomputable def iA (K:Fg):TS:=(ar (aE (au (l9 K) [] E0 (aa (ab 0) (aa (ab 1) (aa (ab 2) (aa (ab 3) af))))) (am 5))
 (ar (cS (ff (aa (tOp (rI (fun _ j=>0 < j) fun i j=>.int (i % j)) (au (aP K) [] E0 (aa (ab 0) (aa (tOp (rI0 fun i j=>.int (i + j)) (ab 1) (tC (.int 4))) af))) (tC (.int 12))) af)) (am 6) (ar (aE (au (aP K) [] E0 (aa (ab 0) (aa (tOp (rI0 fun i j=>.int (i + j)) (tOp (rI0 fun i j=>.int (i + j)) (ab 1) (tC (.int 5))) (ab 6)) af))) (am 7))
 (ar (aE (tOp (dR K) (ab 5) (tUn (rU fun i=>.int (-i)) (tC (.int 1)))) (am 8))
 (ar (aE (tOp (dR K) (ab 5) (tOp (rI (fun _ j=>0 < j) fun i j=>.int (i % j)) (tOp (rI em fun i j=>.int (i / j)) (ab 7) (tC (.int 12))) (tCB (gi K) (aa (ab 5) af)))) (am 9))
 (ar (aE (fv (aa (bz (aa (tC (.str "not")) (aa (ab 8) af))) (aa (bz (aa (tC (.str "and")) (aa (ab 8) (aa (ab 9) af)))) (aa (bz (aa (tC (.str "or")) (aa (ab 9) (aa (ab 8) af)))) (aa (bz (aa (tC (.str "not")) (aa (ab 9) af))) af))))) (am 10))
 (ar (aE (tOp qL (ab 10) (fv (aa (bz (aa (tC (.str "knows")) (aa (tOp (rI (fun _ j=>0 < j) fun i j=>.int (i % j)) (tOp (rI em fun i j=>.int (i / j)) (ab 7) (tC (.int 7))) (ab 3)) (aa (ab 8) af)))) (aa (bz (aa (tC (.str "knows")) (aa (tOp (rI (fun _ j=>0 < j) fun i j=>.int (i % j)) (tOp (rI em fun i j=>.int (i / j)) (ab 7) (tC (.int 7))) (ab 3)) (aa (bz (aa (tC (.str "not")) (aa (ab 8) af))) af)))) af)))) (am 10))
 (ar (aE (tOp qL (ab 10) (fv (aa (bz (aa (tC (.str "all")) (aa (au (cL K) [] E0 (aa (tOp (rI em fun i j=>.int (i / j)) (ab 7) (tC (.int 36))) (aa (ab 3) af))) (aa (ab 8) af)))) (aa (bz (aa (tC (.str "common")) (aa (au (cL K) [] E0 (aa (tOp (rI em fun i j=>.int (i / j)) (ab 7) (tC (.int 36))) (aa (ab 3) af))) (aa (ab 9) af)))) af)))) (am 10))
 (ar (aE (tOp qL (ab 10) (fv (aa (bz (aa (tC (.str "common")) (aa (au (cL K) [] E0 (aa (tOp (rI em fun i j=>.int (i / j)) (ab 7) (tC (.int 36))) (aa (ab 3) af))) (aa (ab 8) af)))) (aa (bz (aa (tC (.str "knows")) (aa (tOp (rI (fun _ j=>0 < j) fun i j=>.int (i % j)) (tOp (rI em fun i j=>.int (i / j)) (ab 7) (tC (.int 7))) (ab 3)) (aa (ab 9) af)))) af)))) (am 10))
 (ar (aE (tOp qL (ab 10) (fv (aa (bz (aa (tC (.str "and")) (aa (ab 9) (aa (bz (aa (tC (.str "not")) (aa (ab 8) af))) af)))) (aa (bz (aa (tC (.str "or")) (aa (ab 8) (aa (bz (aa (tC (.str "knows")) (aa (tOp (rI (fun _ j=>0 < j) fun i j=>.int (i % j)) (tOp (rI em fun i j=>.int (i / j)) (ab 7) (tC (.int 7))) (ab 3)) (aa (ab 9) af)))) af)))) af)))) (am 10))
 (bB (bq (tOp (rI0 fun i j=>.bl (decide (i<=j))) (au (eF K 70) [] E0 (aa (tOp (dR K) (ab 10) (tOp (rI (fun _ j=>0 < j) fun i j=>.int (i % j)) (ab 7) (tC (.int 12)))) af)) (ab 4))) (dG (tBM K "list" iY (ab 5) (aa (tOp (dR K) (ab 10) (tOp (rI (fun _ j=>0 < j) fun i j=>.int (i % j)) (ab 7) (tC (.int 12)))) af))) bh))))))))))
 (aI (tOp (dR K) (ab 5) (tUn (rU fun i=>.int (-i)) (tC (.int 1)))))))
theorem wH (h:gW K vs H Q E):iA K { nx:=fun _ H'=>Q .non H',rt:=Q } (start ["_law_script","_law_at","_law_cards","_law_hands","_law_most","_law_pool_here","_law_k","_law_cell_here","_law_one","_law_other","_law_some"] vs) H:=by
 obtain ⟨a,ns,at_,c,h,most,rfl,hSc,ha0,ha1,h1,h5,hm1,hm30,q⟩:=h
 show iA K _ [some _,some _,some _,some _,some _,none,none,none,none,none,none] _
 unfold iA
 walk_at "rd"
 refine ⟨a,ns,at_,c,h,rfl,hSc,ha0,ha1,h1,fun r ss0 H1 R0 hl4=>?_⟩
 walk_at "rd"
 refine ⟨a,ns,at_ + 4,rfl,hSc.same R0.same,by omega,by omega,?_⟩
 walk_at "rd"
 have R1:gD H H1 r c h most ss0:=⟨R0.same,R0.new,R0.at_,R0.ne,fun s hs=>⟨(R0.ok s hs).1,by have:=(R0.ok s hs).2; omega⟩⟩
 refine jQ (aU ns (at_ + 4) % 12).toNat rfl (by omega) (by omega) (fun i σ H2=>∃ (ss:List Sy) (v6 v7 v8 v9 v10:Option V),σ=[some (.ref a),some (.int at_),some (.int c),some (.int h),some (.int most),some (.ref r),v6,v7,v8,v9,v10]/\gD H H2 r c h most ss/\ss.length<=4 + i) ⟨ss0,none,none,none,none,none,rfl,R1,by omega⟩ ?_ ?_
 ·rintro i σ H2 hi ⟨ss,v6,v7,v8,v9,v10,rfl,R,hl⟩
  obtain ⟨xs,e2,px⟩:=R.at_
  have hxl:=gz px
  have hne:xs≠[]:=fun z=>R.ne (OU.mp (by rw [<-hxl,z]; rfl))
  have hpos:0 < xs.length:=Qx.mpr hne
  refine ku ?_
  dsimp only [NP,NQ]
  refine bg ?_
  walk_at "rs"
  refine ⟨a,ns,at_ + 5 + (i:Int),rfl,hSc.same R.same,by omega,by omega,?_⟩
  generalize aU ns (at_ + 5 + (i:Int))=z
  walk_at "rs"
  refine bg ?_
  walk_at "rs"
  obtain ⟨x1,s1,hx1,hs1,is1⟩:=rg px hne
  obtain ⟨ok1,w1⟩:=R.ok s1 hs1
  refine cO (SqL.of e2) hx1 ?_
  walk_at "rs"
  refine bg ?_
  walk_at "rs"
  obtain ⟨x2,hx2,hm2⟩:=EU xs (z / 12) rfl hpos
  obtain ⟨j2,hj2⟩:=SB hm2
  obtain ⟨s2,hs2,is2⟩:=mU px hj2
  obtain ⟨ok2,w2⟩:=R.ok s2 (LU hs2)
  refine cO (SqL.of e2) hx2 ?_
  walk_at "rs"
  refine bg ?_
  refine lj ?_
  refine rR ?_
  refine rf (P:=gU c h) (fun _ _ _ s g=>g.same s) (H0:=H2) (n:=4) (ap.refl _) ?_ fun ys0 Hy0 sy0 ly0 by0=>?_
  ·skip
   refine GA.cons (fun _ _ _ s g=>g.same s) (n:=3) ?_ ?_
   ·intro H' s' Q q
    have i1:=is1.keep s'.keep
    have i2:=is2.keep s'.keep
    walk_at "rd"
    refine ⟨by simp [LI],fun p1 G1 hp1 t1 e1=>?_⟩
    have I1:aK G1 (.ref p1) (.not s1):=⟨p1,_,rfl,e1,(aK.keep (ap.keep t1) i1)⟩
    exact q _ _ t1 ⟨_,I1,ok1,by simp only [Sy.words]; omega⟩
   refine GA.cons (fun _ _ _ s g=>g.same s) (n:=2) ?_ ?_
   ·intro H' s' Q q
    have i1:=is1.keep s'.keep
    have i2:=is2.keep s'.keep
    walk_at "rd"
    refine ⟨by simp [LI],fun p1 G1 hp1 t1 e1=>?_⟩
    have I1:aK G1 (.ref p1) (.and s1 s2):=⟨p1,_,_,rfl,e1,(aK.keep (ap.keep t1) i1),(aK.keep (ap.keep t1) i2)⟩
    exact q _ _ t1 ⟨_,I1,⟨ok1,ok2⟩,by simp only [Sy.words]; omega⟩
   refine GA.cons (fun _ _ _ s g=>g.same s) (n:=1) ?_ ?_
   ·intro H' s' Q q
    have i1:=is1.keep s'.keep
    have i2:=is2.keep s'.keep
    walk_at "rd"
    refine ⟨by simp [LI],fun p1 G1 hp1 t1 e1=>?_⟩
    have I1:aK G1 (.ref p1) (.or s2 s1):=⟨p1,_,_,rfl,e1,(aK.keep (ap.keep t1) i2),(aK.keep (ap.keep t1) i1)⟩
    exact q _ _ t1 ⟨_,I1,⟨ok2,ok1⟩,by simp only [Sy.words]; omega⟩
   refine GA.cons (fun _ _ _ s g=>g.same s) (n:=0) ?_ ?_
   ·intro H' s' Q q
    have i1:=is1.keep s'.keep
    have i2:=is2.keep s'.keep
    walk_at "rd"
    refine ⟨by simp [LI],fun p1 G1 hp1 t1 e1=>?_⟩
    have I1:aK G1 (.ref p1) (.not s2):=⟨p1,_,rfl,e1,(aK.keep (ap.keep t1) i2)⟩
    exact q _ _ t1 ⟨_,I1,ok2,by simp only [Sy.words]; omega⟩
   exact GA.nil
  refine ⟨by rw [ly0,LI]; decide,fun l0 Hl0 hl0 sl0 el0=>?_⟩
  have sL0:ap H2 Hl0:=sy0.trans sl0
  have L0:ys0.length=4:=ly0
  have B0:∀ x∈ys0,gU c h Hl0 x:=fun x hx=>(by0 x hx).same sl0
  have eL0:=el0
  refine ku ?_
  dsimp only [NP,NQ]
  generalize hX0:ys0=X0 at *
  refine bg ?_
  refine lj ?_
  refine tK ?_
  refine o0 rfl ?_
  refine rR ?_
  refine rf (P:=gU c h) (fun _ _ _ s g=>g.same s) (H0:=H2) (n:=2) sL0 ?_ fun ys1 Hy1 sy1 ly1 by1=>?_
  ·skip
   refine GA.cons (fun _ _ _ s g=>g.same s) (n:=1) ?_ ?_
   ·intro H' s' Q q
    have i1:=is1.keep s'.keep
    have i2:=is2.keep s'.keep
    walk_at "rd"
    obtain ⟨kk1,hk1,hk21⟩:=kf (z / 7) (m:=(h:Int)) (by omega)
    rw [hk1]
    refine ⟨by simp [LI],fun p1 G1 hp1 t1 e1=>?_⟩
    have I1:aK G1 (.ref p1) (.knows kk1 s1):=⟨p1,_,rfl,e1,(aK.keep (ap.keep t1) i1)⟩
    exact q _ _ t1 ⟨_,I1,⟨by omega,ok1⟩,by simp only [Sy.words]; omega⟩
   refine GA.cons (fun _ _ _ s g=>g.same s) (n:=0) ?_ ?_
   ·intro H' s' Q q
    have i1:=is1.keep s'.keep
    have i2:=is2.keep s'.keep
    walk_at "rd"
    refine ⟨by simp [LI],fun p1 G1 hp1 t1 e1=>?_⟩
    have I1:aK G1 (.ref p1) (.not s1):=⟨p1,_,rfl,e1,(aK.keep (ap.keep t1) i1)⟩
    walk_at "rd"
    obtain ⟨kk2,hk2,hk22⟩:=kf (z / 7) (m:=(h:Int)) (by omega)
    rw [hk2]
    refine ⟨by simp [LI],fun p2 G2 hp2 t2 e2=>?_⟩
    have I2:aK G2 (.ref p2) (.knows kk2 (.not s1)):=⟨p2,_,rfl,e2,(aK.keep (ap.keep t2) I1)⟩
    exact q _ _ (t1.trans t2) ⟨_,I2,⟨by omega,ok1⟩,by simp only [Sy.words]; omega⟩
   exact GA.nil
  refine ⟨by rw [ly1,LI]; decide,fun l1 Hl1 hl1 sl1 el1=>?_⟩
  refine rS (sl1 _ _ (sy1 _ _ eL0)) el1 (by rw [L0,ly1,LI]; decide) fun m1 Hm1 hm1 sm1 em1=>?_
  have sA1:=(sy1.trans sl1).trans sm1
  have sL1:ap H2 Hm1:=sL0.trans sA1
  have L1:(X0++ys1).length=6:=by rw [LY,L0,ly1]
  have B1:∀ x∈X0++ys1,gU c h Hm1 x:=fun x hx=>by
   rcases Mm.mp hx with hx | hx
   ·exact (B0 x hx).same sA1
   ·exact (by1 x hx).same (sl1.trans sm1)
  have eL1:=em1
  refine ku ?_
  dsimp only [NP,NQ]
  generalize X0++ys1=X1 at L1 B1 eL1
  clear B0 L0 eL0 by1 ly1 el1 em1
  refine bg ?_
  refine lj ?_
  refine tK ?_
  refine o0 rfl ?_
  refine rR ?_
  refine rf (P:=gU c h) (fun _ _ _ s g=>g.same s) (H0:=H2) (n:=2) sL1 ?_ fun ys2 Hy2 sy2 ly2 by2=>?_
  ·skip
   refine GA.cons (fun _ _ _ s g=>g.same s) (n:=1) ?_ ?_
   ·intro H' s' Q q
    have i1:=is1.keep s'.keep
    have i2:=is2.keep s'.keep
    walk_at "rd"
    refine ⟨_,h,rfl,h5,fun g1 gs1 G1 t1 eg1 pw1 hb1=>?_⟩
    walk_at "rd"
    refine ⟨by simp [LI],fun p2 G2 hp2 t2 e2=>?_⟩
    have I2:aK G2 (.ref p2) (.all gs1 s1):=⟨p2,g1,_,rfl,e2,t2 _ _ eg1,(aK.keep (ap.keep (t1.trans t2)) i1)⟩
    exact q _ _ (t1.trans t2) ⟨_,I2,⟨⟨pw1,hb1⟩,ok1⟩,by simp only [Sy.words]; omega⟩
   refine GA.cons (fun _ _ _ s g=>g.same s) (n:=0) ?_ ?_
   ·intro H' s' Q q
    have i1:=is1.keep s'.keep
    have i2:=is2.keep s'.keep
    walk_at "rd"
    refine ⟨_,h,rfl,h5,fun g1 gs1 G1 t1 eg1 pw1 hb1=>?_⟩
    walk_at "rd"
    refine ⟨by simp [LI],fun p2 G2 hp2 t2 e2=>?_⟩
    have I2:aK G2 (.ref p2) (.common gs1 s2):=⟨p2,g1,_,rfl,e2,t2 _ _ eg1,(aK.keep (ap.keep (t1.trans t2)) i2)⟩
    exact q _ _ (t1.trans t2) ⟨_,I2,⟨⟨pw1,hb1⟩,ok2⟩,by simp only [Sy.words]; omega⟩
   exact GA.nil
  refine ⟨by rw [ly2,LI]; decide,fun l2 Hl2 hl2 sl2 el2=>?_⟩
  refine rS (sl2 _ _ (sy2 _ _ eL1)) el2 (by rw [L1,ly2,LI]; decide) fun m2 Hm2 hm2 sm2 em2=>?_
  have sA2:=(sy2.trans sl2).trans sm2
  have sL2:ap H2 Hm2:=sL1.trans sA2
  have L2:(X1++ys2).length=8:=by rw [LY,L1,ly2]
  have B2:∀ x∈X1++ys2,gU c h Hm2 x:=fun x hx=>by
   rcases Mm.mp hx with hx | hx
   ·exact (B1 x hx).same sA2
   ·exact (by2 x hx).same (sl2.trans sm2)
  have eL2:=em2
  refine ku ?_
  dsimp only [NP,NQ]
  generalize X1++ys2=X2 at L2 B2 eL2
  clear B1 L1 eL1 by2 ly2 el2 em2
  refine bg ?_
  refine lj ?_
  refine tK ?_
  refine o0 rfl ?_
  refine rR ?_
  refine rf (P:=gU c h) (fun _ _ _ s g=>g.same s) (H0:=H2) (n:=2) sL2 ?_ fun ys3 Hy3 sy3 ly3 by3=>?_
  ·skip
   refine GA.cons (fun _ _ _ s g=>g.same s) (n:=1) ?_ ?_
   ·intro H' s' Q q
    have i1:=is1.keep s'.keep
    have i2:=is2.keep s'.keep
    walk_at "rd"
    refine ⟨_,h,rfl,h5,fun g1 gs1 G1 t1 eg1 pw1 hb1=>?_⟩
    walk_at "rd"
    refine ⟨by simp [LI],fun p2 G2 hp2 t2 e2=>?_⟩
    have I2:aK G2 (.ref p2) (.common gs1 s1):=⟨p2,g1,_,rfl,e2,t2 _ _ eg1,(aK.keep (ap.keep (t1.trans t2)) i1)⟩
    exact q _ _ (t1.trans t2) ⟨_,I2,⟨⟨pw1,hb1⟩,ok1⟩,by simp only [Sy.words]; omega⟩
   refine GA.cons (fun _ _ _ s g=>g.same s) (n:=0) ?_ ?_
   ·intro H' s' Q q
    have i1:=is1.keep s'.keep
    have i2:=is2.keep s'.keep
    walk_at "rd"
    obtain ⟨kk1,hk1,hk21⟩:=kf (z / 7) (m:=(h:Int)) (by omega)
    rw [hk1]
    refine ⟨by simp [LI],fun p1 G1 hp1 t1 e1=>?_⟩
    have I1:aK G1 (.ref p1) (.knows kk1 s2):=⟨p1,_,rfl,e1,(aK.keep (ap.keep t1) i2)⟩
    exact q _ _ t1 ⟨_,I1,⟨by omega,ok2⟩,by simp only [Sy.words]; omega⟩
   exact GA.nil
  refine ⟨by rw [ly3,LI]; decide,fun l3 Hl3 hl3 sl3 el3=>?_⟩
  refine rS (sl3 _ _ (sy3 _ _ eL2)) el3 (by rw [L2,ly3,LI]; decide) fun m3 Hm3 hm3 sm3 em3=>?_
  have sA3:=(sy3.trans sl3).trans sm3
  have sL3:ap H2 Hm3:=sL2.trans sA3
  have L3:(X2++ys3).length=10:=by rw [LY,L2,ly3]
  have B3:∀ x∈X2++ys3,gU c h Hm3 x:=fun x hx=>by
   rcases Mm.mp hx with hx | hx
   ·exact (B2 x hx).same sA3
   ·exact (by3 x hx).same (sl3.trans sm3)
  have eL3:=em3
  refine ku ?_
  dsimp only [NP,NQ]
  generalize X2++ys3=X3 at L3 B3 eL3
  clear B2 L2 eL2 by3 ly3 el3 em3
  refine bg ?_
  refine lj ?_
  refine tK ?_
  refine o0 rfl ?_
  refine rR ?_
  refine rf (P:=gU c h) (fun _ _ _ s g=>g.same s) (H0:=H2) (n:=2) sL3 ?_ fun ys4 Hy4 sy4 ly4 by4=>?_
  ·skip
   refine GA.cons (fun _ _ _ s g=>g.same s) (n:=1) ?_ ?_
   ·intro H' s' Q q
    have i1:=is1.keep s'.keep
    have i2:=is2.keep s'.keep
    walk_at "rd"
    refine ⟨by simp [LI],fun p1 G1 hp1 t1 e1=>?_⟩
    have I1:aK G1 (.ref p1) (.not s1):=⟨p1,_,rfl,e1,(aK.keep (ap.keep t1) i1)⟩
    walk_at "rd"
    refine ⟨by simp [LI],fun p2 G2 hp2 t2 e2=>?_⟩
    have I2:aK G2 (.ref p2) (.and s2 (.not s1)):=⟨p2,_,_,rfl,e2,(aK.keep (ap.keep (t1.trans t2)) i2),(aK.keep (ap.keep t2) I1)⟩
    exact q _ _ (t1.trans t2) ⟨_,I2,⟨ok2,ok1⟩,by simp only [Sy.words]; omega⟩
   refine GA.cons (fun _ _ _ s g=>g.same s) (n:=0) ?_ ?_
   ·intro H' s' Q q
    have i1:=is1.keep s'.keep
    have i2:=is2.keep s'.keep
    walk_at "rd"
    obtain ⟨kk1,hk1,hk21⟩:=kf (z / 7) (m:=(h:Int)) (by omega)
    rw [hk1]
    refine ⟨by simp [LI],fun p1 G1 hp1 t1 e1=>?_⟩
    have I1:aK G1 (.ref p1) (.knows kk1 s2):=⟨p1,_,rfl,e1,(aK.keep (ap.keep t1) i2)⟩
    walk_at "rd"
    refine ⟨by simp [LI],fun p2 G2 hp2 t2 e2=>?_⟩
    have I2:aK G2 (.ref p2) (.or s1 (.knows kk1 s2)):=⟨p2,_,_,rfl,e2,(aK.keep (ap.keep (t1.trans t2)) i1),(aK.keep (ap.keep t2) I1)⟩
    exact q _ _ (t1.trans t2) ⟨_,I2,⟨ok1,⟨by omega,ok2⟩⟩,by simp only [Sy.words]; omega⟩
   exact GA.nil
  refine ⟨by rw [ly4,LI]; decide,fun l4 Hl4 hl4 sl4 el4=>?_⟩
  refine rS (sl4 _ _ (sy4 _ _ eL3)) el4 (by rw [L3,ly4,LI]; decide) fun m4 Hm4 hm4 sm4 em4=>?_
  have sA4:=(sy4.trans sl4).trans sm4
  have sL4:ap H2 Hm4:=sL3.trans sA4
  have L4:(X3++ys4).length=12:=by rw [LY,L3,ly4]
  have B4:∀ x∈X3++ys4,gU c h Hm4 x:=fun x hx=>by
   rcases Mm.mp hx with hx | hx
   ·exact (B3 x hx).same sA4
   ·exact (by4 x hx).same (sl4.trans sm4)
  have eL4:=em4
  refine ku ?_
  dsimp only [NP,NQ]
  generalize X3++ys4=X4 at L4 B4 eL4
  clear B3 L3 eL3 by4 ly4 el4 em4
  obtain ⟨y,hy,my⟩:=EU X4 z (m:=12) L4 (by decide)
  obtain ⟨sy,iy,oky,wy⟩:=B4 y my
  have R4:=R.to sL4
  have e24:=sL4 _ _ e2
  walk_at "rd"
  refine cO (SqL.of eL4) hy ?_
  walk_at "rd"
  refine ⟨y,sy,rfl,iy,by omega,fun H5 s5=>?_⟩
  walk_at "rd"
  refine dO (fun cm=>?_) (fun cm=>?_)
  ·walk_at "rd"
   refine ⟨y8 (s5 _ _ e24),?_⟩
   walk_at "rd"
   refine cO (SqL.of (s5 _ _ eL4)) hy ?_
   walk_at "rd"
   refine lQ (s5 _ _ e24) (by rw [LI]; omega) fun H6 o6 e6=>?_
   exact ⟨_,_,_,_,_,_,rfl,(R4.to s5).push (s5 _ _ e24) o6 e6 (iy.keep s5.keep) oky (by omega),by rw [LY]; show ss.length + 1<=_; omega⟩
  ·walk_at "rd"
   exact ⟨_,_,_,_,_,_,rfl,R4.to s5,by omega⟩
 ·rintro σ H2 ⟨ss,v6,v7,v8,v9,v10,rfl,R,hl⟩
  obtain ⟨xs,e2,px⟩:=R.at_
  have hxl:=gz px
  have hne:xs≠[]:=fun z=>R.ne (OU.mp (by rw [<-hxl,z]; rfl))
  obtain ⟨x1,s1,hx1,hs1,is1⟩:=rg px hne
  walk_at "rd"
  exact cO (SqL.of e2) hx1 (q x1 s1 H2 R.same is1 (R.ok s1 hs1).1 (R.ok s1 hs1).2)
end
section
variable {K:Fg} {vs:List V} {H:Hp} {Q:VK} {E:XK}
open KF
noncomputable def iaR:IA->V
 | none=>.non
 | some c=>.int c
theorem La (a:IA):iaV (iaR a)=some a:=by cases a <;> rfl
noncomputable def wAt (w:List Nat) (c:Int):Int:=(w.getD c.toNat 0:Nat)
noncomputable def kF (w:List Nat) (h:Int) (cs:List Int) (a:IA):Prop:=
 (a=none/\∀ c∈cs,wAt w c≠h)\/∃ c,a=some c/\c∈cs/\wAt w c=h/\∀ d∈cs,wAt w d=h->c<=d
theorem kF.uniq {w:List Nat} {h:Int} {cs ds:List Int} (m:∀ y,y∈cs↔y∈ds) {a b:IA} (x:kF w h cs a) (y:kF w h ds b):a=b:=by
 rcases x with ⟨rfl,x⟩ | ⟨c,rfl,x1,x2,x3⟩
 ·rcases y with ⟨rfl,_⟩ | ⟨d,rfl,y1,y2,_⟩
  ·rfl
  ·exact absurd y2 (x d ((m d).mpr y1))
 ·rcases y with ⟨rfl,y⟩ | ⟨d,rfl,y1,y2,y3⟩
  ·exact absurd x2 (y c ((m c).mp x1))
  ·have h1:=x3 d ((m d).mpr y1) y2
   have h2:=y3 c ((m c).mp x1) x2
   rw [show c=d by omega]
theorem kF.stay {w:List Nat} {h c d:Int} {cs:List Int} (x:kF w h cs (some d)) (e:¬ c < d):kF w h (cs++[c]) (some d):=by
 rcases x with ⟨z,_⟩ | ⟨d',z,x1,x2,x3⟩
 ·cases z
 ·cases z
  refine .inr ⟨d,rfl,Nx _ x1,x2,fun y hy hz=>?_⟩
  rcases Mm.mp hy with z | z
  ·exact x3 y z hz
  ·rw [LB.mp z]
   omega
theorem GQ {w:List Nat} {c:Int} (h0:0<=c) (h1:c < w.length):atI (av w) c=some (.int (wAt w c)):=by
 obtain ⟨n,rfl⟩:∃ n:Nat,c=(n:Int):=⟨c.toNat,by omega⟩
 have hn:n < w.length:=by omega
 refine fk ?_
 unfold wAt av
 rw [LS,Lz hn]
 simp [LV,Lz hn]
noncomputable def kQ (_:Fg):Sp:=fun vs H Q _=>∃ (t p:Addr) (w:List Nat) (h:Int) (ms:List Int),vs=[.ref t,.int h,.ref p]/\H t=some (.tup (av w))/\H p=some (.lst (ms.map V.int))/\ms.Pairwise (· < ·)/\(∀ c∈ms,0<=c/\c < w.length)/\
 ∀ a,kF w h ms a->Q (iaR a) H
noncomputable def jn (K:Fg):TS:=(ar (cS (du K (ab 2)) (am 3) (bB (bq (tOp rEq (tOp (cT K) (ab 0) (ab 3)) (ab 1))) (aI (ab 3)) bh))
 (aI (tC .non)))
theorem yd (h:kQ K vs H Q E):jn K { nx:=fun _ H'=>Q .non H',rt:=Q } (start ["deal","holder","rising","card"] vs) H:=by
 obtain ⟨t,p,w,h,ms,rfl,et,ep,pw,hb,q⟩:=h
 show jn K _ [some _,some _,some _,none] _
 unfold jn
 walk_at "rd"
 refine lD (ms.map V.int) (SqL.of ep) (fun i σ' H2=>∃ u:Option V,σ'=[some (.ref t),some (.int h),some (.ref p),u]/\H2=H/\∀ c∈ms.take i,wAt w c≠h) ⟨none,rfl,rfl,fun c hc=>by simp at hc⟩ ?_ ?_ ?_
 ·rintro i σ' H2 hi ⟨u,rfl,rfl,_⟩
  exact SqL.of ep
 ·rintro i x σ' H2 hx ⟨u,rfl,rfl,hn⟩
  rw [LS] at hx
  obtain ⟨c,hc,rfl⟩:=PR.mp hx
  have hm:c∈ms:=LU hc
  walk_at "rd"
  refine bw (SqT.of et) (GQ (hb c hm).1 (hb c hm).2) ?_
  walk_at "rd"
  by_cases e:wAt w c=h
  ·rw [if_pos (decide_eq_true e)]
   walk_at "rd"
   refine q (some c) (.inr ⟨c,rfl,hm,e,fun d hd he=>?_⟩)
   obtain ⟨j,hj⟩:=SB hd
   obtain ⟨hi1,hi2⟩:=LD.mp hc
   obtain ⟨hj1,hj2⟩:=LD.mp hj
   rcases Re j i with z | z | z
   ·exact absurd he (hn d (P9.mpr ⟨j,by rw [Rp z]; exact hj⟩))
   ·subst z
    rw [<-hi2,<-hj2]
    exact Int.le_refl _
   ·have:=OI.mp pw i j hi1 hj1 z
    rw [hi2,hj2] at this
    omega
  ·rw [if_neg (by rw [decide_eq_false e]; exact LM)]
   walk_at "rd"
   refine ⟨_,rfl,rfl,fun d hd=>?_⟩
   rw [Nr,hc] at hd
   rcases Mm.mp hd with z | z
   ·exact hn d z
   ·rw [LB.mp z]
    exact e
 ·rintro σ' H2 ⟨u,rfl,rfl,hn⟩
  walk_at "rd"
  rw [LF,Mw] at hn
  exact q none (.inl ⟨rfl,hn⟩)
noncomputable def cq (_:Fg):Sp:=fun vs H Q _=>∃ z:Str,vs=[.bl true,.str z]/\Q .non H
noncomputable def gn (K:Fg):TS:=(bB (eU (tB (ab 0))) qz bh)
theorem tT (h:cq K vs H Q E):gn K { nx:=fun _ H'=>Q .non H',rt:=Q } (start ["fit","reason"] vs) H:=by
 obtain ⟨z,rfl,q⟩:=h
 show gn K _ [some _,some _] _
 unfold gn
 walk_at "rd"
 exact q
noncomputable def ma (_:Fg):Sp:=fun vs H Q _=>∃ (p:Addr) (ns:List Int) (c:Int),vs=[.ref p,.int c]/\H p=some (.lst (ns.map V.int))/\ns.length<=1000/\(∀ n∈ns,0<=n/\n < c)/\∀ H',ap H H'->Q (.bl true) H'
noncomputable def kh (K:Fg):TS:=(aI (mK (tCB (lO K) (aa (ab 0) (aa (tC (.ty "list")) af))) (tCB (CB K) (aa (bZ (du K (ab 0)) (fun _ _ _ _=>(am 0)) (fun _ _ _ _=>bK) (fun _ _ _ _=>(au (db K) [] E0 (aa (ab 0) (aa (ab 1) af)))) [none,some 1]) af))))
theorem Aq (h:ma K vs H Q E):kh K { nx:=fun _ H'=>Q .non H',rt:=Q } (start ["thing","cards"] vs) H:=by
 obtain ⟨p,ns,c,rfl,ep,hl,hb,q⟩:=h
 show kh K _ [some _,some _] _
 unfold kh
 walk_at "rd"
 refine ll (.lst ep) (sN K) ?_
 walk_at "rd"
 refine gN (ns.map V.int) (SqL.of ep) (by rw [LF]; omega) (fun i acc _=>acc=(Mv i true).map V.bl) (fun _ _=>rfl) ?_ ?_
 ·rintro p' hp' C s' H' fp i x acc H2 hx ⟨s2,e2,l2,rfl⟩
  obtain ⟨z,hz,rfl⟩:=E9 hx
  have ⟨b1,b2⟩:=hb z (LU hz)
  walk_at "rd"
  refine ⟨z,c,rfl,?_⟩
  rw [gB b1 (show z<=c - 1 by omega)]
  exact bu.put hp' (fun i acc H H' r k=>r) s2 e2 l2 (by rw [Pc,Ma]; rfl)
 ·rintro p' acc H2 hp' s2 e2 rfl
  walk_at "rd"
  refine ⟨p',Mv ns.length true,rfl,SqL.of (by rw [e2,LF]),?_⟩
  have ha:(Mv ns.length true).all id=true:=by simp
  rw [ha]
  exact q H2 s2
theorem kG {K:Fg} {ta tv:TE} {f:Str} {D:jL} {σ:St} {H:Hp} (h:tv σ H fun y H1=>ta σ H1 fun x H2=>∃ a C dx fs,x=.ref a/\H2 a=some (.ins C dx fs)/\Cls K C/\eL K C f/\fs.length < 1000/\D.nx σ (upd H2 a (.ins C dx (gx f y fs)))):nG K ta tv f D σ H:=h
theorem de {K:Fg} {ta:TE} {f:Str} {σ:St} {H:Hp} {Q:VK} (h:ta σ H fun x H1=>∃ a C dx fs v,x=.ref a/\H1 a=some (.ins C dx fs)/\Cls K C/\eL K C f/\fs.lookup f=some v/\Q v H1):dQ K ta f σ H Q:=h
theorem Ft {C:Addr} {sp:Sp} {dvs:List V} {E:XK} {t:TA} {σ:St} {H:Hp} {Q:VK} (h:t σ H fun vs H1=>∀ x dx,H1 x=none->H1 dx=none->dx≠x->sp (.ref x :: (vs++dvs)) (upd (upd H1 dx (.own x)) x (.ins C dx [])) (fun v H2=>v=.non/\Q (.ref x) H2) E):uA C sp dvs E t σ H Q:=h
theorem dW {C:Addr} {m:Str} {sp:Sp} {dvs:List V} {E:XK} {ta:TE} {t:TA} {σ:St} {H:Hp} {Q:VK} (h:ta σ H fun x H1=>∃ a dx fs,x=.ref a/\H1 a=some (.ins C dx fs)/\fs.lookup m=none/\t σ H1 fun vs H2=>sp (x :: (vs++dvs)) H2 Q E):dv C m sp dvs E ta t σ H Q:=h
noncomputable def Kx (x:Addr) (H H':Hp):Prop:=∀ b o,b≠x->H b=some o->H' b=some o
theorem Kx.refl (x:Addr) (H:Hp):Kx x H H:=fun _ _ _ e=>e
theorem Kx.same {x:Addr} {H H1 H2:Hp} (k:Kx x H H1) (s:ap H1 H2):Kx x H H2:=fun b o n e=>s _ _ (k b o n e)
theorem Kx.upd {x:Addr} {H H1:Hp} {u:HO} (k:Kx x H H1):Kx x H (L2.upd H1 x u):=fun b o n e=>by rw [aO n]; exact k b o n e
theorem gE {H H':Hp} {x p:Addr} {ws:List (List Nat)} {C dx:Addr} {fs:List (Str×V)} (D:bt H p ws) (hx:H x=some (.ins C dx fs)) (k:Kx x H H'):bt H' p ws:=by
 obtain ⟨rs,e,hr⟩:=D
 refine ⟨rs,k _ _ (fun z=>by rw [z,hx] at e; cases e) e,Paired.mapP hr fun a w e=>k _ _ (fun z=>by rw [z,hx] at e; cases e) e⟩
theorem jo {H:Hp} {x b:Addr} {C dx:Addr} {fs:List (Str×V)} {xs:List V} (hx:H x=some (.ins C dx fs)) (e:H b=some (.lst xs)):b≠x:=fun z=>by rw [z,hx] at e; cases e
theorem mW {R:Hp->Prop} {H:Hp} {a C dx:Addr} {fs:List (Str×V)} (h:∀ H3,Kx a H H3->H3 a=some (.ins C dx fs)->R H3):R (upd H a (.ins C dx fs)):=h _ (Kx.upd (Kx.refl _ _)) az
structure Kp (M:List Addr) (H H':Hp):Prop where
 k:∀ b o,H b=some o->(b∉M\/∀ xs,o≠.lst xs)->H' b=some o
 f:∀ b,H' b=none->H b=none
theorem Kp.of {M:List Addr} {H H':Hp} (s:ap H H'):Kp M H H':=⟨fun b o e _=>s b o e,fun b h=>s.free h⟩
theorem Kp.trans {M:List Addr} {H H1 H2:Hp} (a:Kp M H H1) (b:Kp M H1 H2):Kp M H H2:=⟨fun x o e h=>b.k x o (a.k x o e h) h,fun x h=>a.f x (b.f x h)⟩
theorem Kp.mono {M N:List Addr} {H H':Hp} (a:Kp M H H') (h:∀ b∈M,b∈N):Kp N H H':=⟨fun x o e q=>a.k x o e (q.imp (fun n m=>n (h x m)) id),a.f⟩
theorem Kp.keep {M:List Addr} {H H':Hp} (a:Kp M H H'):eD H H':=fun b xs e=>a.k b _ e (.inr fun _ z=>nomatch z)
theorem Kp.tup {M:List Addr} {H H':Hp} (a:Kp M H H') {b:Addr} {xs:List V} (e:H b=some (.tup xs)):H' b=some (.tup xs):=a.keep _ _ e
theorem Kp.ins {M:List Addr} {H H':Hp} (a:Kp M H H') {b C dx:Addr} {fs:List (Str×V)} (e:H b=some (.ins C dx fs)):H' b=some (.ins C dx fs):=a.k b _ e (.inr fun _ z=>nomatch z)
theorem Kp.lst {M:List Addr} {H H':Hp} (a:Kp M H H') {b:Addr} {o:HO} (n:b∉M) (e:H b=some o):H' b=some o:=a.k b _ e (.inl n)
theorem Kp.new {M:List Addr} {H0 H H':Hp} (s:ap H0 H) (a:Kp M H H') (h:∀ b∈M,H0 b=none):ap H0 H':=fun b o e=>a.lst (fun m=>by rw [h b m] at e; cases e) (s b o e)
theorem Kp.upd {M:List Addr} {H H':Hp} {l:Addr} {xs ys:List V} (a:Kp M H H') (e:H' l=some (.lst xs)) (hl:l∈M):Kp M H (L2.upd H' l (.lst ys)):=⟨fun b o q n=>by
 by_cases z:b=l
 ·subst z
  have:=a.k _ _ q n
  rw [e] at this
  cases this
  rcases n with n | n
  ·exact absurd hl n
  ·exact absurd rfl (n _)
 ·rw [aO z]
  exact a.k b o q n,fun b h=>by
 by_cases z:b=l
 ·subst z
  rw [az] at h
  cases h
 ·rw [aO z] at h
  exact a.f b h⟩
theorem Kp.off {M:List Addr} {H H1 H2:Hp} {l:Addr} {xs ys:List V} (a:Kp M H H1) (e:H1 l=some (.lst xs)) (hl:l∈M) (o:Off l H1 H2) (e2:H2 l=some (.lst ys)):Kp M H H2:=by
 have:H2=L2.upd H1 l (.lst ys):=by
  funext b
  by_cases z:b=l
  ·subst z; rw [az]; exact e2
  ·rw [aO z]; exact o b z
 rw [this]
 exact a.upd e hl
noncomputable def vm (M:List Addr) (H:Hp) (d:V) (m:List Nat×List V):Prop:=∃ t h v,d=.ref t/\H t=some (.tup [.ref h,.ref v])/\H h=some (.tup (av m.1))/\H v=some (.lst m.2)/\v∉M
theorem vm.kp {M N:List Addr} {H H':Hp} {d:V} {m:List Nat×List V} (h:vm M H d m) (a:Kp N H H') (hn:∀ b∈N,b∈M):vm M H' d m:=by
 obtain ⟨t,x,v,e,h1,h2,h3,h4⟩:=h
 exact ⟨t,x,v,e,a.tup h1,a.tup h2,a.lst (fun z=>h4 (hn _ z)) h3,h4⟩
noncomputable def tU (pd ps pv pe:Addr) (T:TM):List (Str×V):=[("dealt",.ref pd),("cards",.int T.c),("sizes",.ref ps),("hands",.int T.k),("views",.ref pv),("deeds",.ref pe)]
structure TbX (G:GF) (M:List Addr) (H:Hp) (x pv pe:Addr) (T:TM) (dx pd ps:Addr) (qs:List Addr) (es:List V):Prop where
 hx:H x=some (.ins G.Table dx (tU pd ps pv pe T))
 dl:bt H pd T.ws
 nd:pd∉M
 sz:H ps=some (.lst (av T.ss))
 ns:ps∉M
 vs:H pv=some (.lst (qs.map V.ref))
 qv:Paired (fun (q:Addr) (v:List Nat)=>H q=some (.lst (av v))/\q∉M) qs T.vw
 pes:H pe=some (.lst es)
 ed:Paired (vm M H) es T.ds
structure Tb (G:GF) (M:List Addr) (H:Hp) (x pv pe:Addr) (T:TM):Prop where
 ok:T.Ok
 ex:∃ dx pd ps qs es,TbX G M H x pv pe T dx pd ps qs es
 ne:pv≠pe
 mv:pv∈M
 me:pe∈M
 al:∀ b∈M,H b≠none
theorem bt.kp {M:List Addr} {H H':Hp} {p:Addr} {ws:List (List Nat)} (d:bt H p ws) (a:Kp M H H') (n:p∉M):bt H' p ws:=d.to' a.keep fun rs e=>a.lst n e
theorem Tb.kp {G:GF} {M N:List Addr} {H H':Hp} {x pv pe:Addr} {T:TM} (t:Tb G M H x pv pe T) (a:Kp N H H') (hn:∀ b∈N,b∈M) (n1:pv∉N) (n2:pe∉N):Tb G M H' x pv pe T:=by
 obtain ⟨dx,pd,ps,qs,es,X⟩:=t.ex
 exact ⟨t.ok,⟨dx,pd,ps,qs,es,a.ins X.hx,X.dl.kp a fun z=>X.nd (hn _ z),X.nd,a.lst (fun z=>X.ns (hn _ z)) X.sz,X.ns,a.lst n1 X.vs,Paired.mapP X.qv fun _ _ ⟨e,n⟩=>⟨a.lst (fun z=>n (hn _ z)) e,n⟩,a.lst n2 X.pes,Paired.mapP X.ed fun _ _ h=>h.kp a hn⟩,t.ne,t.mv,t.me,fun b hb z=>t.al b hb (a.f b z)⟩
theorem Tb.same {G:GF} {M:List Addr} {H H':Hp} {x pv pe:Addr} {T:TM} (t:Tb G M H x pv pe T) (s:ap H H'):Tb G M H' x pv pe T:=t.kp (N:=[]) (Kp.of s) (fun _ z=>nomatch z) (fun z=>nomatch z) (fun z=>nomatch z)
theorem Tb.grow {G:GF} {M N:List Addr} {H:Hp} {x pv pe:Addr} {T:TM} (t:Tb G M H x pv pe T) {H':Hp} (s:ap H H') (hn:∀ b∈N,H b=none) (ha:∀ b∈N,H' b≠none):Tb G (N++M) H' x pv pe T:=by
 obtain ⟨dx,pd,ps,qs,es,X⟩:=t.ex
 have go:∀ {b:Addr} {o:HO},H b=some o->b∉M->b∉N++M:=fun e n z=>by
  rcases Mm.mp z with z | z
  ·rw [hn _ z] at e; cases e
  ·exact n z
 have hd:pd∉N++M:=by
  obtain ⟨rs,e,_⟩:=X.dl
  exact go e X.nd
 exact ⟨t.ok,⟨dx,pd,ps,qs,es,s _ _ X.hx,X.dl.same' s,hd,s _ _ X.sz,go X.sz X.ns,s _ _ X.vs,Paired.mapP X.qv fun _ _ ⟨e,n⟩=>⟨s _ _ e,go e n⟩,s _ _ X.pes,Paired.mapP X.ed fun _ _ ⟨t,h,v,e,h1,h2,h3,h4⟩=>⟨t,h,v,e,s _ _ h1,s _ _ h2,s _ _ h3,go h3 h4⟩⟩,t.ne,MA _ t.mv,MA _ t.me,fun b hb=>by
  rcases Mm.mp hb with z | z
  ·exact ha b z
  ·intro y
   exact t.al b z (s.free y)⟩
theorem Tb.off {G:GF} {M:List Addr} {H:Hp} {x pv pe:Addr} {T:TM} (t:Tb G M H x pv pe T) {p:Addr} (h:H p=none):p∉M:=fun z=>t.al p z h
theorem Tb.at {G:GF} {M:List Addr} {H:Hp} {x pv pe:Addr} {T:TM} (t:Tb G M H x pv pe T) (m:Str) (h1:(m == "dealt")=false) (h2:(m == "cards")=false) (h3:(m == "sizes")=false) (h4:(m == "hands")=false) (h5:(m == "views")=false) (h6:(m == "deeds")=false):∃ dx fs,H x=some (.ins G.Table dx fs)/\fs.lookup m=none:=by
 obtain ⟨dx,pd,ps,qs,es,X⟩:=t.ex
 refine ⟨dx,_,X.hx,?_⟩
 simp only [tU,OZ,h1,h2,h3,h4,h5,h6]
noncomputable def dz (_:Fg) (G:GF):Sp:=fun vs H Q _=>∃ (M:List Addr) (x dx a:Addr) (c:Nat) (ss:List Nat),vs=[.ref x,.int c,.ref a]/\H x=some (.ins G.Table dx [])/\H a=some (.lst (av ss))/\kM c ss/\KM.ck c ss<=2000/\(∀ b∈M,H b≠none)/\x∉M/\
 ∀ (H':Hp) (pv pe:Addr),Kx x H H'->H pv=none->H pe=none->Tb G (pv :: pe :: M) H' x pv pe (TM.begun c ss)->Q .non H'
noncomputable def jp (K:Fg) (G:GF):TS:=(ar (nG K (ab 0) (au (j6 K) [] E0 (aa (ab 1) (aa (ab 2) af))) "dealt")
 (ar (nG K (ab 0) (ab 1) "cards")
 (ar (nG K (ab 0) (tCB (jd K) (aa (ab 2) af)) "sizes")
 (ar (nG K (ab 0) (tCB (gi K) (aa (ab 2) af)) "hands")
 (ar (nG K (ab 0) (bZ (ff (aa (dQ K (ab 0) "hands") af)) (fun _ _ _ _=>(am 0)) (fun _ _ _ _=>bK) (fun _ _ _ _=>(au (kN K) [] E0 (aa (dQ K (ab 1) "dealt") (aa (ab 0) af)))) [none,some 0]) "views")
 (nG K (ab 0) (fv af) "deeds"))))))
noncomputable abbrev Ar:List Str:=["self","cards","sizes"]
theorem Kt {α β:Type} {F:α->β->Prop} {l:List α} {m:List β} {a:α} {b:β} (h:Paired F l m) (q:F a b):Paired F (l++[a]) (m++[b]):=by
 induction h with
 | nil=>exact .cons q .nil
 | cons x _ ih=>exact .cons x ih
theorem As {R:Addr->List Nat->Prop}:∀ {acc:List V} {f:Nat->List Nat},(∀ j:Nat,j < acc.length->∃ q,acc[j]?=some (.ref q)/\R q (f j))->∃ qs:List Addr,acc=qs.map V.ref/\Paired R qs ((LO acc.length).map f)
 | [],_,_=>⟨[],rfl,.nil⟩
 | x :: acc,f,h=>by
  obtain ⟨qs,e,p⟩:=As (acc:=acc) (f:=fun j=>f (j + 1)) fun j hj=>by
   obtain ⟨q,h1,h2⟩:=h (j + 1) (by rw [Mh]; omega)
   exact ⟨q,by simpa using h1,h2⟩
  obtain ⟨q,h1,h2⟩:=h 0 (by simp)
  refine ⟨q :: qs,by rw [LZ,<-e]; exact congrArg (· :: acc) (by simpa using h1),?_⟩
  rw [Mh,R3,LZ,Oq]
  exact .cons h2 p
theorem ye {K:Fg} {G:GF} (ct:pL K G.Table) {vs:List V} {H:Hp} {Q:VK} {E:XK} (h:dz K G vs H Q E):jp K G { nx:=fun _ H'=>Q .non H',rt:=Q } (start Ar vs) H:=by
 obtain ⟨M,x,dx,a,c,ss,rfl,hx,e,pk,hm,hM,hxM,q⟩:=h
 have nk:∀ {H1:Hp} {b:Addr} {fs:List (Str×V)},Kx x H H1->H1 x=some (.ins G.Table dx fs)->H1 b=none->H b=none:=fun {H1 b fs} kk ex eb=>by
  cases e:H b with
  | none=>rfl
  | some o=>
   by_cases z:b=x
   ·rw [z,ex] at eb; cases eb
   ·rw [kk _ _ z e] at eb; cases eb
 have h5:=pk.l5
 have nxa:a≠x:=fun z=>by rw [z,hx] at e; cases e
 show jp K G _ [some _,some _,some _] _
 unfold jp
 refine bg (kG ?_)
 walk_at "rd"
 refine ⟨c,a,ss,rfl,e,pk,hm,fun p H1 s1 hp D1=>?_⟩
 have okT:=TM.Ok.begun pk hm
 have hws:∀ w∈KM.cB (ss++[c - ss.sum]) c,w.length<=1000:=fun w hw=>by
  have:=(KM.iq _ c w hw).len
  have:=pk.c12
  omega
 have hwl:(KM.cB (ss++[c - ss.sum]) c).length<=2000:=by rw [KM.nK pk.sum]; exact hm
 obtain ⟨ws,hWs⟩:∃ ws,ws=KM.cB (ss++[c - ss.sum]) c:=⟨_,rfl⟩
 rw [<-hWs] at hws hwl D1
 walk_at "rd"
 refine ⟨x,G.Table,dx,[],rfl,s1 _ _ hx,ct.cl,ct.n1,by simp,mW fun H2 l2 x2=>?_⟩
 have k2:Kx x H H2:=fun b o n e=>l2 _ _ n (s1 _ _ e)
 have D2:=gE D1 (s1 _ _ hx) l2
 refine bg (kG ?_)
 walk_at "rd"
 refine ⟨x,G.Table,dx,_,rfl,x2,ct.cl,ct.n2,N7 rfl,mW fun H3 l3 x3=>?_⟩
 have k3:Kx x H H3:=fun b o n e=>l3 _ _ n (k2 _ _ n e)
 have D3:=gE D2 x2 l3
 refine bg (kG ?_)
 walk_at "rd"
 refine lR (SqL.of (k3 _ _ nxa e)) fun l4 H4 hl4 s4 e4=>?_
 have nxl:l4≠x:=jo (s4 _ _ x3) e4
 walk_at "rd"
 refine ⟨x,G.Table,dx,_,rfl,s4 _ _ x3,ct.cl,ct.n3,N7 rfl,mW fun H5 l5 x5=>?_⟩
 have k5:Kx x H H5:=fun b o n e=>l5 _ _ n (s4 _ _ (k3 _ _ n e))
 have D5:=gE (D3.same' s4) (s4 _ _ x3) l5
 have a5:=k5 _ _ nxa e
 refine bg (kG ?_)
 walk_at "rd"
 rw [bj]
 refine ⟨x,G.Table,dx,_,rfl,x5,ct.cl,ct.n4,N7 rfl,mW fun H6 l6 x6=>?_⟩
 have k6:Kx x H H6:=fun b o n e=>l6 _ _ n (k5 _ _ n e)
 have D6:=gE D5 x5 l6
 have e46:H6 l4=some (.lst (av ss)):=l6 _ _ nxl (l5 _ _ nxl e4)
 refine bg (kG ?_)
 walk_at "rd"
 refine de ?_
 walk_at "rd"
 refine ⟨x,G.Table,dx,_,_,rfl,x6,ct.cl,ct.n4,rfl,?_⟩
 walk_at "rd"
 refine xN ss.length (by omega) (by omega) (by omega) (fun p' i acc H2=>acc.length=i/\∀ j:Nat,j < i->∃ q,acc[j]?=some (.ref q)/\(q≠p'/\q∉M)/\H2 q=some (.lst (av (lX ws (j:Int))))) (fun _ _ _=>⟨rfl,fun j hj=>absurd hj (Qq _)⟩) ?_ ?_
 ·intro p' hp' C s' H' fp i acc H7 hi ⟨s7,e7,l7,r7⟩
  walk_at "rd"
  refine de ?_
  walk_at "rd"
  refine ⟨x,G.Table,dx,_,_,rfl,s7 _ _ x6,ct.cl,ct.n1,rfl,?_⟩
  walk_at "rd"
  refine ⟨p,ws,(i:Int),rfl,D6.same' s7,hws,by omega,fun q8 H8 hq8 s8 e8=>?_⟩
  obtain ⟨r1,r2⟩:=r7
  refine bu.putW hp' (s7.trans s8) (s8 _ _ e7) l7 fun H9 o9=>⟨by rw [LY,r1]; rfl,fun j hj=>?_⟩
  by_cases hj2:j < i
  ·obtain ⟨q,h1,h2,h3⟩:=r2 j hj2
   exact ⟨q,by rw [OF (by omega)]; exact h1,h2,(o9 _ h2.1).trans (s8 _ _ h3)⟩
  ·have ej:j=i:=by omega
   subst ej
   have hqp:q8≠p':=fun z=>by rw [z,e7] at hq8; cases hq8
   exact ⟨q8,by rw [Pe (by omega),r1,RA]; rfl,⟨hqp,fun z=>hM _ z (nk (k6.same s7) (s7 _ _ x6) hq8)⟩,(o9 _ hqp).trans e8⟩
 ·intro pv acc H7 hpv s7 e7 ⟨r1,r2⟩
  walk_at "rd"
  refine ⟨x,G.Table,dx,_,rfl,s7 _ _ x6,ct.cl,ct.n5,N7 rfl,mW fun H8 kk x8=>?_⟩
  have k8:Kx x H H8:=fun b o n e=>kk _ _ n (s7 _ _ (k6 _ _ n e))
  have D8:=gE (D6.same' s7) (s7 _ _ x6) kk
  have v8:=kk _ _ (jo (s7 _ _ x6) e7) e7
  refine kG ?_
  walk_at "rd"
  refine ⟨by simp [LI],fun pe H9 hpe s9 e9=>?_⟩
  walk_at "rd"
  refine ⟨x,G.Table,dx,_,rfl,s9 _ _ x8,ct.cl,ct.n6,N7 rfl,mW fun HA kz xA=>?_⟩
  have kA:Kx x H HA:=fun b o n e=>kz _ _ n (s9 _ _ (k8 _ _ n e))
  have gv:=nk k6 x6 hpv
  have ge:=nk k8 x8 hpe
  have npv:pv≠pe:=aS v8 hpe
  have npd:p∉pv :: pe :: M:=fun z=>by
   obtain ⟨rs6,er6,_⟩:=id D6
   rcases LA.mp z with z | z
   ·rw [z] at er6; rw [er6] at hpv; cases hpv
   ·rcases LA.mp z with z | z
    ·obtain ⟨rs8,er8,_⟩:=id D8
     rw [z] at er8; rw [er8] at hpe; cases hpe
    ·exact hM _ z hp
  have e48:=kk _ _ nxl (s7 _ _ e46)
  have nps:l4∉pv :: pe :: M:=fun z=>by
   rcases LA.mp z with z | z
   ·rw [z] at e46; rw [e46] at hpv; cases hpv
   ·rcases LA.mp z with z | z
    ·rw [z] at e48; rw [e48] at hpe; cases hpe
    ·exact hM _ z (nk k3 x3 hl4)
  have rr:=As (R:=fun q v=>(q≠pv/\q∉M)/\H8 q=some (.lst (av v))) (f:=fun j=>lX ws ((j:Nat):Int)) (fun j hj=>by
   obtain ⟨q,h1,h2,h3⟩:=r2 j (by rw [<-r1]; exact hj)
   exact ⟨q,h1,h2,kk _ _ (jo (s7 _ _ x6) h3) h3⟩)
  rw [r1] at rr
  obtain ⟨qs,rfl,hqs⟩:=rr
  have up:∀ {b:Addr} {xs:List V},H8 b=some (.lst xs)->HA b=some (.lst xs):=fun e=>kz _ _ (jo (s9 _ _ x8) (s9 _ _ e)) (s9 _ _ e)
  have pe9:=kz _ _ (jo (s9 _ _ x8) e9) e9
  refine q HA pv pe kA gv ge ⟨okT,⟨dx,p,l4,qs,[],xA,?_,npd,up e48,nps,up v8,?_,pe9,.nil⟩,npv,LG,LJ _ LG,fun b hb y=>?_⟩
  ·show bt _ p (KM.cB (ss++[c - ss.sum]) c)
   rw [<-hWs]
   exact gE (D8.same' s9) (s9 _ _ x8) kz
  ·show Paired _ qs ((LO ss.length).map fun i=>lX (KM.cB (ss++[c - ss.sum]) c) ((i:Nat):Int))
   rw [<-hWs]
   refine Paired.mapP hqs fun a' v ⟨h2,h3⟩=>⟨up h3,fun z=>?_⟩
   rcases LA.mp z with z | z
   ·exact h2.1 z
   ·rcases LA.mp z with z | z
    ·rw [z] at h3; rw [h3] at hpe; cases hpe
    ·exact h2.2 z
  ·rcases LA.mp hb with z | z
   ·rw [z,up v8] at y; cases y
   ·rcases LA.mp z with z | z
    ·rw [z,pe9] at y; cases y
    ·cases eb:H b with
     | none=>exact hM b z eb
     | some o=>rw [kA b o (fun w=>hxM (w ▸ z)) eb] at y; cases y
end
section
open KF
noncomputable def jT (_:Fg) (G:GF):Sp:=fun vs H Q _=>∃ (M:List Addr) (x pv pe:Addr) (T:TM),vs=[.ref x]/\Tb G M H x pv pe T/\∀ (p:Addr) (H':Hp),H p=none->ap H H'->bt H' p T.ws->Q (.ref p) H'
noncomputable def iB (K:Fg) (G:GF):TS:=(aI (tCB (jd K) (aa (dQ K (ab 0) "dealt") af)))
noncomputable abbrev yf:List Str:=["self"]
theorem wI {K:Fg} {G:GF} (ct:pL K G.Table) {vs:List V} {H:Hp} {Q:VK} {E:XK} (h:jT K G vs H Q E):iB K G { nx:=fun _ H'=>Q .non H',rt:=Q } (start yf vs) H:=by
 obtain ⟨M,x,pv,pe,T,rfl,t,q⟩:=h
 obtain ⟨dx,pd,ps,qs,es,X⟩:=t.ex
 show iB K G _ [some _] _
 unfold iB
 walk_at "rd"
 refine de ?_
 walk_at "rd"
 refine ⟨x,G.Table,dx,_,_,rfl,X.hx,ct.cl,ct.n1,rfl,?_⟩
 walk_at "rd"
 obtain ⟨rs,er,hr⟩:=X.dl
 refine lR (SqL.of er) fun p H1 hp s1 e1=>?_
 exact q p H1 hp s1 ⟨rs,e1,Paired.mapP hr fun a w e=>s1 _ _ e⟩
theorem TbX.view {G:GF} {M:List Addr} {H:Hp} {x pv pe:Addr} {T:TM} {dx pd ps:Addr} {qs:List Addr} {es:List V} (X:TbX G M H x pv pe T dx pd ps qs es) {i:Nat} (hi:i < T.vw.length):∃ qi,qs[i]?=some qi/\H qi=some (.lst (av (T.vw.getD i [])))/\qi∉M:=by
 have lq:qs.length=T.vw.length:=MN X.qv
 have hq:qs[i]?=some (qs[i]'(by omega)):=Lz _
 obtain ⟨v,hv,h1,h2⟩:=bQ X.qv hq
 exact ⟨_,hq,by rw [lG hv]; exact h1,h2⟩
noncomputable def kR (_:Fg) (G:GF):Sp:=fun vs H Q _=>∃ (M:List Addr) (x pv pe:Addr) (T:TM) (i:Nat),vs=[.ref x,.int i]/\Tb G M H x pv pe T/\i < T.k/\∀ (p:Addr) (H':Hp),H p=none->ap H H'->H' p=some (.lst (av (T.vw.getD i [])))->Q (.ref p) H'
noncomputable def jq (K:Fg) (G:GF):TS:=(ar (dG (au (cq K) [] E0 (aa (au (db K) [] E0 (aa (ab 1) (aa (dQ K (ab 0) "hands") af))) (aa (tC (.str "this is no hand")) af))))
 (aI (tCB (jd K) (aa (tOp (dR K) (dQ K (ab 0) "views") (ab 1)) af))))
noncomputable abbrev At:List Str:=["self","hand"]
theorem yg {K:Fg} {G:GF} (ct:pL K G.Table) {vs:List V} {H:Hp} {Q:VK} {E:XK} (h:kR K G vs H Q E):jq K G { nx:=fun _ H'=>Q .non H',rt:=Q } (start At vs) H:=by
 obtain ⟨M,x,pv,pe,T,i,rfl,t,hi,q⟩:=h
 obtain ⟨dx,pd,ps,qs,es,X⟩:=t.ex
 show jq K G _ [some _,some _] _
 unfold jq
 walk_at "rd"
 refine de ?_
 walk_at "rd"
 refine ⟨x,G.Table,dx,_,_,rfl,X.hx,ct.cl,ct.n4,rfl,?_⟩
 walk_at "rd"
 refine ⟨(i:Int),(T.k:Int),rfl,?_⟩
 rw [gB (by omega) (by omega)]
 walk_at "rd"
 refine ⟨_,rfl,?_⟩
 walk_at "rd"
 refine de ?_
 walk_at "rd"
 refine ⟨x,G.Table,dx,_,_,rfl,X.hx,ct.cl,ct.n5,rfl,?_⟩
 walk_at "rd"
 obtain ⟨qi,hq,h2,_⟩:=X.view (i:=i) (by rw [t.ok.len]; exact hi)
 refine cO (SqL.of X.vs) (fk (v:=.ref qi) (by rw [LS,hq]; rfl)) ?_
 walk_at "rd"
 refine lR (SqL.of h2) fun p H1 hp s1 e1=>?_
 exact q p H1 hp s1 e1
noncomputable def Tld (G:GF) (M:List Addr) (H:Hp) (x pv pe:Addr) (T:TM) (ys:List V) (Q:VK):Prop:=∀ p Hm H',Kp [pv,pe] H Hm->Tb G M Hm x pv pe T->Hm p=none->ap Hm H'->H' p=some (.lst ys)->Q (.ref p) H'
theorem Ku {G:GF} {M:List Addr} {H:Hp} {x pv pe:Addr} {T:TM} {ys:List V} {Q:VK} (h:∀ p H',H p=none->Kp [pv,pe] H H'->H' p=some (.lst ys)->Tb G M H' x pv pe T->Q (.ref p) H'):Tld G M H x pv pe T ys Q:=fun p _ H' k t hp s e=>h p H' (k.f _ hp) (k.trans (Kp.of s)) e (t.same s)
noncomputable def gX (_:Fg) (G:GF):Sp:=fun vs H Q _=>∃ (M:List Addr) (x pv pe tp vp:Addr) (T:TM) (g:List Nat) (as:List IA) (ys:List V),vs=[.ref x,.ref tp,.ref vp]/\Tb G M H x pv pe T/\H tp=some (.tup (av g))/\(∀ h∈g,h < T.k)/\H vp=some (.lst ys)/\vp∉M/\ys.map iaV=as.map some/\as.length=T.n/\T.ds.length < 1000/\
 Tld G M H x pv pe (T.learn g as ys) ys Q
noncomputable def iC (K:Fg) (G:GF):TS:=(ar (cS (wn K (ab 1)) (am 3) (aE (au (tR K) [] E0 (aa (tOp (dR K) (dQ K (ab 0) "views") (ab 3)) (aa (ab 2) af))) (qA (dQ K (ab 0) "views") (ab 3) mM)))
 (ar (dG (tBM K "list" iY (dQ K (ab 0) "deeds") (aa (bz (aa (ab 1) (aa (ab 2) af))) af)))
 (aI (tCB (jd K) (aa (ab 2) af)))))
noncomputable abbrev yh:List Str:=["self","hands","values","hand"]
theorem Lb {n j:Nat} (h:j < n):ixN n (j:Int)=some j:=by
 unfold ixN
 rw [if_pos (by omega),if_pos (by omega)]
 simp
theorem C3 {α β:Type} {F:α->β->Prop} {l:List α} {m:List β} (h:Paired F l m) {a:α} {b:β} (r:F a b):∀ i:Nat,Paired F (l.set i a) (m.set i b):=by
 induction h with
 | nil=>exact fun i=>.nil
 | cons r' t ih=>
  intro i
  cases i with
  | zero=>exact .cons r t
  | succ i=>exact .cons r' (ih i)
theorem wJ {K:Fg} {G:GF} (ct:pL K G.Table) {vs:List V} {H:Hp} {Q:VK} {E:XK} (h:gX K G vs H Q E):iC K G { nx:=fun _ H'=>Q .non H',rt:=Q } (start yh vs) H:=by
 obtain ⟨M,x,pv,pe,tp,vp,T,g,as,ys,rfl,t,et,hg,evp,nvp,hia,hla,hds,q⟩:=h
 obtain ⟨dx,pd,ps,qs,es,X⟩:=t.ex
 have n2:=t.ok.n2
 show iC K G _ [some _,some _,some _,none] _
 unfold iC
 walk_at "rd"
 have me1:pv∈[pv,pe]:=LG
 have me2:pe∈[pv,pe]:=LJ _ LG
 have sub:∀ b∈[pv,pe],b∈M:=fun b hb=>by
  rcases LA.mp hb with z | z
  ·rw [z]; exact t.mv
  ·rw [LB.mp z]; exact t.me
 have nvp':vp∉[pv,pe]:=fun z=>nvp (sub _ z)
 refine zH (av g) (SqT.of et) (fun j σ' H2=>∃ (u:Option V) (qs2:List Addr),σ'=[some (.ref x),some (.ref tp),some (.ref vp),u]/\Kp [pv] H H2/\H2 pv=some (.lst (qs2.map V.ref))/\Paired (fun (q:Addr) (v:List Nat)=>H2 q=some (.lst (av v))/\q∉M) qs2 (lrn T.vw (g.take j) as)) ⟨none,qs,rfl,Kp.of (ap.refl _),X.vs,X.qv⟩ ?_ ?_ ?_
 ·rintro j σ' H2 hj ⟨u,qs2,rfl,k2,_⟩
  exact SqT.of (k2.tup et)
 ·rintro j y σ' H2 hy ⟨u,qs2,rfl,k2,e2,p2⟩
  obtain ⟨hd,hh,rfl⟩:=i6 hy
  have hk:=hg hd (LU hh)
  have hx2:=k2.ins X.hx
  have lq:qs2.length=T.vw.length:=by rw [MN p2,wE]
  have hdl:hd < qs2.length:=by rw [lq,t.ok.len]; exact hk
  have hq:qs2[hd]?=some (qs2[hd]'hdl):=Lz _
  generalize qs2[hd]'hdl=qi at hq
  obtain ⟨v,hv,h1,h2⟩:=bQ p2 hq
  have hvw:Within T.n v:=r9 (P:=Within T.n) (fun v hv=>lY hv hla) (g.take j) T.vw (fun h hh=>by rw [t.ok.len]; exact hg h (SC hh)) t.ok.win v (LU hv)
  walk_at "rd"
  refine de ?_
  walk_at "rd"
  refine ⟨x,G.Table,dx,_,_,rfl,hx2,ct.cl,ct.n5,rfl,?_⟩
  walk_at "rd"
  refine cO (SqL.of e2) (fk (v:=.ref qi) (by rw [LS,hq]; rfl)) ?_
  walk_at "rd"
  refine ⟨qi,vp,v,ys,as,rfl,h1,k2.lst (fun z=>nvp' (by rw [LB.mp z]; exact me1)) evp,hia,by rw [hvw.1,hla],by rw [hvw.1]; omega,fun q' H3 hq' s3 e3=>?_⟩
  walk_at "rd"
  refine de ?_
  walk_at "rd"
  refine ⟨x,G.Table,dx,_,_,rfl,s3 _ _ hx2,ct.cl,ct.n5,rfl,?_⟩
  walk_at "rd"
  refine qK (s3 _ _ e2) (Lb (by rw [LF]; exact hdl)) ?_
  have nq:q'≠pv:=(aS e2 hq').symm
  have nqM:q'∉M:=fun z=>t.al _ z (k2.f _ hq')
  refine ⟨_,qs2.set hd q',rfl,(k2.trans (Kp.of s3)).upd (s3 _ _ e2) (LB.mpr rfl),by rw [az,List.map_set],?_⟩
  rw [cK hh,GK,lG hv]
  refine C3 (Paired.mapP p2 fun a w ⟨z1,z2⟩=>⟨?_,z2⟩) ⟨by rw [aO nq]; exact e3,nqM⟩ hd
  rw [aO (show a≠pv from fun z=>z2 (by rw [z]; exact t.mv))]
  exact s3 _ _ z1
 ·rintro σ' H2 ⟨u,qs2,rfl,k2,e2,p2⟩
  rw [bj,Mw] at p2
  have hx2:=k2.ins X.hx
  have ee2:=k2.lst (fun z=>t.ne (LB.mp z).symm) X.pes
  walk_at "rd"
  refine de ?_
  walk_at "rd"
  refine ⟨x,G.Table,dx,_,_,rfl,hx2,ct.cl,ct.n6,rfl,?_⟩
  refine ⟨.inl ⟨rfl,_,SqL.of ee2⟩,?_⟩
  walk_at "rd"
  refine ⟨by simp [LI],fun p3 H3 hp3 s3 e3=>?_⟩
  walk_at "rd"
  have les:es.length=T.ds.length:=MN X.ed
  refine lQ (s3 _ _ ee2) (by rw [LI]; omega) fun H4 o4 e4=>?_
  have k4:Kp [pv,pe] H H4:=((k2.mono fun b hb=>by rw [LB.mp hb]; exact me1).trans (Kp.of s3)).off (s3 _ _ ee2) me2 o4 e4
  walk_at "rd"
  refine lR (SqL.of (k4.lst nvp' evp)) fun p5 H5 hp5 s5 e5=>?_
  have keep4:∀ {b:Addr} {o:HO},b≠pe->H2 b=some o->H4 b=some o:=fun nb e=>(o4 _ nb).trans (s3 _ _ e)
  refine q p5 H4 H5 k4 ⟨t.ok.learn hg hla,⟨dx,pd,ps,qs2,es++[.ref p3],k4.ins X.hx,X.dl.kp k4 fun z=>X.nd (sub _ z),X.nd,k4.lst (fun z=>X.ns (sub _ z)) X.sz,X.ns,keep4 t.ne e2,Paired.mapP p2 fun a w ⟨z1,z2⟩=>⟨keep4 (show a≠pe from fun z=>z2 (by rw [z]; exact t.me)) z1,z2⟩,e4,?_⟩,t.ne,t.mv,t.me,fun b hb z=>t.al b hb (k4.f b z)⟩ hp5 s5 e5
  refine Kt (Paired.mapP X.ed fun _ _ h=>h.kp k4 sub) ⟨p3,tp,vp,rfl,?_,k4.tup et,k4.lst nvp' evp,nvp⟩
  exact (o4 _ (fun z=>by rw [z] at hp3; rw [ee2] at hp3; cases hp3)).trans e3
noncomputable def b9 (_:Fg) (G:GF):Sp:=fun vs H Q _=>∃ (M:List Addr) (x pv pe:Addr) (T:TM) (v:V) (s:Sy),vs=[.ref x,v]/\Tb G M H x pv pe T/\aK H v s/\s.Ok T.c T.k/\s.words<=30/\
 ∀ p H',H p=none->ap H H'->H' p=some (.lst (blV T.n (T.tr s)))->Q (.ref p) H'
noncomputable def gY (K:Fg) (G:GF):TS:=(ar (bB (eU (tB (au (lZ K) [] E0 (aa (dQ K (ab 0) "cards") (aa (dQ K (ab 0) "hands") (aa (ab 1) af)))))) qz bh)
 (aI (au (bW K 35) [] E0 (aa (dQ K (ab 0) "dealt") (aa (dQ K (ab 0) "views") (aa (ab 1) af))))))
noncomputable abbrev wK:List Str:=["self","S"]
theorem Tb.tab {G:GF} {M:List Addr} {H:Hp} {x pv pe:Addr} {T:TM} {dx pd ps:Addr} {qs:List Addr} {es:List V} (ok:T.Ok) (X:TbX G M H x pv pe T dx pd ps qs es):Table H pd pv T.c T.n T.ws T.vw:=
 ⟨X.dl,rfl,ok.cards,by have:=ok.n2; omega,by have:=ok.pk.c12; omega,⟨qs,X.vs,Paired.mapP X.qv fun _ _ h=>h.1⟩,ok.win,by rw [ok.len]; have:=ok.pk.l5; show T.ss.length<=1000; omega⟩
theorem vn {K:Fg} {G:GF} (ct:pL K G.Table) {vs:List V} {H:Hp} {Q:VK} {E:XK} (h:b9 K G vs H Q E):gY K G { nx:=fun _ H'=>Q .non H',rt:=Q } (start wK vs) H:=by
 obtain ⟨M,x,pv,pe,T,v,s,rfl,t,hS,hok,hw,q⟩:=h
 obtain ⟨dx,pd,ps,qs,es,X⟩:=t.ex
 show gY K G _ [some _,some _] _
 unfold gY
 walk_at "rd"
 refine de ?_
 walk_at "rd"
 refine ⟨x,G.Table,dx,_,_,rfl,X.hx,ct.cl,ct.n2,rfl,?_⟩
 walk_at "rd"
 refine de ?_
 walk_at "rd"
 refine ⟨x,G.Table,dx,_,_,rfl,X.hx,ct.cl,ct.n4,rfl,?_⟩
 walk_at "rd"
 refine ⟨T.c,T.k,v,s,rfl,hS,hok,hw,fun H1 s1=>?_⟩
 have x1:=s1 _ _ X.hx
 walk_at "rd"
 refine de ?_
 walk_at "rd"
 refine ⟨x,G.Table,dx,_,_,rfl,x1,ct.cl,ct.n1,rfl,?_⟩
 walk_at "rd"
 refine de ?_
 walk_at "rd"
 refine ⟨x,G.Table,dx,_,_,rfl,x1,ct.cl,ct.n5,rfl,?_⟩
 walk_at "rd"
 refine ⟨pd,pv,v,T.c,T.n,T.ws,T.vw,s,rfl,(Tb.tab t.ok X).same s1,hS.keep s1.keep,by rw [t.ok.len]; exact hok,by omega,fun p H2 hp2 s2 e2=>?_⟩
 walk_at "rd"
 exact q p H2 (s1.free hp2) (s1.trans s2) e2
noncomputable def iD (_:Fg) (G:GF):Sp:=fun vs H Q _=>∃ (M:List Addr) (x pv pe tp:Addr) (T:TM) (g:List Nat) (v:V) (s:Sy),vs=[.ref x,.ref tp,v]/\Tb G M H x pv pe T/\H tp=some (.tup (av g))/\g.Pairwise (· < ·)/\(∀ h∈g,h < T.k)/\aK H v s/\s.Ok T.c T.k/\s.words<=30/\T.ds.length < 1000/\
 Tld G M H x pv pe (T.word g s) (blV T.n (T.tr s)) Q
noncomputable def jr (K:Fg) (G:GF):TS:=(ar (dG (au (cq K) [] E0 (aa (au (ji K) [] E0 (aa (ab 1) (aa (dQ K (ab 0) "hands") af))) (aa (tC (.str "this is no tuple of hands")) af))))
 (aI (dv G.Table "learn" (gX K G) [] E0 (ab 0) (aa (ab 1) (aa (dv G.Table "truths" (b9 K G) [] E0 (ab 0) (aa (ab 2) af)) af)))))
noncomputable abbrev Au:List Str:=["self","hands","S"]
theorem yi {K:Fg} {G:GF} (ct:pL K G.Table) {vs:List V} {H:Hp} {Q:VK} {E:XK} (h:iD K G vs H Q E):jr K G { nx:=fun _ H'=>Q .non H',rt:=Q } (start Au vs) H:=by
 obtain ⟨M,x,pv,pe,tp,T,g,v,s,rfl,t,et,pw,hg,hS,hok,hw,hds,q⟩:=h
 obtain ⟨dx,pd,ps,qs,es,X⟩:=t.ex
 show jr K G _ [some _,some _,some _] _
 unfold jr
 walk_at "rd"
 refine de ?_
 walk_at "rd"
 refine ⟨x,G.Table,dx,_,_,rfl,X.hx,ct.cl,ct.n4,rfl,?_⟩
 walk_at "rd"
 refine ⟨tp,g,T.k,rfl,et,pw,hg,?_⟩
 walk_at "rd"
 refine ⟨_,rfl,?_⟩
 walk_at "rd"
 obtain ⟨dx1,fs1,hx1,hl1⟩:=t.at "learn" (by decide +kernel) (by decide +kernel) (by decide +kernel) (by decide +kernel) (by decide +kernel) (by decide +kernel)
 refine dW ?_
 walk_at "rd"
 refine ⟨x,dx1,fs1,rfl,hx1,hl1,?_⟩
 walk_at "rd"
 obtain ⟨dx2,fs2,hx2,hl2⟩:=t.at "truths" (by decide +kernel) (by decide +kernel) (by decide +kernel) (by decide +kernel) (by decide +kernel) (by decide +kernel)
 refine dW ?_
 walk_at "rd"
 refine ⟨x,dx2,fs2,rfl,hx2,hl2,?_⟩
 walk_at "rd"
 refine ⟨M,x,pv,pe,T,v,s,rfl,t,hS,hok,hw,fun p1 H1 hp1 s1 e1=>?_⟩
 walk_at "rd"
 refine ⟨M,x,pv,pe,tp,p1,T,g,_,_,rfl,t.same s1,s1 _ _ et,hg,e1,t.off hp1,Kq _ _,i7 _ _,hds,fun p2 Hm H2 k2 t2 hp2 s2 e2=>?_⟩
 walk_at "rd"
 exact q p2 Hm H2 ((Kp.of s1).trans k2) t2 hp2 s2 e2
noncomputable def vo (w:List Nat) (h:Int) (ns:List Int):IA:=(ns.filter fun c=>decide (wAt w c=h)).min?
theorem Fu (w:List Nat) (h:Int) (ns:List Int):kF w h ns (vo w h ns):=by
 unfold vo
 cases e:(ns.filter fun c=>decide (wAt w c=h)).min? with
 | none=>
  rw [List.min?_eq_none_iff] at e
  refine .inl ⟨rfl,fun c hc z=>?_⟩
  have:c∈ns.filter fun c=>decide (wAt w c=h):=N9.mpr ⟨hc,decide_eq_true z⟩
  rw [e] at this
  cases this
 | some m=>
  rw [List.min?_eq_some_iff] at e
  obtain ⟨h1,h2⟩:=e
  obtain ⟨h3,h4⟩:=N9.mp h1
  exact .inr ⟨m,rfl,h3,of_decide_eq_true h4,fun d hd z=>h2 d (N9.mpr ⟨hd,decide_eq_true z⟩)⟩
noncomputable def fS (ws:List (List Nat)) (h:Int) (ns:List Int):List IA:=ws.map fun w=>vo w h ns
noncomputable def TM.show (T:TM) (i:Nat) (h:Int) (ns:List Int):TM:=T.learn [i] (fS T.ws h ns) ((fS T.ws h ns).map iaR)
noncomputable def kS (_:Fg) (G:GF):Sp:=fun vs H Q _=>∃ (M:List Addr) (x pv pe l:Addr) (T:TM) (i:Nat) (h:Int) (ns:List Int),vs=[.ref x,.int i,.int h,.ref l]/\Tb G M H x pv pe T/\H l=some (.lst (ns.map V.int))/\i < T.k/\0<=h/\h<=T.k/\ns.length < 64/\(∀ n∈ns,0<=n/\n < T.c)/\T.ds.length < 1000/\
 Tld G M H x pv pe (T.show i h ns) ((fS T.ws h ns).map iaR) Q
noncomputable def js (K:Fg) (G:GF):TS:=(ar (dG (au (cq K) [] E0 (aa (au (db K) [] E0 (aa (ab 1) (aa (dQ K (ab 0) "hands") af))) (aa (tC (.str "this is no hand")) af))))
 (ar (dG (au (cq K) [] E0 (aa (au (db K) [] E0 (aa (ab 2) (aa (tOp (rI0 fun i j=>.int (i + j)) (dQ K (ab 0) "hands") (tC (.int 1))) af))) (aa (tC (.str "this is no holder")) af))))
 (ar (dG (au (cq K) [] E0 (aa (au (ma K) [] E0 (aa (ab 3) (aa (dQ K (ab 0) "cards") af))) (aa (tC (.str "this is no list of cards")) af))))
 (ar (aE (tS K (aa (ab 3) af)) (am 4))
 (aI (dv G.Table "learn" (gX K G) [] E0 (ab 0) (aa (bz (aa (ab 1) af)) (aa (bZ (du K (dQ K (ab 0) "dealt")) (fun _ _ _ _=>(am 0)) (fun _ _ _ _=>bK) (fun _ _ _ _=>(au (kQ K) [] E0 (aa (ab 0) (aa (ab 1) (aa (ab 2) af))))) [none,some 2,some 4]) af))))))))
noncomputable abbrev Av:List Str:=["self","hand","holder","some","rising"]
theorem yj {K:Fg} {G:GF} (ct:pL K G.Table) {vs:List V} {H:Hp} {Q:VK} {E:XK} (h:kS K G vs H Q E):js K G { nx:=fun _ H'=>Q .non H',rt:=Q } (start Av vs) H:=by
 obtain ⟨M,x,pv,pe,l,T,i,h,ns,rfl,t,el,hi,h0,h1,hns,hnb,hds,q⟩:=h
 obtain ⟨dx,pd,ps,qs,es,X⟩:=t.ex
 have n2:=t.ok.n2
 show js K G _ [some _,some _,some _,some _,none] _
 unfold js
 walk_at "rd"
 refine de ?_
 walk_at "rd"
 refine ⟨x,G.Table,dx,_,_,rfl,X.hx,ct.cl,ct.n4,rfl,?_⟩
 walk_at "rd"
 refine ⟨(i:Int),(T.k:Int),rfl,?_⟩
 rw [gB (by omega) (by omega)]
 walk_at "rd"
 refine ⟨_,rfl,?_⟩
 walk_at "rd"
 refine de ?_
 walk_at "rd"
 refine ⟨x,G.Table,dx,_,_,rfl,X.hx,ct.cl,ct.n4,rfl,?_⟩
 walk_at "rd"
 refine ⟨h,(T.k:Int) + 1,rfl,?_⟩
 rw [gB (by omega) (by omega)]
 walk_at "rd"
 refine ⟨_,rfl,?_⟩
 walk_at "rd"
 refine de ?_
 walk_at "rd"
 refine ⟨x,G.Table,dx,_,_,rfl,X.hx,ct.cl,ct.n2,rfl,?_⟩
 walk_at "rd"
 refine ⟨l,ns,(T.c:Int),rfl,el,by omega,hnb,fun H1 s1=>?_⟩
 walk_at "rd"
 refine ⟨_,rfl,?_⟩
 walk_at "rd"
 refine Fq ?_
 walk_at "rd"
 refine ⟨l,ns,rfl,SqL.of (s1 _ _ el),hns,fun rp H2 ms hrp s2 e2 pw mm=>?_⟩
 have s12:=s1.trans s2
 have t2:=t.same s12
 walk_at "rd"
 obtain ⟨dx1,fs1,hx1,hl1⟩:=t2.at "learn" (by decide +kernel) (by decide +kernel) (by decide +kernel) (by decide +kernel) (by decide +kernel) (by decide +kernel)
 refine dW ?_
 walk_at "rd"
 refine ⟨x,dx1,fs1,rfl,hx1,hl1,?_⟩
 walk_at "rd"
 refine ⟨by simp [LI],fun tp H3 htp s3 e3=>?_⟩
 walk_at "rd"
 refine de ?_
 walk_at "rd"
 have s13:=s12.trans s3
 refine ⟨x,G.Table,dx,_,_,rfl,s13 _ _ X.hx,ct.cl,ct.n1,rfl,?_⟩
 obtain ⟨rs,er,hr⟩:=X.dl.same' s13
 have lr:rs.length=T.n:=MN hr
 refine gN (rs.map V.ref) (SqL.of er) (by rw [LF]; omega) (fun j acc _=>acc=(fS (T.ws.take j) h ns).map iaR) (fun H' _=>rfl) ?_ ?_
 ·rintro p' hp' C s' H' fp j xx acc H6 hxx ⟨s6,e6,l6,rfl⟩
  obtain ⟨b',hb',rfl⟩:=n9 hxx
  obtain ⟨w,hwi,ew⟩:=bQ hr hb'
  have hw1:=t.ok.cards w (LU hwi)
  walk_at "rd"
  refine ⟨b',rp,w,h,ms,rfl,s6 _ _ ew,s6 _ _ (s3 _ _ e2),pw,fun c hc=>by rw [hw1]; exact hnb c ((mm c).mp hc),fun a ha=>?_⟩
  have ea:a=vo w h ns:=ha.uniq mm (Fu w h ns)
  subst ea
  refine bu.put hp' (fun _ _ _ _ r _=>r) s6 e6 l6 ?_
  rw [cK hwi]
  unfold fS
  rw [Ma,Ma]
  rfl
 ·rintro pl acc H6 hpl s6 e6 rfl
  rw [LF,lr,show T.n=T.ws.length from rfl,Mw] at e6
  walk_at "rd"
  have s16:=s13.trans s6
  refine ⟨M,x,pv,pe,tp,pl,T,[i],fS T.ws h ns,_,rfl,t.same s16,s6 _ _ e3,fun k hk=>by rw [LB.mp hk]; exact hi,e6,t.off (s13.free hpl),by rw [Oq]; exact Nq fun a _=>La a,by unfold fS; rw [LF]; rfl,hds,fun p2 Hm H7 k7 t7 hp2 s7 e7=>?_⟩
  walk_at "rd"
  exact q p2 Hm H7 ((Kp.of s16).trans k7) t7 hp2 s7 e7
noncomputable def gZ (_:Fg) (G:GF):Sp:=fun vs H Q _=>∃ (M:List Addr) (x pv pe:Addr) (T:TM),vs=[.ref x]/\Tb G M H x pv pe T/\
 ∀ (x' pv' pe':Addr) H',H x'=none->H pv'=none->H pe'=none->ap H H'->Tb G (pv' :: pe' :: M) H' x' pv' pe' T->Q (.ref x') H'
noncomputable def iE (K:Fg) (G:GF):TS:=(ar (aE (uA G.Table (dz K G) [] E0 (aa (dQ K (ab 0) "cards") (aa (dQ K (ab 0) "sizes") af))) (am 1))
 (ar (nG K (ab 1) (tCB (jd K) (aa (dQ K (ab 0) "views") af)) "views")
 (ar (nG K (ab 1) (tCB (jd K) (aa (dQ K (ab 0) "deeds") af)) "deeds")
 (aI (ab 1)))))
noncomputable abbrev yk:List Str:=["self","other"]
theorem wL {K:Fg} {G:GF} (ct:pL K G.Table) {vs:List V} {H:Hp} {Q:VK} {E:XK} (h:gZ K G vs H Q E):iE K G { nx:=fun _ H'=>Q .non H',rt:=Q } (start yk vs) H:=by
 obtain ⟨M,x,pv,pe,T,rfl,t,q⟩:=h
 obtain ⟨dx,pd,ps,qs,es,X⟩:=t.ex
 show iE K G _ [some _,none] _
 unfold iE
 refine bg (lj (Ft ?_))
 walk_at "rd"
 refine de ?_
 walk_at "rd"
 refine ⟨x,G.Table,dx,_,_,rfl,X.hx,ct.cl,ct.n2,rfl,?_⟩
 walk_at "rd"
 refine de ?_
 walk_at "rd"
 refine ⟨x,G.Table,dx,_,_,rfl,X.hx,ct.cl,ct.n3,rfl,?_⟩
 walk_at "rd"
 intro x' dx' hx' hdx' hne
 have st:ap H (upd (upd H dx' (.own x')) x' (.ins G.Table dx' [])):=((ap.refl H).upd hdx' _).upd hx' _
 have x'M:x'∉M:=fun z=>t.al _ z hx'
 refine ⟨M,x',dx',ps,T.c,T.ss,rfl,az,st _ _ X.sz,t.ok.pk,t.ok.few,fun b hb z=>t.al b hb (st.free z),x'M,fun H1 pv0 pe0 k1 hpv0 hpe0 t1=>?_⟩
 have s1:ap H H1:=fun b o e=>k1 _ _ (aS e hx') (st _ _ e)
 obtain ⟨dx1,pd1,ps1,qs1,es1,X1⟩:=t1.ex
 refine ⟨rfl,?_⟩
 walk_at "rd"
 refine kG ?_
 walk_at "rd"
 refine de ?_
 walk_at "rd"
 refine ⟨x,G.Table,dx,_,_,rfl,s1 _ _ X.hx,ct.cl,ct.n5,rfl,?_⟩
 walk_at "rd"
 refine lR (SqL.of (s1 _ _ X.vs)) fun pv' H2 hpv' s2 e2=>?_
 walk_at "rd"
 refine ⟨x',G.Table,dx1,_,rfl,s2 _ _ X1.hx,ct.cl,ct.n5,by simp [tU],mW fun H3 kx3 x3=>?_⟩
 have nxv:pv'≠x':=jo (s2 _ _ X1.hx) e2
 have s3:ap H H3:=fun b o e=>kx3 _ _ (aS e hx') (s2 _ _ (s1 _ _ e))
 have e3:=kx3 _ _ nxv e2
 have dl3:=gE (X1.dl.same' s2) (s2 _ _ X1.hx) kx3
 have sz3:=kx3 _ _ (jo (s2 _ _ X1.hx) (s2 _ _ X1.sz)) (s2 _ _ X1.sz)
 walk_at "rd"
 refine kG ?_
 walk_at "rd"
 refine de ?_
 walk_at "rd"
 refine ⟨x,G.Table,dx,_,_,rfl,s3 _ _ X.hx,ct.cl,ct.n6,rfl,?_⟩
 walk_at "rd"
 refine lR (SqL.of (s3 _ _ X.pes)) fun pe' H4 hpe' s4 e4=>?_
 walk_at "rd"
 refine ⟨x',G.Table,dx1,_,rfl,s4 _ _ x3,ct.cl,ct.n6,N7 rfl,mW fun H5 kx5 x5=>?_⟩
 have s5:ap H H5:=fun b o e=>kx5 _ _ (aS e hx') (s4 _ _ (s3 _ _ e))
 have e5:=kx5 _ _ (jo (s4 _ _ x3) e4) e4
 have v5:=kx5 _ _ nxv (s4 _ _ e3)
 have dl5:=gE (dl3.same' s4) (s4 _ _ x3) kx5
 have sz5:=kx5 _ _ (jo (s4 _ _ x3) (s4 _ _ sz3)) (s4 _ _ sz3)
 walk_at "rd"
 have gv:H pv'=none:=s1.free hpv'
 have ge:H pe'=none:=s3.free hpe'
 have nve:pv'≠pe':=aS e3 hpe'
 have nM:∀ {b:Addr} {o:HO},H b=some o->b∉M->b∉pv' :: pe' :: M:=fun e n z=>by
  rcases LA.mp z with z | z
  ·rw [z,gv] at e; cases e
  ·rcases LA.mp z with z | z
   ·rw [z,ge] at e; cases e
   ·exact n z
 have nd1:pd1∉pv' :: pe' :: M:=fun z=>by
  obtain ⟨rs1,er1,_⟩:=X1.dl
  obtain ⟨rs3,er3,_⟩:=dl3
  rcases LA.mp z with z | z
  ·rw [z,hpv'] at er1; cases er1
  ·rcases LA.mp z with z | z
   ·rw [z,hpe'] at er3; cases er3
   ·exact X1.nd (LJ _ (LJ _ z))
 have ns1:ps1∉pv' :: pe' :: M:=fun z=>by
  have er1:=X1.sz
  rcases LA.mp z with z | z
  ·rw [z,hpv'] at er1; cases er1
  ·rcases LA.mp z with z | z
   ·rw [z,hpe'] at sz3; cases sz3
   ·exact X1.ns (LJ _ (LJ _ z))
 refine q x' pv' pe' H5 hx' gv ge s5 ⟨t.ok,⟨dx1,pd1,ps1,qs,es,x5,dl5,nd1,sz5,ns1,v5,Paired.mapP X.qv fun _ _ ⟨e,n⟩=>⟨s5 _ _ e,nM e n⟩,e5,Paired.mapP X.ed fun _ _ ⟨t,h,v,e,h1,h2,h3,h4⟩=>⟨t,h,v,e,s5 _ _ h1,s5 _ _ h2,s5 _ _ h3,nM h3 h4⟩⟩,nve,LG,LJ _ LG,fun b hb z=>?_⟩
 rcases LA.mp hb with y | y
 ·rw [y,v5] at z; cases z
 ·rcases LA.mp y with y | y
  ·rw [y,e5] at z; cases z
  ·exact t.al b y (s5.free z)
end
section
variable {K:Fg} {vs:List V} {H:Hp} {Q:VK} {E:XK}
open KF
set_option genInjectivity false in
inductive Dd where
 | word (g:List Nat) (s:Sy)
 | show (i:Nat) (h:Int) (ns:List Int)
noncomputable def ju (N:Addr->Prop) (H:Hp) (v:V):Dd->Prop
 | .word g s=>∃ a b x,v=.ref a/\H a=some (.tup [.str "word",.ref b,x])/\H b=some (.tup (av g))/\aK H x s
 | .show i h ns=>∃ a l,v=.ref a/\H a=some (.tup [.str "show",.int i,.int h,.ref l])/\H l=some (.lst (ns.map V.int))/\N l
noncomputable def Dd.Ok (c k:Nat):Dd->Prop
 | .word g s=>g.Pairwise (· < ·)/\(∀ h∈g,h < k)/\s.Ok c k/\s.words<=20
 | .show i h ns=>i < k/\0<=h/\h<=k/\ns.length < 6/\∀ n∈ns,0<=n/\n < c
noncomputable def TM.deed (T:TM):Dd->TM
 | .word g s=>T.word g s
 | .show i h ns=>T.show i h ns
noncomputable def TM.dtold (T:TM):Dd->List V
 | .word g s=>blV T.n (T.tr s)
 | .show i h ns=>(fS T.ws h ns).map iaR
theorem ju.to {N N':Addr->Prop} {H H':Hp} {v:V} {d:Dd} (h:ju N H v d) (k:eD H H') (f:∀ l xs,N l->H l=some (.lst xs)->H' l=some (.lst xs)/\N' l):ju N' H' v d:=by
 cases d with
 | word g s=>obtain ⟨a,b,x,e,h1,h2,h3⟩:=h; exact ⟨a,b,x,e,k _ _ h1,k _ _ h2,h3.keep k⟩
 | «show» i hh ns=>obtain ⟨a,l,e,h1,h2,h3⟩:=h; exact ⟨a,l,e,k _ _ h1,(f _ _ h3 h2).1,(f _ _ h3 h2).2⟩
theorem md (T:TM) (d:Dd):(T.deed d).c=T.c/\(T.deed d).ss=T.ss:=by cases d <;> exact ⟨rfl,rfl⟩
theorem IY (T:TM) (d:Dd):(T.deed d).ws=T.ws:=by unfold TM.ws; rw [(md T d).1,(md T d).2]
theorem Aw (T:TM) (d:Dd):(T.deed d).k=T.k:=by unfold TM.k; rw [(md T d).2]
theorem Cb (T:TM) (d:Dd):(T.deed d).ds.length=T.ds.length + 1:=by
 cases d <;> (show (T.ds++[_]).length=_; rw [LY]; rfl)
theorem IZ {T:TM} {d:Dd} (h:T.Ok) (hd:d.Ok T.c T.k):(T.deed d).Ok:=by
 cases d with
 | word g s=>exact h.word hd.2.1
 | «show» i hh ns=>exact h.learn (fun x hx=>by rw [LB.mp hx]; exact hd.1) (by unfold fS; rw [LF]; rfl)
noncomputable def mh (K:Fg):Sp:=fun vs H Q _=>∃ (a:Addr) (ns:List Int) (at_:Int) (c k:Nat),vs=[.ref a,.int at_,.int c,.int k]/\eV K H a ns/\0<=at_/\at_<=900/\1<=k/\k<=5/\
 ∀ (v:V) (d:Dd) H',ap H H'->ju (fun l=>H l=none) H' v d->d.Ok c k->Q v H'
noncomputable def ki (K:Fg):TS:=(ar (aE (au (aP K) [] E0 (aa (ab 0) (aa (ab 1) af))) (am 4))
 (ar (bB (tOr (bq (tOp (rI0 fun i j=>.bl (decide (j < i))) (tOp (rI (fun _ j=>0 < j) fun i j=>.int (i % j)) (ab 4) (tC (.int 3))) (tC (.int 0)))) (bq (tOp rEq (ab 2) (tC (.int 0))))) (aI (bz (aa (tC (.str "word")) (aa (au (cL K) [] E0 (aa (tOp (rI em fun i j=>.int (i / j)) (ab 4) (tC (.int 3))) (aa (ab 3) af))) (aa (au (gW K) [] E0 (aa (ab 0) (aa (tOp (rI0 fun i j=>.int (i + j)) (ab 1) (tC (.int 1))) (aa (ab 2) (aa (ab 3) (aa (tC (.int 14)) af)))))) af))))) bh)
 (ar (aE (bZ (ff (aa (tOp (rI (fun _ j=>0 < j) fun i j=>.int (i % j)) (au (aP K) [] E0 (aa (ab 0) (aa (tOp (rI0 fun i j=>.int (i + j)) (ab 1) (tC (.int 2))) af))) (tC (.int 6))) af)) (fun _ _ _ _=>(am 0)) (fun _ _ _ _=>bK) (fun _ _ _ _=>(tOp (rI (fun _ j=>0 < j) fun i j=>.int (i % j)) (au (aP K) [] E0 (aa (ab 2) (aa (tOp (rI0 fun i j=>.int (i + j)) (tOp (rI0 fun i j=>.int (i + j)) (ab 3) (tC (.int 3))) (ab 0)) af))) (ab 1))) [none,some 2,some 0,some 1]) (am 5))
 (aI (bz (aa (tC (.str "show")) (aa (tOp (rI (fun _ j=>0 < j) fun i j=>.int (i % j)) (tOp (rI em fun i j=>.int (i / j)) (ab 4) (tC (.int 3))) (ab 3)) (aa (tOp (rI (fun _ j=>0 < j) fun i j=>.int (i % j)) (tOp (rI em fun i j=>.int (i / j)) (ab 4) (tC (.int 21))) (tOp (rI0 fun i j=>.int (i + j)) (ab 3) (tC (.int 1)))) (aa (ab 5) af)))))))))
theorem Ax (h:mh K vs H Q E):ki K { nx:=fun _ H'=>Q .non H',rt:=Q } (start ["_law_script","_law_at","_law_cards","_law_hands","_law_cell_here","_law_some"] vs) H:=by
 obtain ⟨a,ns,at_,c,k,rfl,hSc,ha0,ha1,hk1,hk5,q⟩:=h
 show ki K _ [some _,some _,some _,some _,none,none] _
 unfold ki
 refine bg ?_
 walk_at "rs"
 refine ⟨a,ns,at_,rfl,hSc,by omega,by omega,?_⟩
 walk_at "rs"
 refine ga fun NX hNX=>?_
 have wordy:aI (bz (aa (tC (.str "word")) (aa (au (cL K) [] E0 (aa (tOp (rI em fun i j=>.int (i / j)) (ab 4) (tC (.int 3))) (aa (ab 3) af))) (aa (au (gW K) [] E0 (aa (ab 0) (aa (tOp (rI0 fun i j=>.int (i + j)) (ab 1) (tC (.int 1))) (aa (ab 2) (aa (ab 3) (aa (tC (.int 14)) af)))))) af)))) { nx:=NX,rt:=Q } [some (.ref a),some (.int at_),some (.int c),some (.int k),some (.int (aU ns at_)),none] H:=by
  walk_at "rd"
  refine ⟨_,k,rfl,hk5,fun tp g H1 s1 e1 pw hb=>?_⟩
  walk_at "rd"
  refine ⟨a,ns,at_ + 1,c,k,14,rfl,hSc.same s1,by omega,by omega,hk1,hk5,by decide,by decide,fun v s H2 s2 hS hok hw=>?_⟩
  walk_at "rd"
  refine ⟨by simp [LI],fun t3 H3 ht3 s3 e3=>?_⟩
  exact q _ (.word g s) H3 ((s1.trans s2).trans s3) ⟨t3,tp,v,rfl,e3,s3 _ _ (s2 _ _ e1),hS.keep s3.keep⟩ ⟨pw,hb,hok,Me hw (by decide)⟩
 walk_at "rs"
 refine dO (fun c1=>?_) (fun c1=>?_)
 ·exact wordy
 ·walk_at "rs"
  refine dO (fun c2=>?_) (fun c2=>?_)
  ·exact wordy
  ·have c0:0 < c:=by omega
   walk_at "rs"
   refine hNX _ _ ?_
   walk_at "rd"
   refine ⟨a,ns,at_ + 2,rfl,hSc,by omega,by omega,?_⟩
   walk_at "rd"
   obtain ⟨mn,hmn,hmn6⟩:∃ mn:Nat,aU ns (at_ + 2) % 6=(mn:Int)/\mn < 6:=⟨(aU ns (at_ + 2) % 6).toNat,by omega,by omega⟩
   rw [hmn]
   refine tM mn (by omega) (by omega) (by omega) (fun j acc _=>∃ ms:List Int,acc=ms.map V.int/\ms.length=j/\∀ n∈ms,0<=n/\n < (c:Int)) (fun _ _=>⟨[],rfl,rfl,fun _ z=>nomatch z⟩) ?_ ?_
   ·rintro p' hp' C s' H' fp j acc H8 hj ⟨s8,e8,l8,ms,rfl,lm,hms⟩
    walk_at "rd"
    refine ⟨a,ns,at_ + 3 + (j:Int),rfl,hSc.same s8,by omega,by omega,?_⟩
    walk_at "rd"
    refine bu.put hp' (fun _ _ _ _ r _=>r) s8 e8 l8 ⟨ms++[aU ns (at_ + 3 + (j:Int)) % (c:Int)],by rw [Ma]; rfl,by simp [lm],fun n hn=>?_⟩
    rcases Mm.mp hn with z | z
    ·exact hms n z
    ·rw [LB.mp z]
     exact ⟨M4 _ (by omega),MS _ (by omega)⟩
   ·rintro l acc H2 hl s2 e2 ⟨ms,rfl,lm,hms⟩
    walk_at "rd"
    obtain ⟨i,hi,hik⟩:=kf (aU ns at_ / 3) (m:=(k:Int)) (by omega)
    rw [hi]
    refine ⟨by simp [LI],fun t3 H3 ht3 s3 e3=>?_⟩
    exact q _ (.show i (aU ns at_ / 21 % ((k:Int) + 1)) ms) H3 (s2.trans s3) ⟨t3,l,rfl,e3,s3 _ _ e2,hl⟩ ⟨by omega,M4 _ (by omega),by have:=MS (aU ns at_ / 21) (show 0 < (k:Int) + 1 by omega); omega,by omega,hms⟩
noncomputable def gF (_:Fg) (G:GF):Sp:=fun vs H Q _=>∃ (M:List Addr) (x pv pe:Addr) (T:TM) (v:V) (d:Dd),vs=[.ref x,v]/\Tb G M H x pv pe T/\ju (fun l=>l∉M) H v d/\d.Ok T.c T.k/\T.ds.length < 1000/\
 Tld G M H x pv pe (T.deed d) (T.dtold d) Q
noncomputable def kj (K:Fg) (G:GF):TS:=(ar (bB (bq (tOp rEq (tOp (cT K) (ab 1) (tC (.int 0))) (tC (.str "word")))) (aI (dv G.Table "word" (iD K G) [] E0 (ab 0) (aa (tOp (cT K) (ab 1) (tC (.int 1))) (aa (tOp (cT K) (ab 1) (tC (.int 2))) af)))) bh)
 (aI (dv G.Table "show" (kS K G) [] E0 (ab 0) (aa (tOp (cT K) (ab 1) (tC (.int 1))) (aa (tOp (cT K) (ab 1) (tC (.int 2))) (aa (tCB (jd K) (aa (tOp (cT K) (ab 1) (tC (.int 3))) af)) af))))))
noncomputable abbrev Bv:List Str:=["_law_table","_law_deed_here"]
theorem Ay {K:Fg} {G:GF} {vs:List V} {H:Hp} {Q:VK} {E:XK} (h:gF K G vs H Q E):kj K G { nx:=fun _ H'=>Q .non H',rt:=Q } (start Bv vs) H:=by
 obtain ⟨M,x,pv,pe,T,v,d,rfl,t,hd,ok,hds,q⟩:=h
 show kj K G _ [some _,some _] _
 unfold kj
 cases d with
 | word g s=>
  obtain ⟨a,b,y,rfl,h1,h2,h3⟩:=hd
  obtain ⟨o1,o2,o3,o4⟩:=ok
  walk_at "rd"
  refine bw (SqT.of h1) (i:=0) rfl ?_
  walk_at "rd"
  refine eE rfl ?_
  walk_at "rd"
  obtain ⟨dx1,fs1,hx1,hl1⟩:=t.at "word" (by decide +kernel) (by decide +kernel) (by decide +kernel) (by decide +kernel) (by decide +kernel) (by decide +kernel)
  refine dW ?_
  walk_at "rd"
  refine ⟨x,dx1,fs1,rfl,hx1,hl1,?_⟩
  walk_at "rd"
  refine bw (SqT.of h1) (i:=1) rfl ?_
  walk_at "rd"
  refine bw (SqT.of h1) (i:=2) rfl ?_
  walk_at "rd"
  exact ⟨M,x,pv,pe,b,T,g,y,s,rfl,t,h2,o1,o2,h3,o3,by omega,hds,q⟩
 | «show» i hh ns=>
  obtain ⟨a,l,rfl,h1,h2,h3⟩:=hd
  obtain ⟨o1,o2,o3,o4,o5⟩:=ok
  walk_at "rd"
  refine bw (SqT.of h1) (i:=0) rfl ?_
  walk_at "rd"
  refine aY (by decide) ?_
  walk_at "rd"
  obtain ⟨dx1,fs1,hx1,hl1⟩:=t.at "show" (by decide +kernel) (by decide +kernel) (by decide +kernel) (by decide +kernel) (by decide +kernel) (by decide +kernel)
  refine dW ?_
  walk_at "rd"
  refine ⟨x,dx1,fs1,rfl,hx1,hl1,?_⟩
  walk_at "rd"
  refine bw (SqT.of h1) (i:=1) rfl ?_
  walk_at "rd"
  refine bw (SqT.of h1) (i:=2) rfl ?_
  walk_at "rd"
  refine bw (SqT.of h1) (i:=3) rfl ?_
  walk_at "rd"
  refine lR (SqL.of h2) fun l1 H1 hl1' s1 e1=>?_
  walk_at "rd"
  exact ⟨M,x,pv,pe,l1,T,i,hh,ns,rfl,t.same s1,e1,o1,o2,o3,by omega,o5,hds,fun p Hm H2 k2 t2 hp s2 e2=>q p Hm H2 ((Kp.of s1).trans k2) t2 hp s2 e2⟩
end
section
open KF
theorem eY {n:Nat} {ws vs vs':List (List Nat)} {i:Nat}:∀ {s:Sy},s.alone=true->(TR n ws vs s i↔TR n ws vs' s i)
 | .holds _ _,_=>UI
 | .not s,h=>not_congr (eY (s:=s) h)
 | .and s t,h=>by
  have h':(s.alone && t.alone)=true:=h
  rw [M7] at h'
  exact and_congr (eY (s:=s) h'.1) (eY (s:=t) h'.2)
 | .or s t,h=>by
  have h':(s.alone && t.alone)=true:=h
  rw [M7] at h'
  exact or_congr (eY (s:=s) h'.1) (eY (s:=t) h'.2)
 | .sees _,h=>nomatch h
 | .knows _ _,h=>nomatch h
 | .all _ _,h=>nomatch h
 | .common _ _,h=>nomatch h
theorem xO (T:TM) (ok:T.Ok) (s:Sy) {h:Nat} (hh:h < T.k):(T.word (LO T.k) s).vw.getD h []=cz (T.vw.getD h []) (blA T.n (T.tr s)):=by
 show (lrn T.vw (LO T.k) _).getD h []=_
 rw [wF _ _ _ h List.nodup_range (by rw [ok.len]; exact hh),if_pos (Nf.mpr hh)]
theorem mX {T:TM} (ok:T.Ok) {h:Nat} (hh:h < T.k):Within T.n (T.vw.getD h []):=by
 have hl:h < T.vw.length:=by rw [ok.len]; exact hh
 refine ok.win _ ?_
 rw [LV,Lz hl]
 exact Oi hl
theorem Az {P:Nat->Nat->Prop} {R:Nat->Prop} (h:∀ x y,P x y->(R x↔R y)) {i j:Nat} (c:dH P i j):R i↔R j:=by
 induction c with
 | refl=>exact UI
 | one h1=>exact h _ _ h1
 | symm _ ih=>exact ih.symm
 | trans _ _ ih1 ih2=>exact ih1.trans ih2
theorem C4 {T:TM} (ok:T.Ok) {h:Nat} (hh:h < T.k) {P:Nat->Prop} {x y:Nat} (hx:x < T.n) (hy:y < T.n):(cz (T.vw.getD h []) (blA T.n P))[x]?=(cz (T.vw.getD h []) (blA T.n P))[y]?↔(T.vw.getD h [])[x]?=(T.vw.getD h [])[y]?/\(P x↔P y):=by
 have w:=mX ok hh
 have hl:(T.vw.getD h []).length=(blA T.n P).length:=by rw [w.1,i7]
 unfold cz
 rw [qZ (by rw [M5,w.1,i7,Oo]; exact hx) (by rw [M5,w.1,i7,Oo]; exact hy),om hl (by rw [w.1]; exact hx) (by rw [w.1]; exact hy),B7 hx hy]
theorem xP {T:TM} (ok:T.Ok) {s:Sy} {g:List Nat} (hg:∀ h∈g,h < T.k) {x y:Nat} (st:j9 T.n (g.map fun h=>(T.word (LO T.k) s).vw.getD h []) x y):T.tr s x↔T.tr s y:=by
 obtain ⟨v,hv,hx,e⟩:=st
 obtain ⟨h,hm,rfl⟩:=NC.mp hv
 have hh:=hg h hm
 simp only [xO T ok s hh] at e
 have w:=mX ok hh
 obtain ⟨h1,h2,h3⟩:=xM e
 have hy:y < T.n:=by omega
 have:=(om (v:=T.vw.getD h []) (as:=blA T.n (T.tr s)) (by rw [w.1,i7]) (by rw [w.1]; exact hy) (by rw [w.1]; exact hx)).mp h1
 exact ((B7 hy hx).mp this.2).symm
theorem GR {T:TM} (ok:T.Ok) {s:Sy} (al:s.alone=true) {g:List Nat} (hg:∀ h∈g,h < T.k) {i:Nat} (hs:T.tr s i):(T.word (LO T.k) s).tr (.common g s) i:=fun j hj c=>(eY al).mp ((Az (R:=T.tr s) (fun x y st=>xP ok hg st) c).mp hs)
theorem I0 {T:TM} (ok:T.Ok) {s:Sy} (al:s.alone=true) {g:List Nat} (hg:∀ h∈g,h < T.k) {i:Nat} (hs:¬ T.tr s i):(T.word (LO T.k) s).tr (.common g (.not s)) i:=fun j hj c z=>hs ((Az (R:=T.tr s) (fun x y st=>xP ok hg st) c).mpr ((eY al).mp z))
theorem xQ {v:List Nat} {n i j:Nat} (hl:v.length=n) (hi:i < n) (hj:j < n):v.getD j 0=v.getD i 0↔v[j]?=v[i]?:=by
 rw [LV,LV,Lz (show j < v.length by omega),Lz (show i < v.length by omega)]
 exact ⟨fun h=>congrArg some h,fun h=>LR h⟩
theorem C5 {T:TM} (ok:T.Ok) {s p:Sy} (al:p.alone=true) {h:Nat} (hh:h < T.k) {i:Nat} (hi:i < T.n) (k:T.tr (.knows h p) i):(T.word (LO T.k) s).tr (.knows h p) i:=fun j hj e=>by
 have w:=mX ok hh
 have e':((T.word (LO T.k) s).vw.getD h []).getD j 0=((T.word (LO T.k) s).vw.getD h []).getD i 0:=e
 rw [xO T ok s hh] at e'
 have e2:=(xQ (lY w (i7 _ _)).1 hi hj).mp e'
 have e3:=((C4 ok hh hj hi).mp e2).1
 exact (eY al).mp (k j hj ((xQ w.1 hi hj).mpr e3))
noncomputable def cC (i:Nat) (v:List Nat) (p:List Nat×List IA):List Nat:=if i∈p.1/\p.2.length=v.length then cz v p.2 else v
theorem mY (i:Nat) (v:List Nat) (p:List Nat×List IA):(cC i v p).length=v.length:=by
 unfold cC
 by_cases h:i∈p.1/\p.2.length=v.length
 ·rw [if_pos h]
  unfold cz
  rw [cv,M5,h.2,Oo]
 ·rw [if_neg h]
theorem C6 (i:Nat) (v:List Nat) (p q:List Nat×List IA):cC i (cC i v p) q=cC i (cC i v q) p:=by
 by_cases hp:i∈p.1/\p.2.length=v.length
 ·by_cases hq:i∈q.1/\q.2.length=v.length
  ·have e1:cC i v p=cz v p.2:=if_pos hp
   have e2:cC i v q=cz v q.2:=if_pos hq
   have l1:=mY i v p
   have l2:=mY i v q
   have e3:cC i (cC i v p) q=cz (cC i v p) q.2:=if_pos ⟨hq.1,by rw [l1]; exact hq.2⟩
   have e4:cC i (cC i v q) p=cz (cC i v q) p.2:=if_pos ⟨hp.1,by rw [l2]; exact hp.2⟩
   rw [e3,e4,e1,e2]
   exact GJ hp.2.symm hq.2.symm
  ·have e2:∀ w:List Nat,w.length=v.length->cC i w q=w:=fun w hw=>if_neg (by rw [hw]; exact hq)
   rw [e2 _ (mY i v p),e2 _ rfl]
 ·have e2:∀ w:List Nat,w.length=v.length->cC i w p=w:=fun w hw=>if_neg (by rw [hw]; exact hp)
  rw [e2 _ rfl,e2 _ (mY i v q)]
theorem C7 (i:Nat) {l m:List (List Nat×List IA)} (h:l.Perm m):∀ v,l.foldl (cC i) v=m.foldl (cC i) v:=by
 induction h with
 | nil=>exact fun v=>rfl
 | cons x _ ih=>exact fun v=>ih _
 | swap x y l=>exact fun v=>congrArg (fun w=>l.foldl (cC i) w) (C6 i v y x)
 | trans _ _ ih1 ih2=>exact fun v=>(ih1 v).trans (ih2 v)
noncomputable def dga (T:TM):Dd->List Nat×List IA
 | .word g s=>(g,blA T.n (TR T.n T.ws [] s))
 | .show i h ns=>([i],fS T.ws h ns)
noncomputable def Dd.plain:Dd->Prop
 | .word _ s=>s.alone=true
 | .show _ _ _=>True
theorem GS (T:TM) (d e:Dd):dga (T.deed d) e=dga T e:=by
 have h:=IY T d
 have hn:(T.deed d).n=T.n:=by unfold TM.n; rw [h]
 cases e <;> simp only [dga,h,hn]
theorem Ja (T:TM) (d:Dd):(dga T d).2.length=T.n:=by
 cases d with
 | word g s=>exact i7 _ _
 | «show» i h ns=>show (fS T.ws h ns).length=_; unfold fS; rw [LF]; rfl
theorem Jb {T:TM} {d:Dd} (hp:d.plain):(T.deed d).vw=lrn T.vw (dga T d).1 (dga T d).2:=by
 cases d with
 | word g s=>
  show lrn T.vw g (blA T.n (T.tr s))=lrn T.vw g (blA T.n (TR T.n T.ws [] s))
  rw [Fl (P:=T.tr s) (P':=TR T.n T.ws [] s) fun i _=>eY hp]
 | «show» i h ns=>rfl
theorem Fv {T:TM} (ok:T.Ok) {d:Dd} (hp:d.plain) (hd:d.Ok T.c T.k) {i:Nat} (hi:i < T.k):(T.deed d).vw.getD i []=cC i (T.vw.getD i []) (dga T d):=by
 have w:=mX ok hi
 have nd:(dga T d).1.Nodup:=by
  cases d with
  | word g s=>exact List.Pairwise.imp (fun h=>Ml h) hd.1
  | «show» i h ns=>exact Nv.mpr ⟨(fun z=>nomatch z),List.nodup_nil⟩
 rw [Jb hp,wF _ _ _ i nd (by rw [ok.len]; exact hi)]
 unfold cC
 have hl:(dga T d).2.length=(T.vw.getD i []).length:=by rw [Ja,w.1]
 by_cases m:i∈(dga T d).1
 ·rw [if_pos m,if_pos ⟨m,hl⟩]
 ·rw [if_neg m,if_neg (fun z=>m z.1)]
theorem tV:∀ (ds:List Dd) {T:TM},T.Ok->(∀ d∈ds,d.plain/\d.Ok T.c T.k)->∀ {i:Nat},i < T.k->(ds.foldl TM.deed T).vw.getD i []=(ds.map (dga T)).foldl (cC i) (T.vw.getD i [])
 | [],_,_,_,_,_=>rfl
 | d :: ds,T,ok,h,i,hi=>by
  obtain ⟨h1,h2⟩:=h d LG
  show (ds.foldl TM.deed (T.deed d)).vw.getD i []=(ds.map (dga T)).foldl (cC i) (cC i (T.vw.getD i []) (dga T d))
  rw [tV ds (IZ ok h2) (fun e he=>by rw [(md T d).1,Aw]; exact h e (LJ _ he)) (by rw [Aw]; exact hi),Fv ok h1 h2 hi,show dga (T.deed d)=dga T from funext fun e=>GS T d e]
theorem GT {T:TM} (ok:T.Ok) {ds es:List Dd} (hp:ds.Perm es) (h:∀ d∈ds,d.plain/\d.Ok T.c T.k) {i:Nat} (hi:i < T.k):(ds.foldl TM.deed T).vw.getD i []=(es.foldl TM.deed T).vw.getD i []:=by
 rw [tV ds ok h hi,tV es ok (fun d hd=>h d (hp.mem_iff.mpr hd)) hi,C7 i (hp.map (dga T))]
end
section
variable {K:Fg} {vs:List V} {H:Hp} {Q:VK} {E:XK}
open KF
noncomputable def i9 (z:Int) (c k:Nat) (s:Sy):Sy:=
 if z % 4=0 then .not s else if z % 4=1 then .and s (.holds (z / 4 % ((k:Int) + 1)).toNat (z / 28 % (c:Int)).toNat) else if z % 4=2 then .or s (.holds (z / 4 % ((k:Int) + 1)).toNat (z / 28 % (c:Int)).toNat) else .or (.holds (z / 4 % ((k:Int) + 1)).toNat (z / 28 % (c:Int)).toNat) (.not s)
noncomputable def cg (ns:List Int) (at_:Int) (c k:Nat):Nat->Sy
 | 0=>.holds (aU ns at_ % ((k:Int) + 1)).toNat (aU ns at_ / 7 % (c:Int)).toNat
 | j + 1=>i9 (aU ns (at_ + 2 + (j:Int))) c k (cg ns at_ c k j)
noncomputable def bJ (ns:List Int) (at_:Int) (c k:Nat):Sy:=cg ns at_ c k (aU ns (at_ + 1) % 6).toNat
theorem AA (ns:List Int) (at_:Int) {c k:Nat} (hc:1<=c):∀ j,(cg ns at_ c k j).Ok c k/\(cg ns at_ c k j).alone=true/\(cg ns at_ c k j).words<=1 + 3 * j
 | 0=>⟨⟨by have:=MS (aU ns at_) (show 0 < (k:Int) + 1 by omega); have:=M4 (aU ns at_) (show (k:Int) + 1≠0 by omega); omega,by have:=MS (aU ns at_ / 7) (show 0 < (c:Int) by omega); have:=M4 (aU ns at_ / 7) (show (c:Int)≠0 by omega); omega⟩,rfl,LC _⟩
 | j + 1=>by
  obtain ⟨h1,h2,h3⟩:=AA ns at_ (k:=k) hc j
  show (i9 _ c k _).Ok c k/\_
  generalize hz:aU ns (at_ + 2 + (j:Int))=z
  have ho:(Sy.holds (z / 4 % ((k:Int) + 1)).toNat (z / 28 % (c:Int)).toNat).Ok c k:=⟨by have:=MS (z / 4) (show 0 < (k:Int) + 1 by omega); have:=M4 (z / 4) (show (k:Int) + 1≠0 by omega); omega,by have:=MS (z / 28) (show 0 < (c:Int) by omega); have:=M4 (z / 28) (show (c:Int)≠0 by omega); omega⟩
  have e:cg ns at_ c k (j + 1)=i9 z c k (cg ns at_ c k j):=by rw [<-hz]; rfl
  rw [e]
  unfold i9
  by_cases c0:z % 4=0
  ·rw [if_pos c0]; exact ⟨h1,h2,by show (cg ns at_ c k j).words + 1<=_; omega⟩
  ·rw [if_neg c0]
   by_cases c1:z % 4=1
   ·rw [if_pos c1]; exact ⟨⟨h1,ho⟩,by show ((cg ns at_ c k j).alone && true)=true; rw [h2]; rfl,by show (cg ns at_ c k j).words + 1 + 1<=_; omega⟩
   ·rw [if_neg c1]
    by_cases c2:z % 4=2
    ·rw [if_pos c2]; exact ⟨⟨h1,ho⟩,by show ((cg ns at_ c k j).alone && true)=true; rw [h2]; rfl,by show (cg ns at_ c k j).words + 1 + 1<=_; omega⟩
    ·rw [if_neg c2]; exact ⟨⟨ho,h1⟩,by show (true && (cg ns at_ c k j).alone)=true; rw [h2]; rfl,by show 1 + ((cg ns at_ c k j).words + 1) + 1<=_; omega⟩
noncomputable def eG (K:Fg):Sp:=fun vs H Q _=>∃ (a:Addr) (ns:List Int) (at_:Int) (c k:Nat),vs=[.ref a,.int at_,.int c,.int k]/\eV K H a ns/\0<=at_/\at_<=900/\1<=c/\∀ (v:V) H',ap H H'->aK H' v (bJ ns at_ c k)->Q v H'
noncomputable def jv (K:Fg):TS:=(ar (aE (au (aP K) [] E0 (aa (ab 0) (aa (ab 1) af))) (am 4))
 (ar (aE (bz (aa (tC (.str "holds")) (aa (tOp (rI (fun _ j=>0 < j) fun i j=>.int (i % j)) (ab 4) (tOp (rI0 fun i j=>.int (i + j)) (ab 3) (tC (.int 1)))) (aa (tOp (rI (fun _ j=>0 < j) fun i j=>.int (i % j)) (tOp (rI em fun i j=>.int (i / j)) (ab 4) (tC (.int 7))) (ab 2)) af)))) (am 5))
 (ar (cS (ff (aa (tOp (rI (fun _ j=>0 < j) fun i j=>.int (i % j)) (au (aP K) [] E0 (aa (ab 0) (aa (tOp (rI0 fun i j=>.int (i + j)) (ab 1) (tC (.int 1))) af))) (tC (.int 6))) af)) (am 6) (ar (aE (au (aP K) [] E0 (aa (ab 0) (aa (tOp (rI0 fun i j=>.int (i + j)) (tOp (rI0 fun i j=>.int (i + j)) (ab 1) (tC (.int 2))) (ab 6)) af))) (am 4))
 (ar (aE (bz (aa (tC (.str "holds")) (aa (tOp (rI (fun _ j=>0 < j) fun i j=>.int (i % j)) (tOp (rI em fun i j=>.int (i / j)) (ab 4) (tC (.int 4))) (tOp (rI0 fun i j=>.int (i + j)) (ab 3) (tC (.int 1)))) (aa (tOp (rI (fun _ j=>0 < j) fun i j=>.int (i % j)) (tOp (rI em fun i j=>.int (i / j)) (ab 4) (tC (.int 28))) (ab 2)) af)))) (am 7))
 (aE (tOp (dR K) (fv (aa (bz (aa (tC (.str "not")) (aa (ab 5) af))) (aa (bz (aa (tC (.str "and")) (aa (ab 5) (aa (ab 7) af)))) (aa (bz (aa (tC (.str "or")) (aa (ab 5) (aa (ab 7) af)))) (aa (bz (aa (tC (.str "or")) (aa (ab 7) (aa (bz (aa (tC (.str "not")) (aa (ab 5) af))) af)))) af))))) (tOp (rI (fun _ j=>0 < j) fun i j=>.int (i % j)) (ab 4) (tC (.int 4)))) (am 5)))))
 (aI (ab 5)))))
theorem yl (h:eG K vs H Q E):jv K { nx:=fun _ H'=>Q .non H',rt:=Q } (start ["_law_script","_law_at","_law_cards","_law_hands","_law_cell_here","_law_told","_law_k","_law_other"] vs) H:=by
 obtain ⟨a,ns,at_,c,k,rfl,hSc,ha0,ha1,hc,q⟩:=h
 show jv K _ [some _,some _,some _,some _,none,none,none,none] _
 unfold jv
 refine bg ?_
 walk_at "rs"
 refine ⟨a,ns,at_,rfl,hSc,by omega,by omega,?_⟩
 walk_at "rs"
 refine bg ?_
 walk_at "rs"
 have nn:∀ (z:Int) {m:Int},0 < m->z % m=(((z % m).toNat:Nat):Int):=fun z m hm=>by have:=M4 z (show m≠0 by omega); omega
 refine ⟨by simp [LI],fun t1 H1 ht1 s1 e1=>?_⟩
 rw [nn (aU ns at_) (show 0 < (k:Int) + 1 by omega),nn (aU ns at_ / 7) (show 0 < (c:Int) by omega)] at e1
 refine ga fun NX hNX=>?_
 walk_at "rd"
 refine ⟨a,ns,at_ + 1,rfl,hSc.same s1,by omega,by omega,?_⟩
 walk_at "rd"
 obtain ⟨m,hm,hm6⟩:∃ m:Nat,aU ns (at_ + 1) % 6=(m:Int)/\m < 6:=⟨(aU ns (at_ + 1) % 6).toNat,by omega,by omega⟩
 have ms:bJ ns at_ c k=cg ns at_ c k m:=by unfold bJ; rw [hm]; rfl
 rw [hm]
 refine jQ m (by omega) (by omega) (by omega) (fun j σ H2=>∃ (u4 u6 u7:Option V) (v:V),σ=[some (.ref a),some (.int at_),some (.int c),some (.int k),u4,some v,u6,u7]/\ap H H2/\aK H2 v (cg ns at_ c k j)) ⟨_,_,_,_,rfl,s1,t1,rfl,e1⟩ ?_ ?_
 ·rintro j σ H2 hj ⟨u4,u6,u7,v,rfl,s2,hv⟩
  walk_at "rd"
  refine ⟨a,ns,at_ + 2 + (j:Int),rfl,hSc.same s2,by omega,by omega,?_⟩
  walk_at "rd"
  refine ⟨by simp [LI],fun t3 H3 ht3 s3 e3=>?_⟩
  walk_at "rd"
  refine ⟨by simp [LI],fun t4 H4 ht4 s4 e4=>?_⟩
  walk_at "rd"
  refine ⟨by simp [LI],fun t5 H5 ht5 s5 e5=>?_⟩
  walk_at "rd"
  refine ⟨by simp [LI],fun t6 H6 ht6 s6 e6=>?_⟩
  walk_at "rd"
  refine ⟨by simp [LI],fun t7 H7 ht7 s7 e7=>?_⟩
  walk_at "rd"
  refine ⟨by simp [LI],fun t8 H8 ht8 s8 e8=>?_⟩
  walk_at "rd"
  refine ⟨by simp [LI],fun t9 H9 ht9 s9 e9=>?_⟩
  have e':cg ns at_ c k (j + 1)=i9 (aU ns (at_ + 2 + (j:Int))) c k (cg ns at_ c k j):=rfl
  generalize aU ns (at_ + 2 + (j:Int))=z at *
  rw [nn (z / 4) (show 0 < (k:Int) + 1 by omega),nn (z / 28) (show 0 < (c:Int) by omega)] at e3
  have s29:ap H2 H9:=(((((s3.trans s4).trans s5).trans s6).trans s7).trans s8).trans s9
  have v9:=hv.keep s29.keep
  have o9:aK H9 (.ref t3) (.holds (z / 4 % ((k:Int) + 1)).toNat (z / 28 % (c:Int)).toNat):=⟨t3,rfl,s9 _ _ (s8 _ _ (s7 _ _ (s6 _ _ (s5 _ _ (s4 _ _ e3)))))⟩
  unfold i9 at e'
  walk_at "rd"
  have key:∀ (i:Int) (y:V),z % 4=i->atI [V.ref t4,V.ref t5,V.ref t6,V.ref t8] i=some y->aK H9 y (cg ns at_ c k (j + 1))->∃ y,atI [V.ref t4,V.ref t5,V.ref t6,V.ref t8] (z % 4)=some y/\aK H9 y (cg ns at_ c k (j + 1)):=fun i y hi h1 h2=>⟨y,by rw [hi]; exact h1,h2⟩
  obtain ⟨y,hy,hs⟩:∃ y,atI [V.ref t4,V.ref t5,V.ref t6,V.ref t8] (z % 4)=some y/\aK H9 y (cg ns at_ c k (j + 1)):=by
   by_cases c0:z % 4=0
   ·rw [if_pos c0] at e'
    exact key 0 _ c0 rfl (by rw [e']; exact ⟨t4,v,rfl,s9 _ _ (s8 _ _ (s7 _ _ (s6 _ _ (s5 _ _ e4)))),v9⟩)
   ·rw [if_neg c0] at e'
    by_cases c1:z % 4=1
    ·rw [if_pos c1] at e'
     exact key 1 _ c1 rfl (by rw [e']; exact ⟨t5,v,_,rfl,s9 _ _ (s8 _ _ (s7 _ _ (s6 _ _ e5))),v9,o9⟩)
    ·rw [if_neg c1] at e'
     by_cases c2:z % 4=2
     ·rw [if_pos c2] at e'
      exact key 2 _ c2 rfl (by rw [e']; exact ⟨t6,v,_,rfl,s9 _ _ (s8 _ _ (s7 _ _ e6)),v9,o9⟩)
     ·rw [if_neg c2] at e'
      exact key 3 _ (by omega) rfl (by rw [e']; exact ⟨t8,_,_,rfl,s9 _ _ e8,o9,⟨t7,v,rfl,s9 _ _ (s8 _ _ e7),v9⟩⟩)
  refine cO (SqL.of e9) hy ?_
  walk_at "rd"
  exact ⟨_,_,_,y,rfl,s2.trans s29,hs⟩
 ·rintro σ H2 ⟨u4,u6,u7,v,rfl,s2,hv⟩
  refine hNX _ _ ?_
  walk_at "rd"
  exact q v H2 s2 (by rw [ms]; exact hv)
end
end L2
section
namespace L2
open PySem
noncomputable def Itv (K:Fg) (a:Addr) (n:Nat):It:=
 ⟨fun i H=>i < n/\∃ xs,SqL K H a xs/\xs.length=n,fun i H x H'=>H'=H/\∀ xs,SqL K H a xs->xs[n - 1 - i]?=some x,fun i _=>i=n⟩
noncomputable def GU (K:Fg) (ta:TA):TI:=fun σ H R=>ta σ H fun vs H1=>∃ a xs,vs=[.ref a]/\SqL K H1 a xs/\R (Itv K a xs.length) H1
theorem Kv {K:Fg} {ta:TA} {σ:St} {H:Hp} {R:It->Hp->Prop} (h:ta σ H fun vs H1=>∃ a xs,vs=[.ref a]/\SqL K H1 a xs/\R (Itv K a xs.length) H1):GU K ta σ H R:=h
theorem Kw {K:Fg} {g:TG} {tb:TS} {NX:St->Hp->Prop} {RT:VK} {σ:St} {H:Hp} {a:Addr} (xs:List V) (hx:SqL K H a xs) (Pv:Nat->St->Hp->Prop) (h0:Pv 0 σ H) (hl:∀ i σ H,i<=xs.length->Pv i σ H->SqL K H a xs)
  (hs:∀ i x σ H,i < xs.length->xs[xs.length - 1 - i]?=some x->Pv i σ H->g x σ H fun σ2 H2=>tb { nx:=Pv (i + 1),rt:=RT,bk:=NX,ct:=Pv (i + 1) } σ2 H2) (hd:∀ σ H,Pv xs.length σ H->NX σ H):
  ∃ a' xs',[V.ref a]=[.ref a']/\SqL K H a' xs'/\∃ W:Nat->Nat->St->Hp->Prop,(∃ m,W 0 m σ H)/\∀ i m σ H,W i m σ H->
   ((Itv K a' xs'.length).stop i H/\NX σ H)\/((Itv K a' xs'.length).go i H/\∃ N:St->Hp->Prop,(∀ σ' H',N σ' H'->∃ m',m' < m/\W (i + 1) m' σ' H')/\∀ x H',(Itv K a' xs'.length).yld i H x H'->g x σ H' fun σ2 H2=>tb { nx:=N,rt:=RT,bk:=NX,ct:=N } σ2 H2):=by
 refine ⟨a,xs,rfl,hx,fun i m σ H=>m=xs.length - i/\i<=xs.length/\Pv i σ H,⟨xs.length,by simp,MJ _,h0⟩,?_⟩
 rintro i m σ H ⟨rfl,hi,p⟩
 have q:=hl i σ H hi p
 by_cases hlt:i < xs.length
 ·refine .inr ⟨⟨hlt,xs,q,rfl⟩,Pv (i + 1),fun σ' H' p'=>⟨xs.length - (i + 1),by omega,rfl,hlt,p'⟩,fun x H' y=>?_⟩
  obtain ⟨e,y⟩:=y
  subst e
  exact hs i x σ _ hlt (y xs q) p
 ·have e:i=xs.length:=by omega
  subst e
  exact .inl ⟨rfl,hd σ H p⟩
end L2
end
namespace L2
open PySem PyProof.Rows
section
open KF
theorem AB (n d k:Nat):HT.sIx n d (some (k:Int))=min k n:=by
 show (if (k:Int) < 0 then ((k:Int) + (n:Int)).toNat else min ((k:Int).toNat) n)=min k n
 rw [if_neg (by omega),OC]
theorem Fw (xs:List V) (k:Nat) (h:k<=xs.length):ig xs none (some (k:Int))=xs.take k:=by
 unfold ig
 rw [AB,show HT.sIx xs.length 0 none=0 from rfl,List.drop_zero,To,UG h]
theorem Fx (xs:List V) (k:Nat) (h:k<=xs.length):ig xs (some (k:Int)) none=xs.drop k:=by
 unfold ig
 rw [AB,show HT.sIx xs.length xs.length none=xs.length from rfl,UG h,PQ (by rw [P0]; exact LC _)]
noncomputable def tW (H:Hp) (p:Addr) (T:TM):Prop:=∃ qs:List Addr,H p=some (.lst (qs.map V.ref))/\qs.length=T.k/\∀ (i:Nat) (q:Addr),qs[i]?=some q->H q=some (.lst (av (T.vw.getD i [])))
theorem tW.same {H H':Hp} {p:Addr} {T:TM} (h:tW H p T) (s:ap H H'):tW H' p T:=by
 obtain ⟨qs,h1,h2,h3⟩:=h
 exact ⟨qs,s _ _ h1,h2,fun i q hq=>s _ _ (h3 i q hq)⟩
theorem tW.eqv {K:Fg} {H:Hp} {p r:Addr} {T U:TM} (h:tW H p T) (g:tW H r U) (hk:T.k=U.k) (e:∀ i,i < T.k->T.vw.getD i []=U.vw.getD i []):gQ K H 2 (.ref p) (.ref r):=by
 obtain ⟨qs,h1,h2,h3⟩:=h
 obtain ⟨rs,g1,g2,g3⟩:=g
 refine .lst (SqL.of h1) (SqL.of g1) (by rw [LF,LF,h2,g2,hk]) fun i x y hx hy=>?_
 obtain ⟨b,hb,rfl⟩:=n9 hx
 obtain ⟨b',hb',rfl⟩:=n9 hy
 have hi:i < T.k:=by rw [<-h2]; exact (LD.mp hb).1
 exact uW (SqL.of (h3 i b hb)) (SqL.of (by rw [e i hi]; exact g3 i b' hb')) (by rw [eM]; exact xK _)
noncomputable def iF (_:Fg) (G:GF):Sp:=fun vs H Q _=>∃ (M:List Addr) (x pv pe:Addr) (T:TM) (k:Nat),vs=[.ref x,.int k]/\T.k=k/\Tb G M H x pv pe T/\∀ p H',H p=none->ap H H'->tW H' p T->Q (.ref p) H'
noncomputable def jw (K:Fg) (G:GF):TS:=(aI (bZ (ff (aa (ab 1) af)) (fun _ _ _ _=>(am 0)) (fun _ _ _ _=>bK) (fun _ _ _ _=>(dv G.Table "view" (kR K G) [] E0 (ab 1) (aa (ab 0) af))) [none,some 0]))
noncomputable abbrev AC:List Str:=["_law_table","_law_hands"]
theorem ym {K:Fg} {G:GF} {vs:List V} {H:Hp} {Q:VK} {E:XK} (h:iF K G vs H Q E):jw K G { nx:=fun _ H'=>Q .non H',rt:=Q } (start AC vs) H:=by
 obtain ⟨M,x,pv,pe,T,k,rfl,rfl,t,q⟩:=h
 have l5:T.k<=5:=t.ok.pk.l5
 show jw K G _ [some _,some _] _
 unfold jw
 walk_at "rd"
 refine xN T.k (by omega) (by omega) (by omega) (fun p' j acc H'=>∃ qs:List Addr,acc=qs.map V.ref/\qs.length=j/\∀ i r,qs[i]?=some r->H' r=some (.lst (av (T.vw.getD i [])))/\r≠p') (fun p' H' _=>⟨[],rfl,rfl,fun i r hr=>by cases i <;> cases hr⟩) ?_ ?_
 ·rintro p' hp' C s' H' fp j acc H1 hj ⟨s1,e1,l1,qs,rfl,lqs,hqs⟩
  have t1:=t.same s1
  walk_at "rd"
  obtain ⟨dx1,fs1,hx1,hl1⟩:=t1.at "view" (by decide +kernel) (by decide +kernel) (by decide +kernel) (by decide +kernel) (by decide +kernel) (by decide +kernel)
  refine dW ?_
  walk_at "rd"
  refine ⟨x,dx1,fs1,rfl,hx1,hl1,?_⟩
  walk_at "rd"
  refine ⟨M,x,pv,pe,T,j,rfl,t1,hj,fun q2 H2 hq2 s2 e2=>?_⟩
  have nq:q2≠p':=fun z=>by rw [z,e1] at hq2; cases hq2
  refine bu.putW hp' (s1.trans s2) (s2 _ _ e1) l1 fun H5 o5=>⟨qs++[q2],by rw [Ma]; rfl,by rw [LY,lqs]; rfl,fun i r hr=>?_⟩
  by_cases hi:i < qs.length
  ·rw [OF hi] at hr
   obtain ⟨z1,z2⟩:=hqs i r hr
   exact ⟨(o5 _ z2).trans (s2 _ _ z1),z2⟩
  ·have hi2:=(LD.mp hr).1
   rw [LY] at hi2
   have ei:i=j:=by simp at hi2; omega
   subst ei
   rw [Pe (by omega),lqs,RA] at hr
   cases hr
   exact ⟨(o5 _ nq).trans e2,nq⟩
 ·rintro p acc H1 hp s1 e1 ⟨qs,rfl,lqs,hqs⟩
  walk_at "rd"
  exact q p H1 hp s1 ⟨qs,e1,lqs,fun i r hr=>(hqs i r hr).1⟩
noncomputable def jU (_:Fg) (G:GF):Sp:=fun vs H Q _=>∃ (M:List Addr) (x pv pe pd:Addr) (T:TM) (es:List V) (ds:List Dd) (tn:Nat),vs=[.ref x,.ref pd,.int tn]/\Tb G M H x pv pe T/\H pd=some (.lst es)/\pd∉M/\Paired (ju (fun l=>l∉M) H) es ds/\(∀ d∈ds,d.Ok T.c T.k)/\ds.length<=3/\tn<=ds.length/\T.ds.length < 900/\
 ∀ (x' pv' pe':Addr) H',Kp [pv,pe] H H'->Tb G (pv' :: pe' :: M) H' x' pv' pe' ((ds.drop tn++ds.take tn).foldl TM.deed T)->Tb G (pv' :: pe' :: M) H' x pv pe (ds.reverse.foldl TM.deed T)->Q (.ref x') H'
noncomputable def iG (K:Fg) (G:GF):TS:=(ar (aE (dv G.Table "again" (gZ K G) [] E0 (ab 0) af) (am 3))
 (ar (cS (du K (tOp qL (tSl (CG K) (ab 1) (oR (ab 2)) jO) (tSl (CG K) (ab 1) jO (oR (ab 2))))) (am 4) (dG (au (gF K G) [] E0 (aa (ab 3) (aa (ab 4) af)))))
 (ar (cS (GU K (aa (ab 1) af)) (am 4) (dG (au (gF K G) [] E0 (aa (ab 0) (aa (ab 4) af)))))
 (aI (ab 3)))))
noncomputable abbrev yn:List Str:=["_law_table","_law_deeds","_law_turn","_law_other","_law_deed_here"]
theorem vt (T:TM):∀ ds:List Dd,(ds.foldl TM.deed T).c=T.c/\(ds.foldl TM.deed T).k=T.k/\(ds.foldl TM.deed T).ds.length=T.ds.length + ds.length:=fun ds=>by
 induction ds generalizing T with
 | nil=>exact ⟨rfl,rfl,rfl⟩
 | cons d ds ih=>
  obtain ⟨h1,h2,h3⟩:=ih (T.deed d)
  exact ⟨h1.trans (md T d).1,h2.trans (Aw T d),by show (ds.foldl TM.deed (T.deed d)).ds.length=_; rw [h3,Cb,Mh]; omega⟩
theorem C8 {α β:Type} {F:α->β->Prop} {l:List α} {m:List β} (h:Paired F l m) (k:Nat):Paired F (l.take k) (m.take k)/\Paired F (l.drop k) (m.drop k):=by
 induction h generalizing k with
 | nil=>rw [List.take_nil,List.take_nil,List.drop_nil,List.drop_nil]; exact ⟨.nil,.nil⟩
 | cons r t ih=>
  cases k with
  | zero=>exact ⟨.nil,.cons r t⟩
  | succ k=>exact ⟨.cons r (ih k).1,(ih k).2⟩
theorem wM {K:Fg} {G:GF} {vs:List V} {H:Hp} {Q:VK} {E:XK} (h:jU K G vs H Q E):iG K G { nx:=fun _ H'=>Q .non H',rt:=Q } (start yn vs) H:=by
 obtain ⟨M,x,pv,pe,pd,T,es,ds,tn,rfl,t,epd,npd,hes,hok,hl3,htn,hds,q⟩:=h
 have les:es.length=ds.length:=MN hes
 show iG K G _ [some _,some _,some _,none,none] _
 unfold iG
 refine bg ?_
 walk_at "rs"
 obtain ⟨dx1,fs1,hx1,hl1⟩:=t.at "again" (by decide +kernel) (by decide +kernel) (by decide +kernel) (by decide +kernel) (by decide +kernel) (by decide +kernel)
 refine dW ?_
 walk_at "rs"
 refine ⟨x,dx1,fs1,rfl,hx1,hl1,?_⟩
 walk_at "rs"
 refine ⟨M,x,pv,pe,T,rfl,t,fun x' pv' pe' H1 hx' hpv' hpe' s1 t1'=>?_⟩
 walk_at "rs"
 have t1:Tb G (pv' :: pe' :: M) H1 x pv pe T:=t.grow (N:=[pv',pe']) s1 (fun b hb=>by
  rcases LA.mp hb with z | z
  ·rw [z]; exact hpv'
  ·rw [LB.mp z]; exact hpe') (fun b hb=>t1'.al b (by
  rcases LA.mp hb with z | z
  ·rw [z]; exact LG
  ·rw [LB.mp z]; exact LJ _ LG))
 have off:∀ {b:Addr} {o:HO},H b=some o->b∉M->b∉pv' :: pe' :: M:=fun e n z=>by
  rcases LA.mp z with z | z
  ·rw [z,hpv'] at e; cases e
  ·rcases LA.mp z with z | z
   ·rw [z,hpe'] at e; cases e
   ·exact n z
 have npd':=off epd npd
 have h1:Paired (ju (fun l=>l∉pv' :: pe' :: M) H1) es ds:=Paired.mapP hes fun _ _ z=>z.to s1.keep fun l xs n e=>⟨s1 _ _ e,off e n⟩
 have e1:=s1 _ _ epd
 have nv:pv'∉[pv,pe]:=fun z=>by
  rcases LA.mp z with z | z
  ·exact t.al _ t.mv (z ▸ hpv')
  ·exact t.al _ t.me (LB.mp z ▸ hpv')
 have ne:pe'∉[pv,pe]:=fun z=>by
  rcases LA.mp z with z | z
  ·exact t.al _ t.mv (z ▸ hpe')
  ·exact t.al _ t.me (LB.mp z ▸ hpe')
 have nv2:pv∉[pv',pe']:=fun z=>by
  rcases LA.mp z with z | z
  ·exact t.al _ t.mv (z ▸ hpv')
  ·exact t.al _ t.mv (LB.mp z ▸ hpe')
 have ne2:pe∉[pv',pe']:=fun z=>by
  rcases LA.mp z with z | z
  ·exact t.al _ t.me (z ▸ hpv')
  ·exact t.al _ t.me (LB.mp z ▸ hpe')
 have sub1:∀ b∈[pv',pe'],b∈pv' :: pe' :: M:=fun b hb=>by
  rcases LA.mp hb with z | z
  ·rw [z]; exact LG
  ·rw [LB.mp z]; exact LJ _ LG
 have sub2:∀ b∈[pv,pe],b∈pv' :: pe' :: M:=fun b hb=>by
  rcases LA.mp hb with z | z
  ·rw [z]; exact LJ _ (LJ _ t.mv)
  ·rw [LB.mp z]; exact LJ _ (LJ _ t.me)
 generalize hM:pv' :: pe' :: M=N at *
 refine ga fun NX hNX=>?_
 walk_at "rd"
 refine HU (SqL.of e1) fun pa HA hpa sA eA=>?_
 walk_at "rd"
 refine HU (SqL.of (sA _ _ e1)) fun pb HB hpb sB eB=>?_
 walk_at "rd"
 rw [Fx es tn (by omega)] at eA
 rw [Fw es tn (by omega)] at eB
 refine rS (sB _ _ eA) eB (by rw [LI]; simp; omega) fun pc HC hpc sC eC=>?_
 have s1C:=(sA.trans sB).trans sC
 have dr:=C8 h1 tn
 have hc:Paired (ju (fun l=>l∉N) H1) (es.drop tn++es.take tn) (ds.drop tn++ds.take tn):=lp dr.2 dr.1
 have npc:pc∉N:=(t1.same (sA.trans sB)).off hpc
 have lc:(ds.drop tn++ds.take tn).length=ds.length:=by rw [LY,P0,M6]; omega
 have okc:∀ d∈ds.drop tn++ds.take tn,d.Ok T.c T.k:=fun d hd=>by
  rcases Mm.mp hd with z | z
  ·exact hok d (List.mem_of_mem_drop z)
  ·exact hok d (SC z)
 generalize ds.drop tn++ds.take tn=dc at *
 generalize es.drop tn++es.take tn=ec at *
 refine lD ec (SqL.of eC) (fun j σ H2=>∃ (u:Option V),σ=[some (.ref x),some (.ref pd),some (.int tn),some (.ref x'),u]/\Kp [pv',pe'] HC H2/\Tb G N H2 x' pv' pe' ((dc.take j).foldl TM.deed T)) ⟨none,rfl,Kp.of (ap.refl _),t1'.same s1C⟩ ?_ ?_ ?_
 ·rintro j σ H2 hj ⟨u,rfl,k2,_⟩
  exact SqL.of (k2.lst (fun z=>npc (sub1 _ z)) eC)
 ·rintro j y σ H2 hy ⟨u,rfl,k2,t2⟩
  obtain ⟨d,hd,hD⟩:=bQ hc hy
  obtain ⟨f1,f2,f3⟩:=vt T (dc.take j)
  have lt:(dc.take j).length<=dc.length:=by rw [M6]; exact Rr _ _
  walk_at "rd"
  refine ⟨N,x',pv',pe',_,y,d,rfl,t2,hD.to (fun _ _ e=>k2.tup (s1C _ _ e)) (fun l xs n e=>⟨k2.lst (fun z=>n (sub1 _ z)) (s1C _ _ e),n⟩),by rw [f1,f2]; exact okc d (LU hd),by omega,fun p5 Hm H5 k5 t5 hp5 s5 e5=>?_⟩
  walk_at "rd"
  exact ⟨_,rfl,(k2.trans k5).trans (Kp.of s5),by rw [cK hd,PJ]; exact t5.same s5⟩
 ·rintro σ H2 ⟨u,rfl,k2,t2⟩
  refine hNX _ _ ?_
  clear hNX
  rw [MN hc,Mw] at t2
  have e2:=k2.lst (fun z=>npd' (sub1 _ z)) (s1C _ _ e1)
  have x2:Tb G N H2 x pv pe T:=(t1.same s1C).kp k2 sub1 nv2 ne2
  have k1:∀ {b:Addr} {xs:List V},H1 b=some (.tup xs)->H2 b=some (.tup xs):=fun e=>k2.tup (s1C _ _ e)
  have kH:Kp [pv,pe] H H2:=⟨fun b o e _=>by
   have hb:b∉[pv',pe']:=fun z=>by
    rcases LA.mp z with z | z
    ·rw [z,hpv'] at e; cases e
    ·rw [LB.mp z,hpe'] at e; cases e
   exact k2.lst hb (s1C _ _ (s1 _ _ e)),fun b hb=>s1.free (s1C.free (k2.f b hb))⟩
  refine ga fun NX hNX=>?_
  walk_at "rd"
  refine Kv ?_
  walk_at "rd"
  refine Kw es (SqL.of e2) (fun j σ H3=>∃ (u:Option V),σ=[some (.ref x),some (.ref pd),some (.int tn),some (.ref x'),u]/\Kp [pv,pe] H2 H3/\Tb G N H3 x pv pe ((ds.reverse.take j).foldl TM.deed T)) ⟨u,rfl,Kp.of (ap.refl _),x2⟩ ?_ ?_ ?_
  ·rintro j σ H3 hj ⟨u,rfl,k3,_⟩
   exact SqL.of (k3.lst (fun z=>npd' (sub2 _ z)) e2)
  ·rintro j y σ H3 hj hy ⟨u,rfl,k3,t3⟩
   obtain ⟨d,hd,hD⟩:=bQ h1 hy
   have hr:ds.reverse[j]?=some d:=by rw [List.getElem?_reverse (by omega),<-les]; exact hd
   obtain ⟨f1,f2,f3⟩:=vt T (ds.reverse.take j)
   have lt:(ds.reverse.take j).length<=ds.length:=by rw [M6,SY]; exact Rr _ _
   walk_at "rd"
   refine ⟨N,x,pv,pe,_,y,d,rfl,t3,hD.to (fun _ _ e=>k3.tup (k1 e)) (fun l xs n e=>⟨k3.lst (fun z=>n (sub2 _ z)) (k2.lst (fun z=>n (sub1 _ z)) (s1C _ _ e)),n⟩),by rw [f1,f2]; exact hok d (LU hd),by omega,fun p5 Hm H5 k5 t5 hp5 s5 e5=>?_⟩
   walk_at "rd"
   exact ⟨_,rfl,(k3.trans k5).trans (Kp.of s5),by rw [cK hr,PJ]; exact t5.same s5⟩
  ·rintro σ H3 ⟨u,rfl,k3,t3⟩
   refine hNX _ _ ?_
   rw [les,<-SY,Mw] at t3
   walk_at "rd"
   subst hM
   exact q x' pv' pe' H3 (kH.trans k3) (t2.kp k3 sub2 nv ne) t3
end
noncomputable def tX (K : Fg) (a b c : Addr) : It :=
  ⟨fun i H => ∃ xs ys zs x y z, SqL K H a xs ∧ SqL K H b ys ∧ SqL K H c zs ∧ xs[i]? = some x ∧ ys[i]? = some y ∧ zs[i]? = some z,
   fun i H x H' => ∃ T u v w, H T = none ∧ x = .ref T ∧ H' = upd H T (.tup [u, v, w]) ∧ ∀ xs ys zs, SqL K H a xs → SqL K H b ys → SqL K H c zs → xs[i]? = some u ∧ ys[i]? = some v ∧ zs[i]? = some w,
   fun i H => ∃ xs ys zs, SqL K H a xs ∧ SqL K H b ys ∧ SqL K H c zs ∧ min xs.length (min ys.length zs.length) = i⟩
noncomputable def C9 (K:Fg) (ta:TA):TI:=fun σ H R=>ta σ H fun vs H1=>∃ a b c xs ys zs,vs=[.ref a,.ref b,.ref c]/\SqL K H1 a xs/\SqL K H1 b ys/\SqL K H1 c zs/\R (tX K a b c) H1
theorem Jc {K:Fg} {ta:TA} {σ:St} {H:Hp} {R:It->Hp->Prop} (h:ta σ H fun vs H1=>∃ a b c xs ys zs,vs=[.ref a,.ref b,.ref c]/\SqL K H1 a xs/\SqL K H1 b ys/\SqL K H1 c zs/\R (tX K a b c) H1):C9 K ta σ H R:=h
theorem Jd {K:Fg} {i j k:Nat} {a:Addr} {x y z:V} {σ:St} {H:Hp} {R:St->Hp->Prop} (e:SqT K H a [x,y,z]) (h:R (((σ.set i (some x)).set j (some y)).set k (some z)) H):ic K 3 (bC (am i) (bC (am j) (bC (am k) ib))) (.ref a) σ H R:=⟨a,_,rfl,e,rfl,_,_,rfl,_,_,rfl,_,_,rfl,rfl,h⟩
theorem Je {K:Fg} {g:TG} {tb:TS} {NX:St->Hp->Prop} {RT:VK} {σ:St} {H:Hp} {a b c:Addr} (xs ys zs:List V) (hx:SqL K H a xs) (hy:SqL K H b ys) (hz:SqL K H c zs) (Pv:Nat->St->Hp->Prop) (h0:Pv 0 σ H) (hl:∀ i σ H,Pv i σ H->SqL K H a xs/\SqL K H b ys/\SqL K H c zs)
  (hs:∀ i x y z T σ H H',xs[i]?=some x->ys[i]?=some y->zs[i]?=some z->Pv i σ H->H T=none->ap H H'->H' T=some (.tup [x,y,z])->g (.ref T) σ H' fun σ2 H2=>tb { nx:=Pv (i + 1),rt:=RT,bk:=NX,ct:=Pv (i + 1) } σ2 H2) (hd:∀ σ H,Pv (min xs.length (min ys.length zs.length)) σ H->NX σ H):
  ∃ a' b' c' xs' ys' zs',[V.ref a,V.ref b,V.ref c]=[.ref a',.ref b',.ref c']/\SqL K H a' xs'/\SqL K H b' ys'/\SqL K H c' zs'/\∃ W:Nat->Nat->St->Hp->Prop,(∃ m,W 0 m σ H)/\∀ i m σ H,W i m σ H->
   ((tX K a' b' c').stop i H/\NX σ H)\/((tX K a' b' c').go i H/\∃ N:St->Hp->Prop,(∀ σ' H',N σ' H'->∃ m',m' < m/\W (i + 1) m' σ' H')/\∀ x H',(tX K a' b' c').yld i H x H'->g x σ H' fun σ2 H2=>tb { nx:=N,rt:=RT,bk:=NX,ct:=N } σ2 H2):=by
 refine ⟨a,b,c,xs,ys,zs,rfl,hx,hy,hz,zB (J:=tX K a b c) (n:=min xs.length (min ys.length zs.length)) (D:={ nx:=NX,rt:=RT }) (Y:=fun i H x H1=>∃ T u v w,H T=none/\x=.ref T/\H1=upd H T (.tup [u,v,w])/\xs[i]?=some u/\ys[i]?=some v/\zs[i]?=some w) Pv h0 (fun i σ H hi w=>?_) (fun σ H w=>?_) (fun i σ H x H1 hi w y=>?_) (fun i x σ H H1 hi w y=>?_) hd⟩
 ·obtain ⟨q1,q2,q3⟩:=hl i σ H w
  exact ⟨xs,ys,zs,xs[i],ys[i],zs[i],q1,q2,q3,by simp [show i < xs.length by omega],by simp [show i < ys.length by omega],by simp [show i < zs.length by omega]⟩
 ·obtain ⟨q1,q2,q3⟩:=hl _ σ H w
  exact ⟨xs,ys,zs,q1,q2,q3,rfl⟩
 ·obtain ⟨T,u,v,t,e1,e2,e3,e4⟩:=y
  obtain ⟨q1,q2,q3⟩:=hl _ σ H w
  obtain ⟨e5,e6,e7⟩:=e4 xs ys zs q1 q2 q3
  exact ⟨T,u,v,t,e1,e2,e3,e5,e6,e7⟩
 ·obtain ⟨T,u,v,t,e1,rfl,rfl,e4,e5,e6⟩:=y
  exact hs i u v t T σ H _ e4 e5 e6 w e1 (aZ e1 _) az
noncomputable def zb:List V->Hp->VK->Prop:=fun xs H Q=>∃ (p:Addr) (n:Nat),xs=[.ref p]/\H p=some (.rng 0 (n:Int))/\n<=1000000/\New H (.tup ((LO n).map fun (i:Nat)=>V.int ((i:Nat):Int))) fun p H2=>Q (.ref p) H2
noncomputable def Ib (ta:TA):TE:=tCB zb (aa (tCB CU ta) af)
theorem Lc {H:Hp} {Q:VK} {n:Nat} (hn:n<=1000000) (h:New H (.tup ((LO n).map fun (i:Nat)=>V.int ((i:Nat):Int))) fun p H2=>Q (.ref p) H2):New H (.rng 0 (n:Int)) fun p H2=>zb [.ref p] H2 Q:=
 fun p H' _ s e=>⟨p,n,rfl,e,hn,fun l H2 hl s2 e2=>h l H2 (s.free hl) (s.trans s2) e2⟩
theorem Ky {σ:St} {H:Hp} {Q:VK} {ta:TA} (h:ta σ H fun vs H1=>∃ n:Nat,vs=[.int (n:Int)]/\n<=1000000/\New H1 (.rng 0 (n:Int)) fun p H2=>zb [.ref p] H2 Q):Ib ta σ H Q:=h
section
variable {g:CF TG} {tt:CF TT} {te:CF TE} {σ₀:St} {Q:VK} {H:Hp} {K:Fg}
end
section
open KF
noncomputable def mi (_:Fg) (G:GF):Sp:=fun vs H Q _=>∃ (M:List Addr) (x pv pe wp gp:Addr) (T:TM) (g:List Nat) (v:V) (s:Sy),vs=[.ref x,.ref wp,.ref gp,v]/\Tb G M H x pv pe T/\H wp=some (.tup (av (LO T.k)))/\H gp=some (.tup (av g))/\g.Pairwise (· < ·)/\(∀ h∈g,h < T.k)/\aK H v s/\s.Ok T.c T.k/\s.alone=true/\s.words<=16/\T.ds.length < 900/\
 ∀ H',Kp [pv,pe] H H'->Tb G M H' x pv pe (T.word (LO T.k) s)->Q (.bl true) H'
noncomputable def kl (K:Fg) (G:GF):TS:=(ar (aE (dv G.Table "word" (iD K G) [] E0 (ab 0) (aa (ab 1) (aa (ab 3) af))) (am 4))
 (ar (aE (dv G.Table "truths" (b9 K G) [] E0 (ab 0) (aa (bz (aa (tC (.str "common")) (aa (ab 2) (aa (ab 3) af)))) af)) (am 5))
 (ar (aE (dv G.Table "truths" (b9 K G) [] E0 (ab 0) (aa (bz (aa (tC (.str "common")) (aa (ab 2) (aa (bz (aa (tC (.str "not")) (aa (ab 3) af))) af)))) af)) (am 6))
 (ar (cS (C9 K (aa (ab 4) (aa (ab 5) (aa (ab 6) af)))) (ic K 3 (bC (am 7) (bC (am 8) (bC (am 9) ib)))) (bB (tOr (tD (tB (ab 7)) (eU (tB (ab 8)))) (tD (eU (tB (ab 7))) (eU (tB (ab 9))))) (aI (tC (.bl false))) bh))
 (aI (tOp (qQ K false) (dv G.Table "truths" (b9 K G) [] E0 (ab 0) (aa (ab 3) af)) (ab 4)))))))
noncomputable abbrev Bw:List Str:=["_law_table","_law_whole","_law_group_here","_law_word","_law_facts","_law_yes","_law_no","_law_fact","_law_one","_law_other"]
theorem oq {n j:Nat} {P:Nat->Prop} {x:V} (h:(blV n P)[j]?=some x):∃ b:Bool,x=.bl b/\(b=true↔P j):=by
 unfold blV at h
 rw [LS] at h
 obtain ⟨i,hi,rfl⟩:=PR.mp h
 have hj:j < n:=by have:=(LD.mp hi).1; rw [Nb] at this; exact this
 rw [M8 hj] at hi
 cases hi
 exact ⟨_,rfl,by simp⟩
theorem AD {K:Fg} {G:GF} {vs:List V} {H:Hp} {Q:VK} {E:XK} (h:mi K G vs H Q E):kl K G { nx:=fun _ H'=>Q .non H',rt:=Q } (start Bw vs) H:=by
 obtain ⟨M,x,pv,pe,wp,gp,T,g,v,s,rfl,t,ewp,egp,pw,hg,hS,hok,al,hw,hds,q⟩:=h
 show kl K G _ [some _,some _,some _,some _,none,none,none,none,none,none] _
 unfold kl
 have AT:∀ {H:Hp} {T:TM},Tb G M H x pv pe T->∃ dx fs,H x=some (.ins G.Table dx fs)/\fs.lookup ("truths":Str)=none:=fun t=>t.at "truths" (by decide +kernel) (by decide +kernel) (by decide +kernel) (by decide +kernel) (by decide +kernel) (by decide +kernel)
 refine bg ?_
 walk_at "rs"
 obtain ⟨dx1,fs1,hx1,hl1⟩:=t.at "word" (by decide +kernel) (by decide +kernel) (by decide +kernel) (by decide +kernel) (by decide +kernel) (by decide +kernel)
 refine dW ?_
 walk_at "rs"
 refine ⟨x,dx1,fs1,rfl,hx1,hl1,?_⟩
 walk_at "rs"
 refine ⟨M,x,pv,pe,wp,T,LO T.k,v,s,rfl,t,ewp,Om,(fun h hh=>Nf.mp hh),hS,hok,by omega,by omega,fun pf Hm H1 k1 t1 hpf s1 e1=>?_⟩
 have tr:=t1.same s1
 have kH:Kp [pv,pe] H H1:=k1.trans (Kp.of s1)
 have hS1:=hS.keep kH.keep
 have eg1:=kH.tup egp
 have hk:(T.word (LO T.k) s).k=T.k:=rfl
 have hc:(T.word (LO T.k) s).c=T.c:=rfl
 have hn:(T.word (LO T.k) s).n=T.n:=rfl
 walk_at "rs"
 refine bg ?_
 walk_at "rs"
 obtain ⟨dx2,fs2,hx2,hl2⟩:=AT tr
 refine dW ?_
 walk_at "rs"
 refine ⟨x,dx2,fs2,rfl,hx2,hl2,?_⟩
 walk_at "rs"
 refine ⟨by simp [LI],fun ta H2 hta s2 e2=>?_⟩
 walk_at "rs"
 refine ⟨M,x,pv,pe,_,.ref ta,.common g s,rfl,tr.same s2,⟨ta,gp,v,rfl,e2,s2 _ _ eg1,hS1.keep s2.keep⟩,⟨⟨pw,hg⟩,hok⟩,by show s.words + 1<=30; omega,fun py H3 hpy s3 e3=>?_⟩
 walk_at "rs"
 refine bg ?_
 walk_at "rs"
 have s13:=s2.trans s3
 obtain ⟨dx3,fs3,hx3,hl3⟩:=AT (tr.same s13)
 refine dW ?_
 walk_at "rs"
 refine ⟨x,dx3,fs3,rfl,hx3,hl3,?_⟩
 walk_at "rs"
 refine ⟨by simp [LI],fun tb H4 htb s4 e4=>?_⟩
 walk_at "rs"
 refine ⟨by simp [LI],fun td H5 htd s5 e5=>?_⟩
 walk_at "rs"
 have s15:=(s13.trans s4).trans s5
 refine ⟨M,x,pv,pe,_,.ref td,.common g (.not s),rfl,tr.same s15,⟨td,gp,.ref tb,rfl,e5,s15 _ _ eg1,⟨tb,v,rfl,s5 _ _ e4,hS1.keep s15.keep⟩⟩,⟨⟨pw,hg⟩,hok⟩,by show s.words + 1 + 1<=30; omega,fun pn H6 hpn s6 e6=>?_⟩
 walk_at "rs"
 have s16:=s15.trans s6
 have ef:=s16 _ _ e1
 have ey:=s6 _ _ (s5 _ _ (s4 _ _ e3))
 refine ga fun NX hNX=>?_
 walk_at "rd"
 refine Jc ?_
 walk_at "rd"
 refine Je _ _ _ (SqL.of ef) (SqL.of ey) (SqL.of e6) (fun j σ H7=>∃ (u7 u8 u9:Option V),σ=[some (.ref x),some (.ref wp),some (.ref gp),some v,some (.ref pf),some (.ref py),some (.ref pn),u7,u8,u9]/\ap H6 H7) ⟨none,none,none,rfl,ap.refl _⟩ ?_ ?_ ?_
 ·rintro j σ H7 ⟨u7,u8,u9,rfl,s7⟩
  exact ⟨SqL.of (s7 _ _ ef),SqL.of (s7 _ _ ey),SqL.of (s7 _ _ e6)⟩
 ·rintro j y1 y2 y3 TT σ H7 H8 h1 h2 h3 ⟨u7,u8,u9,rfl,s7⟩ hT s8 eT
  refine Jd (SqT.of eT) ?_
  obtain ⟨b1,rfl,i1⟩:=oq h1
  obtain ⟨b2,rfl,i2⟩:=oq h2
  obtain ⟨b3,rfl,i3⟩:=oq h3
  have done:∀ {σ':St},σ'=[some (.ref x),some (.ref wp),some (.ref gp),some v,some (.ref pf),some (.ref py),some (.ref pn),some (.bl b1),some (.bl b2),some (.bl b3)]->∃ (u7 u8 u9:Option V),σ'=[some (.ref x),some (.ref wp),some (.ref gp),some v,some (.ref pf),some (.ref py),some (.ref pn),u7,u8,u9]/\ap H6 H8:=fun e=>⟨_,_,_,e,s7.trans s8⟩
  cases b1 with
  | true=>
   have t2:b2=true:=i2.mpr (GR t.ok al hg (i1.mp rfl))
   subst t2
   walk_at "rd"
   exact done rfl
  | false=>
   have t3:b3=true:=i3.mpr (I0 t.ok al hg (fun z=>LM (i1.mpr z)))
   subst t3
   walk_at "rd"
   exact done rfl
 ·rintro σ H7 ⟨u7,u8,u9,rfl,s7⟩
  refine hNX _ _ ?_
  clear hNX
  have s17:=s16.trans s7
  walk_at "rd"
  obtain ⟨dx8,fs8,hx8,hl8⟩:=AT (tr.same s17)
  refine dW ?_
  walk_at "rd"
  refine ⟨x,dx8,fs8,rfl,hx8,hl8,?_⟩
  walk_at "rd"
  refine ⟨M,x,pv,pe,_,v,s,rfl,tr.same s17,hS1.keep s17.keep,hok,by omega,fun pz H8 hpz s8 e8=>?_⟩
  walk_at "rd"
  have e8':H8 pz=some (.lst (blV T.n (T.tr s))):=by
   rw [e8]
   refine congrArg (fun l=>some (HO.lst l)) ?_
   show blV T.n _=blV T.n _
   unfold blV
   refine Nq fun i _=>?_
   rw [show (T.word (LO T.k) s).tr s i=T.tr s i from propext (eY al)]
  refine wA 1 (by decide) (uW (SqL.of e8') (SqL.of (s8 _ _ (s7 _ _ ef))) (GD _ _)) ?_
  walk_at "rd"
  exact q H8 (kH.trans (Kp.of (s17.trans s8))) (tr.same (s17.trans s8))
theorem xR {ss:List Nat} (h:kM 0 ss):kM 1 ss:=⟨by decide,h.l1,h.l5,by have:=h.sum; omega⟩
theorem Da {ss:List Nat} (h:kM 1 ss):KM.ck 1 ss<=2000:=Me (Nat.le_of_dvd (by decide) ⟨_,(KM.pj ss 1 h.sum).symm⟩) (show KM.aR 1<=2000 by decide)
theorem Bx {K:Fg} {H:Hp} {a b:Addr} {ws:List (List Nat)} (h1:bt H a ws) (h2:bt H b ws):gQ K H 2 (.ref a) (.ref b):=by
 obtain ⟨rs,e1,p1⟩:=h1
 obtain ⟨ts,e2,p2⟩:=h2
 refine .lst (SqL.of e1) (SqL.of e2) (by rw [LF,LF,MN p1,MN p2]) fun i x y hx hy=>?_
 obtain ⟨r,hr,rfl⟩:=n9 hx
 obtain ⟨t,ht,rfl⟩:=n9 hy
 obtain ⟨v,hv,ev⟩:=bQ p1 hr
 obtain ⟨w,hw,ew⟩:=bQ p2 ht
 rw [hv] at hw
 cases hw
 exact CT (SqT.of ev) (SqT.of ew) (by rw [eM]; exact xK _)
noncomputable abbrev Kz (K:Fg):Sp:=uI K
noncomputable def zc (K:Fg) (G:GF):TS:=(ar (aE (au (lV K) [] E0 (aa (ab 0) (aa (tC (.int 0)) (aa (tC (.int 60)) af)))) (ic K 2 (bC (am 1) (bC (am 2) ib))))
 (ar (bB (bq (tOp rEq (ab 1) (tC (.int 0)))) (aE (tC (.int 1)) (am 1)) bh)
 (ar (aE (tCB (gi K) (aa (ab 2) af)) (am 3))
 (ar (aE (Ib (aa (ab 3) af)) (am 4))
 (ar (aE (uA G.Table (dz K G) [] E0 (aa (ab 1) (aa (ab 2) af))) (am 5))
 (ar (cS (ff (aa (tOp (rI (fun _ j=>0 < j) fun i j=>.int (i % j)) (au (aP K) [] E0 (aa (ab 0) (aa (tC (.int 7)) af))) (tC (.int 4))) af)) (am 6) (dG (au (gF K G) [] E0 (aa (ab 5) (aa (au (mh K) [] E0 (aa (ab 0) (aa (tOp (rI0 fun i j=>.int (i + j)) (tC (.int 30)) (tOp (rI Oz fun i j=>.int (i * j)) (tC (.int 8)) (ab 6))) (aa (ab 1) (aa (ab 3) af))))) af)))))
 (ar (aE (au (eG K) [] E0 (aa (ab 0) (aa (tC (.int 8)) (aa (ab 1) (aa (ab 3) af))))) (am 7))
 (ar (aE (tOp (rI (fun _ j=>0 < j) fun i j=>.int (i % j)) (au (aP K) [] E0 (aa (ab 0) (aa (tC (.int 24)) af))) (ab 3)) (am 8))
 (ar (aE (dv G.Table "truths" (b9 K G) [] E0 (ab 5) (aa (bz (aa (tC (.str "knows")) (aa (ab 8) (aa (au (eG K) [] E0 (aa (ab 0) (aa (tC (.int 16)) (aa (ab 1) (aa (ab 3) af))))) af)))) af)) (am 9))
 (ar (aE (dv G.Table "again" (gZ K G) [] E0 (ab 5) af) (am 10))
 (ar (bB (eU (tB (au (mi K G) [] E0 (aa (ab 5) (aa (ab 4) (aa (tOp (dR K) (fv (aa (ab 4) (aa (au (cL K) [] E0 (aa (au (aP K) [] E0 (aa (ab 0) (aa (tC (.int 25)) af))) (aa (ab 3) af))) af))) (tOp (rI (fun _ j=>0 < j) fun i j=>.int (i % j)) (au (aP K) [] E0 (aa (ab 0) (aa (tC (.int 26)) af))) (tC (.int 2)))) (aa (ab 7) af))))))) (aI (tC (.bl false))) bh)
 (ar (aE (dv G.Table "truths" (b9 K G) [] E0 (ab 5) (aa (bz (aa (tC (.str "knows")) (aa (ab 8) (aa (au (eG K) [] E0 (aa (ab 0) (aa (tC (.int 16)) (aa (ab 1) (aa (ab 3) af))))) af)))) af)) (am 11))
 (ar (bB (bq (tOp (oY (SqL K) true) (bZ (oZ aB aB K (aa (ab 9) (aa (ab 11) af))) (fun _ _ _ _=>(ic K 2 (bC (am 0) (bC (am 1) ib)))) (fun _ _ _ _=>(tD (tB (ab 0)) (eU (tB (ab 1))))) (fun _ _ _ _=>(ab 0)) [none,none]) (fv af))) (aI (tC (.bl false))) bh)
 (ar (aE (bZ (ff (aa (tC (.int 3)) af)) (fun _ _ _ _=>(am 0)) (fun _ _ _ _=>bK) (fun _ _ _ _=>(tOp (rI (fun _ j=>0 < j) fun i j=>.int (i % j)) (au (aP K) [] E0 (aa (ab 2) (aa (tOp (rI0 fun i j=>.int (i + j)) (tC (.int 27)) (ab 0)) af))) (ab 1))) [none,some 1,some 0]) (am 12))
 (ar (aE (fv (aa (bz (aa (tC (.str "word")) (aa (ab 4) (aa (ab 7) af)))) (aa (bz (aa (tC (.str "word")) (aa (bz (aa (ab 8) af)) (aa (au (eG K) [] E0 (aa (ab 0) (aa (tC (.int 16)) (aa (ab 1) (aa (ab 3) af))))) af)))) af))) (am 13))
 (ar (dG (tBM K "list" iY (ab 13) (aa (bz (aa (tC (.str "show")) (aa (ab 8) (aa (ab 3) (aa (ab 12) af))))) af)))
 (ar (aE (au (jU K G) [] E0 (aa (ab 10) (aa (ab 13) (aa (tOp (rI (fun _ j=>0 < j) fun i j=>.int (i % j)) (au (aP K) [] E0 (aa (ab 0) (aa (tC (.int 28)) af))) (tC (.int 3))) af)))) (am 14))
 (aI (mK (tOp (qQ K false) (au (iF K G) [] E0 (aa (ab 14) (aa (ab 3) af))) (au (iF K G) [] E0 (aa (ab 10) (aa (ab 3) af)))) (tOp (qQ K false) (dv G.Table "deals" (jT K G) [] E0 (ab 5) af) (au (j6 K) [] E0 (aa (ab 1) (aa (ab 2) af)))))))))))))))))))))))
noncomputable abbrev Ld:List Str:=["_law_script","_law_cards","_law_sizes","_law_hands","_law_whole","_law_table","_law_k","_law_word","_law_hand","_law_known","_law_beside","_law_later","_law_some","_law_deeds","_law_other"]
theorem KA {K:Fg} {G:GF} {vs:List V} {H:Hp} {Q:VK} {E:XK} (h:Kz K vs H Q E):zc K G { nx:=fun _ H'=>Q .non H',rt:=Q } (start Ld vs) H:=by
 obtain ⟨a,ns,rfl,hSc0,g⟩:=h
 show zc K G _ [some _,none,none,none,none,none,none,none,none,none,none,none,none,none,none] _
 unfold zc
 refine bg ?_
 walk_at "rs"
 refine ⟨a,ns,0,60,rfl,hSc0,by decide,by decide,by decide,fun c0 ss tp q H1 s1 htp hq e1 eq1 pk0 hm=>?_⟩
 refine ik (SqT.of e1) ?_
 have hSc:=hSc0.same s1
 walk_at "rs"
 refine ga fun NX hNX=>?_
 have key:∀ c:Nat,1<=c->kM c ss->KM.ck c ss<=2000->NX [some (.ref a),some (.int c),some (.ref q),none,none,none,none,none,none,none,none,none,none,none,none] H1:=by
  intro c hc pk few
  refine hNX _ _ ?_
  clear hNX
  have h1:=pk.l1
  have h5:=pk.l5
  have c12:=pk.c12
  have okB:=TM.Ok.begun pk few
  refine bg ?_
  walk_at "rs"
  rw [bj]
  refine bg ?_
  walk_at "rs"
  refine Ky ?_
  walk_at "rs"
  refine ⟨ss.length,rfl,by omega,Lc (by omega) fun wp Hw hwp sw ew=>?_⟩
  refine bg (lj (Ft ?_))
  walk_at "rd"
  intro x dx hx hdx hne
  have st:ap Hw (upd (upd Hw dx (.own x)) x (.ins G.Table dx [])):=((ap.refl Hw).upd hdx _).upd hx _
  refine ⟨[],x,dx,q,c,ss,rfl,az,st _ _ (sw _ _ eq1),pk,few,(fun b hb=>nomatch hb),(fun hb=>nomatch hb),fun H2 pv pe kx hpv hpe t2=>?_⟩
  have s2:ap Hw H2:=fun b o e=>kx _ _ (aS e hx) (st _ _ e)
  have new2:∀ b∈[pv,pe],Hw b=none:=fun b hb=>by
   rcases LA.mp hb with z | z
   ·rw [z]; exact st.free hpv
   ·rw [LB.mp z]; exact st.free hpe
  have hScw:=hSc.same sw
  refine ⟨rfl,?_⟩
  refine ga fun NX hNX=>?_
  walk_at "rd"
  refine ⟨a,ns,7,rfl,hScw.same s2,by decide,by decide,?_⟩
  walk_at "rd"
  obtain ⟨m,hm7,hm4⟩:∃ m:Nat,aU ns 7 % 4=(m:Int)/\m < 4:=⟨(aU ns 7 % 4).toNat,by omega,by omega⟩
  rw [hm7]
  refine jQ m (by omega) (by omega) (by omega) (fun i σ H3=>∃ (u6:Option V) (T:TM),σ=[some (.ref a),some (.int c),some (.ref q),some (.int ss.length),some (.ref wp),some (.ref x),u6,none,none,none,none,none,none,none,none]/\ap Hw H3/\Tb G [pv,pe] H3 x pv pe T/\T.c=c/\T.ss=ss/\T.ds.length=i) ⟨none,_,rfl,s2,t2,rfl,rfl,rfl⟩ ?_ ?_
  ·rintro i σ H3 hi ⟨u6,T,rfl,s3,t3,hTc,hTs,hds⟩
   walk_at "rd"
   refine ⟨a,ns,30 + 8 * (i:Int),c,ss.length,rfl,hScw.same s3,by omega,by omega,h1,h5,fun v d H4 s4 hd ok=>?_⟩
   walk_at "rd"
   have hk:T.k=ss.length:=by unfold TM.k; rw [hTs]
   refine ⟨[pv,pe],x,pv,pe,T,v,d,rfl,t3.same s4,hd.to (fun _ _ e=>e) (fun l xs hl e=>⟨e,t3.off hl⟩),by rw [hTc,hk]; exact ok,by omega,Ku fun p5 H5 hp5 k5 e5 t5=>?_⟩
   walk_at "rd"
   exact ⟨_,T.deed d,rfl,k5.new (s3.trans s4) new2,t5,(md T d).1.trans hTc,(md T d).2.trans hTs,by rw [Cb,hds]⟩
  rintro σ H3 ⟨u6,T,rfl,s3,t3,hTc,hTs,hds⟩
  refine hNX _ _ ?_
  clear hNX
  have hk:T.k=ss.length:=by unfold TM.k; rw [hTs]
  have pok:=fun at_ j=>AA ns at_ (k:=ss.length) hc j
  have sok:∀ at_,(bJ ns at_ c ss.length).Ok T.c T.k/\(bJ ns at_ c ss.length).alone=true/\(bJ ns at_ c ss.length).words<=16:=fun at_=>by
   rw [hTc,hk]
   obtain ⟨z1,z2,z3⟩:=pok at_ (aU ns (at_ + 1) % 6).toNat
   exact ⟨z1,z2,Me z3 (by omega)⟩
  refine bg ?_
  walk_at "rs"
  refine ⟨a,ns,8,c,ss.length,rfl,hScw.same s3,by decide,by decide,hc,fun vw H4 s4 hvw=>?_⟩
  walk_at "rs"
  refine bg ?_
  walk_at "rs"
  refine ⟨a,ns,24,rfl,(hScw.same s3).same s4,by decide,by decide,?_⟩
  walk_at "rs"
  obtain ⟨hd,hhd,hhdk⟩:=kf (aU ns 24) (m:=(ss.length:Int)) (by omega)
  rw [hhd]
  refine bg ?_
  walk_at "rs"
  have t4:=t3.same s4
  obtain ⟨dx4,fs4,hx4,hl4⟩:=t4.at "truths" (by decide +kernel) (by decide +kernel) (by decide +kernel) (by decide +kernel) (by decide +kernel) (by decide +kernel)
  refine dW ?_
  walk_at "rs"
  refine ⟨x,dx4,fs4,rfl,hx4,hl4,?_⟩
  walk_at "rs"
  refine ⟨a,ns,16,c,ss.length,rfl,(hScw.same s3).same s4,by decide,by decide,hc,fun vp H5 s5 hvp=>?_⟩
  walk_at "rs"
  refine ⟨by simp [LI],fun tk H6 htk s6 e6=>?_⟩
  walk_at "rs"
  have s46:=s5.trans s6
  obtain ⟨o1,o2,o3⟩:=sok 16
  obtain ⟨w1,w2,w3⟩:=sok 8
  refine ⟨[pv,pe],x,pv,pe,T,.ref tk,.knows hd (bJ ns 16 c ss.length),rfl,t4.same s46,⟨tk,vp,rfl,e6,hvp.keep s6.keep⟩,⟨by rw [hk]; omega,o1⟩,by show (bJ ns 16 c ss.length).words + 1<=30; omega,fun pk9 H7 hpk9 s7 e7=>?_⟩
  walk_at "rs"
  refine bg ?_
  walk_at "rs"
  have s47:=s46.trans s7
  have t7:=t4.same s47
  obtain ⟨dx7,fs7,hx7,hl7⟩:=t7.at "again" (by decide +kernel) (by decide +kernel) (by decide +kernel) (by decide +kernel) (by decide +kernel) (by decide +kernel)
  refine dW ?_
  walk_at "rs"
  refine ⟨x,dx7,fs7,rfl,hx7,hl7,?_⟩
  walk_at "rs"
  refine ⟨[pv,pe],x,pv,pe,T,rfl,t7,fun x' pv' pe' H8 hx' hpv' hpe' s8 t8'=>?_⟩
  walk_at "rs"
  have t8:Tb G [pv',pe',pv,pe] H8 x pv pe T:=t7.grow (N:=[pv',pe']) s8 (fun b hb=>by
   rcases LA.mp hb with z | z
   ·rw [z]; exact hpv'
   ·rw [LB.mp z]; exact hpe') (fun b hb=>t8'.al b (by
   rcases LA.mp hb with z | z
   ·rw [z]; exact LG
   ·rw [LB.mp z]; exact LJ _ LG))
  refine bg ?_
  walk_at "rs"
  have s38:=(s4.trans s47).trans s8
  have hSc8:=(hScw.same s3).same s38
  have ew8:=s38 _ _ (s3 _ _ ew)
  refine ⟨a,ns,25,rfl,hSc8,by decide,by decide,?_⟩
  walk_at "rs"
  refine ⟨_,ss.length,rfl,h5,fun gp gg H9 s9 e9 pwg hgg=>?_⟩
  walk_at "rs"
  refine ⟨by simp [LI],fun pl H10 hpl s10 e10=>?_⟩
  walk_at "rs"
  have s810:=s9.trans s10
  refine ⟨a,ns,26,rfl,hSc8.same s810,by decide,by decide,?_⟩
  walk_at "rs"
  obtain ⟨go,gol,hat,ego,pgo,hgo⟩:∃ (go:Addr) (gol:List Nat),atI [V.ref wp,V.ref gp] (aU ns 26 % 2)=some (.ref go)/\H10 go=some (.tup (av gol))/\gol.Pairwise (· < ·)/\∀ h∈gol,h < T.k:=by
   by_cases z:aU ns 26 % 2=0
   ·rw [z]
    exact ⟨wp,LO ss.length,rfl,s810 _ _ ew8,Om,fun h hh=>by rw [hk]; exact Nf.mp hh⟩
   ·rw [show aU ns 26 % 2=1 by omega]
    exact ⟨gp,gg,rfl,s10 _ _ e9,pwg,fun h hh=>by rw [hk]; exact hgg h hh⟩
  refine cO (SqL.of e10) hat ?_
  walk_at "rs"
  have t10:=t8.same s810
  refine ⟨[pv',pe',pv,pe],x,pv,pe,wp,go,T,gol,vw,bJ ns 8 c ss.length,rfl,t10,by rw [hk]; exact s810 _ _ ew8,ego,pgo,hgo,hvw.keep ((s47.trans s8).trans s810).keep,w1,w2,w3,by omega,fun H11 k11 t11=>?_⟩
  walk_at "rs"
  have s3A:ap Hw H10:=s3.trans (s38.trans s810)
  have sw11:ap Hw H11:=k11.new s3A new2
  have hSc11:=hScw.same sw11
  have npk:pk9∉[pv,pe]:=(t4.same s46).off hpk9
  have e11:=k11.lst npk (s810 _ _ (s8 _ _ e7))
  refine bg ?_
  walk_at "rs"
  obtain ⟨dxB,fsB,hxB,hlB⟩:=t11.at "truths" (by decide +kernel) (by decide +kernel) (by decide +kernel) (by decide +kernel) (by decide +kernel) (by decide +kernel)
  refine dW ?_
  walk_at "rs"
  refine ⟨x,dxB,fsB,rfl,hxB,hlB,?_⟩
  walk_at "rs"
  refine ⟨a,ns,16,c,ss.length,rfl,hSc11,by decide,by decide,hc,fun vq H12 s12 hvq=>?_⟩
  walk_at "rs"
  refine ⟨by simp [LI],fun tq H13 htq s13 e13=>?_⟩
  walk_at "rs"
  have s1113:=s12.trans s13
  refine ⟨[pv',pe',pv,pe],x,pv,pe,_,.ref tq,.knows hd (bJ ns 16 c ss.length),rfl,t11.same s1113,⟨tq,vq,rfl,e13,hvq.keep s13.keep⟩,⟨by show hd < T.k; rw [hk]; omega,o1⟩,by show (bJ ns 16 c ss.length).words + 1<=30; omega,fun pl9 H14 hpl9 s14 e14=>?_⟩
  walk_at "rs"
  have s1114:=s1113.trans s14
  have n2:=t3.ok.n2
  refine bg ?_
  walk_at "rs"
  have ek:=s1114 _ _ e11
  refine nY (S1:=aB) (S2:=aB) _ _ (SqL.of ek) (SqL.of e14) (fun H' s=>SqL.of (s _ _ ek)) (fun H' s=>SqL.of (s _ _ e14)) (by rw [cy]; omega) (fun _ acc _=>acc=[]) (fun _ _=>rfl) ?_ ?_
  ·rintro p' hp' C s' H' fp j y1 y2 TT acc Ha Hb h1' h2' ⟨sa,ea,la,rfl⟩ hT sb eT eb
   refine ik (SqT.of eT) ?_
   have hjn:j < T.n:=by have:=(LD.mp h1').1; rw [cy] at this; exact this
   obtain ⟨b1,rfl,i1⟩:=oq h1'
   obtain ⟨b2,rfl,i2⟩:=oq h2'
   cases b1 with
   | true=>
    have t2':b2=true:=i2.mpr (C5 t3.ok o2 (by rw [hk]; omega) hjn (i1.mp rfl))
    subst t2'
    walk_at "rd"
    exact bu.skip (sa.trans sb) eb la rfl
   | false=>
    walk_at "rd"
    exact bu.skip (sa.trans sb) eb la rfl
  rintro pz acc H15 hpz s15 e15 rfl
  walk_at "rs"
  refine ⟨by simp [LI],fun pz2 H16 hpz2 s16 e16=>?_⟩
  walk_at "rs"
  refine K5 (ns:=[]) (ms:=[]) (SqL.of (s16 _ _ e15)) (SqL.of e16) ?_
  walk_at "rs"
  rw [if_neg (by decide)]
  walk_at "rs"
  have s1116:=(s1114.trans s15).trans s16
  have sw16:=sw11.trans s1116
  have nv':pv'∉[pv,pe]:=fun z=>by
   rcases LA.mp z with z | z
   ·exact t7.al _ t7.mv (z ▸ hpv')
   ·exact t7.al _ t7.me (LB.mp z ▸ hpv')
  have ne':pe'∉[pv,pe]:=fun z=>by
   rcases LA.mp z with z | z
   ·exact t7.al _ t7.mv (z ▸ hpe')
   ·exact t7.al _ t7.me (LB.mp z ▸ hpe')
  have sub11:∀ b∈[pv,pe],b∈[pv',pe',pv,pe]:=fun b hb=>LJ _ (LJ _ hb)
  have tb16:Tb G [pv',pe',pv,pe] H16 x' pv' pe' T:=((t8'.same s810).kp k11 sub11 nv' ne').same s1116
  have tx16:=t11.same s1116
  refine bg ?_
  walk_at "rs"
  refine tM 3 (by decide) (by decide) (by decide) (fun j acc _=>∃ ms:List Int,acc=ms.map V.int/\ms.length=j/\∀ n∈ms,0<=n/\n < (c:Int)) (fun _ _=>⟨[],rfl,rfl,fun _ z=>nomatch z⟩) ?_ ?_
  ·rintro p' hp' C s' H' fp j acc Ha hj ⟨sa,ea,la,ms,rfl,lm,hms⟩
   walk_at "rd"
   refine ⟨a,ns,27 + (j:Int),rfl,(hScw.same sw16).same sa,by omega,by omega,?_⟩
   walk_at "rd"
   refine bu.put hp' (fun _ _ _ _ r _=>r) sa ea la ⟨ms++[aU ns (27 + (j:Int)) % (c:Int)],by rw [Ma]; rfl,by simp [lm],fun n hn=>?_⟩
   rcases Mm.mp hn with z | z
   ·exact hms n z
   ·rw [LB.mp z]
    exact ⟨M4 _ (by omega),MS _ (by omega)⟩
  rintro pm acc H17 hpm s17 e17 ⟨ms,rfl,lm,hms⟩
  walk_at "rs"
  refine bg ?_
  walk_at "rs"
  refine ⟨by simp [LI],fun d1 H18 hd1 s18 e18=>?_⟩
  walk_at "rs"
  refine ⟨by simp [LI],fun hp1 H19 hhp1 s19 e19=>?_⟩
  walk_at "rs"
  refine ⟨a,ns,16,c,ss.length,rfl,(((hScw.same sw16).same s17).same s18).same s19,by decide,by decide,hc,fun vr H20 s20 hvr=>?_⟩
  walk_at "rs"
  refine ⟨by simp [LI],fun d2 H21 hd2 s21 e21=>?_⟩
  walk_at "rs"
  refine ⟨by simp [LI],fun pd H22 hpd s22 e22=>?_⟩
  walk_at "rs"
  refine bg ?_
  walk_at "rs"
  refine ⟨.inl ⟨rfl,_,SqL.of e22⟩,?_⟩
  walk_at "rs"
  refine ⟨by simp [LI],fun d3 H23 hd3 s23 e23=>?_⟩
  walk_at "rs"
  refine lQ (s23 _ _ e22) (by rw [LI]; simp) fun H24 o24 e24=>?_
  walk_at "rs"
  have s1623:ap H16 H21:=(((s17.trans s18).trans s19).trans s20).trans s21
  have s2124:ap H21 H24:=fun b o e=>(o24 b (fun z=>by rw [z,hpd] at e; cases e)).trans (s23 _ _ (s22 _ _ e))
  have s1624:=s1623.trans s2124
  have tb24:=tb16.same s1624
  have tx24:=tx16.same s1624
  have sw24:=sw16.trans s1624
  refine bg ?_
  walk_at "rs"
  refine ⟨a,ns,28,rfl,hScw.same sw24,by decide,by decide,?_⟩
  walk_at "rs"
  obtain ⟨tn,htn,htn3⟩:=kf (aU ns 28) (m:=3) (by decide)
  rw [htn]
  have wpE:H24 wp=some (.tup (av (LO ss.length))):=sw24 _ _ ew
  have sy8:aK H24 vw (bJ ns 8 c ss.length):=(hvw.keep (((s47.trans s8).trans s810)).keep).keep (k11.keep.trans (s1116.trans s1624).keep)
  have s1824:ap H18 H24:=((s19.trans s20).trans s21).trans s2124
  have dv1:ju (fun l=>l∉[pv',pe',pv,pe]) H24 (.ref d1) (.word (LO ss.length) (bJ ns 8 c ss.length)):=⟨d1,wp,vw,rfl,s1824 _ _ e18,wpE,sy8⟩
  have dv2:ju (fun l=>l∉[pv',pe',pv,pe]) H24 (.ref d2) (.word [hd] (bJ ns 16 c ss.length)):=⟨d2,hp1,vr,rfl,s2124 _ _ e21,s2124 _ _ (s21 _ _ (s20 _ _ e19)),hvr.keep (s21.trans s2124).keep⟩
  have npd3:d3≠pd:=fun z=>by rw [z,e22] at hd3; cases hd3
  have dv3:ju (fun l=>l∉[pv',pe',pv,pe]) H24 (.ref d3) (.show hd (ss.length:Int) ms):=⟨d3,pm,rfl,(o24 _ npd3).trans e23,(s18.trans s1824) _ _ e17,tb16.off hpm⟩
  have oks:∀ d∈[Dd.word (LO ss.length) (bJ ns 8 c ss.length),.word [hd] (bJ ns 16 c ss.length),.show hd (ss.length:Int) ms],d.plain/\d.Ok T.c T.k:=fun d hdm=>by
   rcases LA.mp hdm with z | z
   ·subst z
    exact ⟨w2,Om,fun h hh=>by rw [hk]; exact Nf.mp hh,w1,Me w3 (by decide)⟩
   ·rcases LA.mp z with z | z
    ·subst z
     exact ⟨o2,PB _ _,fun h hh=>by rw [LB.mp hh,hk]; omega,o1,Me o3 (by decide)⟩
    ·rw [LB.mp z]
     exact ⟨trivial,by rw [hk]; omega,by omega,by rw [hk]; exact Int.le_refl _,by omega,fun n hn=>by rw [hTc]; exact hms n hn⟩
  refine ⟨[pv',pe',pv,pe],x',pv',pe',pd,T,_,[Dd.word (LO ss.length) (bJ ns 8 c ss.length),.word [hd] (bJ ns 16 c ss.length),.show hd (ss.length:Int) ms],tn,rfl,tb24,e24,(tb16.same s1623).off hpd,.cons dv1 (.cons dv2 (.cons dv3 .nil)),fun d hdm=>(oks d hdm).2,LC 3,by show tn<=3; omega,by omega,fun x2 pv2 pe2 H25 k25 t25 u25=>?_⟩
  have hp:((List.drop tn [Dd.word (LO ss.length) (bJ ns 8 c ss.length),.word [hd] (bJ ns 16 c ss.length),.show hd (ss.length:Int) ms])++(List.take tn [Dd.word (LO ss.length) (bJ ns 8 c ss.length),.word [hd] (bJ ns 16 c ss.length),.show hd (ss.length:Int) ms])).Perm [Dd.word (LO ss.length) (bJ ns 8 c ss.length),.word [hd] (bJ ns 16 c ss.length),.show hd (ss.length:Int) ms].reverse:=(List.perm_append_comm.trans (by rw [Ov])).trans (List.reverse_perm _).symm
  generalize [Dd.word (LO ss.length) (bJ ns 8 c ss.length),.word [hd] (bJ ns 16 c ss.length),.show hd (ss.length:Int) ms]=dd at *
  have nv3:pv∉[pv',pe']:=fun z=>by
   rcases LA.mp z with z | z
   ·exact nv' (by rw [<-z]; exact LG)
   ·exact ne' (by rw [<-LB.mp z]; exact LG)
  have ne3:pe∉[pv',pe']:=fun z=>by
   rcases LA.mp z with z | z
   ·exact nv' (by rw [<-z]; exact LJ _ LG)
   ·exact ne' (by rw [<-LB.mp z]; exact LJ _ LG)
  have sub3:∀ b∈[pv',pe'],b∈[pv',pe',pv,pe]:=fun b hb=>by
   rcases LA.mp hb with z | z
   ·rw [z]; exact LG
   ·rw [LB.mp z]; exact LJ _ LG
  have tx25:=tx24.kp k25 sub3 nv3 ne3
  have qn:q∉[pv',pe']:=fun z=>by
   have e7:=(s3.trans (s4.trans s47)) _ _ (sw _ _ eq1)
   rcases LA.mp z with z | z
   ·rw [z,hpv'] at e7; cases e7
   ·rw [LB.mp z,hpe'] at e7; cases e7
  have q25:H25 q=some (.lst (av ss)):=k25.lst (fun z=>qn z) (sw24 _ _ (sw _ _ eq1))
  obtain ⟨f1,f2,f3⟩:=vt T (dd.drop tn++dd.take tn)
  obtain ⟨g1,g2,g3⟩:=vt T dd.reverse
  walk_at "rs"
  refine ⟨_,x2,pv2,pe2,_,ss.length,rfl,f2.trans hk,t25,fun pa H26 hpa s26 va=>?_⟩
  walk_at "rs"
  refine ⟨_,x',pv',pe',_,ss.length,rfl,g2.trans hk,u25.same s26,fun pb H27 hpb s27 vb=>?_⟩
  walk_at "rs"
  refine wA 2 (by decide) ((va.same s27).eqv vb (f2.trans g2.symm) fun i hi=>GT t3.ok hp (fun d hdm=>oks d (List.mem_reverse.mp (hp.mem_iff.mp hdm))) (by rw [<-f2]; exact hi)) ?_
  walk_at "rs"
  have s2527:=s26.trans s27
  have tx27:=tx25.same s2527
  obtain ⟨dxE,fsE,hxE,hlE⟩:=tx27.at "deals" (by decide +kernel) (by decide +kernel) (by decide +kernel) (by decide +kernel) (by decide +kernel) (by decide +kernel)
  refine dW ?_
  walk_at "rs"
  refine ⟨x,dxE,fsE,rfl,hxE,hlE,?_⟩
  walk_at "rs"
  refine ⟨_,x,pv,pe,_,rfl,tx27,fun pdl H28 hpdl s28 d28=>?_⟩
  walk_at "rs"
  refine ⟨c,q,ss,rfl,s28 _ _ (s2527 _ _ q25),pk,few,fun pr H29 s29 hpr d29=>?_⟩
  walk_at "rs"
  refine wA 2 (by decide) (Bx (d28.same' s29) (by show bt H29 pr (TM.ws T); unfold TM.ws; rw [hTc,hTs]; exact d29)) ?_
  walk_at "rs"
  exact g _
 walk_at "rs"
 by_cases z:c0=0
 ·subst z
  rw [if_pos (by decide)]
  walk_at "rs"
  exact key 1 (LC _) (xR pk0) (Da (xR pk0))
 ·rw [if_neg (by simpa using z)]
  walk_at "rs"
  exact key c0 (by omega) pk0 (by omega)
end
section
open PySem.Spec
theorem DA.stay {a:Addr} {kvs:List (IA×V)} {h1 h2:Heap} (d:DA a kvs h1) (k:∀ o,h1.get? a=some o->h2.get? a=some o):DA a kvs h2:=by
 obtain ⟨z,y,P,w,vs,r,o,es,ep,e,c⟩:=d
 exact ⟨z,y,P,w,vs,r,o,es,ep,k _ e,c⟩
theorem DB.stay {a:Addr} {zs:List (List IK×Addr×V)} {h1 h2:Heap} (d:DB a zs h1) (k:∀ o,h1.get? a=some o->h2.get? a=some o):DB a zs h2:=by
 obtain ⟨z,y,xs,r,o,es,ep,e,c⟩:=d
 exact ⟨z,y,xs,r,o,es,ep,k _ e,c⟩
theorem DA.ok {P:Program} {w:World} {H:Hp} {h:Heap} {a:Addr} {kvs:List (IA×V)} (d:DA a kvs h):bA P w H h a (dA a kvs):=by
 obtain ⟨_,_,_,_,_,_,o,_,_,e,_⟩:=id d
 exact ⟨d,⟨o,e⟩,fun _ _ d k=>d.stay k⟩
theorem DB.ok {P:Program} {w:World} {H:Hp} {h:Heap} {a:Addr} {zs:List (List IK×Addr×V)} (d:DB a zs h):bA P w H h a (dB a zs):=by
 obtain ⟨_,_,_,_,o,_,_,e,_⟩:=id d
 exact ⟨d,⟨o,e⟩,fun _ _ d k=>d.stay k⟩
theorem ZX.length {zs:List (List IK×Addr×V)} {xs:List (List IK×Addr×Value)} (r:ZX zs xs):zs.length=xs.length:=MN r
theorem ZX.val {zs:List (List IK×Addr×V)} {xs:List (List IK×Addr×Value)} (r:ZX zs xs) (k:List IK):h9 (atZ zs k) ((atKey xs k).map (·.2)):=by
 unfold ZX at r
 induction r with
 | nil=>exact Oj
 | @cons p q ps qs h t ih=>
  obtain ⟨h1,_,h2⟩:=h
  by_cases e:p.1=k
  ·have e':q.1=k:=h1.symm.trans e
   have b:atKey (q :: qs) k=some q.2:=by simp [atKey,Mu,e']
   have c:atZ (p :: ps) k=some p.2.2:=by simp [atZ,Mu,e]
   rw [c,b]; exact h2
  ·have e':¬ q.1=k:=fun z=>e (h1.trans z)
   have b:atKey (q :: qs) k=atKey qs k:=by simp [atKey,Mu,e']
   have c:atZ (p :: ps) k=atZ ps k:=by simp [atZ,Mu,e]
   rw [c,b]; exact ih
noncomputable def mj (zs:List (List IK×Addr×V)) (k:List IK) (b:Addr) (v:V):List (List IK×Addr×V):=
 if (atZ zs k).isSome then zs.map (fun x=>if x.1=k then (x.1,x.2.1,v) else x) else zs++[(k,b,v)]
theorem ZX.repl {zs:List (List IK×Addr×V)} {xs:List (List IK×Addr×Value)} (r:ZX zs xs) (k:List IK) {v:V} {u:Value} (rv:aH v u):ZX (zs.map fun x=>if x.1=k then (x.1,x.2.1,v) else x) (xs.map (putAt k u)):=by
 unfold ZX at r ⊢
 induction r with
 | nil=>exact .nil
 | @cons p q ps qs h t ih=>
  rw [LZ,LZ]
  refine .cons ?_ ih
  obtain ⟨h1,h2,h3⟩:=h
  unfold putAt
  by_cases e:p.1=k
  ·rw [if_pos e,if_pos (h1.symm.trans e)]; exact ⟨h1,h2,rv⟩
  ·rw [if_neg e,if_neg (fun z=>e (h1.trans z))]; exact ⟨h1,h2,h3⟩
theorem ZX.put {zs:List (List IK×Addr×V)} {xs:List (List IK×Addr×Value)} (r:ZX zs xs) (k:List IK) {b:Addr} {v:V} {u:Value} (rv:aH v u):ZX (mj zs k b v) (storedH xs k b u):=by
 have e:(atZ zs k).isSome=(atKey xs k).isSome:=by
  rw [(r.val k).isSome_eq,Option.isSome_map]
 unfold mj storedH
 rw [e]
 by_cases q:(atKey xs k).isSome=true
 ·rw [if_pos q,if_pos q]; exact r.repl k rv
 ·rw [if_neg q,if_neg q]; exact Paired.snoc r ⟨rfl,rfl,rv⟩
theorem Jf (zs:List (List IK×Addr×V)) (k j:List IK) (b:Addr) (v:V):atZ (mj zs k b v) j=if j=k then some v else atZ zs j:=by
 have hm:∀ ys:List (List IK×Addr×V),atZ (ys.map fun x=>if x.1=k then (x.1,x.2.1,v) else x) j=(atZ ys j).map fun y=>if j=k then v else y:=by
  intro ys
  induction ys with
  | nil=>rfl
  | cons p r ih=>
   rw [LZ]
   unfold atZ at ih ⊢
   by_cases h:p.1=k
   ·rw [if_pos h]
    by_cases e:p.1=j
    ·simp [Mu,e,e.symm.trans h]
    ·simp [Mu,e]; simpa using ih
   ·rw [if_neg h]
    by_cases e:p.1=j
    ·have:¬ j=k:=fun z=>h (e.trans z)
     simp [Mu,e,this]
    ·simp [Mu,e]; simpa using ih
 have ha:∀ ys:List (List IK×Addr×V),atZ ys k=none->atZ (ys++[(k,b,v)]) j=if j=k then some v else atZ ys j:=by
  intro ys
  induction ys with
  | nil=>
   intro _
   by_cases e:k=j
   ·simp [atZ,Mu,e]
   ·have:¬ j=k:=fun z=>e z.symm
    simp [atZ,Mu,e,this]
  | cons p r ih=>
   intro hn
   have hk:¬ p.1=k:=fun z=>by simp [atZ,Mu,z] at hn
   have hn':atZ r k=none:=by simpa [atZ,Mu,hk] using hn
   have ih':=ih hn'
   by_cases e:p.1=j
   ·have:¬ j=k:=fun z=>hk (e.trans z)
    simp [atZ,Mu,e,this]
   ·have c:atZ (p :: (r++[(k,b,v)])) j=atZ (r++[(k,b,v)]) j:=by simp [atZ,Mu,e]
    have c':atZ (p :: r) j=atZ r j:=by simp [atZ,Mu,e]
    rw [Ud,c,c',ih']
 unfold mj
 cases q:atZ zs k with
 | some y=>
  rw [if_pos (show (some y).isSome=true from rfl),hm]
  by_cases e:j=k
  ·subst e; rw [q,if_pos rfl]; simp
  ·rw [if_neg e]; cases atZ zs j <;> simp [e]
 | none=>rw [if_neg (show ¬ (none:Option V).isSome=true by decide)]; exact ha zs q
theorem sX (zs:List (List IK×Addr×V)) (k:List IK) (b:Addr) (v:V):(mj zs k b v).length<=zs.length + 1:=by
 unfold mj
 split
 ·rw [LF]; omega
 ·rw [LY,Mh,UA]; omega
theorem GV {zs:List (List IK×Addr×V)} {k:List IK} {b:Addr} {v:V} {z:List IK×Addr×V} (h:z∈mj zs k b v):(∃ z0∈zs,z.1=z0.1/\z.2.1=z0.2.1)\/(z.1=k/\z.2.1=b):=by
 unfold mj at h
 split at h
 ·obtain ⟨z0,h0,rfl⟩:=NC.mp h
  refine .inl ⟨z0,h0,?_⟩
  split <;> exact ⟨rfl,rfl⟩
 ·rcases Mm.mp h with h | h
  ·exact .inl ⟨z,h,rfl,rfl⟩
  ·rw [LB.mp h]; exact .inr ⟨rfl,rfl⟩
section
variable {X:Cx} {pins:List (Addr×Obj)} {σ:St} {H:Hp} {s:Shared} {a:Addr} {y v:V} {u r:Value} {A:Around} {E:Value->Shared->Prop} {srt:Bool} {f:MK->Option V} {n:Nat} {k:MK}
theorem zd {k:IA} (h:iaV y=some k) (ry:aH y u):ph k u=true:=by
 cases y with
 | non=>cases h; cases ry; rfl
 | bl b=>cases h; cases ry; simp [ph]
 | int i=>cases h; obtain ⟨t,rfl⟩:=ry; simp [ph]
 | _=>cases h
theorem Cc {P:Program} {w:World}:∀ {ks:List IA} {ys:List V} {us:List Value},ys.map iaV=ks.map some->aG ys us->ItemsAre (dk P w) ks us
 | [],[],_,_,.nil=>.nil
 | k :: ks,y :: ys,_,e,.cons h t=>by
  rw [LZ,LZ] at e
  injection e with e1 e2
  exact .cons (zd e1 h) (Cc e2 t)
 | [],_ :: _,_,e,_=>by simp at e
 | _ :: _,[],_,e,_=>by simp at e
theorem Fy (ok:HOk X.prog X.w H s.heap) {c:Addr} {xs:List V} (e:H c=some (.tup xs)):∃ its,aG xs its/\∃ o n,s.heap.get? c=some o/\o.cls=.type "tuple"/\o.data=.seq its.toArray n:=by
 obtain ⟨_,its,r,o,h1,h2,⟨n,h3⟩,_⟩:=(show bA X.prog X.w H s.heap c (.tup xs) from ok c _ e)
 exact ⟨its,r,o,n,h1,h2,h3⟩
theorem Jg (ok:HOk X.prog X.w H s.heap) {k:IK} (h:mP H y k) (ry:aH y u):cP X.prog X.w s.heap k u:=by
 cases k with
 | inl a=>exact zd h ry
 | inr as=>
  obtain ⟨c,ys,rfl,e,q⟩:=h
  cases ry
  obtain ⟨its,rv,o,n,h1,h2,h3⟩:=Fy ok e
  exact ⟨c,rfl,o,its.toArray,n,h1,h2,h3,by simpa using Cc q rv⟩
theorem GW (ok:HOk X.prog X.w H s.heap) {xs:List V} {ks:List IK} {us:List Value} (p:Paired (mP H) xs ks):aG xs us->Paired (cP X.prog X.w s.heap) ks us:=by
 induction p generalizing us with
 | nil=>intro q; cases q; exact .nil
 | cons h t ih=>intro q; cases q with
  | cons r q=>exact .cons (Jg ok h r) (ih q)
theorem Db (ok:HOk X.prog X.w H s.heap) {c:Addr} {ks:List IK} (h:dj H (.ref c) (.inr ks)):ii X.prog X.w s.heap ks c:=by
 obtain ⟨c',xs,e,ec,q⟩:=h
 cases e
 obtain ⟨its,rv,o,n,h1,h2,h3⟩:=Fy ok ec
 exact ⟨o,its.toArray,n,h1,h2,h3,by simpa using GW ok q rv⟩
theorem Cd (h:dj H y k) (hs:mQ k=true):∃ c ks,y=.ref c/\k=.inr ks:=by
 cases k with
 | inl _=>cases hs
 | inr ks=>obtain ⟨c,xs,e,_⟩:=h; exact ⟨c,ks,e,rfl⟩
theorem Fz {P P':Program} {w w':World} {es:List S8} {vs:List (IA×Value)} (h:Pairs (dk P w) es vs):Pairs (dk P' w') es vs:=by
 induction h with
 | nil=>exact .nil
 | cons a b _ ih=>exact .cons a b ih
theorem Dc {kvs:List (IA×V)} (ok:HOk X.prog X.w H s.heap) (e:H a=some (dA a kvs)):kvs.length<=LN/\(a == NG)=false/\∃ vs,KV kvs vs/\s.heap.DictOf (dk X.prog X.w) a vs:=by
 obtain ⟨⟨z,y,P,w,vs,r,o,es,ep,h1,h2,h3,h4,h5,h6⟩,_⟩:=(show bA X.prog X.w H s.heap a (dA a kvs) from ok a _ e)
 exact ⟨z,y,vs,r,o,es,ep,h1,h2,h3,h4,Fz h5,h6⟩
theorem De {zs:List (List IK×Addr×V)} (ok:HOk X.prog X.w H s.heap) (e:H a=some (dB a zs)) (hk:∀ z∈zs,dj H (.ref z.2.1) (.inr z.1)):zs.length<=LN/\(a == NG)=false/\∃ xs,ZX zs xs/\s.heap.DictOfH (qN X.prog X.w) a xs:=by
 obtain ⟨⟨z,y,xs,r,o,es,ep,h1,h2,h3,h4,h5⟩,_⟩:=(show bA X.prog X.w H s.heap a (dB a zs) from ok a _ e)
 refine ⟨z,y,xs,r,o,es,ep,h1,h2,h3,h4,?_,h5⟩
 have all:∀ {l:List (List IK×Addr×V)} {m:List (List IK×Addr×Value)},ZX l m->(∀ z∈l,dj H (.ref z.2.1) (.inr z.1))->∀ x∈m,(qN X.prog X.w).is s.heap x.1 x.2.1:=by
  intro l m q
  unfold ZX at q
  induction q with
  | nil=>intro _ x hx; exact nomatch hx
  | @cons p q ps qs hq t ih=>
   intro hk x hx
   rcases LA.mp hx with e | hx
   ·subst e
    have:=hk p (LG ..)
    rw [hq.1,hq.2.1] at this
    exact Db ok this
   ·exact ih (fun z hz=>hk z (LJ _ hz)) x hx
 exact all r hk
theorem Le {Q:Value->Shared->Prop} (hu:A.units + 2 < cLine) (I:Inv X pins σ H s) (d:Dx H a srt f n) (hk:dj H y k) (hs:mQ k=srt) (ry:aH y u) (ev:f k=some v) (h:∀ w' s',Inv X pins σ H s'->aH v w'->Q w' s'):
  wpAny (model X.prog X.w) A (getItem (.ref a) u) Q E s:=by
 rcases d with ⟨rfl,kvs,e,hf,_⟩ | ⟨rfl,zs,e,hz,hf,_⟩
 ·cases k with
  | inr _=>cases hs
  | inl k=>
   obtain ⟨z,hd,vs,rel,dd⟩:=Dc I.hok e
   obtain ⟨w',hw,rw'⟩:=h9.some_of (v:=v) (o:=valueAt vs k) (by rw [<-ev,<-hf k]; exact rel.val k)
   exact Uh (knd:=dk X.prog X.w) (zd hk ry) dd.mapOf hw (h w' _ (I.tok _) rw')
 ·obtain ⟨c,ks,rfl,rfl⟩:=Cd hk hs
  cases ry
  obtain ⟨z,hd,xs,rel,dd⟩:=De I.hok e hz
  obtain ⟨w',hw,rw'⟩:=h9.some_of (v:=v) (o:=(atKey xs ks).map (·.2)) (by rw [<-ev,<-hf ks]; exact rel.val ks)
  obtain ⟨p,hp,hp2⟩:=PR.mp hw
  refine wpAny_getItem_heap (knd:=qN X.prog X.w) hu (Db I.hok hk) dd hp ?_
  rw [hp2]
  exact h w' _ (I.tok _) rw'
theorem tY {o:HO}:Off a H (upd H a o):=fun b hb=>aO hb
theorem KB {h':Heap} {t':Nat} {kvs kvs':List (IA×V)} {vs':List (IA×Value)} (I:Inv X pins σ H s) (e:H a=some (dA a kvs)) (hs:LP a s.heap h') (z:kvs'.length<=LN) (hd:(a == NG)=false) (rel:KV kvs' vs') (dd:h'.DictOf (dk X.prog X.w) a vs'):
  Inv X pins σ (upd H a (dA a kvs')) { s with heap:=h',toks:=t' }:=by
 have he:∃ q,h'.get? a=some q:=let ⟨q,_,_,hq,_⟩:=dd; ⟨q,hq⟩
 exact BV I (by rw [e]; exact Oj) hs he (DA.ok ⟨z,hd,X.prog,X.w,vs',rel,dd⟩)
theorem KC {h':Heap} {t':Nat} {zs zs':List (List IK×Addr×V)} {xs':List (List IK×Addr×Value)} (I:Inv X pins σ H s) (e:H a=some (dB a zs)) (hs:LP a s.heap h') (z:zs'.length<=LN) (hd:(a == NG)=false) (rel:ZX zs' xs') (dd:h'.DictOfH (qN X.prog X.w) a xs'):
  Inv X pins σ (upd H a (dB a zs')) { s with heap:=h',toks:=t' }:=by
 obtain ⟨o,es,ep,h1,h2,h3,h4,_,h5⟩:=dd
 exact BV I (by rw [e]; exact Oj) hs ⟨o,h1⟩ (DB.ok ⟨z,hd,xs',rel,o,es,ep,h1,h2,h3,h4,h5⟩)
theorem Jh {kvs:List (IA×V)} {k:IA} (e:H a=some (dA a kvs)) (hf:∀ k,gj kvs k=f (.inl k)) (hn:kvs.length<=n):Dx (upd H a (dA a (qM kvs k v))) a false (pi f (.inl k) v) (n + 1):=by
 refine .inl ⟨rfl,_,az,fun j=>?_,?_⟩
 ·rw [Gj]
  unfold pi
  by_cases q:j=k
  ·rw [if_pos q,if_pos (by rw [q])]
  ·rw [if_neg q,if_neg (fun z=>q (TU z)),hf j]
 ·have:=sP kvs k v; omega
theorem Ji {zs:List (List IK×Addr×V)} {k:List IK} {c:Addr} (e:H a=some (dB a zs)) (hz:∀ z∈zs,dj H (.ref z.2.1) (.inr z.1)) (hk:dj H (.ref c) (.inr k)) (hf:∀ k,atZ zs k=f (.inr k)) (hn:zs.length<=n):
  Dx (upd H a (dB a (mj zs k c v))) a true (pi f (.inr k) v) (n + 1):=by
 have kp:eD H (upd H a (dB a (mj zs k c v))):=tY.keepD fun xs q=>by rw [e] at q; cases q
 refine .inr ⟨rfl,_,az,fun z h=>?_,fun j=>?_,?_⟩
 ·rcases GV h with ⟨z0,h0,e1,e2⟩ | ⟨e1,e2⟩
  ·rw [e1,e2]; exact (hz z0 h0).keep kp
  ·rw [e1,e2]; exact hk.keep kp
 ·rw [Jf]
  unfold pi
  by_cases q:j=k
  ·rw [if_pos q,if_pos (by rw [q])]
  ·rw [if_neg q,if_neg (fun z=>q (Ph z)),hf j]
 ·have:=sX zs k c v; omega
theorem vv {d a:Addr} {knd:HeapKind X.prog X.w (List IK)} {xs:List (List IK×Addr×Value)} {k:List IK} {v:Value} {Q:Value->Shared->Prop} (hu:knd.room A) (hkey:knd.is s.heap k a) (hm:s.heap.DictOfH knd d xs)
  (h1:∀ p,atKey xs k=some p->Q p.2 { s with toks:=s.toks + knd.draws k })
  (h2:atKey xs k=none->∀ h',h'.DictOfH knd d (storedH xs k a v)->LP d s.heap h'->Q v { s with heap:=h',toks:=s.toks + knd.draws k })
  (hsz:xs.length<=LN):wpAny (model X.prog X.w) A (QE d (.ref a) v) Q E s:=by
 obtain ⟨o,es,ep,ho,hc,hd,he,his,hn⟩:=hm
 unfold QE
 try with_reducible refine MX ?_
 refine Lw (knd.pyHash hu hkey ?_)
 refine Lw (wpAny_dictFind_heap (s:={ s with toks:=s.toks + knd.draws k }) hu hkey ho hd he his hn ?_ ?_)
 ·intro hno
  have hnot:k∉xs.map (·.1):=not_mem_keys_of_get hno
  refine Lw (NJ (Lw (wpAny_updateDictKeys (hz:=by have e:=size_of_entries he; omega) (s:={ s with toks:=s.toks + knd.draws k }) ho hd (Ly (h2 (PK hno) _ ⟨_,_,ep + 1,MB _ ho (Obj.isFreed_of_dict (SD hd _)),
   hc.mapDictKeys _,SD hd _,?_,?_,?_⟩ (MD ..))))))
  ·rw [T3 (PK hno)]
   simp [he,entryOfKey]
  ·rw [T3 (PK hno)]
   intro x hx
   rcases Mm.mp hx with hx | hx
   ·exact knd.keeps (his x hx) ho hd (MD ..)
   ·simp only [LB] at hx
    subst hx
    exact knd.keeps hkey ho hd (MD ..)
  ·rw [T3 (PK hno)]
   rw [Ma,TB]
   refine ⟨hn,by simp,?_⟩
   intro x hx y hy
   simp only [LZ,O5,LB] at hy
   subst hy
   exact fun e=>hnot (e ▸ hx)
 ·intro j p hj
  refine Lw (wpAny_dictEntries (s:={ s with toks:=s.toks + knd.draws k }) ho hd ?_)
  rw [entry_at he j,hj]
  exact Lw (NJ (Ly (h1 p (atKey_of_get hn hj))))
theorem mZ {d:Addr} {key dflt:Value} {Q:Fin->Shared->Prop} (hT:s.TypeIs (.ref d) "dict") (hd:(d == NG)=false) (h:wpAny (model X.prog X.w) A (QE d key dflt) (fun v s'=>Q (.done (.ret v)) s') E s):
  wpAny (model X.prog X.w) A (Builtin.«dict.setdefault» ⟨[.ref d,key,dflt],[]⟩) Q E s:=by
 unfold Builtin.«dict.setdefault»
 refine Lw ?_
 unfold Builtin.Dict.keyAndDefault
 refine Lw (wpAny_notOrdered_dict hT ?_)
 show wpAny _ _ (pure (d,key,some dflt)) _ _ s
 refine Ly ?_
 show wpAny _ _ (if (d == NG)=true then _ else (QE d key dflt >>= _)) _ _ s
 rw [if_neg (by rw [hd]; exact LM)]
 exact Lw (Nh h (fun v s' q=>Ly q) fun _ _ x=>x)
theorem AE (I:Inv X pins σ H s) (d:Dx H a srt f n):s.TypeIs (.ref a) "dict"/\∀ b,Mf a=.ref b->∃ ob,s.heap.get? b=some ob/\ob.dict=none:=by
 rcases d with ⟨_,kvs,e,_,_⟩ | ⟨_,zs,e,hz,_,_⟩
 ·obtain ⟨_,_,vs,_,dd⟩:=Dc I.hok e
  refine ⟨dd.typeIs,fun b q=>?_⟩
  cases q
  obtain ⟨ob,_,_,h1,h2,_⟩:=dd
  exact ⟨ob,h1,h2.2.1⟩
 ·obtain ⟨_,_,xs,_,dd⟩:=De I.hok e hz
  refine ⟨dd.typeIs,fun b q=>?_⟩
  cases q
  obtain ⟨ob,_,_,h1,h2,_⟩:=dd
  exact ⟨ob,h1,h2.2.1⟩
theorem KD {Q:Value->Shared->Prop} (hu:A.units + 2 < cLine) (I:Inv X pins σ H s) (d:Dx H a srt f n) (hk:dj H y k) (hs:mQ k=srt) (hn:n < LN) (ry:aH y u) (rv:aH v r)
  (h1:∀ x w' s',f k=some x->aH x w'->Inv X pins σ H s'->Q w' s')
  (h2:f k=none->∀ H' s',Off a H H'->Dx H' a srt (pi f k v) (n + 1)->Inv X pins σ H' s'->Q r s'):wpAny (model X.prog X.w) A (call (.builtin "dict.setdefault") [.ref a,u,r]) Q E s:=by
 have hT:=(AE I d).1
 refine Mp QF hT PySem.F.entry_dict_setdefault ?_ (PySem.F.args_dict_setdefault_3 _ _ _)
 rcases d with ⟨rfl,kvs,e,hf,hl⟩ | ⟨rfl,zs,e,hz,hf,hl⟩
 ·cases k with
  | inr _=>cases hs
  | inl k=>
   obtain ⟨z,hd,vs,rel,dd⟩:=Dc I.hok e
   have hvz:vs.length<=LN:=by rw [<-rel.length]; exact z
   have hl':(qM kvs k v).length<=LN:=by have:=sP kvs k v; omega
   refine mZ hT hd (kt_dictSetDefault_pairs (knd:=dk X.prog X.w) (hsz:=hvz) (zd hk ry) dd (fun w' hw=>?_) fun hno h' dd' hs'=>?_)
   ·have q:=rel.val k
    rw [hf k,hw] at q
    cases ef:f (.inl k) with
    | none=>rw [ef] at q; exact (show False from q).elim
    | some x=>rw [ef] at q; exact ⟨w',rfl,h1 x w' _ ef q (I.tok _)⟩
   ·have q:=rel.val k
    rw [hf k,hno] at q
    have ef:f (.inl k)=none:=by
     cases ef:f (.inl k) with
     | none=>rfl
     | some x=>rw [ef] at q; exact (show False from q).elim
    exact ⟨r,rfl,h2 ef _ _ tY (Jh e hf hl) (KB I e hs' hl' hd (rel.put k rv) dd')⟩
 ·obtain ⟨c,ks,rfl,rfl⟩:=Cd hk hs
  cases ry
  obtain ⟨z,hd,xs,rel,dd⟩:=De I.hok e hz
  have hvz:xs.length<=LN:=by rw [<-rel.length]; exact z
  have hl':(mj zs ks c v).length<=LN:=by have:=sX zs ks c v; omega
  refine mZ hT hd (vv (X:=X) (knd:=qN X.prog X.w) hu (Db I.hok hk) dd (fun p hp=>?_) (fun hno h' dd' hs'=>?_) hvz)
  ·have q:=rel.val ks
   rw [hf ks,hp] at q
   cases ef:f (.inr ks) with
   | none=>rw [ef] at q; exact (show False from q).elim
   | some x=>rw [ef] at q; exact ⟨p.2,rfl,h1 x p.2 _ ef q (I.tok _)⟩
  ·have q:=rel.val ks
   rw [hf ks,hno] at q
   have ef:f (.inr ks)=none:=by
    cases ef:f (.inr ks) with
    | none=>rfl
    | some x=>rw [ef] at q; exact (show False from q).elim
   exact ⟨r,rfl,h2 ef _ _ tY (Ji (c:=c) e hz hk hf hl) (KC I e hs' hl' hd (rel.put ks rv) dd')⟩
end
section
variable {X:Cx}
theorem Jj {o i:Expr} {pos:Pos} {td ty:TE} (hu:X.A.units + 64 < cLine) (ho:PE X o td) (hi:PE X i ty) (hs:Gk i):PE X (.Subscript o i pos) (tOp CL td ty):=by
 intro pins s σ H Q I h
 refine BW Ri.lookup hs (thn (ho pins s σ H _ I h) fun u s1 ⟨x,H1,I1,rx,q1⟩=>thn (hi pins s1 σ H1 _ I1 q1) fun iv s2 ⟨y,H2,I2,ry,a,srt,f,n,k,v,ex,d,hk,hs',ev,q2⟩=>?_)
 subst ex
 obtain rfl:u=Mf a:=rx
 exact ⟨(AE I2 d).1,Le (by omega) I2 d hk hs' ry ev fun w' s3 I3 rw'=>⟨v,H2,I3,rw',q2⟩⟩
theorem GX {pos:Pos}:PE X (.Dict [] [] pos) zO:=fun pins s σ H Q I h=>by
 obtain ⟨srt,h⟩:=h
 have hd:(s.heap.objs.size == NG)=false:=beq_eq_false_iff_ne.mpr (Mz (Ml I.big))
 have hp:=I.hok.fresh (LC s.heap.objs.size)
 cases srt with
 | false=>
  refine Ui ⟨.ref s.heap.objs.size,_,I.laid (a:=s.heap.objs.size) (o:=dA s.heap.objs.size []) (t':=s.toks) (fun _ _ q=>Lx _ q) (LC _) (DA.ok ⟨MJ _,hd,X.prog,X.w,[],.nil,Heap.DictOf.new s.heap⟩),rfl,?_⟩
  exact h _ _ hp (aZ hp _) (.inl ⟨rfl,[],az,fun _=>rfl,LC _⟩)
 | true=>
  refine Ui ⟨.ref s.heap.objs.size,_,I.laid (a:=s.heap.objs.size) (o:=dB s.heap.objs.size []) (t':=s.toks) (fun _ _ q=>Lx _ q) (LC _) (DB.ok ⟨MJ _,hd,[],.nil,_,#[],0,LH _ rfl,⟨rfl,rfl,rfl⟩,rfl,rfl,List.nodup_nil⟩),rfl,?_⟩
  exact h _ _ hp (aZ hp _) (.inr ⟨rfl,[],az,fun z hz=>(nomatch hz),fun _=>rfl,LC _⟩)
noncomputable def MtX (X:Cx) (id:String) (r:V->List V->Hp->VK->Prop):Prop:=
 ∀ (pins:List (Addr×Obj)) (s:Shared) (σ:St) (H:Hp) (x:V) (ys:List V) (u:Value) (us:List Value) (Q:VK),Inv X pins σ H s->aH x u->aG ys us->r x ys H Q->
  wpAny (model X.prog X.w) X.A (call (.builtin id) (u :: us)) (EP X pins σ Q) X.xe s
theorem wN (hu:X.A.units + 64 < cLine):MtX X "dict.setdefault" zP:=by
 intro pins s σ H x ys u us Q I rx rys h
 obtain ⟨a,srt,f,n,k,y,v,rfl,rfl,d,hk,hs,hn,q1,q2⟩:=h
 cases rx
 cases rys with
 | cons r1 t1=>cases t1 with
  | cons r2 t2=>
   cases t2
   exact KD (by omega) I d hk hs hn r1 r2 (fun x w' s' ef rw' I'=>⟨x,H,I',rw',q1 x ef⟩) fun ef H' s' o' d' I'=>⟨v,H',I',r2,q2 ef H' o' d'⟩
theorem Lf {o e:Expr} {es:List Expr} {name:Str} {id:String} {r:V->List V->Hp->VK->Prop} {to:TE} {t:TA} {apos cpos:Pos} (slot:Slot "dict" name id) (hty:typeOf (.builtin id)=pure (.type "method_descriptor")) (hm:MtX X id r) (ho:PE X o to) (ha:PA X (e :: es) t)
  (hbase:Pd o name X.env (eval o X.env)=eval o X.env:=by rfl)
  (hfew:((backTo cpos (L5 (e :: es) X.env)).all (fun x=>!x.1) && (PZ cpos (O0 [] X.env)).all (fun x=>x.1.isSome)
   && decide ((e :: es).length + ([]:List Keyword).length + (if ([]:List Keyword).isEmpty then 0 else 1) < 30))=true:=by rfl)
  (hline:(apos.endLine == cpos.line)=true:=by rfl) (hs:L5 (e :: es) X.env=(false,eval e X.env) :: L5 es X.env:=by rfl) (hplain:(backTo cpos (L5 es X.env)).any (·.1)=false:=by rfl):
  PE X (.Call (.Attribute o name apos) (e :: es) [] cpos) (tXM r to t):=by
 intro pins s σ H Q I h
 refine PM hbase hfew hline rfl (thn (ho pins s σ H _ I h) fun v s1 ⟨x,H1,I1,r1,⟨a,srt,f,n,ex,d⟩,q1⟩=>?_)
 subst ex
 obtain rfl:v=Mf a:=r1
 obtain ⟨h1,h2⟩:=AE I1 d
 refine ⟨"dict",id,PySem.F.plainAttrs_dict,slot,hty,h1,h2,?_⟩
 have hA:=ha cpos pins s1 σ H1 _ I1 q1
 rw [hs] at hA ⊢
 refine PN (by show (false || (backTo cpos (L5 es X.env)).any (·.1))=false; rw [hplain] <;> rfl) (Qi ?_)
 exact thn hA fun us s2 ⟨vs,H2,I2,r2,q2⟩=>hm pins s2 σ H2 (.ref a) vs (.ref a) us Q I2 rfl r2 q2
end
end
section
open PySem.Spec
section
variable {X:Cx}
end
end
section
open PySem.Spec
mutual
inductive Dat (K:Fg) (H:Hp):V->PyData->Prop where
 | non:Dat K H .non .none
 | bl (b:Bool):Dat K H (.bl b) (.bool b)
 | int (i:Int):Dat K H (.int i) (.int i)
 | str (x:Str):Dat K H (.str x) (.str x)
 | lst {a:Addr} {xs:List V} {ds:List PyData} (e:SqL K H a xs) (h:kT K H xs ds):Dat K H (.ref a) (.list ds)
 | tup {a:Addr} {xs:List V} {ds:List PyData} (e:SqT K H a xs) (h:kT K H xs ds):Dat K H (.ref a) (.tuple ds)
inductive kT (K:Fg) (H:Hp):List V->List PyData->Prop where
 | nil:kT K H [] []
 | cons {x:V} {xs:List V} {d:PyData} {ds:List PyData} (h:Dat K H x d) (t:kT K H xs ds):kT K H (x :: xs) (d :: ds)
end
section
variable {X:Cx} {pins:List (Addr×Obj)} {σ:St} {H:Hp} {s:Shared}
mutual
theorem Dat.reads (I:Inv X pins σ H s):∀ {x:V} {d:PyData} {u:Value},Dat X.K H x d->aH x u->∃ as,Reads s.heap u d as
 | _,_,_,.non,r=>by cases r; exact ⟨_,.none⟩
 | _,_,_,.bl b,r=>by cases r; exact ⟨_,.bool b⟩
 | _,_,_,.int i,r=>by obtain ⟨t,rfl⟩:=r; exact ⟨_,.int i t⟩
 | _,_,_,.str x,r=>by obtain ⟨t,rfl⟩:=r; exact ⟨_,.str x t⟩
 | _,_,_,.lst e h,r=>by
  cases r
  obtain ⟨its,rv,⟨o,n,h1,h2,h3,h4⟩,_⟩:=I.list e
  obtain ⟨as,ra⟩:=kT.reads I h rv
  exact ⟨_,.list h1 h2 h4 (by simpa using ra)⟩
 | _,_,_,.tup e h,r=>by
  cases r
  obtain ⟨its,rv,⟨o,h1,h2,n,h3⟩,_⟩:=I.tuple e
  obtain ⟨as,ra⟩:=kT.reads I h rv
  exact ⟨_,.tuple h1 h2 h3 (by simpa using ra)⟩
theorem kT.reads (I:Inv X pins σ H s):∀ {xs:List V} {ds:List PyData} {us:List Value},kT X.K H xs ds->aG xs us->∃ as,ReadsAll s.heap us ds as
 | _,_,_,.nil,.nil=>⟨_,.nil⟩
 | _,_,_,.cons h t,.cons r q=>by
  obtain ⟨as,ra⟩:=Dat.reads I h r
  obtain ⟨bs,rb⟩:=kT.reads I t q
  exact ⟨_,.cons ra rb⟩
end
end
section
variable {X:Cx}
end
end
section
open PySem.Spec
mutual
theorem KG {K:Fg} {H:Hp}:∀ {n:Nat} {x y:V},gQ K H n x y->∃ d,Dat K H x d/\Dat K H y d/\d.canLay0=true/\d.depth<=n
 | n,x,_,.flat h=>by
  cases x with
  | non=>exact ⟨_,.non,.non,rfl,MJ _⟩
  | bl b=>exact ⟨_,.bl b,.bl b,rfl,MJ _⟩
  | int i=>exact ⟨_,.int i,.int i,rfl,MJ _⟩
  | _=>cases h
 | _,_,_,.lst (xs:=xs) (ys:=ys) e1 e2 hl h=>by
  obtain ⟨ds,h1,h2,h3,h4⟩:=Df xs ys hl h
  exact ⟨_,.lst e1 h1,.lst e2 h2,h3,Uj h4⟩
 | _,_,_,.tup (xs:=xs) (ys:=ys) e1 e2 hl h=>by
  obtain ⟨ds,h1,h2,h3,h4⟩:=Df xs ys hl h
  exact ⟨_,.tup e1 h1,.tup e2 h2,h3,Uj h4⟩
theorem Df {K:Fg} {H:Hp} {n:Nat}:∀ (xs ys:List V),xs.length=ys.length->(∀ (i:Nat) (x y:V),xs[i]?=some x->ys[i]?=some y->gQ K H n x y)->∃ ds,kT K H xs ds/\kT K H ys ds/\TC ds=true/\UH ds<=n
 | [],[],_,_=>⟨[],.nil,.nil,rfl,MJ _⟩
 | x :: xs,y :: ys,hl,h=>by
  obtain ⟨d,a1,a2,a3,a4⟩:=KG (h 0 x y rfl rfl)
  obtain ⟨ds,b1,b2,b3,b4⟩:=Df xs ys (by simpa using hl) (fun i x y hx hy=>h (i + 1) x y hx hy)
  refine ⟨d :: ds,.cons a1 b1,.cons a2 b2,?_,?_⟩
  ·show (d.canLay0 && TC ds)=true
   rw [a3,b3]; rfl
  ·show max d.depth (UH ds)<=n
   omega
 | [],_ :: _,hl,_=>by simp at hl
 | _ :: _,[],hl,_=>by simp at hl
end
section
variable {X:Cx}
theorem tZ (hu:X.A.units + 64 < cLine):OpR X (N5 .Eq) (qQ X.K false):=by
 intro pins s σ H x y v u Q I rx ry h
 obtain ⟨n,hn,hd,q⟩:=h
 obtain ⟨d,h1,h2,h3,h4⟩:=KG hd
 obtain ⟨as,ra⟩:=h1.reads I rx
 obtain ⟨bs,rb⟩:=h2.reads I ry
 have sh:SeqAt.shaped d=true:=by unfold SeqAt.shaped; rw [h3,decide_eq_true (by omega)]; rfl
 refine eq_dataH ra rb sh sh hu ⟨.bl true,H,I,?_,q⟩
 rw [SeqAt.eqv_refl d h3]; rfl
end
end
section
open PySem.Spec
theorem AF {scope:Scope} {env:Env} {x:Str} (h:scope.names.lookup x=some .cell\/scope.names.lookup x=some .free):(relabel scope env).names.lookup x=some .cell\/(relabel scope env).names.lookup x=some .free:=by
 have go:∀ ns:List (Str×My),(ns.lookup x=some .cell\/ns.lookup x=some .free)->
   (ns.map fun (n,k)=>if (k == Ng && env.scope.kind == .function && env.kindOf n == some .cell) then (n,PV) else (n,k)).lookup x=some .cell\/
   (ns.map fun (n,k)=>if (k == Ng && env.scope.kind == .function && env.kindOf n == some .cell) then (n,PV) else (n,k)).lookup x=some .free:=by
  intro ns
  induction ns with
  | nil=>intro q; rcases q with q | q <;> simp at q
  | cons y r ih=>
   obtain ⟨n,k'⟩:=y
   intro q
   rw [LZ]
   rw [MY] at q
   by_cases hc:(k' == Ng && env.scope.kind == .function && env.kindOf n == some .cell)=true
   ·simp only [hc,if_true]
    rw [MY]
    cases e:x == n with
    | true=>exact .inl rfl
    | false=>rw [e] at q; exact ih q
   ·simp only [hc]
    rw [if_neg (by simp),MY]
    cases e:x == n with
    | true=>rw [e] at q; exact q
    | false=>rw [e] at q; exact ih q
 exact go scope.names h
theorem FA {inner outer:Scope} {cl:List (Str×Addr)} {C:Addr} {env:Env} (h:∀ y∈inner.names,y.2=.free->outer.names.lookup y.1=some .cell\/outer.names.lookup y.1=some .free):
  ∀ y∈inner.names,y.2=.free->(Sw outer cl C env).scope.names.lookup y.1=some .cell\/(Sw outer cl C env).scope.names.lookup y.1=some .free:=fun y hy hk=>AF (h y hy hk)
end
end L2
section
namespace L2
open PySem
noncomputable def Rs (xs:List Nat):Prop:=xs.Pairwise (· < ·)
theorem xS (xs:Array Nat) (i d:Nat) (h:i < xs.size):xs.getD i d=xs.toList[i]'(by simpa using h):=by
 rw [SE,dif_pos h]
 simp
theorem wO (xs:Array Nat) (j:Nat) (hr:Rs xs.toList):∀ (fuel lo hi:Nat),hi - lo<=fuel->lo<=hi->hi<=xs.size->(∀ i (h:i < xs.toList.length),i < lo->xs.toList[i] < j)->(∀ i (h:i < xs.toList.length),hi<=i->j<=xs.toList[i])->
  lo<=Of xs j fuel lo hi/\Of xs j fuel lo hi<=hi/\(∀ i (h:i < xs.toList.length),i < Of xs j fuel lo hi->xs.toList[i] < j)/\(∀ i (h:i < xs.toList.length),Of xs j fuel lo hi<=i->j<=xs.toList[i])
 | 0,lo,hi,hf,hl,hs,h1,h2=>by
  have e:hi=lo:=by omega
  subst e
  exact ⟨LC _,LC _,h1,h2⟩
 | fuel + 1,lo,hi,hf,hl,hs,h1,h2=>by
  have eq:Of xs j (fuel + 1) lo hi=(if lo < hi then (if xs.getD ((lo + hi) / 2) j < j then Of xs j fuel ((lo + hi) / 2 + 1) hi else Of xs j fuel lo ((lo + hi) / 2)) else lo):=rfl
  by_cases hlt:lo < hi
  ·have hm:(lo + hi) / 2 < xs.size:=by omega
   have hm':(lo + hi) / 2 < xs.toList.length:=by simpa using hm
   have pw:=OI.mp hr
   rw [if_pos hlt,xS xs _ _ hm] at eq
   by_cases hc:xs.toList[(lo + hi) / 2] < j
   ·rw [if_pos hc] at eq
    obtain ⟨a,b,c,d⟩:=wO xs j hr fuel ((lo + hi) / 2 + 1) hi (by omega) (by omega) hs (fun i h hi'=>by
     rcases Tp i ((lo + hi) / 2) with z | z
     ·have:=pw i ((lo + hi) / 2) h hm' z
      omega
     ·have e:i=(lo + hi) / 2:=by omega
      subst e
      exact hc) h2
    rw [eq]
    exact ⟨by omega,b,c,d⟩
   ·rw [if_neg hc] at eq
    obtain ⟨a,b,c,d⟩:=wO xs j hr fuel lo ((lo + hi) / 2) (by omega) (by omega) (by omega) h1 (fun i h hi'=>by
     rcases Tp ((lo + hi) / 2) i with z | z
     ·have:=pw ((lo + hi) / 2) i hm' h z
      omega
     ·have e:i=(lo + hi) / 2:=by omega
      subst e
      omega)
    rw [eq]
    exact ⟨a,by omega,c,d⟩
  ·rw [if_neg hlt] at eq
   have e:hi=lo:=by omega
   subst e
   rw [eq]
   exact ⟨LC _,LC _,h1,h2⟩
theorem lx (xs:Array Nat) (j:Nat) (hr:Rs xs.toList):Mc xs j<=xs.size/\(∀ i (h:i < xs.toList.length),i < Mc xs j->xs.toList[i] < j)/\(∀ i (h:i < xs.toList.length),Mc xs j<=i->j<=xs.toList[i]):=by
 obtain ⟨_,b,c,d⟩:=wO xs j hr xs.size 0 xs.size (by omega) (MJ _) (LC _) (fun i h z=>absurd z (Qq _)) (fun i h z=>absurd (by simpa using h) (Rj.mpr z))
 exact ⟨b,c,d⟩
theorem Dg (xs:Array Nat) (hr:Rs xs.toList) {i:Nat} (h:i < xs.toList.length):Mc xs (xs.toList[i] + 1)=i + 1:=by
 obtain ⟨b,c,d⟩:=lx xs (xs.toList[i] + 1) hr
 have pw:=OI.mp hr
 rcases Re (Mc xs (xs.toList[i] + 1)) (i + 1) with z | z | z
 ·have:=d i h (by omega)
  omega
 ·exact z
 ·have hi:i + 1 < xs.toList.length:=by simp at *; omega
  have:=c (i + 1) hi (by omega)
  have:=pw i (i + 1) h hi (by omega)
  omega
theorem Dh (xs:Array Nat) (hr:Rs xs.toList):Mc xs 0=0:=by
 obtain ⟨b,c,_⟩:=lx xs 0 hr
 rcases Pq (Mc xs 0) with z | z
 ·exact z
 ·have h0:0 < xs.toList.length:=by simp; omega
  have:=c 0 h0 z
  omega
theorem KH (xs:Array Nat) (hr:Rs xs.toList) {j:Nat} (hj:j∉xs.toList):Rs (L6.insertAt xs (Mc xs j) j).toList:=by
 obtain ⟨b,c,d⟩:=lx xs j hr
 rw [L6.toList_insertAt]
 have hr':(xs.toList.take (Mc xs j)++xs.toList.drop (Mc xs j)).Pairwise (· < ·):=by rw [Ov]; exact hr
 rw [Qr] at hr'
 obtain ⟨p1,p2,p3⟩:=hr'
 have lo:∀ a∈xs.toList.take (Mc xs j),a < j:=fun a ha=>by
  obtain ⟨i,hi,rfl⟩:=Qs.mp ha
  rw [List.getElem_take]
  have hi':i < min (Mc xs j) xs.toList.length:=by simpa using hi
  exact c i (by omega) (by omega)
 have hi:∀ a∈xs.toList.drop (Mc xs j),j < a:=fun a ha=>by
  obtain ⟨i,hi,rfl⟩:=Qs.mp ha
  rw [List.getElem_drop]
  have hl:i < xs.toList.length - Mc xs j:=by simpa using hi
  have h1:Mc xs j + i < xs.toList.length:=by omega
  have:=d _ h1 (MM _ _)
  rcases Pr this with z | z
  ·exact z
  ·exact absurd (z ▸ Oi h1) hj
 refine Qr.mpr ⟨p1,QU.mpr ⟨hi,p2⟩,fun a ha x hx=>?_⟩
 rcases LA.mp hx with rfl | hx
 ·exact lo a ha
 ·exact p3 a ha x hx
theorem GY {xs:Array Nat} (hr:Rs xs.toList) {j:Nat} (h:¬ (xs[Mc xs j]? == some j)=true):j∉xs.toList:=fun hm=>by
 obtain ⟨b,c,d⟩:=lx xs j hr
 obtain ⟨k,hk,e⟩:=Qs.mp hm
 have pw:=OI.mp hr
 have h1:Mc xs j<=k:=Rt fun z=>by
  have:=c k hk z
  omega
 have h2:Mc xs j=k:=by
  rcases Pr h1 with z | z
  ·have hl:Mc xs j < xs.toList.length:=by omega
   have:=d _ hl (LC _)
   have:=pw _ k hl hk z
   omega
  ·exact z
 refine h ?_
 rw [h2,<-Ow,Lz hk,e]
 exact beq_self_eq_true _
theorem FB {t:L6} (hr:Rs t.place.toList) {j:Nat} (h:∀ i,t.slot j≠.live i):j∉t.place.toList:=by
 refine GY hr fun z=>?_
 have:=h (Mc t.place j)
 unfold L6.slot at this
 rw [if_pos z] at this
 exact this rfl
theorem pM {t:L6} {f:Nat->Int} {h:Int}:∀ (fuel:Nat) (p:L6.Probe) {j:Nat} {d:Option Nat},(∀ x,p.dummy=some x->∀ i,t.slot x≠.live i)->TF t f h fuel p=some (.empty j d)->∀ i,t.slot (d.getD j)≠.live i
 | 0,_,_,_,_,e=>by cases e
 | fuel + 1,p,j,d,hd,e=>by
  have ha:∀ q:L6.Probe,(t.advance q).dummy=q.dummy:=fun q=>by
   unfold L6.advance
   split <;> rfl
  unfold TF at e
  cases hs:t.slot p.j with
  | empty=>
   rw [hs] at e
   injection e with e
   injection e with e1 e2
   subst e1 e2
   intro i
   cases hx:p.dummy with
   | none=>show t.slot p.j≠_; rw [hs]; intro z; cases z
   | some x=>exact hd x hx i
  | dummy=>
   rw [hs] at e
   refine pM fuel _ (fun x hx i=>?_) e
   rw [ha] at hx
   cases hx
   rw [hs]; intro z; cases z
  | live k=>
   rw [hs] at e
   dsimp only at e
   split at e
   ·cases e
   ·exact pM fuel _ (fun x hx=>hd x (by rw [ha] at hx; exact hx)) e
theorem Di {t:L6} (hr:Rs t.place.toList) {h:Int} {j:Nat} {b:Bool} (e:t.freeSlot h=some (j,b)):j∉t.place.toList:=by
 unfold L6.freeSlot at e
 split at e
 ·rename_i j' d' he
  cases e
  exact FB hr (pM _ _ (fun x hx=>by cases hx) he)
 ·cases e
theorem GZ (n:Nat):Rs (Array.range n).toList:=by
 rw [Array.toList_range]
 exact Om
theorem ly (t:L6) (n:Nat):Rs (t.standIn n).place.toList:=GZ n
theorem FC {t:L6} (hr:Rs t.place.toList) (es:Array (Int×Value)) (h:Int) (x:Value):Rs (layNew t es h x).2.1.place.toList/\(layNew t es h x).2.1.led=t.led:=by
 unfold layNew
 split
 ·rename_i slot wd he
  dsimp only
  unfold L6.orStandIn
  split
  ·exact ⟨KH _ hr (Di hr he),rfl⟩
  ·exact ⟨ly _ _,rfl⟩
 ·exact ⟨ly _ _,rfl⟩
theorem Jk {mask finger moves:Nat} {led plain:Bool} {hs:Array Int} {t:L6} {o:Array Nat} (e:L6.laid mask finger moves led plain hs=some (t,o)):Rs t.place.toList/\t.led=led:=by
 unfold L6.laid at e
 obtain ⟨owner,_,e⟩:=Option.bind_eq_some_iff.mp e
 cases e
 refine ⟨?_,rfl⟩
 show ((((LO (mask + 1)).filterMap fun j=>(owner.getD j none).map (j,·)).map (·.1)).toArray).toList.Pairwise (· < ·)
 have sub:List.Sublist (((LO (mask + 1)).filterMap fun j=>(owner.getD j none).map (j,·)).map (·.1)) (LO (mask + 1)):=by
  rw [List.map_filterMap]
  have:∀ l:List Nat,List.Sublist (l.filterMap fun j=>((owner.getD j none).map (j,·)).map (·.1)) l:=by
   intro l
   induction l with
   | nil=>exact .slnil
   | cons a l ih=>
    rw [Pj]
    cases owner.getD a none with
    | none=>exact .cons _ ih
    | some v=>exact .cons₂ _ ih
  exact this _
 exact Om.sublist sub
theorem By {t:L6} (hr:Rs t.place.toList) (es:Array (Int×Value)) (wanted:Nat):Rs (QG t es wanted).2.1.place.toList/\(QG t es wanted).2.1.led=t.led:=by
 unfold QG
 split
 ·rename_i t' order he
  dsimp only
  split
  ·exact Jk he
  ·exact ⟨ly _ _,rfl⟩
 ·exact ⟨ly _ _,rfl⟩
end L2
end
section
namespace L2
open PySem
section
variable {prog:Program} {w:World} {K:Type} [DecidableEq K] {knd:KeyKind prog w K} {A:Around} {E:Value->Shared->Prop} {s:Shared}
noncomputable def Ent (knd:KeyKind prog w K) (k:K) (e:Int×Value):Prop:=knd.is k e.2=true/\e.1=knd.hash k/\e.2.scannable=true
inductive ca {α β:Type} (F:α->β->Prop):List α->List β->Prop
 | nil:ca F [] []
 | cons {a b l m}:F a b->ca F l m->ca F (a :: l) (b :: m)
theorem ca.len {α β:Type} {F:α->β->Prop} {l:List α} {m:List β} (h:ca F l m):l.length=m.length:=by
 induction h with
 | nil=>rfl
 | cons _ _ ih=>rw [Mh,Mh,ih]
theorem ca.app {α β:Type} {F:α->β->Prop} {l l':List α} {m m':List β} (h:ca F l m) (h':ca F l' m'):ca F (l++l') (m++m'):=by
 induction h with
 | nil=>exact h'
 | cons r _ ih=>exact .cons r ih
theorem ca.right {α β:Type} {F:α->β->Prop} {l:List α} {m:List β} (h:ca F l m):∀ b∈m,∃ a∈l,F a b:=by
 induction h with
 | nil=>intro b hb; cases hb
 | cons r _ ih=>
  intro b hb
  rcases LA.mp hb with rfl | hb
  ·exact ⟨_,LG,r⟩
  ·obtain ⟨a,ha,f⟩:=ih b hb
   exact ⟨a,LJ _ ha,f⟩
theorem ca.perm {α β:Type} {F:α->β->Prop} {m m':List β} (p:M9 m m'):∀ {l:List α},ca F l m->∃ l',M9 l l'/\ca F l' m':=by
 induction p with
 | nil=>intro l h; cases h; exact ⟨[],.nil,.nil⟩
 | cons b _ ih=>
  intro l h
  cases h with
  | cons r t=>
   obtain ⟨l',p,q⟩:=ih t
   exact ⟨_ :: l',.cons _ p,.cons r q⟩
 | swap b c m=>
  intro l h
  cases h with
  | cons r t=>cases t with
   | cons r' t'=>exact ⟨_,.swap _ _ _,.cons r' (.cons r t')⟩
 | trans _ _ ih1 ih2=>
  intro l h
  obtain ⟨l1,p1,q1⟩:=ih1 h
  obtain ⟨l2,p2,q2⟩:=ih2 q1
  exact ⟨l2,p1.trans p2,q2⟩
noncomputable def dC (knd:KeyKind prog w K) (h:Heap) (a:Addr) (ks:List K) (led:Bool):Prop:=
 ∃ o es ep t,h.get? a=some o/\o.ExactSet/\o.data=.set es ep t/\ca (Ent knd) ks es.toList/\ks.Nodup/\es.size < Pt/\t.fits es.size=true/\Rs t.place.toList/\t.led=led
theorem KI {ks:List K} {l:List (Int×Value)} (h:ca (Ent knd) ks l):ElemsOf knd l:=fun e he=>by
 obtain ⟨k,_,f1,f2,f3⟩:=h.right e he
 exact ⟨⟨k,f1,f2⟩,f3⟩
theorem stored {h:Heap} {a:Addr} {o:Obj} {es es':Array (Int×Value)} {ep:Nat} {t t':L6} {ks':List K} {led:Bool} (g1:h.get? a=some o) (g2:o.ExactSet) (g3:o.data=.set es ep t) (pr:ca (Ent knd) ks' es'.toList) (nd:ks'.Nodup) (sb:es'.size < Pt) (ft:t'.fits es'.size=true) (rs:Rs t'.place.toList) (ld:t'.led=led):
  (h.update a (Rk es' t')).get? a=some { o with data:=.set es' (ep + 1) t' }/\dC knd (h.update a (Rk es' t')) a ks' led:=by
 have hg:(h.update a (Rk es' t')).get? a=some { o with data:=.set es' (ep + 1) t' }:=by
  have z:=MB (Rk es' t') g1 (by rw [putSet_of _ _ g3]; rfl)
  rw [z,putSet_of _ _ g3]
 exact ⟨hg,_,es',ep + 1,t',hg,g2,rfl,pr,nd,sb,ft,rs,ld⟩
theorem G0 {ks:List K} {l:List (Int×Value)} {k:K} (h:ca (Ent knd) ks l) {j:Nat} (e:l.findIdx? (fun e=>knd.is k e.2)=some j):k∈ks:=by
 obtain ⟨hj,hp,_⟩:=N1.mp e
 obtain ⟨k',hk',f1,_⟩:=h.right _ (Oi hj)
 exact knd.inj _ _ _ hp f1 ▸ hk'
theorem FD {ks:List K} {l:List (Int×Value)} {k:K} (h:ca (Ent knd) ks l) (e:l.findIdx? (fun e=>knd.is k e.2)=none):k∉ks:=by
 have n:=Pl.mp e
 induction h with
 | nil=>intro z; cases z
 | cons r _ ih=>
  intro z
  rcases LA.mp z with rfl | z
  ·have:=n _ LG
   rw [r.1] at this
   cases this
  ·exact ih (Pl.mpr fun e he=>n e (LJ _ he)) (fun e he=>n e (LJ _ he)) z
theorem xT {g:Bool->Sem Unit} (hg:∀ (b:Bool) (z:Shared) (P:Unit->Shared->Prop),P () z->wpAny (model prog w) A (g b) P E z) {a:Addr} {o:Obj} {es fs:Array (Int×Value)} {ep:Nat} {t u:L6} {ks:List K} {led wd:Bool}
  (g1:s.heap.get? a=some o) (g2:o.ExactSet) (g3:o.data=.set es ep t) (kq:ca (Ent knd) ks fs.toList) (nd:ks.Nodup) (sb:fs.size < Pt) (fu:u.fits fs.size=true) (ru:Rs u.place.toList) (lu:u.led=led) {R:Option Bool->Shared->Prop}
  (q:∀ h' ks',LP a s.heap h'->dC knd h' a ks' led->M9 ks' ks->R (some true) { s with heap:=h' }):
  wpAny (model prog w) A (storeSet a fs u >>= fun _=>if (!wd && u.tooFull)=true then (g (QG u fs (ON fs.size)).2.2 >>= fun _=>storeSet a (QG u fs (ON fs.size)).1 (QG u fs (ON fs.size)).2.1 >>= fun _=>pure (some true)) else pure (some true)) R E s:=by
 apply Lw
 refine TH g1 g3 ?_ (TJ sb)
 obtain ⟨g4,R1⟩:=stored (knd:=knd) g1 g2 g3 kq nd sb fu ru lu
 have b1:=MD s.heap a (Rk fs u)
 split
 ·have pm:=relayAll_perm u fs (ON fs.size)
  have pf:=relayAll_fits u fs (ON fs.size)
  have ⟨pr,pl⟩:=By ru fs (ON fs.size)
  generalize QG u fs (ON fs.size)=L at *
  obtain ⟨fs',u',gv⟩:=L
  dsimp only at pm pf pr pl ⊢
  obtain ⟨ks',kp,kq'⟩:=ca.perm pm.symm kq
  have hz:fs'.size=fs.size:=by rw [<-Mr,pm.length_eq,Mr]
  apply Lw
  apply hg
  apply Lw
  refine TH g4 rfl ?_ (TJ (by rw [hz]; exact sb))
  obtain ⟨_,R2⟩:=stored (knd:=knd) g4 g2 rfl kq' (kp.nodup_iff.mp nd) (by rw [hz]; exact sb) pf pr (pl.trans lu)
  exact Ly (q _ ks' (b1.trans (MD _ a _)) R2 kp.symm)
 ·exact Ly (q _ ks b1 R1 (M9.refl _))
theorem Jl {a:Addr} {ks:List K} {led:Bool} {k:K} {x:Value} {Q:Bool->Shared->Prop} (hk:knd.is k x=true) (hx:x.scannable=true) (R:dC knd s.heap a ks led) (room:ks.length + 1 < Pt)
  (q:∀ h' ks' b,LP a s.heap h'->dC knd h' a ks' led->(∀ y,y∈ks'↔y∈ks\/y=k)->ks'.length<=ks.length + 1->Q b { s with heap:=h' }):wpAny (model prog w) A (setAddHashed a x (knd.hash k)) Q E s:=by
 obtain ⟨o,es,ep,t,g1,g2,g3,pr,nd,sb,ft,rs,ld⟩:=id R
 have el:=KI pr
 have hlen:ks.length=es.size:=by rw [pr.len,Mr]
 unfold setAddHashed setAddHashedIn
 apply MX
 apply Lw
 apply Nc g1 g3 ft
 dsimp only
 rw [if_pos (byScan_of hx sb el)]
 unfold setAddByScan
 apply Lw
 apply Lw
 apply NJ
 apply Lw
 apply wpAny_setScan_of hk g1 g3 ft el
 cases fe:List.findIdx? (fun e=>knd.is k e.2) es.toList with
 | some j=>
  dsimp only
  apply Ly
  apply Ly
  have z:=q s.heap ks false (TK a s.heap) R (fun y=>⟨.inl,fun h=>h.elim id fun e=>e ▸ G0 pr fe⟩) (OK _)
  cases s
  exact z
 | none=>
  dsimp only
  have hk0:=FD pr fe
  have pm:=layNew_perm t es (knd.hash k) x
  have pf:=layNew_fits t es (knd.hash k) x
  have ⟨pr1,pl1⟩:=FC rs es (knd.hash k) x
  generalize layNew t es (knd.hash k) x=L at *
  obtain ⟨es1,t1,wd,gv⟩:=L
  dsimp only at pm pf pr1 pl1 ⊢
  rw [Rf] at pm
  obtain ⟨ks1,kp,kq⟩:=ca.perm pm.symm (pr.app (.cons (⟨hk,rfl,hx⟩:Ent knd k (knd.hash k,x)) .nil))
  have hz:es1.size=es.size + 1:=by rw [<-Mr,pm.length_eq,LY,Mr]; rfl
  have sb1:es1.size < Pt:=by rw [hz,<-hlen]; exact room
  have nd1:ks1.Nodup:=kp.nodup_iff.mp (TB.mpr ⟨nd,PB _ _,fun y hy z hz' e=>hk0 (by rw [LB] at hz'; rw [<-hz',<-e]; exact hy)⟩)
  have fin:∀ h' ks',LP a s.heap h'->dC knd h' a ks' led->M9 ks' ks1->Q true { s with heap:=h' }:=fun h' ks' b R' pp=>
   q h' ks' true b R' (fun y=>by rw [pp.mem_iff,<-kp.mem_iff,Mm,LB]) (by rw [pp.length_eq,<-kp.length_eq,LY]; exact LC _)
  apply Lw
  have gw:∀ (b:Bool) (z:Shared) (P:Unit->Shared->Prop),P () z->wpAny (model prog w) A (match b with | true=>rule "set.scan.the-table-gave-way" | false=>pure ()) P E z:=fun b z P hP=>by cases b <;> first | exact Ly hP | exact NJ hP
  refine gw gv _ _ ?_
  split
  ·apply Lw
   rw [hashByValue_scannable 8 hx]
   apply Ly
   refine xT (led:=led) (fun b z P hP=>by cases b <;> first | exact Ly hP | exact NJ hP) g1 g2 g3 kq nd1 sb1 ?_ ?_ ?_ fun h' ks' b R' pp=>?_
   ·split
    ·exact pf
    ·exact L6.fits_plain_off pf
   ·split <;> exact pr1
   ·split <;> exact pl1.trans ld
   ·exact Ly (fin h' ks' b R' pp)
  ·apply Lw
   apply Ly
   simp only [↓reduceIte]
   refine xT (led:=led) (fun b z P hP=>by cases b <;> first | exact Ly hP | exact NJ hP) g1 g2 g3 kq nd1 sb1 pf pr1 (pl1.trans ld) fun h' ks' b R' pp=>?_
   exact Ly (fin h' ks' b R' pp)
end
end L2
end
namespace L2
open PySem PyProof.Rows
section
open PySem.Spec
section
variable {prog:Program} {w:World} {K:Type} [DecidableEq K] {knd:KeyKind prog w K} {A:Around} {R:Result->Shared->Prop} {I:Addr} {fp wr:List Addr} {G:Array Sl->Array Sl->Prop} {n:Nat} {P:Nat->Value->Prop} {St:Nat->Shared->Prop}
theorem dC.at {h h':Heap} {a:Addr} {ks:List K} {led:Bool} (r:dC knd h a ks led) (k:∀ o,h.get? a=some o->h'.get? a=some o):dC knd h' a ks led:=by
 obtain ⟨o,es,ep,t,e,z⟩:=r
 exact ⟨o,es,ep,t,k o e,z⟩
theorem G3 (W:WalksS prog w A.in1 I fp wr G n P St) (S:Addr) (free:S∉fp) (key:Nat->K) (hkey:∀ i v,P i v->knd.is (key i) v=true/\v.scannable=true) (room:n + 1 < Pt) {led:Bool}:
  ∀ (m i:Nat) (s:Shared) (ks:List K),n - i=m->i<=n->St i s->dC knd s.heap S ks led->(∀ y,y∈ks↔∃ j,j < i/\key j=y)->ks.length<=i->
   (∀ s' ks',Moved (S :: wr) G s s'->dC knd s'.heap S ks' led->(∀ y,y∈ks'↔∃ j,j < n/\key j=y)->R (.ok (.ret .none)) s')->
   codeAny (model prog w) A (.builtin "set.update.loop" ⟨[.ref S,.ref I],[]⟩) R s:=by
 have nw:S∉wr:=fun z=>free (W.sub _ z)
 have up:∀ b∈wr,b∈S :: wr:=fun b z=>LJ _ z
 intro m
 induction m with
 | zero=>
  intro i s ks hm hi st r mem len done
  obtain rfl:i=n:=by omega
  apply Nw RG
  rw [M1 PC _]
  show wpAny _ A.in1 (pyNext (.ref I) >>= _) _ _ s
  apply Lw
  refine W.done s _ _ st fun z mv=>?_
  show wpAny _ A.in1 (ret MZ) _ _ z
  exact Ly (done z ks (mv.mono up) (r.at fun o e=>mv.heap S _ nw e) mem)
 | succ m ih=>
  intro i s ks hm hi st r mem len done
  have lt:i < n:=by omega
  apply Nw RG
  rw [M1 PC _]
  show wpAny _ A.in1 (pyNext (.ref I) >>= _) _ _ s
  apply Lw
  refine W.item i s _ _ lt st fun v z pv stz mv=>?_
  obtain ⟨kv,sv⟩:=hkey i v pv
  have rz:dC knd z.heap S ks led:=r.at fun o e=>mv.heap S _ nw e
  show wpAny _ A.in1 (holding [v] (setAdd S v) >>= _) _ _ z
  apply Lw
  apply MX
  unfold setAdd
  apply MX
  apply Lw
  refine knd.pyHash kv ?_
  refine Jl (s:={ z with toks:=z.toks + 1 }) kv sv rz (by omega) fun h' ks' b sb r' mem' len'=>?_
  refine Ly ⟨Og PC _,ih (i + 1) _ ks' (by omega) lt (W.frame _ z _ _ stz (OK _) fun c hc o e=>?_) r' (fun y=>?_) (by omega) fun z' ks2 mv2 r2 mem2=>?_⟩
  ·rw [sb.2 c (fun e':c=S=>free (by rw [<-e']; exact hc))]
   exact e
  ·rw [mem',mem]
   constructor
   ·rintro (⟨j,hj,e⟩ | e)
    ·exact ⟨j,by omega,e⟩
    ·exact ⟨i,by omega,e.symm⟩
   ·rintro ⟨j,hj,e⟩
    rcases Tp j i with q | q
    ·exact .inl ⟨j,q,e⟩
    ·have:j=i:=by omega
     subst this
     exact .inr e.symm
  ·refine done z' ks2 (Moved.trans W.gtrans ((mv.mono up).then_heap (OK _) fun c o hc e=>?_) mv2) r2 mem2
   rw [sb.2 c (fun e':c=S=>hc (by rw [e']; exact LG))]
   exact e
end
end
section
open PySem.Spec
section
variable {prog:Program} {w:World} {A:Around} {E:Value->Shared->Prop} {s:Shared}
noncomputable def ee (w:World):Bool:=w.params.followText "set-order"
noncomputable abbrev nP (w:World):Obj:={ cls:=.type "set",dict:=none,data:=.set #[] 0 (.fresh 0 0 (!ee w)) }
theorem G4 (x:Value) {Q:Value->Shared->Prop} (q:Q (.ref s.heap.objs.size) { s with heap:=s.heap.push (nP w) }):codeAny (model prog w) A (.call (.builtin "set.__new__") ⟨[.type "set",x],[]⟩) (wants Q E) s:=by
 apply RS
 show wpAny _ A.in1 (do RB "set.__new__" ⟨[.type "set",x],[]⟩; again (.builtin "set.__new__" ⟨[.type "set",x],[]⟩)) _ _ s
 apply Lw
 apply QJ (PySem.F.newCall_set_1 x)
 refine Ly ⟨Og Se _,?_⟩
 apply Nw PySem.F.entry_set_new
 rw [M1 Se _]
 unfold Builtin.«set.__new__»
 unfold Builtin.Frozenset.newClass
 have self_:=sub_set_self
 obtain ⟨hp,g,d,tk,os⟩:=s
 dsimp only
 wp_walk
 apply RC
 apply Ly
 dsimp only
 simp only [newObj]
 apply Lw
 apply wpAny_alloc
 apply Ly
 exact Ly q
theorem dC.new {K:Type} [DecidableEq K] {knd:KeyKind prog w K} {h:Heap} {a:Addr} (e:h.get? a=some (nP w)):dC knd h a [] (!ee w):=
 ⟨_,#[],0,_,e,⟨rfl,rfl,rfl⟩,rfl,.nil,.nil,by decide,rfl,.nil,rfl⟩
end
end
section
open PySem.Spec
section
variable {prog:Program} {w:World} {K:Type} [DecidableEq K] {knd:KeyKind prog w K} {A:Around} {E:Value->Shared->Prop} {s:Shared}
theorem Jm {l:Addr} {xs:Array Value} (key:Nat->K) {Q:Value->Shared->Prop} (calm:A.handled=none) (hl:s.heap.IsList l xs) (hkey:∀ i v,xs[i]?=some v->knd.is (key i) v=true/\v.scannable=true) (room:xs.size + 1 < Pt)
  (q:∀ (h':Heap) (tk:Nat) (ks:List K),dC knd h' s.heap.objs.size ks (!ee w)->(∀ y,y∈ks↔∃ j,j < xs.size/\key j=y)->(∀ b o,b < s.heap.objs.size->s.heap.get? b=some o->h'.get? b=some o)->Q (.ref s.heap.objs.size) { s with heap:=h',toks:=tk }):
  wpAny (model prog w) A (call (.type "set") [.ref l]) Q E s:=by
 have ft:=PySem.F.called_set
 obtain ⟨c0,tl0,mro0⟩:=ft.mro
 have made0:=ft.made
 have sub0:=ft.sub
 have not0:=ft.notType
 have can0:=ft.canCreate
 have chk0:=PySem.F.typeCall_set_1 (.ref l)
 apply Ur
 apply RS
 show wpAny _ _ (callAny (.type "set") _) _ _ _
 refine Ly ⟨Code.quiet_builtin _ (by decide +kernel),?_⟩
 apply Nw PySem.F.entry_type_call
 rw [Around.under_plain (weight_type_call_type "set" [.ref l] []) rfl]
 repeat (any_goals (first | assumption | wp_step))
 refine OO (G4 (.ref l) (E:=E) (Q:=fun ob z=>ob=.ref s.heap.objs.size/\z={ s with heap:=s.heap.push (nP w) }) ⟨rfl,rfl⟩) fun r z hz=>?_
 cases r with
 | error e=>exact hz
 | ok fl=>
  cases fl with
  | next=>exact hz.elim
  | brk=>exact hz.elim
  | cont=>exact hz.elim
  | ret ob=>
   obtain ⟨rfl,rfl⟩:=hz
   have got:(s.heap.push (nP w)).get? s.heap.objs.size=some (nP w):=LH _ rfl
   have isT:Q2 { s with heap:=s.heap.push (nP w) } (.ref s.heap.objs.size) "set":=⟨_,got,rfl⟩
   have look0:=ft.init.lookup
   have bind0:=ft.init.bind (.ref s.heap.objs.size)
   repeat (any_goals (first | assumption | wp_step))
   refine OO (codeAny_call_builtin (R:=wants (fun r z=>r=.none/\∃ h' tk ks,z={ s with heap:=h',toks:=tk }/\dC knd h' s.heap.objs.size ks (!ee w)/\(∀ y,y∈ks↔∃ j,j < xs.size/\key j=y)/\∀ b o,b < s.heap.objs.size->s.heap.get? b=some o->h'.get? b=some o) E) ft.init.plain PySem.F.entry_set_init (check_set_init_1 isT ?_)) fun r z hz=>?_
   ·obtain ⟨ob,gl,cl,nl,dl⟩:=hl
    obtain ⟨a1,a2,a3,a4⟩:=ob
    simp only at cl dl
    subst cl dl
    have gl1:(s.heap.push (nP w)).get? l=some { cls:=.type "list",dict:=a2,data:=.seq xs nl,slots:=a4 }:=Lx _ gl
    have sls:=PySem.F.sub_list_set
    have slf:=PySem.F.sub_list_frozenset
    have nd0:(M0 "list" == M0 "dict")=false:=by decide
    have il:(s.heap.push (nP w)).IsList l xs:=⟨_,gl1,rfl,nl,rfl⟩
    unfold Builtin.«set.__init__»
    unfold noKeywords
    unfold Builtin.Frozenset.updateFrom
    generalize gPI:pyIter=PI
    wp_walk
    subst gPI
    apply O3 il
    apply Lw
    apply Sf
    have lt:l < s.heap.objs.size:=LK gl
    have sz:(s.heap.push (nP w)).objs.size=s.heap.objs.size + 1:=Mo _ _
    have fr:s.heap.objs.size∉[(s.heap.push (nP w)).objs.size,l]:=by
     rw [sz]
     intro hm
     rcases LA.1 hm with e | hm
     ·exact absurd e (Ml (Nm _))
     ·rcases LA.1 hm with e | hm
      ·exact absurd e.symm (Ml lt)
      ·exact nomatch hm
    refine G3 (knd:=knd) ((Ux (by simp [calm]) _ l (by rw [sz]; exact Ml (Na lt)) xs).toS) s.heap.objs.size fr key (fun i v hv=>hkey i v hv) room (led:=!ee w) (xs.size - 0) 0 _ [] (by omega) (MJ _) ⟨⟨_,LH _ rfl,rfl,rfl⟩,il.push _⟩ (dC.new (Lx _ got)) (fun y=>⟨fun z=>(nomatch z),fun ⟨j,hj,_⟩=>absurd hj (Qq _)⟩) (LC _) fun z ks mv r mem=>?_
    obtain ⟨h',g',d',tk',os'⟩:=z
    obtain rfl:g'=s.gens:=mv.gens
    obtain rfl:d'=s.drawn:=mv.drawn
    obtain rfl:os'=s.os:=mv.os
    show wpAny _ _ _ _ _ _
    refine Ly ?_
    show wpAny _ _ (ret MZ) _ _ _
    refine Ly ⟨rfl,h',tk',ks,rfl,r,mem,fun b o hb e=>mv.heap b o (fun hm=>?_) (Lx _ (Lx _ e))⟩
    rcases LA.1 hm with e | hm
    ·exact absurd e (Ml hb)
    ·rcases LA.1 hm with e | hm
     ·rw [sz] at e
      exact absurd e (Ml (Na hb))
     ·exact nomatch hm
   ·cases r with
    | error e=>exact hz
    | ok fl=>
     cases fl with
     | next=>exact hz.elim
     | brk=>exact hz.elim
     | cont=>exact hz.elim
     | ret r=>
      obtain ⟨rfl,h',tk,ks,rfl,r1,r2,r3⟩:=hz
      repeat (any_goals (first | assumption | wp_step))
      exact q _ _ ks r1 r2 r3
end
end
section
open PySem.Spec
theorem fz:Slot "set_iterator" "__next__" "set_iterator.__next__":=by
 refine Slot.of (owner:="set_iterator") (n:="__next__") ?_ ?_ ?_ ?_ ?_ ?_
 ·rw [Qt,O9]
  kernel_rfl
 ·decide +kernel
 ·decide +kernel
 ·decide +kernel
 ·first
   | exact .inl (by decide +kernel)
   | exact .inr (by decide +kernel)
 ·rw [Sg]
  kernel_rfl
theorem Ce:Slot "set_iterator" "__iter__" "set_iterator.__iter__":=by
 refine Slot.of (owner:="set_iterator") (n:="__iter__") ?_ ?_ ?_ ?_ ?_ ?_
 ·rw [Qt,O9]
  kernel_rfl
 ·decide +kernel
 ·decide +kernel
 ·decide +kernel
 ·first
   | exact .inl (by decide +kernel)
   | exact .inr (by decide +kernel)
 ·rw [Sg]
  kernel_rfl
theorem pN:entryFor table "set_iterator.__next__"=some Builtin.«set_iterator.__next__»:=by
 apply entryFor_of_tree
 kernel_rfl
theorem G5:entryFor table "set_iterator.__iter__"=some Builtin.«dict_keyiterator.__iter__»:=by
 refine entryFor_alias (id':="dict_keyiterator.__iter__") ?_ rfl ?_ ?_
 ·kernel_rfl
 ·decide +kernel
 ·kernel_rfl
theorem Jn:entryFor table "set.__iter__"=some Builtin.«frozenset.__iter__»:=by
 refine entryFor_alias (id':="frozenset.__iter__") ?_ rfl ?_ ?_
 ·kernel_rfl
 ·decide +kernel
 ·kernel_rfl
theorem AG:Manifest.owners.lookup (String.ofList ['r','o','t','a','r','e','t','i','_','t','e','s'].reverse)=some Manifest.sig_set_iterator:=by kernel_rfl
theorem pO (a:Value):argsOk "set_iterator.__next__" ⟨[a],[]⟩:=by
 unfold argsOk
 rw [SO (id:="set_iterator.__next__") (n:=['_','_','t','x','e','n','_','_']) (o:=['r','o','t','a','r','e','t','i','_','t','e','s']) (by kernel_rfl) AG]
 kernel_rfl
theorem G6 (a:Value):argsOk "set_iterator.__iter__" ⟨[a],[]⟩:=by
 unfold argsOk
 rw [SO (id:="set_iterator.__iter__") (n:=['_','_','r','e','t','i','_','_']) (o:=['r','o','t','a','r','e','t','i','_','t','e','s']) (by kernel_rfl) AG]
 kernel_rfl
end
section
open PySem.Spec
noncomputable def SAt (h:Heap) (a:Addr) (es:Array (Int×Value)) (ep:Nat) (t:L6):Prop:=∃ o,h.get? a=some o/\o.data=.set es ep t/\t.fits es.size=true
noncomputable def dI (h:Heap) (I a:Addr) (f:Value) (i n ep:Nat):Prop:=∃ o,h.get? I=some o/\o.cls=.type "set_iterator"/\o.data=.fields #[f,.int i 0,.ref a,.int n 0,.int ep 0]
theorem SAt.at {h h':Heap} {a:Addr} {es:Array (Int×Value)} {ep:Nat} {t:L6} (x:SAt h a es ep t) (k:∀ o,h.get? a=some o->h'.get? a=some o):SAt h' a es ep t:=by
 obtain ⟨o,e,r⟩:=x
 exact ⟨o,k o e,r⟩
theorem dI.at {h h':Heap} {I a:Addr} {f:Value} {i n ep:Nat} (x:dI h I a f i n ep) (k:∀ o,h.get? I=some o->h'.get? I=some o):dI h' I a f i n ep:=by
 obtain ⟨o,e,r⟩:=x
 exact ⟨o,k o e,r⟩
theorem dI.type {s:Shared} {I a:Addr} {f:Value} {i n ep:Nat} (x:dI s.heap I a f i n ep):s.TypeIs (.ref I) "set_iterator":=by
 obtain ⟨o,e,c,_⟩:=x
 exact ⟨o,e,c⟩
theorem dI.set {h:Heap} {I a:Addr} {f g:Value} {i n ep:Nat} (x:dI h I a f i n ep):dI (h.update I (Q3 (·.setIfInBounds 0 g))) I a g i n ep:=by
 obtain ⟨o,e,c,d⟩:=x
 refine ⟨_,MB _ e (P6 (On d _)),(Ra ..).trans c,?_⟩
 rw [On d]
 simp
theorem dI.step {h:Heap} {I a:Addr} {f:Value} {i n ep:Nat} (x:dI h I a f i n ep):dI (h.update I (Q3 (·.setIfInBounds 1 (rawInt ((i:Int) + 1))))) I a f (i + 1) n ep:=by
 obtain ⟨o,e,c,d⟩:=x
 refine ⟨_,MB _ e (P6 (On d _)),(Ra ..).trans c,?_⟩
 rw [On d]
 simp [rawInt]
section
variable {prog:Program} {w:World} {A:Around} {E:Value->Shared->Prop} {s:Shared} {I a:Addr} {es:Array (Int×Value)} {ep:Nat} {t:L6} {i:Nat}
theorem sd {Q:Bool->Shared->Prop} (q:Q (ee w) s):wpAny (model prog w) A setsByText Q E s:=by
 unfold setsByText
 apply Lw
 apply RC
 exact Ly q
theorem Cf {slot:Nat} {Q:Option (Value×Nat)->Shared->Prop} (b:ee w=true) (hs:SAt s.heap a es ep t) (q:Q ((Pu (w.params.setOrder a ep) es)[i]?.map fun e=>(e.2,slot)) s):wpAny (model prog w) A (setNext a slot i ep) Q E s:=by
 obtain ⟨o,g1,g3,ft⟩:=hs
 unfold setNext
 apply Lw
 apply Nc g1 g3 ft
 dsimp only
 apply Lw
 apply sd
 rw [if_pos b,if_neg (by simp)]
 apply Lw
 unfold setWalk
 apply Lw
 apply Nc g1 g3 ft
 dsimp only
 apply Lw
 apply sd
 rw [if_pos b]
 apply Lw
 apply RC
 apply Ly
 exact Ly q
theorem Cg {slot:Nat} {Q:Option (Value×Nat)->Shared->Prop} (b:ee w=false) (pl:(!t.plain && decide (es.size > 1))=false) (ld:t.led=true) (hs:SAt s.heap a es ep t)
  (q:Q (match es[Mc t.place slot]?,t.place[Mc t.place slot]? with | some (_,x),some j=>some (x,j + 1) | _,_=>none) s):wpAny (model prog w) A (setNext a slot i ep) Q E s:=by
 obtain ⟨o,g1,g3,ft⟩:=hs
 unfold setNext
 apply Lw
 apply Nc g1 g3 ft
 dsimp only
 apply Lw
 apply sd
 rw [if_neg (by rw [b]; exact LM)]
 show wpAny _ _ (if (!t.plain && decide (es.size > 1))=true then _ else _) _ _ _
 rw [if_neg (by rw [pl]; exact LM)]
 apply Lw
 show wpAny _ _ (if (!t.led && !es.isEmpty)=true then _ else _) _ _ _
 rw [if_neg (by rw [ld]; simp)]
 apply Ly
 exact Ly q
theorem Jo {p:Nat} {x:Int×Value} {Q:Value->Shared->Prop} (hs:SAt s.heap a es ep t) (hx:es[p]?=some x) (q:Q x.2 s):wpAny (model prog w) A (setNextDrawn a p ep) Q E s:=by
 obtain ⟨o,g1,g3,ft⟩:=hs
 unfold setNextDrawn
 apply Lw
 apply Nc g1 g3 ft
 dsimp only
 rw [if_neg (by simp),hx]
 exact Ly q
theorem Ch {slot nx:Nat} {x:Value} {Q:Option Value->Shared->Prop} (hit:dI s.heap I a (.int slot 0) i es.size ep) (hs:SAt s.heap a es ep t)
  (hx:∀ (A:Around) (E:Value->Shared->Prop) (Q:Option (Value×Nat)->Shared->Prop),Q (some (x,nx)) s->wpAny (model prog w) A (setNext a slot i ep) Q E s)
  (q:∀ h',dI h' I a (.int nx 0) (i + 1) es.size ep->LP I s.heap h'->Q (some x) { s with heap:=h' }):wpAny (model prog w) A (pyNext (.ref I)) Q E s:=by
 obtain ⟨o,g1,g3,ft⟩:=id hs
 obtain ⟨u,e1,e2,e3⟩:=id hit
 unfold pyNext
 apply Lw
 apply N3
 refine Mx (name:=Nt "__next__") hit.type fz ?_
 refine Mp fz hit.type pN ?_ (pO _)
 refine Lw (Ly ?_)
 refine Lw (QH e1 e3 ?_)
 dsimp only
 apply Lw
 unfold Rl
 apply Lw
 apply Nc g1 g3 ft
 apply Ly
 rw [if_neg (by simp)]
 apply Lw
 refine hx _ _ _ ?_
 dsimp only
 refine Lw (Oh e1 e3 (by simp) ?_)
 have it1:dI (s.heap.update I (Q3 (·.setIfInBounds 0 (rawInt (nx:Int))))) I a (.int nx 0) i es.size ep:=hit.set
 obtain ⟨u',e1',e2',e3'⟩:=id it1
 refine Lw (Oh e1' e3' (by simp) ?_)
 exact Ly ⟨_,rfl,Ly (q _ it1.step ((MD _ I _).trans (MD _ I _)))⟩
theorem FE {slot:Nat} {Q:Option Value->Shared->Prop} (calm:A.handled=none) (hit:dI s.heap I a (.int slot 0) i es.size ep) (hs:SAt s.heap a es ep t)
  (hx:∀ (A:Around) (E:Value->Shared->Prop) (Q:Option (Value×Nat)->Shared->Prop),Q none s->wpAny (model prog w) A (setNext a slot i ep) Q E s)
  (q:∀ h',Ol I s.heap h'->Q none { s with heap:=h' }):wpAny (model prog w) A (pyNext (.ref I)) Q E s:=by
 obtain ⟨o,g1,g3,ft⟩:=id hs
 obtain ⟨u,e1,e2,e3⟩:=id hit
 unfold pyNext
 apply Lw
 apply N3
 refine Mx (name:=Nt "__next__") hit.type fz ?_
 refine Mp fz hit.type pN ?_ (pO _)
 refine Lw (Ly ?_)
 refine Lw (QH e1 e3 ?_)
 dsimp only
 apply Lw
 unfold Rl
 apply Lw
 apply Nc g1 g3 ft
 apply Ly
 rw [if_neg (by simp)]
 apply Lw
 refine hx _ _ _ ?_
 dsimp only
 refine Lw (Oh e1 e3 (by simp) ?_)
 show wpAny _ _ (newExc (.type "StopIteration") [] >>= _) _ _ _
 apply Lw
 simp only [newExc,T9]
 apply Lw
 refine MF ?_ (by size_fits)
 apply Lw
 refine QJ (a:=MZ) (by rfl) ?_
 refine MF ?_ (by size_fits)
 simp only [raiseNew]
 refine Lw (SL ?_)
 rw [show A.in1.handled=none from calm]
 refine TY ?_
 apply Lw
 refine Ny (T:="StopIteration") (b:=true) ?_ O7 ?_
 ·exact ⟨_,LH _ rfl,rfl⟩
 ·exact Ly (q _ (((MD _ I _).extBut.push _).push _))
theorem G7 {d:Addr} {ps:Array Value} {p:Nat} {x:Int×Value} {Q:Option Value->Shared->Prop} (hit:dI s.heap I a (.ref d) i es.size ep) (hs:SAt s.heap a es ep t) (ht:s.heap.IsTuple d ps) (hp:ps[i]?=some (.int p 0)) (hx:es[p]?=some x)
  (q:∀ h',dI h' I a (.ref d) (i + 1) es.size ep->LP I s.heap h'->Q (some x.2) { s with heap:=h' }):wpAny (model prog w) A (pyNext (.ref I)) Q E s:=by
 obtain ⟨o,g1,g3,ft⟩:=id hs
 obtain ⟨u,e1,e2,e3⟩:=id hit
 unfold pyNext
 apply Lw
 apply N3
 refine Mx (name:=Nt "__next__") hit.type fz ?_
 refine Mp fz hit.type pN ?_ (pO _)
 refine Lw (Ly ?_)
 refine Lw (QH e1 e3 ?_)
 dsimp only
 apply Lw
 unfold Rl
 apply Lw
 apply Nc g1 g3 ft
 apply Ly
 rw [if_neg (by simp)]
 obtain ⟨v,f1,f2,n,f3⟩:=id ht
 apply Lw
 refine Ms f1 f3 ?_
 dsimp only
 rw [show ((i:Int)).toNat=i from rfl,hp]
 dsimp only
 apply Lw
 refine Jo hs hx ?_
 refine Lw (Oh e1 e3 (by simp) ?_)
 exact Ly ⟨_,rfl,Ly (q _ hit.step (MD _ I _))⟩
theorem Jp {d:Addr} {ps:Array Value} {Q:Option Value->Shared->Prop} (calm:A.handled=none) (hit:dI s.heap I a (.ref d) i es.size ep) (hs:SAt s.heap a es ep t) (ht:s.heap.IsTuple d ps) (hp:ps[i]?=none)
  (q:∀ h',Ol I s.heap h'->Q none { s with heap:=h' }):wpAny (model prog w) A (pyNext (.ref I)) Q E s:=by
 obtain ⟨o,g1,g3,ft⟩:=id hs
 obtain ⟨u,e1,e2,e3⟩:=id hit
 unfold pyNext
 apply Lw
 apply N3
 refine Mx (name:=Nt "__next__") hit.type fz ?_
 refine Mp fz hit.type pN ?_ (pO _)
 refine Lw (Ly ?_)
 refine Lw (QH e1 e3 ?_)
 dsimp only
 apply Lw
 unfold Rl
 apply Lw
 apply Nc g1 g3 ft
 apply Ly
 rw [if_neg (by simp)]
 obtain ⟨v,f1,f2,n,f3⟩:=id ht
 apply Lw
 refine Ms f1 f3 ?_
 dsimp only
 rw [show ((i:Int)).toNat=i from rfl,hp]
 dsimp only
 refine Lw (Oh e1 e3 (by simp) ?_)
 have it1:dI (s.heap.update I (Q3 (·.setIfInBounds 0 (rawInt 0)))) I a (rawInt 0) i es.size ep:=hit.set
 obtain ⟨u',e1',e2',e3'⟩:=id it1
 refine Lw (Oh e1' e3' (by simp) ?_)
 show wpAny _ _ (newExc (.type "StopIteration") [] >>= _) _ _ _
 apply Lw
 simp only [newExc,T9]
 apply Lw
 refine MF ?_ (by size_fits)
 apply Lw
 refine QJ (a:=MZ) (by rfl) ?_
 refine MF ?_ (by size_fits)
 simp only [raiseNew]
 refine Lw (SL ?_)
 rw [show A.in1.handled=none from calm]
 refine TY ?_
 apply Lw
 refine Ny (T:="StopIteration") (b:=true) ?_ O7 ?_
 ·exact ⟨_,LH _ rfl,rfl⟩
 ·exact Ly (q _ ((((MD _ I _).trans (MD _ I _)).extBut.push _).push _))
theorem wP {f:Value} {n:Nat} {Q:Value->Shared->Prop} (hit:dI s.heap I a f i n ep) (q:Q (.ref I) s):wpAny (model prog w) A (pyIter (.ref I)) Q E s:=by
 refine TL hit.type Ce ?_
 refine Mp Ce hit.type G5 ?_ (G6 _)
 show wpAny _ _ (ret (.ref I)) _ _ s
 exact Ly ⟨_,rfl,"set_iterator",_,hit.type,fz.lookup,q⟩
end
end
section
open PySem.Spec
theorem wQ {α:Type}:∀ (l:List α) (i:Nat) (h:i < l.length),M9 (l[i] :: l.eraseIdx i) l
 | x :: l,0,_=>.refl _
 | x :: l,i + 1,h=>(M9.swap x _ _).trans (.cons x (wQ l i (Nat.lt_of_succ_lt_succ h)))
theorem Ci {α:Type} (next:Nat->Nat):∀ (fuel k:Nat) (left:List α) (out:Array α),left.length=fuel->M9 (Pu.go next fuel k left out).toList (out.toList++left)
 | 0,k,left,out,h=>by
  obtain rfl:=OU.mp h
  rw [Oa]
  exact .refl _
 | fuel + 1,k,left,out,h=>by
  have hl:next k % left.length < left.length:=Nat.mod_lt _ (by omega)
  show M9 (match left[next k % left.length]? with | some x=>Pu.go next fuel (k + 1) (left.eraseIdx (next k % left.length)) (out.push x) | none=>out).toList _
  rw [Lz hl]
  refine (Ci next fuel (k + 1) _ _ (by rw [Q4 hl,h]; rfl)).trans ?_
  rw [Rf,Q9]
  exact M9.append_left _ (wQ _ _ hl)
theorem rh {α:Type} (next:Nat->Nat) (xs:Array α):M9 (Pu next xs).toList xs.toList:=Ci next xs.size 0 xs.toList #[] (by simp)
section
variable {prog:Program} {w:World} {A:Around} {E:Value->Shared->Prop} {s:Shared} {I a:Addr} {es:Array (Int×Value)} {ep:Nat} {t:L6} {i:Nat}
theorem G8 {src:Source} {n:Nat} {Q:Nat->Shared->Prop} (hn:n≠0) (q:∀ i dr,i < n->Q i { s with drawn:=dr }):wpAny (model prog w) A (choose src n) Q E s:=fun _ _ _=>⟨hn,q _ _ (Nat.mod_lt _ (Nat.pos_of_ne_zero hn))⟩
theorem xU {α:Type}:∀ (n:Nat) (xs:List α) (s:Shared) (Q:List α->Shared->Prop),xs.length=n->(∀ ys dr,M9 ys xs->Q ys { s with drawn:=dr })->wpAny (model prog w) A (drawOrder n xs) Q E s
 | 0,xs,s,Q,h,q=>by
  obtain rfl:=OU.mp h
  exact Ly (q [] s.drawn .nil)
 | n + 1,[],s,Q,h,q=>nomatch h
 | n + 1,x :: xs,s,Q,h,q=>by
  unfold drawOrder
  apply Lw
  refine G8 (by simp) fun i dr hi=>?_
  rw [Lz hi]
  dsimp only
  apply Lw
  refine xU n _ _ _ (by rw [Q4 hi,h]; rfl) fun ys dr' p=>?_
  exact Ly (q _ _ ((M9.cons _ p).trans (wQ _ _ hi)))
noncomputable abbrev Ord (ord:List (Int×Value)) (i:Nat) (v:Value):Prop:=∃ e,ord[i]?=some e/\e.2=v
theorem Jq (calm:A.handled=none) (b:ee w=true) (hne:a≠I):
  Walks prog w A I [I,a] [I] es.size (Ord (Pu (w.params.setOrder a ep) es).toList) (fun i h=>(∃ slot:Nat,dI h I a (.int slot 0) i es.size ep)/\SAt h a es ep t) where
 sub:=fun b hb=>by
  rw [LB.mp hb]
  exact LG
 frame:=fun i h h' st k=>⟨st.1.elim fun n z=>⟨n,z.at (k I LG)⟩,st.2.at (k a (LJ _ LG))⟩
 item:=fun i s Q E hi st q=>by
  obtain ⟨⟨slot,it⟩,hs⟩:=st
  have len:=(rh (w.params.setOrder a ep) es).length_eq
  have hl:i < (Pu (w.params.setOrder a ep) es).size:=by
   rw [<-Mr,len,Mr]
   exact hi
  refine Ch (x:=(Pu (w.params.setOrder a ep) es)[i].2) (nx:=slot) it hs (fun A E Q h=>Cf b hs ?_) fun h' it' sb=>?_
  ·rw [NK hl]
   exact h
  ·refine q _ h' s.toks ⟨_,?_,rfl⟩ ⟨⟨slot,it'⟩,hs.at fun o e=>?_⟩ fun c o hc e=>?_
   ·rw [Ow,NK hl]
   ·exact sb.extBut a o hne e
   ·exact sb.extBut c o (fun z=>hc (by rw [z]; exact LG)) e
 done:=fun s Q E st q=>by
  obtain ⟨⟨slot,it⟩,hs⟩:=st
  have len:=(rh (w.params.setOrder a ep) es).length_eq
  have hl:(Pu (w.params.setOrder a ep) es).size<=es.size:=by
   rw [<-Mr,len,Mr]
   exact LC _
  refine FE calm it hs (fun A E Q h=>Cf b hs ?_) fun h' xb=>q h' s.toks fun c o hc e=>?_
  ·rw [PU hl]
   exact h
  ·exact xb c o (fun z=>hc (by rw [z]; exact LG)) e
 self:=fun i s Q E st q=>st.1.elim fun n z=>wP z q
noncomputable def uf (t:L6):Nat->Nat
 | 0=>0
 | j + 1=>t.place.getD j 0 + 1
theorem vx (rs:Rs t.place.toList):∀ i,i<=t.place.size->Mc t.place (uf t i)=i
 | 0,_=>Dh _ rs
 | j + 1,h=>by
  have hj:j < t.place.size:=h
  have hj':j < t.place.toList.length:=by simpa using hj
  have e:uf t (j + 1)=t.place.toList[j] + 1:=by rw [uf,xS _ _ _ hj]
  rw [e]
  exact Dg _ rs hj'
theorem Jr (calm:A.handled=none) (b:ee w=false) (pl:(!t.plain && decide (es.size > 1))=false) (ld:t.led=true) (rs:Rs t.place.toList) (sz:t.place.size=es.size) (hne:a≠I):
  Walks prog w A I [I,a] [I] es.size (Ord es.toList) (fun i h=>dI h I a (.int (uf t i:Nat) 0) i es.size ep/\SAt h a es ep t) where
 sub:=fun b hb=>by
  rw [LB.mp hb]
  exact LG
 frame:=fun i h h' st k=>⟨st.1.at (k I LG),st.2.at (k a (LJ _ LG))⟩
 item:=fun i s Q E hi st q=>by
  obtain ⟨it,hs⟩:=st
  have hp:i < t.place.size:=by rw [sz]; exact hi
  refine Ch (x:=es[i].2) (nx:=uf t (i + 1)) it hs (fun A E Q h=>Cg b pl ld hs ?_) fun h' it' sb=>?_
  ·rw [vx rs i (ML hp),NK hi,NK hp]
   have e:uf t (i + 1)=t.place[i] + 1:=by
    rw [uf,SE,dif_pos hp]
    rfl
   rw [e] at h
   exact h
  ·refine q _ h' s.toks ⟨_,?_,rfl⟩ ⟨it',hs.at fun o e=>?_⟩ fun c o hc e=>?_
   ·rw [Ow,NK hi]
   ·exact sb.extBut a o hne e
   ·exact sb.extBut c o (fun z=>hc (by rw [z]; exact LG)) e
 done:=fun s Q E st q=>by
  obtain ⟨it,hs⟩:=st
  refine FE calm it hs (fun A E Q h=>Cg b pl ld hs ?_) fun h' xb=>q h' s.toks fun c o hc e=>?_
  ·rw [vx rs es.size (by rw [sz]; exact LC _),PU (LC _)]
   exact h
  ·exact xb c o (fun z=>hc (by rw [z]; exact LG)) e
 self:=fun i s Q E st q=>wP st.1 q
theorem pB (es:Array (Int×Value)):((LO es.size).map fun p=>es.getD p (0,.none))=es.toList:=by
 apply List.ext_getElem
 ·simp
 ·intro i h1 h2
  have hi:i < es.size:=by simpa using h2
  rw [List.getElem_map,QT,SE,dif_pos hi]
  simp
theorem Js (calm:A.handled=none) {d:Addr} {ps:List Nat} (pm:M9 ps (LO es.size)) (hne:a≠I) (hd:d≠I):
  Walks prog w A I [I,a,d] [I] es.size (Ord (ps.map fun p=>es.getD p (0,.none))) (fun i h=>dI h I a (.ref d) i es.size ep/\SAt h a es ep t/\h.IsTuple d (ps.map fun p=>OJ (p:Nat) 0).toArray) where
 sub:=fun b hb=>by
  rw [LB.mp hb]
  exact LG
 frame:=fun i h h' st k=>⟨st.1.at (k I LG),st.2.1.at (k a (LJ _ LG)),st.2.2.at (k d (LJ _ (LJ _ LG)))⟩
 item:=fun i s Q E hi st q=>by
  obtain ⟨it,hs,ht⟩:=st
  have len:=pm.length_eq
  rw [Nb] at len
  have hl:i < ps.length:=by rw [len]; exact hi
  have lt:ps[i] < es.size:=Nf.mp (pm.mem_iff.mp (Oi hl))
  refine G7 (p:=ps[i]) (x:=es[ps[i]]) it hs ht ?_ (NK lt) fun h' it' sb=>?_
  ·rw [Sh,LS,Lz hl]
   rfl
  ·refine q _ h' s.toks ⟨_,?_,rfl⟩ ⟨it',hs.at fun o e=>?_,ht.at fun o e=>?_⟩ fun c o hc e=>?_
   ·rw [LS,Lz hl]
    show some (es.getD ps[i] (0,.none))=_
    rw [SE,dif_pos lt]
    rfl
   ·exact sb.extBut a o hne e
   ·exact sb.extBut d o hd e
   ·exact sb.extBut c o (fun z=>hc (by rw [z]; exact LG)) e
 done:=fun s Q E st q=>by
  obtain ⟨it,hs,ht⟩:=st
  have len:=pm.length_eq
  refine Jp calm it hs ht ?_ fun h' xb=>q h' s.toks fun c o hc e=>?_
  ·apply PU
   simp [len]
  ·exact xb c o (fun z=>hc (by rw [z]; exact LG)) e
 self:=fun i s Q E st q=>wP st.1 q
end
end
section
open PySem.Spec
theorem ca.get {α β:Type} {F:α->β->Prop} {l:List α} {m:List β} (h:ca F l m):∀ {i:Nat} {b:β},m[i]?=some b->∃ a,l[i]?=some a/\F a b:=by
 induction h with
 | nil=>intro i b e; cases e
 | cons r _ ih=>
  intro i b e
  cases i with
  | zero=>
   obtain rfl:_=b:=LR e
   exact ⟨_,rfl,r⟩
  | succ i=>exact ih e
section
variable {prog:Program} {w:World} {K:Type} [DecidableEq K] {knd:KeyKind prog w K} {A:Around} {E:Value->Shared->Prop} {s:Shared} {I a:Addr} {es:Array (Int×Value)} {ep:Nat} {t:L6} {i:Nat}
theorem ug {fp wr:List Addr} {n:Nat} {P P':Nat->Value->Prop} {St:Nat->Heap->Prop} (W:Walks prog w A I fp wr n P St) (f:∀ i v,P i v->P' i v):Walks prog w A I fp wr n P' St where
 sub:=W.sub
 frame:=W.frame
 item:=fun i s Q E hi st q=>W.item i s Q E hi st fun v h' tk pv=>q v h' tk (f i v pv)
 done:=W.done
 self:=W.self
noncomputable abbrev dm (knd:KeyKind prog w K) (ord:List K) (i:Nat) (v:Value):Prop:=∃ k,ord[i]?=some k/\knd.is k v=true
theorem wR {ks:List K} {l m:List (Int×Value)} (pr:ca (Ent knd) ks m) (p:M9 l m):∃ ord,M9 ord ks/\∀ i v,Ord l i v->dm knd ord i v:=by
 obtain ⟨ord,q,pr'⟩:=ca.perm p.symm pr
 refine ⟨ord,q.symm,fun i v h=>?_⟩
 obtain ⟨e,he,rfl⟩:=h
 obtain ⟨k,hk,r⟩:=pr'.get he
 exact ⟨k,hk,r.1⟩
noncomputable abbrev itO (f:Value) (a:Addr) (n ep:Nat):Obj:={ cls:=.type "set_iterator",data:=.fields #[f,.int (0:Nat) 0,.ref a,.int n 0,.int ep 0] }
theorem Cj {f:Value} {F:Fin->Shared->Prop} (hs:SAt s.heap a es ep t) (q:F (.done (.ret (.ref s.heap.objs.size))) { s with heap:=s.heap.push (itO f a es.size ep) }):
  wpAny (model prog w) A (do ret (<-newFields "set_iterator" [f,rawInt 0,.ref a,rawInt es.size,rawInt (<-setEpoch a)])) F E s:=by
 obtain ⟨o,g1,g3,ft⟩:=hs
 apply Lw
 refine wpAny_setEpoch_of g1 g3 ft ?_
 apply Lw
 unfold newFields
 refine MF ?_
 exact Ly q
theorem G9 {ks:List K} {Q:Value->Shared->Prop} (calm:A.handled=none) (r:dC knd s.heap a ks (!ee w))
  (q:∀ (I:Addr) (h':Heap) (dr) (fp:List Addr) (St:Nat->Heap->Prop) (ord:List K),M9 ord ks->Walks prog w A I fp [I] ks.length (dm knd ord) St->St 0 h'->(∀ b∈fp,b < h'.objs.size)->(∀ b∈fp,b=a\/s.heap.objs.size<=b)->s.heap.objs.size<=I->I∈fp->(∀ b o,s.heap.get? b=some o->h'.get? b=some o)->Q (.ref I) { s with heap:=h',drawn:=dr }):
  wpAny (model prog w) A (pyIter (.ref a)) Q E s:=by
 obtain ⟨o,es,ep,t,g1,g2,g3,pr,nd,sb,ft,rs,ld⟩:=id r
 have hs:SAt s.heap a es ep t:=⟨o,g1,g3,ft⟩
 have ty:s.TypeIs (.ref a) "set":=⟨o,g1,g2.1⟩
 have len:es.size=ks.length:=by rw [pr.len,Mr]
 have lt:a < s.heap.objs.size:=LK g1
 rw [<-len] at q
 have sz:t.place.size=es.size:=by
  simp only [L6.fits,M7,beq_iff_eq] at ft
  exact ft.1
 refine TL ty Si ?_
 refine Mp Si ty Jn ?_ (PySem.F.args_set_iter_1 _)
 unfold Builtin.«frozenset.__iter__»
 refine Lw (Ly ?_)
 apply Lw
 unfold Builtin.Frozenset.sizeOf
 apply Lw
 unfold Rl
 apply Lw
 apply Nc g1 g3 ft
 apply Ly
 apply Ly
 apply Lw
 unfold setDrawn
 apply Lw
 apply Nc g1 g3 ft
 dsimp only
 apply Lw
 apply sd
 apply Ly
 show wpAny _ _ (if (!ee w && (!t.plain && decide (es.size > 1)))=true then _ else _) _ _ _
 by_cases c:(!ee w && (!t.plain && decide (es.size > 1)))=true
 ·rw [if_pos c]
  apply Lw
  refine xU _ _ _ _ Nb fun ps dr pm=>?_
  apply Lw
  refine QD ?_ (by rw [LF,pm.length_eq,Nb]; exact Me (ML sb) (by decide))
  have pz:=Mo s.heap { cls:=.type "tuple",data:=.seq (ps.map fun (i:Nat)=>rawInt i).toArray }
  have hs1:=hs.at (h':=s.heap.push { cls:=.type "tuple",data:=.seq (ps.map fun (i:Nat)=>rawInt i).toArray }) fun o e=>Lx _ e
  have tu:(s.heap.push { cls:=.type "tuple",data:=.seq (ps.map fun (i:Nat)=>rawInt i).toArray }).IsTuple s.heap.objs.size (ps.map fun p=>OJ (p:Nat) 0).toArray:=⟨_,LH _ rfl,rfl,0,rfl⟩
  have kp0:∀ b o,s.heap.get? b=some o->(s.heap.push { cls:=.type "tuple",data:=.seq (ps.map fun (i:Nat)=>rawInt i).toArray }).get? b=some o:=fun b o e=>Lx _ e
  generalize s.heap.push { cls:=.type "tuple",data:=.seq (ps.map fun (i:Nat)=>rawInt i).toArray }=hp at *
  have lt1:a < hp.objs.size:=by rw [pz]; exact Na lt
  have kp:∀ b o,s.heap.get? b=some o->hp.get? b=some o:=kp0
  refine Cj (s:={ s with drawn:=dr,heap:=hp }) hs1 ⟨_,rfl,"set_iterator",_,⟨_,LH _ rfl,rfl⟩,fz.lookup,?_⟩
  obtain ⟨ord,p1,p2⟩:=wR pr (l:=ps.map fun p=>es.getD p (0,.none)) (by rw [<-pB es]; exact pm.map _)
  refine q hp.objs.size _ dr [hp.objs.size,a,s.heap.objs.size] _ ord p1 (ug (Js (A:=A) (es:=es) (ep:=ep) (t:=t) calm pm (Ml lt1) (d:=s.heap.objs.size) (Ml (by rw [pz]; exact Nm _))) p2) ⟨⟨_,LH _ rfl,rfl,rfl⟩,hs1.at fun o e=>Lx _ e,tu.push _⟩ (fun b hb=>?_) (fun b hb=>?_) (by rw [pz]; exact OK _) LG fun b o e=>Lx _ (kp b o e)
  ·rw [Mo]
   rcases LA.mp hb with e | hb
   ·rw [e]
    exact Nm _
   ·rcases LA.mp hb with e | hb
    ·rw [e]
     exact Na lt1
    ·rw [LB.mp hb,pz]
     exact Na (Nm _)
  ·rcases LA.mp hb with e | hb
   ·exact .inr (by rw [e,pz]; exact OK _)
   ·rcases LA.mp hb with e | hb
    ·exact .inl e
    ·exact .inr (by rw [LB.mp hb]; exact LC _)
 ·rw [if_neg c]
  apply Lw
  apply Ly
  refine Cj hs ⟨_,rfl,"set_iterator",_,⟨_,LH _ rfl,rfl⟩,fz.lookup,?_⟩
  have it0:dI (s.heap.push (itO (rawInt 0) a es.size ep)) s.heap.objs.size a (.int (0:Nat) 0) 0 es.size ep:=⟨_,LH _ rfl,rfl,rfl⟩
  have hs0:SAt (s.heap.push (itO (rawInt 0) a es.size ep)) a es ep t:=hs.at fun o e=>Lx _ e
  have inb:∀ b∈[s.heap.objs.size,a],b < (s.heap.push (itO (rawInt 0) a es.size ep)).objs.size:=fun b hb=>by
   rw [Mo]
   rcases LA.mp hb with e | hb
   ·rw [e]
    exact Nm _
   ·rw [LB.mp hb]
    exact Na lt
  have out:∀ b∈[s.heap.objs.size,a],b=a\/s.heap.objs.size<=b:=fun b hb=>by
   rcases LA.mp hb with e | hb
   ·exact .inr (by rw [e]; exact LC _)
   ·exact .inl (LB.mp hb)
  cases b:ee w with
  | true=>
   obtain ⟨ord,p1,p2⟩:=wR pr (rh (w.params.setOrder a ep) es)
   refine q s.heap.objs.size _ s.drawn _ _ ord p1 (ug (Jq (A:=A) (es:=es) (ep:=ep) (t:=t) calm b (Ml lt)) p2) ⟨⟨0,it0⟩,hs0⟩ inb out (LC _) LG fun b o e=>Lx _ e
  | false=>
   have pl:(!t.plain && decide (es.size > 1))=false:=by
    rw [b] at c
    simpa using c
   have l1:t.led=true:=by rw [ld,b]; rfl
   obtain ⟨ord,p1,p2⟩:=wR pr (M9.refl es.toList)
   refine q s.heap.objs.size _ s.drawn _ _ ord p1 (ug (Jr (A:=A) (es:=es) (ep:=ep) (t:=t) calm b pl l1 rs sz (Ml lt)) p2) ⟨it0,hs0⟩ inb out (LC _) LG fun b o e=>Lx _ e
end
end
section
open PySem.Spec PySem.W
section
variable {prog:Program} {w:World} {K:Type} [DecidableEq K] {knd:KeyKind prog w K} {A:Around} {E:Value->Shared->Prop} {s:Shared} {a:Addr}
theorem Hc {Q:Bool->Shared->Prop} (ty:s.TypeIs (.ref a) "set") (q:Q false s):wpAny (model prog w) A (Os (.ref a)) Q E s:=by
 unfold Os
 apply Lw
 refine Nk ty PySem.F.slot_set_len.lookup ?_
 generalize hid:("set.__len__":String)=nm
 wp_delta
 rw [show splitId nm=some ("set","__len__") from by subst hid; decide +kernel]
 subst hid
 apply Lw
 refine Ny (T:="set") (b:=true) ty (by rw [Sg]; kernel_rfl) ?_
 refine RU (fun z=>absurd z (by decide)) fun _=>?_
 refine RU (fun _=>?_) fun z=>absurd (by decide +kernel) z
 apply Lw
 refine Qh ty ?_
 exact Ly q
theorem dC.type {ks:List K} {led:Bool} (r:dC knd s.heap a ks led):s.TypeIs (.ref a) "set":=by
 obtain ⟨o,es,ep,t,g1,g2,_⟩:=r
 exact ⟨o,g1,g2.1⟩
theorem dC.small {h:Heap} {ks:List K} {led:Bool} (r:dC knd h a ks led):ks.length < Pt:=by
 obtain ⟨o,es,ep,t,g1,g2,g3,pr,nd,sb,_⟩:=r
 rw [pr.len,Mr]
 exact sb
theorem Dj {ks:List K} {R:Result->Shared->Prop} (calm:A.handled=none) (r:dC knd s.heap a ks (!ee w)) (S:Addr) (ne:S≠a) (hS:s.heap.get? S=some { cls:=.type "list",data:=.seq #[] })
  (q:∀ (s':Shared) h' dr tk ord acc c,s'={ s with heap:=h',drawn:=dr,toks:=tk }->M9 ord ks->(∀ b o,b≠S->s.heap.get? b=some o->h'.get? b=some o)->h'.get? S=some { cls:=.type "list",dict:=none,data:=.seq acc c,slots:=#[] }->ItemsOf (dm knd ord) acc ks.length->R (.ok (.ret (.ref S))) s'):
  wpAny (model prog w) A.in1 (MT (.ref S) (.ref a) (.ref S)) (fun fin s'=>match fin with | .done f=>R (.ok f) s' | .again c'=>c'.quiet=true/\codeAny (model prog w) A c' R s') (fun e s'=>R (.error e) s') s:=by
 have hn:ks.length<=LN:=Me (ML r.small) (by decide)
 unfold MT
 apply Lw
 refine Qh (T:="set") r.type ?_
 have h1:OR (.ref S) (.ref a)=false:=by simp [OR,ne]
 have h2:(M0 "set" == M0 "list")=false:=by decide
 have h3:(M0 "set" == M0 "tuple")=false:=by decide
 simp only [h1,h2,h3,Bool.or_false,MR,if_false]
 apply Lw
 refine G9 (A:=A.in1) calm r fun I h' dr fp St ord pm W st inb out ge Ifp kp=>?_
 have hS1:=kp _ _ hS
 have lS:S < s.heap.objs.size:=LK hS
 have r1:dC knd h' a ks (!ee w):=r.at fun o e=>kp a o e
 have nS:S∉fp:=fun hm=>by
  rcases out S hm with z | z
  ·exact ne z
  ·exact absurd lS (Rj.mpr z)
 have loop:∀ (h2:Heap) (c:Nat),(∀ b o,b≠S->h'.get? b=some o->h2.get? b=some o)->h2.get? S=some { cls:=.type "list",dict:=none,data:=.seq #[] c,slots:=#[] }->codeAny (model prog w) A (.builtin "list.extend.loop" ⟨[.ref S,.ref I,.ref S],[]⟩) R { s with heap:=h2,drawn:=dr }:=fun h2 c k2 e2=>by
  refine codeAny_extend_loopS W.toS hn S nS (.ref S) ks.length 0 _ #[] c rfl (MJ _) (W.frame 0 _ _ st fun b hb o e=>k2 b o (fun z=>nS (z ▸ hb)) e) e2 (ItemsOf.nil _) fun s' acc c' mv e3 it=>?_
  rw [Moved.eq_with mv]
  refine q _ s'.heap dr s'.toks ord acc c' rfl pm (fun b o hb e=>mv.heap b o (fun hm=>?_) (k2 b o hb (kp b o e))) e3 it
  rcases LA.mp hm with z | hm
  ·exact hb z
  ·rw [LB.mp hm] at e
   exact absurd (LK e) (Rj.mpr ge)
 apply Lw
 apply MX
 refine Hc (s:={ s with heap:=h',drawn:=dr }) r1.type ?_
 refine RU (fun _=>?_) fun _=>?_
 ·apply Lw
  apply NJ
  apply Lw
  show wpAny _ _ (Qa S (·.push .none) >>= fun _=>Qa S (·.pop)) _ _ _
  apply Lw
  refine Ox hS1 rfl ?_
  have hS2:=MB (MV (·.push MZ)) hS1 rfl
  refine Ox (hz:=by seq_fits) hS2 rfl ?_
  have hS3:=MB (MV (·.pop)) hS2 rfl
  refine Ly ⟨Og NL _,loop _ _ (fun b o hb e=>?_) hS3⟩
  rw [Nn _ _ (Mz hb),Nn _ _ (Mz hb)]
  exact e
 ·exact Ly ⟨Og NL _,loop _ _ (fun b o hb e=>e) hS1⟩
theorem Bz {ks:List K} {R:List Value->Shared->Prop} (calm:A.handled=none) (r:dC knd s.heap a ks (!ee w))
  (q:∀ h' dr tk ord (acc:Array Value),M9 ord ks->(∀ b o,s.heap.get? b=some o->h'.get? b=some o)->s.heap.objs.size < h'.objs.size->ItemsOf (dm knd ord) acc ks.length->R acc.toList { s with heap:=h',drawn:=dr,toks:=tk }):
  wpAny (model prog w) A (collect (.ref a)) R E s:=by
 have lt:a < s.heap.objs.size:=by
  obtain ⟨o,es,ep,t,g1,_⟩:=r
  exact LK g1
 unfold collect
 apply Lw
 apply Sf
 apply Nw entry_proto_collect'
 rw [M1 PySem.F.plain_proto_collect _]
 show wpAny _ A.in1 (newList [] >>= fun l=>again (.builtin "list.__iadd__" ⟨[l,.ref a],[]⟩)) _ _ s
 apply Lw
 refine MF ?_
 refine Ly ⟨Og RH _,?_⟩
 apply Nw entry_list_iadd'
 rw [M1 RH _]
 show wpAny _ A.in1 (MT (.ref s.heap.objs.size) (.ref a) (.ref s.heap.objs.size)) _ _ _
 have key:=Dj (A:=A) (s:={ s with heap:=s.heap.push { cls:=.type "list",data:=.seq ([]:List Value).toArray } })
  (R:=fun (u:Result) (s':Shared)=>∃ h' dr tk ord acc c,u=.ok (.ret (.ref s.heap.objs.size))/\s'={ s with heap:=h',drawn:=dr,toks:=tk }/\M9 ord ks/\(∀ b o,s.heap.get? b=some o->h'.get? b=some o)/\
   h'.get? s.heap.objs.size=some { cls:=.type "list",dict:=none,data:=.seq acc c,slots:=#[] }/\ItemsOf (dm knd ord) acc ks.length)
  calm (r.at fun o e=>Lx _ e) s.heap.objs.size (NA lt) (LH _ rfl)
  fun s' h' dr tk ord acc c e pm kp e3 it=>⟨h',dr,tk,ord,acc,c,rfl,e,pm,fun b o eb=>kp b o (Ml (LK eb)) (Lx _ eb),e3,it⟩
 refine Nh key (fun fin s' x=>?_) fun e s' x=>?_
 ·cases fin with
  | done f=>
   obtain ⟨h',dr,tk,ord,acc,c,e,rfl,pm,kp,e3,it⟩:=x
   cases e
   show wpAny _ A (load s.heap.objs.size >>= _) _ _ _
   apply Lw
   refine Sn e3 ?_
   exact Ly (q h' dr tk ord acc pm kp (LK e3) it)
  | again c1=>
   refine ⟨x.1,OO x.2 fun u s2 y=>?_⟩
   obtain ⟨h',dr,tk,ord,acc,c,rfl,rfl,pm,kp,e3,it⟩:=y
   show wpAny _ A (load s.heap.objs.size >>= _) _ _ _
   apply Lw
   refine Sn e3 ?_
   exact Ly (q h' dr tk ord acc pm kp (LK e3) it)
 ·obtain ⟨h',dr,tk,ord,acc,c,e',_⟩:=x
  cases e'
end
end
section
open PySem.Spec
section
variable {X:Cx}
end
end
section
open PySem.Spec
section
variable {prog:Program} {w:World} {A:Around} {R:Result->Shared->Prop} {I:Addr} {fp wr:List Addr} {n:Nat} {P:Nat->Value->Prop} {St:Nat->Heap->Prop} {kw:List (Str×Value)}
end
end
section
open PySem.Spec
section
variable {prog:Program} {w:World} {A:Around} {E:Value->Shared->Prop} {s:Shared}
end
end
section
open PySem.Spec
section
variable {X:Cx}
end
end
section
open PySem.Calls
section
variable {X:Cx}
end
end
section
open PySem.Spec PySem.Calls
section
variable {prog:Program} {w:World} {A:Around} {E:Value->Shared->Prop} {s:Shared} {a:Addr}
theorem xV:∀ {ord:List Int} {l:List Value},l.length=ord.length->(∀ i v,l[i]?=some v->dm (intKind prog w) ord i v)->IntsAre l ord
 | [],[],_,_=>.nil
 | [],_ :: _,h,_=>nomatch h
 | _ :: _,[],h,_=>nomatch h
 | k :: ord,v :: l,h,t=>by
  obtain ⟨k',hk,hv⟩:=t 0 v rfl
  obtain rfl:k=k':=LR hk
  obtain ⟨tk,rfl⟩:=Tq hv
  exact .cons k tk (xV (Nat.succ.inj h) fun i u hu=>t (i + 1) u hu)
theorem Dk {ks:List Int} {Q:Value->Shared->Prop} (calm:A.handled=none) (r:dC (intKind prog w) s.heap a ks (!ee w)) (h64:ks.length < 64)
  (q:∀ (p:Addr) (h':Heap) (dr) (tk:Nat) (out:Array Value) (e:Nat) (ms:List Int),(∀ b o,s.heap.get? b=some o->h'.get? b=some o)->s.heap.objs.size<=p->h'.get? p=some (seqObj "list" out e)->IntsAre out.toList ms->ms.Perm ks->ms.Pairwise (·<=·)->Q (.ref p) { s with heap:=h',drawn:=dr,toks:=tk }):
  wpAny (model prog w) A (call (.builtin "sorted") [.ref a]) Q E s:=by
 refine call_function_entry kind_sorted plain_sorted entry_sorted (args_sorted1 _) ?_
 unfold Builtin.«sorted»
 refine Lw (m:=checkCount "sorted" 1 1 _) (Ly ?_)
 apply Lw
 refine Bz (A:=A.in1) calm r fun h' dr tk ord acc pm kp gt it=>?_
 have len:acc.toList.length=ks.length:=by rw [Mr]; exact it.1
 have ia:IntsAre acc.toList ord:=xV (by rw [len,pm.length_eq]) fun i v e=>it.2 i v (by rw [<-Ow]; exact e)
 apply Lw
 refine wpAny_newList ?_ (by rw [len]; exact Me (ML h64) (by decide))
 have hoL:(h'.push (seqObj "list" acc.toList.toArray 0)).get? h'.objs.size=some (seqObj "list" acc.toList.toArray 0):=LH _ rfl
 have ge:s.heap.objs.size<=h'.objs.size:=ML gt
 apply Lw
 apply MX
 refine Mp slot_list_sort ⟨_,hoL,rfl⟩ entry_list_sort ?_ (args_list_sort _)
 refine list_sort_tree hoL ia (by rw [len]; exact h64) fun out ms a1 a2 a3=>⟨_,rfl,?_⟩
 obtain ⟨e,he⟩:=sortedHeap_at (n:=0) (vs:=acc.toList) (out:=out) hoL
 refine Ly ⟨_,rfl,q _ _ dr tk out e ms (fun b o eb=>?_) ge he a1 (a2.trans pm) a3⟩
 have hb:=LK eb
 rw [sortedHeap_old (Ml (L8 hb ge)) (by rw [size_push']; exact Na (L8 hb ge))]
 exact Lx _ (kp b o eb)
end
section
variable {X:Cx}
theorem Inv.drew {pins:List (Addr×Obj)} {σ:St} {H:Hp} {s:Shared} (I:Inv X pins σ H s) (dr):Inv X pins σ H { s with drawn:=dr }:=by
 cases I
 constructor <;> assumption
end
end
section
open PySem.Spec PySem.Calls
theorem Ck:∀ {l:List Value} {ns:List Int} {i:Nat} {v:Value},IntsAre l ns->l[i]?=some v->∃ t,v=.int (ns.getD i 0) t
 | _,_,_,_,.nil,e=>nomatch e
 | _,_,0,_,.cons n t _,e=>⟨t,(LR e).symm⟩
 | _,_,i + 1,_,.cons n t h,e=>by
  obtain ⟨t',e'⟩:=Ck (i:=i) h e
  exact ⟨t',e'⟩
section
variable {X:Cx}
theorem Dl {e:Expr} {p p2 pos pos2:Pos} {t:TA} (hc:X.calm=true) (hm:X.mg "sorted"=none) (hm2:X.mg "set"=none) (ha:PA X [e] t) (hg:Gl X "sorted":=by rfl) (hg2:Gl X "set":=by rfl)
  (he:L5 [e] X.env=(false,eval e X.env) :: L5 [] X.env:=by rfl) (hpl:(backTo pos2 (L5 [] X.env)).any (·.1)=false:=by rfl)
  (he1:L5 [.Call (.Name "set" p2) [e] [] pos2] X.env=(false,eval (.Call (.Name "set" p2) [e] [] pos2) X.env) :: L5 [] X.env:=by rfl) (hpl1:(backTo pos (L5 [] X.env)).any (·.1)=false:=by rfl):
  PE X (.Call (.Name "sorted" p) [.Call (.Name "set" p2) [e] [] pos2] [] pos) (tS X.K t):=by
 intro pins s σ H Q I h
 refine N6 (fR I hg hm boot_sorted ?_ (by decide) (by decide))
 refine Qg ?_ he1 hpl1
 rw [he1]
 show wpAny _ _ (spliced ((false,eval (.Call (.Name "set" p2) [e] [] pos2) X.env) :: backTo pos (L5 [] X.env))) _ _ s
 refine QM ?_
 refine N6 (fR I hg2 hm2 boot_set ?_ (by decide) (by decide))
 refine MI (thn (ha pos2 pins s σ H _ I h) fun us s1 ⟨vs,H1,I1,r1,q1⟩=>?_) he hpl
 obtain ⟨l,ns,rfl,hq,hl,q⟩:=q1
 obtain ⟨u,rfl,rx⟩:=r1.one
 cases rx
 obtain ⟨its,rv,pl,hz⟩:=I1.list hq
 have hi:=oS rv
 have hlen:its.length=ns.length:=by have:=rv.length; rw [LF] at this; omega
 have calm:X.A.handled=none:=I.ok.hd hc
 refine Jm (knd:=intKind X.prog X.w) (fun i=>ns.getD i 0) calm pl.isList (fun i v hv=>?_) (by rw [LQ,hlen]; exact OV (Nat.succ_le_of_lt hl) (by decide)) fun h' tk ks r mem kp=>?_
 ·rw [Sh] at hv
  obtain ⟨tk,rfl⟩:=Ck hi hv
  exact ⟨by first | simp [intKind,RV] | (unfold intKind; simp [RV]),rfl⟩
 have memI:∀ y,y∈ks↔y∈ns:=fun y=>by
  rw [mem,LQ,hlen]
  constructor
  ·rintro ⟨j,hj,rfl⟩
   rw [LV,Lz hj]
   exact Oi hj
  ·intro hy
   obtain ⟨j,hj,rfl⟩:=List.getElem_of_mem hy
   refine ⟨j,hj,?_⟩
   rw [LV,Lz hj]
   rfl
 have nd:ks.Nodup:=by
  obtain ⟨o,es,ep,t,g1,g2,g3,pr,nd,_⟩:=r
  exact nd
 refine Q8 ?_
 refine Dk calm r (OV (An nd fun y hy=>(memI y).mp hy) hl) fun q' h2 dr tk2 out ex ms kp2 ge hx a1 a2 a3=>?_
 have kk:∀ b o,s1.heap.get? b=some o->h2.get? b=some o:=fun b o eb=>kp2 b o (kp b o (LK eb) eb)
 have ge1:s1.heap.objs.size<=q':=by
  obtain ⟨o,es,ep,t,g1,_⟩:=r
  exact ML (L8 (LK g1) ge)
 have hf:H1 q'=none:=I1.hok.fresh ge1
 have nm:ms.Nodup:=a2.nodup_iff.mpr nd
 have ml:ms.length < 64:=by
  rw [a2.length_eq]
  exact OV (An nd fun y hy=>(memI y).mp hy) hl
 refine ⟨.ref q',_,(I1.laid (t':=tk2) (o:=.lst (ms.map V.int)) kk ge1 ?_).drew dr,rfl,q _ _ ms hf (aZ hf _) az ?_ fun y=>?_⟩
 ·exact ⟨by rw [LF,LI]; omega,out.toList,ex,qF a1,by rw [hx,Array.toArray_toList]⟩
 ·exact (a3.and nm).imp fun ⟨z1,z2⟩=>by omega
 ·rw [a2.mem_iff,memI]
end
end
section
variable {σ:St} {H:Hp} {Q:VK} {a:Addr} {kvs:List (Key×V)} {i:Int} {v:V}
end
section
variable {g:CF TG} {tt:CF TT} {te:CF TE} {σ₀:St} {Q:VK} {H:Hp}
end
section
open PySem.Spec
section
variable {X:Cx}
end
end
section
open PySem.Spec
section
variable {X:Cx}
end
end
section
open PySem.Spec
section
variable {X:Cx}
theorem xW:cZ X (.type "range") CU:=by
 intro pins s σ H xs us Q I r h
 obtain ⟨n,rfl,hn,q⟩:=h
 obtain ⟨u,rfl,rx⟩:=lh r
 obtain ⟨t,rfl⟩:=rx
 exact call_range_1 ⟨.ref s.heap.objs.size,_,I.laid (a:=s.heap.objs.size) (o:=.rng 0 (n:Int)) (t':=s.toks + 1 + 1) (fun _ _ q=>Lx _ q) (LC _) ⟨_,_,_,LH _ rfl⟩,rfl,q.upd _ (I.hok.fresh (LC _))⟩
theorem xX {n:Nat} {acc:Array Value} (h:ItemsOf (fun i v=>∃ t,v=.int ((0:Int) + i * 1) t) acc n):aG ((LO n).map fun (i:Nat)=>V.int ((i:Nat):Int)) acc.toList:=by
 obtain ⟨hl,hi⟩:=h
 have go:∀ (xs:List V) (us:List Value),xs.length=us.length->(∀ (j:Nat) (x:V) (u:Value),xs[j]?=some x->us[j]?=some u->aH x u)->aG xs us:=by
  intro xs
  induction xs with
  | nil=>intro us hl _; cases us with
   | nil=>exact .nil
   | cons _ _=>simp at hl
  | cons x r ih=>intro us hl h; cases us with
   | nil=>simp at hl
   | cons u t=>exact .cons (h 0 x u rfl rfl) (ih t (by simpa using hl) fun j x u hx hu=>h (j + 1) x u hx hu)
 refine go _ _ (by simp [hl]) fun j x u hx hu=>?_
 rw [LS] at hx
 cases e:(LO n)[j]? with
 | none=>rw [e] at hx; cases hx
 | some z=>
  rw [e] at hx
  cases hx
  obtain ⟨h1,h2⟩:=LD.mp e
  rw [QT] at h2
  subst h2
  obtain ⟨t,rfl⟩:=hi j u (by rw [<-Ow]; exact hu)
  exact ⟨t,by simp⟩
theorem FF (hc:X.calm=true):cZ X (.type "list") za:=by
 intro pins s σ H xs us Q I r h
 obtain ⟨p,n,rfl,e,hn,q⟩:=h
 obtain ⟨u,rfl,rx⟩:=lh r
 cases rx
 obtain ⟨t,u,v,hr⟩:=(show bA X.prog X.w H s.heap p (.rng 0 (n:Int)) from I.hok p _ e)
 refine call_list_range (n:=n) (show X.A.handled=none from I.ok.hd hc) hr (UJ (by omega) (by omega) (by omega) (by omega)) ?_ (by omega) fun h' tk acc' c' kp e' it=>?_
 ·rw [SI]; split <;> omega
 ·exact ⟨.ref s.heap.objs.size,_,I.laid (t':=tk) kp (LC _) (show bA X.prog X.w _ h' _ (.lst _) from ⟨by rw [LF,Nb,LI]; omega,acc'.toList,c',xX it,by simpa using e'⟩),rfl,q.upd _ (I.hok.fresh (LC _))⟩
end
end
section
open PySem.Spec
noncomputable abbrev mq (h:Heap) (z TI TO:Addr) (f0:Value) (f:Bool):Prop:=
 h.get? z=some { cls:=.type "zip",dict:=none,data:=.fields #[f0,.bool f,.bool false,.ref TI,.ref TO],slots:=#[] }
section
variable {prog:Program} {w:World} {A:Around} {E:Value->Shared->Prop} {s:Shared}
theorem vy {z TI TO a:Addr} {f:Bool} {oa:Obj} {Q:Bool->Shared->Prop} (hz:mq s.heap z TI TO (rawInt a) f) (ha:s.heap.get? a=some oa) (h:∀ g1,mq g1 z TI TO (rawInt a) true->LP z s.heap g1->Q false { s with heap:=g1 }):
  wpAny (model prog w) A (Mb (.ref z)) Q E s:=by
 obtain ⟨hp,g,d,tk₀,os⟩:=s
 unfold Mb
 refine Lw (Mt hz rfl (x:=rawInt a) rfl ?_)
 show wpAny _ _ (loadIfAlive ((a:Int).toNat) >>= _) _ _ _
 rw [OC]
 refine Lw (PySem.W.kdx_alive ha ?_)
 simp only [Option.isNone_some,MR,if_false]
 refine Lw (Mt hz rfl (x:=.bool f) rfl ?_)
 cases f with
 | true=>
  rw [if_neg (show ¬ ((MO true != MO true)=true) from LM)]
  exact Ly (h hp hz (TK _ _))
 | false=>
  rw [if_pos (show (MO false != MO true)=true from rfl)]
  exact Lw (MH hz (by simp) fun h₃ he₃ hs₃=>Ly (h h₃ he₃ hs₃))
theorem FG {z TI TO j1 j2 a:Addr} {f:Bool} {oa:Obj} {fp1 fp2:List Addr} {n1 n2 k:Nat} {P1 P2:Nat->Value->Prop} {S1 S2:Nat->Heap->Prop} {Q:Value->Shared->Prop} (Z:jc z TI TO j1 j2 fp1 fp2)
  (D1:Draws prog w A j1 fp1 n1 P1 S1) (D2:Draws prog w A j2 fp2 n2 P2 S2) (hz:mq s.heap z TI TO (rawInt a) f) (ha:s.heap.get? a=some oa) (hTI:IsPair s.heap TI (.ref j1) (.ref j2)) (h1:S1 k s.heap) (h2:S2 k s.heap) (l1:k < n1) (l2:k < n2)
  (hQ:∀ x y h' tk,P1 k x->P2 k y->mq h' z TI TO (rawInt a) true->S1 (k + 1) h'->S2 (k + 1) h'->IsPair h' s.heap.objs.size x y->
   (∀ c o,c∉[z,j1,j2]->s.heap.get? c=some o->h'.get? c=some o)->Q (.ref s.heap.objs.size) { s with heap:=h',toks:=tk }):
  wpAny (model prog w) A (Builtin.«zip.__next__» ⟨[.ref z],[]⟩) (fun fin s'=>∃ v,fin=.done (.ret v)/\Q v s') E s:=by
 obtain ⟨hp,g,d,tk₀,os⟩:=s
 show wpAny _ _ (field (.ref z) 2 >>= _) _ _ _
 refine Lw (Mt hz rfl (x:=.bool false) rfl ?_)
 show wpAny _ _ (field (.ref z) 3 >>= _) _ _ _
 refine Lw (Mt hz rfl (x:=.ref TI) rfl ?_)
 refine Lw (Ms hTI rfl ?_)
 show wpAny _ _ (Mb (.ref z) >>= _) _ _ _
 refine Lw (vy hz ha fun g1 hz1 hs1=>?_)
 replace hs1:LP z hp g1:=hs1
 simp only [MR,if_false]
 refine Lw ?_
 rw [<-OX]
 simp only [Ou,O6]
 refine Lw ?_
 refine Lw (MX ?_)
 show wpAny _ _ (L9 (.ref j1) >>= _) _ _ _
 refine Lw (D1.item k ⟨g1,g,d,tk₀,os⟩ _ _ l1 (D1.but h1 hs1 Z.b1) fun x g2 tk1 px st1 hs2=>Ly ?_)
 replace hs2:LP j1 g1 g2:=hs2
 refine Ly ?_
 refine Lw ?_
 refine Lw (MX ?_)
 show wpAny _ _ (L9 (.ref j2) >>= _) _ _ _
 refine Lw (D2.item k ⟨g2,g,d,tk1,os⟩ _ _ l2 (D2.but (D2.but h2 hs1 Z.b4) hs2 Z.b6) fun y g3 tk2 py st2 hs3=>Ly ?_)
 replace hs3:LP j2 g2 g3:=hs3
 refine Ly ?_
 refine Ly ?_
 show wpAny _ _ (T9 [x,y] >>= fun r=>ret r) _ _ _
 have hsz:g3.objs.size=hp.objs.size:=by rw [hs3.1,hs2.1,hs1.1]
 refine Lw (QD (Ly ⟨_,rfl,?_⟩))
 have up:∀ c o,g3.get? c=some o->(g3.push { cls:=.type "tuple",data:=.seq #[x,y] }).get? c=some o:=fun c o e=>Lx _ e
 have hz3:mq g3 z TI TO (rawInt a) true:=hs3.extBut _ _ Z.a4.symm (hs2.extBut _ _ Z.a3.symm hz1)
 have hT:IsPair (g3.push { cls:=.type "tuple",data:=.seq #[x,y] }) hp.objs.size x y:=by rw [<-hsz]; exact LH _ rfl
 show Q (.ref g3.objs.size) _
 rw [hsz]
 refine hQ x y _ tk2 px py (up _ _ hz3) (D1.frame _ _ _ (D1.but st1 hs3 Z.b3) fun c _ o e=>up c o e) (D2.frame _ _ _ st2 fun c _ o e=>up c o e) hT fun c o hc e=>?_
 simp only [LA,Mq,or_false,not_or] at hc
 exact up c o (hs3.extBut _ _ hc.2.2 (hs2.extBut _ _ hc.2.1 (hs1.extBut _ _ hc.1 e)))
theorem Hd {z TI TO j1 j2 a:Addr} {f:Bool} {oa:Obj} {fp1 fp2:List Addr} {n1 n2 k:Nat} {P1 P2:Nat->Value->Prop} {S1 S2:Nat->Heap->Prop} {Q:Fin->Shared->Prop} (Z:jc z TI TO j1 j2 fp1 fp2)
  (D1:Draws prog w A j1 fp1 n1 P1 S1) (D2:Draws prog w A j2 fp2 n2 P2 S2) (hz:mq s.heap z TI TO (rawInt a) f) (ha:s.heap.get? a=some oa) (hTI:IsPair s.heap TI (.ref j1) (.ref j2)) (h1:S1 k s.heap) (h2:S2 k s.heap) (l:k=min n1 n2)
  (hE:∀ h' e tk,(∀ c o,c∉[z,TI,TO,j1,j2]->s.heap.get? c=some o->h'.get? c=some o)->(∃ o,h'.get? e=some o/\o.cls=.type "StopIteration")->E (.ref e) { s with heap:=h',toks:=tk }):
  wpAny (model prog w) A (Builtin.«zip.__next__» ⟨[.ref z],[]⟩) Q E s:=by
 obtain ⟨hp,g,d,tk₀,os⟩:=s
 have kp:∀ {h':Heap},(∀ c o,c≠z->c≠j1->c≠j2->hp.get? c=some o->h'.get? c=some o)->∀ c o,c∉[z,TI,TO,j1,j2]->hp.get? c=some o->h'.get? c=some o:=fun {h'} q c o hc e=>by
  simp only [LA,Mq,or_false,not_or] at hc
  exact q c o hc.1 hc.2.2.2.1 hc.2.2.2.2 e
 show wpAny _ _ (field (.ref z) 2 >>= _) _ _ _
 refine Lw (Mt hz rfl (x:=.bool false) rfl ?_)
 show wpAny _ _ (field (.ref z) 3 >>= _) _ _ _
 refine Lw (Mt hz rfl (x:=.ref TI) rfl ?_)
 refine Lw (Ms hTI rfl ?_)
 show wpAny _ _ (Mb (.ref z) >>= _) _ _ _
 refine Lw (vy hz ha fun g1 hz1 hs1=>?_)
 replace hs1:LP z hp g1:=hs1
 simp only [MR,if_false]
 refine Lw ?_
 rw [<-OX]
 simp only [Ou,O6]
 refine Lw ?_
 refine Lw (MX ?_)
 show wpAny _ _ (L9 (.ref j1) >>= _) _ _ _
 by_cases hk:k=n1
 ·subst hk
  refine Lw (D1.done ⟨g1,g,d,tk₀,os⟩ _ _ (D1.but h1 hs1 Z.b1) fun g2 e hs2 he=>?_)
  replace hs2:Ol j1 g1 g2:=hs2
  exact hE g2 e tk₀ (kp fun c o c1 c2 _ q=>hs2 _ _ c2 (hs1.extBut _ _ c1 q)) he
 ·have hlt:k < n1:=by omega
  have hk2:k=n2:=by omega
  refine Lw (D1.item k ⟨g1,g,d,tk₀,os⟩ _ _ hlt (D1.but h1 hs1 Z.b1) fun x g2 tk1 px st1 hs2=>Ly ?_)
  replace hs2:LP j1 g1 g2:=hs2
  refine Ly ?_
  refine Lw ?_
  refine Lw (MX ?_)
  show wpAny _ _ (L9 (.ref j2) >>= _) _ _ _
  subst hk2
  refine Lw (D2.done ⟨g2,g,d,tk1,os⟩ _ _ (D2.but (D2.but h2 hs1 Z.b4) hs2 Z.b6) fun g3 e hs3 he=>?_)
  replace hs3:Ol j2 g2 g3:=hs3
  exact hE g3 e tk1 (kp fun c o c1 c2 c3 q=>hs3 _ _ c3 (hs2.extBut _ _ c2 (hs1.extBut _ _ c1 q))) he
noncomputable def ZSt (h:Heap) (z TI TO S:Addr) (i:Nat) (far:Addr->Prop):Prop:=(i=0/\IsZip h z TI TO .none/\∃ u v,IsPair h TO u v)\/∃ (a:Addr) (f:Bool) (oa:Obj),mq h z TI TO (rawInt a) f/\h.get? a=some oa/\far a/\a≠S
noncomputable def ZTs (P1 P2:Nat->Value->Prop) (lo:Addr) (h:Heap) (ts:List Addr):Prop:=∀ (j:Nat) (t:Addr),ts[j]?=some t->lo<=t/\∃ x y,P1 j x/\P2 j y/\IsPair h t x y
end
section
variable {prog:Program} {w:World} {A:Around} {s:Shared} {R:Result->Shared->Prop}
theorem He {z TI TO j1 j2 S lo:Addr} {fp1 fp2:List Addr} {n1 n2:Nat} {P1 P2:Nat->Value->Prop} {S1 S2:Nat->Heap->Prop} (hh:A.handled=none) (Z:jc z TI TO j1 j2 fp1 fp2)
  (D1:Draws prog w A.in1.in1 j1 fp1 n1 P1 S1) (D2:Draws prog w A.in1.in1 j2 fp2 n2 P2 S2) (hn:min n1 n2<=LN) (hS:S∉[z,TI,TO,j1,j2]) (hS1:S∉fp1) (hS2:S∉fp2) (hlo:∀ c∈[z,TI,TO,j1,j2,S],c < lo) (hlo1:∀ c∈fp1,c < lo) (hlo2:∀ c∈fp2,c < lo) (res:Value) {h₁:Heap}
  (hR:∀ h' tk acc c ts,(∀ b o,b∉[z,TI,TO,j1,j2]->b≠S->h₁.get? b=some o->h'.get? b=some o)->h'.get? S=some { cls:=.type "list",dict:=none,data:=.seq acc c,slots:=#[] }->ts.length=min n1 n2->ZTs P1 P2 lo h' ts->
   acc.toList=ts.map Mf->R (.ok (.ret res)) { s with heap:=h',toks:=tk }):
  ∀ (m i:Nat) (h:Heap) (tk c:Nat) (acc:Array Value) (ts:List Addr),min n1 n2 - i=m->i<=min n1 n2->ZSt h z TI TO S i (fun a=>lo<=a)->IsPair h TI (.ref j1) (.ref j2)->S1 i h->S2 i h->(∀ b o,b∉[z,TI,TO,j1,j2]->b≠S->h₁.get? b=some o->h.get? b=some o)->
   h.get? S=some { cls:=.type "list",dict:=none,data:=.seq acc c,slots:=#[] }->acc.toList=ts.map Mf->ts.length=i->ZTs P1 P2 lo h ts->lo<=h.objs.size->
   codeAny (model prog w) A (.builtin "list.extend.loop" ⟨[.ref S,.ref z,res],[]⟩) R { s with heap:=h,toks:=tk }:=by
 have notin:∀ t,lo<=t->t∉[z,TI,TO,j1,j2]/\t≠S/\t∉fp1/\t∉fp2:=fun t ht=>⟨fun hm=>by
  have:=hlo t (show t∈[z,TI,TO,j1,j2]++[S] from Nx _ hm)
  exact absurd ht (Qu.mpr this),fun e=>by
  have:=hlo S (by simp)
  rw [e] at ht
  exact absurd ht (Qu.mpr this),fun hm=>absurd ht (Qu.mpr (hlo1 t hm)),fun hm=>absurd ht (Qu.mpr (hlo2 t hm))⟩
 intro m
 induction m with
 | zero=>
  intro i h tk c acc ts hk hi hst hTI st1 st2 hkeep hSS hacc hal hG hls
  have hin:i=min n1 n2:=by omega
  refine Nw Rm ?_
  rw [M1 NL _]
  show wpAny _ A.in1 (pyNext (.ref z) >>= _) _ _ _
  have done:∀ h':Heap,∀ tk',(∀ c o,c∉[z,TI,TO,j1,j2]->h.get? c=some o->h'.get? c=some o)->R (.ok (.ret res)) { s with heap:=h',toks:=tk' }:=fun h' tk' kp=>by
   refine hR h' tk' acc c ts (fun b o h1 h2 e=>kp b o h1 (hkeep b o h1 h2 e)) (kp S _ hS hSS) (by omega) (fun j t hj=>?_) hacc
   obtain ⟨hlt,x,y,p1,p2,e⟩:=hG j t hj
   exact ⟨hlt,x,y,p1,p2,kp t _ (notin t hlt).1 e⟩
  have hT:Q2 { s with heap:=h,toks:=tk } (.ref z) "zip":=by
   rcases hst with ⟨_,hz,_⟩ | ⟨a,f,oa,hz,_⟩
   ·exact ⟨_,hz,rfl⟩
   ·exact ⟨_,hz,rfl⟩
  unfold pyNext
  refine Lw (Lw (N3 (Mx (name:=Nt "__next__") hT Nj (Mp Nj hT OQ ?_ (OD _)))))
  rcases hst with ⟨_,hz,u,v,hTO⟩ | ⟨a,f,oa,hz,ha,_,_⟩
  ·refine zE (s:={ s with heap:=h,toks:=tk }) Z D1 D2 hz hTI hTO st1 st2 hin fun h' e tk' kp he=>?_
   obtain ⟨o,ho,hcl⟩:=he
   exact Lw (Ny (T:="StopIteration") (b:=true) ⟨o,ho,hcl⟩ O7 (Ly (Ly (done h' tk' kp))))
  ·refine Hd (s:={ s with heap:=h,toks:=tk }) Z D1 D2 hz ha hTI st1 st2 hin fun h' e tk' kp he=>?_
   obtain ⟨o,ho,hcl⟩:=he
   exact Lw (Ny (T:="StopIteration") (b:=true) ⟨o,ho,hcl⟩ O7 (Ly (Ly (done h' tk' kp))))
 | succ m ih=>
  intro i h tk c acc ts hk hi hst hTI st1 st2 hkeep hSS hacc hal hG hls
  have hlt:i < min n1 n2:=by omega
  have hsz:acc.size=i:=by rw [<-Mr,hacc,LF,hal]
  refine Nw Rm ?_
  rw [M1 NL _]
  show wpAny _ A.in1 (pyNext (.ref z) >>= _) _ _ _
  have hT:Q2 { s with heap:=h,toks:=tk } (.ref z) "zip":=by
   rcases hst with ⟨_,hz,_⟩ | ⟨a,f,oa,hz,_⟩
   ·exact ⟨_,hz,rfl⟩
   ·exact ⟨_,hz,rfl⟩
  have item:∀ (h':Heap) (tk':Nat) (x y:Value),P1 i x->P2 i y->ZSt h' z TI TO S (i + 1) (fun a=>lo<=a)->S1 (i + 1) h'->S2 (i + 1) h'->IsPair h' h.objs.size x y->(∀ c o,c∉[z,TO,j1,j2]->h.get? c=some o->h'.get? c=some o)->
    wpAny (model prog w) A.in1 (RI (.ref S) (·.push (Mf h.objs.size)) >>= fun _=>again (.builtin "list.extend.loop" ⟨[.ref S,.ref z,res],[]⟩)) (fun fin s'=>match fin with | .done f=>R (.ok f) s' | .again c'=>c'.quiet=true/\codeAny (model prog w) A c' R s') (fun e s'=>R (.error e) s') { s with heap:=h',toks:=tk' }:=by
   intro h' tk' x y px py hst' st1' st2' ht kp
   have sub:∀ c,c∉[z,TI,TO,j1,j2]->c∉[z,TO,j1,j2]:=fun c hc hm=>hc (by
    simp only [LA,Mq,or_false] at hm ⊢
    rcases hm with e | e | e | e
    ·exact .inl e
    ·exact .inr (.inr (.inl e))
    ·exact .inr (.inr (.inr (.inl e)))
    ·exact .inr (.inr (.inr (.inr e))))
   have hS':=kp S _ (sub S hS) hSS
   have up:∀ b o,b≠S->h'.get? b=some o->(h'.update S (MV (·.push (Mf h.objs.size)))).get? b=some o:=fun b o hb e=>(Nn _ _ (Mz hb)).trans e
   have hSl:S < h.objs.size:=LK hSS
   have zS:∀ c∈[z,TI,TO,j1,j2],c≠S:=fun c hc e=>hS (by rw [<-e]; exact hc)
   have hTI':IsPair h' TI (.ref j1) (.ref j2):=kp TI _ (by
    simp only [LA,Mq,or_false,not_or]
    exact ⟨Z.a1,Z.a5,Z.a6,Z.a7⟩) hTI
   show wpAny _ A.in1 (Qa S (·.push (Mf h.objs.size)) >>= _) _ _ _
   refine Lw ?_
   refine Ox hS' rfl (Ly ⟨Og NL _,ih (i + 1) _ tk' _ (acc.push (Mf h.objs.size)) (ts++[h.objs.size]) (by omega) hlt ?_ (up TI _ (zS TI (by simp)) hTI')
    (D1.frame _ _ _ st1' fun b hb o e=>up b o (fun q=>hS1 (by rw [<-q]; exact hb)) e) (D2.frame _ _ _ st2' fun b hb o e=>up b o (fun q=>hS2 (by rw [<-q]; exact hb)) e)
    (fun b o h1 h2 e=>up b o h2 (kp b o (sub b h1) (hkeep b o h1 h2 e))) (MB _ hS' rfl) (by rw [Rf,hacc,Ma]; rfl) (by rw [LY,hal]; rfl) ?_ ?_⟩) (by rw [hsz]; omega) (by show (acc.push (Mf h.objs.size)).size<=LN + 1; rw [Array.size_push,hsz]; omega)
   ·rcases hst' with ⟨e,_⟩ | ⟨a,f,oa,hz,ha,hfar,haS⟩
    ·omega
    ·exact .inr ⟨a,f,oa,up _ _ (zS z (by simp)) hz,up _ _ haS ha,hfar,haS⟩
   ·intro j t hj
    rcases Re j ts.length with c | c | c
    ·rw [OF c] at hj
     obtain ⟨hl,x',y',p1,p2,e⟩:=hG j t hj
     obtain ⟨n1',n2',_,_⟩:=notin t hl
     exact ⟨hl,x',y',p1,p2,up t _ n2' (kp t _ (sub t n1') e)⟩
    ·subst c
     have hb:h.objs.size=t:=by simpa using hj
     subst hb
     rw [hal]
     exact ⟨hls,x,y,px,py,up _ _ (NA hSl) ht⟩
    ·rw [Mn (by rw [LY,R8]; omega)] at hj
     cases hj
   ·have e:(h'.update S (MV (·.push (Mf h.objs.size)))).get? h.objs.size=_:=up _ _ (NA hSl) ht
    exact Me hls (ML (LK e))
  unfold pyNext
  refine Lw (Lw (N3 (Mx (name:=Nt "__next__") hT Nj (Mp Nj hT OQ ?_ (OD _)))))
  have hSl:S < h.objs.size:=LK hSS
  rcases hst with ⟨_,hz,u,v,hTO⟩ | ⟨a,f,oa,hz,ha,hfar,haS⟩
  ·refine xz (s:={ s with heap:=h,toks:=tk }) Z D1 D2 hz hTI hTO st1 st2 (by omega) (by omega) fun x y h' tk' px py z1 z2 z3 z4 z5 z6 z7=>Ly ?_
   refine item h' tk' x y px py (.inr ⟨_,false,_,z1,z5,hls,NA hSl⟩) z3 z4 z5 fun c o hc e=>?_
   by_cases q:c=TI
   ·rw [q] at e ⊢
    have:o=_:=LR (e.symm.trans hTI)
    rw [this]
    exact z7
   ·refine z6 c o ?_ e
    simp only [LA,Mq,or_false,not_or] at hc ⊢
    exact ⟨hc.1,q,hc.2⟩
  ·refine FG (s:={ s with heap:=h,toks:=tk }) Z D1 D2 hz ha hTI st1 st2 (by omega) (by omega) fun x y h' tk' px py z1 z3 z4 z5 z6=>Ly ?_
   have na:=(notin a hfar).1
   refine item h' tk' x y px py (.inr ⟨a,true,oa,z1,z6 a oa ?_ ha,hfar,haS⟩) z3 z4 z5 fun c o hc e=>z6 c o ?_ e
   ·simp only [LA,Mq,or_false,not_or] at na ⊢
    exact ⟨na.1,na.2.2.2.1,na.2.2.2.2⟩
   ·simp only [LA,Mq,or_false,not_or] at hc ⊢
    exact ⟨hc.1,hc.2.2.1,hc.2.2.2⟩
end
end
section
open PySem.Spec
theorem Inv.news {X:Cx} {pins:List (Addr×Obj)} {σ:St} {H H':Hp} {s:Shared} {h':Heap} {t':Nat} (I:Inv X pins σ H s) (k:∀ b u,s.heap.get? b=some u->h'.get? b=some u) (hH:∀ b,b < s.heap.objs.size->H' b=H b)
  (new:∀ a o,s.heap.objs.size<=a->H' a=some o->bA X.prog X.w H' h' a o):Inv X pins σ H' { s with heap:=h',toks:=t' }:=by
 have same:∀ b o,H b=some o->H' b=some o:=fun b o e=>(hH b (I.hok.lt e)).trans e
 refine I.un ⟨fun b o q _ _ _=>k b o q,fun b o q _ _ _=>⟨o.slots,k b o q⟩,fun b o q n _=>(hH b (LK q)).trans n,fun b o q _=>⟨o,k b o q⟩,fun b xs e=>same b _ e,fun b o u e=>same b _ e,fun b ps e=>⟨#[],by rw [same b _ e]; simp⟩⟩ fun a o e=>?_
 by_cases c:a < s.heap.objs.size
 ·rw [hH a c] at e
  exact (I.hok a o e).stay (fun b u _ q=>k b u q) (fun b q=>same b _ q) fun b xs q=>same b _ q
 ·exact new a o (Rj.mp c) e
theorem Hf {prog:Program} {w:World} {A:Around} {E:Value->Shared->Prop} {s:Shared} {z:Addr} {Q:Bool->Shared->Prop} (hT:s.TypeIs (.ref z) "zip") (h:Q true s):wpAny (model prog w) A (Os (.ref z)) Q E s:=by
 unfold Os
 refine Lw (Nk hT (show So (.type "zip") "__len__"=pure none by rw [Qt,O9]; kernel_rfl) ?_)
 show wpAny _ _ (specialOf (Mf z) (Nt "__length_hint__") >>= _) _ _ _
 refine Lw (Nk hT (show So (.type "zip") "__length_hint__"=pure none by rw [Qt,O9]; kernel_rfl) ?_)
 exact Ly h
section
variable {prog:Program} {w:World} {A:Around} {E:Value->Shared->Prop} {s:Shared}
theorem Dm {z TI TO j1 j2 S:Addr} {fp1 fp2:List Addr} {n1 n2:Nat} {P1 P2:Nat->Value->Prop} {S1 S2:Nat->Heap->Prop} {R:Result->Shared->Prop} (hh:A.handled=none) (Z:jc z TI TO j1 j2 fp1 fp2)
  (D1:Draws prog w A.in1.in1 j1 fp1 n1 P1 S1) (D2:Draws prog w A.in1.in1 j2 fp2 n2 P2 S2) (hn:min n1 n2<=LN) (hS:S∉[z,TI,TO,j1,j2]) (hS1:S∉fp1) (hS2:S∉fp2) (hlo:∀ c∈[z,TI,TO,j1,j2,S],c < s.heap.objs.size) (hlo1:∀ c∈fp1,c < s.heap.objs.size) (hlo2:∀ c∈fp2,c < s.heap.objs.size)
  (hz:IsZip s.heap z TI TO .none) {u v:Value} (hTO:IsPair s.heap TO u v) (hTI:IsPair s.heap TI (.ref j1) (.ref j2)) (st1:S1 0 s.heap) (st2:S2 0 s.heap) {c₀:Nat} (hSS:s.heap.get? S=some { cls:=.type "list",data:=.seq #[] c₀ })
  (hR:∀ h' tk acc c ts,(∀ b o,b∉[z,TI,TO,j1,j2]->b≠S->s.heap.get? b=some o->h'.get? b=some o)->h'.get? S=some { cls:=.type "list",dict:=none,data:=.seq acc c,slots:=#[] }->ts.length=min n1 n2->ZTs P1 P2 s.heap.objs.size h' ts->
   acc.toList=ts.map Mf->R (.ok (.ret .none)) { s with heap:=h',toks:=tk }):
  wpAny (model prog w) A.in1 (MT (.ref S) (.ref z) .none)
   (fun fin s'=>match fin with | .done f=>R (.ok f) s' | .again c'=>c'.quiet=true/\codeAny (model prog w) A c' R s') (fun e s'=>R (.error e) s') s:=by
 have zS:∀ c∈[z,TI,TO,j1,j2],c≠S:=fun c hc e=>hS (by rw [<-e]; exact hc)
 have hT:s.TypeIs (.ref z) "zip":=⟨_,hz,rfl⟩
 unfold MT
 refine Lw (Qh (T:="zip") hT ?_)
 have h1:OR (.ref S) (.ref z)=false:=by simp [OR,(zS z (by simp)).symm]
 have h2:(M0 "zip" == M0 "list")=false:=by decide
 have h3:(M0 "zip" == M0 "tuple")=false:=by decide
 simp only [h1,h2,h3,Bool.or_false,MR,if_false]
 refine Lw (Pb hz ?_)
 refine Lw (MX (Hf hT ?_))
 rw [if_pos (by simp)]
 refine Lw (NJ ?_)
 refine Lw ?_
 show wpAny _ _ (Qa S (·.push .none) >>= fun _=>Qa S (·.pop)) _ _ _
 refine Lw (Ox hSS rfl ?_)
 have hS₂:=MB (MV (·.push MZ)) hSS rfl
 refine Ox (hz:=by seq_fits) hS₂ rfl ?_
 have hS₃:=MB (MV (·.pop)) hS₂ rfl
 have oth:∀ b o,b≠S->s.heap.get? b=some o->((s.heap.update S (MV (·.push MZ))).update S (MV (·.pop))).get? b=some o:=fun b o hb e=>
  (Nn _ _ (Mz hb)).trans ((Nn _ _ (Mz hb)).trans e)
 refine Ly ⟨Og NL _,He (s:=s) (lo:=s.heap.objs.size) (h₁:=s.heap) hh Z D1 D2 hn hS hS1 hS2 hlo hlo1 hlo2 .none hR (min n1 n2) 0 _ _ _ #[] [] (To _) (MJ _) (.inl ⟨rfl,oth z _ (zS z (by simp)) hz,u,v,oth TO _ (zS TO (by simp)) hTO⟩) (oth TI _ (zS TI (by simp)) hTI)
  (D1.frame _ _ _ st1 fun b hb o e=>oth b o (fun q=>hS1 (by rw [<-q]; exact hb)) e) (D2.frame _ _ _ st2 fun b hb o e=>oth b o (fun q=>hS2 (by rw [<-q]; exact hb)) e) (fun b o _ hb e=>oth b o hb e) hS₃ rfl rfl (fun j t hj=>by simp at hj) ?_⟩
 rw [RD,RD]
 exact LC _
theorem Hg {z TI TO j1 j2:Addr} {fp1 fp2:List Addr} {n1 n2:Nat} {P1 P2:Nat->Value->Prop} {S1 S2:Nat->Heap->Prop} {Q:Value->Shared->Prop} (hh:A.handled=none) (Z:jc z TI TO j1 j2 fp1 fp2)
  (D1:∀ A':Around,A'.handled=none->Draws prog w A' j1 fp1 n1 P1 S1) (D2:∀ A':Around,A'.handled=none->Draws prog w A' j2 fp2 n2 P2 S2) (hn:min n1 n2<=LN) (hlo:∀ c∈[z,TI,TO,j1,j2],c < s.heap.objs.size) (hlo1:∀ c∈fp1,c < s.heap.objs.size) (hlo2:∀ c∈fp2,c < s.heap.objs.size)
  (hz:IsZip s.heap z TI TO .none) {u v:Value} (hTO:IsPair s.heap TO u v) (hTI:IsPair s.heap TI (.ref j1) (.ref j2)) (st1:S1 0 s.heap) (st2:S2 0 s.heap)
  (hQ:∀ h' tk acc c ts,(∀ b o,b∉[z,TI,TO,j1,j2]->s.heap.get? b=some o->h'.get? b=some o)->h'.get? s.heap.objs.size=some { cls:=.type "list",dict:=none,data:=.seq acc c,slots:=#[] }->ts.length=min n1 n2->ZTs P1 P2 (s.heap.objs.size + 1) h' ts->
   acc.toList=ts.map Mf->Q (.ref s.heap.objs.size) { s with heap:=h',toks:=tk }):
  wpAny (model prog w) A (call (.type "list") [.ref z]) Q E s:=by
 refine callType_codes (Q₁:=fun obj s₁=>obj=.ref s.heap.objs.size/\s₁={ s with heap:=s.heap.push { cls:=.type "list",data:=.seq #[] } }) PySem.F.called_list (PySem.F.typeCall_list_1 _) PySem.F.entry_list_init
  (code_list_new _ ⟨rfl,rfl⟩) fun obj s₁ h₁=>?_
 obtain ⟨rfl,rfl⟩:=h₁
 have hS:(s.heap.push { cls:=.type "list",data:=.seq #[] }).get? s.heap.objs.size=some { cls:=.type "list",data:=.seq #[] }:=LH _ rfl
 refine ⟨⟨_,hS,rfl⟩,PySem.F.args_list_init_2 _ _,?_⟩
 show wpAny _ _ (do let old <-R5 (.ref s.heap.objs.size); RI (.ref s.heap.objs.size) (fun _=>#[]); letGo old.toList.reverse; MT (.ref s.heap.objs.size) (.ref z) .none) _ _ _
 refine Lw ?_
 unfold R5
 refine Lw (Ms hS rfl (Ly ?_))
 show wpAny _ _ (Qa s.heap.objs.size (fun _=>#[]) >>= fun _=>letGo (#[]:Array Value).toList.reverse >>= fun _=>MT (.ref s.heap.objs.size) (.ref z) .none) _ _ _
 refine Lw (Ox hS rfl ?_)
 have hS₂:=MB (MV (fun _=>(#[]:Array Value))) hS rfl
 have oth:∀ b o,b≠s.heap.objs.size->(s.heap.push { cls:=.type "list",data:=.seq #[] }).get? b=some o->((s.heap.push { cls:=.type "list",data:=.seq #[] }).update s.heap.objs.size (MV (fun _=>(#[]:Array Value)))).get? b=some o:=
  fun b o hb e=>(Nn _ _ (Mz hb)).trans e
 have oth':∀ b o,s.heap.get? b=some o->((s.heap.push { cls:=.type "list",data:=.seq #[] }).update s.heap.objs.size (MV (fun _=>(#[]:Array Value)))).get? b=some o:=fun b o e=>oth b o (Ml (LK e)) (Lx _ e)
 have sz:((s.heap.push { cls:=.type "list",data:=.seq #[] }).update s.heap.objs.size (MV (fun _=>(#[]:Array Value)))).objs.size=s.heap.objs.size + 1:=by rw [RD,Mo]
 refine Lw (OL ?_)
 refine Dm (A:=A.in1) hh Z (D1 _ hh) (D2 _ hh) hn (fun hm=>Nz _ (hlo _ hm)) (fun hm=>Nz _ (hlo1 _ hm)) (fun hm=>Nz _ (hlo2 _ hm)) (fun c hc=>?_) (fun c hc=>?_) (fun c hc=>?_) (oth' _ _ hz) (oth' _ _ hTO) (oth' _ _ hTI)
  ((D1 _ hh).frame _ _ _ st1 fun b _ o e=>oth' b o e) ((D2 _ hh).frame _ _ _ st2 fun b _ o e=>oth' b o e) hS₂ (fun h' tk acc c ts hk hS' hl hG hacc=>?_)
 ·show c < ((s.heap.push { cls:=.type "list",data:=.seq #[] }).update s.heap.objs.size (MV (fun _=>(#[]:Array Value)))).objs.size
  rw [sz]
  rcases Mm.mp (show c∈[z,TI,TO,j1,j2]++[s.heap.objs.size] from hc) with hc | hc
  ·exact Na (hlo c hc)
  ·rw [LB.mp hc]; exact Nm _
 ·show c < ((s.heap.push { cls:=.type "list",data:=.seq #[] }).update s.heap.objs.size (MV (fun _=>(#[]:Array Value)))).objs.size
  rw [sz]
  exact Na (hlo1 c hc)
 ·show c < ((s.heap.push { cls:=.type "list",data:=.seq #[] }).update s.heap.objs.size (MV (fun _=>(#[]:Array Value)))).objs.size
  rw [sz]
  exact Na (hlo2 c hc)
 ·have hG':ZTs P1 P2 (s.heap.objs.size + 1) h' ts:=by rw [<-sz]; exact hG
  exact ⟨rfl,hQ h' tk acc c ts (fun b o hb e=>hk b o hb (Ml (LK e)) (oth' b o e)) hS' hl hG' hacc⟩
end
section
variable {X:Cx}
theorem Jt {h:Heap} {us vs:List Value} {xs ys:List V} {lo:Addr} {ts:List Addr} (ru:aG xs us) (rv:aG ys vs) (hl:ts.length=min us.length vs.length) (G:ZTs (fun i v=>us.toArray[i]?=some v) (fun i v=>vs.toArray[i]?=some v) lo h ts):
  ∀ (i:Nat) (t:Addr),ts[i]?=some t->lo<=t/\∃ x y u v,xs[i]?=some x/\ys[i]?=some y/\aH x u/\aH y v/\IsPair h t u v:=fun i t ht=>by
 obtain ⟨h1,u,v,p1,p2,e⟩:=G i t ht
 have hi:i < ts.length:=(LD.mp ht).1
 have l1:=ru.length
 have l2:=rv.length
 obtain ⟨x,hx⟩:∃ x,xs[i]?=some x:=⟨_,Lz (by omega)⟩
 obtain ⟨y,hy⟩:∃ y,ys[i]?=some y:=⟨_,Lz (by omega)⟩
 obtain ⟨u',hu',ru'⟩:=ru.get hx
 obtain ⟨v',hv',rv'⟩:=rv.get hy
 have eu:u=u':=by
  have:us.toArray[i]?=some u':=by simpa using hu'
  rw [this] at p1
  exact (LR p1).symm
 have ev:v=v':=by
  have:vs.toArray[i]?=some v':=by simpa using hv'
  rw [this] at p2
  exact (LR p2).symm
 subst eu ev
 exact ⟨h1,x,y,u,v,hx,hy,ru',rv',e⟩
theorem AH {x y:V} {u:Value} (a:aH x u) (b:aH y u):x=y:=by
 cases x <;> cases y <;> simp only [aH] at a b <;> first
  | rfl
  | (subst a; cases b; rfl)
  | (subst a; cases b; done)
  | (obtain ⟨t,rfl⟩:=a; obtain ⟨t',e⟩:=b; cases e; rfl)
  | (obtain ⟨t,rfl⟩:=a; obtain ⟨t',e⟩:=b; cases e; done)
  | (obtain ⟨t,rfl⟩:=a; cases b; done)
  | (subst a; obtain ⟨t',e⟩:=b; cases e; done)
theorem Ju (S1 S2:Src) {a b:Expr} {ta:TA} {p pos p2 pos2:Pos} (hc:X.calm=true) (hgl:Gl X "list") (hml:X.mg "list"=none) (hg:Gl X "zip") (hm:X.mg "zip"=none) (ha:PA X [a,b] ta)
  (hs:L5 [a,b] X.env=[(false,eval a X.env),(false,eval b X.env)]:=by rfl) (hs2:L5 [b] X.env=[(false,eval b X.env)]:=by rfl)
  (hs3:L5 [.Call (.Name "zip" p2) [a,b] [] pos2] X.env=[(false,eval (.Call (.Name "zip" p2) [a,b] [] pos2) X.env)]:=by rfl):
  PE X (.Call (.Name "list" p) [.Call (.Name "zip" p2) [a,b] [] pos2] [] pos) (CV S1 S2 X.K ta):=by
 intro pins s σ H Q I h
 refine N6 (fR I hgl hml OM (MI ?_ hs3 rfl))
 rw [hs3]
 show wpAny _ _ (spliced [(false,eval (.Call (.Name "zip" p2) [a,b] [] pos2) X.env)]) _ _ s
 refine QM ?_
 refine Call_ (fR I hg hm boot_zip (MI (thn (ha pos2 pins s σ H _ I h) fun us s1 ⟨vs,H1,I1,r1,q1⟩=>?_) (by rw [hs,hs2]) (by rw [hs2]; rfl)))
 obtain ⟨l1,l2,xs,ys,e,hq1,hq2,hxl,q⟩:=q1
 subst e
 obtain ⟨u,v,rfl,ru,rv⟩:=r1.two
 cases ru
 cases rv
 obtain ⟨us1,rv1,p1,_⟩:=S1.get I1 hq1
 obtain ⟨us2,rv2,p2',_⟩:=S2.get I1 hq2
 refine Rv Ti (by decide) (Ub _ _) (Uy _ _) (fun obj=>Sz obj _ _) RO (BR S1 S2 l1 l2 us1.toArray us2.toArray) ⟨p1,p2',?_⟩
 generalize hn:s1.heap.objs.size=n
 have z1:(zh1 S1 s1.heap l1).objs.size=n + 1:=by rw [Mo,hn]
 have z2:(zh2 S1 S2 s1.heap l1 l2).objs.size=n + 2:=by rw [Mo,z1]
 have z3:(zh3 S1 S2 s1.heap l1 l2).objs.size=n + 3:=by rw [Mo,z2]
 have z4:(zh4 S1 S2 s1.heap l1 l2).objs.size=n + 4:=by rw [Mo,z3]
 have z5:(zh5 S1 S2 s1.heap l1 l2).objs.size=n + 5:=by rw [Mo,z4]
 have g5:(zh5 S1 S2 s1.heap l1 l2).get? (zh4 S1 S2 s1.heap l1 l2).objs.size=some _:=LH _ rfl
 have g4:(zh5 S1 S2 s1.heap l1 l2).get? (zh3 S1 S2 s1.heap l1 l2).objs.size=some _:=Lx _ (LH _ rfl)
 have g3:(zh5 S1 S2 s1.heap l1 l2).get? (zh2 S1 S2 s1.heap l1 l2).objs.size=some _:=Lx _ (Lx _ (LH _ rfl))
 have g2:(zh5 S1 S2 s1.heap l1 l2).get? (zh1 S1 s1.heap l1).objs.size=some _:=Lx _ (Lx _ (Lx _ (LH _ rfl)))
 have g1:(zh5 S1 S2 s1.heap l1 l2).get? s1.heap.objs.size=some _:=Lx _ (Lx _ (Lx _ (Lx _ (LH _ rfl))))
 have kp:∀ c o,s1.heap.get? c=some o->(zh5 S1 S2 s1.heap l1 l2).get? c=some o:=fun c o e=>
  Lx _ (Lx _ (Lx _ (Lx _ (Lx _ e))))
 show _/\_
 rw [z2,z3,z4] at g5
 rw [z1,z2,hn] at g3
 rw [z3] at g4
 rw [z1] at g2
 rw [hn] at g1
 rw [z4]
 refine ⟨⟨_,g5,rfl⟩,Q8 ?_⟩
 have lt1:l1 < n:=by
  obtain ⟨o,_,ho,_⟩:=S1.isSeq p1
  rw [<-hn]; exact LK ho
 have lt2:l2 < n:=by
  obtain ⟨o,_,ho,_⟩:=S2.isSeq p2'
  rw [<-hn]; exact LK ho
 have five:∀ c:Nat,c∈[n + 4,n + 2,n + 3,n,n + 1]->n<=c/\c < n + 5:=fun c hc=>by
  simp only [LA,Mq,or_false] at hc
  omega
 have nel:∀ l c:Nat,l < n->n<=c->c≠l:=fun l c h1 h2=>by omega
 have Z:jc (n + 4) (n + 2) (n + 3) n (n + 1) [n,l1] [n + 1,l2]:=zap (by simp) (fun c hc=>nel l1 c lt1 (five c hc).1) (fun c hc=>nel l2 c lt2 (five c hc).1)
 have is1:S1.Is (zh5 S1 S2 s1.heap l1 l2) l1 us1.toArray:=S1.isKeep p1 fun o e=>kp _ _ e
 have is2:S2.Is (zh5 S1 S2 s1.heap l1 l2) l2 us2.toArray:=S2.isKeep p2' fun o e=>kp _ _ e
 refine Hg (s:={ s1 with heap:=zh5 S1 S2 s1.heap l1 l2 }) (n1:=us1.toArray.size) (n2:=us2.toArray.size) (I1.ok.hd hc) Z (fun A' hA=>S1.draws hA n l1 (nel l1 n lt1 (LC _)).symm us1.toArray) (fun A' hA=>S2.draws hA (n + 1) l2 (nel l2 (n + 1) lt2 (OK _)).symm us2.toArray) ?_ ?_ ?_ ?_ g5 g4 g3 ⟨S1.mkI g1 rfl rfl,is1⟩ ⟨S2.mkI g2 rfl rfl,is2⟩ ?_
 ·have:=rv1.length
  simp only [LQ]
  rw [LI]
  omega
 ·intro c hc
  show c < (zh5 S1 S2 s1.heap l1 l2).objs.size
  rw [z5]
  exact (five c hc).2
 ·intro c hc
  show c < (zh5 S1 S2 s1.heap l1 l2).objs.size
  rw [z5]
  rcases LA.mp hc with rfl | hc
  ·exact Nat.lt_add_of_pos_right (by decide)
  ·rw [LB.mp hc]; exact L8 lt1 (MM _ _)
 ·intro c hc
  show c < (zh5 S1 S2 s1.heap l1 l2).objs.size
  rw [z5]
  rcases LA.mp hc with rfl | hc
  ·exact Nat.add_lt_add_left (by decide) n
  ·rw [LB.mp hc]; exact L8 lt2 (MM _ _)
 intro h' tk acc c ts hk hS' hl hG hacc
 have hS'':h'.get? (n + 5)=some { cls:=.type "list",dict:=none,data:=.seq acc c,slots:=#[] }:=by rw [<-z5]; exact hS'
 have hG':ZTs (fun i v=>us1.toArray[i]?=some v) (fun i v=>us2.toArray[i]?=some v) (n + 5 + 1) h' ts:=by rw [<-z5]; exact hG
 have hl':ts.length=min us1.length us2.length:=by simpa using hl
 have G:=Jt rv1 rv2 hl' hG'
 have old:∀ b o,s1.heap.get? b=some o->h'.get? b=some o:=fun b o e=>hk b o (fun hm=>by
  have:=LK e
  rw [hn] at this
  exact absurd (five b hm).1 (Qu.mpr this)) (kp b o e)
 have l1':=rv1.length
 have l2':=rv2.length
 let H':Hp:=fun b=>if b=n + 5 then some (.lst (ts.map V.ref)) else match ts.findIdx? (· == b) with
  | some i=>(match xs[i]?,ys[i]? with | some x,some y=>some (.tup [x,y]) | _,_=>H1 b)
  | none=>H1 b
 have big:∀ (i:Nat) (t:Addr),ts[i]?=some t->n + 6<=t:=fun i t ht=>(G i t ht).1
 have Hts:∀ (i:Nat) (t:Addr),ts[i]?=some t->∃ x y u v,H' t=some (.tup [x,y])/\xs[i]?=some x/\ys[i]?=some y/\aH x u/\aH y v/\IsPair h' t u v:=by
  intro i t ht
  obtain ⟨hlo,x,y,u,v,hx,hy,rx,ry,e⟩:=G i t ht
  refine ⟨x,y,u,v,?_,hx,hy,rx,ry,e⟩
  have net:t≠n + 5:=fun q=>by rw [q] at hlo; exact absurd hlo (Qu.mpr (Nm _))
  show (if t=n + 5 then _ else _)=_
  rw [if_neg net]
  cases hf:ts.findIdx? (· == t) with
  | none=>
   have:=Pl.mp hf t (LU ht)
   simp at this
  | some i0=>
   obtain ⟨h0,h1,_⟩:=N1.mp hf
   have ht0:ts[i0]?=some t:=by rw [Lz h0]; congr 1; exact eq_of_beq h1
   obtain ⟨_,x0,y0,u0,v0,hx0,hy0,rx0,ry0,e0⟩:=G i0 t ht0
   have eq:=LR (e0.symm.trans e)
   have eu:u0=u/\v0=v:=by
    injection eq with _ _ eq
    injection eq with eq _
    simp at eq
    exact eq
   rw [eu.1] at rx0
   rw [eu.2] at ry0
   simp only [hx0,hy0]
   rw [AH rx0 rx,AH ry0 ry]
 have hH:∀ b,b < s1.heap.objs.size->H' b=H1 b:=by
  intro b hb
  rw [hn] at hb
  have ne5:b≠n + 5:=fun q=>by rw [q] at hb; exact absurd hb (Rj.mpr (MM _ _))
  show (if b=n + 5 then _ else _)=_
  rw [if_neg ne5]
  cases hf:ts.findIdx? (· == b) with
  | none=>rfl
  | some i0=>
   obtain ⟨h0,h1,_⟩:=N1.mp hf
   have ht0:ts[i0]?=some b:=by rw [Lz h0]; congr 1; exact eq_of_beq h1
   have:=big i0 b ht0
   exact absurd (L8 hb (Me (MM _ _) this)) (Nz _)
 have e5:H' (n + 5)=some (.lst (ts.map V.ref)):=if_pos rfl
 have hvals:aG (ts.map V.ref) acc.toList:=by
  have go:∀ l:List Addr,aG (l.map V.ref) (l.map Mf):=fun l=>by
   induction l with
   | nil=>exact .nil
   | cons t r ih=>exact .cons rfl ih
  rw [hacc]
  exact go ts
 have I2:Inv X pins σ H' { s1 with heap:=h',toks:=tk }:=I1.news old hH fun a o ha eo=>by
  by_cases c5:a=n + 5
  ·subst c5
   rw [e5] at eo
   cases eo
   refine ⟨?_,acc.toList,c,hvals,by simpa using hS''⟩
   rw [LF,hl',LI]
   omega
  ·have eo':(match ts.findIdx? (· == a) with
    | some i=>(match xs[i]?,ys[i]? with | some x,some y=>some (HO.tup [x,y]) | _,_=>H1 a)
    | none=>H1 a)=some o:=by
    have:H' a=some o:=eo
    rw [show H' a=(if a=n + 5 then some (.lst (ts.map V.ref)) else match ts.findIdx? (· == a) with
     | some i=>(match xs[i]?,ys[i]? with | some x,some y=>some (.tup [x,y]) | _,_=>H1 a)
     | none=>H1 a) from rfl,if_neg c5] at this
    exact this
   have hfr:H1 a=none:=I1.hok.fresh ha
   cases hf:ts.findIdx? (· == a) with
   | none=>rw [hf] at eo'; rw [show H1 a=some o from eo'] at hfr; cases hfr
   | some i0=>
    obtain ⟨h0,h1,_⟩:=N1.mp hf
    have ht0:ts[i0]?=some a:=by rw [Lz h0]; congr 1; exact eq_of_beq h1
    obtain ⟨_,x0,y0,u0,v0,hx0,hy0,rx0,ry0,e0⟩:=G i0 a ht0
    rw [hf] at eo'
    simp only [hx0,hy0] at eo'
    cases eo'
    exact ⟨(by show 2<=LN; decide),[u0,v0],.cons rx0 (.cons ry0 .nil),_,e0,rfl,⟨0,rfl⟩,rfl⟩
 have hp5:H1 (n + 5)=none:=I1.hok.fresh (by rw [hn]; exact MM _ _)
 have hsame:ap H1 H':=fun b o eb=>by
  rw [hH b (I1.hok.lt eb)]
  exact eb
 show ∃ v H',_/\_/\_
 refine ⟨.ref (n + 5),H',I2,by rw [<-z5]; rfl,q _ _ hp5 hsame ⟨ts,e5,?_⟩⟩
 have go:∀ (l:List Addr) (m:List (V×V)),l.length=m.length->(∀ (i:Nat) (t:Addr) (pq:V×V),l[i]?=some t->m[i]?=some pq->H' t=some (.tup [pq.1,pq.2]))->rX H' l m:=by
  intro l
  induction l with
  | nil=>intro m hl _; cases m with
   | nil=>exact .nil
   | cons _ _=>simp at hl
  | cons t r ih=>intro m hl hh; cases m with
   | nil=>simp at hl
   | cons pq m=>exact .cons (hh 0 t pq rfl rfl) (ih m (by simpa using hl) fun i t pq h1 h2=>hh (i + 1) t pq h1 h2)
 refine go _ _ (by rw [M5]; omega) fun i t pq ht hpq=>?_
 obtain ⟨x,y,u,v,e,hx,hy,_⟩:=Hts i t ht
 rw [e]
 have:(xs.zip ys)[i]?=some (x,y):=by rw [OH]; exact ⟨hx,hy⟩
 rw [this] at hpq
 cases hpq
 rfl
end
end
section
open PySem.Spec
section
variable {prog:Program} {w:World} {A:Around} {E:Value->Shared->Prop} {s:Shared}
theorem yo {Q:List Value->Shared->Prop} {r:Addr} {a b c:Int} {t u v:Tok} {n:Nat} (hh:A.handled=none) (hr:IsRange s.heap r a b c t u v) (hsmall:SZ a b c=true) (hn:Pw a b c=n) (hlen:n<=2 ^ 24)
  (hQ:∀ (h':Heap) (tk:Nat) (acc':Array Value),(∀ b o,s.heap.get? b=some o->h'.get? b=some o)->ItemsOf (fun i v=>∃ t,v=.int (a + i * c) t) acc' n->Q acc'.toList { s with heap:=h',toks:=tk }):
  wpAny (model prog w) A (collect (.ref r)) Q E s:=by
 unfold collect
 refine Lw (Sf (Nw F.entry_proto_collect ?_))
 rw [M1 F.plain_proto_collect _]
 show wpAny _ A.in1 (newList [] >>= fun l=>again (.builtin "list.__iadd__" ⟨[l,.ref r],[]⟩)) _ _ s
 refine Lw (MF ?_)
 refine Ly ⟨Og TN _,Nw F.entry_list_iadd ?_⟩
 rw [M1 TN _]
 show wpAny _ A.in1 (MT (.ref s.heap.objs.size) (.ref r) (.ref s.heap.objs.size)) _ _ _
 have hS:(s.heap.push { cls:=.type "list",data:=.seq ([]:List Value).toArray }).get? s.heap.objs.size=some { cls:=.type "list",data:=.seq #[] 0 }:=LH _ rfl
 have fin':∀ (h':Heap) (tk c':Nat) (acc':Array Value),(∀ b o,b≠s.heap.objs.size->(s.heap.push { cls:=.type "list",data:=.seq ([]:List Value).toArray }).get? b=some o->h'.get? b=some o)->h'.get? s.heap.objs.size=some { cls:=.type "list",dict:=none,data:=.seq acc' c',slots:=#[] }->ItemsOf (fun i v=>∃ t,v=.int (a + i * c) t) acc' n->wpAny (model prog w) A (match Mf s.heap.objs.size with
   | Mf a=>do
    match (<-load a).data with
     | Data.seq xs _=>pure xs.toList
     | _=>unsupported "internal:collect"
   | _=>unsupported "internal:collect") Q E { s with heap:=h',toks:=tk }:=by
  intro h' tk c' acc' hk hS' hacc
  show wpAny _ A (load s.heap.objs.size >>= _) _ _ _
  refine Lw (Sn hS' ?_)
  refine Ly ?_
  exact hQ h' tk acc' (fun b o e=>hk b o (Ml (LK e)) (Lx _ e)) hacc
 refine Nh (wpAny_extend_range (A:=A) (R:=fun r s'=>r=.ok (.ret (.ref s.heap.objs.size))/\∃ (h':Heap) (tk c':Nat) (acc':Array Value),s'={ s with heap:=h',toks:=tk }/\(∀ b o,b≠s.heap.objs.size->(s.heap.push { cls:=.type "list",data:=.seq ([]:List Value).toArray }).get? b=some o->h'.get? b=some o)/\h'.get? s.heap.objs.size=some { cls:=.type "list",dict:=none,data:=.seq acc' c',slots:=#[] }/\ItemsOf (fun i v=>∃ t,v=.int (a + i * c) t) acc' n)
  (s:={ s with heap:=s.heap.push { cls:=.type "list",data:=.seq ([]:List Value).toArray } }) hh (Lx _ hr) hsmall hn hlen s.heap.objs.size (.ref s.heap.objs.size) 0 hS fun h' tk acc' c' hk hS' hacc=>⟨rfl,h',tk,c',acc',rfl,hk,hS',hacc⟩) (fun fin s' h=>?_) (fun e s' h=>?_)
 ·cases fin with
  | done f=>
   obtain ⟨e,h',tk,c',acc',rfl,h1,h2,h3⟩:=h
   cases e
   exact fin' h' tk c' acc' h1 h2 h3
  | again c'=>exact ⟨h.1,OO h.2 fun r s'' hr=>by obtain ⟨rfl,h',tk,c',acc',rfl,h1,h2,h3⟩:=hr; exact fin' h' tk c' acc' h1 h2 h3⟩
 ·exact absurd h.1 (by simp)
theorem uh {Q:Value->Shared->Prop} {r:Addr} {a b c:Int} {t u v:Tok} {n:Nat} (hh:A.handled=none) (hr:IsRange s.heap r a b c t u v) (hsmall:SZ a b c=true) (hn:Pw a b c=n) (hlen:n<=2 ^ 24)
  (hQ:∀ (h':Heap) (tk:Nat) (acc':Array Value),(∀ b o,s.heap.get? b=some o->h'.get? b=some o)->ItemsOf (fun i v=>∃ t,v=.int (a + i * c) t) acc' n->Q (.ref h'.objs.size) { s with heap:=h'.push { cls:=.type "tuple",data:=.seq acc' },toks:=tk }):
  wpAny (model prog w) A (call (.type "tuple") [.ref r]) Q E s:=by
 refine callType_codes (Q₁:=fun obj s₁=>s₁.TypeIs obj "tuple"/\Q obj s₁) Sj (F.typeCall_tuple_1 _) F.entry_object_init ?_ fun obj s₁ h₁=>?_
 ·refine RS ?_
  show wpAny _ A.in1.in1 (do RB "tuple.__new__" ⟨[.type "tuple",.ref r],[]⟩; again (.builtin "tuple.__new__" ⟨[.type "tuple",.ref r],[]⟩)) _ _ s
  refine Lw (QJ (F.newCall_tuple_1 _) (Ly ⟨Og TQ _,Nw F.entry_tuple_new ?_⟩))
  rw [M1 TQ _]
  have hsub:=sub_tuple_self
  have hinit:=init_tuple_lookup
  have hmh:=madeHere_tuple
  have hTI:Q2 s (.ref r) "range":=⟨_,hr,rfl⟩
  wp_walk using Qh hTI,yo (A:=A.in1.in1) (show A.in1.in1.handled=none from hh) hr hsmall hn hlen
  intro h' tk acc hk hacc
  show wpAny _ _ (NM acc.toList.toArray >>= fun v=>ret v) _ _ _
  unfold NM
  have hz:acc.size<=LN:=by rw [hacc.1,LI]; omega
  refine Lw (MF ?_ (by show acc.toList.toArray.size<=LN; simpa using hz))
  refine Ly ?_
  have e:acc.toList.toArray=acc:=by simp
  rw [e]
  exact ⟨⟨_,LH _ rfl,rfl⟩,hQ h' tk acc hk hacc⟩
 ·exact ⟨h₁.1,Sx obj _,object_init_meets Sj.init.lookup Sj.made (by decide) prog w A.in1 _ s₁ ⟨h₁.1,rfl,h₁.2⟩⟩
end
section
variable {X:Cx} {tg:Expr}
theorem FH (hc:X.calm=true):cZ X (.type "tuple") zb:=by
 intro pins s σ H xs us Q I r h
 obtain ⟨p,n,rfl,e,hn,q⟩:=h
 obtain ⟨u,rfl,rx⟩:=lh r
 cases rx
 obtain ⟨t,u,v,hr⟩:=(show bA X.prog X.w H s.heap p (.rng 0 (n:Int)) from I.hok p _ e)
 refine uh (n:=n) (show X.A.handled=none from I.ok.hd hc) hr (UJ (by omega) (by omega) (by omega) (by omega)) ?_ (by omega) fun h' tk acc' kp it=>?_
 ·rw [SI]; split <;> omega
 ·have I1:Inv X pins σ H { s with heap:=h',toks:=tk }:=I.kept (t':=tk) kp
  have I2:Inv X pins σ (upd H h'.objs.size (.tup ((LO n).map fun (i:Nat)=>V.int ((i:Nat):Int)))) { s with heap:=h'.push { cls:=.type "tuple",data:=.seq acc' },toks:=tk }:=
   I1.laid (t':=tk) (fun b o e=>Lx _ e) (LC _) (show bA X.prog X.w _ _ _ (.tup _) from ⟨by rw [LF,Nb,LI]; omega,acc'.toList,xX it,by simpa using fi.new h' acc'⟩)
  exact ⟨.ref h'.objs.size,_,I2,rfl,q.upd _ (I1.hok.fresh (LC _))⟩
end
end
section
open PySem.Spec
section
variable {X:Cx} {elt tg iter:Expr} {ifs:List Expr} {scope sc:Scope} {pos:Pos} {NX N:List Str} {ix:List (Option Nat)} {own:Str} {wi:TI} {g:CF TG} {tt:CF TT} {te:CF TE}
end
end
section
open PySem.Spec
section
variable {prog:Program} {w:World} {A:Around} {E:Value->Shared->Prop} {s:Shared}
end
section
variable {X:Cx}
end
end
section
open PySem.Spec
theorem Hh {P:Program} {w:World} {K:Fg} {tg:Expr} (a it:Addr) (n:Nat):oP P w K tg (Itv K a n) [it] it (fun i h=>h.IsRevIter it a ((n:Int) - 1 - (i:Int))) where
 mem:=by simp
 obj:=fun i h st b hb=>by
  have e:b=it:=by simpa using hb
  subst e
  obtain ⟨o,e,c,d⟩:=st
  exact ⟨o,e,fun v z=>by rw [d] at z; cases z⟩
 keep:=fun i h h' st k=>st.at fun o e=>k it (by simp) o e
 item:=by
  intro X hP hw hK hc i pins s σ H E I hf st hg
  subst hP hw hK
  obtain ⟨hi,xs,hq,hn⟩:=hg
  obtain ⟨its,rv,p,hz⟩:=I.list hq
  have hx:xs[n - 1 - i]?=some (xs[n - 1 - i]'(by omega)):=Lz _
  obtain ⟨u,hu,ru⟩:=rv.get hx
  obtain ⟨f0,f1,f2,f3,f4,f5⟩:=hf it (by simp)
  have e0:(n:Int) - 1 - (i:Int)=((n - 1 - i:Nat):Int):=by omega
  have st1:s.heap.IsRevIter it a ((n - 1 - i:Nat):Int):=e0 ▸ st
  refine wpAny_pyNext_rev_item st1 p.isList (x:=u) (by simpa using hu) fun h' st' sb=>?_
  have I1:Inv X pins σ H { s with heap:=h' }:=I.turned (t':=s.toks) (fun b o hb e=>(sb.2 b hb).trans e) f0 f1 f3 f4 f5
  obtain ⟨o,e,c,d⟩:=id st'
  have e1:((n - 1 - i:Nat):Int) - 1=(n:Int) - 1 - ((i + 1:Nat):Int):=by omega
  exact ⟨u,rfl,yY (s:={ s with heap:=h' }) e c d (by decide) ⟨_,H,I1,ru,⟨rfl,fun ys hy=>by rw [I.list_inj hy hq]; exact hx⟩,e1 ▸ st',fun b hb=>(hf b hb).1⟩⟩
 done:=by
  intro X hP hw hK hc i pins s σ H E I hf st hg
  subst hP hw hK
  obtain ⟨f0,f1,f2,f3,f4,f5⟩:=hf it (by simp)
  have hi:i=n:=hg
  have e0:(n:Int) - 1 - (i:Int)=-1:=by omega
  have st1:s.heap.IsRevIter it a (-1):=e0 ▸ st
  exact wpAny_pyNext_rev_end (I.ok.hd hc) st1 fun h' eb=>⟨rfl,I.turned (t':=s.toks) (fun b o hb e=>eb b o hb e) f0 f1 f3 f4 f5⟩
 self:=fun _ _ _ _ _ st h=>SF st h
section
variable {X:Cx} {tg:Expr}
theorem KJ {a:Expr} {ta:TA} {p pos:Pos} (hg:Gl X "reversed") (hm:X.mg "reversed"=none) (ha:PA X [a] ta) (hs:L5 [a] X.env=[(false,eval a X.env)]:=by rfl):PI X tg (.Call (.Name "reversed" p) [a] [] pos) (GU X.K ta):=by
 intro pins s σ H R I h
 refine Call_ (fR I hg hm boot_reversed (MI (thn (ha pos pins s σ H _ I h) fun us s1 ⟨vs,H1,I1,r1,q1⟩=>?_) hs rfl))
 obtain ⟨l,xs,e,hq,q⟩:=q1
 subst e
 obtain ⟨u,rfl,ru⟩:=lh r1
 cases ru
 obtain ⟨us1,rv,p1,hsz⟩:=aB.get I1 hq
 have p1':s1.heap.IsList l us1.toArray:=p1
 refine call_reversed_list p1' (SF (s:={ s1 with heap:=s1.heap.push (revObj l ((us1.toArray.size:Int) - 1)) }) (i:=(us1.toArray.size:Int) - 1) ⟨_,LH _ rfl,rfl,rfl⟩ ?_)
 have hl:=rv.length
 refine ⟨s1.heap.objs.size,[s1.heap.objs.size],_,_,H1,rfl,I1.kept (t':=s1.toks) fun b o e=>Lx _ e,Hh l _ xs.length,?_,fun b hb=>?_,q⟩
 ·refine ⟨_,LH _ rfl,rfl,?_⟩
  show (revObj l ((us1.toArray.size:Int) - 1)).data=_
  have:((us1.toArray.size:Int) - 1)=(xs.length:Int) - 1 - ((0:Nat):Int):=by
   have:us1.toArray.size=xs.length:=by simpa using hl.symm
   rw [this]; omega
  rw [this]
  rfl
 ·have e:b=s1.heap.objs.size:=by simpa using hb
  subst e
  exact I1.fpOk (LC _) (I1.hok.fresh (LC _))
end
end
section
open PySem.Spec
theorem yp (a b c:Value):checkTypeCall "zip" ⟨[a,b,c],[]⟩=pure ():=by kernel_rfl
theorem AI (a b c:Value):RB "zip.__new__" ⟨[.type "zip",a,b,c],[]⟩=pure ():=by kernel_rfl
theorem Dn (a b c d:Value):argsOk "object.__init__" ⟨[a,b,c,d],[]⟩:=by
 unfold argsOk; rw [SO (id:="object.__init__") (n:=['_','_','t','i','n','i','_','_']) (o:=['t','c','e','j','b','o']) (by kernel_rfl) F.owner_object]; kernel_rfl
noncomputable abbrev dg (h:Heap) (T:Addr) (a b c:Value):Prop:=h.get? T=some { cls:=.type "tuple",data:=.seq #[a,b,c] }
structure ZA3 (z TI TO j1 j2 j3:Addr) (f1 f2 f3:List Addr):Prop where
 tz:TI≠z/\TO≠z/\j1≠z/\j2≠z/\j3≠z
 ti:TI≠TO/\TI≠j1/\TI≠j2/\TI≠j3
 to:TO≠j1/\TO≠j2/\TO≠j3
 f1:z∉f1/\TO∉f1/\j2∉f1/\j3∉f1
 f2:z∉f2/\TO∉f2/\j1∉f2/\j3∉f2
 f3:z∉f3/\TO∉f3/\j1∉f3/\j2∉f3
section
variable {prog:Program} {w:World} {A:Around} {E:Value->Shared->Prop} {s:Shared}
theorem rj {T:Addr} {a b c x:Value} {k:Nat} {Q:Unit->Shared->Prop} (hT:dg s.heap T a b c)
  (h:∀ h',h'.get? T=some { cls:=.type "tuple",data:=.seq ((#[a,b,c]:Array Value).setIfInBounds k x) }->LP T s.heap h'->Q () { s with heap:=h' }):
  wpAny (model prog w) A (Qa T (·.setIfInBounds k x)) Q E s:=by
 refine Ox hT rfl (h _ ?_ (MD ..))
 rw [MB _ hT rfl]
 simp [MV]
theorem FI {z TI TO j1 j2 j3:Addr} {f1 f2 f3:List Addr} {n1 n2 n3 k:Nat} {P1 P2 P3:Nat->Value->Prop} {S1 S2 S3:Nat->Heap->Prop} {a b c:Value} {Q:Value->Shared->Prop} (Z:ZA3 z TI TO j1 j2 j3 f1 f2 f3)
  (D1:Draws prog w A j1 f1 n1 P1 S1) (D2:Draws prog w A j2 f2 n2 P2 S2) (D3:Draws prog w A j3 f3 n3 P3 S3) (hz:IsZip s.heap z TI TO .none) (hTI:dg s.heap TI (.ref j1) (.ref j2) (.ref j3)) (hTO:dg s.heap TO a b c) (h1:S1 k s.heap) (h2:S2 k s.heap) (h3:S3 k s.heap) (l1:k < n1) (l2:k < n2) (l3:k < n3)
  (hQ:∀ x y u h' tk,P1 k x->P2 k y->P3 k u->IsZip h' z TI TO (rawInt s.heap.objs.size)->(∃ a b c,dg h' TO a b c)->S1 (k + 1) h'->S2 (k + 1) h'->S3 (k + 1) h'->dg h' s.heap.objs.size x y u->
   (∀ c o,c∉[z,TI,TO,j1,j2,j3]->s.heap.get? c=some o->h'.get? c=some o)->dg h' TI (.ref j1) (.ref j2) (.ref j3)->Q (.ref s.heap.objs.size) { s with heap:=h',toks:=tk }):
  wpAny (model prog w) A (Builtin.«zip.__next__» ⟨[.ref z],[]⟩) (fun fin s'=>∃ v,fin=.done (.ret v)/\Q v s') E s:=by
 obtain ⟨⟨a1,a2,a3,a4,a5⟩,⟨b1,b2,b3,b4⟩,⟨c1,c2,c3⟩,⟨d1,d2,d3,d4⟩,⟨e1,e2,e3,e4⟩,⟨g1',g2',g3',g4'⟩⟩:=Z
 obtain ⟨hp,g,d,tk₀,os⟩:=s
 show wpAny _ _ (field (.ref z) 2 >>= _) _ _ _
 refine Lw (Mt hz rfl (x:=.bool false) rfl ?_)
 show wpAny _ _ (field (.ref z) 3 >>= _) _ _ _
 refine Lw (Mt hz rfl (x:=.ref TI) rfl ?_)
 refine Lw (Ms hTI rfl ?_)
 show wpAny _ _ (Mb (.ref z) >>= _) _ _ _
 refine Lw ?_
 unfold Mb
 refine Lw (Mt hz rfl (x:=.none) rfl (Ly ?_))
 simp only [if_true]
 refine Lw (NJ ?_)
 refine Lw (Mt hz rfl (x:=.ref TO) rfl ?_)
 refine Lw (MH hz (by simp) fun g1 hz1 hs1=>?_)
 replace hz1:IsZip g1 z TI TO .ellipsis:=hz1
 replace hs1:LP z hp g1:=hs1
 refine Lw ?_
 simp only [P4,Ql,Ou,O6]
 refine Lw (Lw (N2 ?_))
 show wpAny _ _ (L9 (.ref j1) >>= _) _ _ _
 refine Lw (D1.item k ⟨g1,g,d,tk₀,os⟩ _ _ l1 (D1.but h1 hs1 d1) fun x g2 tk1 px st1 hs2=>Ly ?_)
 replace hs2:LP j1 g1 g2:=hs2
 have hTO2:dg g2 TO a b c:=hs2.extBut _ _ c1 (hs1.extBut _ _ a2 hTO)
 refine Lw (Ms hTO2 rfl ?_)
 refine Lw (rj hTO2 fun g3 hTO3 hs3=>?_)
 replace hTO3:dg g3 TO x b c:=hTO3
 replace hs3:LP TO g2 g3:=hs3
 refine Lw (OL (Ly ?_))
 refine Lw (Lw (N2 ?_))
 show wpAny _ _ (L9 (.ref j2) >>= _) _ _ _
 refine Lw (D2.item k ⟨g3,g,d,tk1,os⟩ _ _ l2 (D2.but (D2.but (D2.but h2 hs1 e1) hs2 e3) hs3 e2) fun y g4 tk2 py st2 hs4=>Ly ?_)
 replace hs4:LP j2 g3 g4:=hs4
 have hTO4:dg g4 TO x b c:=hs4.extBut _ _ c2 hTO3
 refine Lw (Ms hTO4 rfl ?_)
 refine Lw (rj hTO4 fun g5 hTO5 hs5=>?_)
 replace hTO5:dg g5 TO x y c:=hTO5
 replace hs5:LP TO g4 g5:=hs5
 refine Lw (OL (Ly ?_))
 refine Lw (Lw (N2 ?_))
 show wpAny _ _ (L9 (.ref j3) >>= _) _ _ _
 refine Lw (D3.item k ⟨g5,g,d,tk2,os⟩ _ _ l3 (D3.but (D3.but (D3.but (D3.but (D3.but h3 hs1 g1') hs2 g3') hs3 g2') hs4 g4') hs5 g2') fun u g6 tk3 pu st3 hs6=>Ly ?_)
 replace hs6:LP j3 g5 g6:=hs6
 have hTO6:dg g6 TO x y c:=hs6.extBut _ _ c3 hTO5
 refine Lw (Ms hTO6 rfl ?_)
 refine Lw (rj hTO6 fun g7 hTO7 hs7=>?_)
 replace hTO7:dg g7 TO x y u:=hTO7
 replace hs7:LP TO g6 g7:=hs7
 refine Lw (OL (Ly (Ly ?_)))
 refine Lw (Ms hTO7 rfl ?_)
 refine Lw (QD ?_)
 have hsz:g7.objs.size=hp.objs.size:=by rw [hs7.1,hs6.1,hs5.1,hs4.1,hs3.1,hs2.1,hs1.1]
 have hz7:IsZip g7 z TI TO .ellipsis:=hs7.extBut _ _ a2.symm (hs6.extBut _ _ a5.symm (hs5.extBut _ _ a2.symm (hs4.extBut _ _ a4.symm (hs3.extBut _ _ a2.symm (hs2.extBut _ _ a3.symm hz1)))))
 have k7:∀ c o,c≠z->c≠TO->c≠j1->c≠j2->c≠j3->hp.get? c=some o->g7.get? c=some o:=fun c o q1 q2 q3 q4 q5 e=>
  hs7.extBut _ _ q2 (hs6.extBut _ _ q5 (hs5.extBut _ _ q2 (hs4.extBut _ _ q4 (hs3.extBut _ _ q2 (hs2.extBut _ _ q3 (hs1.extBut _ _ q1 e))))))
 have st17:S1 (k + 1) g7:=D1.but (D1.but (D1.but (D1.but (D1.but st1 hs3 d2) hs4 d3) hs5 d2) hs6 d4) hs7 d2
 have st27:S2 (k + 1) g7:=D2.but (D2.but (D2.but st2 hs5 e2) hs6 e4) hs7 e2
 have st37:S3 (k + 1) g7:=D3.but st3 hs7 g2'
 have zlt:z < g7.objs.size:=LK hz7
 show wpAny _ _ (NO (.ref z) (.ref g7.objs.size) >>= _) _ _ _
 refine Lw ?_
 unfold NO
 have hz8:IsZip (g7.push { cls:=.type "tuple",data:=.seq #[x,y,u] }) z TI TO .ellipsis:=Lx _ hz7
 refine Lw (MH hz8 (by simp) fun g9 hz9 hs9=>?_)
 replace hz9:IsZip g9 z TI TO (rawInt g7.objs.size):=hz9
 refine MH hz9 (by simp) fun gA hzA hsA=>?_
 replace hzA:IsZip gA z TI TO (rawInt g7.objs.size):=hzA
 have up:∀ c o,c≠z->g7.get? c=some o->gA.get? c=some o:=fun c o q e=>hsA.extBut _ _ q (hs9.extBut _ _ q (Lx _ e))
 have hTA:dg gA g7.objs.size x y u:=hsA.extBut _ _ (NA zlt) (hs9.extBut _ _ (NA zlt) (LH _ rfl))
 rw [hsz] at hzA hTA
 refine Ly ⟨_,rfl,?_⟩
 show Q (.ref g7.objs.size) _
 rw [hsz]
 have fr:∀ {f:List Addr},z∉f->∀ c∈f,∀ o,g7.get? c=some o->gA.get? c=some o:=fun h c hc o e=>up c o (fun q=>h (by rw [<-q]; exact hc)) e
 exact hQ x y u gA tk3 px py pu hzA ⟨x,y,u,up _ _ a2 hTO7⟩ (D1.frame _ _ _ st17 (fr d1)) (D2.frame _ _ _ st27 (fr e1)) (D3.frame _ _ _ st37 (fr g1')) hTA
  (fun c o hc e=>by
   simp only [LA,Mq,or_false,not_or] at hc
   exact up c o hc.1 (k7 c o hc.1 hc.2.2.1 hc.2.2.2.1 hc.2.2.2.2.1 hc.2.2.2.2.2 e)) (up _ _ a1 (k7 _ _ a1 b1 b2 b3 b4 hTI))
theorem Hi {z TI TO j1 j2 j3:Addr} {f1 f2 f3:List Addr} {n1 n2 n3 k:Nat} {P1 P2 P3:Nat->Value->Prop} {S1 S2 S3:Nat->Heap->Prop} {a b c:Value} {Q:Fin->Shared->Prop} (Z:ZA3 z TI TO j1 j2 j3 f1 f2 f3)
  (D1:Draws prog w A j1 f1 n1 P1 S1) (D2:Draws prog w A j2 f2 n2 P2 S2) (D3:Draws prog w A j3 f3 n3 P3 S3) (hz:IsZip s.heap z TI TO .none) (hTI:dg s.heap TI (.ref j1) (.ref j2) (.ref j3)) (hTO:dg s.heap TO a b c) (h1:S1 k s.heap) (h2:S2 k s.heap) (h3:S3 k s.heap) (l:k=min n1 (min n2 n3))
  (hE:∀ h' e tk,(∀ c o,c∉[z,TI,TO,j1,j2,j3]->s.heap.get? c=some o->h'.get? c=some o)->(∃ o,h'.get? e=some o/\o.cls=.type "StopIteration")->E (.ref e) { s with heap:=h',toks:=tk }):
  wpAny (model prog w) A (Builtin.«zip.__next__» ⟨[.ref z],[]⟩) Q E s:=by
 obtain ⟨⟨a1,a2,a3,a4,a5⟩,⟨b1,b2,b3,b4⟩,⟨c1,c2,c3⟩,⟨d1,d2,d3,d4⟩,⟨e1,e2,e3,e4⟩,⟨g1',g2',g3',g4'⟩⟩:=Z
 obtain ⟨hp,g,d,tk₀,os⟩:=s
 have kp:∀ {h':Heap},(∀ c o,c≠z->c≠TO->c≠j1->c≠j2->c≠j3->hp.get? c=some o->h'.get? c=some o)->∀ c o,c∉[z,TI,TO,j1,j2,j3]->hp.get? c=some o->h'.get? c=some o:=fun {h'} q c o hc e=>by
  simp only [LA,Mq,or_false,not_or] at hc
  exact q c o hc.1 hc.2.2.1 hc.2.2.2.1 hc.2.2.2.2.1 hc.2.2.2.2.2 e
 show wpAny _ _ (field (.ref z) 2 >>= _) _ _ _
 refine Lw (Mt hz rfl (x:=.bool false) rfl ?_)
 show wpAny _ _ (field (.ref z) 3 >>= _) _ _ _
 refine Lw (Mt hz rfl (x:=.ref TI) rfl ?_)
 refine Lw (Ms hTI rfl ?_)
 show wpAny _ _ (Mb (.ref z) >>= _) _ _ _
 refine Lw ?_
 unfold Mb
 refine Lw (Mt hz rfl (x:=.none) rfl (Ly ?_))
 simp only [if_true]
 refine Lw (NJ ?_)
 refine Lw (Mt hz rfl (x:=.ref TO) rfl ?_)
 refine Lw (MH hz (by simp) fun g1 hz1 hs1=>?_)
 replace hz1:IsZip g1 z TI TO .ellipsis:=hz1
 replace hs1:LP z hp g1:=hs1
 refine Lw ?_
 simp only [P4,Ql,Ou,O6]
 refine Lw (Lw (N2 ?_))
 show wpAny _ _ (L9 (.ref j1) >>= _) _ _ _
 by_cases hk:k=n1
 ·subst hk
  refine Lw (D1.done ⟨g1,g,d,tk₀,os⟩ _ _ (D1.but h1 hs1 d1) fun g2 e hs2 he=>?_)
  replace hs2:Ol j1 g1 g2:=hs2
  obtain ⟨oe,hoe,hce⟩:=he
  have hz2:IsZip g2 z TI TO .ellipsis:=hs2 _ _ a3.symm hz1
  have nez:e≠z:=fun q=>by
   subst q
   rw [hz2] at hoe
   cases hoe
   simp at hce
  refine MH hz2 (by simp) fun g3 _ hs3=>hE g3 e tk₀ (kp fun c o q1 _ q3 _ _ q=>hs3.extBut _ _ q1 (hs2 _ _ q3 (hs1.extBut _ _ q1 q))) ⟨oe,hs3.extBut _ _ nez hoe,hce⟩
 ·refine Lw (D1.item k ⟨g1,g,d,tk₀,os⟩ _ _ (by omega) (D1.but h1 hs1 d1) fun x g2 tk1 px st1 hs2=>Ly ?_)
  replace hs2:LP j1 g1 g2:=hs2
  have hTO2:dg g2 TO a b c:=hs2.extBut _ _ c1 (hs1.extBut _ _ a2 hTO)
  refine Lw (Ms hTO2 rfl ?_)
  refine Lw (rj hTO2 fun g3 hTO3 hs3=>?_)
  replace hTO3:dg g3 TO x b c:=hTO3
  replace hs3:LP TO g2 g3:=hs3
  refine Lw (OL (Ly ?_))
  refine Lw (Lw (N2 ?_))
  show wpAny _ _ (L9 (.ref j2) >>= _) _ _ _
  have hz3:IsZip g3 z TI TO .ellipsis:=hs3.extBut _ _ a2.symm (hs2.extBut _ _ a3.symm hz1)
  by_cases hk2:k=n2
  ·subst hk2
   refine Lw (D2.done ⟨g3,g,d,tk1,os⟩ _ _ (D2.but (D2.but (D2.but h2 hs1 e1) hs2 e3) hs3 e2) fun g4 e hs4 he=>?_)
   replace hs4:Ol j2 g3 g4:=hs4
   obtain ⟨oe,hoe,hce⟩:=he
   have hz4:IsZip g4 z TI TO .ellipsis:=hs4 _ _ a4.symm hz3
   have nez:e≠z:=fun q=>by
    subst q
    rw [hz4] at hoe
    cases hoe
    simp at hce
   refine MH hz4 (by simp) fun g5 _ hs5=>hE g5 e tk1 (kp fun c o q1 q2 q3 q4 _ q=>hs5.extBut _ _ q1 (hs4 _ _ q4 (hs3.extBut _ _ q2 (hs2.extBut _ _ q3 (hs1.extBut _ _ q1 q))))) ⟨oe,hs5.extBut _ _ nez hoe,hce⟩
  ·refine Lw (D2.item k ⟨g3,g,d,tk1,os⟩ _ _ (by omega) (D2.but (D2.but (D2.but h2 hs1 e1) hs2 e3) hs3 e2) fun y g4 tk2 py st2 hs4=>Ly ?_)
   replace hs4:LP j2 g3 g4:=hs4
   have hTO4:dg g4 TO x b c:=hs4.extBut _ _ c2 hTO3
   refine Lw (Ms hTO4 rfl ?_)
   refine Lw (rj hTO4 fun g5 hTO5 hs5=>?_)
   replace hTO5:dg g5 TO x y c:=hTO5
   replace hs5:LP TO g4 g5:=hs5
   refine Lw (OL (Ly ?_))
   refine Lw (Lw (N2 ?_))
   show wpAny _ _ (L9 (.ref j3) >>= _) _ _ _
   have hk3:k=n3:=by omega
   subst hk3
   refine Lw (D3.done ⟨g5,g,d,tk2,os⟩ _ _ (D3.but (D3.but (D3.but (D3.but (D3.but h3 hs1 g1') hs2 g3') hs3 g2') hs4 g4') hs5 g2') fun g6 e hs6 he=>?_)
   replace hs6:Ol j3 g5 g6:=hs6
   obtain ⟨oe,hoe,hce⟩:=he
   have hz6:IsZip g6 z TI TO .ellipsis:=hs6 _ _ a5.symm (hs5.extBut _ _ a2.symm (hs4.extBut _ _ a4.symm hz3))
   have nez:e≠z:=fun q=>by
    subst q
    rw [hz6] at hoe
    cases hoe
    simp at hce
   refine MH hz6 (by simp) fun g7 _ hs7=>hE g7 e tk2 (kp fun c o q1 q2 q3 q4 q5 q=>hs7.extBut _ _ q1 (hs6 _ _ q5 (hs5.extBut _ _ q2 (hs4.extBut _ _ q4 (hs3.extBut _ _ q2 (hs2.extBut _ _ q3 (hs1.extBut _ _ q1 q))))))) ⟨oe,hs7.extBut _ _ nez hoe,hce⟩
end
noncomputable abbrev li3 (h:Heap) (l:Addr):Heap:=h.push { cls:=.type aB.icls,data:=.fields #[.ref l,.int 0 0] }
noncomputable abbrev zt3 (h:Heap) (l1 l2 l3:Addr):Heap:=(li3 (li3 (li3 h l1) l2) l3).push { cls:=.type "tuple",data:=.seq #[.ref h.objs.size,.ref (li3 h l1).objs.size,.ref (li3 (li3 h l1) l2).objs.size] }
noncomputable abbrev zo3 (h:Heap) (l1 l2 l3:Addr):Heap:=(zt3 h l1 l2 l3).push { cls:=.type "tuple",data:=.seq #[.none,.none,.none] }
noncomputable abbrev zz3 (h:Heap) (l1 l2 l3:Addr):Heap:=(zo3 h l1 l2 l3).push { cls:=.type "zip",data:=.fields #[.none,.bool false,.bool false,.ref (li3 (li3 (li3 h l1) l2) l3).objs.size,.ref (zt3 h l1 l2 l3).objs.size] }
theorem Hj (l1 l2 l3:Addr) (xs ys zs:Array Value):
  Meets (Builtin.«zip.__new__» ⟨[.type "zip",.ref l1,.ref l2,.ref l3],[]⟩) (fun _ R s=>aB.Is s.heap l1 xs/\aB.Is s.heap l2 ys/\aB.Is s.heap l3 zs/\R (.ok (.ret (.ref (zo3 s.heap l1 l2 l3).objs.size))) { s with heap:=zz3 s.heap l1 l2 l3 }):=
 .of_wp fun prog w A R s h=>by
  obtain ⟨hp,g,d,tk,os⟩:=s
  obtain ⟨q1,q2,q3,h⟩:=h
  have hsub:=sub_zip
  have hL1:aB.Is (PP ⟨hp,g,d,tk,os⟩) l1 xs:=q1
  have hL2:aB.Is (PP ⟨li3 hp l1,g,d,tk,os⟩) l2 ys:=aB.isKeep q2 fun o e=>Lx _ e
  have hL3:aB.Is (PP ⟨li3 (li3 hp l1) l2,g,d,tk,os⟩) l3 zs:=aB.isKeep q3 fun o e=>Lx _ (Lx _ e)
  wp_walk using aB.iter hL1,aB.iter hL2,aB.iter hL3
  exact ⟨_,rfl,h⟩
theorem KK {z TI TO j1 j2 j3 a b c:Addr} (nd:[z,TI,TO,j1,j2,j3].Nodup) (h1:∀ q∈[z,TI,TO,j1,j2,j3],q≠a) (h2:∀ q∈[z,TI,TO,j1,j2,j3],q≠b) (h3:∀ q∈[z,TI,TO,j1,j2,j3],q≠c):ZA3 z TI TO j1 j2 j3 [j1,a] [j2,b] [j3,c]:=by
 simp only [Nv,LA,Mq,or_false,not_or] at nd
 obtain ⟨⟨c1,c2,c3,c4,c5⟩,⟨c6,c7,c8,c9⟩,⟨d1,d2,d3⟩,⟨d4,d5⟩,d6,_⟩:=nd
 have k:∀ {e:Addr},(∀ q∈[z,TI,TO,j1,j2,j3],q≠e)->z≠e/\TO≠e/\j1≠e/\j2≠e/\j3≠e:=fun h=>⟨h _ (by simp),h _ (by simp),h _ (by simp),h _ (by simp),h _ (by simp)⟩
 have k1:=k h1
 have k2:=k h2
 have k3:=k h3
 exact ⟨⟨Mz c1,Mz c2,Mz c3,Mz c4,Mz c5⟩,⟨c6,c7,c8,c9⟩,⟨d1,d2,d3⟩,by simp [c3,d1,Mz d4,Mz d5,k1],by simp [c4,d2,d4,Mz d6,k2],by simp [c5,d3,d5,d6,k3]⟩
theorem FJ {P:Program} {w:World} {K:Fg} {elts:List Expr} {k0:Nat} {pos:Pos} (a b c z TI TO j1 j2 j3:Addr) (nd:[z,TI,TO,j1,j2,j3].Nodup):
  oP P w K (.Tuple elts k0 pos) (tX K a b c) [z,TI,TO,j1,j2,j3] z (fun i h=>IsZip h z TI TO .none/\dg h TI (.ref j1) (.ref j2) (.ref j3)/\(∃ u v t,dg h TO u v t)/\aB.It h j1 a i/\aB.It h j2 b i/\aB.It h j3 c i) where
 mem:=by simp
 obj:=fun i h st e hc=>by
  obtain ⟨q1,q2,⟨u,v,t,q3⟩,q4,q5,q6⟩:=st
  simp only [LA,Mq,or_false] at hc
  rcases hc with rfl | rfl | rfl | rfl | rfl | rfl
  ·exact ⟨_,q1,fun v z=>nomatch z⟩
  ·exact ⟨_,q2,fun v z=>nomatch z⟩
  ·exact ⟨_,q3,fun v z=>nomatch z⟩
  ·obtain ⟨o,ho,_,hd⟩:=aB.isIt q4
   exact ⟨o,ho,fun v z=>by rw [hd] at z; cases z⟩
  ·obtain ⟨o,ho,_,hd⟩:=aB.isIt q5
   exact ⟨o,ho,fun v z=>by rw [hd] at z; cases z⟩
  ·obtain ⟨o,ho,_,hd⟩:=aB.isIt q6
   exact ⟨o,ho,fun v z=>by rw [hd] at z; cases z⟩
 keep:=fun i h h' st k=>by
  obtain ⟨q1,q2,⟨u,v,t,q3⟩,q4,q5,q6⟩:=st
  exact ⟨k z (by simp) _ q1,k TI (by simp) _ q2,⟨u,v,t,k TO (by simp) _ q3⟩,aB.itKeep q4 fun o q=>k j1 (by simp) o q,aB.itKeep q5 fun o q=>k j2 (by simp) o q,aB.itKeep q6 fun o q=>k j3 (by simp) o q⟩
 item:=by
  intro X hP hw hK hc i pins s σ H E I hf st hg
  subst hP hw hK
  obtain ⟨xs,ys,zs,x,y,t,hq1,hq2,hq3,hx,hy,ht⟩:=hg
  obtain ⟨us,r1,p1,_⟩:=aB.get I hq1
  obtain ⟨vs,r2,p2,_⟩:=aB.get I hq2
  obtain ⟨ts,r3,p3,_⟩:=aB.get I hq3
  obtain ⟨q1,q2,⟨u0,v0,t0,q3⟩,q4,q5,q6⟩:=st
  obtain ⟨u,hu,ru⟩:=r1.get hx
  obtain ⟨v,hv,rv⟩:=r2.get hy
  obtain ⟨o,ho,ro⟩:=r3.get ht
  have Z:=KK nd (fun c hc'=>aB.off I hq1 (hf c hc')) (fun c hc'=>aB.off I hq2 (hf c hc')) (fun c hc'=>aB.off I hq3 (hf c hc'))
  have hh:X.A.in1.handled=none:=I.ok.hd hc
  have n1:a≠j1:=Mz (aB.off I hq1 (hf j1 (by simp)))
  have n2:b≠j2:=Mz (aB.off I hq2 (hf j2 (by simp)))
  have n3:c≠j3:=Mz (aB.off I hq3 (hf j3 (by simp)))
  have l1:i < us.toArray.size:=by have:=(LD.mp hu).1; simpa using this
  have l2:i < vs.toArray.size:=by have:=(LD.mp hv).1; simpa using this
  have l3:i < ts.toArray.size:=by have:=(LD.mp ho).1; simpa using this
  have hT:s.TypeIs (.ref z) "zip":=⟨_,q1,rfl⟩
  unfold pyNext
  refine Lw (N3 (Mx (name:=Nt "__next__") hT Nj (Mp Nj hT OQ
   (FI (A:=X.A.in1) Z (aB.draws hh j1 a n1 us.toArray) (aB.draws hh j2 b n2 vs.toArray) (aB.draws hh j3 c n3 ts.toArray) q1 q2 q3 ⟨q4,p1⟩ ⟨q5,p2⟩ ⟨q6,p3⟩ l1 l2 l3 fun x' y' t' h' tk px py pt z1 z2 z3 z4 z4' z5 z6 z7=>Ly ?_) (OD _))))
  have one:∀ {l:List Value} {a b:Value},l.toArray[i]?=some a->l[i]?=some b->a=b:=fun {l a b} p q=>by
   have:l.toArray[i]?=some b:=by simpa using q
   rw [this] at p
   exact (LR p).symm
  have ex:=one px hu
  have ey:=one py hv
  have et:=one pt ho
  subst ex ey et
  refine ⟨_,rfl,Rg z1 fun h2 w1 hs2=>?_⟩
  have nz:∀ c,c∈[TI,TO,j1,j2,j3]->c≠z:=fun c hc' e=>by
   subst e
   exact (Nv.mp nd).1 hc'
  have zlt:z < s.heap.objs.size:=LK q1
  have hT2:h2.get? s.heap.objs.size=some { cls:=.type "tuple",data:=.seq #[x',y',t'] }:=hs2.extBut _ _ (F8 (LC _) zlt) z5
  have kept:∀ c ob,c∉[z,TI,TO,j1,j2,j3]->s.heap.get? c=some ob->h2.get? c=some ob:=fun c ob hc' q=>hs2.extBut _ _ (fun e=>hc' (by simp [e])) (z6 c ob hc' q)
  obtain ⟨u1,v1,t1,z2⟩:=z2
  refine ⟨.ref s.heap.objs.size,upd H s.heap.objs.size (.tup [x,y,t]),?_,rfl,⟨_,x,y,t,I.fresh,rfl,rfl,fun xs' ys' zs' h1 h2 h3=>by rw [aB.inj I h1 hq1,aB.inj I h2 hq2,aB.inj I h3 hq3]; exact ⟨hx,hy,ht⟩⟩,
   ⟨w1,hs2.extBut _ _ (nz TI (by simp)) z7,⟨u1,v1,t1,hs2.extBut _ _ (nz TO (by simp)) z2⟩,aB.itKeep z3.1 fun o q=>hs2.extBut _ _ (nz j1 (by simp)) q,aB.itKeep z4.1 fun o q=>hs2.extBut _ _ (nz j2 (by simp)) q,aB.itKeep z4'.1 fun o q=>hs2.extBut _ _ (nz j3 (by simp)) q⟩,fun c hc'=>?_⟩
  ·exact I.turns (t':=tk) hf kept (LC _) ⟨(by show 3<=LN; decide),[x',y',t'],.cons ru (.cons rv (.cons ro .nil)),_,hT2,rfl,⟨0,rfl⟩,rfl⟩
  ·have lt:c < s.heap.objs.size:=by
    have lti:∀ {j a:Addr},aB.It s.heap j a i->j < s.heap.objs.size:=fun q=>by
     obtain ⟨o,ho,_⟩:=aB.isIt q
     exact LK ho
    simp only [LA,Mq,or_false] at hc'
    rcases hc' with e | e | e | e | e | e
    ·rw [e]; exact zlt
    ·rw [e]; exact LK q2
    ·rw [e]; exact LK q3
    ·rw [e]; exact lti q4
    ·rw [e]; exact lti q5
    ·rw [e]; exact lti q6
   rw [aO (nH lt (LC _))]
   exact (hf c hc').1
 done:=by
  intro X hP hw hK hc i pins s σ H E I hf st hg
  subst hP hw hK
  obtain ⟨xs,ys,zs,hq1,hq2,hq3,hi⟩:=hg
  obtain ⟨us,r1,p1,_⟩:=aB.get I hq1
  obtain ⟨vs,r2,p2,_⟩:=aB.get I hq2
  obtain ⟨ts,r3,p3,_⟩:=aB.get I hq3
  obtain ⟨q1,q2,⟨u0,v0,t0,q3⟩,q4,q5,q6⟩:=st
  have Z:=KK nd (fun c hc'=>aB.off I hq1 (hf c hc')) (fun c hc'=>aB.off I hq2 (hf c hc')) (fun c hc'=>aB.off I hq3 (hf c hc'))
  have hh:X.A.in1.handled=none:=I.ok.hd hc
  have n1:a≠j1:=Mz (aB.off I hq1 (hf j1 (by simp)))
  have n2:b≠j2:=Mz (aB.off I hq2 (hf j2 (by simp)))
  have n3:c≠j3:=Mz (aB.off I hq3 (hf j3 (by simp)))
  have hT:s.TypeIs (.ref z) "zip":=⟨_,q1,rfl⟩
  have hl:i=min us.toArray.size (min vs.toArray.size ts.toArray.size):=by
   have:=r1.length
   have:=r2.length
   have:=r3.length
   simp only [LQ]
   omega
  unfold pyNext
  refine Lw (N3 (Mx (name:=Nt "__next__") hT Nj (Mp Nj hT OQ
   (Hi (A:=X.A.in1) Z (aB.draws hh j1 a n1 us.toArray) (aB.draws hh j2 b n2 vs.toArray) (aB.draws hh j3 c n3 ts.toArray) q1 q2 q3 ⟨q4,p1⟩ ⟨q5,p2⟩ ⟨q6,p3⟩ hl fun h' e tk kp he=>?_) (OD _))))
  obtain ⟨o,ho,hcl⟩:=he
  refine Lw (Ny (T:="StopIteration") (b:=true) ⟨o,ho,hcl⟩ O7 ?_)
  exact Ly ⟨rfl,I.turnsN (t':=tk) hf kp⟩
 self:=fun _ _ _ _ _ st h=>Pb st.1 h
section
variable {X:Cx} {elts:List Expr} {k0:Nat} {tpos:Pos}
theorem Jv {a b c:Expr} {ta:TA} {p pos:Pos} (hg:Gl X "zip") (hm:X.mg "zip"=none) (ha:PA X [a,b,c] ta) (hs:L5 [a,b,c] X.env=[(false,eval a X.env),(false,eval b X.env),(false,eval c X.env)]:=by rfl) (hs2:L5 [b,c] X.env=[(false,eval b X.env),(false,eval c X.env)]:=by rfl):
  PI X (.Tuple elts k0 tpos) (.Call (.Name "zip" p) [a,b,c] [] pos) (C9 X.K ta):=by
 intro pins s σ H R I h
 refine Call_ (fR I hg hm boot_zip (MI (thn (ha pos pins s σ H _ I h) fun us s1 ⟨vs,H1,I1,r1,q1⟩=>?_) (by rw [hs,hs2]) (by rw [hs2]; rfl)))
 obtain ⟨l1,l2,l3,xs,ys,zs,e,hq1,hq2,hq3,q⟩:=q1
 subst e
 obtain ⟨u,v,t,rfl,ru,rv,rt⟩:∃ u v t,us=[u,v,t]/\aH (V.ref l1) u/\aH (V.ref l2) v/\aH (V.ref l3) t:=by
  cases r1 with
  | cons h1 h2=>obtain ⟨v,t,rfl,h3,h4⟩:=aG.two h2; exact ⟨_,v,t,rfl,h1,h3,h4⟩
 cases ru
 cases rv
 cases rt
 obtain ⟨us1,_,p1,_⟩:=aB.get I1 hq1
 obtain ⟨us2,_,p2,_⟩:=aB.get I1 hq2
 obtain ⟨us3,_,p3,_⟩:=aB.get I1 hq3
 refine Rv Ti (by decide) (yp _ _ _) (AI _ _ _) (fun obj=>Dn obj _ _ _) RO (Hj l1 l2 l3 us1.toArray us2.toArray us3.toArray) ⟨p1,p2,p3,?_⟩
 generalize hn:s1.heap.objs.size=n
 have z1:(li3 s1.heap l1).objs.size=n + 1:=by rw [Mo,hn]
 have z2:(li3 (li3 s1.heap l1) l2).objs.size=n + 2:=by rw [Mo,z1]
 have z3:(li3 (li3 (li3 s1.heap l1) l2) l3).objs.size=n + 3:=by rw [Mo,z2]
 have z4:(zt3 s1.heap l1 l2 l3).objs.size=n + 4:=by rw [Mo,z3]
 have z5:(zo3 s1.heap l1 l2 l3).objs.size=n + 5:=by rw [Mo,z4]
 have g6:(zz3 s1.heap l1 l2 l3).get? (zo3 s1.heap l1 l2 l3).objs.size=some _:=LH _ rfl
 have g5:(zz3 s1.heap l1 l2 l3).get? (zt3 s1.heap l1 l2 l3).objs.size=some _:=Lx _ (LH _ rfl)
 have g4:(zz3 s1.heap l1 l2 l3).get? (li3 (li3 (li3 s1.heap l1) l2) l3).objs.size=some _:=Lx _ (Lx _ (LH _ rfl))
 have g3:(zz3 s1.heap l1 l2 l3).get? (li3 (li3 s1.heap l1) l2).objs.size=some _:=Lx _ (Lx _ (Lx _ (LH _ rfl)))
 have g2:(zz3 s1.heap l1 l2 l3).get? (li3 s1.heap l1).objs.size=some _:=Lx _ (Lx _ (Lx _ (Lx _ (LH _ rfl))))
 have g1:(zz3 s1.heap l1 l2 l3).get? s1.heap.objs.size=some _:=Lx _ (Lx _ (Lx _ (Lx _ (Lx _ (LH _ rfl)))))
 have kp:∀ c o,s1.heap.get? c=some o->(zz3 s1.heap l1 l2 l3).get? c=some o:=fun c o e=>
  Lx _ (Lx _ (Lx _ (Lx _ (Lx _ (Lx _ e)))))
 show _/\_
 rw [z3,z4,z5] at g6
 rw [z1,z2,z3,hn] at g4
 rw [z4] at g5
 rw [z2] at g3
 rw [z1] at g2
 rw [hn] at g1
 rw [z5]
 refine ⟨⟨_,g6,rfl⟩,Pb g6 ?_⟩
 have I2:Inv X pins σ H1 { s1 with heap:=zz3 s1.heap l1 l2 l3 }:=I1.kept (t':=s1.toks) kp
 refine ⟨n + 5,[n + 5,n + 3,n + 4,n,n + 1,n + 2],_,_,H1,rfl,I2,FJ l1 l2 l3 _ _ _ _ _ _ (by simp),⟨g6,g4,⟨_,_,_,g5⟩,aB.mkI g1 rfl rfl,aB.mkI g2 rfl rfl,aB.mkI g3 rfl rfl⟩,fun c hc=>?_,q⟩
 have hc':s1.heap.objs.size<=c:=by
  rw [hn]
  simp only [LA,Mq,or_false] at hc
  rcases hc with rfl | rfl | rfl | rfl | rfl | rfl
  ·exact MM _ _
  ·exact MM _ _
  ·exact MM _ _
  ·exact LC _
  ·exact MM _ _
  ·exact MM _ _
 exact I1.fpOk hc' (I1.hok.fresh hc')
end
end
end L2
section
namespace L2
open PySem PySem.Spec PySem.W PyProof.Rows
noncomputable def FnA (K:Frag) (x q:Str) (st:Stmt) (f:Addr):Prop:=∃ (oc:Value) (od:Option Addr) (kV doc pm:Value) (an:Option Addr) (cd ct:Value) (sl:Array (Option Value)),K.lookup f=some ⟨oc,od,.func (fnOf x q (jP st) (fm st) (ac st) .none kV doc pm an cd ct),sl⟩/\codeIn K cd q=true/\keepIn K (.ref f)=true
noncomputable def DfA (K:Frag) (x:Str) (st:Stmt):Prop:=∃ f,nsIn K Mi x=some (some (.ref f))/\FnA K x x st f
noncomputable def MtA (K:Frag) (C:Addr) (m q:Str) (st:Stmt):Prop:=∃ f,findIn K (.ref C) m=some (some (.ref f))/\isFn K (.ref f)=true/\FnA K m q st f
theorem FnA.fn {K:Frag} {x q:Str} {st:Stmt} {f:Addr} (h:FnA K x q st f):∃ fd,Fun K x q st f fd:=let ⟨_,_,_,_,_,_,_,_,_,l,c,k⟩:=h; ⟨_,EJ l c k⟩
noncomputable abbrev BdA (x q:Str) (st:Stmt) (ps:List Str):Prop:=∀ (kV doc pm:Value) (an:Option Addr) (cdv ct:Value) (us:List Value),us.length=ps.length->bindArgs (fnOf x q (jP st) (fm st) (ac st) .none kV doc pm an cdv ct) ⟨us,[]⟩=pure (ps.zip us)
theorem DfA.df {K:Frag} {mg:Str->Option Value} {h:Heap} {x:Str} {st:Stmt} {ps:List Str} (X:K.In h) (G:h.Ns Mi mg) (q:DfA K x st) (b:BdA x x st ps):∃ f fd,Def K mg x st ps f fd:=
 let ⟨f,a,l⟩:=q; let ⟨fd,F⟩:=l.fn; ⟨f,fd,F,mg_of X G a,F.binds b⟩
theorem MtA.df {K:Frag} {C:Addr} {m q:Str} {st:Stmt} {ps:List Str} (h:MtA K C m q st) (b:BdA m q st ps):∃ f fd,gC K C m q st ps f fd:=
 let ⟨f,a,i,l⟩:=h; let ⟨fd,F⟩:=l.fn; ⟨f,fd,F,⟨a,i,F.kp⟩,F.binds b⟩
theorem MtA.di {K:Frag} {C:Addr} {q:Str} {st:Stmt} {ps:List Str} (h:MtA K C "__init__" q st) (mk:makesIn K C=true) (kc:keepIn K (.ref C)=true) (b:BdA "__init__" q st ps):∃ f fd,Al K C q st ps f fd:=
 let ⟨f,a,i,l⟩:=h; let ⟨fd,F⟩:=l.fn; ⟨f,fd,F,⟨mk,a,i,kc⟩,F.binds b⟩
theorem DfA.law {K:Frag} {mg:Str->Option Value} {h:Heap} {x p:Str} {st:Stmt} {fa:Addr} (X:K.In h) (G:h.Ns Mi mg) (q:DfA K x st) (b:BdA x x st [p]) (hf:mg x=some (.ref fa))
  (bb:∀ (kV doc pm:Value) (an:Option Addr) (cdv ct:Value) (s:Shared) (v:Value),BindsTo s (fnOf x x (jP st) (fm st) (ac st) .none kV doc pm an cdv ct) ⟨[v],[]⟩ [(p,v)]):∃ fd,Def K mg x st [p] fa fd/\∀ (s:Shared) (v:Value),BindsTo s fd ⟨[v],[]⟩ [(p,v)]:=by
 obtain ⟨f,a,_,_,kV,doc,pm,an,cdv,ct,_,l,c,k⟩:=q
 have e:=hf.symm.trans (mg_of X G a)
 cases e
 have F:=EJ l c k
 exact ⟨_,⟨F,mg_of X G a,F.binds b⟩,bb kV doc pm an cdv ct⟩
end L2
end
namespace Kc_k38
open PySem L2 PyProof.Rows
local macro_rules | `(tactic| walk_at "v")=>`(tactic| exact ⟨rfl,by first | exact LL rfl | exact Pp (LL rfl) | exact Pp (Pp rfl),by decide,by decide⟩)
local macro_rules | `(tactic| walk_at "w")=>`(tactic| exact ⟨rfl,rfl,rfl,by decide +kernel,rfl,by decide +kernel,by decide +kernel⟩)
local macro_rules | `(tactic| walk_at "l")=>`(tactic| (intro _ _ _ _ h; first | (obtain ⟨_,e,_⟩:=h; subst e; rfl) | (obtain ⟨_,_,e,_⟩:=h; subst e; rfl) | (obtain ⟨_,_,_,e,_⟩:=h; subst e; rfl) | (obtain ⟨_,_,_,_,e,_⟩:=h; subst e; rfl) | (obtain ⟨_,_,_,_,_,e,_⟩:=h; subst e; rfl) | (obtain ⟨_,_,_,_,_,_,e,_⟩:=h; subst e; rfl) | (obtain ⟨_,_,_,_,_,_,_,e,_⟩:=h; subst e; rfl) | (obtain ⟨_,_,_,_,_,_,_,_,e,_⟩:=h; subst e; rfl) | (obtain ⟨_,_,_,_,_,_,_,_,_,e,_⟩:=h; subst e; rfl) | (obtain ⟨_,_,_,_,_,_,_,_,_,_,e,_⟩:=h; subst e; rfl) | (obtain ⟨_,_,_,_,_,_,_,_,_,_,_,e,_⟩:=h; subst e; rfl) | (obtain ⟨_,_,_,_,_,_,_,_,_,_,_,_,e,_⟩:=h; subst e; rfl) | (obtain ⟨_,_,_,_,_,_,_,_,_,_,_,_,_,e,_⟩:=h; subst e; rfl) | (obtain ⟨_,_,_,_,_,_,_,_,_,_,_,_,_,_,e,_⟩:=h; subst e; rfl) | (obtain ⟨_,_,_,_,_,_,_,_,_,_,_,_,_,_,_,e,_⟩:=h; subst e; rfl) | (obtain ⟨_,_,_,_,_,_,_,_,_,_,_,_,_,_,_,_,e,_⟩:=h; subst e; rfl)))
local macro_rules | `(tactic| walk_at "c")=>`(tactic| (refine ⟨rfl,?_,?_,?_,?_,rfl,?_⟩ <;> decide +kernel))
local macro_rules | `(tactic| walk_at "e")=>`(tactic| (refine ⟨rfl,?_,?_,?_,?_,rfl,?_⟩ <;> first | decide +kernel | exact FA (by decide +kernel)))
theorem pvA {X:Cx} {N:List Str} {sc:Scope} {i:Nat} {x:Str} {pos:Pos} (h:ah N sc i x) (hN:X.N=N:=by exact rfl) (hS:X.env.scope=sc:=by exact rfl):PE X (.Name x pos) (ab i):=pvQ h hN hS
theorem rmD {n k:Nat} {A:Around} (h:bV k A) (e:n<=k:=by decide):bV n A:=h.mono e
noncomputable abbrev gk:List Str:=["_law_script","_law_cards","_law_sizes","_law_hands","_law_whole","_law_table","_law_k","_law_word","_law_hand","_law_known","_law_beside","_law_later","_law_some","_law_deeds","_law_other"]
noncomputable abbrev kU:List Str:=["_law_script","_law_at","_law_cards","_law_hands","_law_most","_law_pool_here","_law_k","_law_cell_here","_law_one","_law_other","_law_some"]
noncomputable abbrev mr:List Str:=["_law_table","_law_whole","_law_group_here","_law_word","_law_facts","_law_yes","_law_no","_law_fact","_law_one","_law_other"]
noncomputable abbrev iU:List Str:=["_law_script","_law_at","_law_cards","_law_hands"]
noncomputable abbrev pP:List Str:=["_law_script","_law_at","_law_cards","_law_hands","_law_cell_here","_law_told","_law_k","_law_other"]
noncomputable abbrev rk:List Str:=["_law_script","_law_at","_law_cards","_law_hands","_law_pool_here","_law_k","_law_cell_here"]
noncomputable abbrev rl:List Str:=["_law_script","_law_at","_law_cards","_law_hands","_law_cell_here","_law_some"]
noncomputable abbrev ui:List Str:=["_law_script","_law_at","_law_most","_law_cards","_law_sizes","_law_k"]
noncomputable abbrev mw:List Str:=["deals","views","S","word","inner","some"]
noncomputable abbrev AJ:List Str:=["_law_script","_law_at","_law_cards","_law_hands","_law_most"]
noncomputable abbrev dJ:List Str:=["cards","sizes"]
noncomputable abbrev se:List Str:=["_law_table","_law_deeds","_law_turn","_law_other","_law_deed_here"]
noncomputable abbrev m5:List Str:=["many","views","points","view","thing","least"]
noncomputable abbrev km:List Str:=["cards","hands","place","part"]
noncomputable abbrev vz:List Str:=["_law_table","_law_whole","_law_group_here","_law_word"]
noncomputable abbrev eh:List Str:=["ones","others"]
noncomputable abbrev kn:List Str:=["cards","hands","thing"]
noncomputable abbrev m6:List Str:=["_law_number","_law_hands"]
noncomputable abbrev m7:List Str:=["_law_table","_law_deed_here"]
noncomputable abbrev pQ:List Str:=["begun","room","longer","deal","who","most"]
noncomputable abbrev lz:List Str:=["thing","least","most"]
noncomputable abbrev g0:List Str:=["self","cards","sizes"]
noncomputable abbrev pR:List Str:=["cards","hands","thing","words","level"]
noncomputable abbrev pS:List Str:=["view","truths","sure","least","truth"]
noncomputable abbrev m8:List Str:=["_law_table","_law_hands"]
noncomputable abbrev sf:List Str:=["self","hand","holder","some","rising"]
noncomputable abbrev vA:List Str:=["_law_script","_law_k"]
noncomputable abbrev vB:List Str:=["_law_table","_law_deeds","_law_turn"]
noncomputable abbrev vC:List Str:=["_law_cards","_law_sizes","_law_found","_law_many"]
noncomputable abbrev vD:List Str:=["_law_script","_law_at","_law_most"]
noncomputable abbrev sg:List Str:=["points","one","other","first","second"]
noncomputable abbrev lA:List Str:=["self","hands","S"]
noncomputable abbrev vE:List Str:=["cards","sizes","room","begun","card"]
noncomputable abbrev si:List Str:=["cards","sizes","many","left","size"]
noncomputable abbrev pT:List Str:=["deal","holder","rising"]
noncomputable abbrev vF:List Str:=["self","hand","holder","some"]
noncomputable abbrev m9:List Str:=["thing","bound"]
noncomputable abbrev sj:List Str:=["marks","firsts","thing","mark"]
noncomputable abbrev vG:List Str:=["self","hands","values"]
noncomputable abbrev ze:List Str:=["cards","hands","thing","form"]
noncomputable abbrev pU:List Str:=["fit","reason"]
noncomputable abbrev ng:List Str:=["thing","cards"]
noncomputable abbrev vH:List Str:=["_law_cards","_law_sizes"]
noncomputable abbrev vI:List Str:=["views","truths","answers","view"]
noncomputable abbrev zf:List Str:=["_law_saying_here","_law_found","_law_part"]
noncomputable abbrev nh:List Str:=["deals","hand"]
noncomputable abbrev lB:List Str:=["piles","view"]
noncomputable abbrev vJ:List Str:=["points","one","other"]
noncomputable abbrev ni:List Str:=["deal","who"]
noncomputable abbrev nj:List Str:=["view","values"]
noncomputable abbrev vK:List Str:=["deal","holder","rising","card"]
noncomputable abbrev vL:List Str:=["thing","hands","least","hand"]
noncomputable abbrev vM:List Str:=["self","hands","values","hand"]
noncomputable abbrev vN:List Str:=["many","taken","ways","step"]
noncomputable abbrev vO:List Str:=["view","truths"]
noncomputable abbrev sk:List Str:=["deals","views","S"]
noncomputable abbrev zg:List Str:=["_law_script","_law_k","_law_number"]
noncomputable abbrev np:List Str:=["self","hand"]
noncomputable abbrev nr:List Str:=["self","S"]
noncomputable abbrev vP:List Str:=["points","thing"]
noncomputable abbrev zh:List Str:=["_law_many","_law_found","_law_k"]
noncomputable abbrev vQ:List Str:=["thing","hands"]
noncomputable abbrev sn:List Str:=["_law_saying_here"]
noncomputable abbrev iH:List Str:=["self"]
noncomputable abbrev vR:List Str:=["views","truths"]
noncomputable abbrev zi:List Str:=["sayings","parts","saying"]
noncomputable abbrev vS:List Str:=["many","taken"]
noncomputable abbrev vT:List Str:=["begun","room"]
noncomputable abbrev vU:List Str:=["many","views"]
noncomputable abbrev Do:List Str:=["place","part","cards","hands"]
noncomputable abbrev zj:List Str:=["points","thing","end"]
noncomputable abbrev Ic:List Str:=["_law_k","_law_cards","_law_script","_law_at"]
noncomputable abbrev so:List Str:=["one","other"]
noncomputable abbrev vV:List Str:=["_law_many"]
noncomputable abbrev pV:List Str:=["thing"]
noncomputable abbrev sr:List Str:=["_law_script"]
noncomputable abbrev Dp:List Str:=["pile","least","piles"]
noncomputable abbrev Dq:List Str:=["_law_one","_law_other"]
noncomputable abbrev vW:List Str:=["sayings"]
noncomputable abbrev Dr:List Str:=["card","holder","who"]
noncomputable abbrev zk:List Str:=["saying","form"]
noncomputable abbrev vX:List Str:=["saying"]
noncomputable abbrev Ds (P:Program) (w:World) (K:Fg) (mg:Str->Option Value) (base:Heap) (k:Nat):Prop:=FnB P w K mg base k "is_whole" pV (ir K)
noncomputable abbrev AK (P:Program) (w:World) (K:Fg) (mg:Str->Option Value) (base:Heap) (k:Nat):Prop:=FnB P w K mg base k "is_within" lz (dU K)
noncomputable abbrev wS (P:Program) (w:World) (K:Fg) (mg:Str->Option Value) (base:Heap) (k:Nat):Prop:=FnB P w K mg base k "is_below" m9 (db K)
noncomputable abbrev Dt (P:Program) (w:World) (K:Fg) (mg:Str->Option Value) (base:Heap) (k:Nat):Prop:=FnB P w K mg base k "are_hands" vQ (ji K)
noncomputable abbrev Hk (P:Program) (w:World) (K:Fg) (mg:Str->Option Value) (base:Heap) (k:Nat):Prop:=FnB P w K mg base k "is_pack" dJ (pD K)
noncomputable abbrev Hl (P:Program) (w:World) (K:Fg) (mg:Str->Option Value) (base:Heap) (k:Nat):Prop:=FnB P w K mg base k "choices" vS (pE K)
noncomputable abbrev Hn (P:Program) (w:World) (K:Fg) (mg:Str->Option Value) (base:Heap) (k:Nat):Prop:=FnB P w K mg base k "how_many" dJ (nN K)
noncomputable abbrev Ho (P:Program) (w:World) (K:Fg) (mg:Str->Option Value) (base:Heap) (k:Nat):Prop:=FnB P w K mg base k "with_one_more" vT (iS K)
noncomputable abbrev Du (P:Program) (w:World) (K:Fg) (mg:Str->Option Value) (base:Heap) (k:Nat):Prop:=FnB P w K mg base k "deals_of" dJ (j6 K)
noncomputable abbrev Dv (P:Program) (w:World) (K:Fg) (mg:Str->Option Value) (base:Heap) (k:Nat):Prop:=FnB P w K mg base k "cards_of" ni (j7 K)
noncomputable abbrev Dw (P:Program) (w:World) (K:Fg) (mg:Str->Option Value) (base:Heap) (k:Nat):Prop:=FnB P w K mg base k "is_word" kn (pK K)
noncomputable abbrev Dy (P:Program) (w:World) (K:Fg) (mg:Str->Option Value) (base:Heap) (k:Nat):Prop:=FnB P w K mg base k "parts_of_all" vW (jk K)
noncomputable abbrev Dz (P:Program) (w:World) (K:Fg) (mg:Str->Option Value) (base:Heap) (k:Nat):Prop:=FnB P w K mg base k "is_saying" kn (lZ K)
noncomputable abbrev DC (P:Program) (w:World) (K:Fg) (mg:Str->Option Value) (base:Heap) (k:Nat):Prop:=FnB P w K mg base k "fits" km (wG K)
noncomputable abbrev DD (P:Program) (w:World) (K:Fg) (mg:Str->Option Value) (base:Heap) (k:Nat):Prop:=FnB P w K mg base k "parts_of" vX (nO K)
noncomputable abbrev zl (P:Program) (w:World) (K:Fg) (mg:Str->Option Value) (base:Heap) (k:Nat):Prop:=FnB P w K mg base k "least_with_same" ["marks"] (eN K)
noncomputable abbrev DE (P:Program) (w:World) (K:Fg) (mg:Str->Option Value) (base:Heap) (k:Nat):Prop:=FnB P w K mg base k "first_view" nh (kN K)
noncomputable abbrev DF (P:Program) (w:World) (K:Fg) (mg:Str->Option Value) (base:Heap) (k:Nat):Prop:=FnB P w K mg base k "split" nj (tR K)
noncomputable abbrev zm (P:Program) (w:World) (K:Fg) (mg:Str->Option Value) (base:Heap) (k:Nat):Prop:=FnB P w K mg base k "end_of" vP (kC K)
noncomputable abbrev DG (P:Program) (w:World) (K:Fg) (mg:Str->Option Value) (base:Heap) (k:Nat):Prop:=FnB P w K mg base k "link" vJ (wC K)
noncomputable abbrev DH (P:Program) (w:World) (K:Fg) (mg:Str->Option Value) (base:Heap) (k:Nat):Prop:=FnB P w K mg base k "joined" vU (qU K)
noncomputable abbrev zn (P:Program) (w:World) (K:Fg) (mg:Str->Option Value) (base:Heap) (k:Nat):Prop:=FnB P w K mg base k "both" eh (rY K)
noncomputable abbrev DI (P:Program) (w:World) (K:Fg) (mg:Str->Option Value) (base:Heap) (k:Nat):Prop:=FnB P w K mg base k "either" eh (qW K)
noncomputable abbrev vY (P:Program) (w:World) (K:Fg) (mg:Str->Option Value) (base:Heap) (k:Nat):Prop:=FnB P w K mg base k "known" vO (jR K)
noncomputable abbrev DJ (P:Program) (w:World) (K:Fg) (mg:Str->Option Value) (base:Heap) (k:Nat):Prop:=FnB P w K mg base k "known_to_all" vR (jh K)
noncomputable abbrev DK (P:Program) (w:World) (K:Fg) (mg:Str->Option Value) (base:Heap) (k:Nat):Prop:=FnB P w K mg base k "seen" lB (wD K)
noncomputable abbrev vZ (P:Program) (w:World) (K:Fg) (mg:Str->Option Value) (base:Heap) (k:Nat):Prop:=FnB P w K mg base k "refuse_unless" pU (cq K)
noncomputable abbrev DL (P:Program) (w:World) (K:Fg) (mg:Str->Option Value) (base:Heap) (k:Nat):Prop:=FnB P w K mg base k "are_cards" ng (ma K)
noncomputable abbrev DM (P:Program) (w:World) (K:Fg) (mg:Str->Option Value) (base:Heap) (k:Nat):Prop:=FnB P w K mg base k "least_held" pT (kQ K)
noncomputable abbrev nu (P:Program) (w:World) (K:Fg) (mg:Str->Option Value) (base:Heap) (k:Nat):Prop:=FnB P w K mg base k "_law_cell" vA (aP K)
noncomputable abbrev DN (P:Program) (w:World) (K:Fg) (mg:Str->Option Value) (base:Heap) (k:Nat):Prop:=FnB P w K mg base k "_law_product" vV (gm K)
noncomputable abbrev DO (P:Program) (w:World) (K:Fg) (mg:Str->Option Value) (base:Heap) (k:Nat):Prop:=FnB P w K mg base k "_law_count" vH (iz K)
noncomputable abbrev DP (P:Program) (w:World) (K:Fg) (mg:Str->Option Value) (base:Heap) (k:Nat):Prop:=FnB P w K mg base k "_law_pack" vD (lV K)
noncomputable abbrev v2 (P:Program) (w:World) (K:Fg) (mg:Str->Option Value) (base:Heap) (k:Nat):Prop:=FnB P w K mg base k "_law_group" m6 (cL K)
noncomputable abbrev DQ (P:Program) (w:World) (K:Fg) (mg:Str->Option Value) (base:Heap) (k:Nat):Prop:=FnB P w K mg base k "_law_pool" iU (l9 K)
noncomputable abbrev Id (P:Program) (w:World) (K:Fg) (mg:Str->Option Value) (base:Heap) (k:Nat):Prop:=FnB P w K mg base k "_law_words" sn (eF K 70)
noncomputable abbrev DR (P:Program) (w:World) (K:Fg) (mg:Str->Option Value) (base:Heap) (k:Nat):Prop:=FnB P w K mg base k "_law_saying" AJ (gW K)
noncomputable abbrev DS (P:Program) (w:World) (K:Fg) (mg:Str->Option Value) (base:Heap) (k:Nat):Prop:=FnB P w K mg base k "_law_deed" iU (mh K)
noncomputable abbrev zo (P:Program) (w:World) (K:Fg) (mg:Str->Option Value) (base:Heap) (G:GF) (k:Nat):Prop:=FnB P w K mg base k "_law_done" m7 (gF K G)
noncomputable abbrev DT (P:Program) (w:World) (K:Fg) (mg:Str->Option Value) (base:Heap) (k:Nat):Prop:=FnB P w K mg base k "_law_plain" iU (eG K)
noncomputable abbrev DU (P:Program) (w:World) (K:Fg) (mg:Str->Option Value) (base:Heap) (G:GF) (k:Nat):Prop:=FnB P w K mg base k "_law_open" vz (mi K G)
noncomputable abbrev DV (P:Program) (w:World) (K:Fg) (mg:Str->Option Value) (base:Heap) (G:GF) (k:Nat):Prop:=FnB P w K mg base k "_law_views" m8 (iF K G)
noncomputable abbrev DW (P:Program) (w:World) (K:Fg) (mg:Str->Option Value) (base:Heap) (G:GF) (k:Nat):Prop:=FnB P w K mg base k "_law_turned" vB (jU K G)
noncomputable abbrev Ie (P:Program) (w:World) (K:Fg) (mg:Str->Option Value) (base:Heap) (k:Nat):Prop:=FnB P w K mg base k "truths_of" sk (bW K 35)
noncomputable abbrev Hq (P:Program) (w:World) (K:Fg) (mg:Str->Option Value) (base:Heap) (G:GF) (k:Nat):Prop:=FnM P w K mg base k G.Table "show" vF (kS K G)
noncomputable abbrev DX (P:Program) (w:World) (K:Fg) (mg:Str->Option Value) (base:Heap) (G:GF) (k:Nat):Prop:=FnM P w K mg base k G.Table "word" lA (iD K G)
noncomputable abbrev AL (P:Program) (w:World) (K:Fg) (mg:Str->Option Value) (base:Heap) (G:GF) (k:Nat):Prop:=FnM P w K mg base k G.Table "truths" nr (b9 K G)
noncomputable abbrev Hr (P:Program) (w:World) (K:Fg) (mg:Str->Option Value) (base:Heap) (G:GF) (k:Nat):Prop:=FnM P w K mg base k G.Table "view" np (kR K G)
noncomputable abbrev DY (P:Program) (w:World) (K:Fg) (mg:Str->Option Value) (base:Heap) (G:GF) (k:Nat):Prop:=FnM P w K mg base k G.Table "again" iH (gZ K G)
noncomputable abbrev Hs (P:Program) (w:World) (K:Fg) (mg:Str->Option Value) (base:Heap) (G:GF) (k:Nat):Prop:=FnM P w K mg base k G.Table "deals" iH (jT K G)
noncomputable abbrev DZ (P:Program) (w:World) (K:Fg) (mg:Str->Option Value) (base:Heap) (G:GF) (k:Nat):Prop:=FnM P w K mg base k G.Table "learn" vG (gX K G)
seal L2.PE L2.PA L2.PS L2.PSs L2.PT L2.PW L2.PI L2.PG L2.PGs L2.PO L2.PTL L2.OpR L2.UnR L2.cZ L2.SlR L2.IxR L2.FW
noncomputable def top (i:Nat):Stmt:=PySem.Challenge.pw_knowcards_k38_whole_open_words_are_commo.main.body.getD i (.Pass ⟨0,0,0,0⟩)
noncomputable abbrev jx:Stmt:=top 8
theorem BA:aA pV pV (ac jx):=by walk_at "w"
theorem rn:ah pV (ac jx) 0 "thing":=by walk_at "v"
noncomputable abbrev eZ:Stmt:=top 9
theorem AM:aA lz lz (ac eZ):=by walk_at "w"
theorem p7:ah lz (ac eZ) 0 "thing":=by walk_at "v"
theorem yq:ah lz (ac eZ) 1 "least":=by walk_at "v"
theorem yr:ah lz (ac eZ) 2 "most":=by walk_at "v"
noncomputable abbrev hJ:Stmt:=top 10
theorem BB:aA m9 m9 (ac hJ):=by walk_at "w"
theorem AN:ah m9 (ac hJ) 0 "thing":=by walk_at "v"
theorem AO:ah m9 (ac hJ) 1 "bound":=by walk_at "v"
noncomputable abbrev dM:Stmt:=top 11
theorem jy:aA vL vQ (ac dM):=by walk_at "w"
theorem p8:ah vL (ac dM) 0 "thing":=by walk_at "v"
theorem yt:ah vL (ac dM) 1 "hands":=by walk_at "v"
theorem yu:ah vL (ac dM) 2 "least":=by walk_at "v"
theorem p9:ah vL (ac dM) 3 "hand":=by walk_at "v"
noncomputable abbrev gG:Stmt:=top 16
theorem D0:aA dJ dJ (ac gG):=by walk_at "w"
theorem sY:ah dJ (ac gG) 0 "cards":=by walk_at "v"
theorem ko:ah dJ (ac gG) 1 "sizes":=by walk_at "v"
noncomputable abbrev dL:Stmt:=top 17
theorem gc:aA si dJ (ac dL):=by walk_at "w"
theorem rq:ah si (ac dL) 0 "cards":=by walk_at "v"
theorem rA:ah si (ac dL) 1 "sizes":=by walk_at "v"
theorem rB:ah si (ac dL) 2 "many":=by walk_at "v"
theorem rC:ah si (ac dL) 3 "left":=by walk_at "v"
theorem rD:ah si (ac dL) 4 "size":=by walk_at "v"
noncomputable abbrev fK:Stmt:=top 18
theorem lC:aA vN vS (ac fK):=by walk_at "w"
theorem BC:ah vN (ac fK) 0 "many":=by walk_at "v"
theorem BD:ah vN (ac fK) 1 "taken":=by walk_at "v"
theorem sZ:ah vN (ac fK) 2 "ways":=by walk_at "v"
theorem tj:ah vN (ac fK) 3 "step":=by walk_at "v"
noncomputable abbrev eP:Stmt:=top 19
theorem iu:aA vE dJ (ac eP):=by walk_at "w"
theorem mz:ah vE (ac eP) 0 "cards":=by walk_at "v"
theorem mB:ah vE (ac eP) 1 "sizes":=by walk_at "v"
theorem AQ:ah vE (ac eP) 2 "room":=by walk_at "v"
theorem rE:ah vE (ac eP) 3 "begun":=by walk_at "v"
noncomputable abbrev bF:Stmt:=top 20
theorem dX:aA pQ vT (ac bF):=by walk_at "w"
theorem sF:ah pQ (ac bF) 0 "begun":=by walk_at "v"
theorem sG:ah pQ (ac bF) 1 "room":=by walk_at "v"
theorem kZ:ah pQ (ac bF) 2 "longer":=by walk_at "v"
theorem k9:ah pQ (ac bF) 3 "deal":=by walk_at "v"
theorem lf:ah pQ (ac bF) 4 "who":=by walk_at "v"
theorem sH:ah pQ (ac bF) 5 "most":=by walk_at "v"
noncomputable abbrev hU:Stmt:=top 21
theorem BE:aA ni ni (ac hU):=by walk_at "w"
theorem AR:ah ni (ac hU) 0 "deal":=by walk_at "v"
noncomputable abbrev cD:Stmt:=top 25
theorem gH:aA pR kn (ac cD):=by walk_at "w"
theorem yv:ah pR (ac cD) 0 "cards":=by walk_at "v"
theorem yw:ah pR (ac cD) 1 "hands":=by walk_at "v"
theorem yx:ah pR (ac cD) 2 "thing":=by walk_at "v"
theorem qa:ah pR (ac cD) 3 "words":=by walk_at "v"
theorem iI:ah pR (ac cD) 4 "level":=by walk_at "v"
noncomputable abbrev gI:Stmt:=top 26
theorem v3:aA ze kn (ac gI):=by walk_at "w"
theorem fb:ah ze (ac gI) 2 "thing":=by walk_at "v"
theorem tm:ah ze (ac gI) 3 "form":=by walk_at "v"
noncomputable abbrev kI:Stmt:=top 27
theorem Jw:aA km km (ac kI):=by walk_at "w"
theorem Ht:ah km (ac kI) 0 "cards":=by walk_at "v"
theorem uj:ah km (ac kI) 1 "hands":=by walk_at "v"
theorem pW:ah km (ac kI) 2 "place":=by walk_at "v"
theorem pX:ah km (ac kI) 3 "part":=by walk_at "v"
noncomputable abbrev fP:Stmt:=top 28
theorem tw:aA zk vX (ac fP):=by walk_at "w"
theorem rF:ah zk (ac fP) 0 "saying":=by walk_at "v"
theorem AS:ah zk (ac fP) 1 "form":=by walk_at "v"
noncomputable abbrev cU:Stmt:=top 29
theorem jz:aA zi vW (ac cU):=by walk_at "w"
theorem uk:ah zi (ac cU) 0 "sayings":=by walk_at "v"
theorem mC:ah zi (ac cU) 1 "parts":=by walk_at "v"
theorem ul:ah zi (ac cU) 2 "saying":=by walk_at "v"
noncomputable abbrev fA:Stmt:=top 31
theorem yy:aA nh nh (ac fA):=by walk_at "w"
theorem wT:ah nh (ac fA) 0 "deals":=by walk_at "v"
noncomputable abbrev lH:Stmt:=top 32
theorem Hu:aA nj nj (ac lH):=by walk_at "w"
theorem FK:ah nj (ac lH) 0 "view":=by walk_at "v"
theorem FL:ah nj (ac lH) 1 "values":=by walk_at "v"
noncomputable abbrev bD:Stmt:=top 33
theorem eQ:aA sj ["marks"] (ac bD):=by walk_at "w"
theorem jK:ah sj (ac bD) 0 "marks":=by walk_at "v"
theorem qu:ah sj (ac bD) 1 "firsts":=by walk_at "v"
theorem qw:ah sj (ac bD) 2 "thing":=by walk_at "v"
theorem qx:ah sj (ac bD) 3 "mark":=by walk_at "v"
noncomputable abbrev dY:Stmt:=top 34
theorem kJ:aA m5 vU (ac dY):=by walk_at "w"
theorem v4:ah m5 (ac dY) 0 "many":=by walk_at "v"
theorem Ea:ah m5 (ac dY) 1 "views":=by walk_at "v"
theorem Eb:ah m5 (ac dY) 2 "points":=by walk_at "v"
theorem Ec:ah m5 (ac dY) 3 "view":=by walk_at "v"
theorem Ed:ah m5 (ac dY) 4 "thing":=by walk_at "v"
theorem Ee:ah m5 (ac dY) 5 "least":=by walk_at "v"
noncomputable abbrev jA:Stmt:=top 35
theorem wU:aA sg vJ (ac jA):=by walk_at "w"
theorem um:ah sg (ac jA) 0 "points":=by walk_at "v"
theorem Hv:ah sg (ac jA) 1 "one":=by walk_at "v"
theorem Hx:ah sg (ac jA) 2 "other":=by walk_at "v"
theorem AU:ah sg (ac jA) 3 "first":=by walk_at "v"
theorem AV:ah sg (ac jA) 4 "second":=by walk_at "v"
noncomputable abbrev iV:Stmt:=top 36
theorem rG:aA zj vP (ac iV):=by walk_at "w"
theorem jB:ah zj (ac iV) 0 "points":=by walk_at "v"
theorem Ef:ah zj (ac iV) 1 "thing":=by walk_at "v"
theorem hZ:ah zj (ac iV) 2 "end":=by walk_at "v"
noncomputable abbrev bG:Stmt:=top 38
theorem gJ:aA mw sk (ac bG):=by walk_at "w"
theorem cn:ah mw (ac bG) 0 "deals":=by walk_at "v"
theorem cM:ah mw (ac bG) 1 "views":=by walk_at "v"
theorem bX:ah mw (ac bG) 2 "S":=by walk_at "v"
theorem dD:ah mw (ac bG) 3 "word":=by walk_at "v"
theorem kW:ah mw (ac bG) 4 "inner":=by walk_at "v"
theorem qb:ah mw (ac bG) 5 "some":=by walk_at "v"
noncomputable abbrev mD:Stmt:=top 39
theorem Jx:aA eh eh (ac mD):=by walk_at "w"
theorem Hy:ah eh (ac mD) 0 "ones":=by walk_at "v"
theorem Hz:ah eh (ac mD) 1 "others":=by walk_at "v"
noncomputable abbrev iW:Stmt:=top 40
theorem FM:aA eh eh (ac iW):=by walk_at "w"
theorem Eg:ah eh (ac iW) 0 "ones":=by walk_at "v"
theorem Eh:ah eh (ac iW) 1 "others":=by walk_at "v"
noncomputable abbrev gd:Stmt:=top 41
theorem pY:aA pS vO (ac gd):=by walk_at "w"
theorem rH:ah pS (ac gd) 0 "view":=by walk_at "v"
theorem FN:ah pS (ac gd) 1 "truths":=by walk_at "v"
theorem FO:ah pS (ac gd) 2 "sure":=by walk_at "v"
theorem FP:ah pS (ac gd) 3 "least":=by walk_at "v"
theorem FQ:ah pS (ac gd) 4 "truth":=by walk_at "v"
noncomputable abbrev cA:Stmt:=top 42
theorem gq:aA vI vR (ac cA):=by walk_at "w"
theorem uo:ah vI (ac cA) 0 "views":=by walk_at "v"
theorem mE:ah vI (ac cA) 1 "truths":=by walk_at "v"
theorem mF:ah vI (ac cA) 2 "answers":=by walk_at "v"
theorem uq:ah vI (ac cA) 3 "view":=by walk_at "v"
noncomputable abbrev mG:Stmt:=top 43
theorem Jy:aA lB lB (ac mG):=by walk_at "w"
theorem HD:ah lB (ac mG) 0 "piles":=by walk_at "v"
theorem AW:ah lB (ac mG) 1 "view":=by walk_at "v"
noncomputable abbrev eR:Stmt:=top 46
theorem ur:aA pU pU (ac eR):=by walk_at "w"
theorem sI:ah pU (ac eR) 0 "fit":=by walk_at "v"
noncomputable abbrev gf:Stmt:=top 47
theorem AX:aA ng ng (ac gf):=by walk_at "w"
theorem qc:ah ng (ac gf) 0 "thing":=by walk_at "v"
noncomputable abbrev dn:Stmt:=top 48
theorem qd:aA vK pT (ac dn):=by walk_at "w"
theorem wV:ah vK (ac dn) 0 "deal":=by walk_at "v"
theorem wW:ah vK (ac dn) 1 "holder":=by walk_at "v"
theorem wX:ah vK (ac dn) 2 "rising":=by walk_at "v"
theorem ou:ah vK (ac dn) 3 "card":=by walk_at "v"
noncomputable abbrev fc:Stmt:=top 50
theorem jC:aA zg vA (ac fc):=by walk_at "w"
theorem fT:ah zg (ac fc) 0 "_law_script":=by walk_at "v"
theorem eI:ah zg (ac fc) 1 "_law_k":=by walk_at "v"
theorem iJ:ah zg (ac fc) 2 "_law_number":=by walk_at "v"
noncomputable abbrev cV:Stmt:=top 51
theorem gr:aA zh vV (ac cV):=by walk_at "w"
theorem ut:ah zh (ac cV) 0 "_law_many":=by walk_at "v"
theorem mH:ah zh (ac cV) 1 "_law_found":=by walk_at "v"
theorem uu:ah zh (ac cV) 2 "_law_k":=by walk_at "v"
noncomputable abbrev dq:Stmt:=top 52
theorem iK:aA vC vH (ac dq):=by walk_at "w"
theorem ow:ah vC (ac dq) 0 "_law_cards":=by walk_at "v"
theorem ox:ah vC (ac dq) 1 "_law_sizes":=by walk_at "v"
theorem oy:ah vC (ac dq) 2 "_law_found":=by walk_at "v"
theorem wY:ah vC (ac dq) 3 "_law_many":=by walk_at "v"
noncomputable abbrev cE:Stmt:=top 53
theorem fB:aA ui vD (ac cE):=by walk_at "w"
theorem fU:ah ui (ac cE) 0 "_law_script":=by walk_at "v"
theorem fV:ah ui (ac cE) 1 "_law_at":=by walk_at "v"
theorem yz:ah ui (ac cE) 2 "_law_most":=by walk_at "v"
theorem fW:ah ui (ac cE) 3 "_law_cards":=by walk_at "v"
theorem bY:ah ui (ac cE) 4 "_law_sizes":=by walk_at "v"
theorem yA:ah ui (ac cE) 5 "_law_k":=by walk_at "v"
noncomputable abbrev dZ:Stmt:=top 54
theorem fX:aA zf sn (ac dZ):=by walk_at "w"
theorem wZ:ah zf (ac dZ) 0 "_law_saying_here":=by walk_at "v"
theorem oz:ah zf (ac dZ) 1 "_law_found":=by walk_at "v"
theorem h7:ah zf (ac dZ) 2 "_law_part":=by walk_at "v"
noncomputable abbrev fC:Stmt:=top 55
theorem yB:aA m6 m6 (ac fC):=by walk_at "w"
theorem w5:ah m6 (ac fC) 1 "_law_hands":=by walk_at "v"
noncomputable abbrev ci:Stmt:=top 56
theorem jD:aA rk iU (ac ci):=by walk_at "w"
theorem qe:ah rk (ac ci) 0 "_law_script":=by walk_at "v"
theorem qf:ah rk (ac ci) 1 "_law_at":=by walk_at "v"
theorem qg:ah rk (ac ci) 2 "_law_cards":=by walk_at "v"
theorem qh:ah rk (ac ci) 3 "_law_hands":=by walk_at "v"
theorem qj:ah rk (ac ci) 4 "_law_pool_here":=by walk_at "v"
theorem yC:ah rk (ac ci) 5 "_law_k":=by walk_at "v"
theorem qk:ah rk (ac ci) 6 "_law_cell_here":=by walk_at "v"
noncomputable abbrev bn:Stmt:=top 57
theorem bE:aA kU AJ (ac bn):=by walk_at "w"
theorem jE:ah kU (ac bn) 0 "_law_script":=by walk_at "v"
theorem jF:ah kU (ac bn) 1 "_law_at":=by walk_at "v"
theorem wa:ah kU (ac bn) 2 "_law_cards":=by walk_at "v"
theorem cb:ah kU (ac bn) 3 "_law_hands":=by walk_at "v"
theorem wb:ah kU (ac bn) 4 "_law_most":=by walk_at "v"
theorem eS:ah kU (ac bn) 5 "_law_pool_here":=by walk_at "v"
theorem wc:ah kU (ac bn) 6 "_law_k":=by walk_at "v"
theorem bH:ah kU (ac bn) 7 "_law_cell_here":=by walk_at "v"
theorem bR:ah kU (ac bn) 8 "_law_one":=by walk_at "v"
theorem cI:ah kU (ac bn) 9 "_law_other":=by walk_at "v"
theorem cW:ah kU (ac bn) 10 "_law_some":=by walk_at "v"
noncomputable abbrev cj:Stmt:=top 58
theorem mI:aA rl iU (ac cj):=by walk_at "w"
theorem kX:ah rl (ac cj) 0 "_law_script":=by walk_at "v"
theorem kY:ah rl (ac cj) 1 "_law_at":=by walk_at "v"
theorem ql:ah rl (ac cj) 2 "_law_cards":=by walk_at "v"
theorem iL:ah rl (ac cj) 3 "_law_hands":=by walk_at "v"
theorem iM:ah rl (ac cj) 4 "_law_cell_here":=by walk_at "v"
theorem yD:ah rl (ac cj) 5 "_law_some":=by walk_at "v"
noncomputable abbrev gh:Stmt:=top 60
theorem AY:aA m7 m7 (ac gh):=by walk_at "w"
theorem qm:ah m7 (ac gh) 0 "_law_table":=by walk_at "v"
theorem eJ:ah m7 (ac gh) 1 "_law_deed_here":=by walk_at "v"
noncomputable abbrev bN:Stmt:=top 61
theorem dE:aA pP iU (ac bN):=by walk_at "w"
theorem jV:ah pP (ac bN) 0 "_law_script":=by walk_at "v"
theorem jW:ah pP (ac bN) 1 "_law_at":=by walk_at "v"
theorem oA:ah pP (ac bN) 2 "_law_cards":=by walk_at "v"
theorem oB:ah pP (ac bN) 3 "_law_hands":=by walk_at "v"
theorem fD:ah pP (ac bN) 4 "_law_cell_here":=by walk_at "v"
theorem fE:ah pP (ac bN) 5 "_law_told":=by walk_at "v"
theorem w6:ah pP (ac bN) 6 "_law_k":=by walk_at "v"
theorem jX:ah pP (ac bN) 7 "_law_other":=by walk_at "v"
noncomputable abbrev bI:Stmt:=top 62
theorem d7:aA mr vz (ac bI):=by walk_at "w"
theorem iN:ah mr (ac bI) 0 "_law_table":=by walk_at "v"
theorem yE:ah mr (ac bI) 1 "_law_whole":=by walk_at "v"
theorem qo:ah mr (ac bI) 2 "_law_group_here":=by walk_at "v"
theorem iO:ah mr (ac bI) 3 "_law_word":=by walk_at "v"
theorem qp:ah mr (ac bI) 4 "_law_facts":=by walk_at "v"
theorem yF:ah mr (ac bI) 5 "_law_yes":=by walk_at "v"
theorem yG:ah mr (ac bI) 6 "_law_no":=by walk_at "v"
theorem qq:ah mr (ac bI) 7 "_law_fact":=by walk_at "v"
theorem yH:ah mr (ac bI) 8 "_law_one":=by walk_at "v"
theorem yI:ah mr (ac bI) 9 "_law_other":=by walk_at "v"
noncomputable abbrev fF:Stmt:=top 63
theorem yJ:aA m8 m8 (ac fF):=by walk_at "w"
theorem w9:ah m8 (ac fF) 1 "_law_hands":=by walk_at "v"
noncomputable abbrev cp:Stmt:=top 64
theorem h8:aA se vB (ac cp):=by walk_at "w"
theorem ny:ah se (ac cp) 0 "_law_table":=by walk_at "v"
theorem jG:ah se (ac cp) 1 "_law_deeds":=by walk_at "v"
theorem nA:ah se (ac cp) 2 "_law_turn":=by walk_at "v"
theorem nB:ah se (ac cp) 3 "_law_other":=by walk_at "v"
theorem nC:ah se (ac cp) 4 "_law_deed_here":=by walk_at "v"
noncomputable abbrev dh:Stmt:=top 65
theorem dF:aA gk sr (ac dh):=by walk_at "w"
theorem fG:ah gk (ac dh) 0 "_law_script":=by walk_at "v"
theorem ja:ah gk (ac dh) 1 "_law_cards":=by walk_at "v"
theorem xa:ah gk (ac dh) 2 "_law_sizes":=by walk_at "v"
theorem fH:ah gk (ac dh) 3 "_law_hands":=by walk_at "v"
theorem xc:ah gk (ac dh) 4 "_law_whole":=by walk_at "v"
theorem lI:ah gk (ac dh) 5 "_law_table":=by walk_at "v"
theorem Jz:ah gk (ac dh) 6 "_law_k":=by walk_at "v"
theorem Cl:ah gk (ac dh) 7 "_law_word":=by walk_at "v"
theorem su:ah gk (ac dh) 8 "_law_hand":=by walk_at "v"
theorem JA:ah gk (ac dh) 9 "_law_known":=by walk_at "v"
theorem AZ:ah gk (ac dh) 10 "_law_beside":=by walk_at "v"
theorem HE:ah gk (ac dh) 11 "_law_later":=by walk_at "v"
theorem HF:ah gk (ac dh) 12 "_law_some":=by walk_at "v"
theorem A0:ah gk (ac dh) 13 "_law_deeds":=by walk_at "v"
theorem HG:ah gk (ac dh) 14 "_law_other":=by walk_at "v"
noncomputable abbrev dt:Stmt:=iZ (top 45) 0
theorem yK:aA g0 g0 (ac dt):=by walk_at "w"
theorem cX:ah g0 (ac dt) 0 "self":=by walk_at "v"
theorem oC:ah g0 (ac dt) 1 "cards":=by walk_at "v"
theorem jY:ah g0 (ac dt) 2 "sizes":=by walk_at "v"
noncomputable abbrev fY:Stmt:=iZ (top 45) 1
theorem xf:aA iH iH (ac fY):=by walk_at "w"
theorem we:ah iH (ac fY) 0 "self":=by walk_at "v"
noncomputable abbrev fI:Stmt:=iZ (top 45) 2
theorem yL:aA np np (ac fI):=by walk_at "w"
theorem oE:ah np (ac fI) 0 "self":=by walk_at "v"
theorem oF:ah np (ac fI) 1 "hand":=by walk_at "v"
noncomputable abbrev d8:Stmt:=iZ (top 45) 3
theorem yM:aA lA lA (ac d8):=by walk_at "w"
theorem jZ:ah lA (ac d8) 0 "self":=by walk_at "v"
theorem oG:ah lA (ac d8) 1 "hands":=by walk_at "v"
theorem xg:ah lA (ac d8) 2 "S":=by walk_at "v"
noncomputable abbrev cJ:Stmt:=iZ (top 45) 4
theorem qr:aA sf vF (ac cJ):=by walk_at "w"
theorem fJ:ah sf (ac cJ) 0 "self":=by walk_at "v"
theorem oH:ah sf (ac cJ) 1 "hand":=by walk_at "v"
theorem xh:ah sf (ac cJ) 2 "holder":=by walk_at "v"
theorem oI:ah sf (ac cJ) 3 "some":=by walk_at "v"
noncomputable abbrev dP:Stmt:=iZ (top 45) 5
theorem wf:aA nr nr (ac dP):=by walk_at "w"
theorem fQ:ah nr (ac dP) 0 "self":=by walk_at "v"
theorem mJ:ah nr (ac dP) 1 "S":=by walk_at "v"
noncomputable abbrev eK:Stmt:=iZ (top 45) 7
theorem oJ:aA ["self","other"] iH (ac eK):=by walk_at "w"
theorem gu:ah ["self","other"] (ac eK) 0 "self":=by walk_at "v"
theorem jH:ah ["self","other"] (ac eK) 1 "other":=by walk_at "v"
noncomputable abbrev cN:Stmt:=iZ (top 45) 8
theorem oK:aA vM vG (ac cN):=by walk_at "w"
theorem jI:ah vM (ac cN) 0 "self":=by walk_at "v"
theorem nD:ah vM (ac cN) 1 "hands":=by walk_at "v"
theorem jJ:ah vM (ac cN) 2 "values":=by walk_at "v"
theorem nE:ah vM (ac cN) 3 "hand":=by walk_at "v"
section
variable {P:Program} {w:World} {K:Fg} {mg:Str->Option Value} {base:Heap} {f:Addr} {fd:LX}
theorem BF (D:Def K mg "is_whole" jx pV f fd) (B:Blt mg):Ds P w K mg base 1:=by
 refine D.ok BA (by walk_at "l") fun _ _ _ _ _ _ _ _ hr h=>?_
 exact ⟨uO K,(aj (aw (nQ (aJ fN rfl B.isinstance N0 (ad (pvA rn) (ad (gK (v:=.ty "int") rfl B.int boot_int rfl) ae))) (lK (Ep (aJ fN rfl B.isinstance N0 (ad (pvA rn) (ad (gK (v:=.ty "bool") rfl B.bool boot_bool rfl) ae)))))))),Bk h⟩
theorem A1 (D:Def K mg "is_within" eZ lz f fd) (B:Blt mg) (U34:Ds P w K mg base 1):AK P w K mg base 2:=by
 refine D.ok AM (by walk_at "l") fun _ _ _ _ _ _ _ _ hr h=>?_
 exact ⟨sT K,(aj (aw (nQ (ai U34 (rmD hr) (ad (pvA p7) ae)) (lK (F0 yZ yZ (pvA yq) (pvA p7) (pvA yr)))))),zX h⟩
theorem BG (D:Def K mg "is_below" hJ m9 f fd) (B:Blt mg) (U24:AK P w K mg base 2):wS P w K mg base 3:=by
 refine D.ok BB (by walk_at "l") fun _ _ _ _ _ _ _ _ hr h=>?_
 exact ⟨lv K,(aj (aw (ai U24 (rmD hr) (ad (pvA AN) (ao ak (aD (aq ij (pvA AO) ak) ae)))))),Bs h⟩
theorem A2 (D:Def K mg "are_hands" dM vQ f fd) (B:Blt mg) (U24:AK P w K mg base 2):Dt P w K mg base 3:=by
 refine D.ok jy (by walk_at "l") fun _ _ _ _ _ _ _ _ hr h=>?_
 exact ⟨kb K,(ag (bp (cF (bU (aJ fN rfl B.isinstance N0 (ad (pvA p8) (ad (gK (v:=.ty "tuple") rfl B.tuple Qv rfl) ae))))) (aj (aw d9)) aQ)
  (ag (ax (i:=2) jy.nd rfl (LL rfl) ak)
  (ag (bL Md rfl (ux (pvA p8)) (ay (i:=3) jy.nd rfl (LL rfl)) (ag (bp (cF (bU (ai U24 (rmD hr) (ad (pvA p9) (ad (pvA yu) (aD (aq ij (pvA yt) ak) ae)))))) (aj (aw d9)) aQ)
  (aj (ax (i:=2) jy.nd rfl (LL rfl) (aq be (pvA p9) ak)))))
  (aj (aw d9))))),Af h⟩
theorem Ei (D:Def K mg "is_pack" gG dJ f fd) (B:Blt mg) {t_MOST_CARDS:Tok} (m_MOST_CARDS:mg "MOST_CARDS"=some (.int 12 t_MOST_CARDS)) {t_MOST_HANDS:Tok} (m_MOST_HANDS:mg "MOST_HANDS"=some (.int 5 t_MOST_HANDS)) (U24:AK P w K mg base 2):Hk P w K mg base 3:=by
 refine D.ok D0 (by walk_at "l") fun _ _ _ _ _ _ _ _ hr h=>?_
 exact ⟨xI K,(ag (bp (cF (bU (ai U24 (rmD hr) (ad (pvA sY) (ao ak (ad (jM (v:=(.int 12)) rfl m_MOST_CARDS ⟨_,rfl⟩) ae)))))) (aj (aw d9)) aQ)
  (ag (bp (PW.pt (oN (cF (bU (aJ fN rfl B.isinstance N0 (ad (pvA ko) (ad (gK (v:=.ty "list") rfl B.list OM rfl) ae))))) (lJ (cF (bU (ai U24 (rmD hr) (aV (aJ bo rfl B.len N4 (ad (pvA ko) ae)) (ao ak (ad (jM (v:=(.int 5)) rfl m_MOST_HANDS ⟨_,rfl⟩) ae))))))))) (aj (aw d9)) aQ)
  (aj (aw (nQ (aJ (mO rfl) rfl B.all Uk (cf (bP (sc:=(ac gG)) (NX:=dJ) (N:=["size","cards"]) (ix:=[none,some 0]) rfl (by walk_at "c") (cc (pvA ko)) (by intros; exact (ay (i:=0) (show (["size","cards"]:List Str).Nodup by decide +kernel) rfl (LL rfl))) (by intros; exact bT) (by intros; exact (ai U24 (rmD hr) (ad (pv 0) (ao ak (ad (pv 1) ae)))))) ae)) (lK (jN yZ (aJ (kt rfl) rfl B.sum SG (ad (pvA ko) ae)) (pvA sY) (aW _)))))))),CP h⟩
theorem BH (D:Def K mg "how_many" dL dJ f fd) (B:Blt mg) (U42:Hl P w K mg base 1) (U40:Hk P w K mg base 3):Hn P w K mg base 4:=by
 refine D.ok gc (by walk_at "l") fun _ _ _ _ _ _ _ _ hr h=>?_
 exact ⟨uQ K,(ag (bp (cF (bU (ai U40 (rmD hr) (ad (pvA rq) (ad (pvA rA) ae))))) (aj oO) aQ)
  (ag (ax (i:=2) gc.nd rfl (LL rfl) ak)
  (ag (ax (i:=3) gc.nd rfl (LL rfl) (pvA rq))
  (ag (bL Md rfl (cc (pvA rA)) (ay (i:=4) gc.nd rfl (LL rfl)) (ag (ax (i:=2) gc.nd rfl (LL rfl) (aq fq (pvA rB) (ai U42 (rmD hr) (ad (pvA rC) (ad (pvA rD) ae)))))
  (aj (ax (i:=3) gc.nd rfl (LL rfl) (aq ij (pvA rC) (pvA rD))))))
  (aj (aw (pvA rB))))))),Bl h⟩
theorem Ej (D:Def K mg "choices" fK vS f fd) (B:Blt mg):Hl P w K mg base 1:=by
 refine D.ok lC (by walk_at "l") fun _ _ _ _ _ _ _ _ hr h=>?_
 exact ⟨xJ K,(ag (ax (i:=2) lC.nd rfl (LL rfl) ak)
  (ag (bL Md rfl (b7 rfl B.range (ad (pvA BD) ae)) (ay (i:=3) lC.nd rfl (LL rfl)) (aj (ax (i:=2) lC.nd rfl (LL rfl) (aq bS (aq fq (pvA sZ) (aq ij (pvA BC) (pvA tj))) (aq be (pvA tj) ak)))))
  (aj (aw (pvA sZ))))),CQ h⟩
theorem BI (D:Def K mg "deals_of" eP dJ f fd) (B:Blt mg) {t_MOST_DEALS:Tok} (m_MOST_DEALS:mg "MOST_DEALS"=some (.int 2000 t_MOST_DEALS)) (U35:Hn P w K mg base 4) (U1:Ho P w K mg base 1):Du P w K mg base 5:=by
 refine D.ok iu (by walk_at "l") fun _ _ _ _ _ _ _ _ hr h=>?_
 exact ⟨uR K,(ag (bp (aX mL (ai U35 (rmD hr) (ad (pvA mz) (ad (pvA mB) ae))) (jM (v:=(.int 2000)) rfl m_MOST_DEALS ⟨_,rfl⟩) (aW _)) (aj oO) aQ)
  (ag (ax (i:=2) iu.nd rfl (LL rfl) (aq EG (pvA mB) (zt (aD (aq ij (pvA mz) (aJ (kt rfl) rfl B.sum SG (ad (pvA mB) ae))) ae))))
  (ag (ax (i:=3) iu.nd rfl (LL rfl) (zt (aM (EB ae) ae)))
  (ag (bL Md rfl (b7 rfl B.range (ad (pvA mz) ae)) (ay (i:=4) iu.nd rfl (LL rfl)) (aj (ax (i:=3) iu.nd rfl (LL rfl) (ai U1 (rmD hr) (ad (pvA rE) (ad (pvA AQ) ae))))))
  (aj (aw (pvA rE))))))),Bm h⟩
theorem uv (D:Def K mg "with_one_more" bF vT f fd) (B:Blt mg):Ho P w K mg base 1:=by
 refine D.ok dX (by walk_at "l") fun _ _ _ _ _ _ _ _ hr h=>?_
 exact ⟨mT K,(ag (ax (i:=2) dX.nd rfl (LL rfl) (zt ae))
  (ag (bL Md rfl (cc (pvA sF)) (ay (i:=3) dX.nd rfl (LL rfl)) (aj (bL Md rfl (rQ aB rfl B.enumerate (by decide) (ad (pvA sG) ae)) (fj rfl (bd (ay (i:=4) dX.nd rfl (LL rfl)) (bd (ay (i:=5) dX.nd rfl (LL rfl)) dN))) (aj (bp (aX HM (KR PySem.F.plainAttrs_tuple Rx PySem.F.type_tuple_count ER (pvA k9) (ad (pvA lf) ae)) (pvA sH) (aW _)) (aj (cr (mN Nd NS NT gy (pvA kZ) (aD (aq Iz (pvA k9) (EB (ad (pvA lf) ae))) ae)))) aQ)))))
  (aj (aw (pvA kZ))))),tP h⟩
theorem BJ (D:Def K mg "cards_of" hU ni f fd) (B:Blt mg):Dv P w K mg base 1:=by
 refine D.ok BE (by walk_at "l") fun _ _ _ _ _ _ _ _ hr h=>?_
 exact ⟨uS K,(aj (aw (b8 pZ rfl B.tuple Qv (cf (bP (sc:=(ac hU)) (NX:=ni) (N:=Dr) (ix:=[none,none,some 1]) rfl (by walk_at "c") (rQ iP rfl B.enumerate (by decide) (ad (pvA AR) ae)) (by intros; exact (fj rfl (bd (ay (i:=0) (show (Dr:List Str).Nodup by decide +kernel) rfl (LL rfl)) (bd (ay (i:=1) (show (Dr:List Str).Nodup by decide +kernel) rfl (LL rfl)) dN)))) (by intros; exact (rO (aX da (pv 1) (pv 2) (aW _)))) (by intros; exact (pv 0))) ae)))),Bn h⟩
theorem A3 (D:Def K mg "is_saying" cD kn f fd) (B:Blt mg) {t_MOST_WORDS:Tok} (m_MOST_WORDS:mg "MOST_WORDS"=some (.int 30 t_MOST_WORDS)) (U34:Ds P w K mg base 1) (U41:Dw P w K mg base 5) (U6:Dy P w K mg base 2):Dz P w K mg base 6:=by
 refine D.ok gH (by walk_at "l") fun _ _ _ _ _ _ _ _ hr h=>?_
 exact ⟨kd K,(ag (bp (PW.pt (oN (cF (bU (ai U34 (rmD hr) (ad (pvA yv) ae)))) (lJ (cF (bU (ai U34 (rmD hr) (ad (pvA yw) ae))))))) (aj (aw d9)) aQ)
  (ag (ax (i:=3) gH.nd rfl (LL rfl) ak)
  (ag (ax (i:=4) gH.nd rfl (LL rfl) (cQ (ad (pvA yx) ae)))
  (ag (tE Md (aX mL (aJ bo rfl B.len N4 (ad (pvA iI) ae)) ak (aW _)) (ag (ax (i:=3) gH.nd rfl (LL rfl) (aq be (pvA qa) (aJ bo rfl B.len N4 (ad (pvA iI) ae))))
  (ag (bp (PW.pt (oN (aX mL (pvA qa) (jM (v:=(.int 30)) rfl m_MOST_WORDS ⟨_,rfl⟩) (aW _)) (lJ (cF (bU (aJ (mO rfl) rfl B.all Uk (cf (bP (sc:=(ac cD)) (NX:=pR) (N:=["one","cards","hands"]) (ix:=[none,some 0,some 1]) rfl (by walk_at "c") (cc (pvA iI)) (by intros; exact (ay (i:=0) (show (["one","cards","hands"]:List Str).Nodup by decide +kernel) rfl (LL rfl))) (by intros; exact bT) (by intros; exact (ai U41 (rmD hr) (ad (pv 1) (ad (pv 2) (ad (pv 0) ae)))))) ae))))))) (aj (aw d9)) aQ)
  (aj (ax (i:=4) gH.nd rfl (LL rfl) (ai U6 (rmD hr) (ad (pvA iI) ae)))))))
  (aj (aw d9)))))),Ah h⟩
theorem Ek (D:Def K mg "is_word" gI kn f fd) (B:Blt mg) {G:GF} (T:dw P w K mg G) (U50:DC P w K mg base 4):Dw P w K mg base 5:=by
 refine D.ok v3 (by walk_at "l") fun _ _ _ _ _ _ _ _ hr h=>?_
 have m_FORMS:=T.tb.mf
 have d_FORMS:=T.tb.df
 exact ⟨mV K G.toGlo,(ag (bp (PW.pt (oN (cF (bU (aJ fN rfl B.isinstance N0 (ad (pvA fb) (ad (gK (v:=.ty "tuple") rfl B.tuple Qv rfl) ae))))) (lJ (aX da (aJ bo rfl B.len N4 (ad (pvA fb) ae)) ak (aW _))))) (aj (aw d9)) aQ)
  (ag (bp (PW.pt (oN (cF (bU (aJ fN rfl B.isinstance N0 (aN (bc bM (pvA fb) ak (fun _ _=>rfl)) (ad (gK (v:=.ty "str") rfl B.str boot_str rfl) ae))))) (lJ (aX (Ak d_FORMS) (bc bM (pvA fb) ak (fun _ _=>rfl)) (jM (v:=(.ref G.forms)) rfl m_FORMS rfl) rfl)))) (aj (aw d9)) aQ)
  (ag (ax (i:=3) v3.nd rfl (LL rfl) (Fp d_FORMS (jM (v:=(.ref G.forms)) rfl m_FORMS rfl) (bc bM (pvA fb) ak (fun _ _=>rfl)) (fun _ _=>rfl)))
  (ag (bp (aX HL (aJ bo rfl B.len N4 (ad (pvA fb) ae)) (aq be ak (aJ bo rfl B.len N4 (ad (pvA tm) ae))) (aW _)) (aj (aw d9)) aQ)
  (aj (aw (aJ (mO rfl) rfl B.all Uk (cf (bP (sc:=(ac gI)) (NX:=ze) (N:=Do) (ix:=[none,none,some 0,some 1]) rfl (by walk_at "c") (lP iP iP rfl B.zip (ad (pvA tm) (aN (lM Aj (pvA fb) (nW ak) nV) ae))) (by intros; exact (fj rfl (bd (ay (i:=0) (show (Do:List Str).Nodup by decide +kernel) rfl (LL rfl)) (bd (ay (i:=1) (show (Do:List Str).Nodup by decide +kernel) rfl (LL rfl)) dN)))) (by intros; exact bT) (by intros; exact (ai U50 (rmD hr) (ad (pv 2) (ad (pv 3) (ad (pv 0) (ad (pv 1) ae))))))) ae)))))))),C2 T.tb.ok h⟩
theorem JB (D:Def K mg "fits" kI km f fd) (B:Blt mg) (U33:Dt P w K mg base 3) (U38:wS P w K mg base 3):DC P w K mg base 4:=by
 refine D.ok Jw (by walk_at "l") fun _ _ _ _ _ _ _ _ hr h=>?_
 exact ⟨vh K,(ag (bp (aX da (pvA pW) aL (aW _)) (aj (aw (ai U38 (rmD hr) (ad (pvA pX) (aD (aq be (pvA uj) ak) ae))))) aQ)
  (ag (bp (aX da (pvA pW) aL (aW _)) (aj (aw (ai U38 (rmD hr) (ad (pvA pX) (ad (pvA Ht) ae))))) aQ)
  (ag (bp (aX da (pvA pW) aL (aW _)) (aj (aw (ai U38 (rmD hr) (ad (pvA pX) (ad (pvA uj) ae))))) aQ)
  (ag (bp (aX da (pvA pW) aL (aW _)) (aj (aw (ai U33 (rmD hr) (ad (pvA pX) (ad (pvA uj) ae))))) aQ)
  (aj (aw d9)))))),IV h⟩
theorem BK (D:Def K mg "parts_of" fP vX f fd) (B:Blt mg) {G:GF} (T:dw P w K mg G):DD P w K mg base 1:=by
 refine D.ok tw (by walk_at "l") fun _ _ _ _ _ _ _ _ hr h=>?_
 have m_FORMS:=T.tb.mf
 have d_FORMS:=T.tb.df
 exact ⟨lw K G.toGlo,(ag (ax (i:=1) tw.nd rfl (LL rfl) (Fp d_FORMS (jM (v:=(.ref G.forms)) rfl m_FORMS rfl) (bc bM (pvA rF) ak (fun _ _=>rfl)) (fun _ _=>rfl)))
  (aj (aw (bP (sc:=(ac fP)) (NX:=zk) (N:=["place","part"]) (ix:=[none,none]) rfl (by walk_at "c") (lP iP iP rfl B.zip (ad (pvA AS) (aN (lM Aj (pvA rF) (nW ak) nV) ae))) (by intros; exact (fj rfl (bd (ay (i:=0) (show (["place","part"]:List Str).Nodup by decide +kernel) rfl (LL rfl)) (bd (ay (i:=1) (show (["place","part"]:List Str).Nodup by decide +kernel) rfl (LL rfl)) dN)))) (by intros; exact (rO (aX da (pv 0) aL (aW _)))) (by intros; exact (pv 1)))))),Bt T.tb.ok h⟩
theorem wg (D:Def K mg "parts_of_all" cU vW f fd) (B:Blt mg) (U36:DD P w K mg base 1):Dy P w K mg base 2:=by
 refine D.ok jz (by walk_at "l") fun _ _ _ _ _ _ _ _ hr h=>?_
 exact ⟨gT K,(ag (ax (i:=1) jz.nd rfl (LL rfl) (cQ ae))
  (ag (bL Md rfl (cc (pvA uk)) (ay (i:=2) jz.nd rfl (LL rfl)) (aj (cr (mN Nd PySem.F.slot_list_extend PySem.F.type_list_extend EF (pvA mC) (aV (ai U36 (rmD hr) (ad (pvA ul) ae)) ae)))))
  (aj (aw (pvA mC))))),vi h⟩
theorem yN (D:Def K mg "first_view" fA nh f fd) (B:Blt mg) (U39:Dv P w K mg base 1) (U0:zl P w K mg base 1):DE P w K mg base 2:=by
 refine D.ok yy (by walk_at "l") fun _ _ _ _ _ _ _ _ hr h=>?_
 exact ⟨jg K,(aj (aw (ai U0 (rmD hr) (cf (bP (sc:=(ac fA)) (NX:=nh) (N:=["deal","hand"]) (ix:=[none,some 1]) rfl (by walk_at "c") (cc (pvA wT)) (by intros; exact (ay (i:=0) (show (["deal","hand"]:List Str).Nodup by decide +kernel) rfl (LL rfl))) (by intros; exact bT) (by intros; exact (ai U39 (rmD hr) (ad (pv 0) (ad (pv 1) ae))))) ae)))),ya h⟩
theorem HH (D:Def K mg "split" lH nj f fd) (B:Blt mg) (U0:zl P w K mg base 1):DF P w K mg base 2:=by
 refine D.ok Hu (by walk_at "l") fun _ _ _ _ _ _ _ _ hr h=>?_
 exact ⟨r6 K,(aj (aw (ai U0 (rmD hr) (aV (Ju aB aB rfl rfl B.list rfl B.zip (ad (pvA FK) (ad (pvA FL) ae))) ae)))),GI h⟩
theorem rJ (D:Def K mg "least_with_same" bD ["marks"] f fd) (B:Blt mg):zl P w K mg base 1:=by
 refine D.ok eQ (by walk_at "l") fun _ _ _ _ _ _ _ _ hr h=>?_
 have hux:=hr.units64
 exact ⟨fh K,(ag (ax (i:=1) eQ.nd rfl (Pp rfl) GX)
  (ag (bL Md rfl (rQ aB rfl B.enumerate (by decide) (ad (pvA jK) ae)) (fj rfl (bd (ay (i:=2) eQ.nd rfl (LL rfl)) (bd (ay (i:=3) eQ.nd rfl (LL rfl)) dN))) (aj (cr (Lf QF PySem.F.type_dict_setdefault (wN hux) (pvA qu) (ad (pvA qx) (ad (pvA qw) ae))))))
  (aj (aw (bP (sc:=(ac bD)) (NX:=sj) (N:=["mark","firsts"]) (ix:=[none,some 1]) rfl (by walk_at "c") (cc (pvA jK)) (by intros; exact (ay (i:=0) (show (["mark","firsts"]:List Str).Nodup by decide +kernel) rfl (LL rfl))) (by intros; exact bT) (by intros; exact (Jj hux (pv 1) (pv 0) (fun _ _=>rfl)))))))),qR h⟩
theorem FR (D:Def K mg "joined" dY vU f fd) (B:Blt mg) (U45:zm P w K mg base 1) (U48:DG P w K mg base 2):DH P w K mg base 3:=by
 refine D.ok kJ (by walk_at "l") fun _ _ _ _ _ _ _ _ hr h=>?_
 exact ⟨pG K,(ag (ax (i:=2) kJ.nd rfl (Pp rfl) (b8 (FF rfl) rfl B.list OM (aV (b8 xW rfl B.range Up (ad (pvA v4) ae)) ae)))
  (ag (bL Md rfl (cc (pvA Ea)) (ay (i:=3) kJ.nd rfl (LL rfl)) (aj (bL Md rfl (rQ aB rfl B.enumerate (by decide) (ad (pvA Ec) ae)) (fj rfl (bd (ay (i:=4) kJ.nd rfl (LL rfl)) (bd (ay (i:=5) kJ.nd rfl (LL rfl)) dN))) (aj (cr (ai U48 (rmD hr) (ad (pvA Eb) (ad (pvA Ed) (ad (pvA Ee) ae)))))))))
  (aj (aw (bP (sc:=(ac dY)) (NX:=m5) (N:=["thing","points"]) (ix:=[none,some 2]) rfl (by walk_at "c") (b7 rfl B.range (ad (pvA v4) ae)) (by intros; exact (ay (i:=0) (show (["thing","points"]:List Str).Nodup by decide +kernel) rfl (LL rfl))) (by intros; exact bT) (by intros; exact (ai U45 (rmD hr) (ad (pv 1) (ad (pv 0) ae))))))))),Ff h⟩
theorem JC (D:Def K mg "link" jA vJ f fd) (B:Blt mg) (U45:zm P w K mg base 1):DG P w K mg base 2:=by
 refine D.ok wU (by walk_at "l") fun _ _ _ _ _ _ _ _ hr h=>?_
 exact ⟨uX K,(ag (ax (i:=3) wU.nd rfl (LL rfl) (ai U45 (rmD hr) (ad (pvA um) (ad (pvA Hv) ae))))
  (ag (ax (i:=4) wU.nd rfl (LL rfl) (ai U45 (rmD hr) (ad (pvA um) (ad (pvA Hx) ae))))
  (aj (nR (aJ (xo rfl) rfl B.min boot_min (ad (pvA AU) (ad (pvA AV) ae))) (qB (pvA um) (aJ (Ew rfl) rfl B.max Ul (ad (pvA AU) (ad (pvA AV) ae))) lN))))),IN h⟩
theorem FS (D:Def K mg "end_of" iV vP f fd) (B:Blt mg):zm P w K mg base 1:=by
 refine D.ok rG (by walk_at "l") fun _ _ _ _ _ _ _ _ hr h=>?_
 exact ⟨pF K,(ag (ax (i:=2) rG.nd rfl (LL rfl) (pvA Ef))
  (ag (tE Md (aX HL (bc bO (pvA jB) (pvA hZ) (fun _ _=>rfl)) (pvA hZ) (aW _)) (ag (nR (bc bO (pvA jB) (bc bO (pvA jB) (pvA hZ) (fun _ _=>rfl)) (fun _ _=>rfl)) (qB (pvA jB) (pvA hZ) lN))
  (aj (ax (i:=2) rG.nd rfl (LL rfl) (bc bO (pvA jB) (pvA hZ) (fun _ _=>rfl))))))
  (aj (aw (pvA hZ))))),Fe h⟩
theorem rK (D:Def K mg "truths_of" bG sk f fd) (B:Blt mg) (U51:zn P w K mg base 1) (U39:Dv P w K mg base 1) (U43:DI P w K mg base 1) (U44:DH P w K mg base 3) (U46:vY P w K mg base 1) (U3:DJ P w K mg base 2) (U49:DK P w K mg base 2):∀ n,FnB P w K mg base (4 + n) "truths_of" sk (bW K n)
 | 0=>D.ok (k:=3) gJ (fun vs H Q E h=>(qX h).elim) (fun cdv A outer s H vs Q E hr h=>(qX h).elim)
 | n + 1=>by
  have U32:=rK D B U51 U39 U43 U44 U46 U3 U49 n
  refine D.ok (k:=4 + n) gJ (by walk_at "l") fun _ _ _ _ _ _ _ _ hr h=>?_
  exact ⟨ka K n,(ag (ax (i:=3) gJ.nd rfl (LL rfl) (bc bM (pvA bX) ak (fun _ _=>rfl)))
  (ag (bp (aX da (pvA dD) aL (aW _)) (aj (aw (bP (sc:=(ac bG)) (NX:=mw) (N:=["deal","S"]) (ix:=[none,some 2]) rfl (by walk_at "c") (cc (pvA cn)) (by intros; exact (ay (i:=0) (show (["deal","S"]:List Str).Nodup by decide +kernel) rfl (LL rfl))) (by intros; exact bT) (by intros; exact (jN da (bc bM (pv 0) (bc bM (pv 1) ak (fun _ _=>rfl)) (fun _ _=>rfl)) (bc bM (pv 1) ak (fun _ _=>rfl)) (aW _)))))) aQ)
  (ag (bp (aX da (pvA dD) aL (aW _)) (aj (aw (ai U49 (hr.mono (by omega)) (cf (bP (sc:=(ac bG)) (NX:=mw) (N:=["deal","views"]) (ix:=[none,some 1]) rfl (by walk_at "c") (cc (pvA cn)) (by intros; exact (ay (i:=0) (show (["deal","views"]:List Str).Nodup by decide +kernel) rfl (LL rfl))) (by intros; exact bT) (by intros; exact (ai U39 (hr.mono (by omega)) (ad (pv 0) (aV (aJ bo rfl B.len N4 (ad (pv 1) ae)) ae))))) (aN (bc bO (pvA cM) (bc bM (pvA bX) ak (fun _ _=>rfl)) (fun _ _=>rfl)) ae))))) aQ)
  (ag (bp (aX da (pvA dD) aL (aW _)) (aj (aw (bP (sc:=(ac bG)) (NX:=mw) (N:=["truth"]) (ix:=[none]) rfl (by walk_at "c") (cc (ai U32 (hr.mono (by omega)) (ad (pvA cn) (ad (pvA cM) (aN (bc bM (pvA bX) ak (fun _ _=>rfl)) ae))))) (by intros; exact (ay (i:=0) (show (["truth"]:List Str).Nodup by decide +kernel) rfl (LL rfl))) (by intros; exact bT) (by intros; exact (Ep (pv 0)))))) aQ)
  (ag (bp (aX da (pvA dD) aL (aW _)) (aj (aw (ai U51 (hr.mono (by omega)) (aV (ai U32 (hr.mono (by omega)) (ad (pvA cn) (ad (pvA cM) (aN (bc bM (pvA bX) ak (fun _ _=>rfl)) ae)))) (aV (ai U32 (hr.mono (by omega)) (ad (pvA cn) (ad (pvA cM) (aN (bc bM (pvA bX) ak (fun _ _=>rfl)) ae)))) ae))))) aQ)
  (ag (bp (aX da (pvA dD) aL (aW _)) (aj (aw (ai U43 (hr.mono (by omega)) (aV (ai U32 (hr.mono (by omega)) (ad (pvA cn) (ad (pvA cM) (aN (bc bM (pvA bX) ak (fun _ _=>rfl)) ae)))) (aV (ai U32 (hr.mono (by omega)) (ad (pvA cn) (ad (pvA cM) (aN (bc bM (pvA bX) ak (fun _ _=>rfl)) ae)))) ae))))) aQ)
  (ag (ax (i:=4) gJ.nd rfl (LL rfl) (ai U32 (hr.mono (by omega)) (ad (pvA cn) (ad (pvA cM) (aN (bc bM (pvA bX) ak (fun _ _=>rfl)) ae)))))
  (ag (bp (aX da (pvA dD) aL (aW _)) (aj (aw (ai U46 (hr.mono (by omega)) (aN (bc bO (pvA cM) (bc bM (pvA bX) ak (fun _ _=>rfl)) (fun _ _=>rfl)) (ad (pvA kW) ae))))) aQ)
  (ag (oW (i:=5) gJ.nd rfl rfl (sc:=(ac bG)) (NX:=mw) (N:=["hand","views"]) (ix:=[none,some 1]) rfl (by walk_at "c") (ux (bc bM (pvA bX) ak (fun _ _=>rfl))) (by intros; exact (ay (i:=0) (show (["hand","views"]:List Str).Nodup by decide +kernel) rfl (LL rfl))) (by intros; exact bT) (by intros; exact (bc bO (pv 1) (pv 0) (fun _ _=>rfl))))
  (ag (bp (aX da (pvA dD) aL (aW _)) (aj (aw (ai U3 (hr.mono (by omega)) (ad (pvA qb) (ad (pvA kW) ae))))) aQ)
  (aj (aw (ai U46 (hr.mono (by omega)) (aV (ai U44 (hr.mono (by omega)) (aV (aJ bo rfl B.len N4 (ad (pvA cn) ae)) (ad (pvA qb) ae))) (ad (pvA kW) ae))))))))))))))),Ac h⟩
theorem JD (D:Def K mg "both" mD eh f fd) (B:Blt mg):zn P w K mg base 1:=by
 refine D.ok Jx (by walk_at "l") fun _ _ _ _ _ _ _ _ hr h=>?_
 exact ⟨uZ K,(aj (aw (bP (sc:=(ac mD)) (NX:=eh) (N:=so) (ix:=[none,none]) rfl (by walk_at "c") (lP aB aB rfl B.zip (ad (pvA Hy) (ad (pvA Hz) ae))) (by intros; exact (fj rfl (bd (ay (i:=0) (show (so:List Str).Nodup by decide +kernel) rfl (LL rfl)) (bd (ay (i:=1) (show (so:List Str).Nodup by decide +kernel) rfl (LL rfl)) dN)))) (by intros; exact bT) (by intros; exact (nQ (pv 0) (lK (pv 1))))))),IQ h⟩
theorem FT (D:Def K mg "either" iW eh f fd) (B:Blt mg):DI P w K mg base 1:=by
 refine D.ok FM (by walk_at "l") fun _ _ _ _ _ _ _ _ hr h=>?_
 exact ⟨pI K,(aj (aw (bP (sc:=(ac iW)) (NX:=eh) (N:=so) (ix:=[none,none]) rfl (by walk_at "c") (lP aB aB rfl B.zip (ad (pvA Eg) (ad (pvA Eh) ae))) (by intros; exact (fj rfl (bd (ay (i:=0) (show (so:List Str).Nodup by decide +kernel) rfl (LL rfl)) (bd (ay (i:=1) (show (so:List Str).Nodup by decide +kernel) rfl (LL rfl)) dN)))) (by intros; exact bT) (by intros; exact (KO (pv 0) (lK (pv 1))))))),Fj h⟩
theorem HI (D:Def K mg "known" gd vO f fd) (B:Blt mg):vY P w K mg base 1:=by
 refine D.ok pY (by walk_at "l") fun _ _ _ _ _ _ _ _ hr h=>?_
 exact ⟨rZ K,(ag (ax (i:=2) pY.nd rfl (Pp rfl) (aq Fo (cQ (ao d9 ae)) (aJ bo rfl B.len N4 (ad (pvA rH) ae))))
  (ag (bL Md rfl (lP aB aB rfl B.zip (ad (pvA rH) (ad (pvA FN) ae))) (fj rfl (bd (ay (i:=3) pY.nd rfl (LL rfl)) (bd (ay (i:=4) pY.nd rfl (LL rfl)) dN))) (aj (bp (cF (bU (pvA FQ))) (aj (nR d9 (qB (pvA FO) (pvA FP) lN))) aQ)))
  (aj (aw (bP (sc:=(ac gd)) (NX:=pS) (N:=["least","sure"]) (ix:=[none,some 2]) rfl (by walk_at "c") (cc (pvA rH)) (by intros; exact (ay (i:=0) (show (["least","sure"]:List Str).Nodup by decide +kernel) rfl (LL rfl))) (by intros; exact bT) (by intros; exact (bc bO (pv 1) (pv 0) (fun _ _=>rfl)))))))),GG h⟩
theorem wj (D:Def K mg "known_to_all" cA vR f fd) (B:Blt mg) (U51:zn P w K mg base 1) (U46:vY P w K mg base 1):DJ P w K mg base 2:=by
 refine D.ok gq (by walk_at "l") fun _ _ _ _ _ _ _ _ hr h=>?_
 exact ⟨gS K,(ag (ax (i:=2) gq.nd rfl (LL rfl) (aq Fo (cQ (ao d9 ae)) (aJ bo rfl B.len N4 (ad (pvA mE) ae))))
  (ag (bL Md rfl (cc (pvA uo)) (ay (i:=3) gq.nd rfl (LL rfl)) (aj (ax (i:=2) gq.nd rfl (LL rfl) (ai U51 (rmD hr) (ad (pvA mF) (aV (ai U46 (rmD hr) (ad (pvA uq) (ad (pvA mE) ae))) ae))))))
  (aj (aw (pvA mF))))),vc h⟩
theorem JE (D:Def K mg "seen" mG lB f fd) (B:Blt mg) (U46:vY P w K mg base 1):DK P w K mg base 2:=by
 refine D.ok Jy (by walk_at "l") fun _ _ _ _ _ _ _ _ hr h=>?_
 have hu:=hr.units0
 exact ⟨vd K,(aj (aw (ai U46 (rmD hr) (ad (pvA AW) (cf (bP (sc:=(ac mG)) (NX:=lB) (N:=Dp) (ix:=[none,none,some 0]) rfl (by walk_at "c") (lP aB aB rfl B.zip (ad (pvA HD) (ad (pvA AW) ae))) (by intros; exact (fj rfl (bd (ay (i:=0) (show (Dp:List Str).Nodup by decide +kernel) rfl (LL rfl)) (bd (ay (i:=1) (show (Dp:List Str).Nodup by decide +kernel) rfl (LL rfl)) dN)))) (by intros; exact bT) (by intros; exact (jN (JU hu) (pv 0) (bc bO (pv 2) (pv 1) (fun _ _=>rfl)) (aW _)))) ae))))),IS h⟩
theorem uw (D:Def K mg "refuse_unless" eR pU f fd) (B:Blt mg):vZ P w K mg base 1:=by
 refine D.ok ur (by walk_at "l") fun _ _ _ _ _ _ _ _ hr h=>?_
 exact ⟨gn K,(aj (bp (cF (bU (pvA sI))) (aj oO) aQ)),tT h⟩
theorem A4 (D:Def K mg "are_cards" gf ng f fd) (B:Blt mg) (U38:wS P w K mg base 3):DL P w K mg base 4:=by
 refine D.ok AX (by walk_at "l") fun _ _ _ _ _ _ _ _ hr h=>?_
 exact ⟨kh K,(aj (aw (nQ (aJ fN rfl B.isinstance N0 (ad (pvA qc) (ad (gK (v:=.ty "list") rfl B.list OM rfl) ae))) (lK (aJ (mO rfl) rfl B.all Uk (cf (bP (sc:=(ac gf)) (NX:=ng) (N:=["card","cards"]) (ix:=[none,some 1]) rfl (by walk_at "c") (cc (pvA qc)) (by intros; exact (ay (i:=0) (show (["card","cards"]:List Str).Nodup by decide +kernel) rfl (LL rfl))) (by intros; exact bT) (by intros; exact (ai U38 (rmD hr) (ad (pv 0) (ad (pv 1) ae))))) ae)))))),Aq h⟩
theorem yO (D:Def K mg "least_held" dn pT f fd) (B:Blt mg):DM P w K mg base 1:=by
 refine D.ok qd (by walk_at "l") fun _ _ _ _ _ _ _ _ hr h=>?_
 exact ⟨jn K,(ag (bL Md rfl (cc (pvA wX)) (ay (i:=3) qd.nd rfl (LL rfl)) (aj (bp (aX da (bc bM (pvA wV) (pvA ou) (fun _ _=>rfl)) (pvA wW) (aW _)) (aj (aw (pvA ou))) aQ)))
  (aj (aw JK))),yd h⟩
theorem A5 (D:Def K mg "_law_cell" fc vA f fd) (B:Blt mg):nu P w K mg base 1:=by
 refine D.ok jC (by walk_at "l") fun _ _ _ _ _ _ _ _ hr h=>?_
 exact ⟨j8 K,(ag (bp (aX HM (pvA eI) (aJ bo rfl B.len N4 (ad (pvA fT) ae)) (aW _)) (aj (aw (bc bO (pvA fT) (pvA eI) (fun _ _=>rfl)))) aQ)
  (ag (ax (i:=2) jC.nd rfl (LL rfl) (aq be (aq fq (pvA eI) ak) ak))
  (ag (bp (aX mL (aJ bo rfl B.len N4 (ad (pvA fT) ae)) ak (aW _)) (aj (ax (i:=2) jC.nd rfl (LL rfl) (aq be (aq fq (bc bO (pvA fT) (aq bf (aq fq (pvA eI) ak) (aJ bo rfl B.len N4 (ad (pvA fT) ae))) (fun _ _=>rfl)) ak) (aq fq (pvA eI) ak)))) aQ)
  (ag (ax (i:=2) jC.nd rfl (LL rfl) (aq bf (aq fq (pvA iJ) (pvA iJ)) ak))
  (aj (aw (aq bf (aq fq (aq be (pvA iJ) (pvA eI)) (aq be (pvA iJ) ak)) ak))))))),zY h⟩
theorem wk (D:Def K mg "_law_product" cV vV f fd) (B:Blt mg):DN P w K mg base 1:=by
 refine D.ok gr (by walk_at "l") fun _ _ _ _ _ _ _ _ hr h=>?_
 exact ⟨gP K,(ag (ax (i:=1) gr.nd rfl (LL rfl) ak)
  (ag (bL Md rfl (b7 rfl B.range (ad (pvA ut) ae)) (ay (i:=2) gr.nd rfl (LL rfl)) (aj (ax (i:=1) gr.nd rfl (LL rfl) (aq fq (pvA mH) (aq be (pvA uu) ak)))))
  (aj (aw (pvA mH))))),uT h⟩
theorem yP (D:Def K mg "_law_count" dq vH f fd) (B:Blt mg) (U5:DN P w K mg base 1):DO P w K mg base 2:=by
 refine D.ok iK (by walk_at "l") fun _ _ _ _ _ _ _ _ hr h=>?_
 exact ⟨jf K,(ag (ax (i:=2) iK.nd rfl (LL rfl) (ai U5 (rmD hr) (ad (pvA ow) ae)))
  (ag (bL Md rfl (cc (aq oo (pvA ox) (cQ (aD (aq ij (pvA ow) (aJ (kt rfl) rfl B.sum SG (ad (pvA ox) ae))) ae)))) (ay (i:=3) iK.nd rfl (LL rfl)) (aj (ax (i:=2) iK.nd rfl (LL rfl) (aq bS (pvA oy) (ai U5 (rmD hr) (ad (pvA wY) ae))))))
  (aj (aw (pvA oy))))),xZ h⟩
theorem A6 (D:Def K mg "_law_pack" cE vD f fd) (B:Blt mg) (U30:nu P w K mg base 1) (U19:DO P w K mg base 2):DP P w K mg base 3:=by
 refine D.ok fB (by walk_at "l") fun _ _ _ _ _ _ _ _ hr h=>?_
 exact ⟨ke K,(ag (ax (i:=3) fB.nd rfl (LL rfl) (aq bf (ai U30 (rmD hr) (ad (pvA fU) (ad (pvA fV) ae))) ak))
  (ag (bp (aX da (aq bf (aq bS (ai U30 (rmD hr) (ad (pvA fU) (ad (pvA fV) ae))) ak) ak) ak (aW _)) (aj (ax (i:=3) fB.nd rfl (LL rfl) (aq be ak (aq bf (aq bS (ai U30 (rmD hr) (ad (pvA fU) (ad (pvA fV) ae))) ak) ak)))) aQ)
  (ag (ax (i:=4) fB.nd rfl (LL rfl) (cQ ae))
  (ag (bL Md rfl (b7 rfl B.range (aD (aq be ak (aq bf (ai U30 (rmD hr) (ad (pvA fU) (aD (aq be (pvA fV) ak) ae))) ak)) ae)) (ay (i:=5) fB.nd rfl (LL rfl)) (aj (cr (mN Nd NS NT gy (pvA bY) (aD (aq bf (ai U30 (rmD hr) (ad (pvA fU) (aD (aq be (aq be (pvA fV) ak) (pvA yA)) ae))) (aq be (aJ (xo rfl) rfl B.min boot_min (ao ak (aD (aq ij (pvA fW) (aJ (kt rfl) rfl B.sum SG (ad (pvA bY) ae))) ae))) ak)) ae)))))
  (ag (tE Md (aX mL (ai U19 (rmD hr) (ad (pvA fW) (ad (pvA bY) ae))) (pvA yz) (aW _)) (ag (bp (aX mL (aJ (qJ rfl) rfl B.max Ul (ad (pvA bY) ae)) (aq ij (pvA fW) (aJ (kt rfl) rfl B.sum SG (ad (pvA bY) ae))) (aW _)) (aj (nR (aq ij (aJ (qJ rfl) rfl B.max Ul (ad (pvA bY) ae)) ak) (qB (pvA bY) (mN Nd RF PySem.F.type_list_index Ge (pvA bY) (aV (aJ (qJ rfl) rfl B.max Ul (ad (pvA bY) ae)) ae)) lN))) aQ)
  (aj (ax (i:=3) fB.nd rfl (LL rfl) (aq ij (pvA fW) ak)))))
  (aj (aw (ba (ad (pvA fW) (ad (pvA bY) ae)))))))))),Ai h⟩
theorem qt (D:Def K mg "_law_words" dZ sn f fd) (B:Blt mg):∀ n,FnB P w K mg base (1 + n) "_law_words" sn (eF K n)
 | 0=>D.ok (k:=0) fX (fun vs H Q E h=>(p6 h).elim) (fun cdv A outer s H vs Q E hr h=>(p6 h).elim)
 | n + 1=>by
  have U21:=qt D B n
  refine D.ok (k:=1 + n) fX (by walk_at "l") fun _ _ _ _ _ _ _ _ hr h=>?_
  have hu:=hr.units0
  exact ⟨jm K n,(ag (ax (i:=1) fX.nd rfl (LL rfl) ak)
  (ag (bL Md rfl (ux (lM Aj (pvA wZ) (nW ak) nV)) (ay (i:=2) fX.nd rfl (LL rfl)) (aj (bp (PW.pt (qy (bU (aJ fN rfl B.isinstance N0 (ad (pvA h7) (ad (gK (v:=.ty "tuple") rfl B.tuple Qv rfl) ae)))) (qy (aX (JV hu) (pvA h7) (ba ae) (aW _)) (rM (bU (aJ fN rfl B.isinstance N0 (aN (bc bM (pvA h7) ak (fun _ _=>rfl)) (ad (gK (v:=.ty "str") rfl B.str boot_str rfl) ae)))))))) (aj (ax (i:=1) fX.nd rfl (LL rfl) (aq be (pvA oz) (ai U21 (hr.mono (by omega)) (ad (pvA h7) ae))))) aQ)))
  (aj (aw (pvA oz))))),yc h⟩
theorem yQ (D:Def K mg "_law_group" fC m6 f fd) (B:Blt mg):v2 P w K mg base 1:=by
 refine D.ok yB (by walk_at "l") fun _ _ _ _ _ _ _ _ hr h=>?_
 exact ⟨jl K,(aj (aw (b8 GN rfl B.tuple Qv (cf (bP (sc:=(ac fC)) (NX:=m6) (N:=["_law_hand","_law_number"]) (ix:=[none,some 0]) rfl (by walk_at "c") (b7 rfl B.range (ad (pvA w5) ae)) (by intros; exact (ay (i:=0) (show (["_law_hand","_law_number"]:List Str).Nodup by decide +kernel) rfl (LL rfl))) (by intros; exact (rO (aX da (aq bf (aq bS (pv 1) (bc bO (cQ (ao ak (ao ak (ao ak (ao ak (ao ak ae)))))) (pv 0) (fun _ _=>rfl))) ak) ak (aW _)))) (by intros; exact (pv 0))) ae)))),yb h⟩
theorem A7 (D:Def K mg "_law_pool" ci iU f fd) (B:Blt mg) (U30:nu P w K mg base 1):DQ P w K mg base 2:=by
 refine D.ok jD (by walk_at "l") fun _ _ _ _ _ _ _ _ hr h=>?_
 exact ⟨kg K,(ag (ax (i:=4) jD.nd rfl (LL rfl) (cQ (aM (ba (ao aL (aD (aq bf (ai U30 (rmD hr) (ad (pvA qe) (ad (pvA qf) ae))) (pvA qh)) ae))) ae)))
  (ag (bL Md rfl (b7 rfl B.range (aD (aq fq ak (b8 Ex rfl B.int boot_int (Bu (jN mL (pvA qg) ak (aW _)) ae))) ae)) (ay (i:=5) jD.nd rfl (LL rfl)) (ag (ax (i:=6) jD.nd rfl (LL rfl) (ai U30 (rmD hr) (ad (pvA qe) (aD (aq be (aq be (pvA qf) ak) (pvA yC)) ae))))
  (aj (cr (mN Nd NS NT gy (pvA qj) (aM (ba (ao aL (aD (aq bf (pvA qk) (aq be (pvA qh) ak)) (aD (aq bf (aq bS (pvA qk) ak) (pvA qg)) ae)))) ae))))))
  (aj (aw (pvA qj))))),Ap h⟩
theorem xi (D:Def K mg "_law_saying" bn AJ f fd) (B:Blt mg) (U30:nu P w K mg base 1) (U13:v2 P w K mg base 1) (U23:DQ P w K mg base 2) (U21:Id P w K mg base 71):DR P w K mg base 72:=by
 refine D.ok bE (by walk_at "l") fun _ _ _ _ _ _ _ _ hr h=>?_
 exact ⟨iA K,(ag (ax (i:=5) bE.nd rfl (LL rfl) (ai U23 (rmD hr) (ad (pvA jE) (ad (pvA jF) (ad (pvA wa) (ad (pvA cb) ae))))))
  (ag (bL Md rfl (b7 rfl B.range (aD (aq bf (ai U30 (rmD hr) (ad (pvA jE) (aD (aq be (pvA jF) ak) ae))) ak) ae)) (ay (i:=6) bE.nd rfl (LL rfl)) (ag (ax (i:=7) bE.nd rfl (LL rfl) (ai U30 (rmD hr) (ad (pvA jE) (aD (aq be (aq be (pvA jF) ak) (pvA wc)) ae))))
  (ag (ax (i:=8) bE.nd rfl (LL rfl) (bc bO (pvA eS) (HK Et ak) (fun _ _=>rfl)))
  (ag (ax (i:=9) bE.nd rfl (LL rfl) (bc bO (pvA eS) (aq bf (aq bS (pvA bH) ak) (aJ bo rfl B.len N4 (ad (pvA eS) ae))) (fun _ _=>rfl)))
  (ag (ax (i:=10) bE.nd rfl (LL rfl) (cQ (aM (ba (ao aL (ad (pvA bR) ae))) (aM (ba (ao aL (ad (pvA bR) (ad (pvA cI) ae)))) (aM (ba (ao aL (ad (pvA cI) (ad (pvA bR) ae)))) (aM (ba (ao aL (ad (pvA cI) ae))) ae))))))
  (ag (ax (i:=10) bE.nd rfl (LL rfl) (aq oo (pvA cW) (cQ (aM (ba (ao aL (aD (aq bf (aq bS (pvA bH) ak) (pvA cb)) (ad (pvA bR) ae)))) (aM (ba (ao aL (aD (aq bf (aq bS (pvA bH) ak) (pvA cb)) (aM (ba (ao aL (ad (pvA bR) ae))) ae)))) ae)))))
  (ag (ax (i:=10) bE.nd rfl (LL rfl) (aq oo (pvA cW) (cQ (aM (ba (ao aL (aV (ai U13 (rmD hr) (aD (aq bS (pvA bH) ak) (ad (pvA cb) ae))) (ad (pvA bR) ae)))) (aM (ba (ao aL (aV (ai U13 (rmD hr) (aD (aq bS (pvA bH) ak) (ad (pvA cb) ae))) (ad (pvA cI) ae)))) ae)))))
  (ag (ax (i:=10) bE.nd rfl (LL rfl) (aq oo (pvA cW) (cQ (aM (ba (ao aL (aV (ai U13 (rmD hr) (aD (aq bS (pvA bH) ak) (ad (pvA cb) ae))) (ad (pvA bR) ae)))) (aM (ba (ao aL (aD (aq bf (aq bS (pvA bH) ak) (pvA cb)) (ad (pvA cI) ae)))) ae)))))
  (ag (ax (i:=10) bE.nd rfl (LL rfl) (aq oo (pvA cW) (cQ (aM (ba (ao aL (ad (pvA cI) (aM (ba (ao aL (ad (pvA bR) ae))) ae)))) (aM (ba (ao aL (ad (pvA bR) (aM (ba (ao aL (aD (aq bf (aq bS (pvA bH) ak) (pvA cb)) (ad (pvA cI) ae)))) ae)))) ae)))))
  (aj (bp (aX yZ (ai U21 (rmD hr) (aN (bc bO (pvA cW) (aq bf (pvA bH) ak) (fun _ _=>rfl)) ae)) (pvA wb) (aW _)) (aj (cr (mN Nd NS NT gy (pvA eS) (aN (bc bO (pvA cW) (aq bf (pvA bH) ak) (fun _ _=>rfl)) ae)))) aQ)))))))))))
  (aj (aw (bc bO (pvA eS) (HK Et ak) (fun _ _=>rfl)))))),wH h⟩
theorem A8 (D:Def K mg "_law_deed" cj iU f fd) (B:Blt mg) (U30:nu P w K mg base 1) (U13:v2 P w K mg base 1) (U9:DR P w K mg base 72):DS P w K mg base 73:=by
 refine D.ok mI (by walk_at "l") fun _ _ _ _ _ _ _ _ hr h=>?_
 exact ⟨ki K,(ag (ax (i:=4) mI.nd rfl (LL rfl) (ai U30 (rmD hr) (ad (pvA kX) (ad (pvA kY) ae))))
  (ag (bp (PW.pt (oN (aX mL (aq bf (pvA iM) ak) ak (aW _)) (lJ (aX da (pvA ql) ak (aW _))))) (aj (aw (ba (ao aL (aV (ai U13 (rmD hr) (aD (aq bS (pvA iM) ak) (ad (pvA iL) ae))) (aV (ai U9 (rmD hr) (ad (pvA kX) (aD (aq be (pvA kY) ak) (ad (pvA ql) (ad (pvA iL) (ao ak ae)))))) ae)))))) aQ)
  (ag (oW (i:=5) mI.nd rfl rfl (sc:=(ac cj)) (NX:=rl) (N:=Ic) (ix:=[none,some 2,some 0,some 1]) rfl (by walk_at "c") (b7 rfl B.range (aD (aq bf (ai U30 (rmD hr) (ad (pvA kX) (aD (aq be (pvA kY) ak) ae))) ak) ae)) (by intros; exact (ay (i:=0) (show (Ic:List Str).Nodup by decide +kernel) rfl (LL rfl))) (by intros; exact bT) (by intros; exact (aq bf (ai U30 (rmD hr) (ad (pv 2) (aD (aq be (aq be (pv 3) ak) (pv 0)) ae))) (pv 1))))
  (aj (aw (ba (ao aL (aD (aq bf (aq bS (pvA iM) ak) (pvA iL)) (aD (aq bf (aq bS (pvA iM) ak) (aq be (pvA iL) ak)) (ad (pvA yD) ae)))))))))),Ax h⟩
theorem A9 (D:Def K mg "_law_done" gh m7 f fd) (B:Blt mg) {G:GF} (T:dw P w K mg G) (U15:Hq P w K mg base G 5) (U12:DX P w K mg base G 41):zo P w K mg base G 42:=by
 refine D.ok AY (by walk_at "l") fun _ _ _ _ _ _ _ _ hr h=>?_
 exact ⟨kj K G,(ag (bp (aX da (bc bM (pvA eJ) ak (fun _ _=>rfl)) aL (aW _)) (aj (aw (dy U12 (rmD hr) T.cl_Table (pvA qm) (aN (bc bM (pvA eJ) ak (fun _ _=>rfl)) (aN (bc bM (pvA eJ) ak (fun _ _=>rfl)) ae))))) aQ)
  (aj (aw (dy U15 (rmD hr) T.cl_Table (pvA qm) (aN (bc bM (pvA eJ) ak (fun _ _=>rfl)) (aN (bc bM (pvA eJ) ak (fun _ _=>rfl)) (aV (b8 jS rfl B.list OM (aN (bc bM (pvA eJ) ak (fun _ _=>rfl)) ae)) ae))))))),Ay h⟩
theorem yR (D:Def K mg "_law_plain" bN iU f fd) (B:Blt mg) (U30:nu P w K mg base 1):DT P w K mg base 2:=by
 refine D.ok dE (by walk_at "l") fun _ _ _ _ _ _ _ _ hr h=>?_
 exact ⟨jv K,(ag (ax (i:=4) dE.nd rfl (LL rfl) (ai U30 (rmD hr) (ad (pvA jV) (ad (pvA jW) ae))))
  (ag (ax (i:=5) dE.nd rfl (LL rfl) (ba (ao aL (aD (aq bf (pvA fD) (aq be (pvA oB) ak)) (aD (aq bf (aq bS (pvA fD) ak) (pvA oA)) ae)))))
  (ag (bL Md rfl (b7 rfl B.range (aD (aq bf (ai U30 (rmD hr) (ad (pvA jV) (aD (aq be (pvA jW) ak) ae))) ak) ae)) (ay (i:=6) dE.nd rfl (LL rfl)) (ag (ax (i:=4) dE.nd rfl (LL rfl) (ai U30 (rmD hr) (ad (pvA jV) (aD (aq be (aq be (pvA jW) ak) (pvA w6)) ae))))
  (ag (ax (i:=7) dE.nd rfl (LL rfl) (ba (ao aL (aD (aq bf (aq bS (pvA fD) ak) (aq be (pvA oB) ak)) (aD (aq bf (aq bS (pvA fD) ak) (pvA oA)) ae)))))
  (aj (ax (i:=5) dE.nd rfl (LL rfl) (bc bO (cQ (aM (ba (ao aL (ad (pvA fE) ae))) (aM (ba (ao aL (ad (pvA fE) (ad (pvA jX) ae)))) (aM (ba (ao aL (ad (pvA fE) (ad (pvA jX) ae)))) (aM (ba (ao aL (ad (pvA jX) (aM (ba (ao aL (ad (pvA fE) ae))) ae)))) ae))))) (aq bf (pvA fD) ak) (fun _ _=>rfl)))))))
  (aj (aw (pvA fE)))))),yl h⟩
theorem Ba (D:Def K mg "_law_open" bI vz f fd) (B:Blt mg) {G:GF} (T:dw P w K mg G) (U4:AL P w K mg base G 40) (U12:DX P w K mg base G 41):DU P w K mg base G 42:=by
 refine D.ok d7 (by walk_at "l") fun _ _ _ _ _ _ _ _ hr h=>?_
 have hux:=hr.units64
 exact ⟨kl K G,(ag (ax (i:=4) d7.nd rfl (LL rfl) (dy U12 (rmD hr) T.cl_Table (pvA iN) (ad (pvA yE) (ad (pvA iO) ae))))
  (ag (ax (i:=5) d7.nd rfl (LL rfl) (dy U4 (rmD hr) T.cl_Table (pvA iN) (aM (ba (ao aL (ad (pvA qo) (ad (pvA iO) ae)))) ae)))
  (ag (ax (i:=6) d7.nd rfl (LL rfl) (dy U4 (rmD hr) T.cl_Table (pvA iN) (aM (ba (ao aL (ad (pvA qo) (aM (ba (ao aL (ad (pvA iO) ae))) ae)))) ae)))
  (ag (bL Md rfl (Jv rfl B.zip (ad (pvA qp) (ad (pvA yF) (ad (pvA yG) ae)))) (fj rfl (bd (ay (i:=7) d7.nd rfl (LL rfl)) (bd (ay (i:=8) d7.nd rfl (LL rfl)) (bd (ay (i:=9) d7.nd rfl (LL rfl)) dN)))) (aj (bp (PW.pt (oN (PW.pt (qy (bU (pvA qq)) (rM (cF (bU (pvA yH)))))) (lJ (PW.pt (qy (cF (bU (pvA qq))) (rM (cF (bU (pvA yI))))))))) (aj (aw d9)) aQ)))
  (aj (aw (jN (tZ hux) (dy U4 (rmD hr) T.cl_Table (pvA iN) (ad (pvA iO) ae)) (pvA qp) (aW _)))))))),AD h⟩
theorem yS (D:Def K mg "_law_views" fF m8 f fd) (B:Blt mg) {G:GF} (T:dw P w K mg G) (U20:Hr P w K mg base G 4):DV P w K mg base G 5:=by
 refine D.ok yJ (by walk_at "l") fun _ _ _ _ _ _ _ _ hr h=>?_
 exact ⟨jw K G,(aj (aw (bP (sc:=(ac fF)) (NX:=m8) (N:=["_law_hand","_law_table"]) (ix:=[none,some 0]) rfl (by walk_at "c") (b7 rfl B.range (ad (pvA w9) ae)) (by intros; exact (ay (i:=0) (show (["_law_hand","_law_table"]:List Str).Nodup by decide +kernel) rfl (LL rfl))) (by intros; exact bT) (by intros; exact (dy U20 (rmD hr) T.cl_Table (pv 1) (ad (pv 0) ae)))))),ym h⟩
theorem xj (D:Def K mg "_law_turned" cp vB f fd) (B:Blt mg) {G:GF} (T:dw P w K mg G) (m_reversed:mg "reversed"=none) (U10:DY P w K mg base G 8) (U27:zo P w K mg base G 42):DW P w K mg base G 43:=by
 refine D.ok h8 (by walk_at "l") fun _ _ _ _ _ _ _ _ hr h=>?_
 exact ⟨iG K G,(ag (ax (i:=3) h8.nd rfl (LL rfl) (re U10 (rmD hr) T.cl_Table (pvA ny)))
  (ag (bL Md rfl (cc (aq oo (lM B9 (pvA jG) (nW (pvA nA)) nV) (lM B9 (pvA jG) nV (nW (pvA nA))))) (ay (i:=4) h8.nd rfl (LL rfl)) (aj (cr (ai U27 (rmD hr) (ad (pvA nB) (ad (pvA nC) ae))))))
  (ag (bL Md rfl (KJ rfl m_reversed (ad (pvA jG) ae)) (ay (i:=4) h8.nd rfl (LL rfl)) (aj (cr (ai U27 (rmD hr) (ad (pvA ny) (ad (pvA nC) ae))))))
  (aj (aw (pvA nB)))))),wM h⟩
theorem KL (D:Def K mg "law" dh sr f fd) (B:Blt mg) {G:GF} (T:dw P w K mg G) (U10:DY P w K mg base G 8) (U8:Hs P w K mg base G 1) (U14:FnI P w K mg base 6 G.Table g0 (dz K G)) (U4:AL P w K mg base G 40) (U30:nu P w K mg base 1) (U28:DS P w K mg base 73) (U27:zo P w K mg base G 42) (U13:v2 P w K mg base 1) (U31:DU P w K mg base G 42) (U26:DP P w K mg base 3) (U16:DT P w K mg base 2) (U7:DW P w K mg base G 43) (U22:DV P w K mg base G 5) (U37:Du P w K mg base 5):ie P w K mg base CX0 74 f fd sr (uI K):=by
 refine D.fn.ok dF (by walk_at "l") fun _ _ _ _ _ _ _ _ hr h=>?_
 have hu:=hr.units0
 have hux:=hr.units64
 exact ⟨zc K G,(ag (nR (ai U26 (rmD hr) (ad (pvA fG) (ao ak (ao ak ae)))) (fj rfl (bd (ay (i:=1) dF.nd rfl (Pp rfl)) (bd (ay (i:=2) dF.nd rfl (LL rfl)) dN))))
  (ag (bp (aX da (pvA ja) ak (aW _)) (aj (ax (i:=1) dF.nd rfl (Pp rfl) ak)) aQ)
  (ag (ax (i:=3) dF.nd rfl (LL rfl) (aJ bo rfl B.len N4 (ad (pvA xa) ae)))
  (ag (ax (i:=4) dF.nd rfl (LL rfl) (b8 (FH rfl) rfl B.tuple Qv (aV (b8 xW rfl B.range Up (ad (pvA fH) ae)) ae)))
  (ag (ax (i:=5) dF.nd rfl (LL rfl) (Am U14 (rmD hr) T.m_Table (ad (pvA ja) (ad (pvA xa) ae))))
  (ag (bL Md rfl (b7 rfl B.range (aD (aq bf (ai U30 (rmD hr) (ad (pvA fG) (ao ak ae))) ak) ae)) (ay (i:=6) dF.nd rfl (LL rfl)) (aj (cr (ai U27 (rmD hr) (ad (pvA lI) (aV (ai U28 (rmD hr) (ad (pvA fG) (aD (aq be ak (aq fq ak (pvA Jz))) (ad (pvA ja) (ad (pvA fH) ae))))) ae))))))
  (ag (ax (i:=7) dF.nd rfl (LL rfl) (ai U16 (rmD hr) (ad (pvA fG) (ao ak (ad (pvA ja) (ad (pvA fH) ae))))))
  (ag (ax (i:=8) dF.nd rfl (LL rfl) (aq bf (ai U30 (rmD hr) (ad (pvA fG) (ao ak ae))) (pvA fH)))
  (ag (ax (i:=9) dF.nd rfl (LL rfl) (dy U4 (rmD hr) T.cl_Table (pvA lI) (aM (ba (ao aL (ad (pvA su) (aV (ai U16 (rmD hr) (ad (pvA fG) (ao ak (ad (pvA ja) (ad (pvA fH) ae))))) ae)))) ae)))
  (ag (ax (i:=10) dF.nd rfl (LL rfl) (re U10 (rmD hr) T.cl_Table (pvA lI)))
  (ag (bp (cF (bU (ai U31 (rmD hr) (ad (pvA lI) (ad (pvA xc) (aN (bc bO (cQ (ad (pvA xc) (aV (ai U13 (rmD hr) (aV (ai U30 (rmD hr) (ad (pvA fG) (ao ak ae))) (ad (pvA fH) ae))) ae))) (aq bf (ai U30 (rmD hr) (ad (pvA fG) (ao ak ae))) ak) (fun _ _=>rfl)) (ad (pvA Cl) ae))))))) (aj (aw d9)) aQ)
  (ag (ax (i:=11) dF.nd rfl (LL rfl) (dy U4 (rmD hr) T.cl_Table (pvA lI) (aM (ba (ao aL (ad (pvA su) (aV (ai U16 (rmD hr) (ad (pvA fG) (ao ak (ad (pvA ja) (ad (pvA fH) ae))))) ae)))) ae)))
  (ag (bp (aX (JW hu) (bP (sc:=(ac dh)) (NX:=gk) (N:=Dq) (ix:=[none,none]) rfl (by walk_at "c") (lP aB aB rfl B.zip (ad (pvA JA) (ad (pvA HE) ae))) (by intros; exact (fj rfl (bd (ay (i:=0) (show (Dq:List Str).Nodup by decide +kernel) rfl (LL rfl)) (bd (ay (i:=1) (show (Dq:List Str).Nodup by decide +kernel) rfl (LL rfl)) dN)))) (by intros; exact (rO (PW.pt (qy (bU (pv 0)) (rM (cF (bU (pv 1)))))))) (by intros; exact (pv 0))) (cQ ae) (aW _)) (aj (aw d9)) aQ)
  (ag (oW (i:=12) dF.nd rfl rfl (sc:=(ac dh)) (NX:=gk) (N:=["_law_k","_law_cards","_law_script"]) (ix:=[none,some 1,some 0]) rfl (by walk_at "c") (b7 rfl B.range (ao ak ae)) (by intros; exact (ay (i:=0) (show (["_law_k","_law_cards","_law_script"]:List Str).Nodup by decide +kernel) rfl (LL rfl))) (by intros; exact bT) (by intros; exact (aq bf (ai U30 (rmD hr) (ad (pv 2) (aD (aq be ak (pv 0)) ae))) (pv 1))))
  (ag (ax (i:=13) dF.nd rfl (LL rfl) (cQ (aM (ba (ao aL (ad (pvA xc) (ad (pvA Cl) ae)))) (aM (ba (ao aL (aM (ba (ad (pvA su) ae)) (aV (ai U16 (rmD hr) (ad (pvA fG) (ao ak (ad (pvA ja) (ad (pvA fH) ae))))) ae)))) ae))))
  (ag (cr (mN Nd NS NT gy (pvA A0) (aM (ba (ao aL (ad (pvA su) (ad (pvA fH) (ad (pvA HF) ae))))) ae)))
  (ag (ax (i:=14) dF.nd rfl (LL rfl) (ai U7 (rmD hr) (ad (pvA AZ) (ad (pvA A0) (aD (aq bf (ai U30 (rmD hr) (ad (pvA fG) (ao ak ae))) ak) ae)))))
  (aj (aw (nQ (jN (tZ hux) (ai U22 (rmD hr) (ad (pvA HG) (ad (pvA fH) ae))) (ai U22 (rmD hr) (ad (pvA AZ) (ad (pvA fH) ae))) (aW _)) (lK (jN (tZ hux) (re U8 (rmD hr) T.cl_Table (pvA lI)) (ai U37 (rmD hr) (ad (pvA ja) (ad (pvA xa) ae))) (aW _))))))))))))))))))))))),KA h⟩
theorem yT {G:GF} (D:Al K G.Table "Table.__init__" dt g0 f fd) (B:Blt mg) (T:dw P w K mg G) (U37:Du P w K mg base 5) (U17:DE P w K mg base 2):FnI P w K mg base 6 G.Table g0 (dz K G):=by
 refine D.ok yK (by walk_at "l") fun _ _ _ _ _ _ _ _ hr h=>?_
 exact ⟨jp K G,(ag (kr (pvA cX) (ai U37 (rmD hr) (ad (pvA oC) (ad (pvA jY) ae))) rfl)
  (ag (kr (pvA cX) (pvA oC) rfl)
  (ag (kr (pvA cX) (b8 jS rfl B.list OM (ad (pvA jY) ae)) rfl)
  (ag (kr (pvA cX) (aJ bo rfl B.len N4 (ad (pvA jY) ae)) rfl)
  (ag (kr (pvA cX) (bP (sc:=(ac dt)) (NX:=g0) (N:=["hand","self"]) (ix:=[none,some 0]) rfl (by walk_at "c") (b7 rfl B.range (bm (ce (pvA cX) rfl) ae)) (by intros; exact (ay (i:=0) (show (["hand","self"]:List Str).Nodup by decide +kernel) rfl (LL rfl))) (by intros; exact bT) (by intros; exact (ai U17 (rmD hr) (bm (ce (pv 1) rfl) (ad (pv 0) ae))))) rfl)
  (aj (kr (pvA cX) (cQ ae) rfl))))))),ye T.ct h⟩
theorem xk {G:GF} (D:gC K G.Table "deals" "Table.deals" fY iH f fd) (B:Blt mg) (T:dw P w K mg G):Hs P w K mg base G 1:=by
 refine D.ok xf (by walk_at "l") fun _ _ _ _ _ _ _ _ hr h=>?_
 exact ⟨iB K G,(aj (aw (b8 jS rfl B.list OM (bm (ce (pvA we) rfl) ae)))),wI T.ct h⟩
theorem yU {G:GF} (D:gC K G.Table "view" "Table.view" fI np f fd) (B:Blt mg) (T:dw P w K mg G) (U38:wS P w K mg base 3) (U2:vZ P w K mg base 1):Hr P w K mg base G 4:=by
 refine D.ok yL (by walk_at "l") fun _ _ _ _ _ _ _ _ hr h=>?_
 exact ⟨jq K G,(ag (cr (ai U2 (rmD hr) (aV (ai U38 (rmD hr) (ad (pvA oF) (bm (ce (pvA oE) rfl) ae))) (ao aL ae))))
  (aj (aw (b8 jS rfl B.list OM (aN (bc bO (ce (pvA oE) rfl) (pvA oF) (fun _ _=>rfl)) ae))))),yg T.ct h⟩
theorem yV {G:GF} (D:gC K G.Table "word" "Table.word" d8 lA f fd) (B:Blt mg) (T:dw P w K mg G) (U11:DZ P w K mg base G 3) (U4:AL P w K mg base G 40) (U33:Dt P w K mg base 3) (U2:vZ P w K mg base 1):DX P w K mg base G 41:=by
 refine D.ok yM (by walk_at "l") fun _ _ _ _ _ _ _ _ hr h=>?_
 exact ⟨jr K G,(ag (cr (ai U2 (rmD hr) (aV (ai U33 (rmD hr) (ad (pvA oG) (bm (ce (pvA jZ) rfl) ae))) (ao aL ae))))
  (aj (aw (dy U11 (rmD hr) T.cl_Table (pvA jZ) (ad (pvA oG) (aV (dy U4 (rmD hr) T.cl_Table (pvA jZ) (ad (pvA xg) ae)) ae)))))),yi T.ct h⟩
theorem yW {G:GF} (D:gC K G.Table "show" "Table.show" cJ vF f fd) (B:Blt mg) (T:dw P w K mg G) (m_set:mg "set"=none) (U11:DZ P w K mg base G 3) (U25:DL P w K mg base 4) (U38:wS P w K mg base 3) (U18:DM P w K mg base 1) (U2:vZ P w K mg base 1):Hq P w K mg base G 5:=by
 refine D.ok qr (by walk_at "l") fun _ _ _ _ _ _ _ _ hr h=>?_
 exact ⟨js K G,(ag (cr (ai U2 (rmD hr) (aV (ai U38 (rmD hr) (ad (pvA oH) (bm (ce (pvA fJ) rfl) ae))) (ao aL ae))))
  (ag (cr (ai U2 (rmD hr) (aV (ai U38 (rmD hr) (ad (pvA xh) (aD (aq be (ce (pvA fJ) rfl) ak) ae))) (ao aL ae))))
  (ag (cr (ai U2 (rmD hr) (aV (ai U25 (rmD hr) (ad (pvA oI) (bm (ce (pvA fJ) rfl) ae))) (ao aL ae))))
  (ag (ax (i:=4) qr.nd rfl (Pp rfl) (Dl rfl B.sorted m_set (ad (pvA oI) ae)))
  (aj (aw (dy U11 (rmD hr) T.cl_Table (pvA fJ) (aM (ba (ad (pvA oH) ae)) (cf (bP (sc:=(ac cJ)) (NX:=sf) (N:=pT) (ix:=[none,some 2,some 4]) rfl (by walk_at "c") (cc (ce (pvA fJ) rfl)) (by intros; exact (ay (i:=0) (show (pT:List Str).Nodup by decide +kernel) rfl (LL rfl))) (by intros; exact bT) (by intros; exact (ai U18 (rmD hr) (ad (pv 0) (ad (pv 1) (ad (pv 2) ae)))))) ae))))))))),yj T.ct h⟩
theorem wl {G:GF} (D:gC K G.Table "truths" "Table.truths" dP nr f fd) (B:Blt mg) (T:dw P w K mg G) (U29:Dz P w K mg base 6) (U32:Ie P w K mg base 39):AL P w K mg base G 40:=by
 refine D.ok wf (by walk_at "l") fun _ _ _ _ _ _ _ _ hr h=>?_
 exact ⟨gY K G,(ag (bp (cF (bU (ai U29 (rmD hr) (bm (ce (pvA fQ) rfl) (bm (ce (pvA fQ) rfl) (ad (pvA mJ) ae)))))) (aj oO) aQ)
  (aj (aw (ai U32 (rmD hr) (bm (ce (pvA fQ) rfl) (bm (ce (pvA fQ) rfl) (ad (pvA mJ) ae))))))),vn T.ct h⟩
theorem xl {G:GF} (D:gC K G.Table "again" "Table.again" eK iH f fd) (B:Blt mg) (T:dw P w K mg G) (U14:FnI P w K mg base 6 G.Table g0 (dz K G)):DY P w K mg base G 8:=by
 refine D.ok oJ (by walk_at "l") fun _ _ _ _ _ _ _ _ hr h=>?_
 exact ⟨iE K G,(ag (ax (i:=1) oJ.nd rfl (LL rfl) (Am U14 (rmD hr) T.m_Table (bm (ce (pvA gu) rfl) (bm (ce (pvA gu) rfl) ae))))
  (ag (kr (pvA jH) (b8 jS rfl B.list OM (bm (ce (pvA gu) rfl) ae)) rfl)
  (ag (kr (pvA jH) (b8 jS rfl B.list OM (bm (ce (pvA gu) rfl) ae)) rfl)
  (aj (aw (pvA jH)))))),wL T.ct h⟩
theorem xm {G:GF} (D:gC K G.Table "learn" "Table.learn" cN vG f fd) (B:Blt mg) (T:dw P w K mg G) (U47:DF P w K mg base 2):DZ P w K mg base G 3:=by
 refine D.ok oK (by walk_at "l") fun _ _ _ _ _ _ _ _ hr h=>?_
 exact ⟨iC K G,(ag (bL Md rfl (ux (pvA nD)) (ay (i:=3) oK.nd rfl (LL rfl)) (aj (nR (ai U47 (rmD hr) (aN (bc bO (ce (pvA jI) rfl) (pvA nE) (fun _ _=>rfl)) (ad (pvA jJ) ae))) (qB (ce (pvA jI) rfl) (pvA nE) lN))))
  (ag (cr (mN Nd NS NT gy (ce (pvA jI) rfl) (aM (ba (ad (pvA nD) (ad (pvA jJ) ae))) ae)))
  (aj (aw (b8 jS rfl B.list OM (ad (pvA jJ) ae)))))),wJ T.ct h⟩
theorem Lg (B:Blt mg) {G:GF} {f1:Addr} {fd1:LX} (V86:Def K mg "is_whole" jx pV f1 fd1) {f2:Addr} {fd2:LX} (V76:Def K mg "is_within" eZ lz f2 fd2) {f3:Addr} {fd3:LX} (V90:Def K mg "is_below" hJ m9 f3 fd3) {f4:Addr} {fd4:LX} (V85:Def K mg "are_hands" dM vQ f4 fd4) {f5:Addr} {fd5:LX} (V92:Def K mg "is_pack" gG dJ f5 fd5) {f6:Addr} {fd6:LX} (V87:Def K mg "how_many" dL dJ f6 fd6) {f7:Addr} {fd7:LX} (V94:Def K mg "choices" fK vS f7 fd7) {f8:Addr} {fd8:LX} (V89:Def K mg "deals_of" eP dJ f8 fd8) {f9:Addr} {fd9:LX} (V53:Def K mg "with_one_more" bF vT f9 fd9) {f10:Addr} {fd10:LX} (V91:Def K mg "cards_of" hU ni f10 fd10) {f11:Addr} {fd11:LX} (V81:Def K mg "is_saying" cD kn f11 fd11) {f12:Addr} {fd12:LX} (V93:Def K mg "is_word" gI kn f12 fd12) {f13:Addr} {fd13:LX} (V102:Def K mg "fits" kI km f13 fd13) {f14:Addr} {fd14:LX} (V88:Def K mg "parts_of" fP vX f14 fd14) {f15:Addr} {fd15:LX} (V58:Def K mg "parts_of_all" cU vW f15 fd15) {f16:Addr} {fd16:LX} (V69:Def K mg "first_view" fA nh f16 fd16) {f17:Addr} {fd17:LX} (V99:Def K mg "split" lH nj f17 fd17) {f18:Addr} {fd18:LX} (V52:Def K mg "least_with_same" bD ["marks"] f18 fd18) {f19:Addr} {fd19:LX} (V96:Def K mg "joined" dY vU f19 fd19) {f20:Addr} {fd20:LX} (V100:Def K mg "link" jA vJ f20 fd20) {f21:Addr} {fd21:LX} (V97:Def K mg "end_of" iV vP f21 fd21) {f22:Addr} {fd22:LX} (V84:Def K mg "truths_of" bG sk f22 fd22) {f23:Addr} {fd23:LX} (V103:Def K mg "both" mD eh f23 fd23) {f24:Addr} {fd24:LX} (V95:Def K mg "either" iW eh f24 fd24) {f25:Addr} {fd25:LX} (V98:Def K mg "known" gd vO f25 fd25) {f26:Addr} {fd26:LX} (V55:Def K mg "known_to_all" cA vR f26 fd26) {f27:Addr} {fd27:LX} (V101:Def K mg "seen" mG lB f27 fd27) {f28:Addr} {fd28:LX} (V54:Def K mg "refuse_unless" eR pU f28 fd28) {f29:Addr} {fd29:LX} (V77:Def K mg "are_cards" gf ng f29 fd29) {f30:Addr} {fd30:LX} (V70:Def K mg "least_held" dn pT f30 fd30) {f31:Addr} {fd31:LX} (V82:Def K mg "_law_cell" fc vA f31 fd31) {f32:Addr} {fd32:LX} (V57:Def K mg "_law_product" cV vV f32 fd32) {f33:Addr} {fd33:LX} (V71:Def K mg "_law_count" dq vH f33 fd33) {f34:Addr} {fd34:LX} (V78:Def K mg "_law_pack" cE vD f34 fd34) {f35:Addr} {fd35:LX} (V73:Def K mg "_law_words" dZ sn f35 fd35) {f36:Addr} {fd36:LX} (V65:Def K mg "_law_group" fC m6 f36 fd36) {f37:Addr} {fd37:LX} (V75:Def K mg "_law_pool" ci iU f37 fd37) {f38:Addr} {fd38:LX} (V61:Def K mg "_law_saying" bn AJ f38 fd38) {f39:Addr} {fd39:LX} (V80:Def K mg "_law_deed" cj iU f39 fd39) {f40:Addr} {fd40:LX} (V79:Def K mg "_law_done" gh m7 f40 fd40) {f41:Addr} {fd41:LX} (V68:Def K mg "_law_plain" bN iU f41 fd41) {f42:Addr} {fd42:LX} (V83:Def K mg "_law_open" bI vz f42 fd42) {f43:Addr} {fd43:LX} (V74:Def K mg "_law_views" fF m8 f43 fd43) {f44:Addr} {fd44:LX} (V59:Def K mg "_law_turned" cp vB f44 fd44) {f45:Addr} {fd45:LX} (V104:Def K mg "law" dh sr f45 fd45) {f46:Addr} {fd46:LX} (V66:Al K G.Table "Table.__init__" dt g0 f46 fd46) {f47:Addr} {fd47:LX} (V60:gC K G.Table "deals" "Table.deals" fY iH f47 fd47) {f48:Addr} {fd48:LX} (V72:gC K G.Table "view" "Table.view" fI np f48 fd48) {f49:Addr} {fd49:LX} (V64:gC K G.Table "word" "Table.word" d8 lA f49 fd49) {f50:Addr} {fd50:LX} (V67:gC K G.Table "show" "Table.show" cJ vF f50 fd50) {f51:Addr} {fd51:LX} (V56:gC K G.Table "truths" "Table.truths" dP nr f51 fd51) {f52:Addr} {fd52:LX} (V62:gC K G.Table "again" "Table.again" eK iH f52 fd52) {f53:Addr} {fd53:LX} (V63:gC K G.Table "learn" "Table.learn" cN vG f53 fd53) (T:dw P w K mg G) {t_MOST_CARDS:Tok} (m_MOST_CARDS:mg "MOST_CARDS"=some (.int 12 t_MOST_CARDS)) {t_MOST_HANDS:Tok} (m_MOST_HANDS:mg "MOST_HANDS"=some (.int 5 t_MOST_HANDS)) {t_MOST_DEALS:Tok} (m_MOST_DEALS:mg "MOST_DEALS"=some (.int 2000 t_MOST_DEALS)) {t_MOST_WORDS:Tok} (m_MOST_WORDS:mg "MOST_WORDS"=some (.int 30 t_MOST_WORDS)) (m_set:mg "set"=none) (m_reversed:mg "reversed"=none):ie P w K mg base CX0 74 f45 fd45 sr (uI K):=by
 have U42:Hl P w K mg base 1:=Ej V94 B
 have U34:Ds P w K mg base 1:=BF V86 B
 have U24:AK P w K mg base 2:=A1 V76 B U34
 have U40:Hk P w K mg base 3:=Ei V92 B m_MOST_CARDS m_MOST_HANDS U24
 have U35:Hn P w K mg base 4:=BH V87 B U42 U40
 have U1:Ho P w K mg base 1:=uv V53 B
 have U37:Du P w K mg base 5:=BI V89 B m_MOST_DEALS U35 U1
 have U39:Dv P w K mg base 1:=BJ V91 B
 have U0:zl P w K mg base 1:=rJ V52 B
 have U17:DE P w K mg base 2:=yN V69 B U39 U0
 have U14:FnI P w K mg base 6 G.Table g0 (dz K G):=yT V66 B T U37 U17
 have U10:DY P w K mg base G 8:=xl V62 B T U14
 have U8:Hs P w K mg base G 1:=xk V60 B T
 have U33:Dt P w K mg base 3:=A2 V85 B U24
 have U38:wS P w K mg base 3:=BG V90 B U24
 have U50:DC P w K mg base 4:=JB V102 B U33 U38
 have U41:Dw P w K mg base 5:=Ek V93 B T U50
 have U36:DD P w K mg base 1:=BK V88 B T
 have U6:Dy P w K mg base 2:=wg V58 B U36
 have U29:Dz P w K mg base 6:=A3 V81 B m_MOST_WORDS U34 U41 U6
 have U51:zn P w K mg base 1:=JD V103 B
 have U43:DI P w K mg base 1:=FT V95 B
 have U45:zm P w K mg base 1:=FS V97 B
 have U48:DG P w K mg base 2:=JC V100 B U45
 have U44:DH P w K mg base 3:=FR V96 B U45 U48
 have U46:vY P w K mg base 1:=HI V98 B
 have U3:DJ P w K mg base 2:=wj V55 B U51 U46
 have U49:DK P w K mg base 2:=JE V101 B U46
 have U32:Ie P w K mg base 39:=rK V84 B U51 U39 U43 U44 U46 U3 U49 35
 have U4:AL P w K mg base G 40:=wl V56 B T U29 U32
 have U30:nu P w K mg base 1:=A5 V82 B
 have U13:v2 P w K mg base 1:=yQ V65 B
 have U23:DQ P w K mg base 2:=A7 V75 B U30
 have U21:Id P w K mg base 71:=qt V73 B 70
 have U9:DR P w K mg base 72:=xi V61 B U30 U13 U23 U21
 have U28:DS P w K mg base 73:=A8 V80 B U30 U13 U9
 have U47:DF P w K mg base 2:=HH V99 B U0
 have U11:DZ P w K mg base G 3:=xm V63 B T U47
 have U25:DL P w K mg base 4:=A4 V77 B U38
 have U18:DM P w K mg base 1:=yO V70 B
 have U2:vZ P w K mg base 1:=uw V54 B
 have U15:Hq P w K mg base G 5:=yW V67 B T m_set U11 U25 U38 U18 U2
 have U12:DX P w K mg base G 41:=yV V64 B T U11 U4 U33 U2
 have U27:zo P w K mg base G 42:=A9 V79 B T U15 U12
 have U31:DU P w K mg base G 42:=Ba V83 B T U4 U12
 have U5:DN P w K mg base 1:=wk V57 B
 have U19:DO P w K mg base 2:=yP V71 B U5
 have U26:DP P w K mg base 3:=A6 V78 B U30 U19
 have U16:DT P w K mg base 2:=yR V68 B U30
 have U7:DW P w K mg base G 43:=xj V59 B T m_reversed U10 U27
 have U20:Hr P w K mg base G 4:=yU V72 B T U38 U2
 have U22:DV P w K mg base G 5:=yS V74 B T U20
 exact KL V104 B T U10 U8 U14 U4 U30 U28 U27 U13 U31 U26 U16 U7 U22 U37
end
@[elab_as_elim] theorem ofLen1 {α:Type} {P:List α->Prop} (us:List α) (hl:us.length=1) (h:∀ a0:α,P [a0]):P us:=match us,hl with | [a0],_=>h a0
@[elab_as_elim] theorem ofLen2 {α:Type} {P:List α->Prop} (us:List α) (hl:us.length=2) (h:∀ a0 a1:α,P [a0,a1]):P us:=match us,hl with | [a0,a1],_=>h a0 a1
@[elab_as_elim] theorem ofLen3 {α:Type} {P:List α->Prop} (us:List α) (hl:us.length=3) (h:∀ a0 a1 a2:α,P [a0,a1,a2]):P us:=match us,hl with | [a0,a1,a2],_=>h a0 a1 a2
@[elab_as_elim] theorem ofLen4 {α:Type} {P:List α->Prop} (us:List α) (hl:us.length=4) (h:∀ a0 a1 a2 a3:α,P [a0,a1,a2,a3]):P us:=match us,hl with | [a0,a1,a2,a3],_=>h a0 a1 a2 a3
@[elab_as_elim] theorem ofLen5 {α:Type} {P:List α->Prop} (us:List α) (hl:us.length=5) (h:∀ a0 a1 a2 a3 a4:α,P [a0,a1,a2,a3,a4]):P us:=match us,hl with | [a0,a1,a2,a3,a4],_=>h a0 a1 a2 a3 a4
local macro_rules | `(tactic| walk_at "b1")=>`(tactic| exact fun _ _ _ _ _ _ us hl=>ofLen1 us hl fun _=>rfl)
local macro_rules | `(tactic| walk_at "b2")=>`(tactic| exact fun _ _ _ _ _ _ us hl=>ofLen2 us hl fun _ _=>rfl)
local macro_rules | `(tactic| walk_at "b3")=>`(tactic| exact fun _ _ _ _ _ _ us hl=>ofLen3 us hl fun _ _ _=>rfl)
local macro_rules | `(tactic| walk_at "b4")=>`(tactic| exact fun _ _ _ _ _ _ us hl=>ofLen4 us hl fun _ _ _ _=>rfl)
local macro_rules | `(tactic| walk_at "b5")=>`(tactic| exact fun _ _ _ _ _ _ us hl=>ofLen5 us hl fun _ _ _ _ _=>rfl)
theorem all_mk {l:W.OpenLaw} {w:World} {K:Fg} {h:Heap} {mg:Str->Option Value} {fa:Addr} (X:K.In h) (G:h.Ns Mi mg) (hfa:mg "law"=some (.ref fa))
  {t_MOST_CARDS:Tok}  {t_MOST_HANDS:Tok}  {t_MOST_DEALS:Tok}  {t_MOST_WORDS:Tok}    {aF fm1 fm2 fm3 fm4 fm5 fm6 fm7 fm8:Addr} {tk1 tk2 tk3 tk4 tk5 tk6 tk7 tk8 tu1 tu2 tu3 tu4 tu5 tu6 tu7 tu8 tu9 tu10 tu11 tu12 tu13 tu14:Tok} {epF tn1 tn2 tn3 tn4 tn5 tn6 tn7 tn8:Nat} {to1 to2 to3 to4 to5 to6 to7 to8:Option Addr} {ts1 ts2 ts3 ts4 ts5 ts6 ts7 ts8:Array (Option Value)} {aT:Addr}
  (q1:DfA K "is_whole" jx)
  (q2:DfA K "is_within" eZ)
  (q3:DfA K "is_below" hJ)
  (q4:DfA K "are_hands" dM)
  (q5:DfA K "is_pack" gG)
  (q6:DfA K "how_many" dL)
  (q7:DfA K "choices" fK)
  (q8:DfA K "deals_of" eP)
  (q9:DfA K "with_one_more" bF)
  (q10:DfA K "cards_of" hU)
  (q11:DfA K "is_saying" cD)
  (q12:DfA K "is_word" gI)
  (q13:DfA K "fits" kI)
  (q14:DfA K "parts_of" fP)
  (q15:DfA K "parts_of_all" cU)
  (q16:DfA K "first_view" fA)
  (q17:DfA K "split" lH)
  (q18:DfA K "least_with_same" bD)
  (q19:DfA K "joined" dY)
  (q20:DfA K "link" jA)
  (q21:DfA K "end_of" iV)
  (q22:DfA K "truths_of" bG)
  (q23:DfA K "both" mD)
  (q24:DfA K "either" iW)
  (q25:DfA K "known" gd)
  (q26:DfA K "known_to_all" cA)
  (q27:DfA K "seen" mG)
  (q28:DfA K "refuse_unless" eR)
  (q29:DfA K "are_cards" gf)
  (q30:DfA K "least_held" dn)
  (q31:DfA K "_law_cell" fc)
  (q32:DfA K "_law_product" cV)
  (q33:DfA K "_law_count" dq)
  (q34:DfA K "_law_pack" cE)
  (q35:DfA K "_law_words" dZ)
  (q36:DfA K "_law_group" fC)
  (q37:DfA K "_law_pool" ci)
  (q38:DfA K "_law_saying" bn)
  (q39:DfA K "_law_deed" cj)
  (q40:DfA K "_law_done" gh)
  (q41:DfA K "_law_plain" bN)
  (q42:DfA K "_law_open" bI)
  (q43:DfA K "_law_views" fF)
  (q44:DfA K "_law_turned" cp)
  (q45:DfA K "law" dh)
  (q46:MtA K aT "__init__" "Table.__init__" dt)
  (q47:MtA K aT "deals" "Table.deals" fY)
  (q48:MtA K aT "view" "Table.view" fI)
  (q49:MtA K aT "word" "Table.word" d8)
  (q50:MtA K aT "show" "Table.show" cJ)
  (q51:MtA K aT "truths" "Table.truths" dP)
  (q52:MtA K aT "again" "Table.again" eK)
  (q53:MtA K aT "learn" "Table.learn" cN)
  (y1:NU K Mi "MOST_CARDS"=some (some (.int 12 t_MOST_CARDS)))
  (y2:NU K Mi "MOST_HANDS"=some (some (.int 5 t_MOST_HANDS)))
  (y3:NU K Mi "MOST_DEALS"=some (some (.int 2000 t_MOST_DEALS)))
  (y4:NU K Mi "MOST_WORDS"=some (some (.int 30 t_MOST_WORDS)))
  (y5:NU K Mi "set"=some none)
  (y6:NU K Mi "reversed"=some none)
  (x1:NU K Mi "FORMS"=some (some (.ref aF)))
  (x2:K.lookup aF=some ⟨.type "dict",none,.dict #[⟨MP w.params "holds",.str "holds" tk1,.ref fm1⟩,⟨MP w.params "not",.str "not" tk2,.ref fm2⟩,⟨MP w.params "and",.str "and" tk3,.ref fm3⟩,⟨MP w.params "or",.str "or" tk4,.ref fm4⟩,⟨MP w.params "knows",.str "knows" tk5,.ref fm5⟩,⟨MP w.params "all",.str "all" tk6,.ref fm6⟩,⟨MP w.params "common",.str "common" tk7,.ref fm7⟩,⟨MP w.params "sees",.str "sees" tk8,.ref fm8⟩] epF,#[]⟩)
  (x3:K.lookup fm1=some ⟨.type "tuple",to1,.seq #[.str "holder" tu1,.str "card" tu2] tn1,ts1⟩)
  (x4:K.lookup fm2=some ⟨.type "tuple",to2,.seq #[.str "saying" tu3] tn2,ts2⟩)
  (x5:K.lookup fm3=some ⟨.type "tuple",to3,.seq #[.str "saying" tu4,.str "saying" tu5] tn3,ts3⟩)
  (x6:K.lookup fm4=some ⟨.type "tuple",to4,.seq #[.str "saying" tu6,.str "saying" tu7] tn4,ts4⟩)
  (x7:K.lookup fm5=some ⟨.type "tuple",to5,.seq #[.str "hand" tu8,.str "saying" tu9] tn5,ts5⟩)
  (x8:K.lookup fm6=some ⟨.type "tuple",to6,.seq #[.str "hands" tu10,.str "saying" tu11] tn6,ts6⟩)
  (x9:K.lookup fm7=some ⟨.type "tuple",to7,.seq #[.str "hands" tu12,.str "saying" tu13] tn7,ts7⟩)
  (x10:K.lookup fm8=some ⟨.type "tuple",to8,.seq #[.str "hand" tu14] tn8,ts8⟩)
  (x11:(aF == NG)=false)
  (x12:NU K Mi "Table"=some (some (.ref aT)))
  (x13:W.plainGet K aT UK=true)
  (x14:W.hasDictIn K aT=true)
  (x15:W.plainOver K aT=true)
  (x16:QI K (.ref aT) "__setattr__"=some (some (.builtin "object.__setattr__")))
  (x17:W.makesIn K aT=true)
  (x18:W.keepIn K (.ref aT)=true)
  (x19:QI K (.ref aT) "dealt"=some none)
  (x20:QI K (.ref aT) "cards"=some none)
  (x21:QI K (.ref aT) "sizes"=some none)
  (x22:QI K (.ref aT) "hands"=some none)
  (x23:QI K (.ref aT) "views"=some none)
  (x24:QI K (.ref aT) "deeds"=some none)
  (z1:NU K Mi "len"=some none) (z2:NU K Mi "range"=some none) (z3:NU K Mi "tuple"=some none) (z4:NU K Mi "list"=some none) (z5:NU K Mi "int"=some none) (z6:NU K Mi "bool"=some none) (z7:NU K Mi "str"=some none) (z8:NU K Mi "dict"=some none) (z9:NU K Mi "sum"=some none) (z10:NU K Mi "all"=some none) (z11:NU K Mi "min"=some none) (z12:NU K Mi "max"=some none) (z13:NU K Mi "sorted"=some none) (z14:NU K Mi "enumerate"=some none) (z15:NU K Mi "zip"=some none) (z16:NU K Mi "isinstance"=some none):
  ∃ fd:LX,(∀ (s:Shared) (v:Value),BindsTo s fd ⟨[v],[]⟩ [("_law_script",v)])/\∀ base:Heap,K.In base->base.Ns Mi mg->ie l.prog w K mg base CX0 74 fa fd sr (uI K):=by
 have B:Blt mg:=⟨MU X G z1,MU X G z2,MU X G z3,MU X G z4,MU X G z5,MU X G z6,MU X G z7,MU X G z8,MU X G z9,MU X G z10,MU X G z11,MU X G z12,MU X G z13,MU X G z14,MU X G z15,MU X G z16⟩
 obtain ⟨_,_,D1⟩:=q1.df (ps:=pV) X G (by walk_at "b1")
 obtain ⟨_,_,D2⟩:=q2.df (ps:=lz) X G (by walk_at "b3")
 obtain ⟨_,_,D3⟩:=q3.df (ps:=m9) X G (by walk_at "b2")
 obtain ⟨_,_,D4⟩:=q4.df (ps:=vQ) X G (by walk_at "b2")
 obtain ⟨_,_,D5⟩:=q5.df (ps:=dJ) X G (by walk_at "b2")
 obtain ⟨_,_,D6⟩:=q6.df (ps:=dJ) X G (by walk_at "b2")
 obtain ⟨_,_,D7⟩:=q7.df (ps:=vS) X G (by walk_at "b2")
 obtain ⟨_,_,D8⟩:=q8.df (ps:=dJ) X G (by walk_at "b2")
 obtain ⟨_,_,D9⟩:=q9.df (ps:=vT) X G (by walk_at "b2")
 obtain ⟨_,_,D10⟩:=q10.df (ps:=ni) X G (by walk_at "b2")
 obtain ⟨_,_,D11⟩:=q11.df (ps:=kn) X G (by walk_at "b3")
 obtain ⟨_,_,D12⟩:=q12.df (ps:=kn) X G (by walk_at "b3")
 obtain ⟨_,_,D13⟩:=q13.df (ps:=km) X G (by walk_at "b4")
 obtain ⟨_,_,D14⟩:=q14.df (ps:=vX) X G (by walk_at "b1")
 obtain ⟨_,_,D15⟩:=q15.df (ps:=vW) X G (by walk_at "b1")
 obtain ⟨_,_,D16⟩:=q16.df (ps:=nh) X G (by walk_at "b2")
 obtain ⟨_,_,D17⟩:=q17.df (ps:=nj) X G (by walk_at "b2")
 obtain ⟨_,_,D18⟩:=q18.df (ps:=["marks"]) X G (by walk_at "b1")
 obtain ⟨_,_,D19⟩:=q19.df (ps:=vU) X G (by walk_at "b2")
 obtain ⟨_,_,D20⟩:=q20.df (ps:=vJ) X G (by walk_at "b3")
 obtain ⟨_,_,D21⟩:=q21.df (ps:=vP) X G (by walk_at "b2")
 obtain ⟨_,_,D22⟩:=q22.df (ps:=sk) X G (by walk_at "b3")
 obtain ⟨_,_,D23⟩:=q23.df (ps:=eh) X G (by walk_at "b2")
 obtain ⟨_,_,D24⟩:=q24.df (ps:=eh) X G (by walk_at "b2")
 obtain ⟨_,_,D25⟩:=q25.df (ps:=vO) X G (by walk_at "b2")
 obtain ⟨_,_,D26⟩:=q26.df (ps:=vR) X G (by walk_at "b2")
 obtain ⟨_,_,D27⟩:=q27.df (ps:=lB) X G (by walk_at "b2")
 obtain ⟨_,_,D28⟩:=q28.df (ps:=pU) X G (by walk_at "b2")
 obtain ⟨_,_,D29⟩:=q29.df (ps:=ng) X G (by walk_at "b2")
 obtain ⟨_,_,D30⟩:=q30.df (ps:=pT) X G (by walk_at "b3")
 obtain ⟨_,_,D31⟩:=q31.df (ps:=vA) X G (by walk_at "b2")
 obtain ⟨_,_,D32⟩:=q32.df (ps:=vV) X G (by walk_at "b1")
 obtain ⟨_,_,D33⟩:=q33.df (ps:=vH) X G (by walk_at "b2")
 obtain ⟨_,_,D34⟩:=q34.df (ps:=vD) X G (by walk_at "b3")
 obtain ⟨_,_,D35⟩:=q35.df (ps:=sn) X G (by walk_at "b1")
 obtain ⟨_,_,D36⟩:=q36.df (ps:=m6) X G (by walk_at "b2")
 obtain ⟨_,_,D37⟩:=q37.df (ps:=iU) X G (by walk_at "b4")
 obtain ⟨_,_,D38⟩:=q38.df (ps:=AJ) X G (by walk_at "b5")
 obtain ⟨_,_,D39⟩:=q39.df (ps:=iU) X G (by walk_at "b4")
 obtain ⟨_,_,D40⟩:=q40.df (ps:=m7) X G (by walk_at "b2")
 obtain ⟨_,_,D41⟩:=q41.df (ps:=iU) X G (by walk_at "b4")
 obtain ⟨_,_,D42⟩:=q42.df (ps:=vz) X G (by walk_at "b4")
 obtain ⟨_,_,D43⟩:=q43.df (ps:=m8) X G (by walk_at "b2")
 obtain ⟨_,_,D44⟩:=q44.df (ps:=vB) X G (by walk_at "b3")
 obtain ⟨fd,D45,hb⟩:=q45.law X G (by walk_at "b1") hfa fun _ _ _ _ _ _ _ _=>.of_eq rfl
 obtain ⟨_,_,D46⟩:=q46.di (ps:=g0) x17 x18 (by walk_at "b3")
 obtain ⟨_,_,D47⟩:=q47.df (ps:=iH) (by walk_at "b1")
 obtain ⟨_,_,D48⟩:=q48.df (ps:=np) (by walk_at "b2")
 obtain ⟨_,_,D49⟩:=q49.df (ps:=lA) (by walk_at "b3")
 obtain ⟨_,_,D50⟩:=q50.df (ps:=vF) (by walk_at "b4")
 obtain ⟨_,_,D51⟩:=q51.df (ps:=nr) (by walk_at "b2")
 obtain ⟨_,_,D52⟩:=q52.df (ps:=iH) (by walk_at "b1")
 obtain ⟨_,_,D53⟩:=q53.df (ps:=vG) (by walk_at "b3")
 refine ⟨fd,hb,fun base _ _=>?_⟩
 have T:dw l.prog w K mg _:=GP (IX (aC:=0) x11 (Sk X G x1) x2 x3 x4 x5 x6 x7 x8 x9 x10) (Sk X G x12) x13 x14 x15 x16 x19 x20 x21 x22 x23 x24
 exact Lg B D1 D2 D3 D4 D5 D6 D7 D8 D9 D10 D11 D12 D13 D14 D15 D16 D17 D18 D19 D20 D21 D22 D23 D24 D25 D26 D27 D28 D29 D30 D31 D32 D33 D34 D35 D36 D37 D38 D39 D40 D41 D42 D43 D44 D45 D46 D47 D48 D49 D50 D51 D52 D53 T (Sk X G y1) (Sk X G y2) (Sk X G y3) (Sk X G y4) (MU X G y5) (MU X G y6)
end Kc_k38
local macro_rules | `(tactic| walk_at "q1")=>`(tactic| exact ⟨_,by k_is,_,_,_,_,_,_,_,_,_,by k_is,by k_is,by k_is⟩)
local macro_rules | `(tactic| walk_at "q2")=>`(tactic| exact ⟨_,by k_is,by k_is,_,_,_,_,_,_,_,_,_,by k_is,by k_is,by k_is⟩)
noncomputable def PySem.W.Fast.tw10992444415373592470 : PySem.Program := PySem.Challenge.pw_knowcards_k38_whole_open_words_are_commo
theorem PySem.W.Fast.te10992444415373592470 : PySem.Challenge.pw_knowcards_k38_whole_open_words_are_commo = PySem.W.Fast.tw10992444415373592470 := rfl
noncomputable def PySem.W.Fast.tw11710620637365526613 : PySem.Params → PySem.W.Frag := fun _ => []
theorem PySem.W.Fast.te11710620637365526613 : (fun _ => [] : PySem.Params → PySem.W.Frag) = PySem.W.Fast.tw11710620637365526613 := rfl
noncomputable def PySem.W.Fast.tw13604931827900364720 : PySem.Program := PySem.Challenge.pw_knowcards_k38_whole_open_words_are_commo
theorem PySem.W.Fast.te13604931827900364720 : PySem.Challenge.pw_knowcards_k38_whole_open_words_are_commo = PySem.W.Fast.tw13604931827900364720 := rfl
noncomputable def PySem.W.Fast.tw17175182520385729494 : PySem.Params → PySem.Obj := fun _ => default
theorem PySem.W.Fast.te17175182520385729494 : (fun _ => default : PySem.Params → PySem.Obj) = PySem.W.Fast.tw17175182520385729494 := rfl
noncomputable def PySem.W.Fast.tw3314908443275122203 : PySem.Params → PySem.Obj := fun _ => default
theorem PySem.W.Fast.te3314908443275122203 : (fun _ => default : PySem.Params → PySem.Obj) = PySem.W.Fast.tw3314908443275122203 := rfl
noncomputable def PySem.W.Fast.tw1693682927097093444 : PySem.Params → PySem.Obj := fun _ => default
theorem PySem.W.Fast.te1693682927097093444 : (fun _ => default : PySem.Params → PySem.Obj) = PySem.W.Fast.tw1693682927097093444 := rfl
noncomputable def PySem.W.Fast.tw11475736929131901323 : PySem.Params → PySem.Obj := fun _ => default
theorem PySem.W.Fast.te11475736929131901323 : (fun _ => default : PySem.Params → PySem.Obj) = PySem.W.Fast.tw11475736929131901323 := rfl
noncomputable def PySem.W.Fast.tw14685087518653412697 : PySem.Params → PySem.Obj := fun _ => default
theorem PySem.W.Fast.te14685087518653412697 : (fun _ => default : PySem.Params → PySem.Obj) = PySem.W.Fast.tw14685087518653412697 := rfl
noncomputable def PySem.W.Fast.tw6357319152399760122 : PySem.Params → PySem.Obj := fun _ => default
theorem PySem.W.Fast.te6357319152399760122 : (fun _ => default : PySem.Params → PySem.Obj) = PySem.W.Fast.tw6357319152399760122 := rfl
noncomputable def PySem.W.Fast.tw15729520828946660278 : PySem.Params → PySem.Obj := fun _ => default
theorem PySem.W.Fast.te15729520828946660278 : (fun _ => default : PySem.Params → PySem.Obj) = PySem.W.Fast.tw15729520828946660278 := rfl
noncomputable def PySem.W.Fast.tw15573332319120173047 : PySem.Params → PySem.Obj := fun _ => default
theorem PySem.W.Fast.te15573332319120173047 : (fun _ => default : PySem.Params → PySem.Obj) = PySem.W.Fast.tw15573332319120173047 := rfl
noncomputable def PySem.W.Fast.tw7374002529789010725 : PySem.Params → PySem.Obj := fun _ => default
theorem PySem.W.Fast.te7374002529789010725 : (fun _ => default : PySem.Params → PySem.Obj) = PySem.W.Fast.tw7374002529789010725 := rfl
noncomputable def PySem.W.Fast.tw8296498476890202588 : PySem.Params → PySem.Obj := fun _ => default
theorem PySem.W.Fast.te8296498476890202588 : (fun _ => default : PySem.Params → PySem.Obj) = PySem.W.Fast.tw8296498476890202588 := rfl
noncomputable def PySem.W.Fast.tw6283265247327798254 : PySem.Params → PySem.Obj := fun _ => default
theorem PySem.W.Fast.te6283265247327798254 : (fun _ => default : PySem.Params → PySem.Obj) = PySem.W.Fast.tw6283265247327798254 := rfl
noncomputable def PySem.W.Fast.tw13687462479084200784 : PySem.Params → PySem.Obj := fun _ => default
theorem PySem.W.Fast.te13687462479084200784 : (fun _ => default : PySem.Params → PySem.Obj) = PySem.W.Fast.tw13687462479084200784 := rfl
noncomputable def PySem.W.Fast.tw9101179454722991768 : PySem.Params → PySem.Obj := fun _ => default
theorem PySem.W.Fast.te9101179454722991768 : (fun _ => default : PySem.Params → PySem.Obj) = PySem.W.Fast.tw9101179454722991768 := rfl
noncomputable def PySem.W.Fast.tw7745737827480973177 : PySem.Params → PySem.Obj := fun _ => default
theorem PySem.W.Fast.te7745737827480973177 : (fun _ => default : PySem.Params → PySem.Obj) = PySem.W.Fast.tw7745737827480973177 := rfl
noncomputable def PySem.W.Fast.tw13484421462075676834 : PySem.Params → PySem.Obj := fun _ => default
theorem PySem.W.Fast.te13484421462075676834 : (fun _ => default : PySem.Params → PySem.Obj) = PySem.W.Fast.tw13484421462075676834 := rfl
open PySem PySem.W PyProof.Rows
set_option maxRecDepth 100000 in
set_option maxHeartbeats 0 in
theorem PySem.Challenge.cw_knowcards_k38_whole_open_words_are_commo_holds : PySem.Challenge.rw_knowcards_k38_whole_open_words_are_commo.Holds := by
 w_on; o_law; k_head; (case hw=>w_witness2)
 k_fill
 refine L2.Gc (l:=PySem.Challenge.rw_knowcards_k38_whole_open_words_are_commo) (k:=74) (x:="_law_script") rfl rfl ⟨rfl,by decide,by decide⟩ (fun w h Y=>PySem.W.kIn_of Y) ?F
 case F=>
  intro w mg fa h KX G hmg
  refine' Kc_k38.all_mk KX G hmg ?q1 ?q2 ?q3 ?q4 ?q5 ?q6 ?q7 ?q8 ?q9 ?q10 ?q11 ?q12 ?q13 ?q14 ?q15 ?q16 ?q17 ?q18 ?q19 ?q20 ?q21 ?q22 ?q23 ?q24 ?q25 ?q26 ?q27 ?q28 ?q29 ?q30 ?q31 ?q32 ?q33 ?q34 ?q35 ?q36 ?q37 ?q38 ?q39 ?q40 ?q41 ?q42 ?q43 ?q44 ?q45 ?q46 ?q47 ?q48 ?q49 ?q50 ?q51 ?q52 ?q53 ?y1 ?y2 ?y3 ?y4 ?y5 ?y6 ?x1 ?x2 ?x3 ?x4 ?x5 ?x6 ?x7 ?x8 ?x9 ?x10 ?x11 ?x12 ?x13 ?x14 ?x15 ?x16 ?x17 ?x18 ?x19 ?x20 ?x21 ?x22 ?x23 ?x24 ?z1 ?z2 ?z3 ?z4 ?z5 ?z6 ?z7 ?z8 ?z9 ?z10 ?z11 ?z12 ?z13 ?z14 ?z15 ?z16
  (case q1=>walk_at "q1")
  (case q2=>walk_at "q1")
  (case q3=>walk_at "q1")
  (case q4=>walk_at "q1")
  (case q5=>walk_at "q1")
  (case q6=>walk_at "q1")
  (case q7=>walk_at "q1")
  (case q8=>walk_at "q1")
  (case q9=>walk_at "q1")
  (case q10=>walk_at "q1")
  (case q11=>walk_at "q1")
  (case q12=>walk_at "q1")
  (case q13=>walk_at "q1")
  (case q14=>walk_at "q1")
  (case q15=>walk_at "q1")
  (case q16=>walk_at "q1")
  (case q17=>walk_at "q1")
  (case q18=>walk_at "q1")
  (case q19=>walk_at "q1")
  (case q20=>walk_at "q1")
  (case q21=>walk_at "q1")
  (case q22=>walk_at "q1")
  (case q23=>walk_at "q1")
  (case q24=>walk_at "q1")
  (case q25=>walk_at "q1")
  (case q26=>walk_at "q1")
  (case q27=>walk_at "q1")
  (case q28=>walk_at "q1")
  (case q29=>walk_at "q1")
  (case q30=>walk_at "q1")
  (case q31=>walk_at "q1")
  (case q32=>walk_at "q1")
  (case q33=>walk_at "q1")
  (case q34=>walk_at "q1")
  (case q35=>walk_at "q1")
  (case q36=>walk_at "q1")
  (case q37=>walk_at "q1")
  (case q38=>walk_at "q1")
  (case q39=>walk_at "q1")
  (case q40=>walk_at "q1")
  (case q41=>walk_at "q1")
  (case q42=>walk_at "q1")
  (case q43=>walk_at "q1")
  (case q44=>walk_at "q1")
  (case q45=>walk_at "q1")
  (case y1=>k_is)
  (case y2=>k_is)
  (case y3=>k_is)
  (case y4=>k_is)
  (case y5=>k_is)
  (case y6=>k_is)
  (case x1=>k_is)
  (case x2=>k_is)
  (case x3=>k_is)
  (case x4=>k_is)
  (case x5=>k_is)
  (case x6=>k_is)
  (case x7=>k_is)
  (case x8=>k_is)
  (case x9=>k_is)
  (case x10=>k_is)
  (case x11=>rfl)
  (case x12=>k_is)
  (case x13=>k_is)
  (case x14=>k_is)
  (case x15=>k_is)
  (case x16=>k_is)
  (case x17=>k_is)
  (case x18=>k_is)
  (case x19=>k_is)
  (case x20=>k_is)
  (case x21=>k_is)
  (case x22=>k_is)
  (case x23=>k_is)
  (case x24=>k_is)
  (case q46=>walk_at "q2")
  (case q47=>walk_at "q2")
  (case q48=>walk_at "q2")
  (case q49=>walk_at "q2")
  (case q50=>walk_at "q2")
  (case q51=>walk_at "q2")
  (case q52=>walk_at "q2")
  (case q53=>walk_at "q2")
  (case z1=>k_is); (case z2=>k_is); (case z3=>k_is); (case z4=>k_is); (case z5=>k_is); (case z6=>k_is); (case z7=>k_is); (case z8=>k_is); (case z9=>k_is); (case z10=>k_is); (case z11=>k_is); (case z12=>k_is); (case z13=>k_is); (case z14=>k_is); (case z15=>k_is); (case z16=>k_is)
